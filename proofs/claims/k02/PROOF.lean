import PyProof.Rows.All
import Wide.All
import OpenK.AllK
import Wide.FinOn
import KE.KSuper
import KE.KExcSuper
import HandS.Base
import HandS.Call
import HandS.Exc
import HandS.ExcInit
import HandS.ExcSuper
import HandS.Nested
import HandS.ClsMeth
import HandS.ExcOwn
import HandS.ExcIs
import HandS.ExcField
import HandS.OwnEq
import HandS.More
import HandS.MakeKw
import HandS.Style
import HandS.StrMore
import HandS.SlotsOwn
import KE.KCallOwn
import PyProof.Rows.StrRev
import HandS.HeadHook1
import HandS.HeadHook2
import HandS.ExcCtx
import HandS.HotCalls
import HandS.Words
import HandS.Hot
import HandS.Iter
import PyProof.StrLoop
import OpenK.KOps
import HandS.ListItems
import HandS.ListEq
import HandS.Conv
import KE.KDictList
import PyProof.EqKinds
import HandS.Property
import HandS.Star
import KE.KMinBuiltin
import HandS.FltList
import HandS.SortKw
import HandS.ForMost
import KE.IntTextLaws
import PyProof.MeetsSeq2
import PyProof.DictTable
import HandS.Codes
import HandS.Translate
import HandS.Defaults
import HandS.IsInst
import HandS.Wide
import HandS.WideBits
import HandS.EndBits
import HandS.HeadEnd
import HandS.Flow
import HandS.Steps
import HandS.Evl
import HandS.Walk
import HandS.Replace
import HandS.ReplaceLit
import HandS.ReplaceDef
import HandS.FStr
import HandS.WordsExc
import HandS.Head0
import HandS.Head1
import HandS.Head2
import KE.KStateDown
import HandS.HeadWalk
import PySem.Challenge.RW_hopkeep_k02_messages_written
set_option Elab.async false
set_option linter.all false
set_option maxRecDepth 100000
set_option maxHeartbeats 0
namespace ZX
open PySem PySem.Spec PyProof.Rows L2 He
abbrev FnC : Type := Option (Str × Str × Arguments × FuncBody × Scope × Addr × List Str × Addr)
def fnC (K : PySem.W.Frag) (a : Addr) : FnC := match K.lookup a with
  | some ⟨_, _, .func fd, _⟩ => some (fd.name, fd.qualname, fd.params, fd.body, fd.scope, fd.globals, fd.closure.map (·.1), fd.builtins)
  | _ => none
inductive Pl where
  | glo (x : Str)
  | met (x m : Str)
  | sta (x m : Str)
  | rcd (T : String) (x m : Str)
def Pl.ad (K : PySem.W.Frag) : Pl → Addr
  | .glo x => ga K x
  | .met x m => ma K (ga K x) m
  | .sta x m => match PySem.W.recIn K (ma K (ga K x) m) "staticmethod" with
    | some (.ref g :: _) => g
    | _ => 0
  | .rcd T x m => match PySem.W.recIn K (ma K (ga K x) m) T with
    | some (.ref g :: _) => g
    | _ => 0
structure DefA where
  at_ : Pl
  name : Str
  qual : Str
  params : Arguments
  body : List Stmt
  scope : Scope
  dfl : List Dv
  clo : List Str
def DefA.val (d : DefA) : FnC := some (d.name, d.qual, d.params, .stmts d.body, d.scope, mainGlobals, d.clo, builtinsNs)
def DefA.dvs (K : PySem.W.Frag) (d : DefA) : List V := d.dfl.map (Dv.v K)
def DefA.ok (K : PySem.W.Frag) (d : DefA) : Bool := PySem.W.keepIn K (.ref (d.at_.ad K)) && (match K.lookup (d.at_.ad K) with
  | some ⟨_, _, .func fd, _⟩ => PySem.W.codeIn K fd.code d.qual && dflB K fd.defaults (d.dvs K)
  | _ => false)
def ccOf (K : PySem.W.Frag) (a : Addr) : Addr := match K.lookup a with
  | some ⟨_, _, .func fd, _⟩ => (match fd.closure with
    | [(_, c)] => c
    | _ => 0)
  | _ => 0
def cdOf (K : PySem.W.Frag) (a : Addr) : Addr := match K.lookup a with
  | some ⟨_, _, .func fd, _⟩ => (match fd.code with
    | .ref c => c
    | _ => 0)
  | _ => 0
def oexClsB (K : PySem.W.Frag) (C : Addr) : Bool := match K.lookup C with
  | some ⟨.type "type", _, .cls cd, sl⟩ => (match cd.mro, sl.toList with
    | .ref C' :: bm, [_, _, _, _, some (.builtin n), _] => C' == C && n == "ValueError.__new__" && !cd.hasDel && cd.hasDict && HandSPX.refsVE bm
    | _, _ => false)
  | _ => false
def errB (K : PySem.W.Frag) (fl : Str) (x : Str) : Bool :=
  oexClsB K (ga K x) && (eqO (PySem.W.findIn K (.ref (ga K x)) "__setattr__") (some (some (.builtin "object.__setattr__"))) && (decide (PySem.W.subIn K (.ref (ga K x)) (.type "BaseException") = some true) && (decide (PySem.W.typeIn K (.ref (ga K x)) = some (.type "type")) && (PySem.W.keepIn K (.ref (ga K x)) &&
  (decide (PySem.W.subIn K (.ref (ga K x)) (.type "ValueError") = some true) && (decide (PySem.W.mroIn K (ga K x) (.ref (ga K x)) = some true) && (decide (PySem.W.ks_superIn K (ga K x) (ga K x) "__init__" = some (some (.builtin "ValueError.__init__"))) &&
  (eqO (PySem.W.findIn K (.ref (ga K x)) "__init__") (some (some (.ref (ma K (ga K x) "__init__")))) && (decide (PySem.W.typeIn K (.ref (ma K (ga K x) "__init__")) = some (.type "function")) &&
  ((match K.lookup (ccOf K (ma K (ga K x) "__init__")) with
    | some ⟨_, _, .cell (some v), _⟩ => decide (v = .ref (ga K x))
    | _ => false) && (match K.lookup (cdOf K (ma K (ga K x) "__init__")) with
    | some ⟨_, _, .fields vs, _⟩ => (match (vs[2]? : Option Value) with
      | some (Value.str f _) => decide (fl = f)
      | _ => false)
    | _ => false)))))))))))
def excCB (K : PySem.W.Frag) (D : Addr) : Bool := eqO (PySem.W.findIn K (.ref D) "__getattribute__") (some (some (.builtin "BaseException.__getattribute__"))) && (eqO (PySem.W.findIn K (.ref D) "__getattr__") (some none) && (decide (PySem.W.subIn K (.ref D) (.type "BaseException") = some true) && (PySem.W.hasDictIn K D &&
  (eqO (PySem.W.findIn K (.ref D) "__class__") (some (some (.builtin "object.__class__"))) && (eqO (PySem.W.specialIn K (.builtin "object.__class__") "__get__") (some (some (.builtin "getset_descriptor.__get__"))) && (decide (PySem.W.takesIn K (.builtin "object.__class__") = some true) && decide (PySem.W.mroIn K D (.type "object") = some true)))))))
def insCB (K : PySem.W.Frag) (D : Addr) : Bool := eqO (PySem.W.findIn K (.ref D) "__class__") (some (some (.builtin "object.__class__"))) && (eqO (PySem.W.specialIn K (.builtin "object.__class__") "__get__") (some (some (.builtin "getset_descriptor.__get__"))) && (decide (PySem.W.takesIn K (.builtin "object.__class__") = some true) && decide (PySem.W.mroIn K D (.type "object") = some true)))
def statB (K : PySem.W.Frag) (x m : Str) : Bool := PySem.W.readsIn K (ga K x) (.type "type") && (eqO (PySem.W.specialIn K (.ref (ga K x)) "__getattribute__") (some (some (.builtin "type.__getattribute__"))) &&
  ((match PySem.W.findCls K (.ref (ga K x)) (.type "type") m with
    | some (.get (.builtin n) (.ref p) .none (.ref C)) => decide (n = "staticmethod.__get__") && (decide (p = ma K (ga K x) m) && decide (C = ga K x))
    | _ => false) && ((match PySem.W.recIn K (ma K (ga K x) m) "staticmethod" with
    | some (.ref g :: _) => decide (g = (Pl.sta x m).ad K)
    | _ => false) && PySem.W.keepIn K (.ref ((Pl.sta x m).ad K)))))
def asS (g : Addr → Option Obj) : Nat → List Addr
  | 0 => [mainGlobals, cStatics]
  | n + 1 => growD g (asS g n)
abbrev AlA : Type := Bool × List FnC
def obsA (fa : List Fa) (ex : PySem.W.Frag → Bool) (fn : List DefA) (K : PySem.W.Frag) : AlA := ((fa.all fun f => f.ok K) && (ex K && fn.all fun d => d.ok K), fn.map fun d => fnC K (d.at_.ad K))
def valA (fn : List DefA) : AlA := (true, fn.map DefA.val)
def SaysA (fa : List Fa) (ex : PySem.W.Frag → Bool) (fn : List DefA) (K : PySem.W.Frag) : Prop := obsA fa ex fn K = valA fn
def obsAG (n : Nat) (fa : List Fa) (ex : PySem.W.Frag → Bool) (fn : List DefA) (g : Addr → Option Obj) : AlA := obsA fa ex fn (frG g (asS g n))
def hookA (n : Nat) (fa : List Fa) (ex : PySem.W.Frag → Bool) (fn : List DefA) : PySem.W.Hook where
  α := AlA
  obs := fun s => obsAG n fa ex fn s.heap.get?
  val := fun _ => valA fn
  says := fun _ h => ∃ K : PySem.W.Frag, K.In h ∧ SaysA fa ex fn K
  of := fun _ _ e => ⟨_, frG_in, e⟩
  keeps := fun _ _ _ ⟨K, hK, c⟩ k => ⟨K, PySem.W.Frag.In.keeps hK k, c⟩
theorem obsAG_eq {n : Nat} {fa : List Fa} {ex : PySem.W.Frag → Bool} {fn : List DefA} {g : Addr → Option Obj} {s : Shared} (h : ∀ a, g a = s.heap.get? a) : obsAG n fa ex fn g = (hookA n fa ex fn).obs s := by
  have e : g = s.heap.get? := funext h
  rw [e] <;> rfl
def readB (K : PySem.W.Frag) (x : Str) : Bool := PySem.W.readsIn K (ga K x) (.type "type") && eqO (PySem.W.specialIn K (.ref (ga K x)) "__getattribute__") (some (some (.builtin "type.__getattribute__")))
def cfnB (K : PySem.W.Frag) (x m : Str) : Bool := readB K x && ((match PySem.W.findCls K (.ref (ga K x)) (.type "type") m with
    | some (.val (.ref g)) => decide (g = ma K (ga K x) m)
    | _ => false) && PySem.W.keepIn K (.ref (ma K (ga K x) m)))
def cintB (K : PySem.W.Frag) (x m : Str) (n : Int) : Bool := match PySem.W.findCls K (.ref (ga K x)) (.type "type") m with
    | some (.val (.int i _)) => decide (i = n)
    | _ => false
def ctOf (K : PySem.W.Frag) (x m : Str) : Addr := match PySem.W.findCls K (.ref (ga K x)) (.type "type") m with
    | some (.val (.ref p)) => p
    | _ => 0
def strVs : List Value → List Str → Bool
  | [], [] => true
  | .str z _ :: vs, y :: ys => decide (z = y) && strVs vs ys
  | _, _ => false
def ctupB (K : PySem.W.Frag) (x m : Str) (zs : List Str) : Bool := (match PySem.W.findCls K (.ref (ga K x)) (.type "type") m with
    | some (.val (.ref p)) => decide (p = ctOf K x m)
    | _ => false) && (match K.lookup (ctOf K x m) with
    | some ⟨.type t, _, .seq its _, _⟩ => decide (t = "tuple") && (decide (its.size ≤ 100) && strVs its.toList zs)
    | _ => false)
def cmetB (K : PySem.W.Frag) (x m : Str) : Bool := (match PySem.W.findCls K (.ref (ga K x)) (.type "type") m with
    | some (.get (.builtin n) (.ref p) .none (.ref C)) => decide (n = "classmethod.__get__") && (decide (p = ma K (ga K x) m) && decide (C = ga K x))
    | _ => false) && ((match PySem.W.recIn K (ma K (ga K x) m) "classmethod" with
    | some (.ref g :: _) => decide (g = (Pl.rcd "classmethod" x m).ad K)
    | _ => false) && PySem.W.fnIn K ((Pl.rcd "classmethod" x m).ad K))
def propB (K : PySem.W.Frag) (x m : Str) : Bool := eqO (PySem.W.findIn K (.ref (ga K x)) m) (some (some (.ref (ma K (ga K x) m)))) && (eqO (PySem.W.specialIn K (.ref (ma K (ga K x) m)) "__get__") (some (some (.builtin "property.__get__"))) &&
  (decide (PySem.W.takesIn K (.ref (ma K (ga K x) m)) = some true) && (match PySem.W.recIn K (ma K (ga K x) m) "property" with
    | some (.ref g :: _) => decide (g = (Pl.rcd "property" x m).ad K)
    | _ => false)))
def kwOf (K : PySem.W.Frag) (a : Addr) : Value := match K.lookup a with
  | some ⟨_, _, .func fd, _⟩ => fd.kwdefaults
  | _ => .none
def frontOf (g : Addr → Option Obj) (as : List Addr) : List Addr :=
  (mainGlobals :: cStatics :: as.filterMap fun a => match g a with
    | some o => (match o.data with | .cls _ => some a | _ => none)
    | none => none) ++ ((as.filterMap fun a => match g a with
    | some o => (match o.data with | .cls cd => some cd.ns | _ => none)
    | none => none) ++ as.flatMap fun a => match g a with
    | some o => (match o.data with
      | .func fd => (match fd.code with | .ref c => [a, c] | _ => [a])
      | _ => [])
    | none => [])
def asQ (g : Addr → Option Obj) (n : Nat) : List Addr := frontOf g (asS g n) ++ asS g n
def obsBG (n : Nat) (fa : List Fa) (ex : PySem.W.Frag → Bool) (fn : List DefA) (g : Addr → Option Obj) : AlA := obsA fa ex fn (frG g (asQ g n))
def hookB (n : Nat) (fa : List Fa) (ex : PySem.W.Frag → Bool) (fn : List DefA) : PySem.W.Hook where
  α := AlA
  obs := fun s => obsBG n fa ex fn s.heap.get?
  val := fun _ => valA fn
  says := fun _ h => ∃ K : PySem.W.Frag, K.In h ∧ SaysA fa ex fn K
  of := fun _ _ e => ⟨_, frG_in, e⟩
  keeps := fun _ _ _ ⟨K, hK, c⟩ k => ⟨K, PySem.W.Frag.In.keeps hK k, c⟩
theorem obsBG_eq {n : Nat} {fa : List Fa} {ex : PySem.W.Frag → Bool} {fn : List DefA} {g : Addr → Option Obj} {s : Shared} (h : ∀ a, g a = s.heap.get? a) : obsBG n fa ex fn g = (hookB n fa ex fn).obs s := by
  have e : g = s.heap.get? := funext h
  rw [e] <;> rfl
def hookU : PySem.W.Hook where
  α := Unit
  obs := fun _ => ()
  val := fun _ => ()
  says := fun _ _ => True
  of := fun _ _ _ => trivial
  keeps := fun _ _ _ _ _ => trivial
def obU (s : PySem.W.SharedT) : Unit := ()
def obF (n : Nat) (fa : List Fa) (ex : PySem.W.Frag → Bool) (fn : List DefA) (s : PySem.W.SharedT) : Bool := (obsBG n fa ex fn (HandSHeadRun.getT s)).1
def obD (n : Nat) (fa : List Fa) (ex : PySem.W.Frag → Bool) (fn : List DefA) (s : PySem.W.SharedT) : List FnC := (obsBG n fa ex fn (HandSHeadRun.getT s)).2
def RunLooks (r : PySem.W.OpenRow) (M : Nat) (w : World) {β : Type} (f : PySem.W.SharedT → β) (v : β) : Prop := ∀ o : PySem.OsState, (HandSHeadRun.endF (HandSHeadRun.stepQ (HandSHeadRun.denQ HandSHeadRun.tabQ) r.prog w) M r.prog w o).map f = some v
theorem look_three {S A B C D : Type} {x : Option S} {f : S → A} {g : S → B} {c : S → C} {d : S → D} {t : S → Unit} {u : A} {v : B} {i : C} {j : D} (h0 : x.map (fun s => (f s, g s, t s)) = some (u, v, ())) (h1 : x.map c = some i) (h2 : x.map d = some j) : x.map (fun s => (f s, g s, (c s, d s))) = some (u, v, (i, j)) := by
  cases x with
  | none => cases h1
  | some s =>
    have e0 := Option.some.inj h0
    have a1 : f s = u := congrArg (fun z => z.1) e0
    have a2 : g s = v := congrArg (fun z => z.2.1) e0
    have a3 : c s = i := Option.some.inj h1
    have a4 : d s = j := Option.some.inj h2
    show some (f s, g s, (c s, d s)) = _
    rw [a1, a2, a3, a4]
theorem run_three {r : PySem.W.OpenRow} {q : Program} {M n : Nat} {loose : List PySem.Str} {w : World} {fa : List Fa} {ex : PySem.W.Frag → Bool} {fn : List DefA} (h0 : HandSHeadRun.RunEq r q hookU obU M loose w) (h1 : RunLooks r M w (obF n fa ex fn) true) (h2 : RunLooks r M w (obD n fa ex fn) (fn.map DefA.val)) :
    HandSHeadRun.RunEq r q (hookB n fa ex fn) (fun s => obsBG n fa ex fn (HandSHeadRun.getT s)) M loose w := fun o => look_three (h0 o) (h1 o) (h2 o)
end ZX
set_option maxHeartbeats 0
namespace Z
open PySem PySem.Spec PyProof.Rows L2
def top (i : Nat) : Stmt := PySem.Challenge.pw_hopkeep_k02_messages_written.main.body.getD i (.Pass ⟨0, 0, 0, 0⟩)
def cbody : Stmt → List Stmt
  | .ClassDef _ _ _ b _ _ _ _ _ _ _ => b
  | _ => []
def inC (i j : Nat) : Stmt := (cbody (top i)).getD j (.Pass ⟨0, 0, 0, 0⟩)
abbrev s_wall : Stmt := top 0
abbrev s_consists_of : Stmt := top 14
abbrev s_is_plain : Stmt := top 15
abbrev s_is_plain_lines : Stmt := top 16
abbrev s_is_path : Stmt := top 17
abbrev s_is_word : Stmt := top 18
abbrev s_is_field_name : Stmt := top 19
abbrev s_is_value : Stmt := top 20
abbrev s_are_fields : Stmt := top 25
abbrev s_is_body : Stmt := top 26
abbrev s_write_message : Stmt := top 28
abbrev s_is_framing : Stmt := top 29
abbrev s_write_chunked : Stmt := top 30
abbrev s_field_lines : Stmt := top 31
abbrev s_chunk_texts : Stmt := top 32
abbrev s_law_bag : Stmt := top 34
abbrev s_law_draw : Stmt := top 35
abbrev s_law_pick : Stmt := top 36
abbrev s_law_most : Stmt := top 37
abbrev s_law_word : Stmt := top 38
abbrev s_law_letters : Stmt := top 39
abbrev s_law_signs : Stmt := top 40
abbrev s_law_statuses : Stmt := top 41
abbrev s_law_may : Stmt := top 42
abbrev s_law_name : Stmt := top 43
abbrev s_law_value : Stmt := top 44
abbrev s_law_names : Stmt := top 45
abbrev s_law_body : Stmt := top 46
abbrev s_law_row : Stmt := top 47
abbrev s_law_made : Stmt := top 48
abbrev s_law_chunk_lines : Stmt := top 49
abbrev s_law_form : Stmt := top 50
abbrev s_law_sizes : Stmt := top 51
abbrev s_law_options : Stmt := top 52
abbrev s_law_told : Stmt := top 53
abbrev s_law_right : Stmt := top 54
abbrev s_law : Stmt := top 55
abbrev s_Mi : Stmt := inC 22 2
abbrev s_Rs : Stmt := inC 24 1
abbrev s_Ri : Stmt := inC 23 1
abbrev s_Pm : Stmt := inC 22 9
abbrev s_Ps : Stmt := inC 22 10
abbrev s_ifr : Stmt := inC 5 0
abbrev kwW : List (Str × V) := [("chunks", .non), ("trailer", .int 0), ("open_end", .bl false)]
def stL : List Str := ["ok", "part", "same", "done", "missing", "failed", "norange", "unkept", "error"]
def mdL : List Str := ["get", "put", "delete"]
def d_if : ZX.DefA := ⟨.met "InvalidFraming" "__init__", "__init__", "InvalidFraming.__init__", L2.defArgs s_ifr, L2.defBody s_ifr, L2.defScope s_ifr, [], ["__class__"]⟩
/-! ### the head: facts by names, the run -/
def d_wall : ZX.DefA := ⟨.glo "_wall", "_wall", "_wall", L2.defArgs s_wall, L2.defBody s_wall, L2.defScope s_wall, [], []⟩
def d_consists_of : ZX.DefA := ⟨.glo "consists_of", "consists_of", "consists_of", L2.defArgs s_consists_of, L2.defBody s_consists_of, L2.defScope s_consists_of, [], []⟩
def d_is_plain : ZX.DefA := ⟨.glo "is_plain", "is_plain", "is_plain", L2.defArgs s_is_plain, L2.defBody s_is_plain, L2.defScope s_is_plain, [], []⟩
def d_is_plain_lines : ZX.DefA := ⟨.glo "is_plain_lines", "is_plain_lines", "is_plain_lines", L2.defArgs s_is_plain_lines, L2.defBody s_is_plain_lines, L2.defScope s_is_plain_lines, [], []⟩
def d_is_path : ZX.DefA := ⟨.glo "is_path", "is_path", "is_path", L2.defArgs s_is_path, L2.defBody s_is_path, L2.defScope s_is_path, [], []⟩
def d_is_word : ZX.DefA := ⟨.glo "is_word", "is_word", "is_word", L2.defArgs s_is_word, L2.defBody s_is_word, L2.defScope s_is_word, [], []⟩
def d_is_field_name : ZX.DefA := ⟨.glo "is_field_name", "is_field_name", "is_field_name", L2.defArgs s_is_field_name, L2.defBody s_is_field_name, L2.defScope s_is_field_name, [], []⟩
def d_is_value : ZX.DefA := ⟨.glo "is_value", "is_value", "is_value", L2.defArgs s_is_value, L2.defBody s_is_value, L2.defScope s_is_value, [], []⟩
def d_are_fields : ZX.DefA := ⟨.glo "are_fields", "are_fields", "are_fields", L2.defArgs s_are_fields, L2.defBody s_are_fields, L2.defScope s_are_fields, [], []⟩
def d_is_body : ZX.DefA := ⟨.glo "is_body", "is_body", "is_body", L2.defArgs s_is_body, L2.defBody s_is_body, L2.defScope s_is_body, [], []⟩
def d_write_message : ZX.DefA := ⟨.glo "write_message", "write_message", "write_message", L2.defArgs s_write_message, L2.defBody s_write_message, L2.defScope s_write_message, [], []⟩
def d_is_framing : ZX.DefA := ⟨.glo "is_framing", "is_framing", "is_framing", L2.defArgs s_is_framing, L2.defBody s_is_framing, L2.defScope s_is_framing, [], []⟩
def d_write_chunked : ZX.DefA := ⟨.glo "write_chunked", "write_chunked", "write_chunked", L2.defArgs s_write_chunked, L2.defBody s_write_chunked, L2.defScope s_write_chunked, [], []⟩
def d_field_lines : ZX.DefA := ⟨.glo "field_lines", "field_lines", "field_lines", L2.defArgs s_field_lines, L2.defBody s_field_lines, L2.defScope s_field_lines, [], []⟩
def d_chunk_texts : ZX.DefA := ⟨.glo "chunk_texts", "chunk_texts", "chunk_texts", L2.defArgs s_chunk_texts, L2.defBody s_chunk_texts, L2.defScope s_chunk_texts, [], []⟩
def d_law_bag : ZX.DefA := ⟨.glo "_law_bag", "_law_bag", "_law_bag", L2.defArgs s_law_bag, L2.defBody s_law_bag, L2.defScope s_law_bag, [], []⟩
def d_law_draw : ZX.DefA := ⟨.glo "_law_draw", "_law_draw", "_law_draw", L2.defArgs s_law_draw, L2.defBody s_law_draw, L2.defScope s_law_draw, [], []⟩
def d_law_pick : ZX.DefA := ⟨.glo "_law_pick", "_law_pick", "_law_pick", L2.defArgs s_law_pick, L2.defBody s_law_pick, L2.defScope s_law_pick, [], []⟩
def d_law_most : ZX.DefA := ⟨.glo "_law_most", "_law_most", "_law_most", L2.defArgs s_law_most, L2.defBody s_law_most, L2.defScope s_law_most, [], []⟩
def d_law_word : ZX.DefA := ⟨.glo "_law_word", "_law_word", "_law_word", L2.defArgs s_law_word, L2.defBody s_law_word, L2.defScope s_law_word, [], []⟩
def d_law_letters : ZX.DefA := ⟨.glo "_law_letters", "_law_letters", "_law_letters", L2.defArgs s_law_letters, L2.defBody s_law_letters, L2.defScope s_law_letters, [], []⟩
def d_law_signs : ZX.DefA := ⟨.glo "_law_signs", "_law_signs", "_law_signs", L2.defArgs s_law_signs, L2.defBody s_law_signs, L2.defScope s_law_signs, [], []⟩
def d_law_statuses : ZX.DefA := ⟨.glo "_law_statuses", "_law_statuses", "_law_statuses", L2.defArgs s_law_statuses, L2.defBody s_law_statuses, L2.defScope s_law_statuses, [], []⟩
def d_law_may : ZX.DefA := ⟨.glo "_law_may", "_law_may", "_law_may", L2.defArgs s_law_may, L2.defBody s_law_may, L2.defScope s_law_may, [], []⟩
def d_law_name : ZX.DefA := ⟨.glo "_law_name", "_law_name", "_law_name", L2.defArgs s_law_name, L2.defBody s_law_name, L2.defScope s_law_name, [], []⟩
def d_law_value : ZX.DefA := ⟨.glo "_law_value", "_law_value", "_law_value", L2.defArgs s_law_value, L2.defBody s_law_value, L2.defScope s_law_value, [], []⟩
def d_law_names : ZX.DefA := ⟨.glo "_law_names", "_law_names", "_law_names", L2.defArgs s_law_names, L2.defBody s_law_names, L2.defScope s_law_names, [], []⟩
def d_law_body : ZX.DefA := ⟨.glo "_law_body", "_law_body", "_law_body", L2.defArgs s_law_body, L2.defBody s_law_body, L2.defScope s_law_body, [], []⟩
def d_law_row : ZX.DefA := ⟨.glo "_law_row", "_law_row", "_law_row", L2.defArgs s_law_row, L2.defBody s_law_row, L2.defScope s_law_row, [], []⟩
def d_law_made : ZX.DefA := ⟨.glo "_law_made", "_law_made", "_law_made", L2.defArgs s_law_made, L2.defBody s_law_made, L2.defScope s_law_made, [], []⟩
def d_law_chunk_lines : ZX.DefA := ⟨.glo "_law_chunk_lines", "_law_chunk_lines", "_law_chunk_lines", L2.defArgs s_law_chunk_lines, L2.defBody s_law_chunk_lines, L2.defScope s_law_chunk_lines, [], []⟩
def d_law_form : ZX.DefA := ⟨.glo "_law_form", "_law_form", "_law_form", L2.defArgs s_law_form, L2.defBody s_law_form, L2.defScope s_law_form, [], []⟩
def d_law_sizes : ZX.DefA := ⟨.glo "_law_sizes", "_law_sizes", "_law_sizes", L2.defArgs s_law_sizes, L2.defBody s_law_sizes, L2.defScope s_law_sizes, [], []⟩
def d_law_options : ZX.DefA := ⟨.glo "_law_options", "_law_options", "_law_options", L2.defArgs s_law_options, L2.defBody s_law_options, L2.defScope s_law_options, [], []⟩
def d_law_told : ZX.DefA := ⟨.glo "_law_told", "_law_told", "_law_told", L2.defArgs s_law_told, L2.defBody s_law_told, L2.defScope s_law_told, [], []⟩
def d_law_right : ZX.DefA := ⟨.glo "_law_right", "_law_right", "_law_right", L2.defArgs s_law_right, L2.defBody s_law_right, L2.defScope s_law_right, [], []⟩
def d_law : ZX.DefA := ⟨.glo "law", "law", "law", L2.defArgs s_law, L2.defBody s_law, L2.defScope s_law, [], []⟩
def d_Mi : ZX.DefA := ⟨.met "Message" "__init__", "__init__", "Message.__init__", L2.defArgs s_Mi, L2.defBody s_Mi, L2.defScope s_Mi, [], []⟩
def d_Qs : ZX.DefA := ⟨.rcd "property" "Request" "start", "start", "Message.start", L2.defArgs s_Ps, L2.defBody s_Ps, L2.defScope s_Ps, [], []⟩
def d_Ss : ZX.DefA := ⟨.rcd "property" "Response" "start", "start", "Message.start", L2.defArgs s_Ps, L2.defBody s_Ps, L2.defScope s_Ps, [], []⟩
def d_Qm : ZX.DefA := ⟨.rcd "property" "Request" "may_have_body", "may_have_body", "Message.may_have_body", L2.defArgs s_Pm, L2.defBody s_Pm, L2.defScope s_Pm, [], []⟩
def d_Sm : ZX.DefA := ⟨.rcd "property" "Response" "may_have_body", "may_have_body", "Message.may_have_body", L2.defArgs s_Pm, L2.defBody s_Pm, L2.defScope s_Pm, [], []⟩
def d_Rs : ZX.DefA := ⟨.met "Response" "__init__", "__init__", "Response.__init__", L2.defArgs s_Rs, L2.defBody s_Rs, L2.defScope s_Rs, [.adr (He.dflAt ("Response", some "__init__") 0), .str ""], []⟩
def d_Rq : ZX.DefA := ⟨.met "Request" "__init__", "__init__", "Request.__init__", L2.defArgs s_Ri, L2.defBody s_Ri, L2.defScope s_Ri, [.adr (He.dflAt ("Request", some "__init__") 0), .str ""], []⟩
def fns : List ZX.DefA := [d_wall, d_consists_of, d_is_plain, d_is_plain_lines, d_is_path, d_is_word, d_is_field_name, d_is_value, d_are_fields, d_is_body, d_write_message, d_is_framing, d_write_chunked, d_field_lines, d_chunk_texts, d_law_bag, d_law_draw, d_law_pick, d_law_most, d_law_word, d_law_letters, d_law_signs, d_law_statuses, d_law_may, d_law_name, d_law_value, d_law_names, d_law_body, d_law_row, d_law_made, d_law_chunk_lines, d_law_form, d_law_sizes, d_law_options, d_law_told, d_law_right, d_law, d_if, d_Mi, d_Qs, d_Ss, d_Qm, d_Sm, d_Rs, d_Rq]
def fas : List He.Fa := [.glo "_wall", .glo "consists_of", .glo "is_plain", .glo "is_plain_lines", .glo "is_path", .glo "is_word", .glo "is_field_name", .glo "is_value", .glo "are_fields", .glo "is_body", .glo "write_message", .glo "is_framing", .glo "write_chunked", .glo "field_lines", .glo "chunk_texts", .glo "_law_bag", .glo "_law_draw", .glo "_law_pick", .glo "_law_most", .glo "_law_word", .glo "_law_letters", .glo "_law_signs", .glo "_law_statuses", .glo "_law_may", .glo "_law_name", .glo "_law_value", .glo "_law_names", .glo "_law_body", .glo "_law_row", .glo "_law_made", .glo "_law_chunk_lines", .glo "_law_form", .glo "_law_sizes", .glo "_law_options", .glo "_law_told", .glo "_law_right", .glo "law", .glo "Message", .glo "Response", .glo "Request", .glo "InvalidFraming", .glo "HopError", .glo "InvalidMessage", .glo "InvalidValue", .glo "ReaderClosed", .free "len", .free "all", .free "any", .free "abs", .free "sum", .free "isinstance", .free "range", .free "int", .free "bool", .free "str", .free "min", .free "max", .free "list", .free "ValueError", .free "super", .str "LOWER" "abcdefghijklmnopqrstuvwxyz", .str "WORD_SIGNS" "abcdefghijklmnopqrstuvwxyz0123456789-", .str "PATH_SIGNS" "abcdefghijklmnopqrstuvwxyz0123456789/-.", .int "MOST_PATH" 60, .int "MOST_NAME" 30, .int "MOST_VALUE" 200, .cls "Response", .mkr "Response", .noat "Response" "_first_line", .noat "Response" "_has_body", .noat "Response" "fields", .noat "Response" "body", .noat "Response" "status", .cls "Request", .mkr "Request", .noat "Request" "_first_line", .noat "Request" "_has_body", .noat "Request" "fields", .noat "Request" "body", .noat "Request" "method", .noat "Request" "path", .exm "InvalidFraming" "InvalidFraming" true]
def flS : Str := "/claim/cut.py"
def exs (K : PySem.W.Frag) : List Bool := [ZX.cfnB K "Message" "__init__",
  ZX.readB K "Message",
  ZX.cintB K "Message" "MOST_FIELDS" 40,
  ZX.cintB K "Message" "MOST_BODY" 100000,
  ZX.readB K "Response",
  ZX.ctupB K "Response" "STATUSES" stL,
  ZX.readB K "Request",
  ZX.ctupB K "Request" "METHODS" mdL,
  ZX.propB K "Request" "start",
  ZX.propB K "Response" "start",
  ZX.propB K "Request" "may_have_body",
  ZX.propB K "Response" "may_have_body",
  ZX.insCB K (He.ga K "Request"),
  ZX.insCB K (He.ga K "Response"),
  decide (PySem.W.kitOne K (.ref (He.ga K "Request")) (.ref (He.ga K "Request")) = some true),
  decide (PySem.W.kitOne K (.ref (He.ga K "Response")) (.ref (He.ga K "Request")) = some false),
  ZX.errB K flS "InvalidFraming",
  ZX.excCB K (He.ga K "InvalidFraming"),
  decide (PySem.W.kitOne K (.ref (He.ga K "InvalidFraming")) (.ref (He.ga K "HopError")) = some true),
  decide (PySem.W.kitOne K (.ref (He.ga K "InvalidFraming")) (.type "ValueError") = some true),
  decide (PySem.W.kitOne K (.ref (He.ga K "InvalidFraming")) (.ref (He.ga K "InvalidMessage")) = some false),
  decide (PySem.W.kitOne K (.ref (He.ga K "InvalidFraming")) (.ref (He.ga K "InvalidValue")) = some false),
  decide (PySem.W.kitOne K (.ref (He.ga K "InvalidFraming")) (.ref (He.ga K "ReaderClosed")) = some false),
  He.kwdB K (ZX.kwOf K (He.ga K "write_message")) kwW,
  He.eqO (PySem.W.nsIn K cStatics "thirdparty.any") (some none)]
def exK (K : PySem.W.Frag) : Bool := (exs K).all id
theorem exK_at {K : PySem.W.Frag} (h : exK K = true) (i : Nat) {b : Bool} (e : (exs K)[i]? = some b := by rfl) : b = true := List.all_eq_true.mp h b (List.mem_of_getElem? e)
abbrev R : PySem.W.OpenRow := PySem.W.OpenLaw.row PySem.Challenge.rw_hopkeep_k02_messages_written
abbrev hk : PySem.W.Hook := ZX.hookB 5 fas exK fns
def ob (s : PySem.W.SharedT) : ZX.AlA := ZX.obsBG 5 fas exK fns (HandSHeadRun.getT s)
theorem ob_eq (s : PySem.W.SharedT) : ob s = hk.obs s.abs := ZX.obsBG_eq (HandSHeadRun.getT_eq s)
def others : List Str := (["HopError", "InvalidValue", "InvalidMessage", "InvalidFraming", "ReaderClosed", "Message", "Request", "Response", "LOWER", "WORD_SIGNS", "PATH_SIGNS", "MOST_PATH", "MOST_NAME", "MOST_VALUE", "_wall", "consists_of", "is_plain", "is_plain_lines", "is_path", "is_word"] : List Str) ++ (["is_field_name", "is_value", "are_fields", "is_body", "write_message", "is_framing", "write_chunked", "field_lines", "chunk_texts", "_law_bag", "_law_draw", "_law_pick", "_law_most", "_law_word", "_law_letters", "_law_signs", "_law_statuses", "_law_may", "_law_name", "_law_value"] : List Str) ++ (["_law_names", "_law_body", "_law_row", "_law_made", "_law_chunk_lines", "_law_form", "_law_sizes", "_law_options", "_law_told", "_law_right"] : List Str)
theorem run0 (w : World) : HandSHeadRun.RunEq R (PySem.W.view R.prog [55]) ZX.hookU ZX.obU 16000 others w := by
  intro o
  kernel_rfl
theorem run1 (w : World) : ZX.RunLooks R 16000 w (ZX.obF 5 fas exK fns) true := by
  intro o
  kernel_rfl
theorem run2 (w : World) : ZX.RunLooks R 16000 w (ZX.obD 5 fas exK fns) (fns.map ZX.DefA.val) := by
  intro o
  kernel_rfl
theorem run (w : World) : HandSHeadRun.RunEq R (PySem.W.view R.prog [55]) hk ob 16000 others w :=
  have z := ZX.run_three (run0 w) (run1 w) (run2 w)
  z
end Z
set_option maxHeartbeats 2000000
namespace ZX
open PySem PySem.W PySem.Calls PyProof.Rows
section
variable {prog : Program} {w : World} {A : Around} {E : Value → Shared → Prop} {h : Heap} {g : Array GenState} {d : Drawn} {t : Nat} {os : OsState}
variable {nm q : Str} {C N : Addr} {bs bm : List Value} {hdct : Bool} {sn : List Str} {sub : List Value} {ab : Bool} {col : Option Bool} {dd : Option Addr} {k0 k1 k2 k3 k5 : Option Value}
theorem call_mw {u e t0 : Addr} {rest : List Value} {Q : Value → Shared → Prop}
    (hC : h.get? C = some (excClassObj nm q C N bs bm hdct sn sub ab col dd k0 k1 k2 k3 k5 "ValueError.__new__")) (he : h.get? e = some (HandSPX.excO C t0)) (hu : h.get? u = some (kxs_mw "ValueError.__init__" e)) (hrest : rest.length ≤ sizeLine)
    (hq : ∀ h' t1, (∀ b o, b ≠ e → h.get? b = some o → h'.get? b = some o) → h'.get? e = some (HandSPX.excO C t1) → Q .none ⟨h', g, d, t, os⟩) :
    wpAny (model prog w) A (call (.ref u) rest) Q E ⟨h, g, d, t, os⟩ := by
  refine wpAny_call (codeAny_of_tree ?_)
  show wpAny _ A.in1 (callAny (.ref u) ⟨rest, []⟩) _ _ _
  simp only [callAny]
  refine wpAny_bind (wpAny_load hu ?_)
  simp only [kxs_mw, show (Value.type "method-wrapper" == Value.type "method" || Value.type "method-wrapper" == Value.type "builtin_function_or_method" || Value.type "method-wrapper" == Value.type "method-wrapper") = true by decide, if_true]
  refine W.KFB.if_so (by decide) ?_
  refine wpAny_bind (ESX.check_bound F.excBase_ValueError hC he rfl ?_)
  refine wpAny_bind (wpAny_pure (wpAny_pure ?_))
  refine ⟨Code.quiet_builtin _ (by decide +kernel), codeAny_builtin F.excBase_ValueError.initEntry ?_⟩
  rw [Around.under_plainId F.excBase_ValueError.init.plain _]
  wp_walk
  refine hq _ h.objs.size (fun b o hb ho => ?_) ?_
  · rw [Heap.get?_update_other _ _ (Ne.symm hb)]
    exact Heap.get?_push_of_some _ ho
  · rw [Heap.get?_update_self _ (Heap.get?_push_of_some _ he) rfl]
    rfl
end
end ZX
set_option maxHeartbeats 2000000
namespace ZX
open PySem PySem.W PySem.Calls PyProof.Rows L2 NdefX
/-- super().__init__(..) of an exception that is being made -/
theorem init_mw {X : Cx} {pins : List (Addr × Obj)} {σ : L2.St} {H : Hp} {s : Shared} {a C u : Addr} {A : Around} {E : Value → Shared → Prop} {us : List Value} {Q : Value → Shared → Prop} (T : OexC X.K C) (I : Inv X ((u, kxs_mw "ValueError.__init__" a) :: pins) σ H s) (e : H a = some (exo a C none)) (hl : us.length ≤ sizeLine)
    (h : ∀ s', Inv X ((u, kxs_mw "ValueError.__init__" a) :: pins) σ H s' → Q .none s') : wpAny (model X.prog X.w) A (call (.ref u) us) Q E s := by
  obtain ⟨nm, q, N, bs, bm, sn, sub, ab, col, dd, k0, k1, k2, k3, k5, hC, hbm⟩ := T.cls
  obtain ⟨t1, ho⟩ := exo_at I.hok e
  have hu := ClX.pin_at I
  obtain ⟨hp, g, d, t, os⟩ := s
  refine call_mw (I.kIn _ _ hC) ho hu hl fun h' t2 k hx => ?_
  have J := I.write (t' := t) (x := a) (e := a) (o := exo a C none) (by rw [e]; exact True.intro) (.inl rfl) k ⟨_, hx⟩ (exo_ok hx)
  have eu : upd H a (exo a C none) = H := by
    funext b
    by_cases hb : b = a
    · rw [hb, upd_same, e]
    · rw [upd_ne hb]
  rw [eu] at J
  exact h _ J
/-- what stands of an error's class, at D, and of its __init__, at f -/
structure Sup (P : Program) (K : Frag) (D f cc cda : Addr) (fd : FuncData) (name qual : Str) (params : Arguments) (body : List Stmt) (scope : Scope) : Prop where
  fn : ∃ (oc : Value) (od : Option Addr) (osl : Array (Option Value)) (dV kV doc pm ct : Value) (an : Option Addr), fd = fnX name qual params body scope [("__class__", cc)] dV kV doc pm an (.ref cda) ct ∧ K.lookup f = some ⟨oc, od, .func fd, osl⟩
  code : codeIn K (.ref cda) qual = true
  cell : ∃ (cl : Value) (cld : Option Addr) (csl : Array (Option Value)), K.lookup cc = some ⟨cl, cld, .cell (some (.ref D)), csl⟩
  file : ∃ (ccl : Value) (cdd : Option Addr) (vs : Array Value) (ccs : Array (Option Value)) (fl : Str) (tf : Tok), K.lookup cda = some ⟨ccl, cdd, .fields vs, ccs⟩ ∧ vs[2]? = some (.str fl tf) ∧ ((P.main.file : Str) == fl) = true
  sup : nsIn K mainGlobals "super" = some none
  third : nsIn K cStatics "thirdparty.any" = some none
  top : (P.main.scope.names.lookup ("super" : Str)).isSome = false
  along : ks_superIn K D D "__init__" = some (some (.builtin "ValueError.__init__"))
  subV : subIn K (.ref D) (.type "ValueError") = some true
  mro : mroIn K D (.ref D) = some true
  oex : OexC K D
section
variable {CX : CXT} {P : Program} {w : World} {K : Frag} {mg : Str → Option Value} {base : Heap} {N ps : List Str} {k : Nat} {f cc cda D : Addr} {fd : FuncData} {name qual : Str} {params : Arguments} {body rest : List Stmt} {scope : Scope} {sp : Sp} {es : List Expr} {p0 p1 p2 p3 p4 : Pos} {ar : Arg}
abbrev nf (name qual : Str) (params : Arguments) (body : List Stmt) (scope : Scope) (cc cda : Addr) : NF := ⟨name, qual, params, body, scope, [("__class__", cc)], cda⟩
theorem fn_pre (T : Sup P K D f cc cda fd name qual params body scope) (S : NScope N ps ["__class__"] scope) (hsup : scope.names.lookup ("super" : Str) = some .globalImplicit) (hp0 : (params.posonlyargs ++ params.args).head? = some ar) (har : ps[0]? = some ar.arg)
    (hb : body = .Expr (.Call (.Attribute (.Call (.Name "super" p0) [] [] p1) "__init__" p2) es [] p3) p4 :: rest)
    (he : ∀ env : Env, eval (.Call (.Attribute (.Call (.Name "super" p0) [] [] p1) "__init__" p2) es [] p3) env = (do
      let ov ← attributeBase (.Call (.Name "super" p0) [] [] p1) "__init__" env (eval (.Call (.Name "super" p0) [] [] p1) env)
      standAt p2.atName
      let (f, first) ← holding [ov] (getMethod ov "__init__" (pure false))
      callWith p3 f first (backTo p3 (starEach es env)) []))
    (hi : ∀ env : Env, env.scope = scope → interactive env = false) (hsw : ∀ env : Env, env.scope = scope → swapsWith (.Call (.Attribute (.Call (.Name "super" p0) [] [] p1) "__init__" p2) es [] p3) none p4.line env = pure false)
    (len : ∀ vs H Q E, sp vs H Q E → vs.length = ps.length)
    (hbody : ∀ (A : Around) (outer : List Env) (s : Shared) (H : Hp) (vs : List V) (Q : VK) (E : XK), Room k (A.deeper (envF (nf name qual params body scope cc cda) f s.heap.objs.size)) → sp vs H Q E →
      ∃ (a : Addr) (vs' : List V), vs = .ref a :: vs' ∧ H a = some (exo a D none) ∧ ∀ (u : Addr) (s2 : Shared), Inv (ncx CX P w K mg base N (nf name qual params body scope cc cda) f A outer s H E) [(u, kxs_mw "ValueError.__init__" a)] (startF N vs [some (.ref D)]) H s2 →
        wpAny (model P w) (A.deeper (envF (nf name qual params body scope cc cda) f s.heap.objs.size)) (callWith p3 (.ref u) [] (backTo p3 (starEach es (envF (nf name qual params body scope cc cda) f s.heap.objs.size))) [])
          (fun _ s3 => wpAny (model P w) (A.deeper (envF (nf name qual params body scope cc cda) f s.heap.objs.size)) (execs rest (envF (nf name qual params body scope cc cda) f s.heap.objs.size))
            (SP (ncx CX P w K mg base N (nf name qual params body scope cc cda) f A outer s H E) [] { nx := fun _ H' => Q .non H', rt := Q }) (ncx CX P w K mg base N (nf name qual params body scope cc cda) f A outer s H E).xe s3)
          (ncx CX P w K mg base N (nf name qual params body scope cc cda) f A outer s H E).xe s2) :
    FnOk P w K mg base CX (k + 1) f fd ps sp := by
  obtain ⟨⟨oc, od, osl, dV, kV, doc, pm, ct, an, rfl, lk⟩, hcd, ⟨cl, cld, csl, lcell⟩, ⟨ccl, cdd, vc, ccs, fl, tf, lcode, hvs, hfile⟩, hsu, hthird, htop, halong, hB, hmro, TO⟩ := T
  refine ⟨len, fun A outer s H args us vs Q E hr e0 hbi r hsp => ?_⟩
  have hl := len _ _ _ _ hsp
  have KX : K.In s.heap := e0.mod.kin.keeps fun b o e => (e0.bs b o e).1
  have lim : s.heap.NoLimit := e0.mod.nolimit.keeps fun b o e => (e0.bs b o e).1
  obtain ⟨a, vs', rfl, ha, hgo⟩ := hbody A outer s H vs Q E (hr.deeper _) hsp
  refine ks_codeAny_call_defAt (fd := fnX name qual params body scope [("__class__", cc)] dV kV doc pm an (.ref cda) ct) (body := body) (binds := ps.zip us) hr.depth (KX _ _ lk) rfl lim (codeRec_of KX hcd) rfl hbi S.nocell (fun ⟨n, _⟩ hy => S.par n (List.of_mem_zip hy).1) (fun h₁ hns kp => ?_) S.co S.gen S.kind
  have C : CellsAt (nf name qual params body scope cc cda).cl ["__class__"] [some (V.ref D)] s.heap H := by
    have hcc : s.heap.get? cc = some ⟨cl, cld, .cell (some (.ref D)), csl⟩ := KX _ _ lcell
    have look : ∀ {y : Str} {c : Addr}, List.lookup y [(("__class__" : Str), cc)] = some c → y = "__class__" ∧ c = cc := fun {y c} e => by
      by_cases h : y = "__class__"
      · subst h
        have : List.lookup ("__class__" : Str) [(("__class__" : Str), cc)] = some cc := by simp [List.lookup]
        rw [this] at e
        exact ⟨rfl, (Option.some.inj e).symm⟩
      · have q : (y == ("__class__" : Str)) = false := by simpa using h
        simp [List.lookup, q] at e
    refine ⟨rfl, fun y c e => ?_, fun x y c e1 e2 => ?_, fun i y e => ?_⟩
    · obtain ⟨_, rfl⟩ := look e
      exact ⟨(e0.bs _ _ (e0.mod.kin _ _ lcell)).2, _, _, hcc, rfl⟩
    · exact (look e1).1.trans (look e2).1.symm
    · cases i with
      | zero =>
        have ey : y = "__class__" := (Option.some.inj e).symm
        subst ey
        refine ⟨cc, by show List.lookup ("__class__" : Str) [(("__class__" : Str), cc)] = some cc; simp [List.lookup], fun v hv => ?_⟩
        have ev : v = .ref D := (Option.some.inj (Option.some.inj hv)).symm
        subst ev
        exact ⟨_, rfl, _, hcc, rfl⟩
      | succ n => simp at e
  have I : Inv (ncx CX P w K mg base N (nf name qual params body scope cc cda) f A outer s H E) [] (startF N (.ref a :: vs') [some (.ref D)]) H { s with heap := h₁, toks := s.toks + (ps.zip us).length } := inv_startN S hr.hd e0 hl r C hns kp
  have hkc : scope.names.lookup ("__class__" : Str) = some .free := S.frk _ List.mem_cons_self
  have KX1 : K.In h₁ := KX.keeps kp
  obtain ⟨cd, hcl, hcdm⟩ : ∃ cd, clsIn K D = some cd ∧ alongIn K "__init__" ((cd.mro.dropWhile (· != .ref D)).drop 1) = some (some (.builtin "ValueError.__init__")) := by
    unfold ks_superIn at halong
    cases hc : clsIn K D with
    | none => rw [hc] at halong; cases halong
    | some cd => rw [hc] at halong; exact ⟨cd, rfl, halong⟩
  obtain ⟨oD, hD1, hD2⟩ : ∃ oD, h₁.get? D = some oD ∧ oD.data = .cls cd := by
    have hD := hcl
    unfold clsIn at hD
    split at hD
    · rename_i c d cd' sl ho
      cases hD
      exact ⟨_, KX1 _ _ ho, rfl⟩
    · cases hD
  obtain ⟨t1, hoe⟩ := exo_at I.hok ha
  have hoe : h₁.get? a = some ({ cls := .ref D, dict := none, data := .fields #[.ref t1, .none, .none, .none, .bool false, .none] } : Obj) := hoe
  have J : InstAt h₁ a ({ cls := .ref D, dict := none, data := .fields #[.ref t1, .none, .none, .none, .bool false, .none] } : Obj) D none := ⟨hoe, rfl, rfl, trivial⟩
  have u0 : us[0]? = some (.ref a) := by
    cases r with
    | cons ra rr =>
      have ra : _ = _ := ra
      rw [ra]
      rfl
  have ndP : ps.Nodup := by
    have q := S.nd.sublist (List.take_sublist (ps.length + (["__class__"] : List Str).length) N)
    rw [S.pre] at q
    exact (List.nodup_append.mp q).1
  have hself : (ps.zip us).reverse.lookup ar.arg = some (.ref a) := zip_look ndP har u0
  obtain ⟨mb, hbl1, hbl2⟩ := I.mod.blt
  show _root_.PySem.wpAt (model P w) (A.deeper (envF (nf name qual params body scope cc cda) f s.heap.objs.size)) (.func body (envF (nf name qual params body scope cc cda) f s.heap.objs.size)) (execs body (envF (nf name qual params body scope cc cda) f s.heap.objs.size)) _ _ _
  rw [hb]
  refine ks_wpAt_execs_cons (ks_wpAt_Expr_any (ks_wpAt_MethodCall ?_ (he _)) (hi _ rfl) (hsw _ rfl))
  refine ks_wpAt_super_base (env := envF (nf name qual params body scope cc cda) f s.heap.objs.size) hsup hkc rfl rfl (KX1 _ _ lk) rfl hp0 rfl (KX1 _ _ lcode) rfl hvs hfile htop ?_
  refine ks_loadName_global S.kind hsup (loadGlobal_builtin (env := envF (nf name qual params body scope cc cda) f s.heap.objs.size) (I.mod.glob.keeps I.bk) (mg_none_of I.mod.kin I.mod.glob hsu) (hbl1.keeps I.bk) ((hbl2 _ (by decide)).trans (show bootBuiltins "super" = some (.type "super") by decide +kernel)) ⟨rfl, ?_⟩)
  refine wpAny_loadName_free S.kind hkc (by show List.lookup ("__class__" : Str) [(("__class__" : Str), cc)] = some cc; simp [List.lookup]) ⟨_, KX1 _ _ lcell, rfl⟩ ?_
  refine wpAny_loadName_local S.kind (S.par _ (List.mem_of_getElem? har)) hns hself ?_
  refine ks_wpAny_isType_cls hD1 hD2 ⟨rfl, ?_⟩
  refine ks_wpAny_call_super hD1 hD2 J.at_ J.cls (fun c e => by cases e) (looks_mroIn KX1 hmro) (fun h' e kh => ?_)
  have I2 : Inv (ncx CX P w K mg base N (nf name qual params body scope cc cda) f A outer s H E) [] (startF N (.ref a :: vs') [some (.ref D)]) H ⟨h', s.gens, s.drawn, s.toks + (ps.zip us).length, s.os⟩ := I.kept kh
  have J2 : InstAt h' a ({ cls := .ref D, dict := none, data := .fields #[.ref t1, .none, .none, .none, .bool false, .none] } : Obj) D none := ⟨kh _ _ hoe, rfl, rfl, trivial⟩
  have KX2 : K.In h' := KX1.keeps kh
  refine kxs_getMethod kxs_ValueError e (looks_opaque KX2 hthird) (l₀ := cd.mro) (fun A Q E s k q => wpAny_bind ((looks_clsIn KX2 hcl) A _ E s k (wpAny_pure q))) rfl KX2 hcdm (J2.type.andThen (looks_subIn KX2 hB)) (ks_ne KX2 J2 hcl) rfl ?_
  have I3 := ClX.pin_new (o := kxs_mw "ValueError.__init__" a) (a := h'.objs.size) (h' := h'.push (kxs_mw "ValueError.__init__" a)) (t' := s.toks + (ps.zip us).length + 1) I2 (fun b o e => Heap.get?_push_of_some _ e) (Nat.le_refl _) (Heap.get?_push_size _ rfl) (fun v z => by cases z)
  refine wpAny_mono (hgo _ _ I3) (fun v s3 h3 => ?_) (fun e s' h' => h')
  show _root_.PySem.wpAt _ _ _ _ _ _ s3
  refine wpAt_of_wpAny (wpAny_mono h3 (fun fl s' hs => ?_) fun e s' h' => h')
  have fin : ∀ {σ' : L2.St} {H' : Hp} {v : V} {u : Value}, Inv (ncx CX P w K mg base N (nf name qual params body scope cc cda) f A outer s H E) [] σ' H' s' → RelV v u → Q v H' → CE outer P w H s Q u s' :=
    fun {σ' H' v u} J rv q => ⟨v, H', J.os, J.bare, J.base, J.hok, rv, q⟩
  cases fl with
  | ret u =>
    obtain ⟨v, σ', H', J, rv, q⟩ := hs
    exact fin J rv q
  | next =>
    obtain ⟨σ', H', J, q⟩ := hs
    exact fin (v := V.non) (u := Value.none) J rfl q
  | brk =>
    obtain ⟨_, _, _, q⟩ := hs
    exact False.elim q
  | cont =>
    obtain ⟨_, _, _, q⟩ := hs
    exact False.elim q
end
end ZX
set_option maxHeartbeats 2000000
namespace ZX
open PySem PySem.W PySem.Calls PyProof.Rows L2 NdefX
section
variable {CX : CXT} {P : Program} {w : World} {K : Frag} {mg : Str → Option Value} {base : Heap} {N ps : List Str} {k : Nat} {f cc cda D : Addr} {fd : FuncData} {name qual : Str} {params : Arguments} {body rest : List Stmt} {scope : Scope} {sp : Sp} {e : Expr} {p0 p1 p2 p3 p4 : Pos} {ar : Arg}
/-- super().__init__(e), then the rest -/
theorem fn_sup1 (T : Sup P K D f cc cda fd name qual params body scope) (S : NScope N ps ["__class__"] scope) (hsup : scope.names.lookup ("super" : Str) = some .globalImplicit) (hp0 : (params.posonlyargs ++ params.args).head? = some ar) (har : ps[0]? = some ar.arg)
    (hb : body = .Expr (.Call (.Attribute (.Call (.Name "super" p0) [] [] p1) "__init__" p2) [e] [] p3) p4 :: rest)
    (he : ∀ env : Env, eval (.Call (.Attribute (.Call (.Name "super" p0) [] [] p1) "__init__" p2) [e] [] p3) env = (do
      let ov ← attributeBase (.Call (.Name "super" p0) [] [] p1) "__init__" env (eval (.Call (.Name "super" p0) [] [] p1) env)
      standAt p2.atName
      let (f, first) ← holding [ov] (getMethod ov "__init__" (pure false))
      callWith p3 f first (backTo p3 (starEach [e] env)) []))
    (hi : ∀ env : Env, env.scope = scope → interactive env = false) (hsw : ∀ env : Env, env.scope = scope → swapsWith (.Call (.Attribute (.Call (.Name "super" p0) [] [] p1) "__init__" p2) [e] [] p3) none p4.line env = pure false)
    (hse : ∀ env : Env, starEach [e] env = (false, eval e env) :: starEach [] env)
    (len : ∀ vs H Q E, sp vs H Q E → vs.length = ps.length)
    (hbody : ∀ (A : Around) (outer : List Env) (s : Shared) (H : Hp) (vs : List V) (Q : VK) (E : XK), Room k (A.deeper (envF (nf name qual params body scope cc cda) f s.heap.objs.size)) → sp vs H Q E →
      ∃ (a : Addr) (vs' : List V) (te : TE) (tr : TS), vs = .ref a :: vs' ∧ H a = some (exo a D none) ∧ PE (ncx CX P w K mg base N (nf name qual params body scope cc cda) f A outer s H E) e te ∧ PSs (ncx CX P w K mg base N (nf name qual params body scope cc cda) f A outer s H E) rest tr ∧
        te (startF N vs [some (.ref D)]) H fun x H1 => [x].length ≤ 1000 ∧ H1 a = some (exo a D none) ∧ tr { nx := fun _ H' => Q .non H', rt := Q } (startF N vs [some (.ref D)]) H1) :
    FnOk P w K mg base CX (k + 1) f fd ps sp := by
  refine fn_pre T S hsup hp0 har hb he hi hsw len fun A outer s H vs Q E hr hsp => ?_
  obtain ⟨a, vs', te, tr, rfl, ha, hpe, hps, hq⟩ := hbody A outer s H vs Q E hr hsp
  refine ⟨a, vs', rfl, ha, fun u s2 I => ?_⟩
  have hpa : PA (ncx CX P w K mg base N (nf name qual params body scope cc cda) f A outer s H E) [e] (tCons te tNil) := pa_cons hpe pa_nil (hse _)
  have hrun := hpa.run p3 [(u, kxs_mw "ValueError.__init__" a)] s2 (startF N (.ref a :: vs') [some (.ref D)]) H (fun ws H1 => ws.length ≤ 1000 ∧ H1 a = some (exo a D none) ∧ tr { nx := fun _ H' => Q .non H', rt := Q } (startF N (.ref a :: vs') [some (.ref D)]) H1) I hq
  have hrun2 : wpAny (model P w) (A.deeper (envF (nf name qual params body scope cc cda) f s.heap.objs.size)) (spliced (backTo p3 (starEach [e] (envF (nf name qual params body scope cc cda) f s.heap.objs.size)))) (fun us s₁ => KxsAt "ValueError.__init__" u a s₁.heap ∧ wpAny (model P w) (A.deeper (envF (nf name qual params body scope cc cda) f s.heap.objs.size)) (call (.ref u) us)
        (fun _ s3 => wpAny (model P w) (A.deeper (envF (nf name qual params body scope cc cda) f s.heap.objs.size)) (execs rest (envF (nf name qual params body scope cc cda) f s.heap.objs.size))
            (SP (ncx CX P w K mg base N (nf name qual params body scope cc cda) f A outer s H E) [] { nx := fun _ H' => Q .non H', rt := Q }) (ncx CX P w K mg base N (nf name qual params body scope cc cda) f A outer s H E).xe s3)
        (ncx CX P w K mg base N (nf name qual params body scope cc cda) f A outer s H E).xe s₁) (ncx CX P w K mg base N (nf name qual params body scope cc cda) f A outer s H E).xe s2 := by
    refine thn hrun fun us s1 ⟨ws, H1, I1, r, hz, hea, hq1⟩ => ⟨ClX.pin_at I1, ?_⟩
    have T2 : OexC (ncx CX P w K mg base N (nf name qual params body scope cc cda) f A outer s H E).K D := T.oex
    refine init_mw (X := ncx CX P w K mg base N (nf name qual params body scope cc cda) f A outer s H E) T2 I1 hea ?_ fun s' J => ?_
    · rw [← r.length, sizeLine_eq]
      omega
    · exact hps.run [] s' _ H1 _ (ClX.unpin J) hq1
  rw [hse] at hrun2 ⊢
  exact kxs_callWith (i := "ValueError.__init__") (x := a) rfl (evalArgs_plain hrun2)
/-- super().__init__(), then the rest -/
theorem fn_sup0 (T : Sup P K D f cc cda fd name qual params body scope) (S : NScope N ps ["__class__"] scope) (hsup : scope.names.lookup ("super" : Str) = some .globalImplicit) (hp0 : (params.posonlyargs ++ params.args).head? = some ar) (har : ps[0]? = some ar.arg)
    (hb : body = .Expr (.Call (.Attribute (.Call (.Name "super" p0) [] [] p1) "__init__" p2) [] [] p3) p4 :: rest)
    (he : ∀ env : Env, eval (.Call (.Attribute (.Call (.Name "super" p0) [] [] p1) "__init__" p2) [] [] p3) env = (do
      let ov ← attributeBase (.Call (.Name "super" p0) [] [] p1) "__init__" env (eval (.Call (.Name "super" p0) [] [] p1) env)
      standAt p2.atName
      let (f, first) ← holding [ov] (getMethod ov "__init__" (pure false))
      callWith p3 f first (backTo p3 (starEach [] env)) []))
    (hi : ∀ env : Env, env.scope = scope → interactive env = false) (hsw : ∀ env : Env, env.scope = scope → swapsWith (.Call (.Attribute (.Call (.Name "super" p0) [] [] p1) "__init__" p2) [] [] p3) none p4.line env = pure false)
    (len : ∀ vs H Q E, sp vs H Q E → vs.length = ps.length)
    (hbody : ∀ (A : Around) (outer : List Env) (s : Shared) (H : Hp) (vs : List V) (Q : VK) (E : XK), Room k (A.deeper (envF (nf name qual params body scope cc cda) f s.heap.objs.size)) → sp vs H Q E →
      ∃ (a : Addr) (vs' : List V) (tr : TS), vs = .ref a :: vs' ∧ H a = some (exo a D none) ∧ PSs (ncx CX P w K mg base N (nf name qual params body scope cc cda) f A outer s H E) rest tr ∧
        tr { nx := fun _ H' => Q .non H', rt := Q } (startF N vs [some (.ref D)]) H) :
    FnOk P w K mg base CX (k + 1) f fd ps sp := by
  refine fn_pre T S hsup hp0 har hb he hi hsw len fun A outer s H vs Q E hr hsp => ?_
  obtain ⟨a, vs', tr, rfl, ha, hps, hq⟩ := hbody A outer s H vs Q E hr hsp
  refine ⟨a, vs', rfl, ha, fun u s2 I => ?_⟩
  refine kxs_callWith (i := "ValueError.__init__") (x := a) rfl (evalArgs_empty ⟨ClX.pin_at I, ?_⟩)
  have T2 : OexC (ncx CX P w K mg base N (nf name qual params body scope cc cda) f A outer s H E).K D := T.oex
  exact init_mw (X := ncx CX P w K mg base N (nf name qual params body scope cc cda) f A outer s H E) T2 I ha (Nat.zero_le _) fun s' J => hps.run [] s' _ H _ (ClX.unpin J) hq
end
end ZX
set_option maxHeartbeats 2000000
namespace ZX
open PySem PySem.Spec PySem.Calls PyProof.Rows L2
/-! ### == by an own __eq__ -/
def rOwnI (C : Addr) (sp : Sp) (E : XK) : R2 := fun x y H Q => ∃ a dx fs b dy gs, x = .ref a ∧ y = .ref b ∧ H a = some (.ins C dx fs) ∧ H b = some (.ins C dy gs) ∧ sp [x, y] H Q E
theorem op_eqOwn {X : Cx} {CX : CXT} {n : Nat} {C g : Addr} {sp : Sp} {E : XK} (hs : PySem.W.findIn X.K (.ref C) "__eq__" = some (some (.ref g))) (hf : PySem.W.isFn X.K (.ref g) = true) (F : FnR X.prog X.w X.K X.mg X.base CX n g sp) (hr : Room n X.A) (hx : Passes CX X E) :
    OpR X (compareOp .Eq) (rOwnI C sp E) := by
  intro pins s σ H x y v u Q I rx ry h
  obtain ⟨a, dx, fs, b, dy, gs, rfl, rfl, ha, hb, q⟩ := h
  cases (show v = Value.ref a from rx)
  cases (show u = Value.ref b from ry)
  obtain ⟨mA, J, _⟩ := ins_get I.hok ha
  obtain ⟨mB, J', _⟩ := ins_get I.hok hb
  obtain ⟨od, J, _⟩ := J.look
  obtain ⟨od', J', _⟩ := J'.look
  obtain ⟨m, hF⟩ := I.fr
  show wpAny (model X.prog X.w) X.A (richCompare .Eq (.ref a) (.ref b)) (EP X pins σ Q) X.xe s
  refine PySem.W.cmp_K (op := .Eq) (tb := .ref C) hr.units0 hF I.ok.mod.kin J J'.type (by simp [PySem.W.notFirst]) hs hf ?_
  refine wpAny_mono (wpAny_call (run_fnR (us := [.ref a, .ref b]) (vs := [.ref a, .ref b]) F hr hx I (.cons rfl (.cons rfl .nil)) q)) (fun w s' z => ?_) fun _ _ x => x
  obtain ⟨z', H', I', rz, qz⟩ := z
  exact SlX.cmpback rz ⟨z', H', I', rz, qz⟩
/-! ### str(o) by an own __str__ -/
def rStrOwn (C : Addr) (sp : Sp) (E : XK) : List V → Hp → VK → Prop := fun xs H Q => ∃ a dx fs, xs = [.ref a] ∧ H a = some (.ins C dx fs) ∧ sp [.ref a] H (fun v H' => ∃ z : Str, v = .str z ∧ Q v H') E
theorem call_strOwn {X : Cx} {CX : CXT} {n : Nat} {C g : Addr} {sp : Sp} {E : XK} (hs : PySem.W.findIn X.K (.ref C) "__str__" = some (some (.ref g))) (hf : PySem.W.isFn X.K (.ref g) = true) (F : FnR X.prog X.w X.K X.mg X.base CX n g sp) (hr : Room (n + 2) X.A)
    (hx : ∀ (H : Hp) (s : Shared) (e : Value) (s' : Shared), CX X.stack H s E e s' → False) : CallR X (.type "str") (rStrOwn C sp E) := by
  intro pins s σ H xs us Q I r h
  obtain ⟨a, dx, fs, rfl, ha, q⟩ := h
  cases r with
  | cons r1 rs =>
    cases rs
    cases r1
    obtain ⟨mA, J, _⟩ := ins_get I.hok ha
    obtain ⟨od, J, _⟩ := J.look
    refine PySem.W.kso_call (by have := hr.un; show X.A.units + 1 + 1 < _; omega) I.kIn J hs hf ?_
    have hr2 : Room n X.A.in1.in1 := (Room.in1 (k := n) (Room.in1 (k := n + 1) hr))
    refine wpAny_call (codeAny_mono (F X.A.in1.in1 X.stack s H [.ref a] [.ref a] _ E hr2 I.env0.in1.in1 (.cons rfl .nil) q) fun r s' hq => ?_)
    cases r with
    | error e => exact (hx _ _ _ _ hq).elim
    | ok fl =>
      cases fl with
      | ret u =>
        obtain ⟨v, H', I2, rv, z, ev, q2⟩ := I.after hq
        subst ev
        obtain ⟨t, e⟩ := (show ∃ t, u = Value.str z t from rv)
        subst e
        exact ⟨.str z, H', I2, ⟨t, rfl⟩, q2⟩
      | next => exact False.elim hq
      | brk => exact False.elim hq
      | cont => exact False.elim hq
/-! ### C.m(e, ..), m a staticmethod; C(e, ..): what they let out told at the slots -/
structure Stat (K : PySem.W.Frag) (C : Addr) (mc : Value) (m : Str) (p g : Addr) : Prop where
  rd : ClX.CRead K C mc
  at_ : PySem.W.findCls K (.ref C) mc m = some (.get (.builtin "staticmethod.__get__") (.ref p) .none (.ref C))
  rc : ∃ rest, PySem.W.recIn K p "staticmethod" = some (.ref g :: rest)
  kp : PySem.W.keepIn K (.ref g) = true
def tStatS (C : Addr) (sp : Sp) (E : L2.St → XK) (ta : TE) (t : TA) : TE := fun σ H Q => ta σ H fun x H1 => x = .ref C ∧ t σ H1 fun vs H2 => sp vs H2 Q (E σ)
def tMakeS (C : Addr) (sp : Sp) (dvs : List V) (E : L2.St → XK) (t : TA) : TE := fun σ H Q => t σ H fun vs H1 => ∀ x dx, H1 x = none → H1 dx = none → dx ≠ x →
  sp (.ref x :: (vs ++ dvs)) (upd (upd H1 dx (.own x)) x (.ins C dx [])) (fun v H2 => v = .non ∧ Q (.ref x) H2) (E σ)
section
variable {X : Cx} {CX : CXT} {k : Nat} {C p g f : Addr} {mc : Value} {fd : FuncData} {ps : List Str} {sp : Sp} {E : L2.St → XK} {o e : Expr} {es : List Expr} {m x : Str} {pos apos xp : Pos} {ta : TE} {t : TA} {pl : Sem Bool} {dvs : List V} {ds : List Value}
theorem pe_statS (he : PE X o ta) (c : Stat X.K C mc m p g) (F : FnOk X.prog X.w X.K X.mg X.base CX k g fd ps sp) (hb : Binds X.K fd ps []) (hr : Room k X.A) (hx : ∀ σ, PassesAt CX X σ (E σ)) (ha : PA X (e :: es) t)
    (hst : starEach (e :: es) X.env = (false, eval e X.env) :: starEach es X.env := by rfl) (hpl : (backTo pos (starEach es X.env)).any (·.1) = false := by rfl)
    (ht : eval (.Call (.Attribute o m apos) (e :: es) [] pos) X.env = (do
      let ov ← eval o X.env
      standAt apos.atName
      let (f, first) ← holding [ov] (getMethod ov m pl)
      callWith pos f first (backTo pos (starEach (e :: es) X.env)) (backToKw pos (keywordEach [] X.env))) := by rfl) :
    PE X (.Call (.Attribute o m apos) (e :: es) [] pos) (tStatS C sp E ta t) := by
  refine ⟨fun pins s σ H Q I h => ?_⟩
  refine PySem.W.methodCall_KW (pl := pl) (thn (he.run pins s σ H _ I h) fun u s1 ⟨x, H1, I1, rx, ex, q⟩ => ?_) ht
  subst ex
  obtain rfl : u = Value.ref C := rx
  obtain ⟨rest, hp⟩ := c.rc
  refine PySem.W.method_cls I1.kIn c.rd.ga (PySem.W.cls_bind I1.kIn c.rd.rd c.at_ (wpAny_call (PySem.W.sm_get (s := { s1 with toks := s1.toks + 1 }) I1.kIn hp (PySem.W.handed_on rfl ?_))))
  refine PySem.W.callWith_K (h₀ := X.base) I1.ok.mod.kin c.kp (thn (ha.run pos pins _ σ H1 _ (I1.tok _) q) fun us s2 ⟨vs, H2, I2, r, q2⟩ => ⟨I2.kIn, ?_⟩) hst hpl
  exact run_fnS F hr hb (hx σ) I2 r q2
theorem run_makeS {pins : List (Addr × Obj)} {σ : L2.St} {H : Hp} {s : Shared} {Q : VK} {us : List Value} {vs : List V} (M : Mk X.K C f) (F : FnOk X.prog X.w X.K X.mg X.base CX k f fd ps sp) (hr : Room (k + 1) X.A) (hb : Binds X.K fd ps ds) (hd : Vals dvs ds)
    (hx : PassesAt CX X σ (E σ)) (I : Inv X pins σ H s) (r : Vals vs us)
    (h : ∀ x dx, H x = none → H dx = none → dx ≠ x → sp (.ref x :: (vs ++ dvs)) (upd (upd H dx (.own x)) x (.ins C dx [])) (fun v H2 => v = .non ∧ Q (.ref x) H2) (E σ)) :
    wpAny (model X.prog X.w) X.A (call (.ref C) us) (EP X pins σ Q) X.xe s := by
  have hq := h (s.heap.objs.size + 1) s.heap.objs.size (I.hok.fresh (Nat.le_succ _)) (I.hok.fresh (Nat.le_refl _)) (Nat.ne_of_lt (Nat.lt_succ_self _))
  have I2 := Inv.made (C := C) I
  have r2 : Vals (V.ref (s.heap.objs.size + 1) :: (vs ++ dvs)) (Value.ref (s.heap.objs.size + 1) :: (us ++ ds)) := .cons rfl (r.append hd)
  have hl : (Value.ref (s.heap.objs.size + 1) :: us ++ ds).length = ps.length := by
    have e := r2.length
    rw [F.len _ _ _ _ hq] at e
    exact e.symm
  refine wpAny_call (make_map (f := f) I.kIn M.makes M.init (beq_iff_eq.mp M.fn) (codeAny_mono (F.run _ X.stack _ _ ⟨Value.ref (s.heap.objs.size + 1) :: us, []⟩ (Value.ref (s.heap.objs.size + 1) :: (us ++ ds)) _ _ (E σ) (hr.make C us [])
    (I2.env0.make C us []) (hb _ (Value.ref (s.heap.objs.size + 1) :: us) I2.kIn hl) r2 hq) fun r s' hq' => ?_))
  cases r with
  | error e => exact hx pins _ _ e s' I2 hq'
  | ok fl =>
    cases fl with
    | ret u =>
      obtain ⟨v, H', I3, rv, ev, q3⟩ := I2.after hq'
      subst ev
      exact ⟨rv, ⟨V.ref (s.heap.objs.size + 1), H', I3, rfl, q3⟩⟩
    | next => exact False.elim hq'
    | brk => exact False.elim hq'
    | cont => exact False.elim hq'
theorem pe_makeS (M : Mk X.K C f) (F : FnOk X.prog X.w X.K X.mg X.base CX k f fd ps sp) (hr : Room (k + 1) X.A) (hg : Gl X x) (hm : X.mg x = some (.ref C)) (hb : Binds X.K fd ps ds) (hd : Vals dvs ds) (hx : ∀ σ, PassesAt CX X σ (E σ))
    (ha : PA X (e :: es) t) (hdb : (x == ("__debug__" : Str)) = false := by decide) (he : starEach (e :: es) X.env = (false, eval e X.env) :: starEach es X.env := by rfl) (hpl : (backTo pos (starEach es X.env)).any (·.1) = false := by rfl) :
    PE X (.Call (.Name x xp) (e :: es) [] pos) (tMakeS C sp dvs E t) := by
  refine ⟨fun pins s σ H Q I h => ?_⟩
  refine wpAny_Call_Name_kw (ld_glob I hg hm ?_ hdb)
  refine PySem.W.callWith_K (h₀ := X.base) I.ok.mod.kin M.kp (thn (ha.run pos pins s σ H _ I h) fun us s1 ⟨vs, H1, I1, r, q⟩ => ⟨I1.kIn, ?_⟩) he hpl
  exact run_makeS M F hr hb hd (hx σ) I1 r q
end
/-! ### text[::-1] -/
open TL in
def revT (z : Str) : Str := ⟨(tl z).reverse.toArray⟩
open TL in
theorem sliceBy_rev (z : Str) (u : Tok) : Txt.sliceBy z none none (-1, u) = revT z := by
  refine ext_tl ?_
  show (Txt.sliceBy z none none (-1, u)).cps.toList = (tl z).reverse
  rw [step_rev_list]
  have hl : z.length = (tl z).length := len_tl z
  refine List.ext_getElem (by rw [List.length_map, List.length_range, List.length_reverse, hl]) fun i h1 h2 => ?_
  rw [List.length_map, List.length_range] at h1
  rw [List.getElem_map, List.getElem_range, List.getElem_reverse]
  have hi : z.length - 1 - i < z.cps.size := by
    show z.length - 1 - i < z.length
    omega
  have e : z.cps.getD (z.length - 1 - i) 0 = z.cps[z.length - 1 - i] := by simp [Array.getD, hi]
  rw [e]
  have e2 : z.cps[z.length - 1 - i] = (tl z)[z.length - 1 - i]'(by rw [← hl]; exact hi) := by simp [tl]
  rw [e2]
  congr 1
def tRevS (te : TE) : TE := fun σ H Q => te σ H fun x H1 => ∃ z : Str, x = .str z ∧ z.length ≤ sizeLine ∧ Q (.str (revT z)) H1
theorem pe_revS {X : Cx} {e : Expr} {te : TE} {k : Nat} {p1 p2 p3 pos : Pos} (he : PE X e te) : PE X (.Subscript e (.Slice none none (some (.UnaryOp .USub (.Constant (.int 1) k p1) p2)) p3) pos) (tRevS te) := by
  refine ⟨fun pins s σ H Q I h => ?_⟩
  refine Subscript_ (thn (he.run pins s σ H _ I h) fun v s1 ⟨x, H1, I1, r1, q1⟩ => ?_)
  obtain ⟨z, ex, hz, q⟩ := q1
  subst ex
  obtain ⟨t, rfl⟩ := r1
  have hst : PO X (some (.UnaryOp .USub (.Constant (.int 1) k p1) p2)) (tPart (tUn (rU fun i => .int (-i)) (tC (.int 1)))) := po_some (pe_un un_neg pe_int)
  refine wpAny_Slice (thn (po_none.run pins s1 σ H1 (fun o H2 => o = none ∧ H2 = H1) I1 ⟨rfl, rfl⟩) fun vl s2 ⟨l, H2, I2, pl, el, e2⟩ => ?_)
  subst el e2
  refine thn (po_none.run pins s2 σ H2 (fun o H3 => o = none ∧ H3 = H2) I2 ⟨rfl, rfl⟩) fun vu s3 ⟨u, H3, I3, pu, eu, e3⟩ => ?_
  subst eu e3
  refine thn (hst.run pins s3 σ H3 (fun o H4 => o = some (-1) ∧ H4 = H3) I3 ⟨1, rfl, -1, rfl, rfl, rfl⟩) fun vs s4 ⟨o, H4, I4, ps, eo, e4⟩ => ?_
  subst eo e4
  have I5 : Inv X pins σ H4 { s4 with heap := s4.heap.push { cls := .type "slice", data := .fields #[vl, vu, vs] } } := I4.kept (t' := s4.toks) fun b ob q => Heap.get?_push_of_some _ q
  show wpAny (model X.prog X.w) X.A (subscriptTail e (.Slice none none (some (.UnaryOp .USub (.Constant (.int 1) k p1) p2)) p3) (.str z t) (.ref s4.heap.objs.size)) (EP X pins σ Q) X.xe { s4 with heap := s4.heap.push { cls := .type "slice", data := .fields #[vl, vu, vs] } }
  refine tail_any (ops := [.str z t, .ref s4.heap.objs.size]) (typeIs_str _ _ _) (PySem.F.slot_str_getitem.lookup) ?_ (by with_unfolding_all rfl)
  obtain ⟨l, rfl, el⟩ := IsPart.raw pl
  cases l with
  | some l => cases el
  | none =>
    obtain ⟨u', rfl, eu'⟩ := IsPart.raw pu
    cases u' with
    | some u' => cases eu'
    | none =>
      obtain ⟨st, rfl, est⟩ := IsPart.raw ps
      cases st with
      | none => cases est
      | some st =>
        obtain ⟨si, st⟩ := st
        have esi : si = -1 := Option.some.inj est
        subst esi
        refine wpAny_getItem_str_slice (l := none) (u := none) (st := some (-1, st)) ⟨_, Heap.get?_push_size _ rfl, rfl, rfl⟩ rfl ?_
        have hl : (Txt.sliceBy z none none (-1, st)).length ≤ sizeLine := by
          rw [step_rev_len]
          exact hz
        have eq := sliceBy_rev z st
        unfold Txt.sliceBy at eq hl
        have hc : ¬ ((((some ((-1 : Int), st)).map (·.1)).getD 1 == 1 && (slicePicked z none none (some (-1, st))).length == z.length) = true) := by
          have : ((((some ((-1 : Int), st)).map (·.1)).getD 1 == 1)) = false := rfl
          rw [this]; simp
        rw [if_neg hc] at eq hl
        show Made.post (if (((some ((-1 : Int), st)).map (·.1)).getD 1 == 1 && (slicePicked z none none (some (-1, st))).length == z.length) = true then Made.val (.str z t) else Made.str ⟨((slicePicked z none none (some (-1, st))).filterMap (z.cps[·]?)).toArray⟩) (EP X pins σ Q) _
        rw [if_neg hc]
        rw [← eq] at q
        exact ⟨hl, .str _, _, I5.tok _, ⟨_, rfl⟩, q⟩
/-! ### isinstance(e, c), e the exception that the suite holds, with a dict of its own -/
section
open PySem.W
variable {prog : Program} {w : World} {A : Around} {E : Value → Shared → Prop} {s : Shared} {K : Frag} {x D : Addr} {ox od : Obj}
theorem kin_classED {Q : Option Value → Shared → Prop} (hga : findIn K (.ref D) "__getattribute__" = some (some (.builtin "BaseException.__getattribute__"))) (hgt : findIn K (.ref D) "__getattr__" = some none) (hsub : subIn K (.ref D) (.type "BaseException") = some true)
    (hdct : hasDictIn K D = true) (ha : findIn K (.ref D) "__class__" = some (some (.builtin "object.__class__")))
    (hn : specialIn K (.builtin "object.__class__") "__get__" = some (some (.builtin "getset_descriptor.__get__"))) (htk : takesIn K (.builtin "object.__class__") = some true) (hm : mroIn K D (.type "object") = some true)
    (X : K.In s.heap) (I : InstAt s.heap x ox D (some od)) (h : Q (some (.ref D)) { s with toks := s.toks + 1 }) : wpAny (model prog w) A (getAttr? (.ref x) "__class__") Q E s := by
  have hf : findObj K D (some od) "__class__" = some (.bind (.builtin "getset_descriptor.__get__") (.builtin "object.__class__")) := findObj_data (by obtain ⟨cd, hc, _⟩ := any_some hdct; rw [hc]; rfl) ha hn htk
  obtain ⟨hp, g, d, t, os⟩ := s
  have L0 := I.type (M := model prog w)
  have L1 := looks_findIn (M := model prog w) X hga
  have L2 := looks_findIn (M := model prog w) X hgt
  have L3 := looks_find (M := model prog w) X I hf
  have sub : Looks (model prog w) hp (isInstance (.ref x) (.type "BaseException")) true := L0.andThen (looks_subIn X hsub)
  have hx0 : (false && onTheHeap (Value.builtin "BaseException.__getattribute__")) = false := rfl
  have hx2 : (Value.builtin "BaseException.__getattribute__" == Value.builtin "object.__getattribute__") = false := by decide +kernel
  have hx1 : (onTheHeap (Value.ref D) && Value.builtin "BaseException.__getattribute__" == Value.builtin "object.__getattribute__") = false := by rw [hx2]; rfl
  unfold getAttr? getAttrBy? getAttrBy
  refine wpAny_bind (wpAny_mkText (wpAny_bind (wpAny_attempt (wpAny_holding (wpAny_bind (L0.at (wpAny_bind (L1.at ?_))))))))
  show wpAny _ _ (if (onTheHeap (Value.ref D) && Value.builtin "BaseException.__getattribute__" == Value.builtin "object.__getattribute__") = true then _ else _) _ _ _
  rw [hx1, if_neg Bool.false_ne_true]
  unfold getAttrByItsOwn hookBefore
  refine wpAny_bind ?_
  rw [if_pos (show onTheHeap (Value.ref D) = true from rfl)]
  refine L2.at ?_
  refine wpAny_bind (wpAny_attempt (wpAny_holding ?_))
  unfold callGetattribute
  rw [hx0, if_neg Bool.false_ne_true]
  unfold boundAndCalled
  rw [PySem.F.excAttr_ValueError.ga.bind (.ref x)]
  refine wpAny_bind (wpAny_pure ?_)
  show wpAny _ _ (call (.builtin "BaseException.__getattribute__") [.ref x, .str "__class__" t]) _ _ _
  refine wpAny_call (codeAny_call_builtin PySem.F.excAttr_ValueError.ga.plain PySem.F.entry_bexc_ga ?_)
  refine @check_slot (model prog w) _ _ ⟨hp, g, d, t + 1, os⟩ "BaseException.__getattribute__" "BaseException" "__getattribute__" (.ref x) [.str "__class__" t] [] _ (by decide +kernel) (by decide +kernel) sub (PySem.F.args_bexc_ga (.ref x) (.str "__class__" t)) ?_
  unfold Builtin.«object.__getattribute__»
  refine wpAny_bind (wpAny_of_eq (a := ((Value.ref x : Value), [Value.str "__class__" t])) (by first | rfl | (simp only [slotArgs]; rfl)) ?_)
  refine wpAny_bind (wpAny_pure (wpAny_bind (L0.at (wpAny_bind (L3.at ?_)))))
  show wpAny _ _ (holding [Value.builtin "object.__class__"] (call (.builtin "getset_descriptor.__get__") [.builtin "object.__class__", .ref x, .ref D]) >>= ret) _ _ _
  refine wpAny_bind (wpAny_holding (wpAny_call (class_get (s := ⟨hp, g, d, t + 1, os⟩) (ox := ox) (od := some od) X I hm ?_)))
  refine wpAny_pure ?_
  show wpAny _ _ (handedOut (.ref D)) _ _ _
  rw [handedOut_of (v := .ref D) rfl]
  first
    | exact wpAny_pure (wpAny_pure h)
    | exact wpAny_pure h
    | exact wpAny_pure (wpAny_bind (wpAny_pure (wpAny_pure h)))
theorem kitx_excD (hga : findIn K (.ref D) "__getattribute__" = some (some (.builtin "BaseException.__getattribute__"))) (hgt : findIn K (.ref D) "__getattr__" = some none) (hsub : subIn K (.ref D) (.type "BaseException") = some true) (hdct : hasDictIn K D = true) (ha : findIn K (.ref D) "__class__" = some (some (.builtin "object.__class__")))
    (hn : specialIn K (.builtin "object.__class__") "__get__" = some (some (.builtin "getset_descriptor.__get__"))) (htk : takesIn K (.builtin "object.__class__") = some true) (hm : mroIn K D (.type "object") = some true) :
    KitX K (.ref x) (.ref D) (fun h => InstAt h x ox D (some od)) where
  ty := fun _ _ _ I => I.type
  it := fun _ _ X _ => by
    obtain ⟨cdD, hcD, _⟩ := any_some hdct
    unfold clsIn at hcD
    split at hcD
    · rename_i c' d' cd' sl' ho
      intro A' Q' E' s' k q
      unfold isType loadHead
      exact wpAny_bind (wpAny_loadPart (k _ _ (X _ _ ho)) (wpAny_pure q))
    · cases hcD
  ne := fun h tp dd its n sl X htp => by
    obtain ⟨cdD, hcD, _⟩ := any_some hdct
    refine Bool.eq_false_iff.mpr fun q => ?_
    have e : D = tp := Value.ref.inj (beq_iff_eq.mp q)
    subst e
    unfold clsIn at hcD
    split at hcD
    · rename_i c' d' cd' sl' ho
      have z := (X _ _ ho).symm.trans htp
      cases z
    · cases hcD
  ca := fun X I k => kin_classED hga hgt hsub hdct ha hn htk hm X I k
end
def rIsED (K : PySem.W.Frag) (D a dd : Addr) : List V → Hp → VK → Prop := fun xs H Q => ∃ (c : V) (cv : Value) (b : Bool) (fs : List (Str × V)), xs = [.ref a, c] ∧ (∀ u, RelV c u → u = cv) ∧ H dd = some (.xd fs) ∧ PySem.W.kitOne K (.ref D) cv = some b ∧ Q (.bl b) H
theorem call_isED {X : Cx} {a D dd : Addr} {oe : Obj} {pn : List (Addr × Obj)} (C : ExcC X.K D) (hz : Zc (.ref D) (some dd) oe) (hf : ∃ vs, oe.data = .fields vs) : CallR (X.suite a ((a, oe) :: pn)) (.builtin "isinstance") (rIsED X.K D a dd) := by
  intro pins s σ H xs us Q I r h
  obtain ⟨c, cv, b, fs, rfl, hcv, hdd, e, q⟩ := h
  cases r with
  | cons rx rr =>
    cases rr with
    | cons rt rr =>
      cases rr
      cases rx
      have ec := hcv _ rt
      subst ec
      obtain ⟨hget, _⟩ := I.pin (a, oe) (List.mem_append.mpr (.inl List.mem_cons_self))
      obtain ⟨vs, hv⟩ := hf
      have hx : ObjOk X.prog X.w H s.heap dd (.xd fs) := I.hok dd _ hdd
      obtain ⟨mA, ⟨od, es, ep, ho, hns⟩, hr⟩ := hx
      have J : PySem.W.InstAt s.heap a oe D (some od) := by
        obtain ⟨oc, odd, oda, osl⟩ := oe
        obtain ⟨h1, h2⟩ := hz
        dsimp only at h1 h2 hv
        subst h1 h2 hv
        exact ⟨hget, rfl, rfl, ho⟩
      exact PySem.W.kia_one (kitx_excD C.hg C.hk C.hs C.hd C.ha C.hn C.ht C.hm) I.kIn J e (fun z => nomatch z) fun tk => ⟨.bl b, H, I.kept (t' := tk) fun _ _ z => z, rfl, q⟩
end ZX
set_option maxHeartbeats 2000000
namespace ZX
open PySem PySem.Spec PyProof.Rows L2 He
/-! ### the head: defs, methods, staticmethods, errors' __init__s, by one Hook -/
/-- where a def stands -/
theorem DefA.parts {K : PySem.W.Frag} {d : DefA} (e : fnC K (d.at_.ad K) = d.val) (c : d.ok K = true) : PySem.W.keepIn K (.ref (d.at_.ad K)) = true ∧ ∃ (oc : Value) (od : Option Addr) (osl : Array (Option Value)) (fd : FuncData), K.lookup (d.at_.ad K) = some ⟨oc, od, .func fd, osl⟩ ∧
    PySem.W.codeIn K fd.code d.qual = true ∧ DflV K fd.defaults (d.dvs K) ∧ fd.name = d.name ∧ fd.qualname = d.qual ∧ fd.params = d.params ∧ fd.body = .stmts d.body ∧ fd.scope = d.scope ∧ fd.globals = mainGlobals ∧ fd.closure.map (·.1) = d.clo ∧ fd.builtins = builtinsNs := by
  obtain ⟨kp, c2⟩ := ba c
  refine ⟨kp, ?_⟩
  unfold fnC at e
  cases q : K.lookup (d.at_.ad K) with
  | none =>
    rw [q] at c2
    cases c2
  | some o =>
    obtain ⟨oc, od, dt, osl⟩ := o
    rw [q] at c2 e
    cases dt with
    | func fd =>
      have e2 : (some (fd.name, fd.qualname, fd.params, fd.body, fd.scope, fd.globals, fd.closure.map (·.1), fd.builtins) : FnC) = some (d.name, d.qual, d.params, .stmts d.body, d.scope, mainGlobals, d.clo, builtinsNs) := e
      simp only [Option.some.injEq, Prod.mk.injEq] at e2
      obtain ⟨h1, h2, h3, h4, h5, h6, h7, h8⟩ := e2
      have c3 : (PySem.W.codeIn K fd.code d.qual && dflB K fd.defaults (d.dvs K)) = true := c2
      obtain ⟨k1, k2⟩ := ba c3
      exact ⟨oc, od, osl, fd, rfl, k1, dflB_ok k2, h1, h2, h3, h4, h5, h6, h7, h8⟩
    | _ => cases c2
theorem DefA.funD {K : PySem.W.Frag} {d : DefA} (e : fnC K (d.at_.ad K) = d.val) (c : d.ok K = true) (hc : d.clo = []) : ∃ fd, FunD K d.name d.qual d.params d.body d.scope (d.dvs K) [] (d.at_.ad K) fd := by
  obtain ⟨kp, oc, od, osl, fd, q, k1, k2, h1, h2, h3, h4, h5, h6, h7, h8⟩ := d.parts e c
  obtain ⟨n1, n2, n3, n4, n5, n6, n7, n8, n9, n10, n11, n12, n13, n14, n15⟩ := fd
  dsimp only at h1 h2 h3 h4 h5 h6 h7 h8 k1 k2
  rw [hc] at h7
  have h7 := List.map_eq_nil_iff.mp h7
  subst h1 h2 h3 h4 h5 h6 h7 h8
  exact ⟨_, ⟨oc, od, n8, n9, n10, n11, n12, n13, n14, osl, rfl, q, k1, k2, .inl rfl⟩, kp⟩
/-! ### an error's class and its __init__ -/
theorem oexCls_ok {K : PySem.W.Frag} {C : Addr} (q : oexClsB K C = true) : ∃ nm qn N bs bm sn sub ab col dd k0 k1 k2 k3 k5, K.lookup C = some (excClassObj nm qn C N bs bm true sn sub ab col dd k0 k1 k2 k3 k5 "ValueError.__new__") ∧ HandSPX.refsVE bm = true := by
  unfold oexClsB at q
  split at q
  · rename_i dd cd sl ho
    split at q
    · rename_i C' bm k0 k1 k2 k3 n k5 hm hs
      simp only [Bool.and_eq_true, beq_iff_eq, Bool.not_eq_true'] at q
      obtain ⟨⟨⟨⟨rfl, rfl⟩, hdel⟩, hd⟩, hok⟩ := q
      obtain ⟨nm, bs, mro, ns, qn, hd', sn, sub, ab, col, del⟩ := cd
      dsimp only at hm hdel hd
      subst hm hdel hd
      have hsl : sl = #[k0, k1, k2, k3, some (.builtin "ValueError.__new__"), k5] := by
        obtain ⟨l⟩ := sl
        simp only at hs
        rw [hs]
      subst hsl
      exact ⟨nm, qn, ns, bs, bm, sn, sub, ab, col, dd, k0, k1, k2, k3, k5, ho, hok⟩
    · cases q
  · cases q
structure Err (P : Program) (K : PySem.W.Frag) (x : Str) (fd : FuncData) (d : DefA) : Prop where
  sup : Sup P K (ga K x) (ma K (ga K x) "__init__") (ccOf K (ma K (ga K x) "__init__")) (cdOf K (ma K (ga K x) "__init__")) fd d.name d.qual d.params d.body d.scope
  init : PySem.W.findIn K (.ref (ga K x)) "__init__" = some (some (.ref (ma K (ga K x) "__init__")))
  ty : PySem.W.typeIn K (.ref (ma K (ga K x) "__init__")) = some (.type "function")
theorem err_ok {P : Program} {K : PySem.W.Frag} {x fl : Str} {d : DefA} (h : errB K fl x = true) (hfl : ((P.main.file : Str) == fl) = true) (htop : (P.main.scope.names.lookup ("super" : Str)).isSome = false) (hs : PySem.W.nsIn K mainGlobals "super" = some none) (h3 : PySem.W.nsIn K cStatics "thirdparty.any" = some none)
    (hat : d.at_ = .met x "__init__") (e : fnC K (d.at_.ad K) = d.val) (c : d.ok K = true) (hc : d.clo = [("__class__" : Str)]) : ∃ fd, Err P K x fd d := by
  obtain ⟨kp, oc, od, osl, fd, q, k1, k2, g1, g2, g3, g4, g5, g6, g7, g8⟩ := d.parts e c
  obtain ⟨a1, h⟩ := ba h
  obtain ⟨a2, h⟩ := ba h
  obtain ⟨a3, h⟩ := ba h
  obtain ⟨a4, h⟩ := ba h
  obtain ⟨a5, h⟩ := ba h
  obtain ⟨a6, h⟩ := ba h
  obtain ⟨a7, h⟩ := ba h
  obtain ⟨a8, h⟩ := ba h
  obtain ⟨a9, h⟩ := ba h
  obtain ⟨a10, h⟩ := ba h
  obtain ⟨a11, a12⟩ := ba h
  have ead : d.at_.ad K = ma K (ga K x) "__init__" := by rw [hat] <;> rfl
  rw [ead] at q kp
  obtain ⟨n1, n2, n3, n4, n5, n6, n7, n8, n9, n10, n11, n12, n13, n14, n15⟩ := fd
  dsimp only at g1 g2 g3 g4 g5 g6 g7 g8 k1 k2
  rw [hc] at g7
  obtain ⟨cc, ecl⟩ : ∃ cc, n7 = [(("__class__" : Str), cc)] := by
    cases n7 with
    | nil => cases g7
    | cons p r =>
      cases r with
      | nil =>
        obtain ⟨y, z⟩ := p
        have : y = "__class__" := by
          have := List.cons.inj g7
          exact this.1
        exact ⟨z, by rw [this]⟩
      | cons p2 r2 => cases (List.cons.inj g7).2
  obtain ⟨cda, ecd⟩ : ∃ cda, n13 = .ref cda := by
    cases n13 with
    | ref c => exact ⟨c, rfl⟩
    | _ => cases k1
  subst ecl ecd g1 g2 g3 g4 g5 g6 g8
  have ecc : ccOf K (ma K (ga K x) "__init__") = cc := by
    unfold ccOf
    rw [q]
  have ecda : cdOf K (ma K (ga K x) "__init__") = cda := by
    unfold cdOf
    rw [q]
  refine ⟨_, ⟨⟨oc, od, osl, _, _, _, _, _, _, rfl, by rw [ecc, ecda]; exact q⟩, by rw [ecda]; exact k1, ?_, ?_, hs, h3, htop, of_decide_eq_true a8, of_decide_eq_true a6, of_decide_eq_true a7, ⟨oexCls_ok a1, eqO_ok a2, of_decide_eq_true a3, of_decide_eq_true a4, a5⟩⟩, eqO_ok a9, of_decide_eq_true a10⟩
  · cases z : K.lookup (ccOf K (ma K (ga K x) "__init__")) with
    | none => rw [z] at a11; cases a11
    | some o =>
      obtain ⟨o1, o2, o3, o4⟩ := o
      rw [z] at a11
      cases o3 with
      | cell v =>
        cases v with
        | none => cases a11
        | some v =>
          have ev : v = .ref (ga K x) := of_decide_eq_true a11
          rw [ev]
          exact ⟨_, _, _, rfl⟩
      | _ => cases a11
  · cases z : K.lookup (cdOf K (ma K (ga K x) "__init__")) with
    | none => rw [z] at a12; cases a12
    | some o =>
      obtain ⟨o1, o2, o3, o4⟩ := o
      rw [z] at a12
      cases o3 with
      | fields vs =>
        have a12 : (match (vs[2]? : Option Value) with
          | some (Value.str f _) => decide (fl = f)
          | _ => false) = true := a12
        cases y : vs[2]? with
        | none => rw [y] at a12; cases a12
        | some v =>
          rw [y] at a12
          cases v with
          | str f t =>
            have ef : fl = f := of_decide_eq_true a12
            exact ⟨_, _, vs, _, f, t, rfl, y, by rw [← ef]; exact hfl⟩
          | _ => cases a12
      | _ => cases a12
/-- what isinstance and the fields ask of an error's class -/
theorem excC_ok {K : PySem.W.Frag} {D : Addr} (h : excCB K D = true) : ExcC K D := by
  obtain ⟨a1, h⟩ := ba h
  obtain ⟨a2, h⟩ := ba h
  obtain ⟨a3, h⟩ := ba h
  obtain ⟨a4, h⟩ := ba h
  obtain ⟨a5, h⟩ := ba h
  obtain ⟨a6, h⟩ := ba h
  obtain ⟨a7, a8⟩ := ba h
  exact ⟨eqO_ok a1, eqO_ok a2, of_decide_eq_true a3, a4, eqO_ok a5, eqO_ok a6, of_decide_eq_true a7, of_decide_eq_true a8⟩
/-- what isinstance asks of an own object's class -/
structure InsC (K : PySem.W.Frag) (C : Addr) : Prop where
  ha : PySem.W.findIn K (.ref C) "__class__" = some (some (.builtin "object.__class__"))
  hn : PySem.W.specialIn K (.builtin "object.__class__") "__get__" = some (some (.builtin "getset_descriptor.__get__"))
  htk : PySem.W.takesIn K (.builtin "object.__class__") = some true
  hm : PySem.W.mroIn K C (.type "object") = some true
theorem insC_ok {K : PySem.W.Frag} {D : Addr} (h : insCB K D = true) : InsC K D := by
  obtain ⟨a5, h⟩ := ba h
  obtain ⟨a6, h⟩ := ba h
  obtain ⟨a7, a8⟩ := ba h
  exact ⟨eqO_ok a5, eqO_ok a6, of_decide_eq_true a7, of_decide_eq_true a8⟩
/-- a staticmethod -/
theorem stat_ok {K : PySem.W.Frag} {x m : Str} (h : statB K x m = true) : Stat K (ga K x) (.type "type") m (ma K (ga K x) m) ((Pl.sta x m).ad K) := by
  obtain ⟨a1, h⟩ := ba h
  obtain ⟨a2, h⟩ := ba h
  obtain ⟨a3, h⟩ := ba h
  obtain ⟨a4, a5⟩ := ba h
  refine ⟨⟨a1, eqO_ok a2⟩, ?_, ?_, a5⟩
  · split at a3
    · rename_i n p C z
      obtain ⟨b1, b2⟩ := ba a3
      obtain ⟨b3, b4⟩ := ba b2
      rw [z, of_decide_eq_true b1, of_decide_eq_true b3, of_decide_eq_true b4]
    · cases a3
  cases z : PySem.W.recIn K (ma K (ga K x) m) "staticmethod" with
  | none => rw [z] at a4; cases a4
  | some l =>
    cases l with
    | nil => rw [z] at a4; cases a4
    | cons v r =>
      rw [z] at a4
      cases v with
      | ref g =>
        have eg : g = (Pl.sta x m).ad K := of_decide_eq_true a4
        exact ⟨r, by rw [eg]⟩
      | _ => cases a4
/-! ### the Hook -/
section
variable {fa : List Fa} {ex : PySem.W.Frag → Bool} {fn : List DefA} {K : PySem.W.Frag}
theorem SaysA.fact (c : SaysA fa ex fn K) (i : Nat) {f : Fa} (h : fa[i]? = some f := by rfl) : f.ok K = true := by
  have c1 := (ba (show ((fa.all fun f => f.ok K) && (ex K && fn.all fun d => d.ok K)) = true from congrArg (fun z : AlA => z.1) c)).1
  exact List.all_eq_true.mp c1 f (List.mem_of_getElem? h)
theorem SaysA.more (c : SaysA fa ex fn K) : ex K = true := (ba (ba (show ((fa.all fun f => f.ok K) && (ex K && fn.all fun d => d.ok K)) = true from congrArg (fun z : AlA => z.1) c)).2).1
theorem SaysA.def_ (c : SaysA fa ex fn K) (i : Nat) {d : DefA} (h : fn[i]? = some d := by rfl) : fnC K (d.at_.ad K) = d.val ∧ d.ok K = true := by
  have c2 := (ba (ba (show ((fa.all fun f => f.ok K) && (ex K && fn.all fun d => d.ok K)) = true from congrArg (fun z : AlA => z.1) c)).2).2
  have e : fn.map (fun d => fnC K (d.at_.ad K)) = fn.map DefA.val := congrArg (fun z : AlA => z.2) c
  have e2 : (fn.map fun d => fnC K (d.at_.ad K))[i]? = (fn.map DefA.val)[i]? := by rw [e]
  rw [List.getElem?_map, List.getElem?_map, h] at e2
  exact ⟨Option.some.inj e2, List.all_eq_true.mp c2 d (List.mem_of_getElem? h)⟩
end
end ZX
set_option maxHeartbeats 2000000
namespace ZX
open PySem PySem.Spec PyProof.Rows L2 TL
/-- C(e, ..), C an own error with its own __init__, where nothing is handled: the error's context is None -/
theorem pmk_oexN {X : Cx} {CX : CXT} {x : Str} {C fI : Addr} {k : Nat} {fd : FuncData} {ps : List Str} {sp : Sp} {ta : TA} {e : Expr} {es : List Expr} {p pos : Pos} (T : OexC X.K C) (iC : PySem.W.findIn X.K (.ref C) "__init__" = some (some (.ref fI)))
    (tI : PySem.W.typeIn X.K (.ref fI) = some (.type "function")) (F1 : FnOk X.prog X.w X.K X.mg X.base CX k fI fd ps sp) (hr : Room (k + 1) X.A) (hb : Binds X.K fd ps []) (hx : Passes CX X (fun _ _ _ => False)) (hg : Gl X x) (hm : X.mg x = some (.ref C)) (ha : PA X (e :: es) ta)
    (hdb : (x == ("__debug__" : Str)) = false := by decide) (he : starEach (e :: es) X.env = (false, eval e X.env) :: starEach es X.env := by rfl) (hpl : (backTo pos (starEach es X.env)).any (·.1) = false := by rfl) :
    L2N.PMk X (.Call (.Name x p) (e :: es) [] pos) (tMkO C sp [] ta) := by
  intro pins s σ H Q I h
  obtain ⟨nm, q, N, bs, bm, sn, sub, ab, col, dd, k0, k1, k2, k3, k5, hC, hbm⟩ := T.cls
  refine wpAny_Call_Name_kw (ld_glob I hg hm ?_ hdb)
  refine PySem.W.callWith_K (h₀ := X.base) I.ok.mod.kin T.kC (thn (ha.run pos pins s σ H _ I h) fun us s1 ⟨vs, H1, I1, r1, hz, q1⟩ => ⟨I1.kIn, ?_⟩) he hpl
  obtain ⟨hp, g, dr, tk, os⟩ := s1
  have new : H1 (hp.objs.size + 1) = none := I1.hok.fresh (Nat.le_succ _)
  have hq := q1 (hp.objs.size + 1) new
  rw [List.append_nil] at hq
  have grow : ∀ b o, hp.get? b = some o → ((hp.push (PySem.W.kdv_tup us)).push (PySem.HandSPX.excO C hp.objs.size)).get? b = some o := fun b o z => Heap.get?_push_of_some _ (Heap.get?_push_of_some _ z)
  have I2 : Inv X pins σ (upd H1 (hp.objs.size + 1) (exo (hp.objs.size + 1) C none)) ⟨(hp.push (PySem.W.kdv_tup us)).push (PySem.HandSPX.excO C hp.objs.size), g, dr, tk, os⟩ :=
    I1.laid (t' := tk) (a := hp.objs.size + 1) (o := exo (hp.objs.size + 1) C none) (h' := (hp.push (PySem.W.kdv_tup us)).push (PySem.HandSPX.excO C hp.objs.size)) grow (Nat.le_succ _) (exo_ok (by heap_get))
  have r2 : Vals (V.ref (hp.objs.size + 1) :: vs) (Value.ref (hp.objs.size + 1) :: us) := .cons rfl r1
  have lens : (Value.ref (hp.objs.size + 1) :: us).length = ps.length := r2.length.symm.trans (F1.len _ _ _ _ hq)
  have b2 := hb _ (Value.ref (hp.objs.size + 1) :: us) I2.kIn (by rw [List.append_nil]; exact lens)
  rw [List.append_nil] at b2
  have few : us.length ≤ sizeLine := by
    rw [← Paired.length r1, sizeLine_eq]
    omega
  show wpAny _ _ (call (.ref C) us) _ _ _
  refine wpAny_call (PySem.HandSPX.call_own F.excBase_ValueError (fun Y => PySem.HandSPX.refsVE_contains Y bm hbm) (I1.kIn _ _ hC) (PySem.W.looks_findIn I1.kIn iC) (fun self => PySem.W.bind_fn I1.kIn self tI) few
    (codeAny_mono (FnOk.run F1 _ X.stack _ _ ⟨Value.ref (hp.objs.size + 1) :: us, []⟩ (Value.ref (hp.objs.size + 1) :: us) _ _ (fun _ _ _ => False) (hr.make C us []) (I2.env0.make C us []) b2 r2 hq) fun r s' hq' => ?_))
  cases r with
  | error er => exact hx pins σ _ _ er s' I2 hq'
  | ok fl =>
    cases fl with
    | next => exact hq'.elim
    | brk => exact hq'.elim
    | cont => exact hq'.elim
    | ret u =>
      obtain ⟨v, H2, os2, bare, un, hok, rv, ev, d, fs, ea, ed, hd1, q2⟩ := hq'
      subst ev
      obtain ⟨h2, g2, d2, t2, os'⟩ := s'
      obtain ⟨t0, G, J, kG, ge, hoe, na⟩ := mk_end0 (d2 := d2) (t2 := t2) I1 (Nat.le_succ _) grow un hok os2 bare ea ed hd1
      exact ⟨rv, hp.objs.size + 1, _, _, ⟨G, g2, d2, t2, os'⟩, _, .ref C, some d, rfl, J, kG, ge, hoe, ⟨rfl, rfl, fun ws hw => by cases hw; rfl⟩, rfl, rfl, na, rfl, bare, raises_own T.exC T.tyC, q2⟩
/-- nothing is let out -/
theorem passN {X : Cx} : Passes (L2N.CX X.prog X.w) X E0 := fun _ _ _ _ _ _ _ h => by
  obtain ⟨_, _, _, _, _, _, _, _, _, _, _, _, z⟩ := h
  exact False.elim z
theorem takesN {X : Cx} : L2N.Takes X (fun _ _ _ _ => False) := fun _ _ x => by
  obtain ⟨_, _, _, _, _, _, _, _, _, _, _, _, _, _, _, _, z⟩ := x
  exact z.elim
/-- isinstance(e, c) of the error that the suite holds, class and dict told by the reading -/
def rIsEG (K : PySem.W.Frag) (a : Addr) (cls : Value) (d : Option Addr) : List V → Hp → VK → Prop := fun xs H Q => ∃ D dd, cls = .ref D ∧ d = some dd ∧ ExcC K D ∧ rIsED K D a dd xs H Q
theorem call_isEG {X : Cx} {a : Addr} {cls : Value} {d : Option Addr} {oe : Obj} {pn : List (Addr × Obj)} (hz : Zc cls d oe) (hf : ∃ vs, oe.data = .fields vs) : CallR (X.suite a ((a, oe) :: pn)) (.builtin "isinstance") (rIsEG X.K a cls d) := by
  intro pins s σ H xs us Q I r h
  obtain ⟨D, dd, rfl, rfl, c, q⟩ := h
  exact call_isED c hz hf pins s σ H xs us Q I r q
/-- err.f, class and dict told by the reading -/
def tXg (K : PySem.W.Frag) (a : Addr) (cls : Value) (d : Option Addr) (f : Str) (te : TE) : TE := fun σ H Q => te σ H fun x H1 => x = .ref a ∧ ∃ C, cls = .ref C ∧ XfC K C ∧ PySem.W.findIn K (.ref C) f = some none ∧ ∃ (dd : Addr) (fs : List (Str × V)) (v : V), d = some dd ∧ H1 dd = some (.xd fs) ∧ fs.lookup f = some v ∧ Q v H1
theorem pe_xg {X : Cx} {a : Addr} {oe : Obj} {cls : Value} {d : Option Addr} {pn : List (Addr × Obj)} {e : Expr} {te : TE} {pos : Pos} {n : Str} (hz : Zc cls d oe) (hf : ∃ vs, oe.data = .fields vs) (he : PE (X.suite a ((a, oe) :: pn)) e te)
    (hb : attributeBase e n X.env (eval e X.env) = eval e X.env := by rfl) : PE (X.suite a ((a, oe) :: pn)) (.Attribute e n pos) (tXg X.K a cls d n te) := by
  refine ⟨fun pins s σ H Q I h => ?_⟩
  refine attr_of hb (thn (he.run pins s σ H _ I h) fun u s1 hh => ?_)
  obtain ⟨x, H1, I1, rx, ex, C, ec, T, hno, dd, fs, v, ed, ea, l, q⟩ := hh
  subst ex
  obtain rfl : u = Value.ref a := rx
  subst ec
  subst ed
  obtain ⟨ha, _⟩ := I1.pin (a, oe) (List.mem_append_left _ List.mem_cons_self)
  obtain ⟨vs, hd⟩ := hf
  have hx : ObjOk X.prog X.w H1 s1.heap dd (.xd fs) := I1.hok dd _ ea
  obtain ⟨mA, hns, hr⟩ := hx
  obtain ⟨od, ho, hl⟩ := lookIn_ns hns
  obtain ⟨u, hu, ru⟩ := RelO.some_of (v := v) (o := mA n) (by rw [← l]; exact hr n)
  have J : PySem.W.InstAt s1.heap a oe C (some od) := ⟨ha, hz.1, by unfold PySem.W.notCls; rw [hd] <;> rfl, by rw [hz.2]; exact ho⟩
  exact HandSPX.exc_get I1.kIn J T.ga T.gg T.exC (PySem.W.findObj_own T.hdC hno rfl (by rw [hl, hu])) (handed_of ru) ⟨v, H1, I1.tok _, ru, q⟩
end ZX
set_option maxHeartbeats 2000000
namespace ZX
open PySem PySem.Spec PyProof.Rows L2 HotX L2H
/-! ### for over a text while an error is handled -/
section
variable {prog : Program} {w : World} {A : Around} {E : Value → Shared → Prop} {s : Shared} {it x1 : Addr} {x : Str} {t : Tok} {i : Nat} {Q : Option Value → Shared → Prop} {ty : String}
theorem hot_ne (hot : HotAt A x1 s.heap) (hit : s.heap.IsStrIter it ty x t i) : x1 ≠ it := fun e => by
  obtain ⟨o, ho, hc, hd⟩ := hit
  obtain ⟨hh, o1, vs1, h1, d1, c1⟩ := hot
  rw [e, ho] at h1
  cases h1
  rw [hd] at d1
  cases d1
  cases c1
theorem ascii_end_hot (hot : HotAt A x1 s.heap) (hit : s.heap.IsStrIter it "str_ascii_iterator" x t i) (hx : x.cps[i]? = none) (hQ : ∀ h', (∀ b o, b ≠ it → s.heap.get? b = some o → h'.get? b = some o) → Q none { s with heap := h' }) : wpAny (model prog w) A (pyNext (.ref it)) Q E s := by
  have ne := hot_ne hot hit
  obtain ⟨o, ho, hc, hd⟩ := id hit
  obtain ⟨hh, o1, vs1, h1, d1, c1⟩ := hot
  unfold pyNext
  refine wpAny_bind (wpAny_attempt (wpAny_callSpecial?_slot (name := Str.ofString "__next__") hit.typeIs F.slot_str_ascii_iterator_next
    (wpAny_call_entry F.slot_str_ascii_iterator_next hit.typeIs F.entry_str_ascii_iterator_next ?_ (F.args_str_ascii_iterator_next_1 _))))
  show wpAny _ _ (field (.ref it) 0 >>= _) _ _ s
  refine wpAny_bind (wpAny_field ho hd (x := .str x t) rfl ?_)
  show wpAny _ _ (field (.ref it) 1 >>= _) _ _ s
  refine wpAny_bind (wpAny_field ho hd (x := .int i 0) rfl ?_)
  simp only [Int.toNat_natCast, hx]
  refine wpAny_bind (wpAny_rule (wpAny_bind (wpAny_setField ho hd (by simp) (wpAny_bind (wpAny_letGo ?_)))))
  show wpAny _ _ (newExc (.type "StopIteration") [] >>= _) _ _ _
  refine wpAny_bind ?_
  simp only [newExc, newTuple]
  refine wpAny_bind (wpAny_newObj_type ?_ (by size_fits))
  refine wpAny_bind (m := firstArgMember _ _) (wpAny_of_eq (a := Value.none) (by first | rfl | (simp only [firstArgMember]; rfl)) ?_)
  refine wpAny_newObj_type ?_ (by size_fits)
  refine raiseNew_hot ⟨hh, o1, vs1, Heap.get?_push_of_some _ (Heap.get?_push_of_some _ ((Heap.get?_update_other _ _ (Ne.symm ne)).trans h1)), d1, c1⟩ (Nat.ne_of_lt (Heap.lt_size (Heap.get?_push_of_some _ ((Heap.get?_update_other _ _ (Ne.symm ne)).trans h1)))) (Heap.get?_push_size _ rfl) rfl (by first | (simp; done) | (simp; omega) | (simp only [Array.size_append]; simp; omega)) ?_
  refine wpAny_bind (wpAny_isInstance (T := "StopIteration") (b := true) ⟨_, Heap.get?_update_self _ (Heap.get?_push_size _ rfl) rfl, rfl⟩ isSubtype_stop ?_)
  refine wpAny_pure (hQ _ fun b o' hb e => ?_)
  refine (Heap.get?_update_other _ _ ?_).trans (Heap.get?_push_of_some _ (Heap.get?_push_of_some _ ((Heap.get?_update_other _ _ (Ne.symm hb)).trans e)))
  exact Ne.symm (Nat.ne_of_lt (Heap.lt_size (Heap.get?_push_of_some _ ((Heap.get?_update_other _ _ (Ne.symm hb)).trans e))))
theorem wide_end_hot (hot : HotAt A x1 s.heap) (hit : s.heap.IsStrIter it "str_iterator" x t i) (hx : x.cps[i]? = none) (hQ : ∀ h', (∀ b o, b ≠ it → s.heap.get? b = some o → h'.get? b = some o) → Q none { s with heap := h' }) : wpAny (model prog w) A (pyNext (.ref it)) Q E s := by
  have ne := hot_ne hot hit
  obtain ⟨o, ho, hc, hd⟩ := id hit
  obtain ⟨hh, o1, vs1, h1, d1, c1⟩ := hot
  unfold pyNext
  refine wpAny_bind (wpAny_attempt (wpAny_callSpecial?_slot (name := Str.ofString "__next__") hit.typeIs F.slot_str_iterator_next
    (wpAny_call_entry F.slot_str_iterator_next hit.typeIs F.entry_str_iterator_next ?_ (F.args_str_iterator_next_1 _))))
  show wpAny _ _ (field (.ref it) 0 >>= _) _ _ s
  refine wpAny_bind (wpAny_field ho hd (x := .str x t) rfl ?_)
  show wpAny _ _ (field (.ref it) 1 >>= _) _ _ s
  refine wpAny_bind (wpAny_field ho hd (x := .int i 0) rfl ?_)
  simp only [Int.toNat_natCast, hx]
  refine wpAny_bind (wpAny_rule (wpAny_bind (wpAny_setField ho hd (by simp) (wpAny_bind (wpAny_letGo ?_)))))
  show wpAny _ _ (newExc (.type "StopIteration") [] >>= _) _ _ _
  refine wpAny_bind ?_
  simp only [newExc, newTuple]
  refine wpAny_bind (wpAny_newObj_type ?_ (by size_fits))
  refine wpAny_bind (m := firstArgMember _ _) (wpAny_of_eq (a := Value.none) (by first | rfl | (simp only [firstArgMember]; rfl)) ?_)
  refine wpAny_newObj_type ?_ (by size_fits)
  refine raiseNew_hot ⟨hh, o1, vs1, Heap.get?_push_of_some _ (Heap.get?_push_of_some _ ((Heap.get?_update_other _ _ (Ne.symm ne)).trans h1)), d1, c1⟩ (Nat.ne_of_lt (Heap.lt_size (Heap.get?_push_of_some _ ((Heap.get?_update_other _ _ (Ne.symm ne)).trans h1)))) (Heap.get?_push_size _ rfl) rfl (by first | (simp; done) | (simp; omega) | (simp only [Array.size_append]; simp; omega)) ?_
  refine wpAny_bind (wpAny_isInstance (T := "StopIteration") (b := true) ⟨_, Heap.get?_update_self _ (Heap.get?_push_size _ rfl) rfl, rfl⟩ isSubtype_stop ?_)
  refine wpAny_pure (hQ _ fun b o' hb e => ?_)
  refine (Heap.get?_update_other _ _ ?_).trans (Heap.get?_push_of_some _ (Heap.get?_push_of_some _ ((Heap.get?_update_other _ _ (Ne.symm hb)).trans e)))
  exact Ne.symm (Nat.ne_of_lt (Heap.lt_size (Heap.get?_push_of_some _ ((Heap.get?_update_other _ _ (Ne.symm hb)).trans e))))
end
theorem turn_strH {P : Program} {w : World} {K : PySem.W.Frag} {tg : Expr} (it : Addr) (x : Str) (t : Tok) (ty : String) (hty : ty = "str_ascii_iterator" ∨ ty = "str_iterator") : TurnH P w K tg (Its x) [it] it (fun i h => h.IsStrIter it ty x t i) where
  mem := by simp
  obj := fun i h st b hb => by
    have e : b = it := by simpa using hb
    subst e
    obtain ⟨o, e, c, d⟩ := st
    exact ⟨o, e, fun v z => by rw [d] at z; cases z⟩
  keep := fun i h h' st k => let ⟨o, ho, r⟩ := st; ⟨o, k it (by simp) o ho, r⟩
  item := by
    intro X hP hw hK hc i pins s σ H E I hf st hg
    subst hP hw hK
    obtain ⟨f0, f1, f2, f3, f4, f5⟩ := hf it (by simp)
    have hlt : i < x.cps.size := hg
    have hcx : x.cps[i]? = some x.cps[i] := Array.getElem?_eq_getElem hlt
    have hno : ["enumerate", "zip", "dict_itemiterator", "dict_reverseitemiterator", "odict_iterator", "itertools.zip_longest", "itertools.pairwise"].contains ty = false := by
      rcases hty with e | e
      · rw [e]; decide
      · rw [e]; decide
    have fin : ∀ h', h'.IsStrIter it ty x t (i + 1) → Heap.SameBut it s.heap h' → ∃ u, some (Value.str ⟨#[x.cps[i]]⟩ s.toks) = some u ∧ wpAny (model X.prog X.w) X.A (letOwnedTupleGo tg (.ref it) u) (fun _ s2 => ∃ y H', Inv X pins σ H' s2 ∧ RelV y u ∧ (Its x).yld i H y H' ∧ s2.heap.IsStrIter it ty x t (i + 1) ∧ ∀ b ∈ [it], H' b = none) E { s with heap := h', toks := s.toks + 1 } := fun h' st' sb => by
      have I1 : Inv X pins σ H { s with heap := h', toks := s.toks + 1 } := I.turned (fun b o hb e => (sb.2 b hb).trans e) f0 f1 f3 f4 f5
      obtain ⟨oi, e, cc, dd⟩ := id st'
      exact ⟨_, rfl, go_of (s := { s with heap := h', toks := s.toks + 1 }) e cc dd hno ⟨.str ⟨#[x.cps[i]]⟩, H, I1, ⟨_, rfl⟩, ⟨rfl, _, hcx, rfl⟩, st', fun b hb => (hf b hb).1⟩⟩
    rcases hty with e | e
    · subst e
      exact wpAny_pyNext_ascii_item st hcx fun h' st' sb => fin h' st' sb
    · subst e
      exact wpAny_pyNext_wide_item st hcx fun h' st' sb => fin h' st' sb
  done := by
    intro X hP hw hK hc i pins s σ H E I hf st hg
    subst hP hw hK
    obtain ⟨f0, f1, f2, f3, f4, f5⟩ := hf it (by simp)
    obtain ⟨x1, hot⟩ := hc.at I
    have hx : x.cps[i]? = none := Array.getElem?_eq_none hg
    rcases hty with e | e
    · subst e
      exact ascii_end_hot hot st hx fun h' eb => ⟨rfl, I.turned (t' := s.toks) (fun b o hb e => eb b o hb e) f0 f1 f3 f4 f5⟩
    · subst e
      exact wide_end_hot hot st hx fun h' eb => ⟨rfl, I.turned (t' := s.toks) (fun b o hb e => eb b o hb e) f0 f1 f3 f4 f5⟩
  self := fun A i s Q E st h => by
    rcases hty with e | e
    · rw [e] at st; exact wpAny_pyIter_striter_ascii st h
    · rw [e] at st; exact wpAny_pyIter_striter_wide st h
theorem oneH {X : Cx} {tg : Expr} {pins : List (Addr × Obj)} {σ : L2.St} {H : Hp} {s : Shared} {R : It → Hp → Prop} {x : Str} {t : Tok} {ty : String} {tk : Nat} (hty : ty = "str_ascii_iterator" ∨ ty = "str_iterator") (I : Inv X pins σ H s) (q : R (Its x) H) :
    PIEH X pins σ tg R (.ref s.heap.objs.size) { s with heap := s.heap.push { cls := .type ty, data := .fields #[.str x t, .int 0 0] }, toks := tk } := by
  refine ⟨s.heap.objs.size, [s.heap.objs.size], _, _, H, rfl, I.kept fun b o e => Heap.get?_push_of_some _ e, turn_strH _ x t ty hty, ⟨_, Heap.get?_push_size _ rfl, rfl, rfl⟩, fun b hb => ?_, q⟩
  have e : b = s.heap.objs.size := by simpa using hb
  subst e
  exact I.fpOk (Nat.le_refl _) (I.hok.fresh (Nat.le_refl _))
theorem pi_strH {X : Cx} {tg e : Expr} {te : TE} (he : PE X e te) : PIH X tg e (iStr te) := by
  refine ⟨fun pins s σ H R I h => ?_⟩
  refine thn (he.run pins s σ H _ I h) fun v s1 ⟨y, H1, I1, r1, x, ex, q⟩ => ?_
  subst ex
  obtain ⟨t, rfl⟩ := r1
  cases ha : x.cps.all (· < 128)
  · exact wpAny_pyIter_wide ha (oneH (.inr rfl) I1 q)
  · exact wpAny_pyIter_ascii ha (oneH (.inl rfl) I1 q)
end ZX
set_option maxHeartbeats 2000000
namespace ZX
open PySem PySem.Spec PyProof.Rows L2
/-! ### a + b, len(a) by own methods -/
theorem op_binOwn {X : Cx} {CX : CXT} {n : Nat} {C g : Addr} {sp : Sp} {E : XK} {op : Operator} (hc : PySem.W.selfFirst X.K C = true) (hs : PySem.W.findIn X.K (.ref C) (PySem.dunder op.info.2) = some (some (.ref g))) (hf : PySem.W.isFn X.K (.ref g) = true)
    (F : FnR X.prog X.w X.K X.mg X.base CX n g sp) (hr : Room n X.A) (hx : Passes CX X E) : OpR X (binaryOp op) (rOwnI C sp E) := by
  intro pins s σ H x y v u Q I rx ry h
  obtain ⟨a, dx, fs, b, dy, gs, rfl, rfl, ha, hb, q⟩ := h
  cases (show v = Value.ref a from rx)
  cases (show u = Value.ref b from ry)
  obtain ⟨mA, J, _⟩ := ins_get I.hok ha
  obtain ⟨mB, J', _⟩ := ins_get I.hok hb
  obtain ⟨od, J, _⟩ := J.look
  obtain ⟨od', J', _⟩ := J'.look
  obtain ⟨m, hF⟩ := I.fr
  refine PySem.W.binop_K hF I.ok.mod.kin J J'.type hc hs hf ?_
  refine wpAny_mono (wpAny_call (run_fnR (us := [.ref a, .ref b]) (vs := [.ref a, .ref b]) F hr hx I (.cons rfl (.cons rfl .nil)) q)) (fun w s' z => ?_) fun _ _ x => x
  obtain ⟨z', H', I', rz, qz⟩ := z
  exact SlX.cmpback rz ⟨z', H', I', rz, qz⟩
/-- len(o) by an own __len__ -/
def rLenOwn (C : Addr) (sp : Sp) (E : XK) : List V → Hp → VK → Prop := fun xs H Q => ∃ a dx fs, xs = [.ref a] ∧ H a = some (.ins C dx fs) ∧ sp [.ref a] H (fun v H' => ∃ i : Int, v = .int i ∧ 0 ≤ i ∧ i < 2 ^ 63 ∧ Q v H') E
theorem call_lenOwn {X : Cx} {CX : CXT} {n : Nat} {C g : Addr} {sp : Sp} {E : XK} (hs : PySem.W.findIn X.K (.ref C) "__len__" = some (some (.ref g))) (hf : PySem.W.isFn X.K (.ref g) = true) (F : FnR X.prog X.w X.K X.mg X.base CX n g sp) (hr : Room (n + 1) X.A)
    (hx : ∀ (H : Hp) (s : Shared) (e : Value) (s' : Shared), CX X.stack H s E e s' → False) : CallR X (.builtin "len") (rLenOwn C sp E) := by
  intro pins s σ H xs us Q I r h
  obtain ⟨a, dx, fs, rfl, ha, q⟩ := h
  cases r with
  | cons r1 rs =>
    cases rs
    cases r1
    obtain ⟨mA, J, _⟩ := ins_get I.hok ha
    obtain ⟨od, J, _⟩ := J.look
    obtain ⟨m, hF⟩ := I.fr
    refine PySem.W.len_K hF I.ok.mod.kin J hs hf ?_
    refine wpAny_call (codeAny_mono (F X.A.in1 X.stack s H [.ref a] [.ref a] _ E hr.in1 I.env0.in1 (.cons rfl .nil) q) fun r s' hq => ?_)
    cases r with
    | error e => exact (hx _ _ _ _ hq).elim
    | ok fl =>
      cases fl with
      | ret u =>
        obtain ⟨v, H', I2, rv, i, ev, i0, i1, q2⟩ := I.after hq
        subst ev
        obtain ⟨t, rfl⟩ := (show ∃ t, u = Value.int i t from rv)
        exact ⟨⟨i0, i1⟩, .int i, H', I2.tok _, ⟨_, rfl⟩, q2⟩
      | next => exact False.elim hq
      | brk => exact False.elim hq
      | cont => exact False.elim hq
end ZX
set_option maxHeartbeats 2000000
namespace ZX
open PySem PySem.Spec PyProof.Rows L2
/-! ### list(d.values()) -/
def tListVals (te : TE) : TE := fun σ H Q => te σ H fun x H1 => ∃ (d : Addr) (kvs : List (Key × V)), x = .ref d ∧ H1 d = some (.dK kvs) ∧ ∀ p, H1 p = none → Q (.ref p) (upd H1 p (.lst (kvs.map Prod.snd)))
theorem pe_listVals {X : Cx} {e : Expr} {te : TE} {p apos cpos pos : Pos} (hc : X.calm = true) (he : PE X e te) (hg : Gl X "list") (hm : X.mg "list" = none) (hv : bootBuiltins "list" = some (.type "list")) (hbase : attributeBase e "values" X.env (eval e X.env) = eval e X.env := by rfl) (hline : (apos.endLine == cpos.line) = true := by rfl)
    (hs : starEach [.Call (.Attribute e "values" apos) [] [] cpos] X.env = (false, eval (.Call (.Attribute e "values" apos) [] [] cpos) X.env) :: starEach [] X.env := by rfl) :
    PE X (.Call (.Name "list" p) [.Call (.Attribute e "values" apos) [] [] cpos] [] pos) (tListVals te) := by
  refine ⟨fun pins s σ H Q I hq => ?_⟩
  refine wpAny_Call_Name_kw (ld_blt I hg hm hv ?_)
  refine PyProof.Rows.callWith_type1 ?_ hs rfl
  rw [hs]
  show wpAny _ _ (spliced ((false, eval (.Call (.Attribute e "values" apos) [] [] cpos) X.env) :: backTo pos (starEach [] X.env))) _ _ s
  refine Calls.spliced_cons ?_
  refine wpAny_Call_method (T := "dict") (id := "dict.values") hbase rfl hline F.plainAttrs_dict F.slot_dict_values F.type_dict_values (thn (he.run pins s σ H _ I hq) fun u s1 ⟨x, H1, I1, rx, d, kvs, ex, hd, q⟩ => ?_)
  subst ex
  obtain rfl : u = Value.ref d := rx
  obtain ⟨hz, hs0, vs, kv, hdo⟩ := I1.hok d _ hd
  obtain ⟨ep, hat⟩ := hdo.dictAt
  have lk : kvs.length = vs.length := Paired.length kv
  have I2 : Inv X pins σ H1 { s1 with heap := s1.heap.push { cls := .type "dict_values", data := .fields #[.ref d] } } := I1.kept (t' := s1.toks) fun b ob q => Heap.get?_push_of_some _ q
  refine ⟨hdo.typeIs, hdo.mapOf.noDict, ?_⟩
  show wpAny _ _ (callWith cpos (.builtin "dict.values") [.ref d] [] []) _ X.xe s1
  refine method_meetsIn F.slot_dict_values F.entry_dict_values rfl (PySem.evalArgs_none ⟨rfl, hdo.typeIs, F.args_dict_values_1 _, _, meets_dict_values (mixKind X.prog X.w) d hs0, ⟨vs, hdo⟩, ?_⟩)
  refine Calls.spliced_nil ?_
  refine PySem.W.kdl_call (PySem.W.kdl_values (knd := mixKind X.prog X.w) (kvs := vs) (ep := ep)) (I1.ok.hd hc) ⟨⟨_, Heap.get?_push_size _ rfl, rfl, rfl⟩, hat.push _⟩ (by omega) fun h' tk acc' c' hkeep hS hacc => ?_
  refine ⟨.ref _, upd H1 _ (.lst (kvs.map Prod.snd)), I2.laid hkeep (Nat.le_refl _) ⟨?_, acc'.toList, c', ?_, ?_⟩, rfl, q _ (I2.hok.fresh (Nat.le_refl _))⟩
  · rw [List.length_map]; exact hz
  · have el : acc'.toList.length = acc'.size := by simp
    refine vals_of_at (by rw [List.length_map, el, hacc.1, lk]) fun j x v h1 h2 => ?_
    obtain ⟨k, hky⟩ := hacc.2 j v (by rw [← Array.getElem?_toList]; exact h2)
    rw [List.getElem?_map] at h1
    cases hj : kvs[j]? with
    | none => rw [hj] at h1; cases h1
    | some kx =>
      rw [hj] at h1
      cases h1
      obtain ⟨y, e1, e2⟩ := LiI.paired_get kv hj
      rw [hky] at e1
      cases e1
      exact e2.2
  · rw [Array.toArray_toList]; exact hS
/-! ### a list of texts == a list of texts -/
def rEqLS (K : PySem.W.Frag) : R2 := fun x y H Q => ∃ (a b : Addr) (xs ys : List Str), x = .ref a ∧ y = .ref b ∧ SqL K H a (xs.map V.str) ∧ SqL K H b (ys.map V.str) ∧ Q (.bl (decide (xs = ys))) H
theorem strs_at {xs : List Str} {us : List Value} (r : Vals (xs.map V.str) us) {j : Nat} (h1 : j < xs.length) (h2 : j < us.length) : ∃ t, us[j] = .str xs[j] t := by
  obtain ⟨y, e, q⟩ := LiI.paired_get r (i := j) (x := V.str xs[j]) (by rw [List.getElem?_map, List.getElem?_eq_getElem h1]; rfl)
  rw [List.getElem?_eq_getElem h2] at e
  cases e
  exact q
theorem all_eq {xs ys : List Str} (hl : xs.length = ys.length) : ((List.range xs.length).all fun j => xs.getD j "" == ys.getD j "") = decide (xs = ys) := by
  by_cases h : xs = ys
  · rw [decide_eq_true h, h]
    exact List.all_eq_true.mpr fun j _ => beq_self_eq_true _
  · rw [decide_eq_false h]
    refine Bool.eq_false_iff.mpr fun z => h (List.ext_getElem hl fun j h1 h2 => ?_)
    have q := eq_of_beq (List.all_eq_true.mp z j (List.mem_range.mpr h1))
    rw [List.getD_eq_getElem?_getD, List.getD_eq_getElem?_getD, List.getElem?_eq_getElem h1, List.getElem?_eq_getElem h2] at q
    exact q
theorem op_eqLS {X : Cx} (hu : X.A.units < cLine) : OpR X (compareOp .Eq) (rEqLS X.K) := by
  intro pins s σ H x y v u Q I rx ry h
  obtain ⟨a, b, xs, ys, rfl, rfl, ha, hb, q⟩ := h
  obtain rfl : v = Value.ref a := rx
  obtain rfl : u = Value.ref b := ry
  obtain ⟨i1, r1, ⟨o1, m1, g1, c1, d1, p1⟩, _⟩ := I.list ha
  obtain ⟨i2, r2, ⟨o2, m2, g2, c2, d2, p2⟩, _⟩ := I.list hb
  have l1 : s.heap.IsList a i1.toArray := ⟨o1, g1, c1, m1, p1⟩
  have l2 : s.heap.IsList b i2.toArray := ⟨o2, g2, c2, m2, p2⟩
  have n1 : xs.length = i1.length := by have := Paired.length r1; rw [List.length_map] at this; exact this
  have n2 : ys.length = i2.length := by have := Paired.length r2; rw [List.length_map] at this; exact this
  have fin : ∀ k : Bool, k = decide (xs = ys) → ∃ (v' : V) (H' : Hp), Inv X pins σ H' s ∧ RelV v' (Value.bool k) ∧ Q v' H' := fun k hk => ⟨.bl k, H, I, rfl, by rw [hk]; exact q⟩
  show wpAny _ _ (richCompare .Eq (.ref a) (.ref b)) _ _ _
  by_cases hl : xs.length = ys.length
  · refine SeqAt.rcP_lists (e := fun j => xs.getD j "" == ys.getD j "") l1 l2 (by simp; omega) hu (fun j h1 h2 => ?_) _ _ ?_
    · have h1' : j < i1.length := by simpa using h1
      have h2' : j < i2.length := by simpa using h2
      obtain ⟨t, e1⟩ := strs_at r1 (j := j) (by omega) h1'
      obtain ⟨t2, e2⟩ := strs_at r2 (j := j) (by omega) h2'
      rw [show i1.toArray[j] = i1[j] by simp, show i2.toArray[j] = i2[j] by simp, e1, e2]
      rw [show xs.getD j "" = xs[j]'(by omega) by rw [List.getD_eq_getElem?_getD, List.getElem?_eq_getElem (by omega)]; rfl, show ys.getD j "" = ys[j]'(by omega) by rw [List.getD_eq_getElem?_getD, List.getElem?_eq_getElem (by omega)]; rfl, ← SeqAt.str_beq]
      exact SeqAt.EqAt.eqP ((SeqRoads2.EqGives.str _ _ t t2).at _ s)
    · refine fin _ ?_
      rw [show i1.toArray.size = xs.length by simp; omega]
      exact all_eq hl
  · obtain ⟨⟨cls, dd, data, sl⟩, ho, hc, n, hd⟩ := id l1
    obtain ⟨⟨cls2, dd2, data2, sl2⟩, ho2, hc2, n2', hd2⟩ := id l2
    simp only at hc hd hc2 hd2
    subst hc hd hc2 hd2
    have ta : s.TypeIs (.ref a) "list" := ⟨_, ho, rfl⟩
    have tb : s.TypeIs (.ref b) "list" := ⟨_, ho2, rfl⟩
    refine wpAny_richCompare_same_room (op := .Eq) ta tb F.slot_list_eq (call_meets F.slot_list_eq ta F.entry_list_eq (F.args_list_eq_2 _ _) (SeqAt.list_eq_lengthsAt a b i1.toArray i2.toArray n n2' dd dd2 sl sl2 ?_) ⟨ho, ho2, ⟨(fun x => nomatch x), fin _ ?_⟩⟩) hu
    · simp; omega
    · exact (decide_eq_false fun e => hl (by rw [e])).symm
end ZX
set_option maxHeartbeats 2000000
namespace ZX
open PySem PySem.Spec PyProof.Rows L2 He
/-! ### C.m(e, ..), m a def of the class (the object is given); cls(e, ..), cls a local -/
structure CFn (K : PySem.W.Frag) (C : Addr) (mc : Value) (m : Str) (g : Addr) : Prop where
  rd : ClX.CRead K C mc
  at_ : ClX.CVal K C mc m (.ref g) (.ref g)
  kp : PySem.W.keepIn K (.ref g) = true
section
variable {X : Cx} {CX : CXT} {k i : Nat} {C p g f : Addr} {mc : Value} {fd : FuncData} {ps : List Str} {sp : Sp} {E : L2.St → XK} {E1 : XK} {o e : Expr} {es : List Expr} {m x : Str} {pos apos xp : Pos} {ta : TE} {t : TA} {pl : Sem Bool} {dvs : List V} {ds : List Value}
theorem pe_clsFn (he : PE X o ta) (c : CFn X.K C mc m g) (F : FnOk X.prog X.w X.K X.mg X.base CX k g fd ps sp) (hb : Binds X.K fd ps []) (hr : Room k X.A) (hx : ∀ σ, PassesAt CX X σ (E σ)) (ha : PA X (e :: es) t)
    (hst : starEach (e :: es) X.env = (false, eval e X.env) :: starEach es X.env := by rfl) (hpl : (backTo pos (starEach es X.env)).any (·.1) = false := by rfl)
    (ht : eval (.Call (.Attribute o m apos) (e :: es) [] pos) X.env = (do
      let ov ← eval o X.env
      standAt apos.atName
      let (f, first) ← holding [ov] (getMethod ov m pl)
      callWith pos f first (backTo pos (starEach (e :: es) X.env)) (backToKw pos (keywordEach [] X.env))) := by rfl) :
    PE X (.Call (.Attribute o m apos) (e :: es) [] pos) (tStatS C sp E ta t) := by
  refine ⟨fun pins s σ H Q I h => ?_⟩
  refine PySem.W.methodCall_KW (pl := pl) (thn (he.run pins s σ H _ I h) fun u s1 ⟨x, H1, I1, rx, ex, q⟩ => ?_) ht
  subst ex
  obtain rfl : u = Value.ref C := rx
  refine PySem.W.method_cls I1.kIn c.rd.ga (ClX.getcval_ok I1 c.rd c.at_ fun s2 I2 => ?_)
  refine PySem.W.callWith_K (h₀ := X.base) I2.ok.mod.kin c.kp (thn (ha.run pos pins _ σ H1 _ I2 q) fun us s2 ⟨vs, H2, I3, r, q2⟩ => ⟨I3.kIn, ?_⟩) hst hpl
  exact run_fnS F hr hb (hx σ) I3 r q2
/-- cls(e, ..) -/
def tMakeV (i : Nat) (C : Addr) (sp : Sp) (dvs : List V) (E : XK) (t : TA) : TE := fun σ H Q => σ[i]? = some (some (.ref C)) ∧ tMake C sp dvs E t σ H Q
theorem pe_makeV (M : Mk X.K C f) (F : FnOk X.prog X.w X.K X.mg X.base CX k f fd ps sp) (hr : Room (k + 1) X.A) (hN : X.N[i]? = some x) (hv : Vis X.env.scope x) (hb : Binds X.K fd ps ds) (hd : Vals dvs ds) (hx : Passes CX X E1) (ha : PA X (e :: es) t)
    (hdb : (x == ("__debug__" : Str)) = false := by decide) (hcd : (x == ("__classdict__" : Str)) = false := by decide)
    (he : starEach (e :: es) X.env = (false, eval e X.env) :: starEach es X.env := by rfl) (hpl : (backTo pos (starEach es X.env)).any (·.1) = false := by rfl) : PE X (.Call (.Name x xp) (e :: es) [] pos) (tMakeV i C sp dvs E1 t) := by
  refine ⟨fun pins s σ H Q I h => ?_⟩
  obtain ⟨hs, ht⟩ := h
  refine wpAny_Call_Name_kw (thn ((pe_var (pos := xp) hN hv hdb hcd).run pins s σ H (fun v H1 => v = .ref C ∧ H1 = H) I ⟨.ref C, hs, rfl, rfl⟩) fun u s1 ⟨v, H1, I1, r1, q1⟩ => ?_)
  obtain ⟨rfl, rfl⟩ := q1
  cases r1
  refine PySem.W.callWith_K (h₀ := X.base) I1.ok.mod.kin M.kp (thn (ha.run pos pins s1 σ _ _ I1 ht) fun us s2 ⟨vs, H2, I2, r, q⟩ => ⟨I2.kIn, ?_⟩) he hpl
  exact run_make M F hr hb hd hx I2 r q
end
/-! ### facts -/
theorem read_ok {K : PySem.W.Frag} {x : Str} (h : readB K x = true) : ClX.CRead K (ga K x) (.type "type") := by
  obtain ⟨a1, a2⟩ := ba h
  exact ⟨a1, eqO_ok a2⟩
/-- a def of the class x, read off the class y (or one below it) -/
theorem cfn_ok {K : PySem.W.Frag} {x m : Str} (h : cfnB K x m = true) : CFn K (ga K x) (.type "type") m (ma K (ga K x) m) := by
  obtain ⟨a1, h⟩ := ba h
  obtain ⟨a2, a3⟩ := ba h
  refine ⟨read_ok a1, ⟨?_, rfl⟩, a3⟩
  split at a2
  · rename_i g z
    rw [z, of_decide_eq_true a2]
  · cases a2
/-- a class's whole number -/
theorem cint_ok {K : PySem.W.Frag} {x m : Str} {n : Int} (h : cintB K x m n = true) : ∃ u, ClX.CVal K (ga K x) (.type "type") m (.int n) u := by
  unfold cintB at h
  split at h
  · rename_i i t z
    have e : i = n := of_decide_eq_true h
    subst e
    exact ⟨_, z, t, rfl⟩
  · cases h
/-- a class's tuple of texts -/
theorem strVs_ok : ∀ {vs : List Value} {zs : List Str}, strVs vs zs = true → Vals (zs.map V.str) vs
  | [], [], _ => .nil
  | [], _ :: _, h => by cases h
  | v :: vs, [], h => by cases v <;> cases h
  | v :: vs, y :: ys, h => by
    cases v with
    | str z t =>
      obtain ⟨h1, h2⟩ := ba h
      have e : z = y := of_decide_eq_true h1
      exact .cons ⟨t, by rw [e]⟩ (strVs_ok h2)
    | _ => cases h
theorem ctup_ok {K : PySem.W.Frag} {x m : Str} {zs : List Str} (h : ctupB K x m zs = true) : ClX.CVal K (ga K x) (.type "type") m (.ref (ctOf K x m)) (.ref (ctOf K x m)) ∧ ∀ H, SqT K H (ctOf K x m) (zs.map V.str) := by
  obtain ⟨a1, a2⟩ := ba h
  refine ⟨⟨?_, rfl⟩, fun H => ?_⟩
  · split at a1
    · rename_i p z
      rw [z, of_decide_eq_true a1]
    · cases a1
  · split at a2
    · rename_i t d its n sl z
      obtain ⟨b1, b2⟩ := ba a2
      obtain ⟨b3, b4⟩ := ba b2
      have e : t = "tuple" := of_decide_eq_true b1
      subst e
      exact .inr ⟨_, its, n, z, rfl, rfl, Nat.le_trans (of_decide_eq_true b3) (by decide), strVs_ok b4⟩
    · cases a2
/-- a classmethod -/
theorem cmet_ok {K : PySem.W.Frag} {x m : Str} (h : cmetB K x m = true) : ClX.CMet K (ga K x) (.type "type") m (ma K (ga K x) m) ((Pl.rcd "classmethod" x m).ad K) := by
  obtain ⟨a3, h⟩ := ba h
  obtain ⟨a4, a5⟩ := ba h
  refine ⟨?_, ?_, a5⟩
  · split at a3
    · rename_i n p C z
      obtain ⟨b1, b2⟩ := ba a3
      obtain ⟨b3, b4⟩ := ba b2
      rw [z, of_decide_eq_true b1, of_decide_eq_true b3, of_decide_eq_true b4]
    · cases a3
  · split at a4
    · rename_i g r z
      exact ⟨r, by rw [z, of_decide_eq_true a4]⟩
    · cases a4
/-- a property's getter -/
theorem prop_ok {K : PySem.W.Frag} {x m : Str} (h : propB K x m = true) : PropOf K (ga K x) m (ma K (ga K x) m) ((Pl.rcd "property" x m).ad K) := by
  obtain ⟨a1, h⟩ := ba h
  obtain ⟨a2, h⟩ := ba h
  obtain ⟨a3, a4⟩ := ba h
  refine ⟨eqO_ok a1, eqO_ok a2, of_decide_eq_true a3, ?_⟩
  split at a4
  · rename_i g r z
    exact ⟨r, by rw [z, of_decide_eq_true a4]⟩
  · cases a4
end ZX
set_option maxHeartbeats 2000000
namespace ZX
open PySem PySem.Spec PyProof.Rows L2 He
/-! ### keyword-only parameters with defaults, some of them given -/
theorem kb0 {K : PySem.W.Frag} {x qual : Str} {params : Arguments} {body : List Stmt} {scope : Scope} {kws : List (Str × V)} {f : Addr} {fd : FuncData} {ps : List Str} (F : FunD K x qual params body scope [] kws f fd) (n : Nat) (ks : List Str) (ms : List (Str × V))
    (g : {α : Type} → List α → List α → List α → List α) (hk : kws ≠ []) (hms : ∀ q ∈ ms, q ∈ kws)
    (hrel : ∀ {vs mz zs : List V} {us mv ws : List Value}, Vals vs us → Vals mz mv → Vals zs ws → Vals (g vs mz zs) (g us mv ws))
    (h : ∀ (D : Addr) (doc pm : Value) (an : Option Addr) (cdv ct : Value) (us mv ws : List Value), us.length = n → mv.length = ms.length → ws.length = ks.length →
      KwChain D ((ms.map (·.1)).zip mv) (bindArgs (PySem.W.fnOf x qual params body scope .none (.ref D) doc pm an cdv ct) ⟨us, ks.zip ws⟩) (ps.zip (g us mv ws))) :
    ∃ mv : List Value, KBn K fd ps n ks (fun us ws => g us mv ws) (fun vs zs => g vs (ms.map (·.2)) zs) := by
  obtain ⟨oc, od, dV, kV, doc, pm, an, cdv, ct, osl, rfl, lk, hcd, hD, hK⟩ := F.ex
  rcases hD with ⟨_, rfl⟩ | ⟨e, _⟩
  · rcases hK with e | ⟨D, rfl, hq⟩
    · exact absurd e hk
    · obtain ⟨mv, hl, rk, hks⟩ := kwd_vals (ms := ms) fun q hm => hq q (hms q hm)
      exact ⟨mv, ⟨fun s us ws X l1 l2 => L2.BindsTo.of_looks fun M => KwChain.looks X hks (h D doc pm an cdv ct us mv ws l1 hl l2), fun r1 r2 => hrel r1 rk r2⟩⟩
  · exact absurd rfl e
/-- no parameter lacks -/
theorem kbAll {K : PySem.W.Frag} {x qual : Str} {params : Arguments} {body : List Stmt} {scope : Scope} {dvs : List V} {kws : List (Str × V)} {f : Addr} {fd : FuncData} {ps : List Str} (F : FunD K x qual params body scope dvs kws f fd) (n : Nat) (ks : List Str)
    (g : {α : Type} → List α → List α → List α)
    (hrel : ∀ {vs zs : List V} {us ws : List Value}, Vals vs us → Vals zs ws → Vals (g vs zs) (g us ws))
    (h : ∀ (dV kV doc pm : Value) (an : Option Addr) (cdv ct : Value) (us ws : List Value), us.length = n → ws.length = ks.length → (dvs = [] → dV = .none) →
      bindArgs (PySem.W.fnOf x qual params body scope dV kV doc pm an cdv ct) ⟨us, ks.zip ws⟩ = pure (ps.zip (g us ws))) :
    KBn K fd ps n ks (fun us ws => g us ws) (fun vs zs => g vs zs) := by
  obtain ⟨oc, od, dV, kV, doc, pm, an, cdv, ct, osl, rfl, lk, hcd, hD, hK⟩ := F.ex
  exact ⟨fun s us ws X l1 l2 => .of_eq (h dV kV doc pm an cdv ct us ws l1 l2 fun e => by
    rcases hD with ⟨_, e2⟩ | ⟨e2, _⟩
    · exact e2
    · exact absurd e e2), fun r1 r2 => hrel r1 r2⟩
section
variable {X : Cx} {CX : CXT} {k n : Nat} {C g f : Addr} {mc : Value} {fd : FuncData} {ps ks : List Str} {sp : Sp} {E : L2.St → XK} {E1 : XK} {o e : Expr} {es : List Expr} {kws : List Keyword} {m x : Str} {p pos apos : Pos} {ta : TE} {t tk : TA} {pl : Sem Bool}
  {gg : List Value → List Value → List Value} {gV : List V → List V → List V}
/-- C(k = v, ..) -/
theorem pe_makeN0 (M : Mk X.K C f) (F : FnOk X.prog X.w X.K X.mg X.base CX k f fd ps sp) (hr : Room (k + 1) X.A) (hg : Gl X x) (hm : X.mg x = some (.ref C)) (hb : KBn X.K fd ps 1 ks gg gV) (hx : Passes CX X E1)
    (hkw : PK X kws tk) (hall : (backToKw pos (keywordEach kws X.env)).all (·.1.isSome) = true := by rfl) (hks : (backToKw pos (keywordEach kws X.env)).filterMap (·.1) = ks := by rfl)
    (hdb : (x == ("__debug__" : Str)) = false := by decide)
    (hpl : ((backTo pos (starEach [] X.env)).any (·.1) || (backToKw pos (keywordEach kws X.env)).any (·.1.isNone)) = false := by rfl) :
    PE X (.Call (.Name x p) [] kws pos) (tMakeN C 0 ks.length sp gV E1 tNil tk) := by
  refine ⟨fun pins s σ H Q I h => ?_⟩
  refine wpAny_Call_Name_kw (ld_glob I hg hm (PySem.W.callWith_KW0 (h₀ := X.base) I.ok.mod.kin M.kp hall ?_ hpl) hdb)
  refine thn (hkw.run pos pins s σ H _ I h) fun ws s2 ⟨zs, H2, I2, rz, l1, l2, q2⟩ => ⟨I2.kIn, ?_⟩
  rw [hks]
  exact run_makeN (us := []) (vs := []) M F hr hb hx I2 .nil rz l1 l2 q2
/-- a call with keywords, errors at the reading σ -/
theorem run_fnKS {pins : List (Addr × Obj)} {σ : L2.St} {H : Hp} {s : Shared} {Q : VK} {E : XK} {us ws : List Value} {vs zs : List V} (F : FnOk X.prog X.w X.K X.mg X.base CX k f fd ps sp) (hr : Room k X.A) (hb : KBn X.K fd ps n ks gg gV) (hx : PassesAt CX X σ E)
    (I : Inv X pins σ H s) (r : Vals vs us) (rz : Vals zs ws) (l1 : vs.length = n) (l2 : zs.length = ks.length) (h : sp (gV vs zs) H Q E) : wpAny (model X.prog X.w) X.A (call (.ref f) us (ks.zip ws)) (EP X pins σ Q) X.xe s := by
  have r2 := hb.rel r rz
  refine wpAny_call (codeAny_mono (F.run X.A X.stack s H ⟨us, ks.zip ws⟩ (gg us ws) (gV vs zs) Q E hr I.env0 (hb.to s us ws I.kIn (r.length.symm.trans l1) (rz.length.symm.trans l2)) r2 h) fun r s' hq => ?_)
  cases r with
  | error e => exact hx pins H s e s' I hq
  | ok fl =>
    cases fl with
    | ret u => exact I.after hq
    | next => exact False.elim hq
    | brk => exact False.elim hq
    | cont => exact False.elim hq
def tClsK (C : Addr) (n m : Nat) (sp : Sp) (gV : List V → List V → List V) (E : L2.St → XK) (ta : TE) (t tk : TA) : TE := fun σ H Q => ta σ H fun x H1 => x = .ref C ∧ t σ H1 fun vs H2 => tk σ H2 fun zs H3 => vs.length = n ∧ zs.length = m ∧ sp (gV vs zs) H3 Q (E σ)
/-- C.m(e, .., k = v, ..), m a def of the class -/
theorem pe_clsFnK (he : PE X o ta) (c : CFn X.K C mc m g) (F : FnOk X.prog X.w X.K X.mg X.base CX k g fd ps sp) (hb : KBn X.K fd ps n ks gg gV) (hr : Room k X.A) (hx : ∀ σ, PassesAt CX X σ (E σ)) (ha : PA X (e :: es) t) (hkw : PK X kws tk)
    (hall : (backToKw pos (keywordEach kws X.env)).all (·.1.isSome) = true := by rfl) (hks : (backToKw pos (keywordEach kws X.env)).filterMap (·.1) = ks := by rfl)
    (hst : starEach (e :: es) X.env = (false, eval e X.env) :: starEach es X.env := by rfl)
    (hpl : ((backTo pos (starEach (e :: es) X.env)).any (·.1) || (backToKw pos (keywordEach kws X.env)).any (·.1.isNone)) = false := by rfl)
    (ht : eval (.Call (.Attribute o m apos) (e :: es) kws pos) X.env = (do
      let ov ← eval o X.env
      standAt apos.atName
      let (f, first) ← holding [ov] (getMethod ov m pl)
      callWith pos f first (backTo pos (starEach (e :: es) X.env)) (backToKw pos (keywordEach kws X.env))) := by rfl) :
    PE X (.Call (.Attribute o m apos) (e :: es) kws pos) (tClsK C n ks.length sp gV E ta t tk) := by
  refine ⟨fun pins s σ H Q I h => ?_⟩
  refine PySem.W.methodCall_KW (pl := pl) (thn (he.run pins s σ H _ I h) fun u s1 ⟨x, H1, I1, rx, ex, q⟩ => ?_) ht
  subst ex
  obtain rfl : u = Value.ref C := rx
  refine PySem.W.method_cls I1.kIn c.rd.ga (ClX.getcval_ok I1 c.rd c.at_ fun s2 I2 => ?_)
  refine PySem.W.callWith_KW (h₀ := X.base) I2.ok.mod.kin c.kp hall (thn (ha.run pos pins _ σ H1 _ I2 q) fun us s2 ⟨vs, H2, I3, r, q2⟩ => ?_) hpl hst
  refine thn (hkw.run pos pins s2 σ H2 _ I3 q2) fun ws s3 ⟨zs, H3, I4, rz, l1, l2, q3⟩ => ⟨I4.kIn, ?_⟩
  rw [hks]
  exact run_fnKS F hr hb (hx σ) I4 r rz l1 l2 q3
end
end ZX
set_option maxHeartbeats 2000000
namespace ZX
open PySem PySem.Spec PyProof.Rows L2 He
/-! ### min(xs, default=..) of ints, max of several ints -/
section
variable {P : Program} {w : World} {A : Around} {R : Result → Shared → Prop} {I S : Addr} {fp wr : List Addr} {n : Nat} {Pv : Nat → Value → Prop} {St : Nat → Heap → Prop} {kw : List (Str × Value)}
theorem nm_min : (toString "min" ++ toString ".loop" : String) = "min.loop" := by decide
theorem minD_loop (W : Walks P w A.in1 I fp wr n Pv St) (bt : Nat → Nat → Bool) (hc : CmpOf P w A.in1 .Lt Pv bt) (nS : S ∉ fp) :
    ∀ (r i : Nat) (s : Shared) (u : Value) (c : Nat), n - (i + 1) = r → i + 1 ≤ n → St (i + 1) s.heap → Pv (argBest bt i) u →
    s.heap.get? S = some { cls := .type "list", dict := none, data := .seq #[u, u] c, slots := #[] } →
    (∀ v g tk, Pv (argBest bt (n - 1)) v → (∀ b o, b ∉ wr → b ≠ S → s.heap.get? b = some o → g.get? b = some o) → R (.ok (.ret v)) { s with heap := g, toks := tk }) →
    codeAny (model P w) A (.builtin "min.loop" ⟨[.ref I, .none, .ref S], kw⟩) R s := by
  have nW : S ∉ wr := fun h => nS (W.sub _ h)
  intro r
  induction r with
  | zero =>
    intro i s u c hr hi hst hu hS hR
    have e : i + 1 = n := by omega
    refine codeAny_builtin PySem.F.entry_min_loop ?_
    rw [Around.under_plainId PySem.F.plain_min_loop ⟨[.ref I, .none, .ref S], kw⟩]
    show wpAny _ A.in1 (seqItems? (Value.ref S) >>= _) _ _ s
    refine wpAny_bind <| wpAny_seqItems hS rfl ?_
    show wpAny _ A.in1 (tryCatch (pyNext (Value.ref I)) _ >>= _) _ _ s
    refine wpAny_bind <| wpAny_tryCatch <| W.done s _ _ (e ▸ hst) fun g tk keep => ?_
    have hS2 := keep S _ nW hS
    show wpAny _ A.in1 (updateSeq S (fun _ => (#[] : Array Value)) >>= _) _ _ _
    refine wpAny_bind <| wpAny_updateSeq hS2 rfl <| wpAny_bind <| wpAny_letGo <| wpAny_pure ?_
    exact hR u _ tk (by rw [← e]; exact hu) fun b o b1 b2 z => (Heap.get?_update_other _ _ (Ne.symm b2)).trans (keep b o b1 z)
  | succ r ih =>
    intro i s u c hr hi hst hu hS hR
    have lt : i + 1 < n := by omega
    refine codeAny_builtin PySem.F.entry_min_loop ?_
    rw [Around.under_plainId PySem.F.plain_min_loop ⟨[.ref I, .none, .ref S], kw⟩]
    show wpAny _ A.in1 (seqItems? (Value.ref S) >>= _) _ _ s
    refine wpAny_bind <| wpAny_seqItems hS rfl ?_
    show wpAny _ A.in1 (tryCatch (pyNext (Value.ref I)) _ >>= _) _ _ s
    refine wpAny_bind <| wpAny_tryCatch <| W.item (i + 1) s _ _ lt hst fun v g tk hv hst2 keep => ?_
    have hS2 := keep S _ nW hS
    show wpAny _ A.in1 (tryCatch (holding [v, v] (richCompare .Lt v u >>= _)) _ >>= _) _ _ _
    refine wpAny_bind <| wpAny_tryCatch <| wpAny_holding <| wpAny_bind <| hc (i + 1) (argBest bt i) v u _ _ _ hv hu ?_
    refine wpAny_bind <| wpAny_holding <| wpAny_truthy_bool ?_
    refine wpAny_bind <| wpAny_letGo <| wpAny_pure ?_
    cases q : bt (i + 1) (argBest bt i) with
    | true =>
      rw [if_pos rfl]
      refine wpAny_bind ?_
      refine wpAny_updateSeq hS2 rfl <| wpAny_bind <| wpAny_letGo ?_
      rw [nm_min]
      refine wpAny_pure ⟨plainId_quiet PySem.F.plain_min_loop _, ih (i + 1) _ v _ (by omega) lt (W.frame _ _ _ hst2 fun b hb o z => ?_) (by simp only [argBest, q, if_true]; exact hv) (Heap.get?_update_self _ hS2 rfl) fun v2 g2 tk2 h2 k2 => ?_⟩
      · exact (Heap.get?_update_other _ _ (fun h : S = b => nS (h ▸ hb))).trans z
      · exact hR v2 g2 tk2 h2 fun b o b1 b2 z => k2 b o b1 b2 ((Heap.get?_update_other _ _ (Ne.symm b2)).trans (keep b o b1 z))
    | false =>
      rw [if_neg Bool.false_ne_true]
      refine wpAny_bind <| wpAny_letGo ?_
      rw [nm_min]
      exact wpAny_pure ⟨plainId_quiet PySem.F.plain_min_loop _, ih (i + 1) _ u c (by omega) lt hst2 (by simp only [argBest, q, Bool.false_eq_true, if_false]; exact hu) hS2 fun v2 g2 tk2 h2 k2 => hR v2 g2 tk2 h2 fun b o b1 b2 z => k2 b o b1 b2 (keep b o b1 z)⟩
end
theorem args_minD (a v : Value) : argsOk "min" ⟨[a], [(Str.ofString "default", v)]⟩ := by unfold argsOk; kernel_rfl
def rMinD (K : PySem.W.Frag) (d : V) : List V → Hp → VK → Prop := fun vs H Q => ∃ (a : Addr) (ns : List Int), vs = [V.ref a] ∧ SqL K H a (ns.map V.int) ∧ (ns = [] → Q d H) ∧ ∀ m, m ∈ ns → (∀ y, y ∈ ns → m ≤ y) → Q (.int m) H
section
variable {P : Program} {w : World} {A : Around} {E : Value → Shared → Prop} {s : Shared} {l : Addr} {its : List Value} {ns : List Int} {d : Value} {Q : Value → Shared → Prop}
theorem minD_raw (hh : A.handled = none) (hl : s.heap.IsList l its.toArray) (hi : IntsAre its ns)
    (h0 : ns = [] → ∀ g tk, (∀ b o, s.heap.get? b = some o → g.get? b = some o) → Q d { s with heap := g, toks := tk })
    (h1 : ∀ g tk M t, (∀ b o, s.heap.get? b = some o → g.get? b = some o) → M ∈ ns → (∀ a, a ∈ ns → M ≤ a) → Q (.int M t) { s with heap := g, toks := tk }) :
    wpAny (model P w) A (call (.builtin "min") [.ref l] [(Str.ofString "default", d)]) Q E s := by
  obtain ⟨xs, e⟩ := hi.allInts.items
  have hn : numsOf (intItems xs).toList = ns := by rw [← e]; exact hi.numsOf
  rw [nums_intItems] at hn
  subst hn
  rw [e] at hl
  refine kmb_tree PySem.F.kind_min PySem.F.plain_min PySem.F.entry_min (args_minD _ _) ?_
  show wpAny _ A.in1 (Builtin.Builtins.bindParams "min" ["key", "default"] 0 ⟨[], [(Str.ofString "default", d)]⟩ >>= _) _ _ s
  refine wpAny_bind <| wpAny_of_eq (show Builtin.Builtins.bindParams "min" ["key", "default"] 0 ⟨[], [(Str.ofString "default", d)]⟩ = pure [none, some d] from rfl) ?_
  refine wpAny_bind <| wpAny_pure ?_
  refine wpAny_bind <| iter_intList hl fun s2 e2 st hfp ne => ?_
  subst e2
  refine wpAny_bind <| wpAny_newList ?_ (Nat.zero_le _)
  rw [nm_min]
  refine wpAny_pure ⟨plainId_quiet PySem.F.plain_min_loop _, ?_⟩
  have W := Walks.list (prog := P) (w := w) (A := A.in1) hh _ l ne (intItems xs)
  generalize hs2 : ({ s with heap := s.heap.push { cls := .type "list_iterator", data := .fields #[.ref l, .int 0 0] } } : Shared) = s2 at st hfp
  have old : ∀ b o, s.heap.get? b = some o → s2.heap.get? b = some o := fun b o z => by
    rw [← hs2]
    exact Heap.get?_push_of_some _ z
  have nI : ∀ b o, s.heap.get? b = some o → b ∉ [s.heap.objs.size] := fun b o z hb => by
    rw [List.mem_singleton.mp hb] at z
    exact Nat.lt_irrefl _ (Heap.lt_size z)
  have nF : s2.heap.objs.size ∉ [s.heap.objs.size, l] := fun hb => Nat.lt_irrefl _ (hfp _ hb)
  have st2 := W.frame 0 s2.heap (s2.heap.push { cls := .type "list", data := .seq #[] 0 }) st fun b _ o z => Heap.get?_push_of_some _ z
  have hS : (s2.heap.push { cls := .type "list", data := .seq #[] 0 }).get? s2.heap.objs.size = some { cls := .type "list", data := .seq #[] 0 } := Heap.get?_push_size _ rfl
  have old2 : ∀ b o, s.heap.get? b = some o → (s2.heap.push { cls := .type "list", data := .seq #[] 0 }).get? b = some o := fun b o z => Heap.get?_push_of_some _ (old b o z)
  have nSb : ∀ b o, s.heap.get? b = some o → b ≠ s2.heap.objs.size := fun b o z e => by
    have := Heap.lt_size (old b o z)
    rw [e] at this
    exact Nat.lt_irrefl _ this
  show codeAny (model P w) A (.builtin "min.loop" ⟨[.ref s.heap.objs.size, .none, .ref s2.heap.objs.size], [(Str.ofString "default", d)]⟩) _ _
  refine codeAny_builtin PySem.F.entry_min_loop ?_
  rw [Around.under_plainId PySem.F.plain_min_loop ⟨[.ref s.heap.objs.size, .none, .ref s2.heap.objs.size], [(Str.ofString "default", d)]⟩]
  show wpAny _ A.in1 (seqItems? (Value.ref s2.heap.objs.size) >>= _) _ _ _
  refine wpAny_bind <| wpAny_seqItems hS rfl ?_
  show wpAny _ A.in1 (tryCatch (pyNext (Value.ref s.heap.objs.size)) _ >>= _) _ _ _
  have nSw : s2.heap.objs.size ∉ [s.heap.objs.size] := fun hb => nF (List.mem_cons.mpr (.inl (List.mem_singleton.mp hb)))
  by_cases hz : 0 < (intItems xs).size
  · refine wpAny_bind <| wpAny_tryCatch <| W.item 0 _ _ _ hz st2 fun v g tk hv hst2 keep => ?_
    have hS2 := keep _ _ nSw hS
    show wpAny _ A.in1 (updateSeq s2.heap.objs.size (fun _ => (#[v, v] : Array Value)) >>= _) _ _ _
    refine wpAny_bind <| wpAny_updateSeq hS2 rfl ?_
    rw [nm_min]
    refine wpAny_pure ⟨plainId_quiet PySem.F.plain_min_loop _, minD_loop W (fun i j => decide (numAt xs i < numAt xs j)) (CmpOf.ints_lt (numAt xs) (fun _ _ => intItems_at)) nF _ 0 _ v _ rfl hz (W.frame _ _ _ hst2 fun b hb o z => ?_) hv (Heap.get?_update_self _ hS2 rfl) fun v2 g2 tk2 h2 k2 => ?_⟩
    · exact (Heap.get?_update_other _ _ (fun h : s2.heap.objs.size = b => nF (h ▸ hb))).trans z
    · have hsz : (intItems xs).size = xs.size := by simp [intItems]
      rw [hsz] at hz h2
      obtain ⟨t, rfl⟩ := intItems_at h2
      obtain ⟨b1, b2⟩ := argBest_lt (numAt xs) (xs.size - 1)
      subst hs2
      refine h1 g2 tk2 _ t (fun b o z => k2 b o (nI b o z) (nSb b o z) ((Heap.get?_update_other _ _ (Ne.symm (nSb b o z))).trans (keep b o (nI b o z) (old2 b o z)))) ?_ fun a ha => ?_
      · rw [numAt_eq]
        exact PySem.getD_mem (by rw [List.length_map, Array.length_toList]; omega)
      · obtain ⟨j, hj, rfl⟩ := mem_getD ha
        rw [List.length_map, Array.length_toList] at hj
        rw [← numAt_eq]
        exact b2 j (by omega)
  · have e0 : (intItems xs).size = 0 := by omega
    refine wpAny_bind <| wpAny_tryCatch <| W.done _ _ _ (e0 ▸ st2) fun g tk keep => ?_
    show wpAny _ A.in1 (rule _ >>= _) _ _ _
    refine wpAny_bind <| wpAny_rule <| wpAny_pure ?_
    subst hs2
    refine h0 ?_ _ _ fun b o z => keep b o (nI b o z) (old2 b o z)
    have hsz : (intItems xs).size = xs.size := by simp [intItems]
    rw [hsz] at e0
    have : xs.toList = [] := by
      apply List.eq_nil_of_length_eq_zero
      rw [Array.length_toList]
      exact e0
    rw [this]
    rfl
end
end ZX
set_option maxHeartbeats 2000000
namespace ZX
open PySem PySem.Spec PyProof.Rows L2 He
def rMinK (K : PySem.W.Frag) : List V → List V → Hp → VK → Prop := fun vs zs H Q => ∃ (a : Addr) (d : V) (ns : List Int), vs = [V.ref a] ∧ zs = [d] ∧ SqL K H a (ns.map V.int) ∧ (ns = [] → Q d H) ∧ ∀ m, m ∈ ns → (∀ y, y ∈ ns → m ≤ y) → Q (.int m) H
/-- max of several ints -/
def rMaxs : List V → Hp → VK → Prop := fun vs H Q => ∃ ns : List Int, vs = ns.map V.int ∧ 2 ≤ ns.length ∧ ns.length ≤ 1000 ∧ ∀ m, m ∈ ns → (∀ y, y ∈ ns → y ≤ m) → Q (.int m) H
section
variable {X : Cx}
theorem cr_minD (hc : X.calm = true) : CallRK X (.builtin "min") [("default" : Str)] (rMinK X.K) := by
  intro pins s σ H vs zs us ws Q I r rz h
  obtain ⟨a, d, ns, rfl, rfl, hs, h0, h1⟩ := h
  obtain ⟨its, rv, hl, _⟩ := I.list hs
  rw [Vals.ref1 r]
  obtain ⟨u, rfl, ru⟩ := vals1 rz
  exact minD_raw (I.ok.hd hc) hl.isList rv.ints (fun e g tk hk => ⟨d, H, I.kept hk, ru, h0 e⟩) fun g tk m t hk b1 b2 => ⟨.int _, H, I.kept hk, ⟨_, rfl⟩, h1 m b1 b2⟩
end
theorem args_maxN (a b : Value) (r : List Value) : argsOk "max" ⟨a :: b :: r, []⟩ := by unfold argsOk; kernel_rfl
theorem nm_max : (toString "max" ++ toString ".loop" : String) = "max.loop" := by decide
section
variable {P : Program} {w : World} {A : Around} {E : Value → Shared → Prop} {s : Shared} {Q : Value → Shared → Prop}
theorem maxN_call {a b : Value} {r : List Value} (hz : (a :: b :: r).length ≤ sizeLine)
    (h : wpAny (model P w) A.in1 (pyIter (.ref s.heap.objs.size)) (fun it s2 => ∃ I fp wr n Pv St bt, it = .ref I ∧ Walks P w A.in1 I fp wr n Pv St ∧ St 0 s2.heap ∧ (∀ b ∈ fp, b < s2.heap.objs.size) ∧ 0 < n ∧ CmpOf P w A.in1 .Gt Pv bt ∧
      ∀ v g tk, Pv (argBest bt (n - 1)) v → (∀ b o, b ∉ wr → s2.heap.get? b = some o → g.get? b = some o) → Q v { s2 with heap := g, toks := tk }) E
      { s with heap := s.heap.push { cls := .type "tuple", data := .seq (a :: b :: r).toArray } }) : wpAny (model P w) A (call (.builtin "max") (a :: b :: r)) Q E s := by
  refine call_function_tree PySem.F.kind_max PySem.F.plain_max PySem.F.entry_max (args_maxN a b r) ?_
  show wpAny _ A.in1 (Builtin.Builtins.bindParams "max" ["key", "default"] 0 ⟨[], []⟩ >>= _) _ _ s
  refine wpAny_bind <| wpAny_of_eq (show Builtin.Builtins.bindParams "max" ["key", "default"] 0 ⟨[], []⟩ = pure [none, none] from rfl) ?_
  show wpAny _ A.in1 (newTuple (a :: b :: r) >>= _) _ _ s
  refine wpAny_bind <| wpAny_newObj_type (hd := by show (a :: b :: r).toArray.size ≤ sizeLine; rw [List.size_toArray]; exact hz) ?_
  refine wpAny_bind <| wpAny_mono h (fun it s2 z => ?_) fun _ _ e => e
  obtain ⟨I, fp, wr, n, Pv, St, bt, rfl, W, st, hf, hn, hc, hQ⟩ := z
  refine wpAny_bind <| wpAny_newObj_type ?_
  have nS : s2.heap.objs.size ∉ fp := fun hm => Nat.lt_irrefl _ (hf _ hm)
  rw [nm_max]
  exact wpAny_pure ⟨plainId_quiet PySem.F.plain_max_loop _, codeAny_max_loop_first W bt hc s2.heap.objs.size nS hn (W.frame _ _ _ st fun b _ o e => Heap.get?_push_of_some _ e) (Heap.get?_push_size _ rfl) fun v g tk hP hk =>
    hQ v g tk hP fun b o hw e => hk b o hw (Nat.ne_of_lt (Heap.lt_size e)) (Heap.get?_push_of_some _ e)⟩
theorem maxN_ints {us : List Value} {ns : List Int} (hh : A.handled = none) (hi : IntsAre us ns) (h2 : 2 ≤ ns.length) (hz : ns.length ≤ sizeLine)
    (h : ∀ g tk M t, (∀ b o, s.heap.get? b = some o → g.get? b = some o) → M ∈ ns → (∀ y, y ∈ ns → y ≤ M) → Q (.int M t) { s with heap := g, toks := tk }) : wpAny (model P w) A (call (.builtin "max") us) Q E s := by
  have hlen : us.length = ns.length := hi.length
  obtain ⟨a, b, r, rfl⟩ : ∃ a b r, us = a :: b :: r := by
    match us, hlen with
    | a :: b :: r, _ => exact ⟨a, b, r, rfl⟩
    | [a], e =>
      have e : 1 = ns.length := e
      omega
    | [], e =>
      have e : 0 = ns.length := e
      omega
  obtain ⟨xs, e⟩ := hi.allInts.items
  have hn : numsOf (intItems xs).toList = ns := by rw [← e]; exact hi.numsOf
  rw [nums_intItems] at hn
  subst hn
  refine maxN_call (hlen ▸ hz) ?_
  rw [e]
  have hT : (s.heap.push { cls := .type "tuple", data := .seq (intItems xs) }).IsTuple s.heap.objs.size (intItems xs) := ⟨_, Heap.get?_push_size _ rfl, rfl, 0, rfl⟩
  refine wpAny_pyIter_tuple hT ?_
  have hsz : (s.heap.push { cls := .type "tuple", data := .seq (intItems xs) }).objs.size = s.heap.objs.size + 1 := Heap.size_push ..
  have hx : (intItems xs).size = xs.size := by simp [intItems]
  have h2' : 2 ≤ xs.size := by simpa using h2
  refine ⟨_, [_, s.heap.objs.size], [_], _, _, _, _, rfl, Walks.tuple (A := A.in1) hh _ s.heap.objs.size (by rw [hsz]; exact Nat.ne_of_lt (Nat.lt_succ_self _)) (intItems xs),
    ⟨⟨_, Heap.get?_push_size _ rfl, rfl, rfl⟩, hT.push _⟩, fun d hd => ?_, by rw [hx]; omega, CmpOf.ints_gt (numAt xs) (fun _ _ => intItems_at), fun v g tk hP hk => ?_⟩
  · show d < ((s.heap.push _).push _).objs.size
    rw [Heap.size_push, hsz]
    simp only [List.mem_cons, List.not_mem_nil, or_false] at hd
    rcases hd with rfl | rfl
    · rw [hsz]; exact Nat.lt_succ_self _
    · exact Nat.lt_succ_of_lt (Nat.lt_succ_self _)
  · have old : ∀ d o, s.heap.get? d = some o → g.get? d = some o := fun d o z => by
      refine hk d o (fun hm => ?_) (Heap.get?_push_of_some _ (Heap.get?_push_of_some _ z))
      have := Heap.lt_size z
      rw [List.mem_singleton.mp hm, hsz] at this
      exact Nat.lt_irrefl _ (Nat.lt_of_succ_lt this)
    rw [hx] at hP
    obtain ⟨t, rfl⟩ := intItems_at hP
    obtain ⟨b1, b2⟩ := argBest_gt (numAt xs) (xs.size - 1)
    refine h g tk _ t old ?_ fun y hy => ?_
    · rw [numAt_eq]
      exact PySem.getD_mem (by rw [List.length_map, Array.length_toList]; omega)
    · obtain ⟨j, hj, rfl⟩ := mem_getD hy
      rw [List.length_map, Array.length_toList] at hj
      rw [← numAt_eq]
      exact b2 j (by omega)
end
section
variable {X : Cx} {CX : CXT} {k : Nat} {C f : Addr} {fd : FuncData} {ps ks : List Str} {sp : Sp} {E : XK} {o : Expr} {kws : List Keyword} {m : Str} {pos apos : Pos} {ta : TE} {tk : TA} {pl : Sem Bool} {gg : List Value → List Value → List Value} {gV : List V → List V → List V}
theorem call_maxN (hc : X.calm = true) : CallR X (.builtin "max") rMaxs := by
  intro pins s σ H vs us Q I r h
  obtain ⟨ns, rfl, h2, hz, q⟩ := h
  exact maxN_ints (I.ok.hd hc) r.ints h2 (Nat.le_trans hz (by decide)) fun g tk M t hk b1 b2 => ⟨.int _, H, I.kept hk, ⟨_, rfl⟩, q M b1 b2⟩
/-- o.m(k = v, ..) -/
def tMethK (C : Addr) (m : Str) (n : Nat) (sp : Sp) (gV : List V → List V → List V) (E : XK) (ta : TE) (tk : TA) : TE := fun σ H Q => ta σ H fun x H1 => ∃ a dx fs, x = .ref a ∧ H1 a = some (.ins C dx fs) ∧ fs.lookup m = none ∧
  tk σ H1 fun zs H2 => zs.length = n ∧ sp (gV [x] zs) H2 Q E
theorem pe_methK0 (he : PE X o ta) (c : Cls X.K C) (hm : Meth X.K C m f) (F : FnOk X.prog X.w X.K X.mg X.base CX k f fd ps sp) (hr : Room k X.A) (hb : KBn X.K fd ps 1 ks gg gV) (hx : Passes CX X E) (hkw : PK X kws tk)
    (hall : (backToKw pos (keywordEach kws X.env)).all (·.1.isSome) = true := by rfl) (hks : (backToKw pos (keywordEach kws X.env)).filterMap (·.1) = ks := by rfl)
    (hpl : ((backTo pos (starEach [] X.env)).any (·.1) || (backToKw pos (keywordEach kws X.env)).any (·.1.isNone)) = false := by rfl)
    (ht : eval (.Call (.Attribute o m apos) [] kws pos) X.env = (do
      let ov ← eval o X.env
      standAt apos.atName
      let (f, first) ← holding [ov] (getMethod ov m pl)
      callWith pos f first (backTo pos (starEach [] X.env)) (backToKw pos (keywordEach kws X.env))) := by rfl) :
    PE X (.Call (.Attribute o m apos) [] kws pos) (tMethK C m ks.length sp gV E ta tk) := by
  refine ⟨fun pins s σ H Q I h => ?_⟩
  refine PySem.W.methodCall_KW (pl := pl) (thn (he.run pins s σ H _ I h) fun u s1 ⟨x, H1, I1, rx, a, dx, fs, ex, ea, l, q⟩ => ?_) ht
  subst ex
  obtain rfl : u = Value.ref a := rx
  refine getmeth_ok I1 ea c hm l ?_
  refine PySem.W.callWith_KW0 (first := [.ref a]) (h₀ := X.base) I1.ok.mod.kin hm.kp hall ?_ hpl
  refine thn (hkw.run pos pins s1 σ H1 _ I1 q) fun ws s2 ⟨zs, H2, I2, rz, l2, q2⟩ => ⟨I2.kIn, ?_⟩
  rw [hks]
  exact run_fnN (us := [.ref a]) (vs := [.ref a]) F hr hb hx I2 (.cons rfl .nil) rz rfl l2 q2
end
end ZX
namespace Z
open PySem PySem.Spec PyProof.Rows L2 TL PySem.Builtin.Str
/-! ### strings -/
def allIn (z s : Str) : Bool := (tl z).all fun c => decide (c ∈ tl s)
theorem len_tl' (x : Str) : (tl x).length = x.length := (len_tl x).symm
theorem tl_empty : tl ("" : Str) = [] := by decide +kernel
theorem eq_empty {x : Str} : x = ("" : Str) ↔ tl x = [] := by
  constructor
  · intro h; rw [h]; exact tl_empty
  · intro h; exact ext_tl (h.trans tl_empty.symm)
theorem contains_mem (y : Str) (c : Nat) : y.cps.contains c = decide (c ∈ tl y) := by
  have : y.cps.contains c = y.cps.toList.contains c := by
    cases y with | mk a => simp
  rw [this]
  by_cases h : c ∈ tl y
  · rw [decide_eq_true h]; exact List.contains_iff_mem.mpr h
  · rw [decide_eq_false h]
    cases e : y.cps.toList.contains c with
    | false => rfl
    | true => exact absurd (List.contains_iff_mem.mp e) h
/-- strip(signs) leaves nothing exactly if all are among the signs -/
theorem strip_all (z s : Str) : decide (Txt.stripChars z s = ("" : Str)) = allIn z s := by
  have hg : s.cps.contains = fun c => decide (c ∈ tl s) := funext (contains_mem s)
  have e0 : Txt.stripChars z s = strSub z (stripLo s.cps.contains true z) (stripHi s.cps.contains true z (stripLo s.cps.contains true z)) := stripBy_eq _ _ _ _
  obtain ⟨l1, l2, l3⟩ := lo_facts s.cps.contains z
  obtain ⟨h1, h2, h3, h4⟩ := hi_facts s.cps.contains z _ l1
  generalize hlo : stripLo s.cps.contains true z = lo at *
  generalize hhi : stripHi s.cps.contains true z lo = hi at *
  have hlen : (tl z).length = z.length := len_tl' z
  have e1 : tl (Txt.stripChars z s) = ((tl z).drop lo).take (hi - lo) := by rw [e0]; exact tl_strSub _ _ _
  have key : tl (Txt.stripChars z s) = [] ↔ hi = lo := by
    rw [e1]
    constructor
    · intro h
      have := congrArg List.length h
      rw [List.length_take, List.length_drop, hlen] at this
      simp only [List.length_nil] at this
      omega
    · intro h; rw [h]; simp
  have gd : ∀ k, k < z.length → s.cps.contains (z.cps.getD k 0) = true → z.cps.getD k 0 ∈ tl s := fun k _ h => by
    rw [contains_mem] at h; exact of_decide_eq_true h
  have gt : ∀ k (hk : k < z.length), z.cps.getD k 0 = (tl z)[k]'(by rw [hlen]; exact hk) := fun k hk => by
    rw [← getD_list]
    have : k < z.cps.toList.length := by rw [← hlen] at hk; exact hk
    show z.cps.toList.getD k 0 = z.cps.toList[k]
    rw [List.getD_eq_getElem?_getD, List.getElem?_eq_getElem this]
    rfl
  by_cases hh : hi = lo
  · rw [decide_eq_true (eq_empty.mpr (key.mpr hh))]
    symm
    refine List.all_eq_true.mpr fun c hc => decide_eq_true ?_
    obtain ⟨k, hk, e⟩ := List.mem_iff_getElem.mp hc
    have hk' : k < z.length := by rw [← hlen]; exact hk
    have : z.cps.getD k 0 ∈ tl s := by
      by_cases hkl : k < lo
      · exact gd k hk' (l2 k hkl)
      · exact gd k hk' (h3 k (by omega) hk')
    rw [gt k hk', e] at this
    exact this
  · have hne : ¬ Txt.stripChars z s = ("" : Str) := fun h => hh (key.mp (eq_empty.mp h))
    rw [decide_eq_false hne]
    symm
    cases e : allIn z s with
    | false => rfl
    | true =>
      exfalso
      have ha := List.all_eq_true.mp e
      have hlt : lo < z.length := by omega
      rcases l3 with h | h
      · omega
      · have hm : z.cps.getD lo 0 ∈ tl s := by
          rw [gt lo hlt]
          exact of_decide_eq_true (ha _ (List.getElem_mem _))
        rw [contains_mem, decide_eq_true hm] at h
        cases h
theorem strip_len (z s : Str) : (Txt.stripChars z s).length ≤ z.length := by
  have e0 : Txt.stripChars z s = strSub z (stripLo s.cps.contains true z) (stripHi s.cps.contains true z (stripLo s.cps.contains true z)) := stripBy_eq _ _ _ _
  rw [e0, len_tl, tl_strSub, List.length_take, List.length_drop, len_tl]
  omega
/-! ### plain -/
def signs : Str := (" !\"#$&'()*+,-./0123456789:;<=>?@ABCDEFGHIJKLMNOPQRSTUVWXYZ[\\]^_`" : Str) ++ ("abcdefghijklmnopqrstuvwxyz{|}~" : Str)
theorem signs_lt : ∀ c ∈ tl signs, c < 128 := by decide +kernel
theorem signs_128 : ∀ c, c < 128 → (Unicode.isPrintable c && decide (c ≠ 37)) = decide (c ∈ tl signs) := by decide +kernel
theorem filter_eq {l : List Nat} {p : Nat → Bool} : (l.filter p = l) ↔ l.all p = true := by
  rw [List.filter_eq_self, List.all_eq_true]
theorem plain_all (l : List Nat) : (l.all (fun c => decide (c < 128)) && (l.all Unicode.isPrintable && l.all fun c => decide (c ≠ 37))) = l.all fun c => decide (c ∈ tl signs) := by
  induction l with
  | nil => rfl
  | cons a r ih =>
    rw [List.all_cons, List.all_cons, List.all_cons, List.all_cons, ← ih]
    by_cases h : a < 128
    · rw [← signs_128 a h, decide_eq_true h]
      cases Unicode.isPrintable a <;> cases decide (a ≠ 37) <;> cases r.all (fun c => decide (c < 128)) <;> cases r.all Unicode.isPrintable <;> rfl
    · have h2 : ¬ a ∈ tl signs := fun hm => h (signs_lt a hm)
      rw [decide_eq_false h, decide_eq_false h2]
      cases r.all (fun c => decide (c < 128)) <;> cases r.all Unicode.isPrintable <;> rfl
theorem isascii_tl (z : Str) : Txt.isascii z = (tl z).all fun c => decide (c < 128) := by
  unfold Txt.isascii
  rw [← Array.all_toList]
theorem isprintable_tl (z : Str) : Txt.isprintable z = (tl z).all Unicode.isPrintable := by
  unfold Txt.isprintable
  rw [← Array.all_toList]
/-- the text without its percent signs -/
def no37 (z : Str) : Str := ⟨((tl z).filter fun c => decide (c ≠ 37)).toArray⟩
theorem no37_tl (z : Str) : tl (no37 z) = (tl z).filter fun c => decide (c ≠ 37) := rfl
theorem no37_eq (z : Str) : decide (no37 z = z) = (tl z).all fun c => decide (c ≠ 37) := by
  cases e : (tl z).all fun c => decide (c ≠ 37) with
  | true => exact decide_eq_true (ext_tl ((no37_tl z).trans (filter_eq.mpr e)))
  | false =>
    refine decide_eq_false fun h => ?_
    have : (tl z).filter (fun c => decide (c ≠ 37)) = tl z := by rw [← no37_tl, h]
    rw [filter_eq.mp this] at e
    cases e
theorem plain_eq (z : Str) : (Txt.isascii z && (Txt.isprintable z && decide (no37 z = z))) = allIn z signs := by
  rw [isascii_tl, isprintable_tl, no37_eq]
  exact plain_all (tl z)
/-! ### the first sign -/
def hd (z : Str) : Option Nat := (tl z).head?
theorem hd_some {z : Str} (h : 1 ≤ z.length) : ∃ c, hd z = some c ∧ z.cps[0]? = some c := by
  rw [len_tl] at h
  cases e : tl z with
  | nil => rw [e] at h; exact absurd h (by decide)
  | cons c r =>
    refine ⟨c, by unfold hd; rw [e]; rfl, ?_⟩
    have : z.cps.toList[0]? = some c := by show (tl z)[0]? = _; rw [e]; rfl
    simpa using this
theorem cut1_tl (z : Str) : tl (cutS z none (some 1)) = (tl z).take 1 := by
  show ((tl z).drop (HT.sIx z.length 0 none)).take (HT.sIx z.length z.length (some 1) - HT.sIx z.length 0 none) = _
  rw [HT.sIx_none, show HT.sIx z.length z.length (some 1) = min 1 z.length from HT.sIx_nat _ _ 1, List.drop_zero, Nat.sub_zero]
  rw [len_tl]
  cases tl z with
  | nil => rfl
  | cons c r =>
    rw [List.length_cons, show min 1 (r.length + 1) = 1 by omega]
theorem cutFrom1_tl (z : Str) : tl (cutS z (some 1) none) = (tl z).drop 1 := by
  show ((tl z).drop (HT.sIx z.length 0 (some 1))).take (HT.sIx z.length z.length none - HT.sIx z.length 0 (some 1)) = _
  rw [HT.sIx_none, show HT.sIx z.length 0 (some 1) = min 1 z.length from HT.sIx_nat _ _ 1]
  rw [len_tl]
  cases tl z with
  | nil => rfl
  | cons c r =>
    rw [List.length_cons, show min 1 (r.length + 1) = 1 by omega]
    exact List.take_of_length_le (by simp)
theorem cut1_one {z : Str} {c : Nat} (h : hd z = some c) : cutS z none (some 1) = ⟨#[c]⟩ := by
  refine ext_tl ?_
  rw [cut1_tl]
  unfold hd at h
  cases e : tl z with
  | nil => rw [e] at h; cases h
  | cons a r =>
    rw [e] at h
    cases h
    rfl
theorem cut1_nil {z : Str} (h : hd z = none) : cutS z none (some 1) = ("" : Str) := by
  refine eq_empty.mpr ?_
  rw [cut1_tl]
  unfold hd at h
  cases e : tl z with
  | nil => rfl
  | cons a r => rw [e] at h; cases h
theorem one_eq (c d : Nat) : ((⟨#[c]⟩ : Str) = ⟨#[d]⟩) ↔ c = d := by
  constructor
  · intro h
    have := congrArg tl h
    have h2 : ([c] : List Nat) = [d] := this
    cases h2
    rfl
  · intro h; rw [h]
end Z
set_option maxHeartbeats 2000000
namespace Z
open PySem PySem.Spec PyProof.Rows L2 TL PySem.Builtin PySem.Builtin.Str
/-! ### text.translate({37: None}) for a text of ASCII signs: the percent signs go, all others stay -/
/-- nothing that stood in the heap has changed -/
abbrev Old (h h' : Heap) : Prop := ∀ b o, h.get? b = some o → h'.get? b = some o
/-- what the table holds: the key 37 with None, and no other key -/
structure Drops (f : Key → Option Value) : Prop where
  here : f (Sum.inl 37) = some .none
  away : ∀ c : Nat, c ≠ 37 → f (Sum.inl (c : Int)) = none
theorem drops_one : Drops (valueAt [((Sum.inl 37 : Key), Value.none)]) where
  here := rfl
  away := fun c hc => by
    have e : decide ((Sum.inl 37 : Key) = Sum.inl (c : Int)) = false := by
      rw [key_ll]
      exact beq_eq_false_iff_ne.mpr (by omega)
    show ((List.find? _ [((Sum.inl 37 : Key), Value.none)]).map (·.2)) = none
    rw [List.find?_cons, e]
    rfl
section
variable {prog : Program} {w : World} {A : Around} {E : Value → Shared → Prop} {s : Shared} {d : Addr}
/-- the sign 37 is found, with None -/
theorem look_here {f : Key → Option Value} {Q : Mapped → Shared → Prop} (T : Drops f) (hm : s.heap.MapOf (mixKind prog w) d f)
    (q : ∀ k, Q .drop { s with toks := k }) : wpAny (model prog w) A (tableLookup (.ref d) 37) Q E s := by
  unfold tableLookup
  refine wpAny_bind (wpAny_attempt (wpAny_bind (wpAny_mkInt ?_)))
  exact wpAny_getItem_of (knd := mixKind prog w) (k := Sum.inl ((37 : Nat) : Int)) (mixKind_int _ _ _ _) hm T.here (wpAny_pure (q _))
/-- any other sign is not: the KeyError of the look is taken for «keep» -/
theorem look_away {f : Key → Option Value} {Q : Mapped → Shared → Prop} {c : Nat} (hc : c ≠ 37) (calm : A.handled = none) (low : (d == sysModules) = false) (T : Drops f) (hm : s.heap.MapOf (mixKind prog w) d f)
    (q : ∀ h' k, Old s.heap h' → Q .keep { s with heap := h', toks := k }) : wpAny (model prog w) A (tableLookup (.ref d) c) Q E s := by
  unfold tableLookup
  refine wpAny_bind (wpAny_attempt (wpAny_bind (wpAny_mkInt ?_)))
  refine wpAny_getItem_missing_of (knd := mixKind prog w) (k := Sum.inl (c : Int)) (mixKind_int _ _ _ _) low calm hm (T.away c hc) ?_
  intro h' e new
  obtain ⟨eo, _, get, isKey, _⟩ := new.there
  have kin : isSubtype (.type "KeyError") (.type "LookupError") = pure true := key_is_lookup
  refine wpAny_bind (wpAny_isInstance (T := "KeyError") (b := true) ⟨eo, get, isKey⟩ kin ?_)
  exact wpAny_bind (wpAny_rule (wpAny_pure (q h' _ new.keeps)))
end
def left37 (l : List Nat) : List Nat := l.filter fun c => decide (c ≠ 37)
theorem left_nil : left37 [] = [] := rfl
theorem left_here (l : List Nat) : left37 (l ++ [37]) = left37 l := by
  unfold left37
  rw [List.filter_append]
  simp
theorem left_away {c : Nat} (h : c ≠ 37) (l : List Nat) : left37 (l ++ [c]) = left37 l ++ [c] := by
  unfold left37
  rw [List.filter_append]
  simp [h]
theorem left_len (l : List Nat) : (left37 l).length ≤ l.length := List.length_filter_le _ _
def sign (c : Nat) : Str := ⟨#[c]⟩
theorem glue_signs (l : List Nat) : ∀ a : Array Nat, (l.map sign).foldl (fun acc (p : Str) => acc ++ p.cps) a = a ++ l.toArray := by
  induction l with
  | nil => intro a; simp
  | cons c r ih =>
    intro a
    show (r.map sign).foldl (fun acc (p : Str) => acc ++ p.cps) (a ++ #[c]) = _
    rw [ih]
    refine Array.toList_inj.mp ?_
    simp
/-- where a sign of the fast road goes -/
def goes37 (c : Nat) : Option Nat := if c = 37 then none else some c
/-- the memo of the signs asked before -/
def Memo (known : List (Nat × Option Nat)) : Prop := ∀ c a, known.lookup c = some a → a = goes37 c
theorem memo_nil : Memo [] := fun _ _ h => nomatch h
theorem Memo.more {known : List (Nat × Option Nat)} (m : Memo known) (c : Nat) : Memo ((c, goes37 c) :: known) := fun c' a h => by
  rcases lookup_new h with ⟨rfl, e⟩ | h
  · exact e
  · exact m c' a h
abbrev Walk37 : Type := List Str × Nat × Bool × List (Nat × Option Nat) × Bool
/-- the state behind the signs `past`, ahead of `rest` -/
structure Mid37 (x : List Nat) (s : Shared) (rest : List Nat) (past : List Nat) (pieces : List Str) (known : List (Nat × Option Nat)) (h' : Heap) : Prop where
  cut : x = past ++ rest
  made : pieces.reverse = (left37 past).map sign
  memo : Memo known
  old : Old s.heap h'
def At37 (x : List Nat) (s : Shared) (rest : List Nat) (st : Walk37) (s' : Shared) : Prop :=
  ∃ past pieces known h' k, Mid37 x s rest past pieces known h' ∧ st = (pieces, (left37 past).length, true, known, false) ∧ s' = { s with heap := h', toks := k }
section
variable {x rest past : List Nat} {s : Shared} {c : Nat} {pieces : List Str} {known : List (Nat × Option Nat)} {h' : Heap} {k : Nat}
theorem Mid37.away (m : Mid37 x s (c :: rest) past pieces known h') (hc : c ≠ 37) {known' : List (Nat × Option Nat)} (hk : Memo known') {h2 : Heap} (old : Old s.heap h2) :
    At37 x s rest (sign c :: pieces, (left37 past).length + 1, true, known', false) { s with heap := h2, toks := k } := by
  refine ⟨past ++ [c], sign c :: pieces, known', h2, k, ⟨?_, ?_, hk, old⟩, ?_, rfl⟩
  · rw [m.cut, List.append_assoc, List.singleton_append]
  · rw [left_away hc, List.map_append, List.reverse_cons, m.made]
    rfl
  · rw [left_away hc, List.length_append, List.length_singleton]
theorem Mid37.here (m : Mid37 x s (37 :: rest) past pieces known h') {known' : List (Nat × Option Nat)} (hk : Memo known') {h2 : Heap} (old : Old s.heap h2) :
    At37 x s rest (pieces, (left37 past).length, true, known', false) { s with heap := h2, toks := k } := by
  refine ⟨past ++ [37], pieces, known', h2, k, ⟨?_, ?_, hk, old⟩, ?_, rfl⟩
  · rw [m.cut, List.append_assoc, List.singleton_append]
  · rw [left_here, m.made]
  · rw [left_here]
end
theorem meets37 {prog : Program} {w : World} {x : List Nat} {t : Tok} {d : Addr} {f : Key → Option Value} (T : Drops f) (low : (d == sysModules) = false) (few : x.length ≤ 16000000) (ascii : ∀ c ∈ x, c < 128) :
    MeetsIn prog w («str.translate» ⟨[.str (SX.S x) t, .ref d], []⟩) (fun A R s => A.handled = none ∧ s.heap.MapOf (mixKind prog w) d f ∧
      ∀ (v : Value) (h' : Heap) (k : Nat), Old s.heap h' → (∃ t', v = .str (SX.S (left37 x)) t') → R (.ok (.ret v)) { s with heap := h', toks := k }) := by
  refine .of_wp fun A R s hyp => ?_
  obtain ⟨calm, tab, done⟩ := hyp
  have calm1 : A.in1.handled = none := calm
  show wpAny _ _ (if ((SX.S x).length == 0) = true then _ else (do
    let st ← forIn (SX.S x).cps (([], 0, (SX.S x).cps.all fun y => decide (y < 128), [], false) : Walk37) _
    _)) _ _ s
  by_cases empty : x = []
  · rw [if_pos (show ((SX.S x).length == 0) = true by rw [SX.S_len, empty]; rfl)]
    subst empty
    exact wpAny_bind (wpAny_rule (wpAny_pure ⟨_, rfl, done _ s.heap s.toks (fun _ _ e => e) ⟨t, rfl⟩⟩))
  · have full : ¬ ((SX.S x).length == 0) = true := fun h => by
      rw [SX.S_len, beq_iff_eq] at h
      exact empty (List.eq_nil_of_length_eq_zero h)
    have fast : ((SX.S x).cps.all fun y => decide (y < 128)) = true := by
      rw [← Array.all_toList]
      exact List.all_eq_true.mpr fun c hc => decide_eq_true (ascii c hc)
    rw [if_neg full, fast]
    refine wpAny_bind (MeetsSeq2.wpAny_forIn_array _ (At37 x s) _ (fun c rest st s' at_ => ?_) (fun st s' at_ => ?_) (SX.S x).cps ([], 0, true, [], false) ?_)
    · obtain ⟨past, pieces, known, h', k, m, rfl, rfl⟩ := at_
      have short : tooLong (left37 past).length = false := by
        have q := congrArg List.length m.cut
        rw [List.length_append] at q
        have := left_len past
        exact PyProof.Rows.short24 (by omega)
      have tab' : h'.MapOf (mixKind prog w) d f := by
        obtain ⟨o, es, ep, get, r⟩ := tab
        exact ⟨o, es, ep, m.old _ _ get, r⟩
      show wpAny _ _ (if tooLong (left37 past).length = true then _ else (if true = true then _ else _)) _ _ _
      rw [short, if_neg Bool.false_ne_true, if_pos rfl]
      by_cases hc : c = 37
      · subst hc
        cases ask : known.lookup 37 with
        | some a =>
          have ea : a = none := m.memo _ _ ask
          subst ea
          exact wpAny_bind (wpAny_pure (wpAny_pure (m.here m.memo m.old)))
        | none =>
          exact wpAny_bind (look_here T tab' fun k2 => wpAny_bind (wpAny_pure (wpAny_pure (m.here (m.memo.more 37) m.old))))
      · have ego : goes37 c = some c := if_neg hc
        have more := m.memo.more c
        rw [ego] at more
        cases ask : known.lookup c with
        | some a =>
          have ea : a = some c := (m.memo _ _ ask).trans ego
          subst ea
          exact wpAny_bind (wpAny_pure (wpAny_pure (m.away hc m.memo m.old)))
        | none =>
          exact wpAny_bind (look_away hc calm1 low T tab' fun h2 k2 old => wpAny_bind (wpAny_pure (wpAny_pure (m.away hc more fun b o e => old b o (m.old b o e)))))
    · obtain ⟨past, pieces, known, h', k, m, rfl, rfl⟩ := at_
      have ex : past = x := by rw [m.cut, List.append_nil]
      have made := m.made
      rw [ex] at made ⊢
      have := left_len x
      have text : (⟨#[] ++ (left37 x).toArray⟩ : Str) = SX.S (left37 x) := by simp
      show wpAny _ _ (if tooLong (left37 x).length = true then _ else retStr ⟨List.foldl (fun acc (p : Str) => acc ++ p.cps) #[] pieces.reverse⟩) _ _ _
      rw [PyProof.Rows.short24 (n := (left37 x).length) (by omega), if_neg Bool.false_ne_true, made, glue_signs, text]
      exact wpAny_bind (wpAny_mkStr (wpAny_pure ⟨_, rfl, done _ h' _ m.old ⟨_, rfl⟩⟩) (by rw [SX.S_len, sizeLine_eq]; omega))
    · refine ⟨[], [], [], s.heap, s.toks, ⟨?_, rfl, memo_nil, fun _ _ e => e⟩, rfl, rfl⟩
      show x = [] ++ x.toArray.toList
      simp
/-- the rule, over the layer: the table a dict that the call has made -/
theorem mt_translate37 {X : Cx} (hc : X.calm = true) : MtR X "str.translate" (fun x xs H Q => ∃ (z : Str) (d : Addr), x = .str z ∧ xs = [.ref d] ∧ H d = some (.dK [(Sum.inl 37, .non)]) ∧ (∀ c ∈ tl z, c < 128) ∧ z.length ≤ 16000000 ∧ Q (.str (no37 z)) H) := by
  intro pins s σ H x xs v us Q I rx rs ⟨z, d, ex, exs, hd, ascii, few, q⟩
  rw [ex] at rx
  rw [exs] at rs
  obtain ⟨t, ev⟩ := rx
  rw [ev]
  cases rs with
  | cons r1 none_left =>
    cases none_left
    have eu := r1
    rw [show _ = Value.ref d from eu]
    obtain ⟨_, low, vs, kv, is⟩ := I.hok d _ hd
    have evs : vs = [((Sum.inl 37 : Key), Value.none)] := by
      cases kv with
      | cons pq none_left =>
        cases none_left
        exact congrArg (fun p => [p]) (Prod.ext (Eq.symm pq.1) pq.2)
    rw [evs] at is
    have ez : z = SX.S (tl z) := (SX.S_tl z).symm
    rw [ez]
    refine call_meetsIn F.slot_str_translate (typeIs_str _ _ _) F.entry_str_translate (F.args_str_translate_2 _ _) (meets37 (t := t) drops_one low (by rw [len_tl']; exact few) ascii) ⟨I.ok.hd hc, is.mapOf, ?_⟩
    intro v2 h' k old ⟨t', e2⟩
    rw [e2]
    exact ⟨.str _, H, I.kept (t' := k) old, ⟨t', rfl⟩, q⟩
end Z
set_option maxHeartbeats 2000000
namespace Z
open PySem PySem.Spec PyProof.Rows L2 TL
/-! ### defs of the module, called by place or by keywords -/
abbrev FnP (K : PySem.W.Frag) (x : Str) (st : Stmt) (f : Addr) (fd : FuncData) : Prop := FunD K x x (L2.defArgs st) (L2.defBody st) (L2.defScope st) [] [] f fd
structure Call (P : Program) (w : World) (K : PySem.W.Frag) (mg : Str → Option Value) (base : Heap) (k : Nat) (x : Str) (ps : List Str) (sp : Sp) : Prop where
  ex : ∃ (f : Addr) (fd : FuncData), FnOk P w K mg base CX0 k f fd ps sp ∧ mg x = some (.ref f) ∧ PySem.W.keepIn K (.ref f) = true ∧ Binds K fd ps [] ∧ KBn K fd ps 0 ps (fun _ ws => ws) (fun _ zs => zs)
section
variable {P : Program} {w : World} {K : PySem.W.Frag} {mg : Str → Option Value} {base : Heap} {x : Str} {st : Stmt} {f : Addr} {fd : FuncData} {N ps : List Str} {k : Nat} {sp : Sp}
theorem kbn (F : FnP K x st f fd) (h : ∀ (kV doc pm : Value) (an : Option Addr) (cdv ct : Value) (ws : List Value), ws.length = ps.length → bindArgs (PySem.W.fnOf x x (L2.defArgs st) (L2.defBody st) (L2.defScope st) .none kV doc pm an cdv ct) ⟨[], ps.zip ws⟩ = pure (ps.zip ws)) :
    KBn K fd ps 0 ps (fun _ ws => ws) (fun _ zs => zs) := by
  obtain ⟨_, _, dflt, kwd, doc, mod, ann, code, tp, _, isFd, _, _, none_given, _⟩ := F.ex
  have no : dflt = .none := none_given.elim (fun q => q.2) fun q => absurd rfl q.1
  rw [isFd, no]
  refine ⟨fun st0 us ws _ nu nw => ?_, fun _ r => r⟩
  rw [List.eq_nil_of_length_eq_zero nu]
  exact .of_eq (h kwd doc mod ann code tp ws nw)
/-- a def's promise, by its body -/
theorem mkF (F : FnP K x st f fd) (S : FnScope N ps (L2.defScope st)) (len : ∀ vs H Q E, sp vs H Q E → vs.length = ps.length)
    (hbody : ∀ (cdv : Value) (A : Around) (outer : List Env) (s : Shared) (H : Hp) (vs : List V) (Q : VK) (E : XK), Room k (A.deeper (envOfC x (L2.defScope st) s.heap.objs.size f cdv)) → sp vs H Q E →
      ∃ t, PSs (cxOf CX0 P w K mg base N x (L2.defScope st) f cdv A outer s H E).nox (L2.defBody st) t ∧ t { nx := fun _ H' => Q .non H', rt := Q } (start N vs) H) : FnOk P w K mg base CX0 (k + 1) f fd ps sp :=
  F.ok S len fun cdv A outer s H vs Q E hr h => by
    obtain ⟨t, h1, h2⟩ := hbody cdv A outer s H vs Q E hr h
    exact ⟨t, h1.nox, h2⟩
theorem mk (F : FnP K x st f fd) (gm : mg x = some (.ref f))
    (hb : ∀ (kV doc pm : Value) (an : Option Addr) (cdv ct : Value) (us : List Value), us.length = ps.length → bindArgs (PySem.W.fnOf x x (L2.defArgs st) (L2.defBody st) (L2.defScope st) .none kV doc pm an cdv ct) ⟨us, []⟩ = pure (ps.zip us))
    (hk : ∀ (kV doc pm : Value) (an : Option Addr) (cdv ct : Value) (ws : List Value), ws.length = ps.length → bindArgs (PySem.W.fnOf x x (L2.defArgs st) (L2.defBody st) (L2.defScope st) .none kV doc pm an cdv ct) ⟨[], ps.zip ws⟩ = pure (ps.zip ws))
    (S : FnScope N ps (L2.defScope st)) (len : ∀ vs H Q E, sp vs H Q E → vs.length = ps.length)
    (hbody : ∀ (cdv : Value) (A : Around) (outer : List Env) (s : Shared) (H : Hp) (vs : List V) (Q : VK) (E : XK), Room k (A.deeper (envOfC x (L2.defScope st) s.heap.objs.size f cdv)) → sp vs H Q E →
      ∃ t, PSs (cxOf CX0 P w K mg base N x (L2.defScope st) f cdv A outer s H E).nox (L2.defBody st) t ∧ t { nx := fun _ H' => Q .non H', rt := Q } (start N vs) H) : Call P w K mg base (k + 1) x ps sp := by
  exact ⟨f, fd, mkF F S len hbody, gm, F.kp, F.bindsN hb, kbn F hk⟩
end
section
variable {X : Cx} {k j : Nat} {x : Str} {ps : List Str} {sp : Sp} {p pos : Pos} {e : Expr} {es : List Expr} {kws : List Keyword} {t tk : TA}
theorem pe_f (c : Call X.prog X.w X.K X.mg X.base k x ps sp) (hr : Room j X.A) (hk : k ≤ j) (hg : Gl X x) (ha : PA X (e :: es) t)
    (hdb : (x == ("__debug__" : Str)) = false := by decide) (he : starEach (e :: es) X.env = (false, eval e X.env) :: starEach es X.env := by rfl) (hpl : (backTo pos (starEach es X.env)).any (·.1) = false := by rfl) :
    PE X (.Call (.Name x p) (e :: es) [] pos) (tCall sp [] E0 t) := by
  obtain ⟨f, fd, F, hm, kp, b, _⟩ := c.ex
  exact pe_call F (hr.mono hk) hg hm kp b .nil pass0 ha hdb he hpl
theorem pe_f0 (c : Call X.prog X.w X.K X.mg X.base k x ps sp) (hr : Room j X.A) (hk : k ≤ j) (hg : Gl X x) (hdb : (x == ("__debug__" : Str)) = false := by decide) : PE X (.Call (.Name x p) [] [] pos) (tCall sp [] E0 tNil) := by
  obtain ⟨f, fd, F, hm, kp, b, _⟩ := c.ex
  exact pe_call0 F (hr.mono hk) hg hm kp b .nil pass0 hdb
/-- f(k = v, ..), all parameters by keywords, in their order -/
theorem pe_fk (c : Call X.prog X.w X.K X.mg X.base k x ps sp) (hr : Room j X.A) (hj : k ≤ j) (hg : Gl X x) (hkw : PK X kws tk)
    (hks : (backToKw pos (keywordEach kws X.env)).filterMap (·.1) = ps := by rfl) (hall : (backToKw pos (keywordEach kws X.env)).all (·.1.isSome) = true := by rfl)
    (hdb : (x == ("__debug__" : Str)) = false := by decide)
    (hpl : ((backTo pos (starEach [] X.env)).any (·.1) || (backToKw pos (keywordEach kws X.env)).any (·.1.isNone)) = false := by rfl) :
    PE X (.Call (.Name x p) [] kws pos) (tCallN 0 ps.length sp (fun _ zs => zs) E0 tNil tk) where
  run := fun pins s σ H Q I asks => by
    obtain ⟨f, fd, F, named, kept, _, binds⟩ := c.ex
    refine wpAny_Call_Name_kw (ld_glob I hg named (PySem.W.callWith_KW0 (h₀ := X.base) I.ok.mod.kin kept hall ?_ hpl) hdb)
    refine thn (hkw.run pos pins s σ H _ I asks) fun ws s2 told => ?_
    obtain ⟨zs, H2, I2, rz, _, many, wish⟩ := told
    refine ⟨I2.kIn, ?_⟩
    rw [hks]
    exact run_fnN (us := []) (vs := []) F (hr.mono hj) binds pass0 I2 .nil rz rfl many wish
end
section
variable {X : Cx} {x : Str} {pos : Pos}
/-- a module's constant -/
theorem pe_gc {v : V} (hg : Gl X x) (h : ∃ u, X.mg x = some u ∧ RelV v u) (hd : (x == ("__debug__" : Str)) = false := by decide) : PE X (.Name x pos) (tC v) := by
  obtain ⟨u, hm, r⟩ := h
  exact pe_glob hg hm r hd
end
/-- where the context is a comprehension's, its written part is the def's -/
theorem inK {X : Cx} {K : PySem.W.Frag} {e : Expr} {t : PySem.W.Frag → TE} (same : X.K = K) (h : PE X e (t X.K)) : PE X e (t K) := same ▸ h
/-! ### a text times a number -/
def repS (z : Str) (n : Nat) : Str := if n = 0 then Str.empty else if (n == 1 || z.length == 0) = true then z else ⟨(List.replicate n z.cps).foldl (· ++ ·) #[]⟩
theorem rep_size (a : Array Nat) : ∀ (n : Nat) (acc : Array Nat), ((List.replicate n a).foldl (· ++ ·) acc).size = acc.size + n * a.size
  | 0, acc => by simp
  | n + 1, acc => by
    rw [List.replicate_succ, List.foldl_cons, rep_size a n, Array.size_append, Nat.succ_mul]
    omega
theorem repS_len (z : Str) (n : Nat) : (repS z n).length = n * z.length := by
  unfold repS
  split
  · rename_i h
    rw [h, Nat.zero_mul]
    rfl
  · split
    · rename_i h
      simp only [Bool.or_eq_true, beq_iff_eq] at h
      rcases h with h | h
      · rw [h, Nat.one_mul]
      · rw [h, Nat.mul_zero]
    · show ((List.replicate n z.cps).foldl (· ++ ·) #[]).size = n * z.cps.size
      rw [rep_size]
      simp
section
variable {X : Cx}
theorem op_rep_str : OpR X (binaryOp .Mult) (fun x y H Q => ∃ (z : Str) (i : Int), x = .str z ∧ y = .int i ∧ 0 ≤ i ∧ i ≤ 1000 ∧ z.length ≤ 1000 ∧ Q (.str (repS z i.toNat)) H) := by
  intro pins s σ H x y v u Q I rx ry h
  obtain ⟨z, i, rfl, rfl, h0, h1, hz, q⟩ := h
  obtain ⟨t, rfl⟩ := rx
  obtain ⟨t', rfl⟩ := ry
  have hle : z.length * i.toNat ≤ 1000000 := Nat.le_trans (Nat.mul_le_mul hz (show i.toNat ≤ 1000 by omega)) (by decide)
  refine PySem.P.mul_str ?_ (fun hn _ hgt => ?_) (fun _ _ => PyProof.Rows.short24 (by omega)) ?_
  · rw [decide_eq_false (show ¬ i < -(2 ^ 63) by omega), decide_eq_false (show ¬ i ≥ 2 ^ 63 by omega)]
    rfl
  · have h2 : i ∣ i := Int.dvd_refl i
    have h3 : (2 ^ 63 - 1) / (1000 : Int) ≤ (2 ^ 63 - 1) / i := by
      have : (2 ^ 63 - 1) / (1000 : Int) * i ≤ 2 ^ 63 - 1 := by
        have e : (2 ^ 63 - 1) / (1000 : Int) = 9223372036854775 := by decide
        rw [e]
        omega
      exact (Int.le_ediv_iff_mul_le (by omega)).mpr this
    have e : (2 ^ 63 - 1) / (1000 : Int) = 9223372036854775 := by decide
    rw [e] at h3
    omega
  · by_cases hn : i < 1
    · rw [if_pos hn]
      have : repS z i.toNat = Str.empty := by unfold repS; rw [if_pos (show i.toNat = 0 by omega)]
      rw [this] at q
      exact ⟨by decide, ⟨.str Str.empty, H, I.tok _, ⟨_, rfl⟩, q⟩⟩
    · rw [if_neg hn]
      have e1 : (i == 1) = (i.toNat == 1) := by
        by_cases h : i = 1
        · subst h; rfl
        · rw [beq_eq_false_iff_ne.mpr h, beq_eq_false_iff_ne.mpr (show i.toNat ≠ 1 by omega)]
      have e2 : repS z i.toNat = if (i.toNat == 1 || z.length == 0) = true then z else ⟨(List.replicate i.toNat z.cps).foldl (· ++ ·) #[]⟩ := by
        unfold repS
        rw [if_neg (show ¬ i.toNat = 0 by omega)]
      have hl := repS_len z i.toNat
      rw [e2] at q hl
      rw [e1]
      by_cases hc : (i.toNat == 1 || z.length == 0) = true
      · rw [if_pos hc] at q ⊢
        exact ⟨.str z, H, I, ⟨t, rfl⟩, q⟩
      · rw [if_neg hc] at q hl ⊢
        refine ⟨?_, ⟨.str _, H, I.tok _, ⟨_, rfl⟩, q⟩⟩
        rw [hl, sizeLine_eq]
        rw [Nat.mul_comm] at hle
        omega
end
/-! ### the size of a cell -/
theorem bits_lt {z : Int} {n : Nat} (h : Builtin.Int.intBits z ≤ n) : z.natAbs < 2 ^ n := by
  unfold Builtin.Int.intBits at h
  by_cases hz : z = 0
  · rw [hz]
    exact Nat.two_pow_pos n
  · have e : (z == 0) = false := beq_eq_false_iff_ne.mpr hz
    rw [e, if_neg Bool.false_ne_true] at h
    exact Nat.lt_of_lt_of_le (Nat.lt_log2_self) (Nat.pow_le_pow_right (by decide) h)
end Z
set_option maxHeartbeats 2000000
namespace Z
open PySem PySem.Spec PyProof.Rows L2 TL Evl
/-! ### named readings of values -/
def rStrip : V → List V → Hp → VK → Prop := fun x xs H Q => ∃ a b, x = .str a ∧ xs = [.str b] ∧ a.length ≤ sizeLine ∧ Q (.str (Txt.stripChars a b)) H
def rIsascii : V → List V → Hp → VK → Prop := fun x xs H Q => ∃ a, x = .str a ∧ xs = [] ∧ True ∧ Q (.bl (Txt.isascii a)) H
def rIsprint : V → List V → Hp → VK → Prop := fun x xs H Q => ∃ a, x = .str a ∧ xs = [] ∧ True ∧ Q (.bl (Txt.isprintable a)) H
def rTrans : V → List V → Hp → VK → Prop := fun x xs H Q => ∃ (z : Str) (d : Addr), x = .str z ∧ xs = [.ref d] ∧ H d = some (.dK [(Sum.inl 37, .non)]) ∧ (∀ c ∈ tl z, c < 128) ∧ z.length ≤ 16000000 ∧ Q (.str (no37 z)) H
def rAddS2 : R2 := fun x y H Q => ∃ i j, x = .str i ∧ y = .str j ∧ i.length + j.length ≤ sizeLine ∧ Q (.str (i ++ j)) H
def rLenStr : List V → Hp → VK → Prop := fun xs H Q => ∃ z, xs = [.str z] ∧ z.length ≤ sizeLine ∧ Q (.int z.length) H
def rIntStr : List V → Hp → VK → Prop := fun xs H Q => ∃ a n, xs = [.str a] ∧ PySem.intText? a = some n ∧ a.length ≤ 640 ∧ Q (.int n) H
def rStarts : V → List V → Hp → VK → Prop := fun x xs H Q => ∃ a b, x = .str a ∧ xs = [.str b] ∧ Q (.bl (Txt.startswith a b)) H
section
variable {X : Cx}
theorem mz_strip : MtR X "str.strip" rStrip := mt_stripChars
theorem mz_isascii : MtR X "str.isascii" rIsascii := mt_isascii
theorem mz_isprint : MtR X "str.isprintable" rIsprint := mt_isprintable
theorem mz_trans (hc : X.calm = true) : MtR X "str.translate" rTrans := mt_translate37 hc
theorem oz_add : OpR X (binaryOp .Add) rAddS2 := op_add_str
theorem cz_len : CallR X (.builtin "len") rLenStr := call_len_str
theorem cz_int : CallR X (.type "int") rIntStr := call_int_str
theorem mz_starts : MtR X "str.startswith" rStarts := mt_startswith
end
/-! ### what evaluates to what, for texts -/
section
variable {K : PySem.W.Frag} {σ : L2.St} {H H' : Hp} {ta tb tc te to ts : TE} {t u : TT} {x y z v : V} {r : R2} {a b s : Str} {c : Nat}
theorem rv_in {w : Str} : RV rInS (.str ⟨#[c]⟩) (.str w) H (.bl (decide (c ∈ tl w))) := fun H1 _ _ q => ⟨c, w, rfl, rfl, q H1 (Ex.refl H1)⟩
theorem rv_notin {w : Str} : RV rNotInS (.str ⟨#[c]⟩) (.str w) H (.bl (!decide (c ∈ tl w))) := fun H1 _ _ q => ⟨c, w, rfl, rfl, q H1 (Ex.refl H1)⟩
theorem rv_isN : RV rIsN x .non H (.bl (decide (x = .non))) := fun H1 _ _ q => ⟨rfl, q H1 (Ex.refl H1)⟩
theorem rv_notN : RV rNotN x .non H (.bl (!decide (x = .non))) := fun H1 _ _ q => ⟨rfl, q H1 (Ex.refl H1)⟩
theorem rv_addS (h : a.length + b.length ≤ 200000) : RV rAddS2 (.str a) (.str b) H (.str (a ++ b)) := fun H1 _ _ q => ⟨a, b, rfl, rfl, Nat.le_trans h (by decide), q H1 (Ex.refl H1)⟩
theorem decS {a b : Str} : decide (V.str a = V.str b) = decide (a = b) := by
  by_cases h : a = b
  · rw [decide_eq_true h, decide_eq_true (congrArg V.str h)]
  · rw [decide_eq_false h, decide_eq_false fun e => h (V.str.inj e)]
theorem decI {a b : Int} : decide (V.int a = V.int b) = decide (a = b) := by
  by_cases h : a = b
  · rw [decide_eq_true h, decide_eq_true (congrArg V.int h)]
  · rw [decide_eq_false h, decide_eq_false fun e => h (V.int.inj e)]
theorem rv_eqS : RV rEq (.str a) (.str b) H (.bl (decide (a = b))) := by
  rw [← decS]; exact rv_eq rfl
theorem rv_neS : RV rNe (.str a) (.str b) H (.bl (!decide (a = b))) := by
  rw [← decS]; exact rv_ne rfl
theorem rv_eqI {i j : Int} : RV rEq (.int i) (.int j) H (.bl (decide (i = j))) := by
  rw [← decI]; exact rv_eq rfl
theorem rv_neI {i j : Int} : RV rNe (.int i) (.int j) H (.bl (!decide (i = j))) := by
  rw [← decI]; exact rv_ne rfl
theorem ev_strip (h : Ev to σ H (.str a)) (hs : Ev ts σ H (.str s)) (hz : a.length ≤ 100000) : Ev (tBM K "str" rStrip to (tCons ts tNil)) σ H (.str (Txt.stripChars a s)) := fun H1 e Q q =>
  h H1 e _ fun H2 e2 => ⟨rfl, hs H2 (e.trans e2) _ fun H3 e3 => ⟨a, s, rfl, rfl, sz_of hz, q H3 (e2.trans e3)⟩⟩
theorem ev_isascii (h : Ev to σ H (.str a)) : Ev (tBM0 K "str" rIsascii to) σ H (.bl (Txt.isascii a)) := fun H1 e Q q => h H1 e _ fun H2 e2 => ⟨rfl, a, rfl, rfl, trivial, q H2 e2⟩
theorem ev_isprint (h : Ev to σ H (.str a)) : Ev (tBM0 K "str" rIsprint to) σ H (.bl (Txt.isprintable a)) := fun H1 e Q q => h H1 e _ fun H2 e2 => ⟨rfl, a, rfl, rfl, trivial, q H2 e2⟩
theorem ev_starts (h : Ev to σ H (.str a)) (hs : Ev ts σ H (.str s)) : Ev (tBM K "str" rStarts to (tCons ts tNil)) σ H (.bl (Txt.startswith a s)) := fun H1 e Q q =>
  h H1 e _ fun H2 e2 => ⟨rfl, hs H2 (e.trans e2) _ fun H3 e3 => ⟨a, s, rfl, rfl, q H3 (e2.trans e3)⟩⟩
/-- text.translate({37: None}) -/
theorem ev_trans (h : Ev to σ H (.str a)) (ha : ∀ c ∈ tl a, c < 128) (hz : a.length ≤ 100000) : Ev (tBM K "str" rTrans to (tCons (tDisp [(tC (.int 37), tC .non)]) tNil)) σ H (.str (no37 a)) := fun H1 e Q q =>
  h H1 e _ fun H2 e2 => ⟨rfl, fun p hp => ⟨upd_same, [(Sum.inl 37, .non)], rfl, (by decide), ⟨a, p, rfl, rfl, (by rw [upd_same]; rfl), ha, Nat.le_trans hz (by decide), q _ (e2.trans (fun b o hb => by
    rw [upd_ne (ne_of_none hb hp), upd_ne (ne_of_none hb hp)]
    exact hb))⟩⟩⟩
theorem ev_lenStr (h : Ev te σ H (.str a)) (hz : a.length ≤ 100000) : Ev (tCB rLenStr (tCons te tNil)) σ H (.int (a.length : Int)) := fun H1 e Q q => h H1 e _ fun H2 e2 => ⟨a, rfl, sz_of hz, q H2 e2⟩
theorem ev_intStr {n : Int} (h : Ev te σ H (.str a)) (hn : PySem.intText? a = some n) (hl : a.length ≤ 640) : Ev (tCB rIntStr (tCons te tNil)) σ H (.int n) := fun H1 e Q q => h H1 e _ fun H2 e2 => ⟨a, n, rfl, hn, hl, q H2 e2⟩
theorem ev_slS {tl' th : TO} {lo hi : Option Int} (h : Ev te σ H (.str a)) (h1 : EvO tl' σ H lo) (h2 : EvO th σ H hi) (hz : a.length ≤ 100000) : Ev (tSl rSlS te tl' th) σ H (.str (cutS a lo hi)) := fun H1 e Q q =>
  h H1 e _ fun H2 e2 => h1 H2 (e.trans e2) _ fun H3 e3 => h2 H3 ((e.trans e2).trans e3) _ fun H4 e4 => ⟨a, rfl, sz_of hz, q H4 ((e2.trans e3).trans e4)⟩
theorem ev_ixS {i : Int} (h : Ev te σ H (.str a)) (h1 : Ev tb σ H (.int i)) (hz : a.length ≤ 100000) (ha : atI (tl a) i = some c) : Ev (tOp rIxS te tb) σ H (.str ⟨#[c]⟩) := ev_op h h1 (rv_ixS hz ha)
/-- a <= b <= c -/
theorem ev_chain {i j k : Int} (ha : Ev ta σ H (.int i)) (hb : Ev tb σ H (.int j)) (hc : Ev tc σ H (.int k)) :
    Ev (tChain (rI0 fun i j => .bl (decide (i ≤ j))) (rI0 fun i j => .bl (decide (i ≤ j))) ta tb tc) σ H (.bl (decide (i ≤ j) && decide (j ≤ k))) := fun H1 e Q q =>
  ha H1 e _ fun H2 e2 => hb H2 (e.trans e2) _ fun H3 e3 => ⟨i, j, rfl, rfl, _, rfl, by
    cases h : decide (i ≤ j) with
    | true =>
      refine iteT ?_
      refine hc H3 ((e.trans e2).trans e3) _ fun H4 e4 => ⟨j, k, rfl, rfl, ?_⟩
      have g := q H4 ((e2.trans e3).trans e4)
      rw [h] at g
      exact g
    | false =>
      refine iteF ?_
      have g := q H3 (e2.trans e3)
      rw [h] at g
      exact g⟩
/-- the same, where the last part is asked only if the first holds -/
theorem ev_callN {sp : Sp} {vs : List V} {n : Nat} {E : XK} {tk : TA} (h : EvA tk σ H vs) (hl : vs.length = n) (hs : SpV sp vs H z) : Ev (tCallN 0 n sp (fun _ zs => zs) E tNil tk) σ H z := fun H1 e Q q =>
  h H1 e _ fun H2 e2 => ⟨rfl, hl, hs H2 (e.trans e2) Q (fun H3 e3 => q H3 (e2.trans e3)) E⟩
theorem el_callN {sp : Sp} {vs xs : List V} {n : Nat} {E : XK} {tk : TA} (h : EvA tk σ H vs) (hl : vs.length = n) (hs : SpL sp vs H xs) : EvL (tCallN 0 n sp (fun _ zs => zs) E tNil tk) σ H xs := fun H1 e Q q =>
  h H1 e _ fun H2 e2 => ⟨rfl, hl, hs H2 (e.trans e2) Q (fun p H3 hp e3 h3 => q p H3 (fresh_back e2 hp) (e2.trans e3) h3) E⟩
end
/-! ### promises of plain functions of texts -/
def sp1 (f : Str → V) : Sp := fun vs H Q _ => ∃ z : Str, vs = [.str z] ∧ z.length ≤ 100000 ∧ RetV (f z) H Q
def sp2 (f : Str → Str → V) : Sp := fun vs H Q _ => ∃ z s : Str, vs = [.str z, .str s] ∧ z.length ≤ 100000 ∧ RetV (f z s) H Q
def sp0 (v : V) : Sp := fun vs H Q _ => vs = [] ∧ RetV v H Q
def sp1L (f : Str → List V) : Sp := fun vs H Q _ => ∃ z : Str, vs = [.str z] ∧ z.length ≤ 10000 ∧ RetL (f z) H Q
theorem sv1 {f : Str → V} {z : Str} {H : Hp} (h : z.length ≤ 100000) : SpV (sp1 f) [.str z] H (f z) := fun H1 e Q q E => ⟨z, rfl, h, q⟩
theorem sv2 {f : Str → Str → V} {z s : Str} {H : Hp} (h : z.length ≤ 100000) : SpV (sp2 f) [.str z, .str s] H (f z s) := fun H1 e Q q E => ⟨z, s, rfl, h, q⟩
theorem sv0 {v : V} {H : Hp} : SpV (sp0 v) [] H v := fun H1 e Q q E => ⟨rfl, q⟩
theorem sl1 {f : Str → List V} {z : Str} {H : Hp} (h : z.length ≤ 10000) : SpL (sp1L f) [.str z] H (f z) := fun H1 e Q q E => ⟨z, rfl, h, q⟩
end Z
set_option maxHeartbeats 2000000
namespace Z
open PySem PySem.Spec PyProof.Rows L2 TL Evl
/-! ### cut at commas -/
def splC : List Nat → List Nat → List (List Nat)
  | acc, [] => [acc]
  | acc, c :: r => if c = 44 then acc :: splC [] r else splC (acc ++ [c]) r
theorem spl_splC : ∀ (l acc : List Nat), spl [44] 0 acc l = splC acc l
  | [], acc => spl_nil _ _ _
  | c :: r, acc => by
    have hp : pre [44] (c :: r) = decide (c = 44) := by
      show ([c] == [44]) = decide (c = 44)
      by_cases h : c = 44
      · rw [h]; rfl
      · rw [decide_eq_false h]
        exact beq_eq_false_iff_ne.mpr fun e => h (by cases e; rfl)
    show spl [44] 0 acc (c :: r) = if c = 44 then acc :: splC [] r else splC (acc ++ [c]) r
    by_cases h : c = 44
    · rw [spl_hit (by rw [hp, decide_eq_true h]), if_pos h]
      show acc :: spl [44] 0 [] r = _
      rw [spl_splC r []]
    · rw [spl_miss (by rw [hp, decide_eq_false h]), if_neg h]
      exact spl_splC r (acc ++ [c])
theorem splC_len : ∀ (l acc : List Nat), (splC acc l).length ≤ l.length + 1
  | [], acc => Nat.le_refl _
  | c :: r, acc => by
    show (if c = 44 then acc :: splC [] r else splC (acc ++ [c]) r).length ≤ r.length + 1 + 1
    by_cases h : c = 44
    · rw [if_pos h, List.length_cons]; have := splC_len r []; omega
    · rw [if_neg h]; have := splC_len r (acc ++ [c]); omega
theorem splC_each : ∀ (l acc p : List Nat), p ∈ splC acc l → p.length ≤ acc.length + l.length
  | [], acc, p, h => by
    rw [List.mem_singleton.mp h]
    exact Nat.le_add_right _ _
  | c :: r, acc, p, h => by
    have h : p ∈ (if c = 44 then acc :: splC [] r else splC (acc ++ [c]) r) := h
    rw [List.length_cons]
    by_cases hc : c = 44
    · rw [if_pos hc] at h
      rcases List.mem_cons.mp h with e | h
      · rw [e]; omega
      · have := splC_each r [] p h
        rw [List.length_nil] at this
        omega
    · rw [if_neg hc] at h
      have := splC_each r (acc ++ [c]) p h
      rw [List.length_append, List.length_singleton] at this
      omega
theorem comma : tl ("," : Str) = [44] := by decide +kernel
theorem comma_kind {x : Str} : ¬ Builtin.Str.strKind x < Builtin.Str.strKind ("," : Str) := kind_ok (by decide +kernel)
theorem split_tl (z : Str) : (Txt.split z ",").map tl = splC [] (tl z) := by
  rw [split_spl z "," (by rw [comma]; simp) comma_kind, comma]
  exact spl_splC _ _
def S' (l : List Nat) : Str := ⟨l.toArray⟩
theorem S'_tl (x : Str) : S' (tl x) = x := mk_tl x
theorem tl_S' (l : List Nat) : tl (S' l) = l := rfl
theorem split_eq (z : Str) : Txt.split z "," = (splC [] (tl z)).map S' := by
  rw [← split_tl, List.map_map]
  have : (S' ∘ tl) = id := funext S'_tl
  rw [this, List.map_id]
theorem split_len (z : Str) : (Txt.split z ",").length ≤ z.length + 1 := by
  rw [split_eq, List.length_map, len_tl]
  exact splC_len _ _
theorem split_each {z p : Str} (h : p ∈ Txt.split z ",") : p.length ≤ z.length := by
  rw [split_eq] at h
  obtain ⟨l, hl, rfl⟩ := List.mem_map.mp h
  have := splC_each _ _ _ hl
  rw [List.length_nil, Nat.zero_add] at this
  rw [len_tl, len_tl]
  exact this
/-- the elements of a list in a field -/
def stripped (z : Str) : List Str := (Txt.split z ",").map fun p => Txt.stripChars p " "
def elems (z : Str) : List Str := (stripped z).filter fun p => !decide (p = ("" : Str))
/-! ### the same, sign by sign -/
def wstep (st : List Str × Str) (c : Nat) : List Str × Str :=
  if c = 44 then (if Txt.stripChars st.2 " " = ("" : Str) then st.1 else st.1 ++ [Txt.stripChars st.2 " "], "") else (st.1, st.2 ++ ⟨#[c]⟩)
def keepW (p : Str) : List Str := if Txt.stripChars p " " = ("" : Str) then [] else [Txt.stripChars p " "]
theorem keepW_eq (l : List Str) : (l.map fun p => Txt.stripChars p " ").filter (fun p => !decide (p = ("" : Str))) = l.flatMap keepW := by
  induction l with
  | nil => rfl
  | cons p r ih =>
    rw [List.map_cons, List.filter_cons, List.flatMap_cons, ih]
    unfold keepW
    by_cases h : Txt.stripChars p " " = ("" : Str)
    · rw [decide_eq_true h, if_pos h]; rfl
    · rw [decide_eq_false h, if_neg h]; rfl
theorem snoc_S' (l : List Nat) (c : Nat) : S' l ++ (⟨#[c]⟩ : Str) = S' (l ++ [c]) := ext_tl (by rw [tl_append]; rfl)
theorem wfold : ∀ (l : List Nat) (fs : List Str) (w : List Nat), (l ++ [44]).foldl wstep (fs, S' w) = (fs ++ ((splC w l).map S').flatMap keepW, ("" : Str))
  | [], fs, w => by
    show wstep (fs, S' w) 44 = _
    unfold wstep
    rw [if_pos rfl]
    show (if Txt.stripChars (S' w) " " = ("" : Str) then fs else fs ++ [Txt.stripChars (S' w) " "], ("" : Str)) = (fs ++ ([w].map S').flatMap keepW, ("" : Str))
    have : ([w].map S').flatMap keepW = keepW (S' w) := by simp
    rw [this]
    unfold keepW
    by_cases h : Txt.stripChars (S' w) " " = ("" : Str)
    · rw [if_pos h, if_pos h, List.append_nil]
    · rw [if_neg h, if_neg h]
  | c :: r, fs, w => by
    rw [List.cons_append, List.foldl_cons]
    show List.foldl wstep (wstep (fs, S' w) c) (r ++ [44]) = (fs ++ ((if c = 44 then w :: splC [] r else splC (w ++ [c]) r).map S').flatMap keepW, ("" : Str))
    unfold wstep
    by_cases h : c = 44
    · rw [if_pos h, if_pos h]
      have e : ("" : Str) = S' [] := eq_comm.mp (eq_empty.mpr rfl)
      show List.foldl wstep (if Txt.stripChars (S' w) " " = ("" : Str) then fs else fs ++ [Txt.stripChars (S' w) " "], ("" : Str)) (r ++ [44]) = _
      rw [e, wfold r _ [], List.map_cons, List.flatMap_cons, ← e]
      unfold keepW
      by_cases h2 : Txt.stripChars (S' w) " " = ("" : Str)
      · rw [if_pos h2, if_pos h2, List.nil_append]
      · rw [if_neg h2, if_neg h2, List.append_assoc]
    · rw [if_neg h, if_neg h]
      show List.foldl wstep (fs, S' w ++ ⟨#[c]⟩) (r ++ [44]) = _
      rw [snoc_S', wfold r fs (w ++ [c])]
theorem words_elems (z : Str) : ((tl z ++ [44]).foldl wstep ([], ("" : Str))).1 = elems z := by
  have e : ("" : Str) = S' [] := eq_comm.mp (eq_empty.mpr rfl)
  have h := wfold (tl z) [] []
  rw [← e] at h
  rw [h]
  show [] ++ ((splC [] (tl z)).map S').flatMap keepW = elems z
  rw [List.nil_append, ← split_eq]
  unfold elems stripped
  rw [keepW_eq]
/-! ### what a comprehension gives -/
theorem given_take {α : Type} (xs : List α) (d : α) (p : α → Bool) (g : α → V) : ∀ n, n ≤ xs.length → given n (fun i => p (xs.getD i d)) (fun i => g (xs.getD i d)) = ((xs.take n).filter p).map g
  | 0, _ => rfl
  | n + 1, h => by
    have hn : n < xs.length := h
    have e : xs.getD n d = xs[n] := by rw [List.getD_eq_getElem?_getD, List.getElem?_eq_getElem hn]; rfl
    have et : xs.take (n + 1) = xs.take n ++ [xs[n]] := by rw [List.take_add_one, List.getElem?_eq_getElem hn]; rfl
    rw [et, List.filter_append, List.map_append, ← given_take xs d p g n (by omega)]
    by_cases hp : p (xs.getD n d) = true
    · rw [given_yes (f := fun i => p (xs.getD i d)) hp]
      rw [e] at hp ⊢
      rw [List.filter_cons, if_pos hp]
      rfl
    · have hp' : p (xs.getD n d) = false := by
        cases h : p (xs.getD n d) with
        | true => exact absurd h hp
        | false => rfl
      rw [given_no (f := fun i => p (xs.getD i d)) hp']
      rw [e] at hp
      rw [List.filter_cons, if_neg hp]
      show _ = _ ++ []
      rw [List.append_nil]
theorem given_all {α : Type} (xs : List α) (d : α) (p : α → Bool) (g : α → V) : given xs.length (fun i => p (xs.getD i d)) (fun i => g (xs.getD i d)) = (xs.filter p).map g := by
  rw [given_take xs d p g xs.length (Nat.le_refl _), List.take_length]
theorem at_str {xs : List Str} {i : Nat} {x : V} (h : (xs.map V.str)[i]? = some x) (d : Str) : i < xs.length ∧ x = .str (xs.getD i d) ∧ xs.getD i d ∈ xs := by
  rw [List.getElem?_map] at h
  cases e : xs[i]? with
  | none => rw [e] at h; cases h
  | some a =>
    rw [e] at h
    cases h
    have : xs.getD i d = a := by rw [List.getD_eq_getElem?_getD, e]; rfl
    exact ⟨(List.getElem?_eq_some_iff.mp e).1, by rw [this], by rw [this]; exact List.mem_of_getElem? e⟩
/-! ### loops over a text; a text split -/
def rSplit : V → List V → Hp → VK → Prop := fun x xs H Q => ∃ a b, x = .str a ∧ xs = [.str b] ∧ (b.length == 0) = false ∧ a.length + 2 ≤ sizeLine ∧ rNewStrs (Txt.split a b) H Q
theorem mz_split {X : Cx} : MtR X "str.split" rSplit := mt_split
section
variable {K : PySem.W.Frag} {σ : L2.St} {H H' : Hp} {ta tb tc te to ts : TE} {t u : TT} {x y z v : V} {r : R2} {a b s : Str} {c : Nat} {D : Ends} {tu tz : TS}
theorem el_split (h : Ev to σ H (.str a)) (hs : Ev ts σ H (.str s)) (h0 : (s.length == 0) = false) (hz : a.length ≤ 100000) : EvL (tBM K "str" rSplit to (tCons ts tNil)) σ H ((Txt.split a s).map V.str) := fun H1 e Q q =>
  h H1 e _ fun H2 e2 => ⟨rfl, hs H2 (e.trans e2) _ fun H3 e3 => ⟨a, s, rfl, rfl, h0, Nat.le_trans (Nat.add_le_add_right hz 2) (by decide), fun p hp => q p _ (fresh_back (e2.trans e3) hp) ((e2.trans e3).trans (Ex.new hp)) upd_same⟩⟩
theorem s_forS {w : Str} {j : Nat} (h : Ev te σ H (.str w)) (Pv : Nat → L2.St → Hp → Prop) (h0 : ∀ H1, Ex H H1 → Pv 0 σ H1)
    (hs : ∀ i c σ' H', (tl w)[i]? = some c → Pv i σ' H' → tu { D with nx := Pv (i + 1), ct := Pv (i + 1), bk := D.nx } (σ'.set j (some (.str ⟨#[c]⟩))) H') (hd : ∀ σ' H', Pv (tl w).length σ' H' → D.nx σ' H') : tFor (iStr te) (gName j) tu D σ H :=
  h H (Ex.refl H) _ fun H1 e => ⟨w, rfl, for_it (walk_str (z := w)) Pv (h0 H1 e) (fun _ _ _ _ _ => trivial) (fun i x σ' H' H'' hi p y => by
    obtain ⟨rfl, c, hc, rfl⟩ := y
    exact hs i c σ' H'' (by show w.cps.toList[i]? = some c; simpa using hc) p) (fun σ' H' p => hd σ' H' (by
      have : (tl w).length = w.cps.size := by rw [len_tl']; rfl
      rw [this]; exact p))⟩
theorem q_forS {w : Str} {j : Nat} (h : Ev te σ H (.str w)) (Pv : Nat → L2.St → Hp → Prop) (h0 : ∀ H1, Ex H H1 → Pv 0 σ H1)
    (hs : ∀ i c σ' H', (tl w)[i]? = some c → Pv i σ' H' → tu { D with nx := Pv (i + 1), ct := Pv (i + 1), bk := tz D } (σ'.set j (some (.str ⟨#[c]⟩))) H') (hd : ∀ σ' H', Pv (tl w).length σ' H' → tz D σ' H') : tSeq (tFor (iStr te) (gName j) tu) tz D σ H :=
  s_forS (D := { D with nx := tz D }) h Pv h0 hs hd
end
/-! ### numbers -/
open NumText in
theorem digits_all {z : Str} (h : allIn z "0123456789" = true) : AllDigits (tl z) := fun c hc => by
  have h1 := of_decide_eq_true (List.all_eq_true.mp h c hc)
  have e : tl ("0123456789" : Str) = [48, 49, 50, 51, 52, 53, 54, 55, 56, 57] := by decide +kernel
  rw [e] at h1
  simp only [List.mem_cons, List.not_mem_nil, or_false] at h1
  omega
theorem int_digits {z : Str} (h : allIn z "0123456789" = true) (h1 : 1 ≤ z.length) (h2 : z.length ≤ 640) : PySem.intText? z = some ((NumText.digitsVal (tl z) : Nat) : Int) :=
  intText_digits (digits_all h) (fun e => by
    rw [len_tl] at h1
    have : tl z = [] := e
    rw [this] at h1
    exact absurd h1 (by decide)) (by omega)
end Z
set_option maxHeartbeats 4000000
namespace Z
open PySem PySem.Spec PyProof.Rows L2 TL Evl
/-! ### what the functions give -/
def pathB (z : Str) : Bool := (decide ((1 : Int) ≤ z.length) && decide ((z.length : Int) ≤ 60)) && (decide (hd z = some 47) && allIn z "abcdefghijklmnopqrstuvwxyz0123456789/-.")
def hdIn (z s : Str) : Bool := match hd z with | some c => decide (c ∈ tl s) | none => false
def wordB (z : Str) (m : Int) : Bool := (decide ((1 : Int) ≤ z.length) && decide ((z.length : Int) ≤ m)) && (hdIn z "abcdefghijklmnopqrstuvwxyz" && allIn z "abcdefghijklmnopqrstuvwxyz0123456789-")
def nameB (z : Str) : Bool := wordB z 30 && !decide (z = ("length" : Str))
def valueB (z : Str) : Bool := decide ((z.length : Int) ≤ 200) && (allIn z signs && decide (Txt.stripChars z " " = z))
def digB (z : Str) : Bool := (decide ((1 : Int) ≤ z.length) && decide ((z.length : Int) ≤ 6)) && (allIn z "0123456789" && (decide ((z.length : Int) = 1) || !decide (hd z = some 48)))
def numV (z : Str) : V := if digB z = true then .int (((NumText.digitsVal (tl z) : Nat)) : Int) else .non
theorem item0 {z : Str} (h : 1 ≤ z.length) : ∃ c, hd z = some c ∧ atI (tl z) 0 = some c := by
  obtain ⟨c, h1, h2⟩ := hd_some h
  refine ⟨c, h1, ?_⟩
  have : (tl z)[0]? = some c := by
    show z.cps.toList[0]? = some c
    simpa using h2
  exact atI_nat (j := 0) this
theorem pl {a b c : Int} (h : (decide (a ≤ b) && decide (b ≤ c)) = true) : a ≤ b ∧ b ≤ c := by
  rw [Bool.and_eq_true, decide_eq_true_eq, decide_eq_true_eq] at h
  exact h
section
variable {P : Program} {w : World} {K : PySem.W.Frag} {mg : Str → Option Value} {base : Heap} {f : Addr} {fd : FuncData} {k : Nat}
end
end Z

namespace Z
open PySem PySem.Spec PyProof.Rows L2 TL Evl
theorem et_yes {σ : L2.St} {H : Hp} : EvT tYes σ H true := fun H1 e Q q => q H1 (Ex.refl H1)
theorem cut1_eq (z : Str) (c : Nat) : decide (cutS z none (some 1) = (⟨#[c]⟩ : Str)) = decide (hd z = some c) := by
  cases e : hd z with
  | none =>
    rw [cut1_nil e, decide_eq_false (show ¬ (none : Option Nat) = some c from fun h => nomatch h)]
    refine decide_eq_false fun h => ?_
    have := congrArg tl h
    rw [tl_empty] at this
    exact absurd this.symm (by show ¬ [c] = []; simp)
  | some d =>
    rw [cut1_one e]
    by_cases h : d = c
    · rw [h, decide_eq_true rfl, decide_eq_true rfl]
    · rw [decide_eq_false fun x => h ((one_eq _ _).mp x), decide_eq_false fun x => h (Option.some.inj x)]
theorem cut_len (z : Str) (a b : Option Int) : (cutS z a b).length ≤ z.length := cutS_length z a b
def rest (z : Str) : Str := cutS z (some 1) none
def readV (z : Str) : V := if hd z = some 45 then (if digB (rest z) = true ∧ rest z ≠ ("0" : Str) then .int (-((NumText.digitsVal (tl (rest z)) : Nat) : Int)) else .non) else numV z
theorem starts_minus (z : Str) : Txt.startswith z "-" = decide (hd z = some 45) := by
  have e45 : ("-" : Str) = ⟨#[45]⟩ := by decide +kernel
  unfold Txt.startswith Builtin.Str.subAt
  rw [e45]
  show (decide (0 + 1 ≤ z.length) && (z.cps.extract 0 (0 + 1) == #[45])) = _
  have hx : (z.cps.extract 0 (0 + 1) == #[45]) = decide ((tl z).take 1 = [45]) := by
    have : (z.cps.extract 0 (0 + 1)).toList = (tl z).take 1 := by simp [tl]
    by_cases h : (tl z).take 1 = [45]
    · rw [decide_eq_true h]
      refine beq_iff_eq.mpr (Array.toList_inj.mp ?_)
      rw [this, h]
    · rw [decide_eq_false h]
      refine beq_eq_false_iff_ne.mpr fun e => h ?_
      rw [← this, e]
  rw [hx, len_tl]
  unfold hd
  cases e : tl z with
  | nil => rfl
  | cons a r =>
    have h1 : 0 + 1 ≤ (a :: r).length := by rw [List.length_cons]; omega
    rw [decide_eq_true h1, Bool.true_and]
    show decide ([a] = [45]) = decide (some a = some 45)
    by_cases h : a = 45
    · rw [h]; rfl
    · rw [decide_eq_false fun e => h (by cases e; rfl), decide_eq_false fun e => h (Option.some.inj e)]
theorem zero_text {z : Str} (h : z.length = 1) (h48 : hd z = some 48) : z = ("0" : Str) := by
  refine ext_tl ?_
  have e : tl ("0" : Str) = [48] := by decide +kernel
  rw [e]
  unfold hd at h48
  rw [len_tl] at h
  cases q : tl z with
  | nil => rw [q] at h48; cases h48
  | cons a r =>
    rw [q] at h48 h
    cases h48
    cases r with
    | nil => rfl
    | cons b t => rw [List.length_cons, List.length_cons] at h; omega
theorem zero_len {z : Str} (h : z = ("0" : Str)) : z.length = 1 := by rw [h]; decide +kernel
section
variable {P : Program} {w : World} {K : PySem.W.Frag} {mg : Str → Option Value} {base : Heap} {f : Addr} {fd : FuncData} {k : Nat}
abbrev cons_ (P : Program) (w : World) (K : PySem.W.Frag) (mg : Str → Option Value) (base : Heap) : Prop := Call P w K mg base 1 "consists_of" ["text", "signs"] (sp2 fun z s => .bl (allIn z s))
end
end Z

namespace Z
open PySem PySem.Spec PyProof.Rows L2 TL Evl
open NumText in
theorem fold_mono : ∀ (l : List Nat) (a : Nat), 1 ≤ a → 1 ≤ l.foldl (fun acc c => acc * 10 + (c - 48)) a
  | [], a, h => h
  | c :: r, a, h => fold_mono r (a * 10 + (c - 48)) (by omega)
open NumText in
theorem val_pos {z : Str} (hb : digB z = true) (h0 : z ≠ ("0" : Str)) : 1 ≤ digitsVal (tl z) := by
  unfold digB at hb
  obtain ⟨h1, h2⟩ := Bool.and_eq_true_iff.mp hb
  obtain ⟨h3, h4⟩ := Bool.and_eq_true_iff.mp h2
  have hl := pl h1
  have hall := digits_all h3
  have hne : hd z ≠ some 48 := by
    intro h48
    rw [Bool.or_eq_true, decide_eq_true_eq, Bool.not_eq_true', decide_eq_false_iff_not] at h4
    rcases h4 with h | h
    · exact h0 (zero_text (by omega) h48)
    · exact h h48
  unfold hd at hne
  cases q : tl z with
  | nil =>
    have := len_tl z
    rw [q] at this
    have e : ([] : List Nat).length = 0 := rfl
    omega
  | cons c r =>
    rw [q] at hne hall
    have hc := hall c List.mem_cons_self
    have : c ≠ 48 := fun e => hne (by rw [e]; rfl)
    show 1 ≤ (c :: r).foldl (fun acc c => acc * 10 + (c - 48)) 0
    rw [List.foldl_cons]
    exact fold_mono r _ (by omega)
theorem val_zero : NumText.digitsVal (tl ("0" : Str)) = 0 := by decide +kernel
theorem rest_len (z : Str) : (rest z).length ≤ z.length := cut_len z _ _
theorem minus_nodig {z : Str} (h : hd z = some 45) : digB z = false := by
  cases e : digB z with
  | false => rfl
  | true =>
    exfalso
    unfold digB at e
    obtain ⟨h1, h2⟩ := Bool.and_eq_true_iff.mp e
    obtain ⟨h3, h4⟩ := Bool.and_eq_true_iff.mp h2
    have hall := digits_all h3
    unfold hd at h
    cases q : tl z with
    | nil => rw [q] at h; cases h
    | cons c r =>
      rw [q] at h hall
      cases h
      have := hall 45 List.mem_cons_self
      omega
theorem minus_zero {z : Str} (h : hd z = some 45) : decide (z = ("-0" : Str)) = decide (rest z = ("0" : Str)) := by
  have e0 : tl ("-0" : Str) = [45, 48] := by decide +kernel
  have e1 : tl ("0" : Str) = [48] := by decide +kernel
  have er : tl (rest z) = (tl z).drop 1 := cutFrom1_tl z
  unfold hd at h
  by_cases hz : z = ("-0" : Str)
  · rw [decide_eq_true hz]
    symm
    refine decide_eq_true (ext_tl ?_)
    rw [er, e1, hz, e0]
    rfl
  · rw [decide_eq_false hz]
    symm
    refine decide_eq_false fun hr => hz (ext_tl ?_)
    rw [hr, e1] at er
    cases q : tl z with
    | nil => rw [q] at h; cases h
    | cons c r =>
      rw [q] at h er
      cases h
      have er : [48] = r := er
      rw [← er, e0]
theorem numV_form (z : Str) : (digB z = true ∧ numV z = .int ((NumText.digitsVal (tl z) : Nat) : Int)) ∨ (digB z = false ∧ numV z = .non) := by
  unfold numV
  cases h : digB z with
  | true => exact .inl ⟨rfl, if_pos rfl⟩
  | false => exact .inr ⟨rfl, if_neg (by decide)⟩
section
variable {P : Program} {w : World} {K : PySem.W.Frag} {mg : Str → Option Value} {base : Heap} {f : Addr} {fd : FuncData} {k : Nat}
abbrev C1 (P : Program) (w : World) (K : PySem.W.Frag) (mg : Str → Option Value) (base : Heap) (k : Nat) (x : Str) (f : Str → V) : Prop := Call P w K mg base k x ["text"] (sp1 f)
/-! ### the law's own reading -/
def letters : Str := "abcdefghijklmnopqrstuvwxyz"
end
end Z

namespace Z
open PySem PySem.Spec PyProof.Rows L2 TL Evl
/-! ### texts in lists, compared -/
theorem lay_strs : ∀ xs : List Str, (∀ x ∈ xs, PyData.strOk x = true) → PyData.canLayAll0 (xs.map PyData.str) = true
  | [], _ => by simp [PyData.canLayAll0]
  | x :: r, h => by
    have h1 := h x List.mem_cons_self
    have h2 := lay_strs r fun y hy => h y (List.mem_cons_of_mem _ hy)
    simp [PyData.canLayAll0, PyData.canLay0, h1, h2]
theorem depth_strs : ∀ xs : List Str, PyData.depthAll (xs.map PyData.str) ≤ 1
  | [] => by simp [PyData.depthAll]
  | x :: r => by
    have := depth_strs r
    simp only [List.map_cons, PyData.depthAll, PyData.depth]
    omega
theorem shaped_strs (xs : List Str) (h : ∀ x ∈ xs, PyData.strOk x = true) : SeqAt.shaped (.list (xs.map PyData.str)) = true := by
  have h1 := depth_strs xs
  have h2 : PyData.depth (.list (xs.map PyData.str)) ≤ 64 := by simp only [PyData.depth]; omega
  show (PyData.canLay0 (.list (xs.map PyData.str)) && decide (PyData.depth (.list (xs.map PyData.str)) ≤ 64)) = true
  rw [Bool.and_eq_true]
  exact ⟨by simp only [PyData.canLay0]; exact lay_strs xs h, decide_eq_true h2⟩
theorem ok_text {x : Str} (h : ∀ c ∈ tl x, c < 128) : PyData.strOk x = true := by
  unfold PyData.strOk
  rw [← Array.all_toList]
  exact List.all_eq_true.mpr fun c hc => decide_eq_true (Nat.lt_trans (h c hc) (by decide))
theorem splC_mem : ∀ (l acc p : List Nat), p ∈ splC acc l → ∀ c ∈ p, c ∈ acc ∨ c ∈ l
  | [], acc, p, h, c, hc => by
    rw [List.mem_singleton.mp h] at hc
    exact .inl hc
  | a :: r, acc, p, h, c, hc => by
    have h : p ∈ (if a = 44 then acc :: splC [] r else splC (acc ++ [a]) r) := h
    by_cases ha : a = 44
    · rw [if_pos ha] at h
      rcases List.mem_cons.mp h with e | h
      · rw [e] at hc; exact .inl hc
      · rcases splC_mem r [] p h c hc with g | g
        · cases g
        · exact .inr (List.mem_cons_of_mem _ g)
    · rw [if_neg ha] at h
      rcases splC_mem r (acc ++ [a]) p h c hc with g | g
      · rcases List.mem_append.mp g with g | g
        · exact .inl g
        · rw [List.mem_singleton.mp g]; exact .inr List.mem_cons_self
      · exact .inr (List.mem_cons_of_mem _ g)
theorem strip_mem {p s : Str} {c : Nat} (h : c ∈ tl (Txt.stripChars p s)) : c ∈ tl p := by
  have e0 : Txt.stripChars p s = Builtin.Str.strSub p (stripLo s.cps.contains true p) (stripHi s.cps.contains true p (stripLo s.cps.contains true p)) := stripBy_eq _ _ _ _
  rw [e0, tl_strSub] at h
  exact List.mem_of_mem_drop (List.mem_of_mem_take h)
theorem elems_mem {z p : Str} (h : p ∈ elems z) {c : Nat} (hc : c ∈ tl p) : c ∈ tl z := by
  unfold elems stripped at h
  obtain ⟨h1, _⟩ := List.mem_filter.mp h
  obtain ⟨p0, h2, rfl⟩ := List.mem_map.mp h1
  have h3 := strip_mem hc
  rw [split_eq] at h2
  obtain ⟨l, hl, rfl⟩ := List.mem_map.mp h2
  rcases splC_mem _ _ _ hl c h3 with g | g
  · cases g
  · exact g
theorem elems_ok {z : Str} (h : allIn z signs = true) : ∀ p ∈ elems z, PyData.strOk p = true := fun p hp => ok_text fun c hc => signs_lt c (of_decide_eq_true (List.all_eq_true.mp h c (elems_mem hp hc)))
theorem dp_strs {K : PySem.W.Frag} {H : Hp} : ∀ xs : List Str, DpAll K H (xs.map V.str) (xs.map PyData.str)
  | [] => .nil
  | x :: r => .cons (.str x) (dp_strs r)
theorem rv_eqL {K : PySem.W.Frag} {H : Hp} {p p2 : Addr} {xs : List Str} (h1 : SqL K H p (xs.map V.str)) (h2 : SqL K H p2 (xs.map V.str)) (hx : ∀ x ∈ xs, PyData.strOk x = true) : RV (rEqD K) (.ref p) (.ref p2) H (.bl true) := fun H1 e Q q => by
  refine ⟨.list (xs.map .str), .list (xs.map .str), .lst (ex_l e h1) (dp_strs xs), .lst (ex_l e h2) (dp_strs xs), shaped_strs xs hx, shaped_strs xs hx, ?_⟩
  rw [SeqAt.eqv_refl _ (SeqAt.canLay_of_shaped (shaped_strs xs hx))]
  exact q H1 (Ex.refl H1)
section
variable {K : PySem.W.Frag} {σ : L2.St} {H H' : Hp} {ta tb te : TE} {x : V}
theorem ev_isi {n : String} {t : Value} {b : Bool} (h : Ev ta σ H x) (ht : ∀ H1, Ex H H1 → TyX K H1 x t) (hk : PySem.W.kitOne K t (.type n) = some b) : Ev (tCB (rIsi K) (tCons ta (tCons (tC (.ty n)) tNil))) σ H (.bl b) := fun H1 e Q q =>
  h H1 e _ fun H2 e2 => ⟨x, .ty n, t, .type n, b, rfl, .ty n, ht H2 (e.trans e2), hk, q H2 e2⟩
theorem et_truB {b : Bool} (h : Ev te σ H (.bl b)) : EvT (fun σ H Q => te σ H fun x H' => ∃ k, TruV K x H' k ∧ Q k H') σ H b := fun H1 e Q q => h H1 e _ fun H2 e2 => ⟨b, rfl, q H2 e2⟩
theorem rv_eqB {a b : Bool} : RV rEq (.bl a) (.bl b) H (.bl (decide (a = b))) := by
  have : decide (V.bl a = V.bl b) = decide (a = b) := by
    by_cases h : a = b
    · rw [decide_eq_true h, decide_eq_true (congrArg V.bl h)]
    · rw [decide_eq_false h, decide_eq_false fun e => h (V.bl.inj e)]
  rw [← this]
  exact rv_eq rfl
end
section
variable {P : Program} {w : World} {K : PySem.W.Frag} {mg : Str → Option Value} {base : Heap} {f : Addr} {fd : FuncData} {k : Nat}
theorem wd_len (l : List Nat) (fs : List Str) (wd : Str) : (l.foldl wstep (fs, wd)).2.length ≤ wd.length + l.length ∧ (l.foldl wstep (fs, wd)).1.length ≤ fs.length + l.length := by
  induction l generalizing fs wd with
  | nil => exact ⟨Nat.le_refl _, Nat.le_refl _⟩
  | cons c r ih =>
    rw [List.foldl_cons, List.length_cons]
    have e : wstep (fs, wd) c = ((wstep (fs, wd) c).1, (wstep (fs, wd) c).2) := rfl
    rw [e]
    obtain ⟨h1, h2⟩ := ih (wstep (fs, wd) c).1 (wstep (fs, wd) c).2
    have g : (wstep (fs, wd) c).2.length ≤ wd.length + 1 ∧ (wstep (fs, wd) c).1.length ≤ fs.length + 1 := by
      unfold wstep
      by_cases hc : c = 44
      · rw [if_pos hc]
        refine ⟨by show (("" : Str)).length ≤ _; rw [show (("" : Str)).length = 0 by decide +kernel]; omega, ?_⟩
        show (if Txt.stripChars wd " " = ("" : Str) then fs else fs ++ [Txt.stripChars wd " "]).length ≤ _
        by_cases h : Txt.stripChars wd " " = ("" : Str)
        · rw [if_pos h]; omega
        · rw [if_neg h, List.length_append]; exact Nat.le_refl _
      · rw [if_neg hc]
        refine ⟨?_, by show fs.length ≤ _; omega⟩
        show (wd ++ (⟨#[c]⟩ : Str)).length ≤ _
        rw [Str.length_append]
        exact Nat.le_refl _
    omega
theorem take_step {l : List Nat} {i c : Nat} (h : l[i]? = some c) (st : List Str × Str) : (l.take (i + 1)).foldl wstep st = wstep ((l.take i).foldl wstep st) c := by
  rw [List.take_add_one, h, List.foldl_append]
  rfl
def spTruth : Sp := fun vs H Q _ => ∃ a b : Bool, vs = [.bl a, .bl b] ∧ RetV (.bl (decide (a = b))) H Q
theorem svT {a b : Bool} {H : Hp} : SpV spTruth [.bl a, .bl b] H (.bl (decide (a = b))) := fun H1 e Q q E => ⟨a, b, rfl, q⟩
def spInt : Sp := fun vs H Q _ => ∃ z : V, vs = [z, z] ∧ (z = .non ∨ ∃ i, z = .int i) ∧ RetV (.bl true) H Q
theorem numV_kind (z : Str) : numV z = .non ∨ ∃ i, numV z = .int i := by
  rcases numV_form z with ⟨_, h⟩ | ⟨_, h⟩
  · exact .inr ⟨_, h⟩
  · exact .inl h
theorem readV_kind (z : Str) : readV z = .non ∨ ∃ i, readV z = .int i := by
  unfold readV
  by_cases h : hd z = some 45
  · rw [if_pos h]
    by_cases h2 : digB (rest z) = true ∧ rest z ≠ ("0" : Str)
    · rw [if_pos h2]; exact .inr ⟨_, rfl⟩
    · rw [if_neg h2]; exact .inl rfl
  · rw [if_neg h]; exact numV_kind z
theorem svI {v : V} {H : Hp} (h : v = .non ∨ ∃ i, v = .int i) : SpV spInt [v, v] H (.bl true) := fun H1 e Q q E => ⟨v, rfl, h, q⟩
def spRight : Sp := fun vs H Q _ => ∃ z : Str, vs = [.str z] ∧ z.length ≤ 10000 ∧ RetV (.bl true) H Q
theorem dec_self (b : Bool) : decide (b = b) = true := decide_eq_true rfl
end
end Z

namespace Z
open PySem PySem.Spec PyProof.Rows L2 TL Evl
def rRepStr : R2 := fun x y H Q => ∃ (z : Str) (i : Int), x = .str z ∧ y = .int i ∧ 0 ≤ i ∧ i ≤ 1000 ∧ z.length ≤ 1000 ∧ Q (.str (repS z i.toNat)) H
theorem oz_rep {X : Cx} : OpR X (binaryOp .Mult) rRepStr := op_rep_str
def rInt1 : List V → Hp → VK → Prop := fun xs H Q => (∃ i, xs = [.int i] ∧ Q (.int i) H) ∨ ∃ k, xs = [.bl k] ∧ Q (.int (if k then 1 else 0)) H
theorem cz_int1 {X : Cx} : CallR X (.type "int") rInt1 := call_int1
def rJoin (K : PySem.W.Frag) : V → List V → Hp → VK → Prop := fun x xs H Q => ∃ a p, ∃ ys : List Str, x = .str a ∧ xs = [.ref p] ∧ (SqL K H p (ys.map V.str) ∨ SqT K H p (ys.map V.str)) ∧ (ys.map (·.length)).sum + ys.length * a.length ≤ 16777216 ∧ Q (.str (Txt.join a ys)) H
theorem mz_join {X : Cx} : MtR X "str.join" (rJoin X.K) := mt_join
section
variable {K : PySem.W.Frag} {σ : L2.St} {H H' : Hp} {ta tb te : TE} {x : V} {ti : TA}
theorem ev_int1 {i : Int} (h : Ev te σ H (.int i)) : Ev (tCB rInt1 (tCons te tNil)) σ H (.int i) := fun H1 e Q q => h H1 e _ fun H2 e2 => .inl ⟨i, rfl, q H2 e2⟩
theorem rd_call {sp : Sp} {vs : List V} {E : XK} {Q : VK} (h : EvA ti σ H vs) (k : ∀ H1, Ex H H1 → sp (vs ++ []) H1 Q E) : tCall sp [] E ti σ H Q := h H (Ex.refl H) _ k
end
/-! ### the bag of draws -/
def cap : Nat := 1048576
/-- a bag at p, of which at most n were drawn -/
def BagAt (H : Hp) (p : Addr) (n : Nat) : Prop := ∃ (c0 : Int) (cv : V) (c2 : Int), H p = some (.lst [.int c0, cv, .int c2]) ∧ 0 ≤ c2 ∧ c2 ≤ (n : Int) ∧ (cv = .non ∨ ∃ c : Int, cv = .int c ∧ c.natAbs < 2 ^ cap)
/-- all but what stands at p is as it was -/
def Keep (p : Addr) (H H' : Hp) : Prop := ∀ b o, b ≠ p → H b = some o → H' b = some o
theorem Keep.of {p : Addr} {H H' : Hp} (e : Ex H H') : Keep p H H' := fun b o _ h => e b o h
theorem Keep.trans {p : Addr} {H H1 H2 : Hp} (a : Keep p H H1) (b : Keep p H1 H2) : Keep p H H2 := fun c o hc h => b c o hc (a c o hc h)
theorem Keep.upd {p : Addr} {H H1 : Hp} {o : HO} (a : Keep p H H1) : Keep p H (upd H1 p o) := fun c u hc h => by rw [upd_ne hc]; exact a c u hc h
theorem BagAt.ex {H H' : Hp} {p : Addr} {n : Nat} (b : BagAt H p n) (e : Ex H H') : BagAt H' p n := by
  obtain ⟨c0, cv, c2, h, r⟩ := b
  exact ⟨c0, cv, c2, e _ _ h, r⟩
theorem BagAt.mono {H : Hp} {p : Addr} {n m : Nat} (b : BagAt H p n) (h : n ≤ m) : BagAt H p m := by
  obtain ⟨c0, cv, c2, h1, h2, h3, h4⟩ := b
  exact ⟨c0, cv, c2, h1, h2, by omega, h4⟩
theorem BagAt.some {H : Hp} {p : Addr} {n : Nat} (b : BagAt H p n) : ∃ xs, H p = some (.lst xs) := by
  obtain ⟨c0, cv, c2, h, r⟩ := b
  exact ⟨_, h⟩
theorem Keep.free {p : Addr} {H H' : Hp} (a : Keep p H H') {n : Nat} (b : BagAt H' p n) {l : Addr} (h : H' l = none) : H l = none := by
  cases q : H l with
  | none => rfl
  | some o =>
    by_cases e : l = p
    · obtain ⟨xs, g⟩ := b.some
      rw [e, g] at h
      cases h
    · rw [a l o e q] at h
      cases h
def spDraw : Sp := fun vs H Q _ => ∃ (p : Addr) (size : Int) (n : Nat), vs = [.ref p, .int size] ∧ BagAt H p n ∧ n ≤ 100000000 ∧ 1 ≤ size ∧ size ≤ 1000000 ∧
  ∀ (d : Int) (H' : Hp), 0 ≤ d → d < size → BagAt H' p (n + 1) → Keep p H H' → Q (.int d) H'
section
variable {P : Program} {w : World} {K : PySem.W.Frag} {mg : Str → Option Value} {base : Heap} {f : Addr} {fd : FuncData} {k : Nat}
end
end Z

namespace Z
open PySem PySem.Spec PyProof.Rows L2 TL Evl
theorem at_int {α : Type} {xs : List α} {d : Int} (h0 : 0 ≤ d) (h1 : d < (xs.length : Int)) : ∃ v, atI xs d = some v ∧ v ∈ xs := by
  obtain ⟨j, rfl⟩ := Int.eq_ofNat_of_zero_le h0
  have hj : j < xs.length := by omega
  exact ⟨xs[j], atI_nat (List.getElem?_eq_getElem hj), List.getElem_mem hj⟩
abbrev CDraw (P : Program) (w : World) (K : PySem.W.Frag) (mg : Str → Option Value) (base : Heap) : Prop := Call P w K mg base 1 "_law_draw" ["bag", "size"] spDraw
def spPickS : Sp := fun vs H Q _ => ∃ (p : Addr) (n : Nat) (z : Str), vs = [.ref p, .str z] ∧ BagAt H p n ∧ n ≤ 100000000 ∧ 1 ≤ z.length ∧ z.length ≤ 1000 ∧ ∀ (c : Nat) (H' : Hp), BagAt H' p (n + 1) → Keep p H H' → Q (.str ⟨#[c]⟩) H'
def spPickL : Sp := fun vs H Q _ => ∃ (p : Addr) (n : Nat) (l : Addr) (xs : List V), vs = [.ref p, .ref l] ∧ BagAt H p n ∧ n ≤ 100000000 ∧ l ≠ p ∧ H l = some (.lst xs) ∧ 1 ≤ xs.length ∧ xs.length ≤ 1000 ∧ ∀ (v : V) (H' : Hp), v ∈ xs → BagAt H' p (n + 1) → Keep p H H' → Q v H'
def spMost : Sp := fun vs H Q _ => ∃ (p : Addr) (n : Nat) (a b : Int), vs = [.ref p, .int a, .int b] ∧ BagAt H p n ∧ n ≤ 100000000 ∧ ∀ (v : Int) (H' : Hp), v = a ∨ v = b → BagAt H' p (n + 1) → Keep p H H' → Q (.int v) H'
/-- a word of at most `most` signs; at most 1001 draws -/
def spWord : Sp := fun vs H Q _ => ∃ (p : Addr) (n : Nat) (z : Str) (least most : Int), vs = [.ref p, .str z, .int least, .int most] ∧ BagAt H p n ∧ n ≤ 90000000 ∧ 1 ≤ z.length ∧ z.length ≤ 1000 ∧ 0 ≤ least ∧ least ≤ most ∧ most ≤ 1000 ∧
  ∀ (t : Str) (H' : Hp), (t.length : Int) ≤ most → BagAt H' p (n + 1001) → Keep p H H' → Q (.str t) H'
def spBag (K : PySem.W.Frag) : Sp := fun vs H Q _ => ∃ (a : Addr) (ns : List Int) (i : Nat), vs = [.ref a, .int (i : Int)] ∧ SqL K H a (ns.map V.int) ∧ ns.length ≤ 63 ∧ i ≤ 63 ∧ (∀ z ∈ ns, z.natAbs < 2 ^ cap) ∧ ∀ (p : Addr) (H' : Hp), H p = none → Ex H H' → BagAt H' p 0 → Q (.ref p) H'
section
variable {P : Program} {w : World} {K : PySem.W.Frag} {mg : Str → Option Value} {base : Heap} {f : Addr} {fd : FuncData} {k : Nat}
theorem sum_ones : ∀ ys : List Str, (∀ y ∈ ys, y.length = 1) → (ys.map (·.length)).sum = ys.length
  | [], _ => rfl
  | y :: r, h => by
    rw [List.map_cons, List.sum_cons, sum_ones r fun x hx => h x (List.mem_cons_of_mem _ hx), h y List.mem_cons_self, List.length_cons]
    omega
theorem join_len (sep : Str) (ys : List Str) : (Txt.join sep ys).length ≤ (ys.map (·.length)).sum + ys.length * sep.length := by
  rw [join_eq]
  exact StrLaws.join_length_le sep ys
end
end Z

namespace Z
open PySem PySem.Spec PyProof.Rows L2 TL Evl
def spList : Sp := fun vs H Q _ => ∃ (p : Addr) (n : Nat), vs = [.ref p] ∧ BagAt H p n ∧ n ≤ 80000000 ∧ ∀ (t : Str) (H' : Hp), t.length ≤ 100 → BagAt H' p (n + 10000) → Keep p H H' → Q (.str t) H'
def spText : Sp := fun vs H Q _ => ∃ (p : Addr) (n : Nat), vs = [.ref p] ∧ BagAt H p n ∧ n ≤ 1000 ∧ ∀ (t : Str) (H' : Hp), t.length ≤ 1500 → BagAt H' p (n + 100000) → Keep p H H' → Q (.str t) H'
def spSpoilt : Sp := fun vs H Q _ => ∃ (p : Addr) (n : Nat) (z : Str), vs = [.ref p, .str z] ∧ BagAt H p n ∧ n ≤ 1000000 ∧ z.length ≤ 1500 ∧ ∀ (t : Str) (H' : Hp), t.length ≤ 4000 → BagAt H' p (n + 3) → Keep p H H' → Q (.str t) H'
def spLaw (K : PySem.W.Frag) : Sp := fun vs H Q _ => ∃ (a : Addr) (ns : List Int), vs = [.ref a] ∧ SqL K H a (ns.map V.int) ∧ ns.length ≤ 63 ∧ (∀ z ∈ ns, z.natAbs < 2 ^ cap) ∧ ∀ H', Q (.bl true) H'
theorem BagAt.new {H : Hp} {p l : Addr} {n : Nat} {o : HO} (b : BagAt H p n) (h : H l = none) : BagAt (upd H l o) p n ∧ l ≠ p := by
  obtain ⟨xs, g⟩ := b.some
  exact ⟨b.ex (Ex.new h), fun e => by rw [e, g] at h; cases h⟩
theorem strs_in {ss : List Str} {v : V} (h : v ∈ ss.map V.str) : ∃ x, v = .str x ∧ x ∈ ss := by
  obtain ⟨x, hx, e⟩ := List.mem_map.mp h
  exact ⟨x, e.symm, hx⟩
theorem ints_in {ss : List Int} {v : V} (h : v ∈ ss.map V.int) : ∃ x, v = .int x ∧ x ∈ ss := by
  obtain ⟨x, hx, e⟩ := List.mem_map.mp h
  exact ⟨x, e.symm, hx⟩
theorem sum_most : ∀ (ys : List Str) (m : Nat), (∀ y ∈ ys, y.length ≤ m) → (ys.map (·.length)).sum ≤ ys.length * m
  | [], _, _ => Nat.zero_le _
  | y :: r, m, h => by
    have h1 := sum_most r m fun x hx => h x (List.mem_cons_of_mem _ hx)
    have h2 := h y List.mem_cons_self
    rw [List.map_cons, List.sum_cons, List.length_cons, Nat.succ_mul]
    omega
section
variable {P : Program} {w : World} {K : PySem.W.Frag} {mg : Str → Option Value} {base : Heap} {f : Addr} {fd : FuncData} {k : Nat}
abbrev CPickL (P : Program) (w : World) (K : PySem.W.Frag) (mg : Str → Option Value) (base : Heap) : Prop := Call P w K mg base 2 "_law_pick" ["bag", "things"] spPickL
abbrev CPickS (P : Program) (w : World) (K : PySem.W.Frag) (mg : Str → Option Value) (base : Heap) : Prop := Call P w K mg base 2 "_law_pick" ["bag", "things"] spPickS
abbrev CMost (P : Program) (w : World) (K : PySem.W.Frag) (mg : Str → Option Value) (base : Heap) : Prop := Call P w K mg base 2 "_law_most" ["bag", "small", "large"] spMost
abbrev CWord (P : Program) (w : World) (K : PySem.W.Frag) (mg : Str → Option Value) (base : Heap) : Prop := Call P w K mg base 2 "_law_word" ["bag", "signs", "least", "most"] spWord
end
end Z

namespace Z
open PySem PySem.Spec PyProof.Rows L2 TL Evl
theorem short_in {ss : List Str} {m : Nat} (h : ss.all (fun x => decide (x.length ≤ m)) = true) {x : Str} (hx : x ∈ ss) : x.length ≤ m := of_decide_eq_true (List.all_eq_true.mp h x hx)
section
variable {P : Program} {w : World} {K : PySem.W.Frag} {mg : Str → Option Value} {base : Heap} {f : Addr} {fd : FuncData} {k : Nat}
end
end Z
set_option maxHeartbeats 4000000
namespace Z
open PySem PySem.Spec PyProof.Rows L2 TL Evl
/-! ### lists of values, each with what it stands for -/
def Rel {α : Type} (R : V → α → Prop) (xs : List V) (os : List α) : Prop := xs.length = os.length ∧ ∀ (i : Nat) (x : V) (o : α), xs[i]? = some x → os[i]? = some o → R x o
section
variable {α : Type} {R R' : V → α → Prop} {xs : List V} {os : List α} {x : V} {o : α} {i : Nat}
theorem Rel.mono (h : Rel R xs os) (m : ∀ x o, R x o → R' x o) : Rel R' xs os := ⟨h.1, fun i x o a b => m x o (h.2 i x o a b)⟩
theorem Rel.nil : Rel R [] [] := ⟨rfl, fun i x o a => by cases a⟩
theorem Rel.snoc (h : Rel R xs os) (r : R x o) : Rel R (xs ++ [x]) (os ++ [o]) := by
  refine ⟨by rw [List.length_append, List.length_append, h.1]; rfl, fun i y u a b => ?_⟩
  by_cases hi : i < xs.length
  · rw [List.getElem?_append_left hi] at a
    rw [List.getElem?_append_left (by rw [← h.1]; exact hi)] at b
    exact h.2 i y u a b
  · rw [List.getElem?_append_right (by omega)] at a
    rw [List.getElem?_append_right (by rw [← h.1]; omega)] at b
    rw [← h.1] at b
    cases e : i - xs.length with
    | zero =>
      rw [e] at a b
      cases a
      cases b
      exact r
    | succ n =>
      rw [e] at a
      cases a
theorem Rel.get (h : Rel R xs os) (a : xs[i]? = some x) : ∃ o, os[i]? = some o ∧ R x o := by
  have hi : i < xs.length := (List.getElem?_eq_some_iff.mp a).1
  have e := List.getElem?_eq_getElem (h.1 ▸ hi : i < os.length)
  exact ⟨_, e, h.2 i x _ a e⟩
theorem Rel.at (h : Rel R xs os) (b : os[i]? = some o) : ∃ x, xs[i]? = some x ∧ R x o := by
  have hi : i < os.length := (List.getElem?_eq_some_iff.mp b).1
  have e := List.getElem?_eq_getElem (h.1.symm ▸ hi : i < xs.length)
  exact ⟨_, e, h.2 i _ o e b⟩
end
/-- a comprehension over a list whose values stand for things -/
theorem lc_rel {K : PySem.W.Frag} {a : Addr} {xs : List V} {g : TG} {tt : TT} {te : TE} {vs : List Nat} {σ : L2.St} {H0 : Hp} {D : Addr} {Qd : Hp → Prop} {α : Type} (acc : Nat → List α) (R : Hp → V → α → Prop)
    (mono : ∀ H1 H2 x o, (∀ b ob, b ≠ D → H1 b = some ob → H2 b = some ob) → (∃ ys, H1 D = some (.lst ys)) → R H1 x o → R H2 x o)
    (hx : SqL K H0 a xs) (hD : H0 D = none) (h00 : acc 0 = []) (hz : xs.length ≤ 50000)
    (hs : ∀ i x H, xs[i]? = some x → Ex H0 H → ∀ (k : VK) (k0 : Hp → Prop), (∀ y H4 o, Ex H H4 → acc (i + 1) = acc i ++ [o] → R H4 y o → k y H4) → (∀ H3, Ex H H3 → acc (i + 1) = acc i → k0 H3) →
      g x (wipe σ vs) H fun σ2 H2 => wipe σ2 vs = wipe σ vs ∧ tt σ2 H2 fun b H3 => if b = true then te σ2 H3 k else k0 H3)
    (hd : ∀ H ys, Ex H0 H → H D = some (.lst ys) → Rel (R H) ys (acc xs.length) → Qd H) :
    ∃ W : Nat → Nat → Hp → Prop, (∃ m, W 0 m (upd H0 D (.lst []))) ∧ ∀ i m H, W i m H →
      ((Itl K a).stop i H ∧ Qd H) ∨ ((Itl K a).go i H ∧ ∃ Nx : Hp → Prop, (∀ H', Nx H' → ∃ m', m' < m ∧ W (i + 1) m' H') ∧ ∀ x H', (Itl K a).yld i H x H' → g x (wipe σ vs) H' fun σ2 H2 => wipe σ2 vs = wipe σ vs ∧ tt σ2 H2 fun b H3 =>
        if b = true then te σ2 H3 fun y H4 => ∃ acc, H4 D = some (.lst acc) ∧ acc.length < sizeLine ∧ Nx (upd H4 D (.lst (acc ++ [y]))) else Nx H3) := by
  refine lc_list (xs := xs) (fun i H => Ex H0 H ∧ ∃ ys, H D = some (.lst ys) ∧ ys.length ≤ i ∧ Rel (R H) ys (acc i)) ⟨Ex.new hD, [], upd_same, Nat.le_refl _, by rw [h00]; exact Rel.nil⟩ (fun i H _ p => ex_l p.1 hx) (fun i x H hi p => ?_) (fun H p => ?_)
  · obtain ⟨e0, ys, hy, hl, hr⟩ := p
    have hi2 : i < xs.length := (List.getElem?_eq_some_iff.mp hi).1
    refine hs i x H hi e0 _ _ (fun y H4 o e4 ea r => ?_) (fun H3 e3 ea => ?_)
    · refine ⟨ys, e4 _ _ hy, sz_lt (by omega), Ex.mut (e0.trans e4) hD, ys ++ [y], upd_same, by rw [List.length_append]; exact Nat.add_le_add_right hl 1, ?_⟩
      rw [ea]
      refine Rel.snoc (hr.mono fun x o q => ?_) ?_
      · exact mono _ _ x o (fun b ob hb h => by rw [upd_ne hb]; exact h) ⟨ys, e4 _ _ hy⟩ (mono _ _ x o (fun b ob _ h => e4 b ob h) ⟨ys, hy⟩ q)
      · exact mono _ _ y o (fun b ob hb h => by rw [upd_ne hb]; exact h) ⟨ys, e4 _ _ hy⟩ r
    · refine ⟨e0.trans e3, ys, e3 _ _ hy, by omega, ?_⟩
      rw [ea]
      exact hr.mono fun x o q => mono _ _ x o (fun b ob _ h => e3 b ob h) ⟨ys, hy⟩ q
  · obtain ⟨e0, ys, hy, hl, hr⟩ := p
    exact hd H ys e0 hy hr
/-! ### a number that may not be there, pairs of them -/
def num (z : Str) : Option Nat := if digB z = true then some (NumText.digitsVal (tl z)) else none
def ov : Option Nat → V
  | none => .non
  | some n => .int (n : Int)
theorem numV_ov (z : Str) : numV z = ov (num z) := by
  unfold numV num
  cases h : digB z <;> rfl
theorem ov_non (o : Option Nat) : decide (ov o = .non) = o.isNone := by cases o <;> rfl
abbrev Pr := Option Nat × Option Nat
def TupAt (H : Hp) (v : V) (xs : List V) : Prop := ∃ p, v = .ref p ∧ H p = some (.tup xs)
def PrAt (H : Hp) (v : V) (o : Pr) : Prop := TupAt H v [ov o.1, ov o.2]
def OPrAt (H : Hp) (v : V) : Option Pr → Prop
  | none => v = .non
  | some q => PrAt H v q
def IpAt (H : Hp) (v : V) (o : Int × Int) : Prop := TupAt H v [.int o.1, .int o.2]
theorem TupAt.keep {H1 H2 : Hp} {D : Addr} {v : V} {xs : List V} (h : TupAt H1 v xs) (k : ∀ b ob, b ≠ D → H1 b = some ob → H2 b = some ob) (hD : ∃ ys, H1 D = some (.lst ys)) : TupAt H2 v xs := by
  obtain ⟨p, rfl, hp⟩ := h
  obtain ⟨ys, hy⟩ := hD
  exact ⟨p, rfl, k p _ (fun e => by rw [e, hy] at hp; cases hp) hp⟩
theorem TupAt.ex {H1 H2 : Hp} {v : V} {xs : List V} (h : TupAt H1 v xs) (e : Ex H1 H2) : TupAt H2 v xs := by
  obtain ⟨p, rfl, hp⟩ := h
  exact ⟨p, rfl, e _ _ hp⟩
theorem OPrAt.ex {H1 H2 : Hp} {v : V} {o : Option Pr} (h : OPrAt H1 v o) (e : Ex H1 H2) : OPrAt H2 v o := by
  cases o with
  | none => exact h
  | some q => exact TupAt.ex h e
theorem OPrAt.keep {H1 H2 : Hp} {D : Addr} {v : V} {o : Option Pr} (h : OPrAt H1 v o) (k : ∀ b ob, b ≠ D → H1 b = some ob → H2 b = some ob) (hD : ∃ ys, H1 D = some (.lst ys)) : OPrAt H2 v o := by
  cases o with
  | none => exact h
  | some q => exact TupAt.keep h k hD
/-! ### the dash of a text -/
def dashAt (z : Str) : Option Nat := (Builtin.Str.occurrences z "-" 0 z.length 1).head?
theorem find_dash (z : Str) : Txt.find z "-" = (match dashAt z with | some i => (i : Int) | none => -1) := by
  unfold Txt.find dashAt
  cases Builtin.Str.occurrences z "-" 0 z.length 1 <;> rfl
theorem dash_len : ("-" : Str).length = 1 := by decide +kernel
theorem cutTo_tl (z : Str) (i : Nat) : tl (cutS z none (some (i : Int))) = (tl z).take i := by
  show ((tl z).drop (HT.sIx z.length 0 none)).take (HT.sIx z.length z.length (some (i : Int)) - HT.sIx z.length 0 none) = _
  rw [HT.sIx_none, show HT.sIx z.length z.length (some (i : Int)) = min i z.length from HT.sIx_nat _ _ i, List.drop_zero, Nat.sub_zero, len_tl]
  by_cases h : i ≤ (tl z).length
  · rw [Nat.min_eq_left h]
  · rw [Nat.min_eq_right (by omega), List.take_of_length_le (Nat.le_refl _), List.take_of_length_le (by omega)]
theorem cutFrom_tl (z : Str) (i : Nat) : tl (cutS z (some (i : Int)) none) = (tl z).drop i := by
  show ((tl z).drop (HT.sIx z.length 0 (some (i : Int)))).take (HT.sIx z.length z.length none - HT.sIx z.length 0 (some (i : Int))) = _
  rw [HT.sIx_none, show HT.sIx z.length 0 (some (i : Int)) = min i z.length from HT.sIx_nat _ _ i, len_tl]
  by_cases h : i ≤ (tl z).length
  · rw [Nat.min_eq_left h]
    exact List.take_of_length_le (by rw [List.length_drop]; exact Nat.le_refl _)
  · rw [Nat.min_eq_right (by omega), List.drop_of_length_le (Nat.le_refl _), List.drop_of_length_le (by omega), List.take_nil]
/-- what stands ahead of a place, what stands behind -/
def preT (z : Str) (i : Nat) : Str := S' ((tl z).take i)
def sufT (z : Str) (i : Nat) : Str := S' ((tl z).drop i)
theorem cutTo (z : Str) (i : Nat) : cutS z none (some (i : Int)) = preT z i := ext_tl (by rw [cutTo_tl]; rfl)
theorem cutFrom (z : Str) (i : Nat) : cutS z (some (i : Int)) none = sufT z i := ext_tl (by rw [cutFrom_tl]; rfl)
theorem preT_len (z : Str) (i : Nat) : (preT z i).length ≤ z.length := by rw [← cutTo]; exact cut_len z _ _
theorem sufT_len (z : Str) (i : Nat) : (sufT z i).length ≤ z.length := by rw [← cutFrom]; exact cut_len z _ _
theorem part_dash (z : Str) : (∃ i, dashAt z = some i ∧ i + 1 ≤ z.length ∧ Txt.partition z "-" = (preT z i, ("-" : Str), sufT z (i + 1))) ∨ (dashAt z = none ∧ Txt.partition z "-" = (z, ("" : Str), ("" : Str))) := by
  unfold Txt.partition dashAt
  rcases StrLaws.occ_head z "-" 1 (Nat.le_refl 1) with ⟨h0, _⟩ | ⟨i, r, h0, hi, _⟩
  · rw [h0]; exact .inr ⟨rfl, rfl⟩
  · rw [h0]
    have hb : i + ("-" : Str).length ≤ z.length := hi.1
    refine .inl ⟨i, rfl, by rw [dash_len] at hb; exact hb, ?_⟩
    show (Builtin.Str.strSub z 0 i, ("-" : Str), Builtin.Str.strSub z (i + ("-" : Str).length) z.length) = _
    rw [dash_len]
    refine Prod.ext ?_ (Prod.ext rfl ?_)
    · exact ext_tl (by rw [tl_strSub, List.drop_zero, Nat.sub_zero]; rfl)
    · exact ext_tl (by rw [tl_strSub_end]; rfl)
theorem num_empty : num ("" : Str) = none := by decide +kernel
theorem preT0 (z : Str) : preT z 0 = ("" : Str) := eq_empty.mpr (by unfold preT; rw [List.take_zero]; rfl)
theorem preT_ne {z : Str} {i : Nat} (h : 0 < i) (hi : i + 1 ≤ z.length) : preT z i ≠ ("" : Str) := fun e => by
  have e2 := eq_empty.mp e
  have e3 : ((tl z).take i).length = 0 := by rw [show (tl z).take i = [] from e2]; rfl
  rw [List.length_take, len_tl'] at e3
  omega
theorem sufT_empty {z : Str} {i : Nat} (hi : i + 1 ≤ z.length) : decide (sufT z (i + 1) = ("" : Str)) = decide ((i : Int) = (z.length : Int) - 1) := by
  have e : sufT z (i + 1) = ("" : Str) ↔ (i : Int) = (z.length : Int) - 1 := by
    rw [eq_empty]
    show (tl z).drop (i + 1) = [] ↔ _
    rw [List.drop_eq_nil_iff, len_tl']
    omega
  exact decide_eq_decide.mpr e
/-- what a range says -/
def pairO (A B : Option Nat) : Option Pr :=
  match A, B with
  | none, none => none
  | some a, some b => if b < a then none else some (some a, some b)
  | x, y => some (x, y)
def badB (z : Str) (i : Nat) : Bool := ((num (preT z i)).isNone && !decide (preT z i = ("" : Str))) || ((num (sufT z (i + 1))).isNone && !decide (sufT z (i + 1) = ("" : Str)))
def rangeO (z : Str) : Option Pr :=
  match dashAt z with
  | none => none
  | some i => if badB z i = true then none else pairO (num (preT z i)) (num (sufT z (i + 1)))
theorem rangeO_some {z : Str} {i : Nat} (h : dashAt z = some i) : rangeO z = if badB z i = true then none else pairO (num (preT z i)) (num (sufT z (i + 1))) := by
  unfold rangeO
  rw [h]
theorem rangeO_none {z : Str} (h : dashAt z = none) : rangeO z = none := by
  unfold rangeO
  rw [h]
/-! ### the place of a digit -/
theorem occ_none (z : Str) (c : Nat) (h : c ∉ tl z) : Builtin.Str.occurrences z ⟨#[c]⟩ 0 z.length 1 = [] := by
  have e := StrLaws.found_one z c
  rw [decide_eq_false h] at e
  cases ho : Builtin.Str.occurrences z ⟨#[c]⟩ 0 z.length 1 with
  | nil => rfl
  | cons a r =>
    rw [ho] at e
    exact nomatch e
def dg : Str := "0123456789"
theorem find_digit (c : Nat) : Txt.find dg ⟨#[c]⟩ = if c ∈ tl dg then ((c : Int) - 48) else -1 := by
  by_cases h : c ∈ tl dg
  · rw [if_pos h]
    have all : ∀ c ∈ tl dg, Txt.find dg ⟨#[c]⟩ = ((c : Int) - 48) := by decide +kernel
    exact all c h
  · rw [if_neg h]
    unfold Txt.find
    rw [occ_none dg c h]
theorem dig_range : ∀ c ∈ tl dg, 48 ≤ c ∧ c ≤ 57 := by decide +kernel
/-- digits read so far -/
def dval (l : List Nat) : Nat := l.foldl (fun a c => a * 10 + (c - 48)) 0
theorem dval_snoc (l : List Nat) (c : Nat) : dval (l ++ [c]) = dval l * 10 + (c - 48) := by
  unfold dval
  rw [List.foldl_append]
  rfl
theorem dfold_lt : ∀ (l : List Nat) (a : Nat), (∀ c ∈ l, c ∈ tl dg) → l.foldl (fun a c => a * 10 + (c - 48)) a < (a + 1) * 10 ^ l.length
  | [], a, _ => by show a < (a + 1) * 1; omega
  | c :: r, a, h => by
    have h1 := dfold_lt r (a * 10 + (c - 48)) fun x hx => h x (List.mem_cons_of_mem _ hx)
    have h2 := dig_range c (h c List.mem_cons_self)
    rw [List.foldl_cons, List.length_cons, Nat.pow_succ, Nat.mul_comm (10 ^ r.length) 10, ← Nat.mul_assoc]
    exact Nat.lt_of_lt_of_le h1 (Nat.mul_le_mul_right _ (by omega))
theorem dval_lt {l : List Nat} (h : ∀ c ∈ l, c ∈ tl dg) : dval l < 10 ^ l.length := by
  have := dfold_lt l 0 h
  rw [Nat.zero_add, Nat.one_mul] at this
  exact this
/-! ### named readings -/
def rFind : V → List V → Hp → VK → Prop := fun x xs H Q => ∃ a b, x = .str a ∧ xs = [.str b] ∧ Q (.int (Txt.find a b)) H
theorem mz_find {X : Cx} : MtR X "str.find" rFind := mt_find
def rPart : V → List V → Hp → VK → Prop := fun x xs H Q => ∃ a b, x = .str a ∧ xs = [.str b] ∧ (b.length == 0) = false ∧ a.length ≤ sizeLine ∧
    ∀ p, H p = none → Q (.ref p) (upd H p (.tup [.str (Txt.partition a b).1, .str (Txt.partition a b).2.1, .str (Txt.partition a b).2.2]))
theorem mz_part {X : Cx} : MtR X "str.partition" rPart := mt_partition
def rStrI : List V → Hp → VK → Prop := fun xs H Q => ∃ i : Int, xs = [.int i] ∧ i.natAbs.log2 < 1920 ∧ Q (.str (toString i)) H
theorem cz_str {X : Cx} : CallR X (.type "str") rStrI := call_str_int
section
variable {K : PySem.W.Frag} {σ : L2.St} {H H' : Hp} {ta tb te to ts : TE} {a b s : Str} {p : Addr} {xs : List V}
theorem ev_find (h : Ev to σ H (.str a)) (hs : Ev ts σ H (.str s)) : Ev (tBM K "str" rFind to (tCons ts tNil)) σ H (.int (Txt.find a s)) := fun H1 e Q q =>
  h H1 e _ fun H2 e2 => ⟨rfl, hs H2 (e.trans e2) _ fun H3 e3 => ⟨a, s, rfl, rfl, q H3 (e2.trans e3)⟩⟩
theorem eu_part (h : Ev to σ H (.str a)) (hs : Ev ts σ H (.str s)) (h0 : (s.length == 0) = false) (hz : a.length ≤ 100000) : EvU (tBM K "str" rPart to (tCons ts tNil)) σ H [.str (Txt.partition a s).1, .str (Txt.partition a s).2.1, .str (Txt.partition a s).2.2] := fun H1 e Q q =>
  h H1 e _ fun H2 e2 => ⟨rfl, hs H2 (e.trans e2) _ fun H3 e3 => ⟨a, s, rfl, rfl, h0, sz_of hz, fun p hp => q p _ (fresh_back (e2.trans e3) hp) ((e2.trans e3).trans (Ex.new hp)) upd_same⟩⟩
theorem ev_strI {i : Int} (h : Ev te σ H (.int i)) (hi : i.natAbs < 2 ^ 1920) : Ev (tCB rStrI (tCons te tNil)) σ H (.str (toString i)) := fun H1 e Q q => h H1 e _ fun H2 e2 => ⟨i, rfl, by
  by_cases z : i.natAbs = 0
  · rw [z]; decide
  · exact (Nat.log2_lt z).mpr hi, q H2 e2⟩
theorem ev_lenT {p : Addr} {xs : List V} (ha : Ev ta σ H (.ref p)) (h : SqT K H p xs) : Ev (tCB (rLenS K) (tCons ta tNil)) σ H (.int (xs.length : Int)) := fun H1 e Q q =>
  ha H1 e _ fun H2 e2 => ⟨p, xs, rfl, Or.inr (ex_t (e.trans e2) h), q H2 e2⟩
theorem ev_ixT {i : Int} {v : V} (h : Ev ta σ H (.ref p)) (hi : Ev tb σ H (.int i)) (hp : H p = some (.tup xs)) (hv : atI xs i = some v) : Ev (tOp (rIxT K) ta tb) σ H v := ev_op h hi (rv_ixT (st_of hp) hv)
theorem ev_ixL {i : Int} {v : V} (h : Ev ta σ H (.ref p)) (hi : Ev tb σ H (.int i)) (hp : H p = some (.lst xs)) (hv : atI xs i = some v) : Ev (tOp (rIxL K) ta tb) σ H v := ev_op h hi (rv_ixL (sq_of hp) hv)
/-- any of a list of truths -/
theorem ev_any {bs : List Bool} (ha : EvL ta σ H (bs.map V.bl)) : Ev (tCB (L2.rAny K) (tCons ta tNil)) σ H (.bl (bs.any id)) := fun H1 e Q q =>
  ha H1 e _ fun p H2 _ e2 h2 => ⟨p, bs, rfl, sq_of h2, q H2 e2⟩
def rMin2 : List V → Hp → VK → Prop := fun xs H Q => ∃ i j, xs = [.int i, .int j] ∧ Q (.int (if j < i then j else i)) H
theorem ev_min2 {i j : Int} (ha : Ev ta σ H (.int i)) (hb : Ev tb σ H (.int j)) : Ev (tCB rMin2 (tCons ta (tCons tb tNil))) σ H (.int (if j < i then j else i)) := fun H1 e Q q =>
  ha H1 e _ fun H2 e2 => hb H2 (e.trans e2) _ fun H3 e3 => ⟨i, j, rfl, q H3 (e2.trans e3)⟩
end
section
variable {X : Cx}
theorem cz_min2 (h : X.calm = true) : CallR X (.builtin "min") rMin2 := call_min2 h
end
/-! ### numbers' texts are short -/
theorem strI_len {i : Int} (h0 : 0 ≤ i) (h : i < 10 ^ 7) : (PySem.Str.ofString (toString i)).length ≤ 7 := by
  obtain ⟨n, rfl⟩ := Int.eq_ofNat_of_zero_le h0
  rw [len_tl, tl_num]
  exact numL_len (by decide) (by omega)
end Z
set_option maxHeartbeats 4000000
namespace Z
open PySem PySem.Spec PyProof.Rows L2 TL Evl
/-! ### short texts -/
def EvS (te : TE) (σ : L2.St) (H : Hp) (n : Nat) : Prop := ∃ t : Str, t.length ≤ n ∧ Ev te σ H (.str t)
def EvAS (ta : TA) (σ : L2.St) (H : Hp) (n k : Nat) : Prop := ∃ ts : List Str, ts.length = k ∧ (∀ t ∈ ts, t.length ≤ n) ∧ EvA ta σ H (ts.map V.str)
section
variable {K : PySem.W.Frag} {σ : L2.St} {H H' : Hp} {ta tb te to ts : TE} {a b s : Str} {p : Addr} {xs : List V} {n m k : Nat} {tr : TA}  {ta' : TA} {i : Nat} {sp : Sp} {E : XK} {Q : VK} {x v : V} {D : Ends} {t tz tu : TS} {tt : TT} {dvs : List V}
theorem es_c : EvS (tC (.str a)) σ H a.length := ⟨a, Nat.le_refl _, ev_c⟩
theorem es_var (h : σ[i]? = some (some (.str a))) (hn : a.length ≤ n) : EvS (tVar i) σ H n := ⟨a, hn, ev_var h⟩
theorem es_add (h : EvS ta σ H n) (h2 : EvS tb σ H m) (hs : n + m ≤ 200000 := by decide +kernel) : EvS (tOp rAddS2 ta tb) σ H (n + m) := by
  obtain ⟨x, hx, ex⟩ := h
  obtain ⟨y, hy, ey⟩ := h2
  exact ⟨x ++ y, by rw [Str.length_append]; omega, ev_op ex ey (rv_addS (by omega))⟩
theorem eas_nil : EvAS tNil σ H n 0 := ⟨[], rfl, (fun _ h => by cases h), ea_nil⟩
theorem eas_cons (h : EvS te σ H m) (hm : m ≤ n) (hr : EvAS tr σ H n k) : EvAS (tCons te tr) σ H n (k + 1) := by
  obtain ⟨x, hx, ex⟩ := h
  obtain ⟨ts, h1, h2, h3⟩ := hr
  refine ⟨x :: ts, by rw [List.length_cons, h1], fun t ht => ?_, ea_cons ex h3⟩
  rcases List.mem_cons.mp ht with rfl | ht
  · exact Nat.le_trans hx hm
  · exact h2 t ht
theorem es_mono (h : EvS te σ H n) (hm : n ≤ m) : EvS te σ H m := by
  obtain ⟨x, hx, ex⟩ := h
  exact ⟨x, Nat.le_trans hx hm, ex⟩
theorem es_ex (h : EvS te σ H n) (e : Ex H H') : EvS te σ H' n := by
  obtain ⟨x, hx, ex⟩ := h
  exact ⟨x, hx, ex.mono e⟩
theorem es_strI {i : Int} (h : Ev te σ H (.int i)) (h0 : 0 ≤ i) (h1 : i < 10 ^ 7) : EvS (tCB rStrI (tCons te tNil)) σ H 7 :=
  ⟨_, strI_len h0 h1, ev_strI h (Nat.lt_of_lt_of_le (show i.natAbs < 2 ^ 24 by omega) (Nat.pow_le_pow_right (by decide) (by decide)))⟩
/-! ### readings, one after another -/
theorem rd_cons (h : Ev te σ H x) {Q : List V → Hp → Prop} (k : ∀ H1, Ex H H1 → tr σ H1 fun xs H2 => Q (x :: xs) H2) : tCons te tr σ H Q := h H (Ex.refl H) _ k
theorem rd_args (h : ta' σ H fun vs H1 => sp (vs ++ dvs) H1 Q E) : tCall sp dvs E ta' σ H Q := h
theorem rd_ev (h : Ev te σ H x) (k : ∀ H1, Ex H H1 → Q x H1) : te σ H Q := h H (Ex.refl H) _ k
theorem rd_evL (h : EvL te σ H xs) (k : ∀ p H1, H p = none → Ex H H1 → H1 p = some (.lst xs) → Q (.ref p) H1) : te σ H Q := h H (Ex.refl H) _ k
theorem rd_callN {vs : List V} {tk : TA} (h : EvA tk σ H vs) (hl : vs.length = n) (k : ∀ H1, Ex H H1 → sp vs H1 Q E) : tCallN 0 n sp (fun _ zs => zs) E tNil tk σ H Q := h H (Ex.refl H) _ fun H1 e => ⟨rfl, hl, k H1 e⟩
theorem q_tail (R : L2.St → Hp → Prop) (k : ∀ σ1 H1, R σ1 H1 → tz D σ1 H1) (h : (∀ σ1 H1, R σ1 H1 → tz D σ1 H1) → tSeq t tz D σ H) : tSeq t tz D σ H := h k
theorem g_name {R : L2.St → Hp → Prop} (h : R (σ.set i (some v)) H) : gName i v σ H R := h
theorem q_tailIf {tw : TS} (R : L2.St → Hp → Prop) (k : ∀ σ1 H1, R σ1 H1 → tz D σ1 H1) (h : (∀ σ1 H1, R σ1 H1 → tz D σ1 H1) → tSeq (tIfS tt tu tw) tz D σ H) : tSeq (tIfS tt tu tw) tz D σ H := h k
theorem el_listN (h : EvL te σ H xs) : EvL (tCB (rListS K) (tCons te tNil)) σ H xs := fun H1 e Q q =>
  h H1 e _ fun p H2 np e2 h2 => ⟨p, xs, rfl, .inl (sq_of h2), fun l hl => q l _ (fresh_back e2 hl) (e2.trans (Ex.new hl)) upd_same⟩
end
section
variable {K : PySem.W.Frag} {σ : L2.St} {H : Hp} {tb : TE} {ta : TA} {n k : Nat} {D : Ends} {i : Int}
/-- one of a list of short texts -/
theorem ev_pick (hev : EvAS ta σ H n k) (hk : k ≤ 1000) (hi : Ev tb σ H (.int i)) (h0 : 0 ≤ i) (h1 : i < (k : Int)) : EvS (tOp (rIxL K) (tLst ta) tb) σ H n := by
  obtain ⟨ts, hk2, hts, hev⟩ := hev
  obtain ⟨t, ht, htm⟩ := at_int (xs := ts.map V.str) (d := i) h0 (by rw [List.length_map, hk2]; exact h1)
  obtain ⟨x, hx, e⟩ := List.mem_map.mp htm
  subst e
  exact ⟨x, hts x hx, ev_opL1 (el_lst hev (by rw [List.length_map, hk2]; omega)) (fun H1 e => hi.mono e) (fun p H1 hp e => rv_ixL (sq_of hp) ht)⟩
theorem s_retS {te : TE} (h : EvS te σ H n) (q : ∀ x : Str, x.length ≤ n → ∀ H1, Ex H H1 → D.rt (.str x) H1) : tRet te D σ H := by
  obtain ⟨x, hx, ex⟩ := h
  exact s_ret ex (q x hx)
end
section
variable {K : PySem.W.Frag} {σ : L2.St} {H : Hp} {te : TE} {tr : TA} {D : Ends} {xs vs : List V}
/-- a list whose first thing is a new list -/
theorem s_retLL (h : EvL te σ H xs) (hr : ∀ H1, Ex H H1 → EvA tr σ H1 vs) (hz : vs.length + 1 ≤ 1000)
    (q : ∀ p l H1, H p = none → Ex H H1 → H1 l = some (.lst xs) → l ≠ p → H1 p = some (.lst (.ref l :: vs)) → D.rt (.ref p) H1) : tRet (tLst (tCons te tr)) D σ H :=
  h H (Ex.refl H) _ fun l H1 nl e1 h1 => (hr H1 e1) H1 (Ex.refl H1) _ fun H2 e2 => ⟨Nat.le_trans (show vs.length + 1 ≤ 1000 from hz) (by decide), fun p np =>
    q p l _ (fresh_back (e1.trans e2) np) ((e1.trans e2).trans (Ex.new np)) (by rw [upd_ne (ne_of_none (e2 _ _ h1) np)]; exact e2 _ _ h1) (ne_of_none (e2 _ _ h1) np) upd_same⟩
end
/-! ### a source of draws: a list whose first thing is the list l0 of cells -/
def SrcAt (H : Hp) (p l0 : Addr) (n : Nat) : Prop := ∃ (cs : List Int) (c1 c2 c3 sd : Int), H p = some (.lst [.ref l0, .int c1, .int c2, .int c3, .int sd]) ∧ H l0 = some (.lst (cs.map V.int)) ∧ l0 ≠ p ∧ cs.length ≤ 63 ∧ (∀ z ∈ cs, z.natAbs < 2 ^ cap) ∧ 0 ≤ c1 ∧ 0 ≤ c3 ∧ c3 ≤ (n : Int) ∧ 0 ≤ sd ∧ sd < 2147483629
section
variable {H H' : Hp} {p l0 l : Addr} {n m : Nat} {o : HO}
theorem SrcAt.ex (b : SrcAt H p l0 n) (e : Ex H H') : SrcAt H' p l0 n := by
  obtain ⟨cs, c1, c2, c3, sd, h, h2, r⟩ := b
  exact ⟨cs, c1, c2, c3, sd, e _ _ h, e _ _ h2, r⟩
theorem SrcAt.mono (b : SrcAt H p l0 n) (h : n ≤ m) : SrcAt H p l0 m := by
  obtain ⟨cs, c1, c2, c3, sd, h1, h2, h3, h4, h5, h6, h7, h8, r⟩ := b
  exact ⟨cs, c1, c2, c3, sd, h1, h2, h3, h4, h5, h6, h7, by omega, r⟩
theorem SrcAt.has (b : SrcAt H p l0 n) : ∃ xs, H p = some (.lst xs) := by
  obtain ⟨cs, c1, c2, c3, sd, h, r⟩ := b
  exact ⟨_, h⟩
theorem SrcAt.has0 (b : SrcAt H p l0 n) : ∃ xs, H l0 = some (.lst xs) := by
  obtain ⟨cs, c1, c2, c3, sd, h, h2, r⟩ := b
  exact ⟨_, h2⟩
theorem SrcAt.ne (b : SrcAt H p l0 n) (h : H l = none) : l ≠ p ∧ l ≠ l0 := by
  obtain ⟨xs, g⟩ := b.has
  obtain ⟨ys, g2⟩ := b.has0
  exact ⟨(fun e => by rw [e, g] at h; cases h), (fun e => by rw [e, g2] at h; cases h)⟩
theorem SrcAt.upd (b : SrcAt H p l0 n) (h : l ≠ p ∧ l ≠ l0) : SrcAt (upd H l o) p l0 n := by
  obtain ⟨cs, c1, c2, c3, sd, h1, h2, r⟩ := b
  exact ⟨cs, c1, c2, c3, sd, by rw [upd_ne (Ne.symm h.1)]; exact h1, by rw [upd_ne (Ne.symm h.2)]; exact h2, r⟩
theorem Keep.non (a : Keep p H H') {xs : List V} (b : H' p = some (.lst xs)) (h : H' l = none) : H l = none := by
  cases q : H l with
  | none => rfl
  | some o =>
    by_cases e : l = p
    · rw [e, b] at h
      cases h
    · rw [a l o e q] at h
      cases h
theorem Keep.freeS (a : Keep p H H') (b : SrcAt H' p l0 n) (h : H' l = none) : H l = none := by
  obtain ⟨xs, g⟩ := b.has
  exact a.non g h
/-- an object that was not there ahead may change -/
theorem Keep.mut (a : Keep p H H') (h : H l = none) : Keep p H (L2.upd H' l o) := fun b u hb hu => by
  rw [upd_ne (ne_of_none hu h)]
  exact a b u hb hu
theorem Keep.at (a : Keep p H H') (h : H l = some o) (hl : l ≠ p) : H' l = some o := a l o hl h
end
def spSource (K : PySem.W.Frag) : Sp := fun vs H Q _ => ∃ (a : Addr) (ns : List Int), vs = [.ref a] ∧ SqL K H a (ns.map V.int) ∧ ns.length ≤ 63 ∧ (∀ z ∈ ns, z.natAbs < 2 ^ cap) ∧ ∀ (p l0 : Addr) (H' : Hp), H p = none → Ex H H' → SrcAt H' p l0 0 → Q (.ref p) H'
def spMixed : Sp := fun vs H Q _ => ∃ c s lim : Int, vs = [.int c, .int s, .int lim] ∧ c.natAbs < 2 ^ cap ∧ 0 ≤ s ∧ s ≤ 1000000000 ∧ 1 ≤ lim ∧ lim ≤ 1000000 ∧ ∀ d : Int, 0 ≤ d → d < lim → RetV (.int d) H Q
def spSrc : Sp := fun vs H Q _ => ∃ (p l0 : Addr) (lim : Int) (n : Nat), vs = [.ref p, .int lim] ∧ SrcAt H p l0 n ∧ n ≤ 100000000 ∧ 1 ≤ lim ∧ lim ≤ 1000000 ∧ ∀ (d : Int) (H' : Hp), 0 ≤ d → d < lim → SrcAt H' p l0 (n + 1) → Keep p H H' → Q (.int d) H'
theorem cutV_all {xs : List V} (h : xs.length ≤ 63) : cutV xs none (some 63) = xs := by
  unfold cutV
  rw [HT.sIx_none, show HT.sIx xs.length xs.length (some 63) = min 63 xs.length from HT.sIx_nat _ _ 63, List.drop_zero, Nat.sub_zero, Nat.min_eq_right h]
  exact List.take_of_length_le (Nat.le_refl _)
theorem sq_le {x b : Int} (h0 : 0 ≤ x) (h : x ≤ b) : x * x ≤ b * b := Int.mul_le_mul h h h0 (by omega)
end Z
set_option maxHeartbeats 4000000
namespace Z
open PySem PySem.Spec PyProof.Rows L2 TL Evl
/-! ### a bag of draws: a list whose first thing is the list l0 of cells, three numbers -/
def DwAt (H : Hp) (p l0 : Addr) : Prop := ∃ (cs : List Int) (c1 c2 c3 : Int), H p = some (.lst [.ref l0, .int c1, .int c2, .int c3]) ∧ H l0 = some (.lst (cs.map V.int)) ∧ l0 ≠ p ∧ cs.length ≤ 63 ∧ (∀ z ∈ cs, z.natAbs < 2 ^ cap) ∧ 0 ≤ c1 ∧ 0 ≤ c3 ∧ c3 < 2147483647
section
variable {H H' : Hp} {p l0 l : Addr} {o : HO}
theorem DwAt.ex (b : DwAt H p l0) (e : Ex H H') : DwAt H' p l0 := by
  obtain ⟨cs, c1, c2, c3, h, h2, r⟩ := b
  exact ⟨cs, c1, c2, c3, e _ _ h, e _ _ h2, r⟩
theorem DwAt.has (b : DwAt H p l0) : ∃ xs, H p = some (.lst xs) := by
  obtain ⟨cs, c1, c2, c3, h, r⟩ := b
  exact ⟨_, h⟩
theorem DwAt.has0 (b : DwAt H p l0) : ∃ xs, H l0 = some (.lst xs) := by
  obtain ⟨cs, c1, c2, c3, h, h2, r⟩ := b
  exact ⟨_, h2⟩
theorem DwAt.ne (b : DwAt H p l0) (h : H l = none) : l ≠ p ∧ l ≠ l0 := by
  obtain ⟨xs, g⟩ := b.has
  obtain ⟨ys, g2⟩ := b.has0
  exact ⟨(fun e => by rw [e, g] at h; cases h), (fun e => by rw [e, g2] at h; cases h)⟩
theorem DwAt.upd (b : DwAt H p l0) (h : l ≠ p ∧ l ≠ l0) : DwAt (upd H l o) p l0 := by
  obtain ⟨cs, c1, c2, c3, h1, h2, r⟩ := b
  exact ⟨cs, c1, c2, c3, by rw [upd_ne (Ne.symm h.1)]; exact h1, by rw [upd_ne (Ne.symm h.2)]; exact h2, r⟩
theorem Keep.freeB (a : Keep p H H') (b : DwAt H' p l0) (h : H' l = none) : H l = none := by
  obtain ⟨xs, g⟩ := b.has
  exact a.non g h
end
def spBagS (K : PySem.W.Frag) : Sp := fun vs H Q _ => ∃ (a : Addr) (ns : List Int), vs = [.ref a] ∧ SqL K H a (ns.map V.int) ∧ ns.length ≤ 63 ∧ (∀ z ∈ ns, z.natAbs < 2 ^ cap) ∧ ∀ (p l0 : Addr) (H' : Hp), H p = none → Ex H H' → DwAt H' p l0 → Q (.ref p) H'
def spTake : Sp := fun vs H Q _ => ∃ (p l0 : Addr) (lim : Int), vs = [.ref p, .int lim] ∧ DwAt H p l0 ∧ 1 ≤ lim ∧ lim ≤ 1000000 ∧ ∀ (d : Int) (H' : Hp), 0 ≤ d → d < lim → DwAt H' p l0 → Keep p H H' → Q (.int d) H'
/-! ### texts of marks -/
def mkS : Str := "abcdefghijklmnopqrstuvwxyz0123456789-."
def markB (z : Str) : Bool := (decide ((1 : Int) ≤ z.length) && decide ((z.length : Int) ≤ 40)) && allIn z mkS
def plS : Str := (" !\"#$&'()*+,-./0123456789:;<=>?@ABCDEFGHIJKLMNOPQRSTUVWXYZ[\\]^_`" : Str) ++ ("abcdefghijklmnopqrstuvwxyz{|}~" : Str)
def wrZ (z : Str) (b : Bool) : Str := (cond b ("w" : Str) "" ++ ("\"" : Str)) ++ z ++ ("\"" : Str)
def one (c : Nat) : Str := ⟨#[c]⟩
theorem one_len (c : Nat) : (one c).length = 1 := rfl
theorem tl_one (c : Nat) : tl (one c) = [c] := rfl
theorem markB_iff {z : Str} : markB z = true ↔ (1 ≤ z.length ∧ z.length ≤ 40) ∧ allIn z mkS = true := by
  unfold markB
  rw [Bool.and_eq_true, Bool.and_eq_true, decide_eq_true_eq, decide_eq_true_eq]
  constructor
  · rintro ⟨⟨h1, h2⟩, h3⟩
    exact ⟨⟨by omega, by omega⟩, h3⟩
  · rintro ⟨⟨h1, h2⟩, h3⟩
    exact ⟨⟨by omega, by omega⟩, h3⟩
theorem allIn_app (a b s : Str) : allIn (a ++ b) s = (allIn a s && allIn b s) := by
  unfold allIn
  rw [tl_append, List.all_append]
theorem allIn_sub {a b s : Str} (h : allIn b s = true) (hs : ∀ c ∈ tl a, c ∈ tl b) : allIn a s = true := by
  refine List.all_eq_true.mpr fun c hc => List.all_eq_true.mp h c (hs c hc)
theorem allIn_one {c : Nat} {s : Str} (h : c ∈ tl s) : allIn (one c) s = true := by
  refine List.all_eq_true.mpr fun d hd => ?_
  have : d = c := by
    have := List.mem_singleton.mp (show d ∈ [c] from hd)
    exact this
  rw [this]
  exact decide_eq_true h
theorem cut_mem {z : Str} {a b : Option Int} {c : Nat} (h : c ∈ tl (cutS z a b)) : c ∈ tl z := List.mem_of_mem_drop (List.mem_of_mem_take h)
theorem allIn_cut {z s : Str} (a b : Option Int) (h : allIn z s = true) : allIn (cutS z a b) s = true := allIn_sub h fun _ hc => cut_mem hc
/-- z[:i] + c + z[i + 1:] -/
theorem put_len {z : Str} {i : Nat} {c : Nat} (h : i < z.length) : (cutS z none (some (i : Int)) ++ one c ++ cutS z (some ((i : Int) + 1)) none).length = z.length := by
  have e : (i : Int) + 1 = ((i + 1 : Nat) : Int) := by omega
  rw [e, cutTo, cutFrom, Str.length_append, Str.length_append]
  have h1 : (preT z i).length = i := by
    show ((tl z).take i).toArray.size = i
    rw [List.size_toArray, List.length_take, len_tl']
    omega
  have h2 : (sufT z (i + 1)).length = z.length - (i + 1) := by
    show ((tl z).drop (i + 1)).toArray.size = _
    rw [List.size_toArray, List.length_drop, len_tl']
  rw [h1, h2, one_len]
  omega
theorem put_mark {z : Str} {i c : Nat} (h : markB z = true) (hi : i < z.length) (hc : c ∈ tl mkS) : markB (cutS z none (some (i : Int)) ++ one c ++ cutS z (some ((i : Int) + 1)) none) = true := by
  have h2 := markB_iff.mp h
  refine markB_iff.mpr ⟨by rw [put_len hi]; exact h2.1, ?_⟩
  rw [allIn_app, allIn_app, allIn_cut _ _ h2.2, allIn_cut _ _ h2.2, allIn_one hc]
  rfl
theorem wrZ_len (z : Str) (b : Bool) : (wrZ z b).length ≤ z.length + 3 := by
  unfold wrZ
  rw [Str.length_append, Str.length_append, Str.length_append]
  have h1 : (cond b ("w" : Str) "").length ≤ 1 := by cases b <;> decide +kernel
  have h2 : ("\"" : Str).length = 1 := by decide +kernel
  omega
theorem wrZ_pos (z : Str) (b : Bool) : 2 ≤ (wrZ z b).length := by
  unfold wrZ
  rw [Str.length_append, Str.length_append, Str.length_append]
  have h2 : ("\"" : Str).length = 1 := by decide +kernel
  omega
section
variable {K : PySem.W.Frag} {σ : L2.St} {H H' : Hp} {ta tb te to ts : TE} {a b s : Str} {n m k : Nat} {tlo thi : TO} {lo hi : Option Int} {i : Int}
theorem es_sl (h : EvS te σ H n) (h1 : EvO tlo σ H lo) (h2 : EvO thi σ H hi) (hz : n ≤ 100000) : EvS (tSl rSlS te tlo thi) σ H n := by
  obtain ⟨x, hx, ex⟩ := h
  exact ⟨cutS x lo hi, Nat.le_trans (cut_len x _ _) hx, ev_slS ex h1 h2 (by omega)⟩
theorem es_ev (h : Ev te σ H (.str a)) (hn : a.length ≤ n) : EvS te σ H n := ⟨a, hn, h⟩
def rUpper : V → List V → Hp → VK → Prop := fun x xs H Q => ∃ a, x = .str a ∧ xs = [] ∧ a.length ≤ 5592405 ∧ Q (.str (Txt.upper a)) H
end
end Z
namespace Z
open PySem PySem.Spec PyProof.Rows L2 TL Evl
section
variable {K : PySem.W.Frag} {σ : L2.St} {H : Hp} {ta tb tc : TE} {i j k : Int}
/-- a < b < c -/
theorem ev_chainL (ha : Ev ta σ H (.int i)) (hb : Ev tb σ H (.int j)) (hc : Ev tc σ H (.int k)) :
    Ev (tChain (rI0 fun i j => .bl (decide (i < j))) (rI0 fun i j => .bl (decide (i < j))) ta tb tc) σ H (.bl (decide (i < j) && decide (j < k))) := fun H1 e Q q =>
  ha H1 e _ fun H2 e2 => hb H2 (e.trans e2) _ fun H3 e3 => ⟨i, j, rfl, rfl, _, rfl, by
    cases h : decide (i < j) with
    | true =>
      refine iteT ?_
      refine hc H3 ((e.trans e2).trans e3) _ fun H4 e4 => ⟨j, k, rfl, rfl, ?_⟩
      have g := q H4 ((e2.trans e3).trans e4)
      rw [h] at g
      exact g
    | false =>
      refine iteF ?_
      have g := q H3 (e2.trans e3)
      rw [h] at g
      exact g⟩
end
end Z
set_option maxHeartbeats 4000000
namespace Z
open PySem PySem.Spec PyProof.Rows L2 TL Evl
/-! ### a written mark -/
def quo (z : Str) : Str := if decide (hd z = some 119) = true then rest z else z
def inn (q : Str) : Str := cutS q (some 1) (some (-1))
def qut (t : Str) : Str := ("\"" : Str) ++ t ++ ("\"" : Str)
def readZ (z : Str) : Option (Str × Bool) := if quo z = qut (inn (quo z)) ∧ markB (inn (quo z)) = true then some (inn (quo z), decide (hd z = some 119)) else none
theorem q34 : ("\"" : Str) = one 34 := by decide +kernel
theorem w119 : ("w" : Str) = one 119 := by decide +kernel
theorem inn_sub (q : Str) : tl (inn q) = ((tl q).drop (HT.sIx q.length 0 (some 1))).take (HT.sIx q.length q.length (some (-1)) - HT.sIx q.length 0 (some 1)) := rfl
theorem sx1 (n : Nat) : HT.sIx n 0 (some 1) = min 1 n := HT.sIx_nat n 0 1
theorem sxm (n : Nat) : HT.sIx n n (some (-1)) = n - 1 := by
  show (if (-1 : Int) < 0 then ((-1 : Int) + (n : Int)).toNat else min (-1 : Int).toNat n) = n - 1
  rw [if_pos (by decide)]
  omega
theorem inn_short {q : Str} (h : q.length < 3) : markB (inn q) = false := by
  cases e : markB (inn q) with
  | false => rfl
  | true =>
    have h1 := (markB_iff.mp e).1.1
    have h2 := congrArg List.length (inn_sub q)
    rw [len_tl', List.length_take, sx1, sxm] at h2
    omega
theorem split3 {l : List Nat} (h : 3 ≤ l.length) : ∃ a m b, l = a :: (m ++ [b]) := by
  cases l with
  | nil => cases h
  | cons a r =>
    have hr : r ≠ [] := by
      intro e
      rw [e, List.length_singleton] at h
      omega
    exact ⟨a, r.dropLast, r.getLast hr, by rw [List.dropLast_concat_getLast]⟩
theorem inn_mid {q : Str} {a b : Nat} {m : List Nat} (h : tl q = a :: (m ++ [b])) : tl (inn q) = m := by
  have hn : q.length = m.length + 2 := by
    rw [← len_tl', h, List.length_cons, List.length_append]
    rfl
  rw [inn_sub, sx1, sxm, h, Nat.min_eq_left (by omega)]
  show (m ++ [b]).take (q.length - 1 - 1) = m
  rw [show q.length - 1 - 1 = m.length by omega, List.take_left]
theorem qut_tl (t : Str) : tl (qut t) = 34 :: (tl t ++ [34]) := by
  unfold qut
  rw [q34, tl_append, tl_append, tl_one]
  rfl
theorem qut_iff {q : Str} {a b : Nat} {m : List Nat} (h : tl q = a :: (m ++ [b])) : q = qut (inn q) ↔ (a = 34 ∧ b = 34) := by
  have hm := inn_mid h
  constructor
  · intro e
    have e2 := congrArg tl e
    rw [h, qut_tl, hm] at e2
    injection e2 with e3 e4
    have e5 := List.append_cancel_left e4
    injection e5 with e6 _
    exact ⟨e3, e6⟩
  · rintro ⟨rfl, rfl⟩
    refine ext_tl ?_
    rw [qut_tl, hm, h]
theorem hd_q {q : Str} {a : Nat} {m : List Nat} (h : tl q = a :: m) : atI (tl q) 0 = some a := atI_nat (j := 0) (by rw [h]; rfl)
theorem last_q {q : Str} {a b : Nat} {m : List Nat} (h : tl q = a :: (m ++ [b])) : atI (tl q) (-1) = some b := by
  rw [h]
  exact atI_last (a :: m) b
theorem one34 (c : Nat) : decide (one c = ("\"" : Str)) = decide (c = 34) := by
  rw [q34]
  exact decide_eq_decide.mpr (one_eq c 34)
theorem quo_cut (z : Str) : cutS z (some (if decide (hd z = some 119) then 1 else 0)) none = quo z := by
  unfold quo
  cases h : decide (hd z = some 119) with
  | true =>
    rw [if_pos rfl, if_pos rfl]
    rfl
  | false =>
    rw [if_neg (by decide), if_neg (by decide)]
    have e : cutS z (some ((0 : Nat) : Int)) none = z := ext_tl (by rw [cutFrom_tl]; rfl)
    exact e
theorem quo_len (z : Str) : (quo z).length ≤ z.length := by
  unfold quo
  split
  · exact rest_len z
  · exact Nat.le_refl _
theorem inn_len (z : Str) : (inn z).length ≤ z.length := cut_len z _ _
theorem read_none {z : Str} (h : ¬ (quo z = qut (inn (quo z)) ∧ markB (inn (quo z)) = true)) : readZ z = none := if_neg h
theorem read_some {z : Str} (h : quo z = qut (inn (quo z)) ∧ markB (inn (quo z)) = true) : readZ z = some (inn (quo z), decide (hd z = some 119)) := if_pos h
theorem starts_w (z : Str) : Txt.startswith z "w" = decide (hd z = some 119) := by
  unfold Txt.startswith Builtin.Str.subAt
  rw [w119]
  show (decide (0 + 1 ≤ z.length) && (z.cps.extract 0 (0 + 1) == #[119])) = _
  have hx : (z.cps.extract 0 (0 + 1) == #[119]) = decide ((tl z).take 1 = [119]) := by
    have : (z.cps.extract 0 (0 + 1)).toList = (tl z).take 1 := by simp [tl]
    by_cases h : (tl z).take 1 = [119]
    · rw [decide_eq_true h]
      refine beq_iff_eq.mpr (Array.toList_inj.mp ?_)
      rw [this, h]
    · rw [decide_eq_false h]
      refine beq_eq_false_iff_ne.mpr fun e => h ?_
      rw [← this, e]
  rw [hx, len_tl]
  unfold hd
  cases e : tl z with
  | nil => rfl
  | cons a r =>
    have h1 : 0 + 1 ≤ (a :: r).length := by rw [List.length_cons]; omega
    rw [decide_eq_true h1, Bool.true_and]
    show decide ([a] = [119]) = decide (some a = some 119)
    by_cases h : a = 119
    · rw [h]; rfl
    · rw [decide_eq_false fun e => h (by cases e; rfl), decide_eq_false fun e => h (Option.some.inj e)]
/-- the written form of a good mark is read back -/
theorem read_wr {z : Str} {b : Bool} (h : markB z = true) : readZ (wrZ z b) = some (z, b) := by
  have ht : tl (wrZ z b) = (cond b [119] []) ++ (34 :: (tl z ++ [34])) := by
    unfold wrZ
    rw [q34, tl_append, tl_append, tl_append, tl_one]
    cases b with
    | true =>
      show ((tl ("w" : Str) ++ [34]) ++ tl z) ++ [34] = _
      rw [w119, tl_one]
      simp
    | false =>
      show ((tl ("" : Str) ++ [34]) ++ tl z) ++ [34] = _
      rw [tl_empty]
      simp
  have hw : decide (hd (wrZ z b) = some 119) = b := by
    unfold hd
    rw [ht]
    cases b <;> rfl
  have hq : tl (quo (wrZ z b)) = 34 :: (tl z ++ [34]) := by
    unfold quo
    rw [hw]
    cases b with
    | true =>
      rw [if_pos rfl]
      unfold rest
      rw [cutFrom1_tl, ht]
      rfl
    | false =>
      rw [if_neg (by decide), ht]
      rfl
  have hi : inn (quo (wrZ z b)) = z := ext_tl (inn_mid hq)
  have hc : quo (wrZ z b) = qut (inn (quo (wrZ z b))) ∧ markB (inn (quo (wrZ z b))) = true := ⟨(qut_iff hq).mpr ⟨rfl, rfl⟩, by rw [hi]; exact h⟩
  rw [read_some hc, hi, hw]
end Z
namespace Z
open PySem PySem.Spec PyProof.Rows L2 TL Evl
theorem ev_intB {b : Bool} {te : TE} {σ : L2.St} {H : Hp} (h : Ev te σ H (.bl b)) : Ev (tCB rInt1 (tCons te tNil)) σ H (.int (if b then 1 else 0)) := fun H1 e Q q => h H1 e _ fun H2 e2 => .inr ⟨b, rfl, q H2 e2⟩
end Z
set_option maxHeartbeats 2000000
namespace Z
open PySem PySem.Spec PyProof.Rows L2 TL
/-! ### defs with text.replace(y, z) -/
section
variable {P : Program} {w : World} {K : PySem.W.Frag} {mg : Str → Option Value} {base : Heap} {x : Str} {st : Stmt} {f : Addr} {fd : FuncData} {N ps : List Str} {k : Nat} {sp : Sp}
theorem mkT (F : FnP K x st f fd) (gm : mg x = some (.ref f))
    (hb : ∀ (kV doc pm : Value) (an : Option Addr) (cdv ct : Value) (us : List Value), us.length = ps.length → bindArgs (PySem.W.fnOf x x (L2.defArgs st) (L2.defBody st) (L2.defScope st) .none kV doc pm an cdv ct) ⟨us, []⟩ = pure (ps.zip us))
    (hk : ∀ (kV doc pm : Value) (an : Option Addr) (cdv ct : Value) (ws : List Value), ws.length = ps.length → bindArgs (PySem.W.fnOf x x (L2.defArgs st) (L2.defBody st) (L2.defScope st) .none kV doc pm an cdv ct) ⟨[], ps.zip ws⟩ = pure (ps.zip ws))
    (S : FnScope N ps (L2.defScope st)) (hnc : ∀ y ∈ (L2.defScope st).names, y.2 ≠ .cell) (hps : 1 ≤ ps.length) (len : ∀ vs H Q E, sp vs H Q E → vs.length = ps.length)
    (hbody : ∀ (cdv : Value) (A : Around) (outer : List Env) (s : Shared) (H : Hp) (vs : List V) (Q : VK) (E : XK), Room k (A.deeper (envOfC x (L2.defScope st) s.heap.objs.size f cdv)) → sp vs H Q E →
      ∃ t, PSsT (cxOf CX0 P w K mg base N x (L2.defScope st) f cdv A outer s H E) (L2.defBody st) t ∧ t { nx := fun _ H' => Q .non H', rt := Q } (start N vs) H) : Call P w K mg base (k + 1) x ps sp := by
  refine ⟨f, fd, ?_, gm, F.kp, F.bindsN hb, kbn F hk⟩
  obtain ⟨oc, od, dflt, kwd, doc, mod, ann, code, tp, osl, isFd, lk, hcd, none_given, _⟩ := F.ex
  rw [isFd] at lk ⊢
  exact L2.fn_ofT lk hcd S hnc hps len fun A outer s H vs Q E hr h => hbody code A outer s H vs Q E hr h
end
section
variable {X : Cx} {k j : Nat} {x : Str} {ps : List Str} {sp : Sp} {p pos : Pos} {e : Expr} {es : List Expr} {t : TA}
theorem pet_f (c : Call X.prog X.w X.K X.mg X.base k x ps sp) (hr : Room j X.A) (hk : k ≤ j) (hg : Gl X x) (ha : PAT X (e :: es) t)
    (hdb : (x == ("__debug__" : Str)) = false := by decide) (he : starEach (e :: es) X.env = (false, eval e X.env) :: starEach es X.env := by rfl) (hpl : (backTo pos (starEach es X.env)).any (·.1) = false := by rfl) :
    PET X (.Call (.Name x p) (e :: es) [] pos) (tCall sp [] E0 t) := by
  obtain ⟨f, fd, F, hm, kp, b, _⟩ := c.ex
  intro pins s σ H Q h0 I h
  refine wpAny_Call_Name_kw (ld_glob I hg hm ?_ hdb)
  refine PySem.W.callWith_K (h₀ := X.base) I.ok.mod.kin kp (thn (ha pos pins s σ H _ h0 I h) fun us s1 ⟨vs, H1, I1, r, q⟩ => ⟨I1.kIn, ?_⟩) he hpl
  exact run_fn F (hr.mono hk) b .nil pass0 I1 r q
end
end Z
set_option maxHeartbeats 2000000
namespace Z
open PySem PySem.Spec PyProof.Rows L2 TL Evl
/-! ### text.replace(one character, "") -/
def splN (n : Nat) : List Nat → List Nat → List (List Nat)
  | acc, [] => [acc]
  | acc, c :: r => if c = n then acc :: splN n [] r else splN n (acc ++ [c]) r
theorem spl_splN (n : Nat) : ∀ (l acc : List Nat), spl [n] 0 acc l = splN n acc l
  | [], acc => spl_nil _ _ _
  | c :: r, acc => by
    have hp : pre [n] (c :: r) = decide (c = n) := by
      show ([c] == [n]) = decide (c = n)
      by_cases h : c = n
      · rw [h, decide_eq_true rfl]; exact beq_self_eq_true _
      · rw [decide_eq_false h]
        exact beq_eq_false_iff_ne.mpr fun e => h (by cases e; rfl)
    show spl [n] 0 acc (c :: r) = if c = n then acc :: splN n [] r else splN n (acc ++ [c]) r
    by_cases h : c = n
    · rw [spl_hit (by rw [hp, decide_eq_true h]), if_pos h]
      show acc :: spl [n] 0 [] r = _
      rw [spl_splN n r []]
    · rw [spl_miss (by rw [hp, decide_eq_false h]), if_neg h]
      exact spl_splN n r (acc ++ [c])
theorem splN_flat (n : Nat) : ∀ (l acc : List Nat), (splN n acc l).flatten = acc ++ l.filter fun c => !decide (c = n)
  | [], acc => by
    show [acc].flatten = acc ++ []
    rw [List.append_nil]
    exact List.append_nil acc
  | c :: r, acc => by
    show (if c = n then acc :: splN n [] r else splN n (acc ++ [c]) r).flatten = _
    by_cases h : c = n
    · rw [if_pos h, List.flatten_cons, splN_flat n r [], List.filter_cons, decide_eq_true h]
      rfl
    · rw [if_neg h, splN_flat n r (acc ++ [c]), List.filter_cons, decide_eq_false h, List.append_assoc]
      rfl
theorem glued_tl (ps : List Str) : tl (Builtin.Str.glued "" ps) = (ps.map tl).flatten := by
  have key : ∀ (ps : List Str) (acc : Array Nat), (ps.foldl (fun (acc : Array Nat) (p : Str) => acc ++ ("" : Str).cps ++ p.cps) acc).toList = acc.toList ++ (ps.map tl).flatten := by
    intro ps
    induction ps with
    | nil => intro acc; simp
    | cons p r ih =>
      intro acc
      rw [List.foldl_cons, ih]
      simp only [Array.toList_append, List.map_cons, List.flatten_cons, List.append_assoc]
      have : ("" : Str).cps.toList = [] := by decide +kernel
      rw [this]
      rfl
  unfold Builtin.Str.glued
  show (((ps.drop 1).foldl (fun acc p => acc ++ ("" : Str).cps ++ p.cps) (ps.headD Str.empty).cps)).toList = _
  rw [key]
  cases ps with
  | nil => rfl
  | cons p r => rfl
theorem replace_glued (x : Str) : Txt.replace x "\n" "" = Builtin.Str.glued "" (Txt.split x "\n") := by
  by_cases hx : x.length < 1
  · have e : x = Str.empty := by
      obtain ⟨a⟩ := x
      have h0 : a.size = 0 := by
        have : a.size < 1 := hx
        omega
      have : a = #[] := Array.eq_empty_of_size_eq_zero h0
      rw [this]
      rfl
    rw [e]
    decide +kernel
  · unfold Txt.replace Txt.split
    have h1 : ("\n" : Str).length = 1 := by decide +kernel
    have hk : ¬ Builtin.Str.strKind x < Builtin.Str.strKind ("\n" : Str) := kind_ok (by decide +kernel)
    rw [h1, decide_eq_false hx, decide_eq_false hk]
    cases h : (Builtin.Str.occurrences x "\n" 0 x.length (x.length + 1)).isEmpty
    · rfl
    · rfl
theorem nl_tl : tl ("\n" : Str) = [10] := by decide +kernel
theorem replace_nl (z : Str) : tl (Txt.replace z "\n" "") = (tl z).filter fun c => !decide (c = 10) := by
  rw [replace_glued z, glued_tl, split_spl z "\n" (by rw [nl_tl]; simp) (kind_ok (by decide +kernel)), nl_tl, spl_splN, splN_flat]
  rfl
def linesB (z : Str) : Bool := (tl z).all fun c => decide (c = 10) || decide (c ∈ tl signs)
theorem lines_eq (z : Str) : allIn (Txt.replace z "\n" "") signs = linesB z := by
  unfold allIn linesB
  rw [replace_nl, Bool.eq_iff_iff, List.all_eq_true, List.all_eq_true]
  constructor
  · intro h c hc
    by_cases e : c = 10
    · rw [e]; rfl
    · rw [decide_eq_false e, Bool.false_or]
      exact h c (List.mem_filter.mpr ⟨hc, by rw [decide_eq_false e]; rfl⟩)
  · intro h c hc
    obtain ⟨h1, h2⟩ := List.mem_filter.mp hc
    have := h c h1
    rw [Bool.not_eq_true'] at h2
    rw [h2, Bool.false_or] at this
    exact this
end Z
set_option maxHeartbeats 2000000
namespace ZX
open PySem PySem.Spec PyProof.Rows L2
/-! ### C(e, ..) in an except suite; a statement that is never reached -/
theorem ps_never {X : Cx} {st : Stmt} : PS X st (fun _ _ _ => False) := ⟨fun pins s σ H D I h => h.elim⟩
section
variable {X : Cx} {CX : CXT} {k : Nat} {C f : Addr} {fd : FuncData} {ps : List Str} {sp : Sp} {E : XK} {e : Expr} {es : List Expr} {x : Str} {pos p : Pos} {t : TA} {dvs : List V} {ds : List Value}
theorem run_makeH {pins : List (Addr × Obj)} {σ : L2.St} {H : Hp} {s : Shared} {Q : VK} {us : List Value} {vs : List V} (M : Mk X.K C f) (F : L2H.FnH X.prog X.w X.K X.mg X.base CX k f fd ps sp) (hr : L2H.RoomH (k + 1) X.A) (hc : L2H.HotC X) (hb : Binds X.K fd ps ds) (hd : Vals dvs ds)
    (hx : Passes CX X E) (I : Inv X pins σ H s) (r : Vals vs us)
    (h : ∀ x dx, H x = none → H dx = none → dx ≠ x → sp (.ref x :: (vs ++ dvs)) (upd (upd H dx (.own x)) x (.ins C dx [])) (fun v H2 => v = .non ∧ Q (.ref x) H2) E) :
    wpAny (model X.prog X.w) X.A (call (.ref C) us) (EP X pins σ Q) X.xe s := by
  have hq := h (s.heap.objs.size + 1) s.heap.objs.size (I.hok.fresh (Nat.le_succ _)) (I.hok.fresh (Nat.le_refl _)) (Nat.ne_of_lt (Nat.lt_succ_self _))
  have I2 := Inv.made (C := C) I
  obtain ⟨pn, hot, hp⟩ := hc
  have P1 := I2.pin pn (List.mem_append_left _ hp)
  have r2 : Vals (V.ref (s.heap.objs.size + 1) :: (vs ++ dvs)) (Value.ref (s.heap.objs.size + 1) :: (us ++ ds)) := .cons rfl (r.append hd)
  have hl : (Value.ref (s.heap.objs.size + 1) :: us ++ ds).length = ps.length := by
    have e := r2.length
    rw [F.len _ _ _ _ hq] at e
    exact e.symm
  refine wpAny_call (make_map (f := f) I.kIn M.makes M.init (beq_iff_eq.mp M.fn) (codeAny_mono (F.run _ X.stack _ _ ⟨Value.ref (s.heap.objs.size + 1) :: us, []⟩ (Value.ref (s.heap.objs.size + 1) :: (us ++ ds)) _ _ E pn
    ⟨by have := hr.dp; rw [make_depth]; omega, by have := hr.un; rw [make_units]; omega⟩ hot ⟨P1.1, P1.2.1, fun hm => (List.mem_cons.mp (I2.stkSub pn.1 hm)).elim P1.2.2.1 P1.2.2.2.1, P1.2.2.2.2⟩
    (I2.env0.make C us []) (hb _ (Value.ref (s.heap.objs.size + 1) :: us) I2.kIn hl) r2 hq) fun r s' hq' => ?_))
  cases r with
  | error e => exact hx pins σ _ _ e s' I2 hq'
  | ok fl =>
    cases fl with
    | ret u =>
      obtain ⟨v, H', I3, rv, ev, q3⟩ := I2.after hq'
      subst ev
      exact ⟨rv, ⟨V.ref (s.heap.objs.size + 1), H', I3, rfl, q3⟩⟩
    | next => exact False.elim hq'
    | brk => exact False.elim hq'
    | cont => exact False.elim hq'
theorem pe_makeH (M : Mk X.K C f) (F : L2H.FnH X.prog X.w X.K X.mg X.base CX k f fd ps sp) (hr : L2H.RoomH (k + 1) X.A) (hc : L2H.HotC X) (hg : Gl X x) (hm : X.mg x = some (.ref C)) (hb : Binds X.K fd ps ds) (hd : Vals dvs ds) (hx : Passes CX X E)
    (ha : PA X (e :: es) t) (hdb : (x == ("__debug__" : Str)) = false := by decide) (he : starEach (e :: es) X.env = (false, eval e X.env) :: starEach es X.env := by rfl) (hpl : (backTo pos (starEach es X.env)).any (·.1) = false := by rfl) :
    PE X (.Call (.Name x p) (e :: es) [] pos) (tMake C sp dvs E t) := by
  refine ⟨fun pins s σ H Q I h => ?_⟩
  refine wpAny_Call_Name_kw (ld_glob I hg hm ?_ hdb)
  refine PySem.W.callWith_K (h₀ := X.base) I.ok.mod.kin M.kp (thn (ha.run pos pins s σ H _ I h) fun us s1 ⟨vs, H1, I1, r, q⟩ => ⟨I1.kIn, ?_⟩) he hpl
  exact run_makeH M F hr hc hb hd hx I1 r q
end
end ZX
set_option maxHeartbeats 2000000
namespace Z
open PySem PySem.Spec PyProof.Rows L2 TL Evl PySem.Builtin.Str
/-! ### stripped texts -/
theorem getD_tl {z : Str} {k : Nat} (hk : k < z.length) : (tl z)[k]? = some (z.cps.getD k 0) := by
  have hl : k < (tl z).length := by rw [len_tl']; exact hk
  rw [List.getElem?_eq_getElem hl, ← getD_list, List.getD_eq_getElem?_getD]
  show some (z.cps.toList[k]'hl) = some (z.cps.toList[k]?.getD 0)
  rw [List.getElem?_eq_getElem hl]
  rfl
theorem strip_self {w s : Str} (h0 : ∀ c, (tl w)[0]? = some c → c ∉ tl s) (h1 : ∀ c, (tl w)[w.length - 1]? = some c → c ∉ tl s) : Txt.stripChars w s = w := by
  have e0 : Txt.stripChars w s = strSub w (stripLo s.cps.contains true w) (stripHi s.cps.contains true w (stripLo s.cps.contains true w)) := stripBy_eq _ _ _ _
  obtain ⟨l1, l2, l3⟩ := lo_facts s.cps.contains w
  obtain ⟨a1, a2, a3, a4⟩ := hi_facts s.cps.contains w _ l1
  generalize hlo : stripLo s.cps.contains true w = lo at *
  generalize hhi : stripHi s.cps.contains true w lo = hi at *
  have hlen : (tl w).length = w.length := len_tl' w
  have no : ∀ k, k < w.length → s.cps.contains (w.cps.getD k 0) = true → ¬ (w.cps.getD k 0 ∉ tl s) := fun k hk h h2 => by
    rw [contains_mem] at h
    exact h2 (of_decide_eq_true h)
  have z1 : lo = 0 := by
    by_cases h : lo = 0
    · exact h
    · exact absurd (h0 _ (getD_tl (by omega))) (no 0 (by omega) (l2 0 (by omega)))
  have z2 : hi = w.length := by
    by_cases h : hi = w.length
    · exact h
    · exact absurd (h1 _ (getD_tl (by omega))) (no (w.length - 1) (by omega) (a3 (w.length - 1) (by omega) (by omega)))
  refine ext_tl ?_
  rw [e0, tl_strSub, z1, z2, List.drop_zero, Nat.sub_zero, ← hlen, List.take_length]
theorem strip_ends (z s : Str) : (∀ c, (tl (Txt.stripChars z s))[0]? = some c → c ∉ tl s) ∧ ∀ c, (tl (Txt.stripChars z s))[(Txt.stripChars z s).length - 1]? = some c → c ∉ tl s := by
  have e0 : Txt.stripChars z s = strSub z (stripLo s.cps.contains true z) (stripHi s.cps.contains true z (stripLo s.cps.contains true z)) := stripBy_eq _ _ _ _
  obtain ⟨l1, l2, l3⟩ := lo_facts s.cps.contains z
  obtain ⟨h1, h2, h3, h4⟩ := hi_facts s.cps.contains z _ l1
  generalize hlo : stripLo s.cps.contains true z = lo at *
  generalize hhi : stripHi s.cps.contains true z lo = hi at *
  have hlen : (tl z).length = z.length := len_tl' z
  have e1 : tl (Txt.stripChars z s) = ((tl z).drop lo).take (hi - lo) := by rw [e0]; exact tl_strSub _ _ _
  have el : (Txt.stripChars z s).length = hi - lo := by
    rw [← len_tl', e1, List.length_take, List.length_drop, hlen]
    omega
  have gt : ∀ k c, k < hi - lo → (tl (Txt.stripChars z s))[k]? = some c → c = z.cps.getD (lo + k) 0 := fun k c hk h => by
    rw [e1, List.getElem?_take, if_pos hk, List.getElem?_drop, getD_tl (by omega)] at h
    exact (Option.some.inj h).symm
  constructor
  · intro c hc
    have hk : 0 < hi - lo := by
      have := (List.getElem?_eq_some_iff.mp hc).1
      rw [len_tl', el] at this
      exact this
    have := gt 0 c hk hc
    rw [Nat.add_zero] at this
    rcases l3 with h | h
    · omega
    · intro hm
      rw [this] at hm
      rw [contains_mem, decide_eq_true hm] at h
      cases h
  · intro c hc
    rw [el] at hc
    have hk : 0 < hi - lo := by
      have := (List.getElem?_eq_some_iff.mp hc).1
      rw [len_tl', el] at this
      omega
    have := gt (hi - lo - 1) c (by omega) hc
    rw [show lo + (hi - lo - 1) = hi - 1 by omega] at this
    rcases h4 with h | h
    · omega
    · intro hm
      rw [this] at hm
      rw [contains_mem, decide_eq_true hm] at h
      cases h
theorem strip_idem (z s : Str) : Txt.stripChars (Txt.stripChars z s) s = Txt.stripChars z s := strip_self (strip_ends z s).1 (strip_ends z s).2
end Z
set_option maxHeartbeats 4000000
namespace Z
open PySem PySem.Spec PyProof.Rows L2 TL Evl
/-! ### whole numbers or None -/
def oI : Option Int → V
  | none => .non
  | some i => .int i
theorem oI_non {o : Option Int} : decide (oI o = .non) = o.isNone := by
  cases o with
  | none => rfl
  | some i => exact decide_eq_false fun h => nomatch h
def numO (z : Str) : Option Int := if digB z = true then some ((NumText.digitsVal (tl z) : Nat) : Int) else none
theorem numV_oI (z : Str) : numV z = oI (numO z) := by
  unfold numV numO
  cases h : digB z with
  | true => rfl
  | false => rfl
theorem neg_tl (n : Nat) : tl (PySem.Str.ofString (toString (Int.negSucc n))) = 45 :: numL (n + 1) := by
  have e : toString (Int.negSucc n) = "-" ++ toString (n + 1) := rfl
  rw [e, PySem.Str.ofString_eq_toList]
  show (String.toList ("-" ++ toString (n + 1))).map Char.toNat = _
  rw [String.toList_append, List.map_append]
  have h2 := tl_num (n + 1)
  rw [PySem.Str.ofString_eq_toList] at h2
  have h2 : (String.toList (toString (n + 1))).map Char.toNat = numL (n + 1) := h2
  rw [h2]
  rfl
theorem num_head : ∀ n : Nat, 1 ≤ n → ∃ c r, numL n = c :: r ∧ c ≠ 48 := by
  intro n
  induction n using Nat.strongRecOn with
  | _ n ih =>
    intro h
    by_cases h1 : n < 10
    · exact ⟨48 + n, [], numL_lt h1, by omega⟩
    · obtain ⟨c, r, h2, h3⟩ := ih (n / 10) (by omega) (by omega)
      exact ⟨c, r ++ [48 + n % 10], by rw [numL_step (by omega), h2]; rfl, h3⟩
theorem dig_mem {c : Nat} (h1 : 48 ≤ c) (h2 : c ≤ 57) : c ∈ tl ("0123456789" : Str) := by
  have k : ∀ i < 10, 48 + i ∈ tl ("0123456789" : Str) := by decide +kernel
  have := k (c - 48) (by omega)
  rwa [show 48 + (c - 48) = c by omega] at this
theorem num_dig {n : Nat} (h : n < 10 ^ 6) {z : Str} (hz : tl z = numL n) : digB z = true := by
  have hl : z.length ≤ 6 := by rw [len_tl, hz]; exact numL_len (by decide) h
  have hp : 1 ≤ z.length := by rw [len_tl, hz]; exact List.length_pos_iff.mpr (numL_ne n)
  unfold digB
  rw [decide_eq_true (by omega), decide_eq_true (by omega), Bool.true_and, Bool.true_and, Bool.and_eq_true]
  refine ⟨List.all_eq_true.mpr fun c hc => decide_eq_true ?_, ?_⟩
  · rw [hz] at hc
    have := numL_digits n c hc
    exact dig_mem this.1 this.2
  · rw [Bool.or_eq_true, decide_eq_true_eq, Bool.not_eq_true', decide_eq_false_iff_not]
    by_cases h1 : n < 10
    · left
      rw [len_tl, hz, numL_lt h1]
      rfl
    · right
      obtain ⟨c, r, h2, h3⟩ := num_head n (by omega)
      unfold hd
      rw [hz, h2]
      intro e
      exact h3 (Option.some.inj e)

theorem numO_num {i : Int} (h0 : 0 ≤ i) (h1 : i ≤ 999999) : numO (PySem.Str.ofString (toString i)) = some i := by
  cases i with
  | negSucc n => exact absurd h0 (by omega)
  | ofNat n =>
    have h1 : (n : Int) ≤ 999999 := h1
    have hz : tl (PySem.Str.ofString (toString (Int.ofNat n))) = numL n := tl_num n
    unfold numO
    rw [if_pos (num_dig (by omega) hz), hz, numL_val]
    rfl
theorem num_len {i : Int} (h0 : 0 ≤ i) (h1 : i ≤ 999999) : 1 ≤ (PySem.Str.ofString (toString i)).length ∧ (PySem.Str.ofString (toString i)).length ≤ 6 := by
  cases i with
  | negSucc n => exact absurd h0 (by omega)
  | ofNat n =>
    have h1 : (n : Int) ≤ 999999 := h1
    have hz : tl (PySem.Str.ofString (toString (Int.ofNat n))) = numL n := tl_num n
    rw [len_tl, hz]
    exact ⟨List.length_pos_iff.mpr (numL_ne n), numL_len (by decide) (by omega)⟩
theorem num_digs {i : Int} (h0 : 0 ≤ i) (h1 : i ≤ 999999) : ∀ c ∈ tl (PySem.Str.ofString (toString i)), 48 ≤ c ∧ c ≤ 57 := by
  cases i with
  | negSucc n => exact absurd h0 (by omega)
  | ofNat n =>
    have hz : tl (PySem.Str.ofString (toString (Int.ofNat n))) = numL n := tl_num n
    rw [hz]
    exact numL_digits n
/-! ### the least of numbers -/
def minL : List Int → Option Int
  | [] => none
  | x :: r => match minL r with
    | none => some x
    | some y => some (if y < x then y else x)
theorem minL_some : ∀ {ns : List Int} {m : Int}, m ∈ ns → (∀ y ∈ ns, m ≤ y) → minL ns = some m
  | [], _, h, _ => nomatch h
  | x :: r, m, h, hm => by
    unfold minL
    rcases List.mem_cons.mp h with rfl | h
    · cases e : minL r with
      | none => rfl
      | some y =>
        have hy : y ∈ r := by
          clear hm h
          induction r generalizing y with
          | nil => cases e
          | cons z t ih =>
            unfold minL at e
            cases e2 : minL t with
            | none =>
              rw [e2] at e
              cases e
              exact List.mem_cons_self
            | some w =>
              rw [e2] at e
              have e := Option.some.inj e
              by_cases hw : w < z
              · rw [if_pos hw] at e
                rw [← e]
                exact List.mem_cons_of_mem _ (ih w e2)
              · rw [if_neg hw] at e
                rw [← e]
                exact List.mem_cons_self
        have := hm y (List.mem_cons_of_mem _ hy)
        show some (if y < m then y else m) = some m
        rw [if_neg (by omega)]
    · rw [minL_some h fun y hy => hm y (List.mem_cons_of_mem _ hy)]
      have := hm x List.mem_cons_self
      show some (if m < x then m else x) = some m
      by_cases e : m < x
      · rw [if_pos e]
      · rw [if_neg e, show x = m by omega]
theorem minL_none {ns : List Int} (h : ns = []) : minL ns = none := by rw [h]; rfl
/-! ### directives of elements -/
def sgn (nm : Str) : Str := nm ++ "="
def dirs (nm : Str) (ps : List Str) : List (Option Int) := (ps.filter fun p => Txt.startswith p (sgn nm)).map fun p => numO (Txt.removeprefix p (sgn nm))
def nums (nm : Str) (ps : List Str) : List Int := (dirs nm ps).filterMap id
def leastO (nm : Str) (ps : List Str) : Option Int := minL (nums nm ps)
def noNum (nm p : Str) : Bool := Txt.startswith p (sgn nm) && (numO (Txt.removeprefix p (sgn nm))).isNone
def lifeO (nm : Str) (ps : List Str) : Option Int := if (decide (nm ∈ ps) || ps.any (noNum nm)) = true then some 0 else leastO nm ps
theorem dirs_app (nm : Str) (a b : List Str) : dirs nm (a ++ b) = dirs nm a ++ dirs nm b := by
  unfold dirs
  rw [List.filter_append, List.map_append]
theorem nums_app (nm : Str) (a b : List Str) : nums nm (a ++ b) = nums nm a ++ nums nm b := by
  unfold nums
  rw [dirs_app, List.filterMap_append]
theorem keep_ints (os : List (Option Int)) : (os.filter fun o => !decide (oI o = .non)).map oI = (os.filterMap id).map V.int := by
  induction os with
  | nil => rfl
  | cons o r ih =>
    rw [List.filter_cons, List.filterMap_cons]
    cases o with
    | none => exact ih
    | some i =>
      show (some i :: r.filter _).map oI = _
      rw [List.map_cons, ih]
      rfl
theorem at_oI {xs : List (Option Int)} {i : Nat} {x : V} (h : (xs.map oI)[i]? = some x) : i < xs.length ∧ x = oI (xs.getD i none) := by
  rw [List.getElem?_map] at h
  cases e : xs[i]? with
  | none => rw [e] at h; cases h
  | some a =>
    rw [e] at h
    cases h
    have : xs.getD i none = a := by rw [List.getD_eq_getElem?_getD, e]; rfl
    exact ⟨(List.getElem?_eq_some_iff.mp e).1, by rw [this]⟩
theorem inV_strs (z : Str) : ∀ ns : List Str, inV (.str z) (ns.map V.str) = decide (z ∈ ns)
  | [] => rfl
  | n :: r => by
    have ih := inV_strs z r
    unfold inV at ih ⊢
    rw [List.map_cons, List.any_cons, ih]
    by_cases h : z = n
    · subst h
      rw [decide_eq_true (List.mem_cons_self)]
      simp [eqV]
    · have e1 : eqV (.str n) (.str z) = false := by
        show (n == z) = false
        exact beq_eq_false_iff_ne.mpr fun e => h e.symm
      have e2 : decide (z ∈ n :: r) = decide (z ∈ r) := decide_eq_decide.mpr ⟨fun q => (List.mem_cons.mp q).resolve_left h, List.mem_cons_of_mem _⟩
      rw [e2]
      exact (Bool.or_eq_right_iff_imp.mpr fun q => absurd (e1 ▸ q) Bool.false_ne_true)
theorem flatS : ∀ ns : List Str, (ns.map V.str).all flatV = true
  | [] => rfl
  | _ :: r => by rw [List.map_cons, List.all_cons, flatS r]; rfl
end Z
set_option maxHeartbeats 4000000
namespace Z
open PySem PySem.Spec PyProof.Rows L2 TL Evl PySem.Builtin.Str
/-! ### what a text begins with -/
theorem starts_tl (p s : Str) : Txt.startswith p s = decide ((tl p).take (tl s).length = tl s) := by
  unfold Txt.startswith Builtin.Str.subAt
  have hx : (p.cps.extract 0 (0 + s.length) == s.cps) = decide ((tl p).take s.length = tl s) := by
    have e : (p.cps.extract 0 (0 + s.length)).toList = (tl p).take s.length := by simp [tl]
    by_cases h : (tl p).take s.length = tl s
    · rw [decide_eq_true h]
      exact beq_iff_eq.mpr (Array.toList_inj.mp (e.trans h))
    · rw [decide_eq_false h]
      exact beq_eq_false_iff_ne.mpr fun q => h (e.symm.trans (congrArg Array.toList q))
  rw [hx, ← len_tl s]
  by_cases h : (tl p).take s.length = tl s
  · have := congrArg List.length h
    rw [List.length_take, ← len_tl s, ← len_tl p] at this
    rw [decide_eq_true h, decide_eq_true (show 0 + s.length ≤ p.length by omega)]
    rfl
  · rw [decide_eq_false h, Bool.and_false]
theorem starts_own (a x : Str) : Txt.startswith (a ++ x) a = true := by
  rw [starts_tl, tl_append]
  exact decide_eq_true (List.take_left)
theorem rmp_own (a x : Str) : Txt.removeprefix (a ++ x) a = x := by
  have h := starts_own a x
  unfold Txt.startswith at h
  obtain ⟨h1, h2⟩ := Bool.and_eq_true_iff.mp h
  unfold Txt.removeprefix
  rw [if_pos h2]
  show (if ((a ++ x).length - a.length == (a ++ x).length) = true then (a ++ x) else strSub (a ++ x) a.length (a ++ x).length) = x
  have hl : (a ++ x).length = a.length + x.length := Str.length_append ..
  split
  · rename_i q
    have q := beq_iff_eq.mp q
    have h0 : a.length = 0 ∨ x.length = 0 := by omega
    refine ext_tl ?_
    rw [tl_append]
    have z : tl a = [] := by
      apply List.eq_nil_of_length_eq_zero
      rw [← len_tl]
      rw [hl] at q
      omega
    rw [z]
    rfl
  · refine ext_tl ?_
    rw [tl_strSub, tl_append, hl, len_tl a, List.drop_left, Nat.add_sub_cancel_left, len_tl x, List.take_length]
def apart : List Nat → List Nat → Bool
  | x :: a, y :: b => !decide (x = y) || apart a b
  | _, _ => false
theorem apart_no : ∀ {a b : List Nat} (c : List Nat), apart a b = true → ¬ (a ++ c).take b.length = b
  | [], _, _, h, _ => by cases h
  | _ :: _, [], _, h, _ => by cases h
  | x :: a, y :: b, c, h, e => by
    rw [List.cons_append, List.length_cons, List.take_succ_cons] at e
    obtain ⟨e1, e2⟩ := List.cons.inj e
    have h : (!decide (x = y) || apart a b) = true := h
    rw [decide_eq_true e1] at h
    exact apart_no c h e2
theorem starts_apart {a s : Str} (x : Str) (h : apart (tl a) (tl s) = true) : Txt.startswith (a ++ x) s = false := by
  rw [starts_tl, tl_append]
  exact decide_eq_false (apart_no _ h)
theorem nums_own {nm x : Str} {i : Int} (h : numO x = some i) : nums nm [sgn nm ++ x] = [i] := by
  unfold nums dirs
  rw [List.filter_cons, if_pos (starts_own _ _)]
  show (List.filterMap id [numO (Txt.removeprefix (sgn nm ++ x) (sgn nm))]) = _
  rw [rmp_own, h]
  rfl
theorem nums_apart {nm a : Str} (x : Str) (h : apart (tl a) (tl (sgn nm)) = true) : nums nm [a ++ x] = [] := by
  unfold nums dirs
  rw [List.filter_cons, if_neg (by rw [starts_apart x h]; decide)]
  rfl
/-! ### a list of elements, joined and cut -/
structure GoodE (p : Str) : Prop where
  hd : ∃ c, (tl p)[0]? = some c ∧ c ≠ 32
  last : ∀ c, (tl p)[p.length - 1]? = some c → c ≠ 32
  no : 44 ∉ tl p
theorem sp_tl : tl (" " : Str) = [32] := by decide +kernel
theorem cs_tl : tl (", " : Str) = [44, 32] := by decide +kernel
theorem GoodE.strip {p : Str} (h : GoodE p) : Txt.stripChars p " " = p := by
  obtain ⟨c, h1, h2⟩ := h.hd
  refine strip_self (fun d hd => ?_) (fun d hd => ?_)
  · rw [h1] at hd
    rw [sp_tl, ← Option.some.inj hd]
    simpa using h2
  · rw [sp_tl]
    simpa using h.last d hd
theorem GoodE.ne {p : Str} (h : GoodE p) : p ≠ "" := fun e => by
  obtain ⟨c, h1, _⟩ := h.hd
  rw [e] at h1
  have : tl ("" : Str) = [] := tl_empty
  rw [this] at h1
  cases h1
theorem GoodE.strip1 {p : Str} (h : GoodE p) : Txt.stripChars (S' (32 :: tl p)) " " = p := by
  obtain ⟨c, g1, g2⟩ := h.hd
  have hp : 1 ≤ p.length := by
    rw [len_tl]
    have := (List.getElem?_eq_some_iff.mp g1).1
    omega
  generalize hw : S' (32 :: tl p) = w
  have tw : tl w = 32 :: tl p := by rw [← hw]; rfl
  have lw : w.length = p.length + 1 := by rw [len_tl, tw, List.length_cons, ← len_tl]
  have e0 : Txt.stripChars w " " = strSub w (stripLo (" " : Str).cps.contains true w) (stripHi (" " : Str).cps.contains true w (stripLo (" " : Str).cps.contains true w)) := stripBy_eq _ _ _ _
  obtain ⟨l1, l2, l3⟩ := lo_facts (" " : Str).cps.contains w
  obtain ⟨a1, a2, a3, a4⟩ := hi_facts (" " : Str).cps.contains w _ l1
  generalize hlo : stripLo (" " : Str).cps.contains true w = lo at *
  generalize hhi : stripHi (" " : Str).cps.contains true w lo = hi at *
  have at' : ∀ k, k < w.length → (tl w)[k]? = some (w.cps.getD k 0) := fun k hk => getD_tl hk
  have ct : ∀ k, (" " : Str).cps.contains (w.cps.getD k 0) = decide (w.cps.getD k 0 = 32) := fun k => by
    rw [contains_mem, sp_tl]
    exact decide_eq_decide.mpr (by simp)
  have w0 : w.cps.getD 0 0 = 32 := by
    have := at' 0 (by omega)
    rw [tw] at this
    exact (Option.some.inj this).symm
  have w1 : w.cps.getD 1 0 = c := by
    have := at' 1 (by omega)
    rw [tw, List.getElem?_cons_succ, g1] at this
    exact (Option.some.inj this).symm
  have z1 : lo = 1 := by
    rcases Nat.lt_or_ge lo 1 with h0 | h0
    · have : lo = 0 := by omega
      rcases l3 with q | q
      · omega
      · rw [this, ct, w0] at q
        exact absurd q (by decide)
    · rcases Nat.lt_or_ge 1 lo with h1 | h1
      · have := l2 1 h1
        rw [ct, w1] at this
        exact absurd (of_decide_eq_true this) g2
      · omega
  have z2 : hi = w.length := by
    by_cases q : hi = w.length
    · exact q
    · have k := a3 (w.length - 1) (by omega) (by omega)
      rw [ct] at k
      have k2 := at' (w.length - 1) (by omega)
      rw [of_decide_eq_true k, tw, lw, show p.length + 1 - 1 = (p.length - 1) + 1 by omega, List.getElem?_cons_succ] at k2
      exact absurd rfl (h.last 32 k2)
  refine ext_tl ?_
  rw [e0, tl_strSub, z1, z2, tw, lw]
  show ((tl p).take (p.length + 1 - 1)) = tl p
  rw [Nat.add_sub_cancel, len_tl, List.take_length]
theorem glue_tl (sep : Str) : ∀ (r : List Str) (acc : Array Nat), (r.foldl (fun (acc : Array Nat) (p : Str) => acc ++ sep.cps ++ p.cps) acc).toList = acc.toList ++ r.flatMap fun q => tl sep ++ tl q
  | [], acc => by simp
  | p :: r, acc => by
    rw [List.foldl_cons, glue_tl sep r, List.flatMap_cons]
    simp [tl, List.append_assoc]
theorem join_tl (sep p : Str) (r : List Str) : tl (Txt.join sep (p :: r)) = tl p ++ r.flatMap fun q => tl sep ++ tl q := glue_tl sep r p.cps
theorem splC_app : ∀ (a acc l : List Nat), 44 ∉ a → splC acc (a ++ l) = splC (acc ++ a) l
  | [], acc, l, _ => by rw [List.append_nil]; rfl
  | c :: r, acc, l, h => by
    have hc : c ≠ 44 := fun e => h (by rw [e]; exact List.mem_cons_self)
    show (if c = 44 then acc :: splC [] (r ++ l) else splC (acc ++ [c]) (r ++ l)) = _
    rw [if_neg hc, splC_app r (acc ++ [c]) l fun q => h (List.mem_cons_of_mem _ q), List.append_assoc]
    rfl
theorem splC_joined : ∀ (r : List Str) (acc : List Nat), (∀ q ∈ r, 44 ∉ tl q) → splC acc (r.flatMap fun q => [44, 32] ++ tl q) = acc :: r.map fun q => 32 :: tl q
  | [], acc, _ => rfl
  | q :: r, acc, h => by
    rw [List.flatMap_cons, List.map_cons]
    show (if (44 : Nat) = 44 then acc :: splC [] (32 :: (tl q ++ r.flatMap fun q => [44, 32] ++ tl q)) else _) = _
    rw [if_pos rfl]
    have e := splC_app (32 :: tl q) [] (r.flatMap fun q => [44, 32] ++ tl q) fun z => by
      rcases List.mem_cons.mp z with z | z
      · cases z
      · exact h q List.mem_cons_self z
    rw [List.cons_append] at e
    rw [e, List.nil_append, splC_joined r _ fun x hx => h x (List.mem_cons_of_mem _ hx)]
theorem elems_join {ps : List Str} (h : ∀ p ∈ ps, GoodE p) : elems (Txt.join ", " ps) = ps := by
  cases ps with
  | nil => decide +kernel
  | cons p r =>
    unfold elems stripped
    rw [split_eq, join_tl, cs_tl]
    have hp := h p List.mem_cons_self
    rw [splC_app _ _ _ hp.no, List.nil_append, splC_joined r _ fun q hq => (h q (List.mem_cons_of_mem _ hq)).no]
    have e1 : (((tl p :: r.map fun q => 32 :: tl q).map S').map fun q => Txt.stripChars q " ") = p :: r := by
      rw [List.map_cons, List.map_cons, S'_tl, hp.strip, List.map_map, List.map_map]
      congr 1
      refine (List.map_congr_left fun q hq => ?_).trans (List.map_id r)
      exact (h q (List.mem_cons_of_mem _ hq)).strip1
    rw [e1]
    exact List.filter_eq_self.mpr fun q hq => by rw [decide_eq_false (h q hq).ne]; rfl
/-- texts of letters, digits, signs other than the space and the comma -/
theorem goodE_of {p : Str} (h1 : 1 ≤ p.length) (h : ∀ c ∈ tl p, c ≠ 32 ∧ c ≠ 44) : GoodE p := by
  rw [len_tl] at h1
  refine ⟨?_, fun c hc => (h c (List.mem_of_getElem? hc)).1, fun q => (h 44 q).2 rfl⟩
  cases e : tl p with
  | nil => rw [e] at h1; exact absurd h1 (by decide)
  | cons c r => exact ⟨c, rfl, (h c (by rw [e]; exact List.mem_cons_self)).1⟩
def goodB (p : Str) : Bool := decide (1 ≤ p.length) && (tl p).all fun c => !decide (c = 32) && !decide (c = 44)
theorem goodE_b {p : Str} (h : goodB p = true) : GoodE p := by
  unfold goodB at h
  rw [Bool.and_eq_true, decide_eq_true_eq, List.all_eq_true] at h
  exact goodE_of h.1 fun c hc => by
    have := h.2 c hc
    simp only [Bool.and_eq_true, Bool.not_eq_true', decide_eq_false_iff_not] at this
    exact this
theorem goodE_num {a : Str} {i : Int} (h : goodB a = true) (h0 : 0 ≤ i) (h1 : i ≤ 999999) : GoodE (a ++ PySem.Str.ofString (toString i)) := by
  unfold goodB at h
  rw [Bool.and_eq_true, decide_eq_true_eq, List.all_eq_true] at h
  refine goodE_of (by rw [Str.length_append]; omega) fun c hc => ?_
  rw [tl_append] at hc
  rcases List.mem_append.mp hc with hc | hc
  · have := h.2 c hc
    simp only [Bool.and_eq_true, Bool.not_eq_true', decide_eq_false_iff_not] at this
    exact this
  · have := num_digs h0 h1 c hc
    omega
end Z
set_option maxHeartbeats 4000000
namespace Z
open PySem PySem.Spec PyProof.Rows L2 TL Evl
section
variable {σ : L2.St} {H : Hp} {ta tr : TA} {te tb tv : TE} {D : Ends} {C : Addr} {sp : Sp} {dvs xs vs zs : List V} {E : XK} {Q : VK} {x y z v : V} {t tz : TS} {g : TG} {K : PySem.W.Frag} {f : Str} {i : Nat} {R : List V → Hp → Prop}
theorem q_in (h : t { D with nx := tz D } σ H) : tSeq t tz D σ H := h
theorem g_asg (h : te σ H fun v H1 => g v σ H1 D.nx) : tAsg te g D σ H := h
theorem g_ret (h : te σ H fun v H1 => D.rt v H1) : tRet te D σ H := h
theorem g_fld (h : tv σ H fun y H1 => sFld K tb (tC y) f D σ H1) : sFld K tb tv f D σ H := h
theorem g_drop (h : te σ H fun _ H1 => D.nx σ H1) : tDrop te D σ H := h
theorem q_asgR (h : te σ H fun v H1 => tz D (σ.set i (some v)) H1) : tSeq (tAsg te (gName i)) tz D σ H := h
theorem s_asgR (h : te σ H fun v H1 => D.nx (σ.set i (some v)) H1) : tAsg te (gName i) D σ H := h
theorem rd_mk (h : ta σ H fun vs H1 => ∀ x dx, H1 x = none → H1 dx = none → dx ≠ x → sp (.ref x :: (vs ++ dvs)) (upd (upd H1 dx (.own x)) x (.ins C dx [])) (fun v H2 => v = .non ∧ Q (.ref x) H2) E) : tMake C sp dvs E ta σ H Q := h
theorem rd_tup (h : ta σ H fun vs H1 => vs.length ≤ sizeLine ∧ ∀ p, H1 p = none → Q (.ref p) (upd H1 p (.tup vs))) : tTup ta σ H Q := h
theorem rd_lst (h : ta σ H fun vs H1 => vs.length ≤ sizeLine ∧ ∀ p, H1 p = none → Q (.ref p) (upd H1 p (.lst vs))) : tLst ta σ H Q := h
theorem rd_consE (h : Ev te σ H x) (k : ∀ H1, Ex H H1 → tr σ H1 fun ys H2 => R (x :: ys) H2) : tCons te tr σ H R := h H (Ex.refl H) _ k
theorem rd_consR (h : te σ H fun x H1 => tr σ H1 fun ys H2 => R (x :: ys) H2) : tCons te tr σ H R := h
theorem rd_consLs (h : EvL te σ H xs) (k : ∀ p H1, H p = none → Ex H H1 → H1 p = some (.lst xs) → tr σ H1 fun ys H2 => R (.ref p :: ys) H2) : tCons te tr σ H R := h H (Ex.refl H) _ k
theorem rd_nil (h : R [] H) : tNil σ H R := h
theorem rd_arg2 (h : te σ H fun x H1 => tb σ H1 fun y H2 => sp [x, y] H2 Q E) : tCall sp [] E (tCons te (tCons tb tNil)) σ H Q := h
/-- a + b of lists, one new, one new -/
theorem el_catLL (ha : EvL te σ H xs) (hb : EvL tb σ H zs) (hz : xs.length + zs.length ≤ 100000) : EvL (tOp rCat te tb) σ H (xs ++ zs) := fun H1 e Q q =>
  ha H1 e _ fun a H2 na e2 h2 => hb H2 (e.trans e2) _ fun b H3 nb e3 h3 => ⟨a, b, xs, zs, rfl, rfl, e3 _ _ h2, h3, sz_of hz, fun p np => q p _ (fresh_back (e2.trans e3) np) ((e2.trans e3).trans (Ex.new np)) upd_same⟩
theorem el_catEL {l : Addr} (ha : Ev te σ H (.ref l)) (hb : EvL tb σ H zs) (hl : H l = some (.lst xs)) (hz : xs.length + zs.length ≤ 100000) : EvL (tOp rCat te tb) σ H (xs ++ zs) := fun H1 e Q q =>
  ha H1 e _ fun H2 e2 => hb H2 (e.trans e2) _ fun b H3 nb e3 h3 => ⟨l, b, xs, zs, rfl, rfl, ((e.trans e2).trans e3) _ _ hl, h3, sz_of hz, fun p np => q p _ (fresh_back (e2.trans e3) np) ((e2.trans e3).trans (Ex.new np)) upd_same⟩
theorem el_slN {tlo thi : TO} {lo hi : Option Int} (h : EvL te σ H xs) (h1 : EvO tlo σ H lo) (h2 : EvO thi σ H hi) : EvL (tSl (rSlL K) te tlo thi) σ H (cutV xs lo hi) := fun H1 e Q q =>
  h H1 e _ fun a H2 na e2 ha => h1 H2 (e.trans e2) _ fun H3 e3 => h2 H3 ((e.trans e2).trans e3) _ fun H4 e4 => ⟨a, xs, rfl, sq_of ((e3.trans e4) _ _ ha), fun p np => q p _ (fresh_back ((e2.trans e3).trans e4) np) (((e2.trans e3).trans e4).trans (Ex.new np)) upd_same⟩
/-- sum(xs), xs new -/
theorem ev_sumN {ns : List Int} (h : EvL te σ H (ns.map V.int)) : Ev (tCB (rSum K) (tCons te tNil)) σ H (.int ns.sum) := fun H1 e Q q =>
  h H1 e _ fun a H2 na e2 ha => ⟨a, ns, rfl, sq_of ha, q H2 e2⟩
def EvX (te : TE) (σ : L2.St) (H : Hp) (P : V → Hp → Prop) : Prop := ∀ H1, Ex H H1 → ∀ Q : VK, (∀ v H2, Ex H1 H2 → P v H2 → Q v H2) → te σ H1 Q
end
def absI (i : Int) : Int := if i < 0 then -i else i
def rAbs : List V → Hp → VK → Prop := fun xs H Q => ∃ i, xs = [.int i] ∧ Q (.int (if i < 0 then -i else i)) H
theorem cz_abs {X : Cx} : CallR X (.builtin "abs") rAbs := call_abs
theorem ev_abs {te : TE} {σ : L2.St} {H : Hp} {i : Int} (h : Ev te σ H (.int i)) : Ev (tCB rAbs (tCons te tNil)) σ H (.int (absI i)) := fun H1 e Q q => h H1 e _ fun H2 e2 => ⟨i, rfl, q H2 e2⟩
theorem cutV_take {xs : List V} {n : Nat} : cutV xs none (some (n : Int)) = xs.take n := by
  unfold cutV
  rw [HT.sIx_none, List.drop_zero, Nat.sub_zero, HT.sIx_nat]
  rcases Nat.le_total n xs.length with h | h
  · rw [Nat.min_eq_left h]
  · rw [Nat.min_eq_right h, List.take_length, List.take_of_length_le h]
theorem at_intE {xs : List Int} {i : Nat} {x : V} (h : (xs.map V.int)[i]? = some x) : i < xs.length ∧ x = .int (xs.getD i 0) := by
  rw [List.getElem?_map] at h
  cases e : xs[i]? with
  | none => rw [e] at h; cases h
  | some a =>
    rw [e] at h
    cases h
    have : xs.getD i 0 = a := by rw [List.getD_eq_getElem?_getD, e]; rfl
    exact ⟨(List.getElem?_eq_some_iff.mp e).1, by rw [this]⟩
theorem rel_cons {α : Type} {R : V → α → Prop} {x : V} {o : α} {xs : List V} {os : List α} (r : R x o) (h : Rel R xs os) : Rel R (x :: xs) (o :: os) := ⟨by rw [List.length_cons, List.length_cons, h.1], fun i y u a b => by
  cases i with
  | zero =>
    cases a
    cases b
    exact r
  | succ i => exact h.2 i y u a b⟩
end Z
set_option maxHeartbeats 4000000
namespace Z
open PySem PySem.Spec PyProof.Rows L2 TL Evl
theorem putF_new {f : Str} {v : V} : ∀ {gs : List (Str × V)}, gs.lookup f = none → putF f v gs = gs ++ [(f, v)]
  | [], _ => rfl
  | (g, x) :: r, h => by
    have hg : ¬ g = f := fun e => by
      rw [e, List.lookup_cons, beq_self_eq_true] at h
      cases h
    have hr : r.lookup f = none := by
      rw [List.lookup_cons] at h
      have : (f == g) = false := beq_eq_false_iff_ne.mpr fun e => hg e.symm
      rw [this] at h
      exact h
    show (if g = f then (g, v) :: r else (g, x) :: putF f v r) = _
    rw [if_neg hg, putF_new hr]
    rfl
/-- an own object that is being made: what stood before stands, and J holds of the rest -/
structure OwnI (C a dx : Addr) (J : Hp → Prop) (gs : List (Str × V)) (H0 H : Hp) : Prop where
  kp : Keep a H0 H
  ha : H a = some (.ins C dx gs)
  j : J H
/-- J speaks of what making the object leaves alone -/
structure Stay (C a dx : Addr) (J : Hp → Prop) : Prop where
  ex : ∀ {H H' : Hp}, J H → Ex H H' → J H'
  up : ∀ {H : Hp} {gs gs' : List (Str × V)}, J H → H a = some (.ins C dx gs) → J (upd H a (.ins C dx gs'))
theorem OwnI.e {C a dx : Addr} {J : Hp → Prop} {gs : List (Str × V)} {H0 H H' : Hp} (S : Stay C a dx J) (h : OwnI C a dx J gs H0 H) (e : Ex H H') : OwnI C a dx J gs H0 H' := ⟨h.kp.trans (Keep.of e), e _ _ h.ha, S.ex h.j e⟩
theorem OwnI.put {C a dx : Addr} {J : Hp → Prop} {gs gs' : List (Str × V)} {H0 H : Hp} (S : Stay C a dx J) (h : OwnI C a dx J gs H0 H) : OwnI C a dx J gs' H0 (upd H a (.ins C dx gs')) := ⟨h.kp.upd, upd_same, S.up h.j h.ha⟩
section
variable {K : PySem.W.Frag} {C a dx : Addr} {J : Hp → Prop} {gs fs : List (Str × V)} {H0 H : Hp} {te tb : TE} {σ : L2.St} {v : V} {f : Str} {D : Ends} {tz : TS} {o : Option Int}
theorem q_fldS (S : Stay C a dx J) (I : OwnI C a dx J gs H0 H) (c : Cls K C) (n : NoAttr K C f) (hs : σ[0]? = some (some (.ref a))) (h : Ev te σ H v) (k : ∀ H', OwnI C a dx J (gs ++ [(f, v)]) H0 H' → tz D σ H') (hf : gs.lookup f = none := by rfl) (hl : gs.length < 1000 := by simp) : tSeq (sFld K (tVar 0) te f) tz D σ H :=
  h H (Ex.refl H) _ fun H1 e1 => ⟨.ref a, hs, a, C, dx, gs, rfl, (I.e S e1).ha, c, n, hl, k _ (by rw [putF_new hf]; exact (I.e S e1).put S)⟩
theorem s_fldS (S : Stay C a dx J) (I : OwnI C a dx J gs H0 H) (c : Cls K C) (n : NoAttr K C f) (hs : σ[0]? = some (some (.ref a))) (h : Ev te σ H v) (k : ∀ H', OwnI C a dx J (gs ++ [(f, v)]) H0 H' → D.nx σ H') (hf : gs.lookup f = none := by rfl) (hl : gs.length < 1000 := by simp) : sFld K (tVar 0) te f D σ H :=
  h H (Ex.refl H) _ fun H1 e1 => ⟨.ref a, hs, a, C, dx, gs, rfl, (I.e S e1).ha, c, n, hl, k _ (by rw [putF_new hf]; exact (I.e S e1).put S)⟩
theorem ev_fldO (c : Cls K C) (n : NoAttr K C f) (h : Ev te σ H (.ref a)) (ha : H a = some (.ins C dx fs)) (hl : fs.lookup f = some v) : Ev (tFld K te f) σ H v := fun H1 e Q q => h H1 e _ fun H2 e2 => ⟨a, C, dx, fs, v, rfl, e2 _ _ (e _ _ ha), c, n, hl, q H2 e2⟩
/-- x or 0, x an int or None -/
theorem ev_or0 (h : Ev te σ H (oI o)) : Ev (tOrT K te (tC (.int 0))) σ H (.int (o.getD 0)) := fun H1 e Q q => h H1 e _ fun H2 e2 => by
  cases o with
  | none => exact ⟨false, rfl, iteF (q H2 e2)⟩
  | some i =>
    by_cases hi : i = 0
    · subst hi
      exact ⟨false, rfl, iteF (q H2 e2)⟩
    · exact ⟨true, (bne_iff_ne.mpr hi).symm, iteT (q H2 e2)⟩
/-- max of several ints -/
def maxL : List Int → Int
  | [] => 0
  | [x] => x
  | x :: r => if maxL r > x then maxL r else x
theorem maxL_is : ∀ {ns : List Int} {m : Int}, m ∈ ns → (∀ y ∈ ns, y ≤ m) → maxL ns = m
  | [x], m, h, _ => (List.mem_singleton.mp h).symm
  | x :: y :: r, m, h, hm => by
    show (if maxL (y :: r) > x then maxL (y :: r) else x) = m
    have hx := hm x List.mem_cons_self
    rcases List.mem_cons.mp h with rfl | h
    · have h2 : maxL (y :: r) ≤ m := maxL_le fun z hz => hm z (List.mem_cons_of_mem _ hz)
      rw [if_neg (by omega)]
    · rw [maxL_is h fun z hz => hm z (List.mem_cons_of_mem _ hz)]
      by_cases e : m > x
      · rw [if_pos e]
      · rw [if_neg e]
        omega
where
  maxL_le : ∀ {ns : List Int} {x : Int} {m : Int}, (∀ z ∈ x :: ns, z ≤ m) → maxL (x :: ns) ≤ m
  | [], x, m, h => h x List.mem_cons_self
  | y :: r, x, m, h => by
    show (if maxL (y :: r) > x then maxL (y :: r) else x) ≤ m
    have h1 := h x List.mem_cons_self
    have h2 : maxL (y :: r) ≤ m := maxL_le fun z hz => h z (List.mem_cons_of_mem _ hz)
    by_cases e : maxL (y :: r) > x
    · rw [if_pos e]; exact h2
    · rw [if_neg e]; exact h1
theorem ev_maxs {ta : TA} {ns : List Int} (h : EvA ta σ H (ns.map V.int)) (h2 : 2 ≤ ns.length) (h3 : ns.length ≤ 1000) : Ev (tCB ZX.rMaxs ta) σ H (.int (maxL ns)) := fun H1 e Q q => h H1 e _ fun H2 e2 => ⟨ns, rfl, h2, h3, fun m a b => by
  have g := q H2 e2
  rw [maxL_is a b] at g
  exact g⟩
end
end Z
set_option maxHeartbeats 4000000
namespace ZX
open PySem PySem.Spec PyProof.Rows L2 He
/-! ### a def with keyword-only defaults, off the head -/
theorem DefA.funK {K : PySem.W.Frag} {d : DefA} {kws : List (Str × V)} (e : fnC K (d.at_.ad K) = d.val) (c : d.ok K = true) (hc : d.clo = []) (hk : kwdB K (kwOf K (d.at_.ad K)) kws = true) : ∃ fd, FunD K d.name d.qual d.params d.body d.scope (d.dvs K) kws (d.at_.ad K) fd := by
  obtain ⟨kp, oc, od, osl, fd, q, k1, k2, h1, h2, h3, h4, h5, h6, h7, h8⟩ := d.parts e c
  have hk2 : kwdB K fd.kwdefaults kws = true := by
    have : kwOf K (d.at_.ad K) = fd.kwdefaults := by unfold kwOf; rw [q]
    rw [← this]
    exact hk
  obtain ⟨n1, n2, n3, n4, n5, n6, n7, n8, n9, n10, n11, n12, n13, n14, n15⟩ := fd
  dsimp only at h1 h2 h3 h4 h5 h6 h7 h8 k1 k2 hk2
  rw [hc] at h7
  have h7 := List.map_eq_nil_iff.mp h7
  subst h1 h2 h3 h4 h5 h6 h7 h8
  exact ⟨_, ⟨oc, od, n8, n9, n10, n11, n12, n13, n14, osl, rfl, q, k1, k2, kwdB_ok hk2⟩, kp⟩
end ZX
set_option maxHeartbeats 4000000
namespace Z
open PySem PySem.Spec PyProof.Rows L2 TL Evl
/-! ### for k in range(e), e with what it does -/
def ForQ (tu tz : TS) (j : Nat) (D : Ends) (σ : L2.St) : VK := fun v H1 => ∃ i : Int, [v] = [V.int i] ∧ -(2 ^ 62) ≤ i ∧ i < 2 ^ 62 ∧ ∃ W : Nat → Nat → L2.St → Hp → Prop, (∃ m, W 0 m σ H1) ∧ ∀ k m σ H, W k m σ H →
  ((Itr 0 i.toNat).stop k H ∧ tz D σ H) ∨ ((Itr 0 i.toNat).go k H ∧ ∃ N : L2.St → Hp → Prop, (∀ σ' H', N σ' H' → ∃ m', m' < m ∧ W (k + 1) m' σ' H') ∧ ∀ x H', (Itr 0 i.toNat).yld k H x H' → gName j x σ H' fun σ2 H2 => tu { D with nx := N, ct := N, bk := tz D } σ2 H2)
theorem q_forQ {te : TE} {tu tz : TS} {j : Nat} {D : Ends} {σ : L2.St} {H : Hp} (h : te σ H (ForQ tu tz j D σ)) : tSeq (tFor (iRng1 (tCons te tNil)) (gName j) tu) tz D σ H := h
theorem forQ_of {tu tz : TS} {j : Nat} {D : Ends} {σ : L2.St} {H : Hp} {n : Int} (hn : 0 ≤ n ∧ n ≤ 100000) (Pv : Nat → L2.St → Hp → Prop) (h0 : Pv 0 σ H)
    (hs : ∀ (i : Nat) σ' H', (i : Int) < n → Pv i σ' H' → tu { D with nx := Pv (i + 1), ct := Pv (i + 1), bk := tz D } (σ'.set j (some (.int (i : Int)))) H') (hd : ∀ σ' H', Pv n.toNat σ' H' → tz D σ' H') : ForQ tu tz j D σ (.int n) H :=
  ⟨n, rfl, by omega, by omega, for_range (D := { D with nx := tz D }) (lo := 0) (n := n.toNat) Pv h0 (fun i σ' H' hi p => by
    have e0 : (0 : Int) + (i : Int) = (i : Int) := Int.zero_add _
    show tu { D with nx := Pv (i + 1), ct := Pv (i + 1), bk := tz D } (σ'.set j (some (.int ((0 : Int) + (i : Int))))) H'
    rw [e0]
    exact hs i σ' H' (by omega) p) hd⟩
/-! ### pieces of a directives' text -/
theorem opt_swap {a b : List Int} {o : Option Int} (h : a ++ b = o.toList) : b ++ a = o.toList := by
  cases o with
  | none =>
    have h : a ++ b = [] := h
    obtain ⟨rfl, rfl⟩ := List.append_eq_nil_iff.mp h
    rfl
  | some i =>
    have h : a ++ b = [i] := h
    cases a with
    | nil => rw [List.append_nil]; exact h
    | cons x r =>
      rw [List.cons_append] at h
      obtain ⟨rfl, h2⟩ := List.cons.inj h
      obtain ⟨rfl, rfl⟩ := List.append_eq_nil_iff.mp h2
      rfl
theorem nums_rot {nm : Str} {ps : List Str} {o : Option Int} (t : Nat) (h : nums nm ps = o.toList) : nums nm (ps.drop t ++ ps.take t) = o.toList := by
  rw [nums_app]
  refine opt_swap ?_
  rw [← nums_app, List.take_append_drop]
  exact h
theorem mem_rot {x : Str} {ps : List Str} (t : Nat) : (x ∈ ps.drop t ++ ps.take t) ↔ x ∈ ps := by
  rw [List.mem_append]
  constructor
  · rintro (h | h)
    · exact List.mem_of_mem_drop h
    · exact List.mem_of_mem_take h
  · intro h
    rw [← List.take_append_drop t ps, List.mem_append] at h
    exact h.symm
theorem minL_opt (o : Option Int) : minL o.toList = o := by cases o <;> rfl
theorem joined_len {ps : List Str} {k : Nat} (h : ∀ p ∈ ps, p.length ≤ k) : (Txt.join ", " ps).length ≤ ps.length * (k + 2) := by
  cases ps with
  | nil => exact Nat.zero_le _
  | cons p r =>
    rw [len_tl, join_tl, cs_tl, List.length_append, ← len_tl]
    have hp := h p List.mem_cons_self
    have hr : ∀ r : List Str, (∀ q ∈ r, q.length ≤ k) → (r.flatMap fun q => [44, 32] ++ tl q).length ≤ r.length * (k + 2) := by
      intro r
      induction r with
      | nil => intro _; exact Nat.zero_le _
      | cons q t ih =>
        intro hq
        rw [List.flatMap_cons, List.length_append, List.length_append, ← len_tl, show (q :: t).length * (k + 2) = t.length * (k + 2) + (k + 2) from Nat.succ_mul _ _]
        have h1 := hq q List.mem_cons_self
        have h2 := ih fun z hz => hq z (List.mem_cons_of_mem _ hz)
        show 2 + q.length + _ ≤ _
        omega
    have h3 := hr r fun q hq => h q (List.mem_cons_of_mem _ hq)
    rw [show (p :: r).length * (k + 2) = r.length * (k + 2) + (k + 2) from Nat.succ_mul _ _]
    omega
theorem cutV_drop {xs : List V} {n : Nat} : cutV xs (some (n : Int)) none = xs.drop n := by
  unfold cutV
  rw [HT.sIx_none, HT.sIx_nat]
  rcases Nat.le_total n xs.length with h | h
  · rw [Nat.min_eq_left h, List.take_of_length_le (by rw [List.length_drop]; exact Nat.le_refl _)]
  · rw [Nat.min_eq_right h, List.drop_eq_nil_of_le h, List.drop_length, List.take_nil]
theorem join_nil : Txt.join ", " [] = ("" : Str) := by decide +kernel
end Z
set_option maxHeartbeats 4000000
namespace Z
open PySem PySem.Spec PyProof.Rows L2 TL Evl NdefX
/-! ### f-strings, messages' fields (no row) -/
def EvJ (σ : L2.St) (H : Hp) : List TE → List Str → Prop
  | [], [] => True
  | t :: ts, z :: zs => Ev t σ H (.str z) ∧ EvJ σ H ts zs
  | _, _ => False
theorem ej_nil {σ : L2.St} {H : Hp} : EvJ σ H [] [] := trivial
theorem ej_cons {σ : L2.St} {H : Hp} {t : TE} {ts : List TE} {z : Str} {zs : List Str} (h : Ev t σ H (.str z)) (r : EvJ σ H ts zs) : EvJ σ H (t :: ts) (z :: zs) := ⟨h, r⟩
theorem tjs_run {σ : L2.St} {H : Hp} : ∀ (ts : List TE) (zs : List Str) (acc : Str) (H1 : Hp) (Q : Str → Hp → Prop), EvJ σ H ts zs → Ex H H1 → acc.length + (zs.map (·.length)).sum ≤ 200000 → (∀ H2, Ex H1 H2 → Q (zs.foldl (· ++ ·) acc) H2) → tJs ts acc σ H1 Q
  | [], [], acc, H1, Q, _, _, _, q => q H1 (Ex.refl H1)
  | [], z :: zs, acc, H1, Q, h, _, _, q => h.elim
  | t :: ts, [], acc, H1, Q, h, _, _, q => h.elim
  | t :: ts, z :: zs, acc, H1, Q, h, e, hz, q => by
    rw [List.map_cons, List.sum_cons] at hz
    refine h.1 H1 e _ fun H2 e2 => ⟨z, rfl, Nat.le_trans (show (acc ++ z).length ≤ 200000 by rw [Str.length_append]; omega) (by decide), ?_⟩
    exact tjs_run ts zs (acc ++ z) H2 Q h.2 (e.trans e2) (by rw [Str.length_append]; omega) fun H3 e3 => q H3 (e2.trans e3)
theorem ev_joined {σ : L2.St} {H : Hp} {ts : List TE} {zs : List Str} {x : Str} (h : EvJ σ H ts zs) (hz : (zs.map (·.length)).sum ≤ 200000) (hx : zs.foldl (· ++ ·) Str.empty = x) : Ev (fun σ H Q => tJs ts Str.empty σ H fun out H1 => Q (.str out) H1) σ H (.str x) := fun H1 e Q q => by
  refine tjs_run ts zs Str.empty H1 (fun out H1 => Q (.str out) H1) h e ?_ ?_
  · show 0 + _ ≤ _
    rw [Nat.zero_add]
    exact hz
  · rw [hx]
    exact q
theorem rd_joined {σ : L2.St} {H : Hp} {ts : List TE} {Q : Str → Hp → Prop} (zs : List Str) (h : EvJ σ H ts zs) (hz : (zs.map (·.length)).sum ≤ 200000) (k : ∀ H1, Ex H H1 → Q (zs.foldl (· ++ ·) Str.empty) H1) : tJs ts Str.empty σ H Q :=
  tjs_run ts zs Str.empty H Q h (Ex.refl H) (by
    show 0 + _ ≤ _
    rw [Nat.zero_add]
    exact hz) k
theorem ev_fmt {σ : L2.St} {H : Hp} {te : TE} {z : Str} (h : Ev te σ H (.str z)) (hz : z.length ≤ 100000) : Ev (tFmt te) σ H (.str z) := fun H1 e Q q => h H1 e _ fun H2 e2 => .inl ⟨z, rfl, sz_of hz, q H2 e2⟩
abbrev Fs := List (Str × Str)
def PfAt (H : Hp) (v : V) (x : Str × Str) : Prop := TupAt H v [.str x.1, .str x.2]
def FsAt (H : Hp) (q : Addr) (fs : Fs) : Prop := ∃ xs, H q = some (.lst xs) ∧ Rel (PfAt H) xs fs
theorem FsAt.ex {H H' : Hp} {q : Addr} {fs : Fs} (h : FsAt H q fs) (e : Ex H H') : FsAt H' q fs := by
  obtain ⟨xs, h1, h2⟩ := h
  exact ⟨xs, e _ _ h1, h2.mono fun _ _ m => TupAt.ex m e⟩
theorem FsAt.keep {p q : Addr} {H H' : Hp} {fs : Fs} (h : FsAt H q fs) (k : Keep p H H') (hp : ∃ xs, H p = some (.lst xs)) (n : q ≠ p) : FsAt H' q fs := by
  obtain ⟨xs, h1, h2⟩ := h
  exact ⟨xs, k _ _ n h1, h2.mono fun _ _ m => TupAt.keep m k hp⟩
def fieldB (x : Str × Str) : Bool := nameB x.1 && valueB x.2
def lenF (fs : Fs) : Prop := ∀ x ∈ fs, x.1.length ≤ 100000 ∧ x.2.length ≤ 100000
def areB (fs : Fs) : Bool := decide (fs.length ≤ 40) && fs.all fieldB
def bodyB (z : Str) : Bool := decide ((z.length : Int) ≤ 100000) && linesB z
section
variable {K : PySem.W.Frag} {σ : L2.St} {H : Hp} {to te : TE} {B C : Addr} {f z : Str} {v : V} {u mc : Value} {a : Str}
theorem ev_cval (h : Ev te σ H (.ref C)) (r : ClX.CRead K C mc) (k : ClX.CVal K C mc f v u) : Ev (ClX.tCVal K te f) σ H v := fun H1 e Q q => h H1 e _ fun H2 e2 => ⟨C, mc, v, u, rfl, r, k, q H2 e2⟩
end
section
variable {K : PySem.W.Frag} {σ : L2.St} {H : Hp} {to te : TE} {B C : Addr} {f z : Str} {v : V} {u mc : Value} {a : Str}
theorem ev_replC (h : Ev to σ H (.str a)) (hz : a.length ≤ 100000) : Ev (CwR.tReplC to "\n" "") σ H (.str (Txt.replace a "\n" "")) := fun H1 e Q q => h H1 e _ fun H2 e2 => ⟨a, rfl, by
  have : ("" : Str).length = 0 := by decide +kernel
  rw [this]
  omega, q H2 e2⟩
end
theorem repl_len (z : Str) : (Txt.replace z "\n" "").length ≤ z.length := by
  rw [← len_tl', ← len_tl', replace_nl]
  exact List.length_filter_le _ _
theorem rel_bl {ys : List V} {bs : List Bool} (h : Rel (fun v b => v = V.bl b) ys bs) : ys = bs.map V.bl := by
  refine List.ext_getElem (by rw [h.1, List.length_map]) fun i h1 h2 => ?_
  rw [List.getElem_map]
  rw [List.length_map] at h2
  exact h.2 i _ _ (List.getElem?_eq_getElem h1) (List.getElem?_eq_getElem h2)
/-- all([.. for .. in fields]) -/
theorem all_ev {K : PySem.W.Frag} {σ : L2.St} {H : Hp} {te tl : TE} {g : TG} {l : Addr} {vs : List V} {os : Fs} {gB : Str × Str → Bool} {ws : List Nat} (hv : Ev tl σ H (.ref l)) (hl : H l = some (.lst vs)) (hrel : Rel (PfAt H) vs os) (hz : os.length ≤ 40000)
    (hs : ∀ (x : V) (o : Str × Str) H1, o ∈ os → Ex H H1 → PfAt H1 x o → ∀ (k : VK), (∀ H2, Ex H1 H2 → k (.bl (gB o)) H2) → g x (wipe σ ws) H1 fun σ2 H2 => wipe σ2 ws = wipe σ ws ∧ te σ2 H2 k) : Ev (tCB (L2.rAll K) (tCons (tLc (iList K tl) g tYes te ws) tNil)) σ H (.bl (os.all gB)) := fun H1 e Q q =>
  hv H1 e _ fun H2 e2 => ⟨l, rfl, ⟨vs, sq_of ((e.trans e2) _ _ hl)⟩, fun D hD => lc_rel (α := Bool) (fun i => (os.take i).map gB) (fun _ v b => v = .bl b) (fun _ _ _ _ _ _ h => h) (sq_of ((e.trans e2) _ _ hl)) hD rfl (by rw [hrel.1]; omega) (fun i x H3 hi e3 k k0 hk _ => by
    obtain ⟨o, ho, hxo⟩ := hrel.get hi
    have e03 := (e.trans e2).trans e3
    refine hs x o H3 (List.mem_of_getElem? ho) e03 (TupAt.ex hxo e03) k fun H4 e4 => hk _ H4 _ e4 ?_ rfl
    show (os.take (i + 1)).map gB = _
    rw [List.take_add_one, ho, List.map_append]
    rfl) (fun H3 ys e3 hy hr => by
    rw [hrel.1, List.take_length] at hr
    have ey := rel_bl hr
    refine ⟨D, os.map gB, rfl, sq_of (by rw [hy, ey]), ?_⟩
    rw [List.all_map]
    exact q H3 (e2.trans e3))⟩
theorem areB_len {fs : Fs} (h : areB fs = true) : lenF fs ∧ fs.length ≤ 40 := by
  unfold areB at h
  rw [Bool.and_eq_true, decide_eq_true_eq, List.all_eq_true] at h
  refine ⟨fun x hx => ?_, h.1⟩
  obtain ⟨h1, h2⟩ := Bool.and_eq_true_iff.mp (h.2 x hx)
  constructor
  · unfold nameB wordB at h1
    simp only [Bool.and_eq_true, decide_eq_true_eq] at h1
    omega
  · unfold valueB at h2
    simp only [Bool.and_eq_true, decide_eq_true_eq] at h2
    omega
theorem FsAt.updI {H : Hp} {q a C dx : Addr} {fs : Fs} {gs : List (Str × V)} {o : HO} (h : FsAt H q fs) (ha : H a = some (.ins C dx gs)) : FsAt (upd H a o) q fs := by
  obtain ⟨xs, h1, h2⟩ := h
  refine ⟨xs, ?_, h2.mono fun _ x m => ?_⟩
  · rw [upd_ne (fun e => by rw [e, ha] at h1; cases h1)]
    exact h1
  · obtain ⟨t, rfl, ht⟩ := m
    refine ⟨t, rfl, ?_⟩
    rw [upd_ne (fun e => by rw [e, ha] at ht; cases ht)]
    exact ht
/-- [(a, b) for a, b in fields] -/
theorem fields_new {K : PySem.W.Frag} {σ : L2.St} {H : Hp} {i j1 j2 : Nat} {l : Addr} {fs : Fs} {Q : VK} (hi : σ[i]? = some (some (.ref l))) (hl : FsAt H l fs) (hz : fs.length ≤ 40000) (hw : ∀ x y, wipe (((wipe σ [j1, j2]).set j1 (some x)).set j2 (some y)) [j1, j2] = wipe σ [j1, j2])
    (h1 : ∀ x y, (((wipe σ [j1, j2]).set j1 (some x)).set j2 (some y))[j1]? = some (some x)) (h2 : ∀ x y, (((wipe σ [j1, j2]).set j1 (some x)).set j2 (some y))[j2]? = some (some y))
    (k : ∀ D H', H D = none → Ex H H' → FsAt H' D fs → Q (.ref D) H') : tLc (iList K (tVar i)) (gTup K 2 (gCons (gName j1) (gCons (gName j2) gNil))) tYes (tTup (tCons (tVar j1) (tCons (tVar j2) tNil))) [j1, j2] σ H Q := by
  obtain ⟨xs, hx, hr⟩ := hl
  refine ⟨.ref l, hi, l, rfl, ⟨_, sq_of hx⟩, fun D hD => ?_⟩
  refine lc_rel (α := Str × Str) (fun i => fs.take i) PfAt (fun _ _ _ _ k hD r => TupAt.keep r k hD) (sq_of hx) hD rfl (by rw [hr.1]; omega) (fun i x H13 hi e13 k k0 hk _ => ?_) (fun H13 ms e13 hy hrel => ?_)
  · obtain ⟨o, ho, t, rfl, ht⟩ := hr.get hi
    refine ⟨t, _, rfl, st_of (e13 _ _ ht), rfl, _, _, rfl, _, _, rfl, rfl, hw _ _, ?_⟩
    unfold tYes
    dsimp only
    rw [if_pos rfl]
    refine (eu_tup (ea_cons (ev_var (h1 _ _)) (ea_cons (ev_var (h2 _ _)) ea_nil)) (by show 2 ≤ _; decide)) H13 (Ex.refl H13) _ fun p H14 np e14 hp => hk _ H14 o e14 ?_ ⟨p, rfl, hp⟩
    show fs.take (i + 1) = _
    rw [List.take_add_one, ho]
    rfl
  · rw [hr.1, List.take_length] at hrel
    exact k D H13 hD e13 ⟨ms, hy, hrel⟩
def valsF (fs : Fs) (n : Str) : List Str := (fs.filter fun x => decide (x.1 = n)).map Prod.snd
def joinF (fs : Fs) (n : Str) : Option Str := if valsF fs n = [] then none else some (Txt.join ", " (valsF fs n))
def optV : Option Str → V
  | none => .non
  | some z => .str z
theorem areB_val {fs : Fs} (h : areB fs = true) : fs.length ≤ 40 ∧ ∀ x ∈ fs, x.1.length ≤ 30 ∧ x.2.length ≤ 200 := by
  unfold areB at h
  rw [Bool.and_eq_true, decide_eq_true_eq, List.all_eq_true] at h
  refine ⟨h.1, fun x hx => ?_⟩
  obtain ⟨h1, h2⟩ := Bool.and_eq_true_iff.mp (h.2 x hx)
  constructor
  · unfold nameB wordB at h1
    simp only [Bool.and_eq_true, decide_eq_true_eq] at h1
    omega
  · unfold valueB at h2
    simp only [Bool.and_eq_true, decide_eq_true_eq] at h2
    omega
theorem vals_len {fs : Fs} {n : Str} (h : areB fs = true) : (valsF fs n).length ≤ 40 ∧ ∀ y ∈ valsF fs n, y.length ≤ 200 := by
  obtain ⟨h1, h2⟩ := areB_val h
  unfold valsF
  refine ⟨by rw [List.length_map]; exact Nat.le_trans (List.length_filter_le _ _) h1, fun y hy => ?_⟩
  obtain ⟨x, hx, rfl⟩ := List.mem_map.mp hy
  exact (h2 x (List.mem_filter.mp hx).1).2
theorem joinF_len {fs : Fs} {n z : Str} (h : areB fs = true) (hz : joinF fs n = some z) : z.length ≤ 10000 := by
  unfold joinF at hz
  split at hz
  · cases hz
  · cases hz
    obtain ⟨h1, h2⟩ := vals_len (n := n) h
    have h3 := sum_most (valsF fs n) 200 h2
    have h4 := join_len ", " (valsF fs n)
    have h5 : (", " : Str).length = 2 := by decide +kernel
    rw [h5] at h4
    have h6 := Nat.mul_le_mul_right 200 h1
    omega
section
variable {K : PySem.W.Frag} {C L a dx : Addr} {σ : L2.St} {H : Hp} {te : TE} {v : V} {b : Bool}
theorem et_truL {l : Addr} {xs : List V} (h : Ev te σ H (.ref l)) (hl : SqL K H l xs) : EvT (fun σ H Q => te σ H fun x H' => ∃ k, TruV K x H' k ∧ Q k H') σ H (!xs.isEmpty) := fun H1 e Q q => h H1 e _ fun H2 e2 => ⟨_, .inl ⟨xs, ex_l (e.trans e2) hl, rfl⟩, q H2 e2⟩
end
def nsp : Str := "!\"#$&'()*+,-./0123456789:;<=>?@ABCDEFGHIJKLMNOPQRSTUVWXYZ[\\]^_`abcdefghijklmnopqrstuvwxyz{|}~"
theorem nsp_ok : ∀ c ∈ tl nsp, c ∈ tl signs ∧ c ∉ tl (" " : Str) := by decide +kernel
theorem allIn_mono {z s t : Str} (h : allIn z s = true) (k : ∀ c ∈ tl s, c ∈ tl t) : allIn z t = true :=
  List.all_eq_true.mpr fun c hc => decide_eq_true (k c (of_decide_eq_true (List.all_eq_true.mp h c hc)))
theorem value_ns {z : Str} (hl : z.length ≤ 200) (h : allIn z nsp = true) : valueB z = true := by
  have hm : ∀ c ∈ tl z, c ∈ tl nsp := fun c hc => of_decide_eq_true (List.all_eq_true.mp h c hc)
  unfold valueB
  rw [decide_eq_true (by omega), Bool.true_and, Bool.and_eq_true, decide_eq_true_eq]
  exact ⟨List.all_eq_true.mpr fun c hc => decide_eq_true (nsp_ok c (hm c hc)).1, strip_self (fun c hc => (nsp_ok c (hm c (List.mem_of_getElem? hc))).2) (fun c hc => (nsp_ok c (hm c (List.mem_of_getElem? hc))).2)⟩
theorem value_parts {z : Str} (h : valueB z = true) : z.length ≤ 200 ∧ allIn z signs = true := by
  unfold valueB at h
  simp only [Bool.and_eq_true, decide_eq_true_eq] at h
  exact ⟨by omega, h.2.1⟩
theorem value_empty : valueB ("" : Str) = true := by decide +kernel
theorem num_kinds (i : Int) (h1 : -999999 ≤ i) (h2 : i ≤ 999999) : (∃ n : Nat, n < 10 ^ 6 ∧ tl (PySem.Str.ofString (toString i)) = numL n) ∨ ∃ n : Nat, 1 ≤ n ∧ n < 10 ^ 6 ∧ tl (PySem.Str.ofString (toString i)) = 45 :: numL n := by
  cases i with
  | ofNat n =>
    have h2 : (n : Int) ≤ 999999 := h2
    exact .inl ⟨n, by omega, tl_num n⟩
  | negSucc n => exact .inr ⟨n + 1, by omega, by omega, neg_tl n⟩
theorem num_value (i : Int) (h1 : -999999 ≤ i) (h2 : i ≤ 999999) : valueB (PySem.Str.ofString (toString i)) = true := by
  have key : ∀ z : Str, z.length ≤ 7 → (∀ c ∈ tl z, c = 45 ∨ (48 ≤ c ∧ c ≤ 57)) → valueB z = true := fun z hl hc => by
    refine value_ns (by omega) (List.all_eq_true.mpr fun c h => decide_eq_true ?_)
    have d : ∀ c ∈ tl ("0123456789" : Str), c ∈ tl nsp := by decide +kernel
    rcases hc c h with rfl | ⟨g1, g2⟩
    · decide +kernel
    · exact d c (dig_mem g1 g2)
  rcases num_kinds i h1 h2 with ⟨n, hn, hz⟩ | ⟨n, h0, hn, hz⟩
  · refine key _ ?_ fun c hc => ?_
    · rw [len_tl, hz]
      have := numL_len (k := 6) (by decide) hn
      omega
    · rw [hz] at hc
      exact .inr (numL_digits n c hc)
  · refine key _ ?_ fun c hc => ?_
    · rw [len_tl, hz]
      have := numL_len (k := 6) (by decide) hn
      rw [List.length_cons]
      omega
    · rw [hz] at hc
      rcases List.mem_cons.mp hc with rfl | hc
      · exact .inl rfl
      · exact .inr (numL_digits n c hc)
end Z
set_option maxHeartbeats 4000000
namespace ZX
open PySem PySem.Spec PyProof.Rows L2 TL Evl NdefX
/-! ### try, the first clause (with a name) takes what is raised; the clauses behind it are never asked -/
def wFst (K : PySem.W.Frag) (c : Value) (i : Nat) (ts : Addr → Value → Option Addr → TS) (D : Ends) : WX := fun cls d σ H => PySem.W.exmOne K cls c = some true ∧ ∀ a : Addr, H a = none → ts a cls d { nx := fun σ' H' => D.nx (List.set σ' i none) H', rt := D.rt, bk := fun σ' H' => D.bk (List.set σ' i none) H', ct := fun σ' H' => D.ct (List.set σ' i none) H' } (List.set σ i (some (V.ref a))) H
theorem ps_try_fst {X : Cx} {x n : Str} {c : Value} {i : Nat} {body suite : List Stmt} {b₀ : Stmt} {hds : List ExceptHandler} {np pos pos' : Pos} {tb : WX → TS} {ts : Addr → Value → Option Addr → TS}
    (hs : X.stack = X.env :: X.outer) (hf : X.env.frame = some X.env.locals) (hN : X.N.Nodup) (hi : X.N[i]? = some n) (hln : X.env.kindOf n = some NameKind.local) (hc : Names X x c)
    (hb : ∀ (W : WX) (pn : List (Addr × Obj)) (xe : Value → Shared → Prop), L2N.Takes (X.tr pn xe) W → PassesOwn (model X.prog X.w) X.A X.env xe → PSs (X.tr pn xe) body (tb W))
    (hsu : ∀ (a : Addr) (oe : Obj) (cls : Value) (d : Option Addr) (pn : List (Addr × Obj)), L2N.Zn cls d oe → (∃ vs, oe.data = Data.fields vs) → PSs (X.suite a ((a, oe) :: pn)) (b₀ :: suite) (ts a cls d)) :
    PS X (Stmt.Try body (ExceptHandler.ExceptHandler (some (Expr.Name x np)) (some n) (b₀ :: suite) pos' :: hds) [] [] pos) fun D σ H => tb (wFst X.K c i ts D) D σ H := by
  refine ⟨fun pins s σ H D I h => ?_⟩
  have ok := I.ok
  have hfr : X.A.frames = some (X.env :: X.outer) := by
    rw [ok.frames, hs]
  refine wpAny_Try_except (wpAny_mono ((hb (wFst X.K c i ts D) (X.pn ++ pins) (fun e s₁ =>
                  wpAny (model X.prog X.w) X.A (noteFrame e X.env)
                    (fun x_1 s₂ =>
                      wpAny (model X.prog X.w) X.A (setFlight e none)
                        (fun x_2 s₃ =>
                          wpAny (model X.prog X.w) X.A
                            (handleBy e X.env
                              (ExceptHandler.ExceptHandler (some (Expr.Name x np)) (some n) (b₀ :: suite) pos' :: hds))
                            (SP X pins D) X.xe s₃)
                        X.xe s₂)
                    X.xe s₁) (fun u s' xx => ?_) PassesOwn.looking).run [] s σ H D (Inv.toTry I _) h) (fun f s1 hsp => ?_) fun e s1 he => he)
  · obtain ⟨a, B, sI, pins', σ', H', cls, d, left, J', nb, up, sky, na, os, ag, hb1, hyes⟩ := xx
    subst left
    have J := Inv.ofTry J' ok
    have sky' : L2.Sky B (X.env :: X.outer) a (L2N.Zn cls d) X.env.locals s'.heap := by
      rw [← hs]
      exact sky
    refine L2N.Sky.land L2N.Zn.steady hfr hf sky' fun h3 fl3 up3 => ?_
    have J3 : L2.Inv X pins σ' H' { heap := h3, gens := s'.gens, drawn := s'.drawn, toks := s'.toks, os := s'.os } := Inv.landed J nb fl3.left (Heap.UpToSlots.trans up up3) os ag
    obtain ⟨oe3, vs3, he3, hz3, hd3⟩ := HandSPX.FlyingZ.there fl3
    have notFr : ∀ {h : Heap} {o : Obj} {vs : Array Value}, h.FunFrames B (X.env :: X.outer) → h.get? a = some o → o.data = Data.fields vs → ¬ a ∈ List.filterMap (fun x : Env => x.frame) (X.env :: X.outer) := fun ff e dd hm => by
      obtain ⟨_, o', e', hnf⟩ := Heap.FunFrames.mem ff hm
      rw [e] at e'
      cases e'
      exact hnf _ dd
    have nfr := notFr fl3.right.right.left he3 hd3
    have nL : a ≠ X.env.locals := fun z => nfr (List.mem_filterMap.mpr ⟨X.env, List.mem_cons_self, by rw [hf, z]⟩)
    have nF : ¬ a ∈ X.fs := fun hm => by
      obtain ⟨e, he, q⟩ := List.mem_filterMap.mp hm
      exact nfr (List.mem_filterMap.mpr ⟨e, List.mem_cons_of_mem X.env he, q⟩)
    have S3 := Inv.suite J3 he3 hd3 na nL nF
    refine wpAny_handleBy_cons (codeAny_handlers_test ?_) (fun q => nomatch q)
    have LM := PySem.W.exm_one (M := model X.prog X.w) (Inv.kIn J3) (fun A Q E s k q => wpAny_typeOf_ref (k a oe3 he3) (by rw [hz3.left]; exact q)) hb1
    have test : ∀ {Q : Value → Shared → Prop} {E : Value → Shared → Prop}, Q c { heap := h3, gens := s'.gens, drawn := s'.drawn, toks := s'.toks, os := s'.os } → wpAny (model X.prog X.w) (X.suite a ((a, oe3) :: (X.pn ++ pins))).A (eval (Expr.Name x np) X.env) Q E { heap := h3, gens := s'.gens, drawn := s'.drawn, toks := s'.toks, os := s'.os } := fun {Q E} q => by
      obtain ⟨hg, hdbg, hm | ⟨hm, hv, hnn⟩⟩ := hc
      · exact ld_glob (X := X.suite a ((a, oe3) :: (X.pn ++ pins))) S3 hg hm q hdbg
      · exact ld_blt (X := X.suite a ((a, oe3) :: (X.pn ++ pins))) S3 hg hm hv q hnn hdbg
    refine test (Q := fun c' s₁ => wpAny (model X.prog X.w) _ (excMatches (Value.ref a) c') _ _ s₁) (PySem.W.Looks.here LM ?_)
    refine codeAny_handlers_suite_as (HandSPX.lands_againZ fl3 fun h4 fl4 up4 => ?_)
    have J4 : L2.Inv X pins σ' H' { heap := h4, gens := s'.gens, drawn := s'.drawn, toks := s'.toks, os := s'.os } := Inv.landed J nb fl4.left (Heap.UpToSlots.trans (Heap.UpToSlots.trans up up3) up4) os ag
    obtain ⟨oe4, vs4, he4, hz4, hd4⟩ := HandSPX.FlyingZ.there fl4
    have S4 := Inv.suite J4 he4 hd4 na nL nF
    refine store_ok (X := X.suite a ((a, oe4) :: (X.pn ++ pins))) (v := V.ref a) S4 hN hi (Or.inl hln) rfl (fun s5 S5 => wpAny_mono ((hsu a oe4 cls d (X.pn ++ pins) hz4 ⟨vs4, hd4⟩).run [] s5 (List.set σ' i (some (V.ref a))) H' _ S5 (hyes a na)) (fun f s6 hsp => ?_) fun _ _ z => z.elim) (Or.inr hln)
    have end_ : ∀ {σ6 : L2.St} {H6 : Hp} {Q : Unit → Shared → Prop} {s6 : Shared}, L2.Inv (X.suite a ((a, oe4) :: (X.pn ++ pins))) [] σ6 H6 s6 → (∀ s', L2.Inv X pins (List.set σ6 i none) H6 s' → Q () s') → wpAny (model X.prog X.w) X.A (do bindName X.env n Value.none; unbindBehindTheSuite X.env n pos') Q X.xe s6 := fun S6 hq => gone_ok (Inv.unsuite S6 ok) hN hi hln hq
    cases f with
    | next =>
      obtain ⟨σ6, H6, S6, q6⟩ := hsp
      exact end_ S6 fun s7 J7 => ⟨σ6.set i none, H6, J7, q6⟩
    | brk =>
      obtain ⟨σ6, H6, S6, q6⟩ := hsp
      exact end_ S6 fun s7 J7 => ⟨σ6.set i none, H6, J7, q6⟩
    | cont =>
      obtain ⟨σ6, H6, S6, q6⟩ := hsp
      exact end_ S6 fun s7 J7 => ⟨σ6.set i none, H6, J7, q6⟩
    | ret u =>
      obtain ⟨v6, σ6, H6, S6, r6, q6⟩ := hsp
      exact end_ S6 fun s7 J7 => ⟨v6, σ6.set i none, H6, J7, r6, q6⟩
  · cases f with
    | next =>
      obtain ⟨σ', H', J', q⟩ := hsp
      exact wpAny_execs_nil ⟨σ', H', Inv.ofTry J' ok, q⟩
    | brk =>
      obtain ⟨σ', H', J', q⟩ := hsp
      exact ⟨σ', H', Inv.ofTry J' ok, q⟩
    | cont =>
      obtain ⟨σ', H', J', q⟩ := hsp
      exact ⟨σ', H', Inv.ofTry J' ok, q⟩
    | ret u =>
      obtain ⟨v, σ', H', J', r, q⟩ := hsp
      exact ⟨v, σ', H', Inv.ofTry J' ok, r, q⟩
/-! ### isinstance of an error without fields -/
def rIsEN (K : PySem.W.Frag) (a : Addr) (cls : Value) (d : Option Addr) : List V → Hp → VK → Prop := fun xs H Q => ∃ D, cls = .ref D ∧ d = none ∧ ExcC K D ∧ rIsE K D a xs H Q
theorem call_isEN {X : Cx} {a : Addr} {cls : Value} {d : Option Addr} {oe : Obj} {pn : List (Addr × Obj)} (hz : Zc cls d oe) (hf : ∃ vs, oe.data = .fields vs) : CallR (X.suite a ((a, oe) :: pn)) (.builtin "isinstance") (rIsEN X.K a cls d) := by
  intro pins s σ H xs us Q I r h
  obtain ⟨D, rfl, rfl, c, q⟩ := h
  exact call_isE c hz hf pins s σ H xs us Q I r q
/-- isinstance(e, (A, B, ..)) -/
def rIsET (K : PySem.W.Frag) (a : Addr) (cls : Value) (d : Option Addr) : List V → Hp → VK → Prop := fun xs H Q => ∃ (D tp : Addr) (cs : List V) (ws : List Value) (b : Bool), cls = .ref D ∧ d = none ∧ ExcC K D ∧ xs = [.ref a, .ref tp] ∧ H tp = some (.tup cs) ∧ Paired ClsV cs ws ∧ PySem.W.kitAny K (.ref D) ws = some b ∧ Q (.bl b) H
theorem call_isET {X : Cx} {a : Addr} {cls : Value} {d : Option Addr} {oe : Obj} {pn : List (Addr × Obj)} (hz : Zc cls d oe) (hf : ∃ vs, oe.data = .fields vs) : CallR (X.suite a ((a, oe) :: pn)) (.builtin "isinstance") (rIsET X.K a cls d) := by
  intro pins s σ H xs us Q I r h
  obtain ⟨D, tp, cs, ws, b, rfl, rfl, C, rfl, hT, k, e, q⟩ := h
  obtain ⟨u1, u2, rfl, r1, r2⟩ := L2.vals2 r
  obtain rfl : u1 = Value.ref a := r1
  obtain rfl : u2 = Value.ref tp := r2
  obtain ⟨hget, _⟩ := I.pin (a, oe) (List.mem_append.mpr (.inl List.mem_cons_self))
  obtain ⟨vs, hv⟩ := hf
  have J : PySem.W.InstAt s.heap a oe D none := by
    obtain ⟨oc, odd, oda, osl⟩ := oe
    obtain ⟨h1, h2⟩ := hz
    dsimp only at h1 h2 hv
    subst h1 h2 hv
    exact ⟨hget, rfl, rfl, trivial⟩
  have hx : ObjOk X.prog X.w H s.heap tp (.tup cs) := I.hok tp _ hT
  obtain ⟨_, its, rv, o, h1, h2, n, h3⟩ := hx
  have e3 := ClsV.all k rv
  subst e3
  obtain ⟨oc, od, dt, sl⟩ := o
  dsimp only at h2 h3
  subst h2 h3
  exact PySem.W.kia_tup (PySem.W.handS_kitx_exc C.hg C.hk C.hs C.hd C.ha C.hn C.ht C.hm) I.kIn J h1 e (fun z => nomatch z) fun tk => ⟨.bl b, H, I.tok tk, rfl, q⟩
end ZX
set_option maxHeartbeats 4000000
namespace ZX
open PySem PySem.Spec PyProof.Rows L2 TL Evl NdefX
/-! ### an own error whose `__init__` keeps nothing -/
theorem mk_endN {X : Cx} {pins : List (Addr × Obj)} {σ : L2.St} {H1 H2 : Hp} {hp hp2 h2 : Heap} {g1 g2 : Array GenState} {d1 d2 : Drawn} {t1 t2 : Nat} {os1 os2 : OsState} {a C : Addr}
    (I1 : L2.Inv X pins σ H1 { heap := hp, gens := g1, drawn := d1, toks := t1, os := os1 }) (ha : hp.objs.size ≤ a) (k : ∀ (b : Addr) (o : Obj), hp.get? b = some o → hp2.get? b = some o) (un : Un (frs X.stack) [] (upd H1 a (exo a C none)) H2 hp2 h2) (hok : HOk X.prog X.w H2 h2) (ho : os2 = os1) (hb : AllBare g2) (ea : H2 a = some (exo a C none)) :
    ∃ t0 G, L2.Inv X pins σ (del H2 a) { heap := G, gens := g2, drawn := d2, toks := t2, os := os2 } ∧ (∀ (b : Addr) (o : Obj), G.get? b = some o → h2.get? b = some o) ∧ G.get? a = none ∧
      h2.get? a = some { cls := Value.ref C, dict := none, data := Data.fields #[Value.ref t0, Value.none, Value.none, Value.none, Value.bool false, Value.none] } := by
  obtain ⟨t0, hoe⟩ := exo_at hok ea
  have hn := HOk.fresh I1.hok ha
  obtain ⟨G, g1', g2'⟩ := restrict h2 fun b => decide (b ≠ a)
  have gk : ∀ b, b ≠ a → G.get? b = h2.get? b := fun b hb => g1' b (decide_eq_true hb)
  have ge : G.get? a = none := g2' a (by simp)
  have nha : ∀ {b : Addr} {o : Obj}, hp.get? b = some o → b ≠ a := fun {b} {o} z => Nat.ne_of_lt (Nat.lt_of_lt_of_le (Heap.lt_size z) ha)
  have up : ∀ {b : Addr}, b ≠ a → H1 b = none → upd H1 a (exo a C none) b = none := fun {b} hb n => by
    rw [upd_ne hb]
    exact n
  have U : Un (frs X.stack) [] H1 (del H2 a) hp G := {
    keep := fun b o z n hf hx => by
      rw [gk b (nha z)]
      exact un.keep b o (k b o z) (up (nha z) n) hf hx
    slot := fun b o z n hf hx => by
      rw [gk b (nha z)]
      exact un.slot b o (k b o z) (up (nha z) n) hf hx
    free := fun b o z n hx => by
      rw [del_ne (nha z)]
      exact un.free b o (k b o z) (up (nha z) n) hx
    there := fun b o z hx => by
      rw [gk b (nha z)]
      exact un.there b o (k b o z) hx
    tups := fun b xs z => by
      rw [del_ne (ne_of_none z hn)]
      exact un.tups b xs (by rw [upd_ne (ne_of_none z hn)]; exact z)
    frzs := fun b o v z => by
      rw [del_ne (ne_of_none z hn)]
      exact un.frzs b o v (by rw [upd_ne (ne_of_none z hn)]; exact z)
    tbls := fun b ps z => by
      rw [del_ne (ne_of_none z hn)]
      exact un.tbls b ps (by rw [upd_ne (ne_of_none z hn)]; exact z) }
  have hok3 : HOk X.prog X.w (del H2 a) G := fun b o z => by
    have hba : b ≠ a := fun e => by
      rw [e, del_same] at z
      cases z
    rw [del_ne hba] at z
    have noa : ∀ {c : Addr}, H2 c = some (HO.own b) → c ≠ a := fun {c} hc => at_ne ea hc exo_own
    refine ObjOk.stay (hok b o z) (fun c v hc y => ?_) (fun c hc => ?_) fun c xs hc => ?_
    · have hca : c ≠ a := by
        rcases hc with hc | hc
        · rw [hc]; exact hba
        · exact noa hc
      rw [gk c hca]
      exact y
    · rw [del_ne (noa hc)]
      exact hc
    · rw [del_ne (at_ne ea hc exo_tup)]
      exact hc
  have J := Inv.call' (s' := { heap := G, gens := g2, drawn := d2, toks := t2, os := os2 }) I1 ho U hok3 hb fun b z => absurd z List.not_mem_nil
  exact ⟨t0, G, J, fun b o z => by
    by_cases hba : b = a
    · rw [hba, ge] at z
      cases z
    · rw [← gk b hba]
      exact z, ge, hoe⟩
def tMkN (C : Addr) (sp : Sp) : L2N.St → Hp → XK → Prop := fun σ H Q => ∀ a, H a = none → sp [.ref a] (upd H a (exo a C none)) (fun v H2 => v = .non ∧ H2 a = some (exo a C none) ∧ Q (.ref C) none (del H2 a)) (fun _ _ _ => False)
theorem pmk_oex0 {X : Cx} {CX : CXT} {x : Str} {C fI : Addr} {k : Nat} {fd : FuncData} {ps : List Str} {sp : Sp} {p pos : Pos} (T : OexC X.K C) (iC : PySem.W.findIn X.K (.ref C) "__init__" = some (some (.ref fI)))
    (tI : PySem.W.typeIn X.K (.ref fI) = some (.type "function")) (F1 : FnOk X.prog X.w X.K X.mg X.base CX k fI fd ps sp) (hr : Room (k + 1) X.A) (hb : Binds X.K fd ps []) (hx : Passes CX X (fun _ _ _ => False)) (hg : Gl X x) (hm : X.mg x = some (.ref C))
    (hdb : (x == ("__debug__" : Str)) = false := by decide) :
    L2N.PMk X (.Call (.Name x p) [] [] pos) (tMkN C sp) := by
  intro pins s σ H Q I h
  obtain ⟨nm, q, N, bs, bm, sn, sub, ab, col, dd, k0, k1, k2, k3, k5, hC, hbm⟩ := T.cls
  refine wpAny_Call_Name_kw (ld_glob I hg hm ?_ hdb)
  refine PySem.W.callWith_K0 I.kIn T.kC ?_
  obtain ⟨hp, g, dr, tk, os⟩ := s
  have new : H (hp.objs.size + 1) = none := I.hok.fresh (Nat.le_succ _)
  have hq := h (hp.objs.size + 1) new
  have grow : ∀ b o, hp.get? b = some o → ((hp.push (PySem.W.kdv_tup [])).push (PySem.HandSPX.excO C hp.objs.size)).get? b = some o := fun b o z => Heap.get?_push_of_some _ (Heap.get?_push_of_some _ z)
  have I2 : Inv X pins σ (upd H (hp.objs.size + 1) (exo (hp.objs.size + 1) C none)) ⟨(hp.push (PySem.W.kdv_tup [])).push (PySem.HandSPX.excO C hp.objs.size), g, dr, tk, os⟩ :=
    I.laid (t' := tk) (a := hp.objs.size + 1) (o := exo (hp.objs.size + 1) C none) (h' := (hp.push (PySem.W.kdv_tup [])).push (PySem.HandSPX.excO C hp.objs.size)) grow (Nat.le_succ _) (exo_ok (by heap_get))
  have r2 : Vals [V.ref (hp.objs.size + 1)] [Value.ref (hp.objs.size + 1)] := .cons rfl .nil
  have lens : [Value.ref (hp.objs.size + 1)].length = ps.length := r2.length.symm.trans (F1.len _ _ _ _ hq)
  have b2 := hb _ [Value.ref (hp.objs.size + 1)] I2.kIn (by rw [List.append_nil]; exact lens)
  rw [List.append_nil] at b2
  show wpAny _ _ (call (.ref C) []) _ _ _
  refine wpAny_call (PySem.HandSPX.call_own F.excBase_ValueError (fun Y => PySem.HandSPX.refsVE_contains Y bm hbm) (I.kIn _ _ hC) (PySem.W.looks_findIn I.kIn iC) (fun self => PySem.W.bind_fn I.kIn self tI) (Nat.zero_le _)
    (codeAny_mono (FnOk.run F1 _ X.stack _ _ ⟨[Value.ref (hp.objs.size + 1)], []⟩ [Value.ref (hp.objs.size + 1)] _ _ (fun _ _ _ => False) (hr.make C [] []) (I2.env0.make C [] []) b2 r2 hq) fun r s' hq' => ?_))
  cases r with
  | error er => exact hx pins σ _ _ er s' I2 hq'
  | ok fl =>
    cases fl with
    | next => exact hq'.elim
    | brk => exact hq'.elim
    | cont => exact hq'.elim
    | ret u =>
      obtain ⟨v, H2, os2, bare, un, hok, rv, ev, ea, q2⟩ := hq'
      subst ev
      obtain ⟨h2, g2, d2, t2, os'⟩ := s'
      obtain ⟨t0, G, J, kG, ge, hoe⟩ := mk_endN (d2 := d2) (t2 := t2) I (Nat.le_succ _) grow un hok os2 bare ea
      exact ⟨rv, hp.objs.size + 1, _, _, ⟨G, g2, d2, t2, os'⟩, _, .ref C, none, rfl, J, kG, ge, hoe, ⟨rfl, rfl, fun ws hw => by cases hw; rfl⟩, rfl, rfl, del_same, rfl, bare, raises_own T.exC T.tyC, q2⟩
def spErr0 (D : Addr) : Sp := fun vs H Q _ => ∃ a : Addr, vs = [.ref a] ∧ H a = some (exo a D none) ∧ ∀ H1, Ex H H1 → Q .non H1
theorem mk_err0 {D : Addr} {σ : L2.St} {H : Hp} {Q : XK} (k : ∀ H', Ex H H' → Q (.ref D) none H') : tMkN D (spErr0 D) σ H Q := fun a ha => ⟨a, rfl, upd_same, fun H1 e1 => by
  have h1 := e1 a _ upd_same
  refine ⟨rfl, h1, k _ fun b o hb => ?_⟩
  have na : b ≠ a := ne_of_none hb ha
  rw [del_ne na]
  exact e1 b o (by rw [upd_ne na]; exact hb)⟩
end ZX
set_option maxHeartbeats 4000000
namespace Z
open PySem PySem.Spec PyProof.Rows L2 TL Evl
theorem sc_wall : FnScope ["k"] ["k"] (L2.defScope s_wall) := ⟨rfl, rfl, rfl, by decide +kernel, rfl, by decide +kernel, by decide +kernel⟩
theorem sc_consists_of : FnScope ["text", "signs"] ["text", "signs"] (L2.defScope s_consists_of) := ⟨rfl, rfl, rfl, by decide +kernel, rfl, by decide +kernel, by decide +kernel⟩
theorem sc_is_plain : FnScope ["text"] ["text"] (L2.defScope s_is_plain) := ⟨rfl, rfl, rfl, by decide +kernel, rfl, by decide +kernel, by decide +kernel⟩
theorem sc_is_plain_lines : FnScope ["text"] ["text"] (L2.defScope s_is_plain_lines) := ⟨rfl, rfl, rfl, by decide +kernel, rfl, by decide +kernel, by decide +kernel⟩
theorem sc_is_path : FnScope ["text"] ["text"] (L2.defScope s_is_path) := ⟨rfl, rfl, rfl, by decide +kernel, rfl, by decide +kernel, by decide +kernel⟩
theorem sc_is_word : FnScope ["text", "most"] ["text", "most"] (L2.defScope s_is_word) := ⟨rfl, rfl, rfl, by decide +kernel, rfl, by decide +kernel, by decide +kernel⟩
theorem sc_is_field_name : FnScope ["text"] ["text"] (L2.defScope s_is_field_name) := ⟨rfl, rfl, rfl, by decide +kernel, rfl, by decide +kernel, by decide +kernel⟩
theorem sc_is_value : FnScope ["text"] ["text"] (L2.defScope s_is_value) := ⟨rfl, rfl, rfl, by decide +kernel, rfl, by decide +kernel, by decide +kernel⟩
theorem sc_are_fields : FnScope ["fields", "name", "value"] ["fields"] (L2.defScope s_are_fields) := ⟨rfl, rfl, rfl, by decide +kernel, rfl, by decide +kernel, by decide +kernel⟩
theorem sc_is_body : FnScope ["text"] ["text"] (L2.defScope s_is_body) := ⟨rfl, rfl, rfl, by decide +kernel, rfl, by decide +kernel, by decide +kernel⟩
theorem sc_write_message : FnScope ["message", "chunks", "trailer", "open_end", "lines"] ["message", "chunks", "trailer", "open_end"] (L2.defScope s_write_message) := ⟨rfl, rfl, rfl, by decide +kernel, rfl, by decide +kernel, by decide +kernel⟩
theorem sc_is_framing : FnScope ["message", "chunks", "trailer", "open_end", "size"] ["message", "chunks", "trailer", "open_end"] (L2.defScope s_is_framing) := ⟨rfl, rfl, rfl, by decide +kernel, rfl, by decide +kernel, by decide +kernel⟩
theorem sc_write_chunked : FnScope ["message", "sizes", "trailer", "early", "lines", "chunk"] ["message", "sizes", "trailer"] (L2.defScope s_write_chunked) := ⟨rfl, rfl, rfl, by decide +kernel, rfl, by decide +kernel, by decide +kernel⟩
theorem sc_field_lines : FnScope ["fields", "name", "value"] ["fields"] (L2.defScope s_field_lines) := ⟨rfl, rfl, rfl, by decide +kernel, rfl, by decide +kernel, by decide +kernel⟩
theorem sc_chunk_texts : FnScope ["body", "sizes", "found", "at", "size"] ["body", "sizes"] (L2.defScope s_chunk_texts) := ⟨rfl, rfl, rfl, by decide +kernel, rfl, by decide +kernel, by decide +kernel⟩
theorem sc_law_bag : FnScope ["script", "k", "cell"] ["script", "k"] (L2.defScope s_law_bag) := ⟨rfl, rfl, rfl, by decide +kernel, rfl, by decide +kernel, by decide +kernel⟩
theorem sc_law_draw : FnScope ["bag", "size", "digit", "one", "two", "three"] ["bag", "size"] (L2.defScope s_law_draw) := ⟨rfl, rfl, rfl, by decide +kernel, rfl, by decide +kernel, by decide +kernel⟩
theorem sc_law_pick : FnScope ["bag", "things"] ["bag", "things"] (L2.defScope s_law_pick) := ⟨rfl, rfl, rfl, by decide +kernel, rfl, by decide +kernel, by decide +kernel⟩
theorem sc_law_most : FnScope ["bag", "small", "large"] ["bag", "small", "large"] (L2.defScope s_law_most) := ⟨rfl, rfl, rfl, by decide +kernel, rfl, by decide +kernel, by decide +kernel⟩
theorem sc_law_word : FnScope ["bag", "signs", "least", "most", "size", "k"] ["bag", "signs", "least", "most"] (L2.defScope s_law_word) := ⟨rfl, rfl, rfl, by decide +kernel, rfl, by decide +kernel, by decide +kernel⟩
theorem sc_law_letters : FnScope [] [] (L2.defScope s_law_letters) := ⟨rfl, rfl, rfl, by decide +kernel, rfl, by decide +kernel, by decide +kernel⟩
theorem sc_law_signs : FnScope ["low"] [] (L2.defScope s_law_signs) := ⟨rfl, rfl, rfl, by decide +kernel, rfl, by decide +kernel, by decide +kernel⟩
theorem sc_law_statuses : FnScope [] [] (L2.defScope s_law_statuses) := ⟨rfl, rfl, rfl, by decide +kernel, rfl, by decide +kernel, by decide +kernel⟩
theorem sc_law_may : FnScope ["start"] ["start"] (L2.defScope s_law_may) := ⟨rfl, rfl, rfl, by decide +kernel, rfl, by decide +kernel, by decide +kernel⟩
theorem sc_law_name : FnScope ["bag", "tail", "name"] ["bag"] (L2.defScope s_law_name) := ⟨rfl, rfl, rfl, by decide +kernel, rfl, by decide +kernel, by decide +kernel⟩
theorem sc_law_value : FnScope ["bag"] ["bag"] (L2.defScope s_law_value) := ⟨rfl, rfl, rfl, by decide +kernel, rfl, by decide +kernel, by decide +kernel⟩
theorem sc_law_names : FnScope ["bag", "k"] ["bag"] (L2.defScope s_law_names) := ⟨rfl, rfl, rfl, by decide +kernel, rfl, by decide +kernel, by decide +kernel⟩
theorem sc_law_body : FnScope ["bag", "way"] ["bag"] (L2.defScope s_law_body) := ⟨rfl, rfl, rfl, by decide +kernel, rfl, by decide +kernel, by decide +kernel⟩
theorem sc_law_row : FnScope ["bag", "side", "names", "path", "start", "count", "fields", "k", "body"] ["bag", "side", "names"] (L2.defScope s_law_row) := ⟨rfl, rfl, rfl, by decide +kernel, rfl, by decide +kernel, by decide +kernel⟩
theorem sc_law_made : FnScope ["row", "words"] ["row"] (L2.defScope s_law_made) := ⟨rfl, rfl, rfl, by decide +kernel, rfl, by decide +kernel, by decide +kernel⟩
theorem sc_law_chunk_lines : FnScope ["body", "sizes", "text", "size", "piece"] ["body", "sizes"] (L2.defScope s_law_chunk_lines) := ⟨rfl, rfl, rfl, by decide +kernel, rfl, by decide +kernel, by decide +kernel⟩
theorem sc_law_form : FnScope ["row", "sizes", "tail", "open_ended", "start", "fields", "may", "size", "lines", "field", "text"] ["row", "sizes", "tail", "open_ended"] (L2.defScope s_law_form) := ⟨rfl, rfl, rfl, by decide +kernel, rfl, by decide +kernel, by decide +kernel⟩
theorem sc_law_sizes : FnScope ["bag", "row", "sizes", "k", "at"] ["bag", "row"] (L2.defScope s_law_sizes) := ⟨rfl, rfl, rfl, by decide +kernel, rfl, by decide +kernel, by decide +kernel⟩
theorem sc_law_options : FnScope ["bag", "row", "way", "sizes", "tail", "open_ended"] ["bag", "row"] (L2.defScope s_law_options) := ⟨rfl, rfl, rfl, by decide +kernel, rfl, by decide +kernel, by decide +kernel⟩
theorem sc_law_told : FnScope ["message", "options", "way", "given", "text", "error", "plain"] ["message", "options", "way"] (L2.defScope s_law_told) := ⟨rfl, rfl, rfl, by decide +kernel, rfl, by decide +kernel, by decide +kernel⟩
theorem sc_law_right : FnScope ["bag", "row", "message", "options", "due"] ["bag"] (L2.defScope s_law_right) := ⟨rfl, rfl, rfl, by decide +kernel, rfl, by decide +kernel, by decide +kernel⟩
theorem sc_law : FnScope ["script", "k"] ["script"] (L2.defScope s_law) := ⟨rfl, rfl, rfl, by decide +kernel, rfl, by decide +kernel, by decide +kernel⟩
/-- what the module's names stand for -/
structure Mg (mg : Str → Option Value) : Prop where
  len : mg "len" = none
  all : mg "all" = none
  any : mg "any" = none
  abs : mg "abs" = none
  sum : mg "sum" = none
  isinstance : mg "isinstance" = none
  range : mg "range" = none
  int : mg "int" = none
  bool : mg "bool" = none
  str : mg "str" = none
  min : mg "min" = none
  max : mg "max" = none
  list : mg "list" = none
  LOWER : ∃ u, mg "LOWER" = some u ∧ RelV (.str "abcdefghijklmnopqrstuvwxyz") u
  WORD_SIGNS : ∃ u, mg "WORD_SIGNS" = some u ∧ RelV (.str "abcdefghijklmnopqrstuvwxyz0123456789-") u
  PATH_SIGNS : ∃ u, mg "PATH_SIGNS" = some u ∧ RelV (.str "abcdefghijklmnopqrstuvwxyz0123456789/-.") u
  MOST_PATH : ∃ u, mg "MOST_PATH" = some u ∧ RelV (.int 60) u
  MOST_NAME : ∃ u, mg "MOST_NAME" = some u ∧ RelV (.int 30) u
  MOST_VALUE : ∃ u, mg "MOST_VALUE" = some u ∧ RelV (.int 200) u
  ValueError : mg "ValueError" = none
/-! ### the law's draws -/
def Bg (H : Hp) (p : Addr) : Prop := ∃ (c0 : Int) (cv : V) (c2 : Int), H p = some (.lst [.int c0, cv, .int c2]) ∧ (cv = .non ∨ ∃ c : Int, cv = .int c ∧ c.natAbs < 2 ^ cap)
theorem Bg.ex {H H' : Hp} {p : Addr} (b : Bg H p) (e : Ex H H') : Bg H' p := by
  obtain ⟨c0, cv, c2, h, r⟩ := b
  exact ⟨c0, cv, c2, e _ _ h, r⟩
theorem Bg.has {H : Hp} {p : Addr} (b : Bg H p) : ∃ xs, H p = some (.lst xs) := by
  obtain ⟨c0, cv, c2, h, _⟩ := b
  exact ⟨_, h⟩
theorem Bg.ne {H : Hp} {p l : Addr} (b : Bg H p) (h : H l = none) : l ≠ p := by
  obtain ⟨c0, cv, c2, hb, _⟩ := b
  exact fun e => by rw [e, hb] at h; cases h
theorem Bg.upd {H : Hp} {p l : Addr} {o : HO} (b : Bg H p) (n : l ≠ p) : Bg (upd H l o) p := by
  obtain ⟨c0, cv, c2, h, r⟩ := b
  exact ⟨c0, cv, c2, by rw [upd_ne (Ne.symm n)]; exact h, r⟩
theorem Bg.free {H H' : Hp} {p l : Addr} (b : Bg H' p) (k : Keep p H H') (h : H' l = none) : H l = none := by
  cases q : H l with
  | none => rfl
  | some o => rw [k l o (b.ne h) q] at h; cases h
theorem tlTJ (ps : List Str) : tl (Txt.join "" ps) = ps.flatMap tl := by
  cases ps with
  | nil => decide +kernel
  | cons p r =>
    rw [join_tl, List.flatMap_cons]
    congr 1
theorem lenTJ (ps : List Str) : (Txt.join "" ps).length = (ps.map (·.length)).sum := by
  rw [← len_tl', tlTJ, List.length_flatMap]
  congr 1
def spBg (K : PySem.W.Frag) : Sp := fun vs H Q _ => ∃ (a : Addr) (ns : List Int) (i : Nat), vs = [.ref a, .int (i : Int)] ∧ SqL K H a (ns.map V.int) ∧ ns.length ≤ 63 ∧ i ≤ 63 ∧ (∀ z ∈ ns, z.natAbs < 2 ^ cap) ∧ ∀ (p : Addr) (H' : Hp), H p = none → Ex H H' → Bg H' p → Q (.ref p) H'
def spDr : Sp := fun vs H Q _ => ∃ (p : Addr) (size : Int), vs = [.ref p, .int size] ∧ Bg H p ∧ 1 ≤ size ∧ size ≤ 1000000 ∧ ∀ (d : Int) (H' : Hp), 0 ≤ d → d < size → Bg H' p → Keep p H H' → Q (.int d) H'
def spPk : Sp := fun vs H Q _ => ∃ (p l : Addr) (xs : List V), vs = [.ref p, .ref l] ∧ Bg H p ∧ l ≠ p ∧ H l = some (.lst xs) ∧ 1 ≤ xs.length ∧ xs.length ≤ 1000 ∧ ∀ (v : V) (H' : Hp), v ∈ xs → Bg H' p → Keep p H H' → Q v H'
def spMo : Sp := fun vs H Q _ => ∃ (p : Addr) (a b : Int), vs = [.ref p, .int a, .int b] ∧ Bg H p ∧ ∀ (v : Int) (H' : Hp), v = a ∨ v = b → Bg H' p → Keep p H H' → Q (.int v) H'
/-- a word of `least` to `most` signs of z -/
def spWd : Sp := fun vs H Q _ => ∃ (p : Addr) (z : Str) (least most : Int), vs = [.ref p, .str z, .int least, .int most] ∧ Bg H p ∧ 1 ≤ z.length ∧ z.length ≤ 1000 ∧ 0 ≤ least ∧ least ≤ most ∧ most ≤ 1000 ∧
  ∀ (t : Str) (H' : Hp), least ≤ (t.length : Int) → (t.length : Int) ≤ most → (∀ c ∈ tl t, c ∈ tl z) → Bg H' p → Keep p H H' → Q (.str t) H'
section
variable {P : Program} {w : World} {K : PySem.W.Frag} {mg : Str → Option Value} {base : Heap} {f : Addr} {fd : FuncData} {k : Nat}
abbrev CDr (P : Program) (w : World) (K : PySem.W.Frag) (mg : Str → Option Value) (base : Heap) : Prop := Call P w K mg base 1 "_law_draw" ["bag", "size"] spDr
abbrev CPk (P : Program) (w : World) (K : PySem.W.Frag) (mg : Str → Option Value) (base : Heap) : Prop := Call P w K mg base 2 "_law_pick" ["bag", "things"] spPk
abbrev CMo (P : Program) (w : World) (K : PySem.W.Frag) (mg : Str → Option Value) (base : Heap) : Prop := Call P w K mg base 2 "_law_most" ["bag", "small", "large"] spMo
abbrev CWd (P : Program) (w : World) (K : PySem.W.Frag) (mg : Str → Option Value) (base : Heap) : Prop := Call P w K mg base 2 "_law_word" ["bag", "signs", "least", "most"] spWd
theorem ok_consists_of (T : Mg mg) (F : FnP K "consists_of" s_consists_of f fd) (gm : mg "consists_of" = some (.ref f)) : Call P w K mg base 1 "consists_of" ["text", "signs"] (sp2 fun z s => .bl (allIn z s)) := by
  refine mk F gm (fun _ _ _ _ _ _ us hl => match us, hl with | [_, _], _ => rfl) (fun _ _ _ _ _ _ us hl => match us, hl with | [_, _], _ => rfl) sc_consists_of (fun vs H Q E h => ?_) (fun cdv A outer s H vs Q E hr h => ?_)
  · obtain ⟨z, s, rfl, _⟩ := h
    rfl
  · obtain ⟨z, s, rfl, hz, q⟩ := h
    refine ⟨_, (pss_one (ps_ret (pe_cmpR op_eq (pe_bm PySem.F.plainAttrs_str PySem.F.slot_str_strip PySem.F.type_str_strip mz_strip (pv 0) (pa_cons (pv 1) pa_nil)) pe_str (nomark _)))), ?_⟩
    refine s_ret (v := .bl (allIn z s)) (ev_is (ev_op (ev_strip (ev_var rfl) (ev_var rfl) hz) ev_c rv_eqS) ?_) q
    rw [strip_all]
theorem ok_is_plain (T : Mg mg) (F : FnP K "is_plain" s_is_plain f fd) (gm : mg "is_plain" = some (.ref f)) : Call P w K mg base 1 "is_plain" ["text"] (sp1 fun z => .bl (allIn z signs)) := by
  refine mk F gm (fun _ _ _ _ _ _ us hl => match us, hl with | [_], _ => rfl) (fun _ _ _ _ _ _ us hl => match us, hl with | [_], _ => rfl) sc_is_plain (fun vs H Q E h => ?_) (fun cdv A outer s H vs Q E hr h => ?_)
  · obtain ⟨z, rfl, _⟩ := h
    rfl
  · obtain ⟨z, rfl, hz, q⟩ := h
    refine ⟨_, (pss_one (ps_ret (pe_and (pe_bm0 PySem.F.plainAttrs_str PySem.F.slot_str_isascii PySem.F.type_str_isascii mz_isascii (pv 0)) (pe_and (pe_bm0 PySem.F.plainAttrs_str PySem.F.slot_str_isprintable PySem.F.type_str_isprintable mz_isprint (pv 0)) (pe_one (pe_cmpR op_eq (pe_bm PySem.F.plainAttrs_str PySem.F.slot_str_translate PySem.F.type_str_translate (mz_trans rfl) (pv 0) (pa_cons (pe_disp (pps_cons pe_int pe_non pps_nil) (by rfl) (by rfl) (fun z => by cases z) (by decide)) pa_nil)) (pv 0) (nomark _))))))), ?_⟩
    refine s_ret (v := .bl (allIn z signs)) (ev_is (ev_andV (ev_isascii (ev_var rfl)) fun h1 => ev_andV (ev_isprint (ev_var rfl)) fun h2 => ev_op (ev_trans (ev_var rfl) ?_ hz) (ev_var rfl) rv_eqS) ?_) q
    · rw [isascii_tl] at h1
      exact fun c hc => of_decide_eq_true (List.all_eq_true.mp h1 c hc)
    · rw [plain_eq]
theorem ok_is_word (T : Mg mg) (c_consists_of : Call P w K mg base 1 "consists_of" ["text", "signs"] (sp2 fun z s => .bl (allIn z s))) (F : FnP K "is_word" s_is_word f fd) (gm : mg "is_word" = some (.ref f)) :
    Call P w K mg base 2 "is_word" ["text", "most"] (fun vs H Q _ => ∃ (z : Str) (m : Int), vs = [.str z, .int m] ∧ z.length ≤ 100000 ∧ RetV (.bl (wordB z m)) H Q) := by
  refine mk F gm (fun _ _ _ _ _ _ us hl => match us, hl with | [_, _], _ => rfl) (fun _ _ _ _ _ _ us hl => match us, hl with | [_, _], _ => rfl) sc_is_word (fun vs H Q E h => ?_) (fun cdv A outer s H vs Q E hr h => ?_)
  · obtain ⟨z, m, rfl, _⟩ := h
    rfl
  · obtain ⟨z, m, rfl, hz, q⟩ := h
    refine ⟨_, (pss_one (ps_ret (pe_and (pe_chain op_le op_le pe_int (pe_callB cz_len (by rfl) T.len (by decide +kernel) (pa_cons (pv 0) pa_nil)) (pv 1)) (pe_and (pe_cmpR op_inS (pe_ix ix_str (pv 0) pe_int (fun _ _ => rfl)) (pe_gc rfl T.LOWER) rfl) (pe_one (pe_f c_consists_of hr (by decide) rfl (pa_cons (pv 0) (pa_cons (pe_gc rfl T.WORD_SIGNS) pa_nil)))))))), ?_⟩
    refine s_ret (v := .bl (wordB z m)) (ev_andV (ev_chain ev_c (ev_lenStr (ev_var rfl) hz) (ev_var rfl)) fun h1 => ?_) q
    obtain ⟨c, e1, e2⟩ := item0 (z := z) (by have := (pl h1).1; omega)
    refine ev_andV (ev_is (ev_op (ev_ixS (ev_var rfl) ev_c hz e2) ev_c rv_in) ?_) fun h2 => ev_call (ea_cons (ev_var rfl) (ea_cons ev_c ea_nil)) (sv2 hz)
    unfold hdIn
    rw [e1]
theorem ok_is_field_name (T : Mg mg) (c_is_word : Call P w K mg base 2 "is_word" ["text", "most"] (fun vs H Q _ => ∃ (z : Str) (m : Int), vs = [.str z, .int m] ∧ z.length ≤ 100000 ∧ RetV (.bl (wordB z m)) H Q)) (F : FnP K "is_field_name" s_is_field_name f fd) (gm : mg "is_field_name" = some (.ref f)) :
    Call P w K mg base 3 "is_field_name" ["text"] (sp1 fun z => .bl (nameB z)) := by
  refine mk F gm (fun _ _ _ _ _ _ us hl => match us, hl with | [_], _ => rfl) (fun _ _ _ _ _ _ us hl => match us, hl with | [_], _ => rfl) sc_is_field_name (fun vs H Q E h => ?_) (fun cdv A outer s H vs Q E hr h => ?_)
  · obtain ⟨z, rfl, _⟩ := h
    rfl
  · obtain ⟨z, rfl, hz, q⟩ := h
    refine ⟨_, (pss_one (ps_ret (pe_and (pe_f c_is_word hr (by decide) rfl (pa_cons (pv 0) (pa_cons (pe_gc rfl T.MOST_NAME) pa_nil))) (pe_one (pe_cmpR op_ne (pv 0) pe_str (nomark _)))))), ?_⟩
    exact s_ret (v := .bl (nameB z)) (ev_andV (ev_call (ea_cons (ev_var rfl) (ea_cons ev_c ea_nil)) fun H1 e Q q E => ⟨z, 30, rfl, hz, q⟩) fun h1 => ev_op (ev_var rfl) ev_c rv_neS) q
theorem ok_is_value (T : Mg mg) (c_is_plain : Call P w K mg base 1 "is_plain" ["text"] (sp1 fun z => .bl (allIn z signs))) (F : FnP K "is_value" s_is_value f fd) (gm : mg "is_value" = some (.ref f)) :
    Call P w K mg base 2 "is_value" ["text"] (sp1 fun z => .bl (valueB z)) := by
  refine mk F gm (fun _ _ _ _ _ _ us hl => match us, hl with | [_], _ => rfl) (fun _ _ _ _ _ _ us hl => match us, hl with | [_], _ => rfl) sc_is_value (fun vs H Q E h => ?_) (fun cdv A outer s H vs Q E hr h => ?_)
  · obtain ⟨z, rfl, _⟩ := h
    rfl
  · obtain ⟨z, rfl, hz, q⟩ := h
    refine ⟨_, (pss_one (ps_ret (pe_and (pe_cmpR op_le (pe_callB cz_len (by rfl) T.len (by decide +kernel) (pa_cons (pv 0) pa_nil)) (pe_gc rfl T.MOST_VALUE) (nomark _)) (pe_and (pe_f c_is_plain hr (by decide) rfl (pa_cons (pv 0) pa_nil)) (pe_one (pe_cmpR op_eq (pe_bm PySem.F.plainAttrs_str PySem.F.slot_str_strip PySem.F.type_str_strip mz_strip (pv 0) (pa_cons pe_str pa_nil)) (pv 0) (nomark _))))))), ?_⟩
    exact s_ret (v := .bl (valueB z)) (ev_andV (ev_op (ev_lenStr (ev_var rfl) hz) ev_c rv_I0) fun h1 => ev_andV (ev_call (ea_cons (ev_var rfl) ea_nil) (sv1 hz)) fun h2 => ev_op (ev_strip (ev_var rfl) ev_c hz) (ev_var rfl) rv_eqS) q
theorem ok_law_letters (T : Mg mg) (F : FnP K "_law_letters" s_law_letters f fd) (gm : mg "_law_letters" = some (.ref f)) : Call P w K mg base 1 "_law_letters" [] (sp0 (.str letters)) := by
  refine mk F gm (fun _ _ _ _ _ _ us hl => match us, hl with | [], _ => rfl) (fun _ _ _ _ _ _ us hl => match us, hl with | [], _ => rfl) sc_law_letters (fun vs H Q E h => ?_) (fun cdv A outer s H vs Q E hr h => ?_)
  · obtain ⟨rfl, _⟩ := h
    rfl
  · obtain ⟨rfl, q⟩ := h
    refine ⟨_, (pss_one (ps_ret pe_str)), ?_⟩
    exact s_ret (v := .str letters) ev_c q
theorem ok_law_signs (T : Mg mg) (F : FnP K "_law_signs" s_law_signs f fd) (gm : mg "_law_signs" = some (.ref f)) : Call P w K mg base 1 "_law_signs" [] (sp0 (.str signs)) := by
  refine mk F gm (fun _ _ _ _ _ _ us hl => match us, hl with | [], _ => rfl) (fun _ _ _ _ _ _ us hl => match us, hl with | [], _ => rfl) sc_law_signs (fun vs H Q E h => ?_) (fun cdv A outer s H vs Q E hr h => ?_)
  · obtain ⟨rfl, _⟩ := h
    rfl
  · obtain ⟨rfl, q⟩ := h
    refine ⟨_, (pss_cons (ps_set (i := 0) sc_law_signs.nd rfl (Or.inl rfl) pe_str)
    (pss_one (ps_ret (pe_op oz_add (pv 0) pe_str)))), ?_⟩
    exact q_asg ev_c fun H1 e1 => s_ret (v := .str signs) (ev_op (ev_var rfl) ev_c (rv_addS (by decide +kernel))) fun H2 e2 => q H2 (e1.trans e2)
theorem ok_law_bag (T : Mg mg) (F : FnP K "_law_bag" s_law_bag f fd) (gm : mg "_law_bag" = some (.ref f)) : Call P w K mg base 1 "_law_bag" ["script", "k"] (spBg K) := by
  refine mk F gm (fun _ _ _ _ _ _ us hl => match us, hl with | [_, _], _ => rfl) (fun _ _ _ _ _ _ us hl => match us, hl with | [_, _], _ => rfl) sc_law_bag (fun vs H Q E h => ?_) (fun cdv A outer s H vs Q E hr h => ?_)
  · obtain ⟨a, ns, i, rfl, _⟩ := h
    rfl
  · obtain ⟨a, ns, i, rfl, hS, hl, hi, hb, q⟩ := h
    refine ⟨_, (pss_cons (ps_if (pt_not (pt_truth (pv 0) (by intro _; rfl)))
      (pss_one (ps_ret (pe_lst (pa_cons pe_int (pa_cons pe_non (pa_cons pe_int pa_nil))))))
      pss_nil)
    (pss_cons (ps_set (i := 2) sc_law_bag.nd rfl (Or.inl rfl) (pe_op op_add (pe_op op_mod (pe_callTy cz_int1 (by rfl) T.int (by decide +kernel) (pa_cons (pe_callB (cr_sum rfl) (by rfl) T.sum (by decide +kernel) (pa_cons (pv 0) pa_nil)) pa_nil)) pe_int) (pe_op op_mul pe_int (pv 1))))
    (pss_cons (ps_if (pt_cmpR op_lt (pv 1) (pe_callB call_len_seq (by rfl) T.len (by decide +kernel) (pa_cons (pv 0) pa_nil)) (nomark _))
      (pss_one (ps_set (i := 2) sc_law_bag.nd rfl (Or.inl rfl) (pe_ix ix_list (pv 0) (pv 1) (fun _ _ => rfl))))
      pss_nil)
    (pss_one (ps_ret (pe_lst (pa_cons (pe_op op_sub (pe_callB cz_abs (by rfl) T.abs (by decide +kernel) (pa_cons (pv 2) pa_nil)) (pe_op op_pow pe_int pe_int)) (pa_cons (pv 2) (pa_cons pe_int pa_nil))))))))), ?_⟩
    have hbig : ∀ m : Int, m.natAbs ≤ 2000000 → m.natAbs < 2 ^ cap := fun m hm => Nat.lt_of_le_of_lt hm (Nat.lt_of_lt_of_le (show 2000000 < 2 ^ 64 by decide) (Nat.pow_le_pow_right (by decide) (by unfold cap; decide)))
    have last : ∀ (cell : Int) (H1 : Hp), Ex H H1 → cell.natAbs < 2 ^ cap → (tRet (tLst (tCons (tOp (rI0 fun i j => .int (i - j)) (tCB (fun xs H Q => ∃ i, xs = [.int i] ∧ Q (.int (if i < 0 then -i else i)) H) (tCons (tVar 2) tNil)) (tOp (rI CPow fun i j => .int (i ^ j.toNat)) (tC (.int 10)) (tC (.int 18)))) (tCons (tVar 2) (tCons (tC (.int 0)) tNil))))) { nx := fun _ H' => Q .non H', rt := Q } [some (.ref a), some (.int (i : Int)), some (.int cell)] H1 := fun cell H1 e1 hc => by
      refine ⟨.int cell, rfl, cell, rfl, 10, 18, rfl, rfl, ⟨by decide, by decide, by decide⟩, _, _, rfl, rfl, .int cell, rfl, by show 3 ≤ sizeLine; decide, fun p hp => q p _ (fresh_back e1 hp) (e1.trans (Ex.new hp)) ⟨_, _, 0, upd_same, .inr ⟨cell, rfl, hc⟩⟩⟩
    cases ns with
    | nil =>
      refine ⟨.ref a, rfl, false, .inl ⟨[], hS, rfl⟩, iteT ?_⟩
      exact ⟨by show 3 ≤ sizeLine; decide, fun p hp => q p _ hp (Ex.new hp) ⟨0, .non, 0, upd_same, .inl rfl⟩⟩
    | cons c0 r =>
      refine ⟨.ref a, rfl, true, .inl ⟨_, hS, rfl⟩, iteF ?_⟩
      refine ⟨.ref a, rfl, a, c0 :: r, rfl, hS, .inl ⟨_, rfl, _, _, rfl, rfl, (by show (0 : Int) < 1000003; decide), .int (i : Int), rfl, _, _, rfl, rfl, .inl ⟨by decide, by decide⟩, _, _, rfl, rfl, ?_⟩⟩
      have hm : 0 ≤ (c0 :: r).sum % 1000003 ∧ (c0 :: r).sum % 1000003 < 1000003 := ⟨Int.emod_nonneg _ (by decide), Int.emod_lt_of_pos _ (by decide)⟩
      generalize (c0 :: r).sum % 1000003 = m at hm ⊢
      refine ⟨.int (i : Int), rfl, .ref a, rfl, a, (c0 :: r).map V.int, rfl, .inl hS, _, _, rfl, rfl, _, rfl, ite2 (fun hlt => ?_) (fun hge => ?_)⟩
      · have hlt := of_decide_eq_true hlt
        rw [List.length_map] at hlt
        have hi2 : i < (c0 :: r).length := by omega
        refine ⟨.ref a, rfl, .int (i : Int), rfl, a, (c0 :: r).map V.int, _, .int (c0 :: r)[i], rfl, rfl, hS, atI_nat (by rw [List.getElem?_map, List.getElem?_eq_getElem hi2]; rfl), ?_⟩
        exact last _ H (Ex.refl H) (hb _ (List.getElem_mem hi2))
      · exact last _ H (Ex.refl H) (hbig _ (by omega))
theorem ok_law_draw (T : Mg mg) (F : FnP K "_law_draw" s_law_draw f fd) (gm : mg "_law_draw" = some (.ref f)) : Call P w K mg base 1 "_law_draw" ["bag", "size"] spDr := by
  refine mk F gm (fun _ _ _ _ _ _ us hl => match us, hl with | [_, _], _ => rfl) (fun _ _ _ _ _ _ us hl => match us, hl with | [_, _], _ => rfl) sc_law_draw (fun vs H Q E h => ?_) (fun cdv A outer s H vs Q E hr h => ?_)
  · obtain ⟨p, size, rfl, _⟩ := h
    rfl
  · obtain ⟨p, size, rfl, ⟨c0, cv, c2, hp, hc⟩, hs1, hs2, q⟩ := h
    refine ⟨_, (pss_cons (ps_if (PW.pt (pw_or (pt_cmpR op_lt (pv 1) pe_int (nomark _)) (pw_or1 (pt_cmpR op_isN1 (pe_ix ix_list (pv 0) pe_int (fun _ _ => rfl)) pe_non (nomark _)))))
      (pss_one (ps_ret pe_int))
      pss_nil)
    (pss_cons (ps_asg (pe_op op_add (pe_ix ix_list (pv 0) pe_int (fun _ _ => rfl)) pe_int) (pg_sub (pv 0) pe_int set_list))
    (pss_cons (ps_if (pt_cmpR op_gt (pe_ix ix_list (pv 0) pe_int (fun _ _ => rfl)) pe_int (nomark _))
      (pss_cons (ps_set (i := 2) sc_law_draw.nd rfl (Or.inl rfl) (pe_op op_mod (pe_callTy cz_int1 (by rfl) T.int (by decide +kernel) (pa_cons (pe_ix ix_list (pv 0) pe_int (fun _ _ => rfl)) pa_nil)) (pv 1)))
      (pss_cons (ps_asg (pe_op op_fdivW (pe_ix ix_list (pv 0) pe_int (fun _ _ => rfl)) (pv 1)) (pg_sub (pv 0) pe_int set_list))
      (pss_one (ps_ret (pv 2)))))
      pss_nil)
    (pss_cons (ps_set (i := 3) sc_law_draw.nd rfl (Or.inl rfl) (pe_op op_mod (pe_callTy cz_int1 (by rfl) T.int (by decide +kernel) (pa_cons (pe_op op_add (pe_op op_add (pe_op op_mulX (pe_ix ix_list (pv 0) pe_int (fun _ _ => rfl)) pe_int) (pe_op op_mul (pe_ix ix_list (pv 0) pe_int (fun _ _ => rfl)) pe_int)) pe_int) pa_nil)) pe_int))
    (pss_cons (ps_set (i := 4) sc_law_draw.nd rfl (Or.inl rfl) (pe_op op_mod (pe_callTy cz_int1 (by rfl) T.int (by decide +kernel) (pa_cons (pe_op op_add (pe_op op_mul (pv 3) (pv 3)) (pe_op op_mul (pe_ix ix_list (pv 0) pe_int (fun _ _ => rfl)) pe_int)) pa_nil)) pe_int))
    (pss_cons (ps_set (i := 5) sc_law_draw.nd rfl (Or.inl rfl) (pe_op op_mod (pe_callTy cz_int1 (by rfl) T.int (by decide +kernel) (pa_cons (pe_op op_add (pe_op op_mul (pv 4) (pv 4)) (pe_op op_mul (pv 3) pe_int)) pa_nil)) pe_int))
    (pss_one (ps_ret (pe_op op_mod (pe_callTy cz_int1 (by rfl) T.int (by decide +kernel) (pa_cons (pe_op op_fdiv (pv 5) pe_int) pa_nil)) (pv 1)))))))))), ?_⟩
    by_cases h2 : size < 2
    · refine q_when (b := true) (et_is (et_or (a := true) (et_is (et_test (ev_op (ev_var rfl) ev_c rv_I0)) (decide_eq_true h2)) fun h => nomatch h) (Bool.true_or false)) (fun _ H1 e1 => ?_) (fun h => nomatch h)
      exact s_ret ev_c fun H2 e2 => q 0 H2 (Int.le_refl 0) (by omega) ⟨c0, cv, c2, e2 _ _ (e1 _ _ hp), hc⟩ (Keep.of (e1.trans e2))
    · rcases hc with rfl | ⟨c, rfl, hc⟩
      · refine q_when (b := true) (et_is (et_or (et_test (ev_op (ev_var rfl) ev_c rv_I0)) fun _ => et_test (ev_op (ev_op (ev_var rfl) ev_c (rv_ixL (sq_of hp) (atI_nat (j := 1) rfl))) ev_c rv_isN)) (by rw [decide_eq_true (rfl : V.non = V.non), Bool.or_true])) (fun _ H1 e1 => ?_) (fun h => nomatch h)
        exact s_ret ev_c fun H2 e2 => q 0 H2 (Int.le_refl 0) (by omega) ⟨c0, _, c2, e2 _ _ (e1 _ _ hp), .inl rfl⟩ (Keep.of (e1.trans e2))
      · refine q_when (b := false) (et_is (et_or (et_test (ev_op (ev_var rfl) ev_c rv_I0)) fun _ => et_test (ev_op (ev_op (ev_var rfl) ev_c (rv_ixL (sq_of hp) (atI_nat (j := 1) rfl))) ev_c rv_isN)) (by rw [decide_eq_false h2, decide_eq_false (show ¬ V.int c = V.non from fun h => nomatch h)]; rfl)) (fun h => nomatch h) (fun _ H1 e1 => ?_)
        refine q_setL (j := 2) (e1 _ _ hp) (ev_op (ev_op (ev_var rfl) ev_c (rv_ixL (sq_of (e1 _ _ hp)) (atI_nat (j := 2) rfl))) ev_c rv_I0) (ev_var rfl) ev_c (by show 2 < 3; decide) fun H2 e2 => ?_
        have hp2 : (upd H2 p (.lst ([V.int c0, .int c, .int c2].set 2 (.int (c2 + 1))))) p = some (.lst [.int c0, .int c, .int (c2 + 1)]) := upd_same
        have k2 : Keep p H (upd H2 p (.lst ([V.int c0, .int c, .int c2].set 2 (.int (c2 + 1))))) := (Keep.of (e1.trans e2)).upd
        generalize upd H2 p (.lst ([V.int c0, .int c, .int c2].set 2 (.int (c2 + 1)))) = H3 at hp2 k2 ⊢
        refine q_when (et_test (ev_op (ev_op (ev_var rfl) ev_c (rv_ixL (sq_of hp2) (atI_nat (j := 0) rfl))) ev_c rv_I0)) (fun hb H4 e4 => ?_) (fun hb H4 e4 => ?_)
        · refine q_asg (ev_op (ev_int1 (ev_op (ev_var rfl) ev_c (rv_ixL (sq_of (e4 _ _ hp2)) (atI_nat (j := 0) rfl)))) (ev_var rfl) (rv_I (by show 0 < size; omega))) fun H5 e5 => ?_
          refine q_setL (j := 0) (e5 _ _ (e4 _ _ hp2)) (ev_op (ev_op (ev_var rfl) ev_c (rv_ixL (sq_of (e5 _ _ (e4 _ _ hp2))) (atI_nat (j := 0) rfl))) (ev_var rfl) (rv_I (wide_div (b := 64) (by omega) (by omega) (by decide) (by decide)))) (ev_var rfl) ev_c (by show 0 < 3; decide) fun H6 e6 => ?_
          refine s_ret (ev_var rfl) fun H7 e7 => q _ H7 (Int.emod_nonneg _ (by omega)) (Int.emod_lt_of_pos _ (by omega)) ⟨_, _, _, e7 _ _ upd_same, .inr ⟨c, rfl, hc⟩⟩ ?_
          exact ((k2.trans (Keep.of (e4.trans (e5.trans e6)))).upd).trans (Keep.of e7)
        · have g := hc
          have hp4 := e4 _ _ hp2
          refine q_asg (ev_op (ev_int1 (ev_op (ev_op (ev_op (ev_op (ev_var rfl) ev_c (rv_ixL (sq_of hp4) (atI_nat (j := 1) rfl))) ev_c (rv_I (mulx_ok (a := cap) (b := 64) hc (by decide) (by unfold cap; decide)))) (ev_op (ev_op (ev_var rfl) ev_c (rv_ixL (sq_of hp4) (atI_nat (j := 2) rfl))) ev_c (rv_I (.inr ⟨by decide, by decide⟩))) rv_I0) ev_c rv_I0)) ev_c (rv_I (by show (0 : Int) < 2147483647; decide))) fun H5 e5 => ?_
          have b1 : 0 ≤ (c * 48271 + (c2 + 1) * 69621 + 11) % 2147483647 ∧ (c * 48271 + (c2 + 1) * 69621 + 11) % 2147483647 < 2147483647 := ⟨Int.emod_nonneg _ (by decide), Int.emod_lt_of_pos _ (by decide)⟩
          generalize (c * 48271 + (c2 + 1) * 69621 + 11) % 2147483647 = one at b1 ⊢
          have hp5 := e5 _ _ hp4
          refine q_asg (ev_op (ev_int1 (ev_op (ev_op (ev_var rfl) (ev_var rfl) (rv_I (.inl ⟨by omega, by omega⟩))) (ev_op (ev_op (ev_var rfl) ev_c (rv_ixL (sq_of hp5) (atI_nat (j := 2) rfl))) ev_c (rv_I (.inr ⟨by decide, by decide⟩))) rv_I0)) ev_c (rv_I (by show (0 : Int) < 2147483629; decide))) fun H6 e6 => ?_
          have b2 : 0 ≤ (one * one + (c2 + 1) * 7919) % 2147483629 ∧ (one * one + (c2 + 1) * 7919) % 2147483629 < 2147483629 := ⟨Int.emod_nonneg _ (by decide), Int.emod_lt_of_pos _ (by decide)⟩
          generalize (one * one + (c2 + 1) * 7919) % 2147483629 = two at b2 ⊢
          refine q_asg (ev_op (ev_int1 (ev_op (ev_op (ev_var rfl) (ev_var rfl) (rv_I (.inl ⟨by omega, by omega⟩))) (ev_op (ev_var rfl) ev_c (rv_I (.inr ⟨by decide, by decide⟩))) rv_I0)) ev_c (rv_I (by show (0 : Int) < 2147483587; decide))) fun H7 e7 => ?_
          refine s_ret (ev_op (ev_int1 (ev_op (ev_var rfl) ev_c (rv_I ⟨by decide, by decide⟩))) (ev_var rfl) (rv_I (by show 0 < size; omega))) fun H8 e8 => q _ H8 (Int.emod_nonneg _ (by omega)) (Int.emod_lt_of_pos _ (by omega)) ⟨_, _, _, e8 _ _ (e7 _ _ (e6 _ _ hp5)), .inr ⟨c, rfl, g⟩⟩ ?_
          exact k2.trans (Keep.of (e4.trans (e5.trans (e6.trans (e7.trans e8)))))
theorem ok_law_pick (T : Mg mg) (c_law_draw : CDr P w K mg base) (F : FnP K "_law_pick" s_law_pick f fd) (gm : mg "_law_pick" = some (.ref f)) : Call P w K mg base 2 "_law_pick" ["bag", "things"] spPk := by
  refine mk F gm (fun _ _ _ _ _ _ us hl => match us, hl with | [_, _], _ => rfl) (fun _ _ _ _ _ _ us hl => match us, hl with | [_, _], _ => rfl) sc_law_pick (fun vs H Q E h => ?_) (fun cdv A outer s H vs Q E hr h => ?_)
  · obtain ⟨p, l, xs, rfl, _⟩ := h
    rfl
  · obtain ⟨p, l, xs, rfl, hb, hlp, hl, h1, h2, q⟩ := h
    refine ⟨_, (pss_one (ps_ret (pe_ix ix_list (pv 1) (pe_f c_law_draw hr (by decide) rfl (pa_cons (pv 0) (pa_cons (pe_callB call_len_seq (by rfl) T.len (by decide +kernel) (pa_cons (pv 1) pa_nil)) pa_nil))) (fun _ _ => rfl)))), ?_⟩
    refine ⟨.ref l, rfl, .ref p, rfl, .ref l, rfl, l, xs, rfl, .inl (sq_of hl), p, xs.length, rfl, hb, by omega, by omega, fun d H' d0 d1 b' kp => ?_⟩
    obtain ⟨c, g1, g2⟩ := at_int (xs := xs) d0 d1
    exact ⟨l, xs, d, c, rfl, rfl, sq_of (kp _ _ hlp hl), g1, q c H' g2 b' kp⟩
theorem ok_law_most (T : Mg mg) (c_law_draw : CDr P w K mg base) (F : FnP K "_law_most" s_law_most f fd) (gm : mg "_law_most" = some (.ref f)) : Call P w K mg base 2 "_law_most" ["bag", "small", "large"] spMo := by
  refine mk F gm (fun _ _ _ _ _ _ us hl => match us, hl with | [_, _, _], _ => rfl) (fun _ _ _ _ _ _ us hl => match us, hl with | [_, _, _], _ => rfl) sc_law_most (fun vs H Q E h => ?_) (fun cdv A outer s H vs Q E hr h => ?_)
  · obtain ⟨p, a, b, rfl, _⟩ := h
    rfl
  · obtain ⟨p, a, b, rfl, hb, q⟩ := h
    refine ⟨_, (pss_cons (ps_if (pt_cmpR op_eq (pe_f c_law_draw hr (by decide) rfl (pa_cons (pv 0) (pa_cons pe_int pa_nil))) pe_int (nomark _))
      (pss_one (ps_ret (pv 2)))
      pss_nil)
    (pss_one (ps_ret (pv 1)))), ?_⟩
    refine rd_call (ea_cons (ev_var rfl) (ea_cons ev_c ea_nil)) fun H1 e1 => ⟨p, 8, rfl, hb.ex e1, by decide, by decide, fun d H' d0 d1 b' kp => ⟨rfl, _, rfl, ite2 (fun _ => ?_) (fun _ => ?_)⟩⟩
    · exact ⟨.int b, rfl, q b H' (.inr rfl) b' ((Keep.of e1).trans kp)⟩
    · exact ⟨.int a, rfl, q a H' (.inl rfl) b' ((Keep.of e1).trans kp)⟩
theorem ok_law_word (T : Mg mg) (c_law_draw : CDr P w K mg base) (F : FnP K "_law_word" s_law_word f fd) (gm : mg "_law_word" = some (.ref f)) : Call P w K mg base 2 "_law_word" ["bag", "signs", "least", "most"] spWd := by
  refine mk F gm (fun _ _ _ _ _ _ us hl => match us, hl with | [_, _, _, _], _ => rfl) (fun _ _ _ _ _ _ us hl => match us, hl with | [_, _, _, _], _ => rfl) sc_law_word (fun vs H Q E h => ?_) (fun cdv A outer s H vs Q E hr h => ?_)
  · obtain ⟨p, z, a, b, rfl, _⟩ := h
    rfl
  · obtain ⟨p, z, a, b, rfl, hb, h1, h2, h3, h4, h5, q⟩ := h
    refine ⟨_, (pss_cons (ps_set (i := 4) sc_law_word.nd rfl (Or.inl rfl) (pe_op op_add (pv 2) (pe_f c_law_draw hr (by decide) rfl (pa_cons (pv 0) (pa_cons (pe_op op_add (pe_op op_sub (pv 3) (pv 2)) pe_int) pa_nil)))))
    (pss_one (ps_ret (pe_bm PySem.F.plainAttrs_str PySem.F.slot_str_join PySem.F.type_str_join mz_join pe_str (pa_cons (pe_lc (own := [("k", 5)]) (g := gName 5) (tt := tYes) rfl sc_law_word.nd (pi_range1 rfl T.range (pa_cons (pv 4) pa_nil)) (blkOk_by (N := ["bag", "signs", "least", "most", "size", "k"]) (sc := L2.defScope s_law_word) (by decide +kernel)) (fun _ _ _ _ _ => pg_name (i := 5) sc_law_word.nd rfl (Or.inl rfl)) (fun _ _ _ _ _ => pts_nil) (fun _ _ _ _ _ => (pe_ix ix_str (pv 1) (pe_f c_law_draw hr (by decide) rfl (pa_cons (pv 0) (pa_cons (pe_callB cz_len (by rfl) T.len (by decide +kernel) (pa_cons (pv 1) pa_nil)) pa_nil))) (fun _ _ => rfl)))) pa_nil))))), ?_⟩
    refine ⟨.int a, rfl, rd_call (ea_cons (ev_var rfl) (ea_cons (ev_op (ev_op (ev_var rfl) (ev_var rfl) rv_I0) ev_c rv_I0) ea_nil)) fun H1 e1 => ⟨p, b - a + 1, rfl, hb.ex e1, by omega, by omega, fun d H2 d0 d1 b2 kp => ⟨a, d, rfl, rfl, ?_⟩⟩⟩
    have kp2 := (Keep.of e1).trans kp
    refine ⟨rfl, .int (a + d), rfl, a + d, rfl, by omega, by omega, fun D hD => ?_⟩
    have hDp : D ≠ p := b2.ne hD
    have hD0 : H D = none := b2.free kp2 hD
    refine lc_range (lo := 0) (n := (a + d).toNat) (fun i H' => ∃ acc : List Str, H' D = some (.lst (acc.map V.str)) ∧ acc.length = i ∧ (∀ y ∈ acc, y.length = 1 ∧ ∀ c ∈ tl y, c ∈ tl z) ∧ Bg H' p ∧ Keep p H H') ⟨[], upd_same, rfl, (fun _ h => by cases h), ?_, ?_⟩ (fun i H' hi pv => ?_) (fun H' pv => ?_)
    · exact b2.upd hDp
    · intro c o hc ho
      rw [upd_ne (ne_of_none ho hD0)]
      exact kp2 c o hc ho
    · obtain ⟨acc, hA, hl, hone, hbg, hk⟩ := pv
      refine ⟨rfl, ?_⟩
      unfold tYes
      dsimp only
      rw [if_pos rfl]
      refine ⟨.str z, rfl, rd_call (ea_cons (ev_var rfl) (ea_cons (ev_lenStr (ev_var rfl) (by omega)) ea_nil)) fun H3 e3 => ⟨p, z.length, rfl, hbg.ex e3, by omega, by omega, fun d' H4 d0' d1' b4 kp4 => ?_⟩⟩
      obtain ⟨c, g1, g2⟩ := at_int (xs := tl z) d0' (by rw [len_tl']; exact d1')
      have hA4 : H4 D = some (.lst (acc.map V.str)) := kp4 _ _ hDp (e3 _ _ hA)
      refine ⟨z, d', c, rfl, rfl, sz_of (by omega), g1, _, hA4, sz_lt (by rw [List.length_map]; omega), acc ++ [⟨#[c]⟩], ?_, ?_, ?_, ?_, ?_⟩
      · rw [upd_same, List.map_append]
        rfl
      · rw [List.length_append, hl]
        rfl
      · intro y hy
        rcases List.mem_append.mp hy with hy | hy
        · exact hone y hy
        · rw [List.mem_singleton.mp hy]
          refine ⟨rfl, fun x hx => ?_⟩
          have hx : x ∈ [c] := hx
          rw [List.mem_singleton.mp hx]
          exact g2
      · exact b4.upd hDp
      · intro b o hc ho
        rw [upd_ne (ne_of_none ho hD0)]
        exact kp4 _ _ hc (e3 _ _ (hk _ _ hc ho))
    · obtain ⟨acc, hA, hl, hone, hbg, hk⟩ := pv
      have hsum := sum_ones acc fun y hy => (hone y hy).1
      have e0 : (("" : Str)).length = 0 := by decide +kernel
      refine ⟨"", D, acc, rfl, rfl, .inl (sq_of hA), by rw [hsum, e0]; omega, q _ _ ?_ ?_ ?_ hbg hk⟩
      · have := lenTJ acc
        rw [hsum] at this
        omega
      · have := lenTJ acc
        rw [hsum] at this
        omega
      · intro c hc
        rw [tlTJ] at hc
        obtain ⟨y, hy, hcy⟩ := List.mem_flatMap.mp hc
        exact (hone y hy).2 c hcy
end
end Z
set_option maxHeartbeats 4000000
namespace Z
open PySem PySem.Spec PyProof.Rows L2 TL Evl NdefX
/-! ### bodies of classes, messages -/
/-- the base class of messages -/
structure Wb (K : PySem.W.Frag) (mg : Str → Option Value) (B : Addr) : Prop where
  m : mg "Message" = some (.ref B)
  rd : ClX.CRead K B (.type "type")
  mf : ∃ u, ClX.CVal K B (.type "type") "MOST_FIELDS" (.int 40) u
  mb : ∃ u, ClX.CVal K B (.type "type") "MOST_BODY" (.int 100000) u
/-- the class of responses -/
structure Ws (K : PySem.W.Frag) (mg : Str → Option Value) (R : Addr) : Prop where
  m : mg "Response" = some (.ref R)
  cls : Cls K R
  n1 : NoAttr K R "_first_line"
  n2 : NoAttr K R "_has_body"
  n3 : NoAttr K R "fields"
  n4 : NoAttr K R "body"
  n5 : NoAttr K R "status"
  rd : ClX.CRead K R (.type "type")
  st : ∃ p, ClX.CVal K R (.type "type") "STATUSES" (.ref p) (.ref p) ∧ ∀ H, SqT K H p (stL.map V.str)
def spAre : Sp := fun vs H Q _ => ∃ (q : Addr) (fs : Fs), vs = [.ref q] ∧ FsAt H q fs ∧ lenF fs ∧ fs.length ≤ 40000 ∧ RetV (.bl (areB fs)) H Q
def msFs (fl : Str) (hb : Bool) (v : V) (b : Str) : List (Str × V) := [("_first_line", .str fl), ("_has_body", .bl hb), ("fields", v), ("body", .str b)]
def rsFs (fl : Str) (hb : Bool) (v : V) (b s : Str) : List (Str × V) := [("_first_line", .str fl), ("_has_body", .bl hb), ("fields", v), ("body", .str b), ("status", .str s)]
theorem ms_put (fl : Str) (hb : Bool) (v : V) (b : Str) : putF "body" (.str b) (putF "fields" v (putF "_has_body" (.bl hb) (putF "_first_line" (.str fl) []))) = msFs fl hb v b := by rfl
theorem rs_put (fl : Str) (hb : Bool) (v : V) (b s : Str) : putF "status" (.str s) (msFs fl hb v b) = rsFs fl hb v b s := by rfl
/-- Message.__init__ on an object of the class R -/
def spMs (R : Addr) : Sp := fun vs H Q _ => ∃ (a dx q : Addr) (fl b : Str) (hb : Bool) (fs : Fs), vs = [.ref a, .str fl, .bl hb, .ref q, .str b] ∧ H a = some (.ins R dx []) ∧ FsAt H q fs ∧ areB fs = true ∧ b.length ≤ 100000 ∧ bodyB b = true ∧ (b = "" ∨ hb = true) ∧
  ∀ l H', H l = none → Keep a H H' → H' a = some (.ins R dx (msFs fl hb (.ref l) b)) → FsAt H' l fs → Q .non H'
def ansL (s : Str) : Str := [("answer " : Str), s].foldl (· ++ ·) Str.empty
def hasBd (s : Str) : Bool := !inV (.str s) ([("same" : Str), "done"].map V.str)
def okRs (s : Str) (fs : Fs) (b : Str) : Prop := s ∈ stL ∧ areB fs = true ∧ b.length ≤ 100000 ∧ bodyB b = true ∧ (b = "" ∨ hasBd s = true)
def spRs (R : Addr) : Sp := fun vs H Q _ => ∃ (a dx q : Addr) (s b : Str) (fs : Fs), vs = [.ref a, .str s, .ref q, .str b] ∧ H a = some (.ins R dx []) ∧ FsAt H q fs ∧ okRs s fs b ∧
  ∀ l H', H l = none → Keep a H H' → H' a = some (.ins R dx (rsFs (ansL s) (hasBd s) (.ref l) b s)) → FsAt H' l fs → Q .non H'
/-- an object of the class R with what Message.__init__ looks for -/
structure Wm (K : PySem.W.Frag) (R : Addr) : Prop where
  cls : Cls K R
  n1 : NoAttr K R "_first_line"
  n2 : NoAttr K R "_has_body"
  n3 : NoAttr K R "fields"
  n4 : NoAttr K R "body"
theorem Ws.wm {K : PySem.W.Frag} {mg : Str → Option Value} {R : Addr} (h : Ws K mg R) : Wm K R := ⟨h.cls, h.n1, h.n2, h.n3, h.n4⟩
/-- the class of requests -/
structure Wq (K : PySem.W.Frag) (mg : Str → Option Value) (R : Addr) : Prop where
  m : mg "Request" = some (.ref R)
  wm : Wm K R
  n5 : NoAttr K R "method"
  n6 : NoAttr K R "path"
  rd : ClX.CRead K R (.type "type")
  st : ∃ p, ClX.CVal K R (.type "type") "METHODS" (.ref p) (.ref p) ∧ ∀ H, SqT K H p (mdL.map V.str)
def exB (ex : List (Str × V)) : Prop := (∃ s : Str, ex = [(("status" : Str), V.str s)]) ∨ ∃ m p : Str, ex = [(("method" : Str), V.str m), (("path" : Str), V.str p)]
/-- a message -/
def MsgA (R : Addr) (H : Hp) (v : V) (fl : Str) (hb : Bool) (fs : Fs) (b : Str) : Prop := ∃ a dx l ex, v = .ref a ∧ H a = some (.ins R dx (msFs fl hb (.ref l) b ++ ex)) ∧ exB ex ∧ FsAt H l fs
theorem MsgA.ex {R : Addr} {H H' : Hp} {v : V} {fl b : Str} {hb : Bool} {fs : Fs} (h : MsgA R H v fl hb fs b) (e : Ex H H') : MsgA R H' v fl hb fs b := by
  obtain ⟨a, dx, l, s, rfl, ha, hx, hf⟩ := h
  exact ⟨a, dx, l, s, rfl, e _ _ ha, hx, hf.ex e⟩
theorem ms_fields {fl b : Str} {hb : Bool} {l : Addr} {ex : List (Str × V)} : (msFs fl hb (.ref l) b ++ ex).lookup ("fields" : Str) = some (.ref l) := rfl
theorem ms_none {fl b : Str} {hb : Bool} {v : V} {ex : List (Str × V)} (h : exB ex) : (msFs fl hb v b ++ ex).lookup ("all_values" : Str) = none ∧ (msFs fl hb v b ++ ex).lookup ("joined" : Str) = none := by
  rcases h with ⟨s, rfl⟩ | ⟨m, p, rfl⟩
  · exact ⟨rfl, rfl⟩
  · exact ⟨rfl, rfl⟩
def asL (m p : Str) : Str := [("ask " : Str), m, " ", p].foldl (· ++ ·) Str.empty
def okRq (m p : Str) (fs : Fs) (b : Str) : Prop := m ∈ mdL ∧ pathB p = true ∧ p.length ≤ 60 ∧ areB fs = true ∧ b.length ≤ 100000 ∧ bodyB b = true ∧ (b = "" ∨ m = "put")
/-- Request(m, p, fields, body) -/
def spRq (R : Addr) : Sp := fun vs H Q _ => ∃ (a dx q : Addr) (m p b : Str) (fs : Fs), vs = [.ref a, .str m, .str p, .ref q, .str b] ∧ H a = some (.ins R dx []) ∧ FsAt H q fs ∧ okRq m p fs b ∧
  ∀ l H', H l = none → Keep a H H' → H' a = some (.ins R dx (msFs (asL m p) (decide (m = ("put" : Str))) (.ref l) b ++ [(("method" : Str), V.str m), (("path" : Str), V.str p)])) → FsAt H' l fs → Q .non H'
structure Mb (P : Program) (w : World) (K : PySem.W.Frag) (mg : Str → Option Value) (base : Heap) (B R : Addr) : Prop where
  ex : ∃ g fd, ZX.CFn K B (.type "type") "__init__" g ∧ FnOk P w K mg base CX0 5 g fd ["self", "first_line", "has_body", "fields", "body"] (spMs R) ∧ Binds K fd ["self", "first_line", "has_body", "fields", "body"] []
theorem sc_Mi : FnScope ["self", "first_line", "has_body", "fields", "body", "name", "value"] ["self", "first_line", "has_body", "fields", "body"] (L2.defScope s_Mi) := ⟨rfl, rfl, rfl, by decide +kernel, rfl, by decide +kernel, by decide +kernel⟩
theorem sc_Rs : FnScope ["self", "status", "fields", "body"] ["self", "status", "fields", "body"] (L2.defScope s_Rs) := ⟨rfl, rfl, rfl, by decide +kernel, rfl, by decide +kernel, by decide +kernel⟩
theorem st_len {s : Str} (h : s ∈ stL) : s.length ≤ 10 := by
  simp only [stL, List.mem_cons, List.not_mem_nil, or_false] at h
  rcases h with rfl | rfl | rfl | rfl | rfl | rfl | rfl | rfl | rfl <;> decide +kernel
section
variable {P : Program} {w : World} {K : PySem.W.Frag} {mg : Str → Option Value} {base : Heap} {f B R C L DV DM DH : Addr} {fd : FuncData} {k : Nat}
theorem ok_is_plain_lines (T : Mg mg) (c_is_plain : Call P w K mg base 1 "is_plain" ["text"] (sp1 fun z => .bl (allIn z signs))) (F : FnP K "is_plain_lines" s_is_plain_lines f fd) (gm : mg "is_plain_lines" = some (.ref f)) : Call P w K mg base 2 "is_plain_lines" ["text"] (sp1 fun z => .bl (linesB z)) := by
  refine mkT F gm (fun _ _ _ _ _ _ us hl => match us, hl with | [_], _ => rfl) (fun _ _ _ _ _ _ us hl => match us, hl with | [_], _ => rfl) sc_is_plain_lines (by decide +kernel) (by decide) (fun vs H Q E h => ?_) (fun cdv A outer s H vs Q E hr h => ?_)
  · obtain ⟨z, rfl, _⟩ := h
    rfl
  · obtain ⟨z, rfl, hz, q⟩ := h
    refine ⟨_, CwR.psst_one (CwR.pst_ret (pet_f c_is_plain hr (by decide) rfl (pat_cons (CwR.pet_replC (pv 0)) pat_nil))), ?_⟩
    refine s_ret (v := .bl (linesB z)) (ev_is (ev_call (ea_cons (ev_replC (ev_var rfl) hz) ea_nil) (sv1 (f := fun z => .bl (allIn z signs)) (Nat.le_trans (repl_len z) hz))) (congrArg V.bl (lines_eq z))) q
theorem ok_is_body (T : Mg mg) (MB : Wb K mg B) (c_is_plain_lines : Call P w K mg base 2 "is_plain_lines" ["text"] (sp1 fun z => .bl (linesB z))) (F : FnP K "is_body" s_is_body f fd) (gm : mg "is_body" = some (.ref f)) : Call P w K mg base 3 "is_body" ["text"] (sp1 fun z => .bl (bodyB z)) := by
  refine mk F gm (fun _ _ _ _ _ _ us hl => match us, hl with | [_], _ => rfl) (fun _ _ _ _ _ _ us hl => match us, hl with | [_], _ => rfl) sc_is_body (fun vs H Q E h => ?_) (fun cdv A outer s H vs Q E hr h => ?_)
  · obtain ⟨z, rfl, _⟩ := h
    rfl
  · obtain ⟨z, rfl, hz, q⟩ := h
    obtain ⟨u, hu⟩ := MB.mb
    refine ⟨_, (pss_one (ps_ret (pe_and (pe_cmpR op_le (pe_callB cz_len (by rfl) T.len (by decide +kernel) (pa_cons (pv 0) pa_nil)) (ClX.pe_cval (pe_gc (v := .ref B) rfl ⟨_, MB.m, rfl⟩)) (nomark _)) (pe_one (pe_f c_is_plain_lines hr (by decide) rfl (pa_cons (pv 0) pa_nil)))))), ?_⟩
    exact s_ret (v := .bl (bodyB z)) (ev_andV (ev_op (ev_lenStr (ev_var rfl) hz) (ev_cval ev_c MB.rd hu) rv_I0) fun _ => ev_call (ea_cons (ev_var rfl) ea_nil) (sv1 hz)) q
theorem ok_are_fields (T : Mg mg) (MB : Wb K mg B) (c_is_field_name : Call P w K mg base 3 "is_field_name" ["text"] (sp1 fun z => .bl (nameB z))) (c_is_value : Call P w K mg base 2 "is_value" ["text"] (sp1 fun z => .bl (valueB z))) (F : FnP K "are_fields" s_are_fields f fd) (gm : mg "are_fields" = some (.ref f)) :
    Call P w K mg base 4 "are_fields" ["fields"] spAre := by
  refine mk F gm (fun _ _ _ _ _ _ us hl => match us, hl with | [_], _ => rfl) (fun _ _ _ _ _ _ us hl => match us, hl with | [_], _ => rfl) sc_are_fields (fun vs H Q E h => ?_) (fun cdv A outer s H vs Q E hr h => ?_)
  · obtain ⟨q, fs, rfl, _⟩ := h
    rfl
  · obtain ⟨q, fs, rfl, ⟨xs, hx, hxr⟩, hln, hz, kq⟩ := h
    obtain ⟨u, hu⟩ := MB.mf
    refine ⟨_, (pss_cons (ps_if (pt_cmpR op_gt (pe_callB call_len_seq (by rfl) T.len (by decide +kernel) (pa_cons (pv 0) pa_nil)) (ClX.pe_cval (pe_gc (v := .ref B) rfl ⟨_, MB.m, rfl⟩)) (nomark _))
      (pss_one (ps_ret pe_bl))
      pss_nil)
    (pss_one (ps_ret (pe_callB (cr_all rfl) (by rfl) T.all (by decide +kernel) (pa_cons (pe_lc (own := [("name", 1), ("value", 2)]) (g := (gTup K 2 (gCons (gName 1) (gCons (gName 2) gNil)))) (tt := tYes) rfl sc_are_fields.nd (pi_list (pv 0)) (blkOk_by (N := ["fields", "name", "value"]) (sc := L2.defScope s_are_fields) (by decide +kernel)) (fun _ _ _ _ _ => pg_tup rfl (pgs_cons (pg_name (i := 1) sc_are_fields.nd rfl (Or.inl rfl)) (pgs_cons (pg_name (i := 2) sc_are_fields.nd rfl (Or.inl rfl)) pgs_nil))) (fun _ _ _ _ _ => pts_nil) (fun _ _ _ _ _ => (pe_and (pe_f c_is_field_name hr (by decide) rfl (pa_cons (pv 1) pa_nil)) (pe_one (pe_f c_is_value hr (by decide) rfl (pa_cons (pv 2) pa_nil)))))) pa_nil))))), ?_⟩
    refine q_when (b := decide (¬ fs.length ≤ 40)) (et_is (et_test (ev_op (ev_len (ev_var rfl) (sq_of hx)) (ev_cval ev_c MB.rd hu) rv_I0)) (decide_eq_decide.mpr (by rw [hxr.1]; omega))) (fun hb H1 e1 => ?_) (fun hb H1 e1 => ?_)
    · have h0 : areB fs = false := by
        unfold areB
        rw [decide_eq_false (of_decide_eq_true hb), Bool.false_and]
      refine s_ret ev_c fun H2 e2 => ?_
      have g := kq H2 (e1.trans e2)
      rw [h0] at g
      exact g
    · have h0 : areB fs = fs.all fieldB := by
        unfold areB
        rw [decide_eq_true (Decidable.not_not.mp (of_decide_eq_false hb)), Bool.true_and]
      refine s_ret (v := .bl (fs.all fieldB)) (all_ev (gB := fieldB) (ev_var rfl) (e1 _ _ hx) (hxr.mono fun _ _ m => TupAt.ex m e1) hz fun x o H2 hm e2 hxo k hk => ?_) fun H2 e2 => ?_
      · obtain ⟨t, rfl, ht⟩ := hxo
        obtain ⟨l1, l2⟩ := hln o hm
        refine ⟨t, _, rfl, st_of ht, rfl, _, _, rfl, _, _, rfl, rfl, rfl, ?_⟩
        exact (ev_andV (ev_call (ea_cons (ev_var rfl) ea_nil) (sv1 l1)) fun _ => ev_call (ea_cons (ev_var rfl) ea_nil) (sv1 l2)) H2 (Ex.refl H2) _ fun H3 e3 => hk H3 e3
      · have g := kq H2 (e1.trans e2)
        rw [h0] at g
        exact g
theorem ok_Mi (T : Mg mg) (WR : Wm K R) (c_are_fields : Call P w K mg base 4 "are_fields" ["fields"] spAre) (c_is_body : Call P w K mg base 3 "is_body" ["text"] (sp1 fun z => .bl (bodyB z)))
    (F : FunD K "__init__" "Message.__init__" (L2.defArgs s_Mi) (L2.defBody s_Mi) (L2.defScope s_Mi) [] [] f fd) : FnOk P w K mg base CX0 5 f fd ["self", "first_line", "has_body", "fields", "body"] (spMs R) := by
  refine FunD.ok F sc_Mi (fun vs H Q E h => ?_) (fun cdv A outer s H vs Q E hr h => ?_)
  · obtain ⟨a, dx, q, fl, b, hb, fs, rfl, _⟩ := h
    rfl
  · obtain ⟨a, dx, q, fl, b, hb, fs, rfl, ha, hf, hok, hbl, hbb, hbm, k⟩ := h
    obtain ⟨hln, hn⟩ := areB_len hok
    refine ⟨_, pss_cons (ps_if (pt_not (pt_val (pe_f c_are_fields hr (by decide) rfl (pa_cons (pv 3) pa_nil)))) (pss_one ZX.ps_never) pss_nil)
      (pss_cons (ps_if (PW.pt (pw_or (pt_not (pt_val (pe_f c_is_body hr (by decide) rfl (pa_cons (pv 4) pa_nil)))) (pw_or1 (PW.pt (pw_and (pt_cmpR op_ne (pv 4) pe_str (nomark _)) (pw_and1 (pt_not (pt_truth (pv 2) (by intro _; rfl)))))))))
        (pss_one ZX.ps_never) pss_nil)
      (pss_cons (ps_fld (pv 0) (pv 1) rfl)
      (pss_cons (ps_fld (pv 0) (pv 2) rfl)
      (pss_cons (ps_fld (pv 0) (pe_lc (own := [("name", 5), ("value", 6)]) (g := gTup K 2 (gCons (gName 5) (gCons (gName 6) gNil))) (tt := tYes) rfl sc_Mi.nd (pi_list (pv 3)) (blkOk_by (N := ["self", "first_line", "has_body", "fields", "body", "name", "value"]) (sc := L2.defScope s_Mi) (by decide +kernel)) (fun _ _ _ _ _ => pg_tup rfl (pgs_cons (pg_name (i := 5) sc_Mi.nd rfl (Or.inl rfl)) (pgs_cons (pg_name (i := 6) sc_Mi.nd rfl (Or.inl rfl)) pgs_nil))) (fun _ _ _ _ _ => pts_nil) (fun _ _ _ _ _ => pe_tup (pa_cons (pv 5) (pa_cons (pv 6) pa_nil)))) rfl)
      (pss_one (ps_fld (pv 0) (pv 4) rfl)))))), ?_⟩
    refine q_when (b := false) (et_is (et_not (et_B (ev_call (ea_cons (ev_var rfl) ea_nil) (z := .bl (areB fs)) fun H1 e Q' q' E' => ⟨q, fs, rfl, hf.ex e, hln, by omega, q'⟩))) (by rw [hok]; rfl)) (fun h => nomatch h) (fun _ H1 e1 => ?_)
    refine q_when (b := false) (et_is (et_or (a := false) (et_is (et_not (et_B (ev_call (ea_cons (ev_var rfl) ea_nil) (sv1 (f := fun z => .bl (bodyB z)) hbl)))) (by rw [hbb]; rfl)) fun _ => et_is (b := false) (et_and (et_test (ev_op (ev_var rfl) ev_c rv_neS)) fun _ => et_not (et_truB (ev_var rfl))) (by
      rcases hbm with h | h
      · rw [h, decide_eq_true rfl]; rfl
      · rw [h, Bool.not_true, Bool.and_false])) rfl) (fun h => nomatch h) (fun _ H2 e2 => ?_)
    have e12 := e1.trans e2
    have ha2 := e12 _ _ ha
    refine q_in ?_; dsimp only
    refine ⟨.str fl, rfl, .ref a, rfl, a, R, dx, [], rfl, ha2, WR.cls, WR.n1, by decide, ?_⟩
    refine q_in ?_; dsimp only
    refine ⟨.bl hb, rfl, .ref a, rfl, a, R, dx, _, rfl, upd_same, WR.cls, WR.n2, by show 1 < 1000; decide, ?_⟩
    refine q_in ?_; dsimp only
    have k2 : Keep a H (upd (upd H2 a (.ins R dx (putF "_first_line" (.str fl) []))) a (.ins R dx (putF "_has_body" (.bl hb) (putF "_first_line" (.str fl) [])))) := (Keep.of e12).upd.upd
    have f2 : FsAt (upd (upd H2 a (.ins R dx (putF "_first_line" (.str fl) []))) a (.ins R dx (putF "_has_body" (.bl hb) (putF "_first_line" (.str fl) [])))) q fs := ((hf.ex e12).updI ha2).updI upd_same
    have a2 : (upd (upd H2 a (.ins R dx (putF "_first_line" (.str fl) []))) a (.ins R dx (putF "_has_body" (.bl hb) (putF "_first_line" (.str fl) [])))) a = some (.ins R dx (putF "_has_body" (.bl hb) (putF "_first_line" (.str fl) []))) := upd_same
    have nl0 : ∀ l, (upd (upd H2 a (.ins R dx (putF "_first_line" (.str fl) []))) a (.ins R dx (putF "_has_body" (.bl hb) (putF "_first_line" (.str fl) [])))) l = none → l ≠ a ∧ H l = none := fun l hl => by
      have na : l ≠ a := fun e => by
        rw [e, a2] at hl
        cases hl
      rw [upd_ne na, upd_ne na] at hl
      exact ⟨na, fresh_back e12 hl⟩
    generalize upd (upd H2 a (.ins R dx (putF "_first_line" (.str fl) []))) a (.ins R dx (putF "_has_body" (.bl hb) (putF "_first_line" (.str fl) []))) = H3 at k2 f2 a2 nl0
    refine g_fld (fields_new (by rfl) f2 (by omega) (by intro _ _; rfl) (by intro _ _; rfl) (by intro _ _; rfl) fun l H4 nl e4 hl => ?_)
    obtain ⟨nla, nlH⟩ := nl0 l nl
    have a4 := e4 _ _ a2
    refine ⟨.ref a, rfl, a, R, dx, _, rfl, a4, WR.cls, WR.n3, by show 2 < 1000; decide, ?_⟩
    refine ⟨.str b, rfl, .ref a, rfl, a, R, dx, _, rfl, upd_same, WR.cls, WR.n4, by show 3 < 1000; decide, ?_⟩
    exact k l _ nlH ((k2.trans (Keep.of e4)).upd.upd) (by rw [upd_same, ms_put]) ((hl.updI a4).updI upd_same)
end
end Z
set_option maxHeartbeats 4000000
namespace Z
open PySem PySem.Spec PyProof.Rows L2 TL Evl NdefX
theorem sc_Ri : FnScope ["self", "method", "path", "fields", "body"] ["self", "method", "path", "fields", "body"] (L2.defScope s_Ri) := ⟨rfl, rfl, rfl, by decide +kernel, rfl, by decide +kernel, by decide +kernel⟩
theorem sc_Pm : FnScope ["self"] ["self"] (L2.defScope s_Pm) := ⟨rfl, rfl, rfl, by decide +kernel, rfl, by decide +kernel, by decide +kernel⟩
theorem sc_Ps : FnScope ["self"] ["self"] (L2.defScope s_Ps) := ⟨rfl, rfl, rfl, by decide +kernel, rfl, by decide +kernel, by decide +kernel⟩
section
variable {R q : Addr} {H : Hp} {s m p b : Str} {fs : Fs} {vs dvs : List V} {Q : VK} {E : XK}
theorem ri_rs (hv : vs ++ dvs = [.str s, .ref q, .str b]) (hf : FsAt H q fs) (hok : okRs s fs b) (k : ∀ v H', Ex H H' → MsgA R H' v (ansL s) (hasBd s) fs b → Q v H') :
    ∀ x dx, H x = none → H dx = none → dx ≠ x → spRs R (.ref x :: (vs ++ dvs)) (upd (upd H dx (.own x)) x (.ins R dx [])) (fun v H2 => v = .non ∧ Q (.ref x) H2) E := fun x dx hx hd hne => by
  have e0 : Ex H (upd (upd H dx (.own x)) x (.ins R dx [])) := fun c o hc => by
    rw [upd_ne (ne_of_none hc hx), upd_ne (ne_of_none hc hd)]
    exact hc
  exact ⟨x, dx, q, s, b, fs, by rw [hv], upd_same, hf.ex e0, hok, fun l H' nl kp h1 h2 => ⟨rfl, k _ H' (fun c o hc => kp c o (ne_of_none hc hx) (e0 c o hc)) ⟨x, dx, l, _, rfl, h1, Or.inl ⟨_, rfl⟩, h2⟩⟩⟩
theorem ri_rq (hv : vs ++ dvs = [.str m, .str p, .ref q, .str b]) (hf : FsAt H q fs) (hok : okRq m p fs b) (k : ∀ v H', Ex H H' → MsgA R H' v (asL m p) (decide (m = ("put" : Str))) fs b → Q v H') :
    ∀ x dx, H x = none → H dx = none → dx ≠ x → spRq R (.ref x :: (vs ++ dvs)) (upd (upd H dx (.own x)) x (.ins R dx [])) (fun v H2 => v = .non ∧ Q (.ref x) H2) E := fun x dx hx hd hne => by
  have e0 : Ex H (upd (upd H dx (.own x)) x (.ins R dx [])) := fun c o hc => by
    rw [upd_ne (ne_of_none hc hx), upd_ne (ne_of_none hc hd)]
    exact hc
  exact ⟨x, dx, q, m, p, b, fs, by rw [hv], upd_same, hf.ex e0, hok, fun l H' nl kp h1 h2 => ⟨rfl, k _ H' (fun c o hc => kp c o (ne_of_none hc hx) (e0 c o hc)) ⟨x, dx, l, _, rfl, h1, Or.inr ⟨_, _, rfl⟩, h2⟩⟩⟩
end
theorem m_len {m : Str} (h : m ∈ mdL) : m.length ≤ 10 := by
  simp only [mdL, List.mem_cons, List.not_mem_nil, or_false] at h
  rcases h with rfl | rfl | rfl <;> decide +kernel
theorem st_in {s : Str} (h : s ∈ stL) : inV (.str s) (stL.map V.str) = true := by
  simp only [stL, List.mem_cons, List.not_mem_nil, or_false] at h
  rcases h with rfl | rfl | rfl | rfl | rfl | rfl | rfl | rfl | rfl <;> decide +kernel
section
variable {P : Program} {w : World} {K : PySem.W.Frag} {mg : Str → Option Value} {base : Heap} {f B R C L DV DM DH : Addr} {fd : FuncData} {k : Nat}
theorem ok_Rs (T : Mg mg) (WB : Wb K mg B) (WR : Ws K mg R) (MB : Mb P w K mg base B R) {dvs : List V} (F : FunD K "__init__" "Response.__init__" (L2.defArgs s_Rs) (L2.defBody s_Rs) (L2.defScope s_Rs) dvs [] f fd) : FnOk P w K mg base CX0 6 f fd ["self", "status", "fields", "body"] (spRs R) := by
  obtain ⟨gM, fM, CF, FM, bM⟩ := MB.ex
  refine FunD.ok F sc_Rs (fun vs H Q E h => ?_) (fun cdv A outer s H vs Q E hr h => ?_)
  · obtain ⟨a, dx, q, s, b, fs, rfl, _⟩ := h
    rfl
  · obtain ⟨a, dx, q, st, b, fs, rfl, ha, hf, ⟨hm, hok, hbl, hbb, hbm⟩, k⟩ := h
    obtain ⟨pm, hmt, hmT⟩ := WR.st
    refine ⟨_, pss_cons (ps_if (pt_cmpR op_notIn_seq (pv 1) (ClX.pe_cval (pe_gc (v := .ref R) rfl ⟨_, WR.m, rfl⟩)) rfl) (pss_one ZX.ps_never) pss_nil)
      (pss_cons (ps_expr (ZX.pe_clsFn (E := fun _ => E0) (pe_gc (v := .ref B) rfl ⟨_, WB.m, rfl⟩) CF FM bM (hr.mono (by decide)) (fun σ pins H s e s' I c => pass0 pins σ H s e s' I c) (pa_cons (pv 0) (pa_cons (pe_joined (.cons pe_str (.cons (pe_fmt (pv 1)) .nil))) (pa_cons (pe_cmpR op_notIn_seq (pv 1) (pe_tup (pa_cons pe_str (pa_cons pe_str pa_nil))) rfl) (pa_cons (pv 2) (pa_cons (pv 3) pa_nil)))))))
      (pss_one (ps_fld (pv 0) (pv 1) rfl))), ?_⟩
    have hml := st_len hm
    refine q_when (b := false) (et_is (et_test (ev_op (ev_var rfl) (ev_cval ev_c WR.rd hmt) (rv_niT (hmT H) rfl rfl))) (by rw [st_in hm]; rfl)) (fun h => nomatch h) (fun _ H2 e12 => ?_)
    refine q_in ?_; dsimp only
    refine g_drop ?_
    refine ⟨rfl, ?_⟩
    have c4 : ("answer " : Str).length ≤ 100 := by decide +kernel
    refine (ea_cons (ev_var rfl) (ea_cons (ev_joined (zs := [("answer " : Str), st]) (x := ansL st) (ej_cons ev_c (ej_cons (ev_fmt (ev_var rfl) (by omega)) ej_nil)) (by simp only [List.map_cons, List.map_nil, List.sum_cons, List.sum_nil]; omega) rfl) (ea_cons (ev_niU (ev_var rfl) (eu_tup (ea_cons ev_c (ea_cons ev_c ea_nil)) (by decide)) rfl rfl) (ea_cons (ev_var rfl) (ea_cons (ev_var rfl) ea_nil))))) H2 (Ex.refl H2) _ fun H3 e3 => ?_
    have e13 := e12.trans e3
    refine ⟨a, dx, q, ansL st, b, hasBd st, fs, rfl, e13 _ _ ha, hf.ex e13, hok, hbl, hbb, hbm, fun l H4 nl k4 h4 hl => ?_⟩
    refine ⟨.str st, rfl, .ref a, rfl, a, R, dx, _, rfl, h4, WR.cls, WR.n5, by show 4 < 1000; decide, ?_⟩
    exact k l _ (fresh_back e13 nl) (((Keep.of e13).trans k4).upd) (by rw [upd_same, rs_put]) (hl.updI h4)
theorem ok_is_path (T : Mg mg) (c_consists_of : Call P w K mg base 1 "consists_of" ["text", "signs"] (sp2 fun z s => .bl (allIn z s))) (F : FnP K "is_path" s_is_path f fd) (gm : mg "is_path" = some (.ref f)) :
    Call P w K mg base 2 "is_path" ["text"] (sp1 fun z => .bl (pathB z)) := by
  refine mk F gm (fun _ _ _ _ _ _ us hl => match us, hl with | [_], _ => rfl) (fun _ _ _ _ _ _ us hl => match us, hl with | [_], _ => rfl) sc_is_path (fun vs H Q E h => ?_) (fun cdv A outer s H vs Q E hr h => ?_)
  · obtain ⟨z, rfl, _⟩ := h
    rfl
  · obtain ⟨z, rfl, hz, q⟩ := h
    refine ⟨_, (pss_one (ps_ret (pe_and (pe_chain op_le op_le pe_int (pe_callB cz_len (by rfl) T.len (by decide +kernel) (pa_cons (pv 0) pa_nil)) (pe_gc rfl T.MOST_PATH)) (pe_and (pe_cmpR op_eq (pe_ix ix_str (pv 0) pe_int (fun _ _ => rfl)) pe_str (nomark _)) (pe_one (pe_f c_consists_of hr (by decide) rfl (pa_cons (pv 0) (pa_cons (pe_gc rfl T.PATH_SIGNS) pa_nil)))))))), ?_⟩
    refine s_ret (v := .bl (pathB z)) (ev_andV (ev_chain ev_c (ev_lenStr (ev_var rfl) hz) ev_c) fun h1 => ?_) q
    obtain ⟨c, e1, e2⟩ := item0 (z := z) (by have := (pl h1).1; omega)
    have e3 : decide ((⟨#[c]⟩ : Str) = ("/" : Str)) = decide (hd z = some 47) := by
      rw [e1, show ("/" : Str) = ⟨#[47]⟩ by decide +kernel]
      by_cases h : c = 47
      · rw [h]; rfl
      · rw [decide_eq_false fun e => h ((one_eq _ _).mp e), decide_eq_false fun e => h (Option.some.inj e)]
    refine ev_andV (a := decide (hd z = some 47)) (ev_is (ev_op (ev_ixS (ev_var rfl) ev_c hz e2) ev_c rv_eqS) (congrArg V.bl e3)) fun h2 => ev_call (ea_cons (ev_var rfl) (ea_cons ev_c ea_nil)) (sv2 hz)
theorem ok_Ri (T : Mg mg) (WB : Wb K mg B) (WR : Wq K mg R) (MB : Mb P w K mg base B R) (c_is_path : Call P w K mg base 2 "is_path" ["text"] (sp1 fun z => .bl (pathB z)))
    {dvs : List V} (F : FunD K "__init__" "Request.__init__" (L2.defArgs s_Ri) (L2.defBody s_Ri) (L2.defScope s_Ri) dvs [] f fd) : FnOk P w K mg base CX0 6 f fd ["self", "method", "path", "fields", "body"] (spRq R) := by
  obtain ⟨gM, fM, CF, FM, bM⟩ := MB.ex
  refine FunD.ok F sc_Ri (fun vs H Q E h => ?_) (fun cdv A outer s H vs Q E hr h => ?_)
  · obtain ⟨a, dx, q, m, p, b, fs, rfl, _⟩ := h
    rfl
  · obtain ⟨a, dx, q, m, p, b, fs, rfl, ha, hf, ⟨hm, hp, hpl, hok, hbl, hbb, hbm⟩, k⟩ := h
    obtain ⟨pm, hmt, hmT⟩ := WR.st
    refine ⟨_, pss_cons (ps_if (pt_cmpR op_notIn_seq (pv 1) (ClX.pe_cval (pe_gc (v := .ref R) rfl ⟨_, WR.m, rfl⟩)) rfl) (pss_one ZX.ps_never) pss_nil)
      (pss_cons (ps_if (pt_not (pt_val (pe_f c_is_path hr (by decide) rfl (pa_cons (pv 2) pa_nil)))) (pss_one ZX.ps_never) pss_nil)
      (pss_cons (ps_expr (ZX.pe_clsFn (E := fun _ => E0) (pe_gc (v := .ref B) rfl ⟨_, WB.m, rfl⟩) CF FM bM (hr.mono (by decide)) (fun σ pins H s e s' I c => pass0 pins σ H s e s' I c) (pa_cons (pv 0) (pa_cons (pe_joined (.cons pe_str (.cons (pe_fmt (pv 1)) (.cons pe_str (.cons (pe_fmt (pv 2)) .nil))))) (pa_cons (pe_cmpR op_eq (pv 1) pe_str (nomark _)) (pa_cons (pv 3) (pa_cons (pv 4) pa_nil)))))))
      (pss_cons (ps_fld (pv 0) (pv 1) rfl) (pss_one (ps_fld (pv 0) (pv 2) rfl))))), ?_⟩
    have hml := m_len hm
    refine q_when (b := false) (et_is (et_test (ev_op (ev_var rfl) (ev_cval ev_c WR.rd hmt) (rv_niT (hmT H) rfl rfl))) (by
      have : inV (.str m) (mdL.map V.str) = true := by
        simp only [mdL, List.mem_cons, List.not_mem_nil, or_false] at hm
        rcases hm with rfl | rfl | rfl <;> decide +kernel
      rw [this]; rfl)) (fun h => nomatch h) (fun _ H1 e1 => ?_)
    refine q_when (b := false) (et_is (et_not (et_B (ev_call (ea_cons (ev_var rfl) ea_nil) (sv1 (f := fun z => .bl (pathB z)) (by omega))))) (by rw [hp]; rfl)) (fun h => nomatch h) (fun _ H2 e2 => ?_)
    have e12 := e1.trans e2
    refine q_in ?_; dsimp only
    refine g_drop ?_
    refine ⟨rfl, ?_⟩
    have c4 : ("ask " : Str).length ≤ 100 := by decide +kernel
    have c1 : (" " : Str).length ≤ 100 := by decide +kernel
    refine (ea_cons (ev_var rfl) (ea_cons (ev_joined (zs := [("ask " : Str), m, " ", p]) (x := asL m p) (ej_cons ev_c (ej_cons (ev_fmt (ev_var rfl) (by omega)) (ej_cons ev_c (ej_cons (ev_fmt (ev_var rfl) (by omega)) ej_nil)))) (by simp only [List.map_cons, List.map_nil, List.sum_cons, List.sum_nil]; omega) rfl) (ea_cons (ev_op (ev_var rfl) ev_c rv_eqS) (ea_cons (ev_var rfl) (ea_cons (ev_var rfl) ea_nil))))) H2 (Ex.refl H2) _ fun H3 e3 => ?_
    have e13 := e12.trans e3
    refine ⟨a, dx, q, asL m p, b, decide (m = "put"), fs, rfl, e13 _ _ ha, hf.ex e13, hok, hbl, hbb, ?_, fun l H4 nl k4 h4 hl => ?_⟩
    · exact hbm.imp id fun h => decide_eq_true h
    · refine q_in ?_; dsimp only
      refine ⟨.str m, rfl, .ref a, rfl, a, R, dx, _, rfl, h4, WR.wm.cls, WR.n5, by show 4 < 1000; decide, ?_⟩
      refine ⟨.str p, rfl, .ref a, rfl, a, R, dx, _, rfl, upd_same, WR.wm.cls, WR.n6, by show 5 < 1000; decide, ?_⟩
      exact k l _ (fresh_back e13 nl) (((Keep.of e13).trans k4).upd.upd) (by rw [upd_same]; rfl) ((hl.updI h4).updI upd_same)
/-- the properties -/
def spPs (R : Addr) : Sp := fun vs H Q _ => ∃ v fl hb fs b, vs = [v] ∧ MsgA R H v fl hb fs b ∧ RetV (.str fl) H Q
def spPm (R : Addr) : Sp := fun vs H Q _ => ∃ v fl hb fs b, vs = [v] ∧ MsgA R H v fl hb fs b ∧ RetV (.bl hb) H Q
theorem ok_Ps (WR : Wm K R) (F : FunD K "start" "Message.start" (L2.defArgs s_Ps) (L2.defBody s_Ps) (L2.defScope s_Ps) [] [] f fd) : FnOk P w K mg base CX0 1 f fd ["self"] (spPs R) := by
  refine FunD.ok F sc_Ps (fun vs H Q E h => ?_) (fun cdv A outer s H vs Q E hr h => ?_)
  · obtain ⟨v, fl, hb, fs, b, rfl, _⟩ := h
    rfl
  · obtain ⟨v, fl, hb, fs, b, rfl, ⟨a, dx, l, ex, rfl, ha, hx, hf⟩, q⟩ := h
    refine ⟨_, (pss_one (ps_ret (pe_fld (pv 0) rfl))), ?_⟩
    exact g_ret ⟨.ref a, rfl, a, R, dx, _, .str fl, rfl, ha, WR.cls, WR.n1, rfl, q H (Ex.refl H)⟩
theorem ok_Pm (WR : Wm K R) (F : FunD K "may_have_body" "Message.may_have_body" (L2.defArgs s_Pm) (L2.defBody s_Pm) (L2.defScope s_Pm) [] [] f fd) : FnOk P w K mg base CX0 1 f fd ["self"] (spPm R) := by
  refine FunD.ok F sc_Pm (fun vs H Q E h => ?_) (fun cdv A outer s H vs Q E hr h => ?_)
  · obtain ⟨v, fl, hb, fs, b, rfl, _⟩ := h
    rfl
  · obtain ⟨v, fl, hb, fs, b, rfl, ⟨a, dx, l, ex, rfl, ha, hx, hf⟩, q⟩ := h
    refine ⟨_, (pss_one (ps_ret (pe_fld (pv 0) rfl))), ?_⟩
    exact g_ret ⟨.ref a, rfl, a, R, dx, _, .bl hb, rfl, ha, WR.cls, WR.n2, rfl, q H (Ex.refl H)⟩
end
end Z
set_option maxHeartbeats 4000000
namespace Z
open PySem PySem.Spec PyProof.Rows L2 TL Evl NdefX
/-! ### the writer: lines of fields, pieces of a body -/
def fieldL (x : Str × Str) : Str := [x.1, ": ", x.2].foldl (· ++ ·) Str.empty
theorem fieldL_len (x : Str × Str) : (fieldL x).length = x.1.length + 2 + x.2.length := by
  unfold fieldL
  simp only [List.foldl_cons, List.foldl_nil, Str.length_append]
  rw [show (": " : Str).length = 2 by decide +kernel, show Str.empty.length = 0 by decide +kernel]
  omega
def spFl : Sp := fun vs H Q _ => ∃ q fs, vs = [.ref q] ∧ FsAt H q fs ∧ areB fs = true ∧ RetL ((fs.map fieldL).map V.str) H Q
/-- a body cut by sizes -/
def chP (b : Str) : List Int → Int → List Str
  | [], _ => []
  | s :: r, at_ => if at_ < (b.length : Int) then cutS b (some at_) (some (at_ + s)) :: chP b r (at_ + s) else chP b r at_
def spCt : Sp := fun vs H Q _ => ∃ b q ss, vs = [.str b, .ref q] ∧ H q = some (.lst (ss.map V.int)) ∧ b.length ≤ 10000 ∧ ss.length ≤ 1000 ∧ RetL ((chP b (ss ++ [(b.length : Int)]) 0).map V.str) H Q
section
variable {K : PySem.W.Frag} {σ : L2.St} {H : Hp} {ta : TA} {te : TE} {a : Addr} {xs ys : List V}
theorem ea_star (h : Ev te σ H (.ref a)) (hx : H a = some (.lst xs)) (r : EvA ta σ H ys) : EvA (StX.tStar K te ta) σ H (xs ++ ys) := fun H1 e Q q =>
  h H1 e _ fun H2 e2 => ⟨a, xs, rfl, .inr (sq_of ((e.trans e2) _ _ hx)), r H2 (e.trans e2) _ fun H3 e3 => q H3 (e2.trans e3)⟩
end
section
variable {P : Program} {w : World} {K : PySem.W.Frag} {mg : Str → Option Value} {base : Heap} {f : Addr} {fd : FuncData} {k : Nat}
theorem ok_field_lines (T : Mg mg) (F : FnP K "field_lines" s_field_lines f fd) (gm : mg "field_lines" = some (.ref f)) : Call P w K mg base 1 "field_lines" ["fields"] spFl := by
  refine mk F gm (fun _ _ _ _ _ _ us hl => match us, hl with | [_], _ => rfl) (fun _ _ _ _ _ _ us hl => match us, hl with | [_], _ => rfl) sc_field_lines (fun vs H Q E h => ?_) (fun cdv A outer s H vs Q E hr h => ?_)
  · obtain ⟨q, fs, rfl, _⟩ := h
    rfl
  · obtain ⟨l, fs, rfl, ⟨xs, hx, hr1⟩, hok, q⟩ := h
    refine ⟨_, (pss_one (ps_ret (pe_lc (own := [("name", 1), ("value", 2)]) (g := (gTup K 2 (gCons (gName 1) (gCons (gName 2) gNil)))) (tt := tYes) rfl sc_field_lines.nd (pi_list (pv 0)) (blkOk_by (N := ["fields", "name", "value"]) (sc := L2.defScope s_field_lines) (by decide +kernel)) (fun _ _ _ _ _ => pg_tup rfl (pgs_cons (pg_name (i := 1) sc_field_lines.nd rfl (Or.inl rfl)) (pgs_cons (pg_name (i := 2) sc_field_lines.nd rfl (Or.inl rfl)) pgs_nil))) (fun _ _ _ _ _ => pts_nil) (fun _ _ _ _ _ => (pe_joined (.cons (pe_fmt (pv 1)) (.cons pe_str (.cons (pe_fmt (pv 2)) .nil)))))))), ?_⟩
    obtain ⟨hl, hv⟩ := areB_val hok
    refine g_ret ?_
    refine ⟨.ref l, rfl, l, rfl, ⟨_, sq_of hx⟩, fun D hD => ?_⟩
    refine lc_rel (α := Str) (te := fun σ H Q => tJs [tFmt (tVar 1), tC (V.str ": "), tFmt (tVar 2)] Str.empty σ H fun out H1 => Q (.str out) H1) (fun i => (fs.take i).map fieldL) (fun _ v s => v = .str s) (fun _ _ _ _ _ _ h => h) (sq_of hx) hD rfl (by rw [hr1.1]; omega) (fun i x H3 hi e3 k k0 hk hk0 => ?_) (fun H3 ys e3 hy hrel => ?_)
    · obtain ⟨o, ho, t, rfl, ht⟩ := hr1.get hi
      have ht3 := e3 _ _ ht
      obtain ⟨v1, v2⟩ := hv o (List.mem_of_getElem? ho)
      have c2 : (": " : Str).length ≤ 100 := by decide +kernel
      refine ⟨t, _, rfl, st_of ht3, rfl, _, _, rfl, _, _, rfl, rfl, rfl, ?_⟩
      unfold tYes
      dsimp only
      rw [if_pos rfl]
      refine (ev_joined (zs := [o.1, ": ", o.2]) (x := fieldL o) (ej_cons (ev_fmt (ev_var rfl) (by omega)) (ej_cons ev_c (ej_cons (ev_fmt (ev_var rfl) (by omega)) ej_nil))) (by simp only [List.map_cons, List.map_nil, List.sum_cons, List.sum_nil]; omega) rfl) H3 (Ex.refl H3) _ fun H4 e4 => hk _ H4 _ e4 ?_ rfl
      rw [List.take_add_one, ho, List.map_append]
      rfl
    · rw [hr1.1, List.take_length] at hrel
      have ey : ys = (fs.map fieldL).map V.str := by
        refine List.ext_getElem (by rw [hrel.1]; simp) fun i h1 h2 => ?_
        rw [List.getElem_map]
        rw [List.length_map] at h2
        exact hrel.2 i _ _ (List.getElem?_eq_getElem h1) (List.getElem?_eq_getElem h2)
      rw [ey] at hy
      exact q D H3 hD e3 hy
theorem ok_chunk_texts (T : Mg mg) (F : FnP K "chunk_texts" s_chunk_texts f fd) (gm : mg "chunk_texts" = some (.ref f)) : Call P w K mg base 1 "chunk_texts" ["body", "sizes"] spCt := by
  refine mk F gm (fun _ _ _ _ _ _ us hl => match us, hl with | [_, _], _ => rfl) (fun _ _ _ _ _ _ us hl => match us, hl with | [_, _], _ => rfl) sc_chunk_texts (fun vs H Q E h => ?_) (fun cdv A outer s H vs Q E hr h => ?_)
  · obtain ⟨b, l, ss, rfl, _⟩ := h
    rfl
  · obtain ⟨b, l, ss, rfl, hl, hb, hss, q⟩ := h
    refine ⟨_, (pss_cons (ps_set (i := 2) sc_chunk_texts.nd rfl (Or.inl rfl) (pe_lst pa_nil))
    (pss_cons (ps_set (i := 3) sc_chunk_texts.nd rfl (Or.inl rfl) pe_int)
    (pss_cons (ps_for PassesOwn.never rfl (pi_list (pe_lst (StX.pa_star (pv 1) (pa_cons (pe_callB cz_len (by rfl) T.len (by decide +kernel) (pa_cons (pv 0) pa_nil)) pa_nil)))) (pg_name (i := 4) sc_chunk_texts.nd rfl (Or.inl rfl))
      (pss_one (ps_if (pt_cmpR op_lt (pv 3) (pe_callB cz_len (by rfl) T.len (by decide +kernel) (pa_cons (pv 0) pa_nil)) (nomark _))
        (pss_cons (ps_expr (pe_bm PySem.F.plainAttrs_list PySem.F.slot_list_append PySem.F.type_list_append mt_append (pv 2) (pa_cons (pe_slice sl_str (pv 0) (po_some (pv 3)) (po_some (pe_op op_add (pv 3) (pv 4)))) pa_nil)))
        (pss_one (ps_aug (i := 3) sc_chunk_texts.nd rfl (Or.inl rfl) (pv 4) ip_add)))
        pss_nil)))
    (pss_one (ps_ret (pv 2)))))), ?_⟩
    refine q_asgL (el_lst ea_nil (by decide)) fun p H1 np e1 h1 => q_asg ev_c fun H2 e2 => ?_
    have hl2 := e2 _ _ (e1 _ _ hl)
    have hp2 := e2 _ _ h1
    have hpl : p ≠ l := fun e => by rw [e, hl] at np; cases np
    generalize hX : ss ++ [(b.length : Int)] = X at q
    have hXl : X.length ≤ 1001 := by rw [← hX, List.length_append]; show _ + 1 ≤ _; omega
    refine q_forNLn (xs := X.map V.int) (by
        rw [← hX, List.map_append]
        exact el_lst (ea_star (ev_var rfl) hl2 (ea_cons (ev_lenStr (ev_var rfl) (by omega)) ea_nil)) (by simp only [List.length_append, List.length_map]; show _ + 1 ≤ _; omega))
      (fun d i σ' H' => ∃ (v : Option V) (acc : List Str) (at_ : Int), σ' = [some (.str b), some (.ref l), some (.ref p), some (.int at_), v] ∧ Ex H H' ∧ H' p = some (.lst (acc.map V.str)) ∧ H' d = some (.lst (X.map V.int)) ∧ d ≠ p ∧ acc.length ≤ i ∧ acc ++ chP b (X.drop i) at_ = chP b X 0)
      (fun d H3 nd e3 hd => ⟨none, [], 0, rfl, (e1.trans e2).trans e3, e3 _ _ hp2, hd, fun e => (by rw [e, hp2] at nd; cases nd), Nat.le_refl 0, rfl⟩) (fun d i σ' H' hi pv => ?_) (fun d i x σ' H' hi pv => ?_) (fun d σ' H' pv => ?_)
    · obtain ⟨v, acc, at_, rfl, e3, h3, hd, nd, hac, heq⟩ := pv
      exact sq_of hd
    · obtain ⟨v, acc, at_, rfl, e3, h3, hd, nd, hac, heq⟩ := pv
      obtain ⟨hi', rfl⟩ := at_intE hi
      have hlt : i < X.length := hi'
      have hdr : X.drop i = X[i] :: X.drop (i + 1) := List.drop_eq_getElem_cons hlt
      rw [hdr] at heq
      have hgd : X.getD i 0 = X[i] := by rw [List.getD_eq_getElem?_getD, List.getElem?_eq_getElem hlt]; rfl
      rw [hgd]
      refine s_if (b := decide (at_ < (b.length : Int))) (et_test (ev_op (ev_var rfl) (ev_lenStr (ev_var rfl) (by omega)) rv_I0)) (fun hc H4 e4 => ?_) (fun hc H4 e4 => ?_)
      · have hc := of_decide_eq_true hc
        refine q_app (xs := acc.map V.str) (e4 _ _ h3) (ev_var rfl) (ev_slS (lo := some at_) (hi := some (at_ + X[i])) (ev_var rfl) (eo_some (ev_var rfl)) (eo_some (ev_op (ev_var rfl) (ev_var rfl) rv_I0)) (by omega)) (by rw [List.length_map]; omega) fun H5 e5 => ?_
        refine s_aug rfl (ev_var rfl) fun H6 e6 => ?_
        refine ⟨_, acc ++ [cutS b (some at_) (some (at_ + X[i]))], at_ + X[i], rfl, (Ex.mut ((e3.trans e4).trans e5) np).trans e6, e6 _ _ ?_, e6 _ _ ?_, nd, by rw [List.length_append]; show _ + 1 ≤ _; omega, ?_⟩
        · rw [upd_same, List.map_append]
          rfl
        · rw [upd_ne nd]
          exact e5 _ _ (e4 _ _ hd)
        · rw [← heq]
          show _ = acc ++ (if at_ < _ then _ else _)
          rw [if_pos hc, List.append_assoc]
          rfl
      · have hc : ¬ at_ < (b.length : Int) := of_decide_eq_false hc
        refine ⟨_, acc, at_, rfl, e3.trans e4, e4 _ _ h3, e4 _ _ hd, nd, by omega, ?_⟩
        rw [← heq]
        show _ = acc ++ (if at_ < _ then _ else _)
        rw [if_neg hc]
    · obtain ⟨v, acc, at_, rfl, e3, h3, hd, nd, hac, heq⟩ := pv
      rw [List.length_map, List.drop_length] at heq
      have heq : acc = chP b X 0 := by rw [← heq]; exact (List.append_nil _).symm
      rw [heq] at h3
      exact s_ret (ev_var rfl) fun H4 e4 => q p H4 np (e3.trans e4) (e4 _ _ h3)
end
end Z
set_option maxHeartbeats 4000000
namespace Z
open PySem PySem.Spec PyProof.Rows L2 TL Evl NdefX
/-! ### messages of either class -/
theorem pe_either {X : Cx} {e : Expr} {t1 t2 : TE} (h1 : PE X e t1) (h2 : PE X e t2) : PE X e (fun σ H Q => t1 σ H Q ∨ t2 σ H Q) := ⟨fun pins s σ H Q I h => h.elim (h1.run pins s σ H Q I) (h2.run pins s σ H Q I)⟩
def isRq (st : Str) : Bool := Txt.startswith st "ask "
def mayB (st : Str) : Bool := if isRq st = true then Txt.startswith st "ask put " else !decide (st = "answer same") && !decide (st = "answer done")
def clO (RQ RS : Addr) (st : Str) : Addr := if isRq st = true then RQ else RS
def MgO (RQ RS : Addr) (H : Hp) (v : V) (st : Str) (fs : Fs) (b : Str) : Prop := MsgA (clO RQ RS st) H v st (mayB st) fs b
theorem MgO.ex {RQ RS : Addr} {H H' : Hp} {v : V} {st b : Str} {fs : Fs} (h : MgO RQ RS H v st fs b) (e : Ex H H') : MgO RQ RS H' v st fs b := MsgA.ex h e
structure Wo (K : PySem.W.Frag) (mg : Str → Option Value) (RQ RS : Addr) : Prop where
  mQ : mg "Request" = some (.ref RQ)
  mS : mg "Response" = some (.ref RS)
  q : Wm K RQ
  s : Wm K RS
  iq : ZX.InsC K RQ
  is : ZX.InsC K RS
  kq : PySem.W.kitOne K (.ref RQ) (.ref RQ) = some true
  ks : PySem.W.kitOne K (.ref RS) (.ref RQ) = some false
theorem Wo.cq {K : PySem.W.Frag} {mg : Str → Option Value} {RQ RS : Addr} (h : Wo K mg RQ RS) : Cls K RQ := h.q.cls
theorem Wo.cs {K : PySem.W.Frag} {mg : Str → Option Value} {RQ RS : Addr} (h : Wo K mg RQ RS) : Cls K RS := h.s.cls
theorem Wo.at_ {K : PySem.W.Frag} {mg : Str → Option Value} {RQ RS : Addr} (h : Wo K mg RQ RS) (st : Str) : Wm K (clO RQ RS st) := by
  unfold clO
  split
  · exact h.q
  · exact h.s
/-- a property of a class -/
structure Pr1 (P : Program) (w : World) (K : PySem.W.Frag) (mg : Str → Option Value) (base : Heap) (R : Addr) (m : Str) (sp : Sp) : Prop where
  ex : ∃ g r fd, PropOf K R m g r ∧ FnOk P w K mg base CX0 1 r fd ["self"] sp ∧ Binds K fd ["self"] []
structure Po (P : Program) (w : World) (K : PySem.W.Frag) (mg : Str → Option Value) (base : Heap) (RQ RS : Addr) : Prop where
  qs : Pr1 P w K mg base RQ "start" (spPs RQ)
  ss : Pr1 P w K mg base RS "start" (spPs RS)
  qm : Pr1 P w K mg base RQ "may_have_body" (spPm RQ)
  sm : Pr1 P w K mg base RS "may_have_body" (spPm RS)
section
variable {K : PySem.W.Frag} {mg : Str → Option Value} {σ : L2.St} {H : Hp} {te tl : TE} {RQ RS a : Addr} {v : V} {st b sep : Str} {fs gs : Fs} {E1 E2 E : XK} {xs : List V} {zs : List Str} {i : Int}
theorem ev_start (h : Ev te σ H v) (m : MgO RQ RS H v st fs b) : Ev (fun σ H Q => tProp RQ (spPs RQ) [] E1 te σ H Q ∨ tProp RS (spPs RS) [] E2 te σ H Q) σ H (.str st) := fun H1 e Q q => by
  have m1 : ∀ H2, Ex H1 H2 → MgO RQ RS H2 v st fs b := fun H2 e2 => MgO.ex m (e.trans e2)
  cases hr : isRq st with
  | true =>
    refine Or.inl (h H1 e _ fun H2 e2 => ?_)
    have g := m1 H2 e2
    unfold MgO clO at g
    rw [if_pos hr] at g
    obtain ⟨a, dx, l, ex, rfl, ha, hx, hf⟩ := id g
    exact ⟨a, dx, _, rfl, ha, _, _, _, _, _, rfl, g, fun H3 e3 => q H3 (e2.trans e3)⟩
  | false =>
    refine Or.inr (h H1 e _ fun H2 e2 => ?_)
    have g := m1 H2 e2
    unfold MgO clO at g
    rw [hr, if_neg Bool.false_ne_true] at g
    obtain ⟨a, dx, l, ex, rfl, ha, hx, hf⟩ := id g
    exact ⟨a, dx, _, rfl, ha, _, _, _, _, _, rfl, g, fun H3 e3 => q H3 (e2.trans e3)⟩
theorem ev_may (h : Ev te σ H v) (m : MgO RQ RS H v st fs b) : Ev (fun σ H Q => tProp RQ (spPm RQ) [] E1 te σ H Q ∨ tProp RS (spPm RS) [] E2 te σ H Q) σ H (.bl (mayB st)) := fun H1 e Q q => by
  have m1 : ∀ H2, Ex H1 H2 → MgO RQ RS H2 v st fs b := fun H2 e2 => MgO.ex m (e.trans e2)
  cases hr : isRq st with
  | true =>
    refine Or.inl (h H1 e _ fun H2 e2 => ?_)
    have g := m1 H2 e2
    unfold MgO clO at g
    rw [if_pos hr] at g
    obtain ⟨a, dx, l, ex, rfl, ha, hx, hf⟩ := id g
    exact ⟨a, dx, _, rfl, ha, _, _, _, _, _, rfl, g, fun H3 e3 => q H3 (e2.trans e3)⟩
  | false =>
    refine Or.inr (h H1 e _ fun H2 e2 => ?_)
    have g := m1 H2 e2
    unfold MgO clO at g
    rw [hr, if_neg Bool.false_ne_true] at g
    obtain ⟨a, dx, l, ex, rfl, ha, hx, hf⟩ := id g
    exact ⟨a, dx, _, rfl, ha, _, _, _, _, _, rfl, g, fun H3 e3 => q H3 (e2.trans e3)⟩
theorem ev_isRq (W : Wo K mg RQ RS) (h : Ev te σ H v) (hc : Ev tl σ H (.ref RQ)) (m : MgO RQ RS H v st fs b) : Ev (tCB (rIsi K) (tCons te (tCons tl tNil))) σ H (.bl (isRq st)) := fun H1 e Q q =>
  h H1 e _ fun H2 e2 => hc H2 (e.trans e2) _ fun H3 e3 => by
    have g := MgO.ex m ((e.trans e2).trans e3)
    unfold MgO clO at g
    cases hr : isRq st with
    | true =>
      rw [if_pos hr] at g
      obtain ⟨a, dx, l, ex, rfl, ha, hx, hf⟩ := g
      rw [hr] at q
      exact ⟨.ref a, .ref RQ, .ref RQ, .ref RQ, true, rfl, .own RQ, .base (.ins ha W.q.cls W.iq.ha W.iq.hn W.iq.htk W.iq.hm), W.kq, q H3 (e2.trans e3)⟩
    | false =>
      rw [hr, if_neg Bool.false_ne_true] at g
      obtain ⟨a, dx, l, ex, rfl, ha, hx, hf⟩ := g
      rw [hr] at q
      exact ⟨.ref a, .ref RQ, .ref RS, .ref RQ, false, rfl, .own RQ, .base (.ins ha W.s.cls W.is.ha W.is.hn W.is.htk W.is.hm), W.ks, q H3 (e2.trans e3)⟩
theorem ev_fmtI (h : Ev te σ H (.int i)) (hz : i.natAbs.log2 < 1920) : Ev (tFmt te) σ H (.str (PySem.Str.ofString (toString i))) := fun H1 e Q q => h H1 e _ fun H2 e2 => .inr ⟨i, rfl, hz, q H2 e2⟩
theorem ev_joinL (h : EvL te σ H (zs.map V.str)) (hb : (zs.map (·.length)).sum + zs.length * sep.length ≤ 100000) : Ev (tBM K "str" (rJoin K) (tC (.str sep)) (tCons te tNil)) σ H (.str (Txt.join sep zs)) := fun H1 e Q q =>
  ⟨rfl, h H1 e _ fun p H2 np e2 hp => ⟨sep, p, zs, rfl, rfl, .inl (sq_of hp), Nat.le_trans hb (by decide), q H2 e2⟩⟩
theorem el_fl (h : EvL te σ H xs) (hr : ∀ H1, Ex H H1 → Rel (PfAt H1) xs gs) (ho : areB gs = true) : EvL (tCall spFl [] E (tCons te tNil)) σ H ((gs.map fieldL).map V.str) := fun H1 e Q q =>
  h H1 e _ fun p H2 np e2 hp => ⟨p, gs, rfl, ⟨xs, hp, hr H2 (e.trans e2)⟩, ho, fun r H3 nr e3 hr3 => q r H3 (fresh_back e2 nr) (e2.trans e3) hr3⟩
theorem el_flA {q : Addr} (h : Ev te σ H (.ref q)) (hf : FsAt H q gs) (ho : areB gs = true) : EvL (tCall spFl [] E (tCons te tNil)) σ H ((gs.map fieldL).map V.str) := fun H1 e Q q0 =>
  h H1 e _ fun H2 e2 => ⟨q, gs, rfl, hf.ex (e.trans e2), ho, fun r H3 nr e3 hr3 => q0 r H3 (fresh_back e2 nr) (e2.trans e3) hr3⟩
theorem s_ext {D : Ends} {ys : List V} (hl : H a = some (.lst xs)) (h : Ev tl σ H (.ref a)) (hy : EvL te σ H ys) (hz : xs.length + ys.length ≤ 100000) (k : ∀ H1, Ex H H1 → H1 a = some (.lst xs) → D.nx σ (upd H1 a (.lst (xs ++ ys)))) : tDrop (tBM K "list" rExtend tl (tCons te tNil)) D σ H :=
  h H (Ex.refl H) _ fun H1 e1 => Or.inl ⟨rfl, xs, sq_of (e1 _ _ hl)⟩ |> fun hs => (⟨hs, hy H1 e1 _ fun p H2 np e2 hp => ⟨a, p, xs, ys, rfl, rfl, (e1.trans e2) _ _ hl, hp, Nat.le_trans hz (by decide), k H2 (e1.trans e2) ((e1.trans e2) _ _ hl)⟩⟩)
end
theorem log_small {i : Int} (h : i.natAbs < 10 ^ 7) : i.natAbs.log2 < 1920 := by
  by_cases z : i.natAbs = 0
  · rw [z]; decide
  · have h2 : i.natAbs < 2 ^ 24 := Nat.lt_of_lt_of_le h (by decide)
    have := (Nat.log2_lt z).mpr h2
    omega
theorem areB_take {fs : Fs} (h : areB fs = true) (n : Nat) : areB (fs.take n) = true ∧ areB (fs.drop n) = true := by
  unfold areB at h ⊢
  rw [Bool.and_eq_true, decide_eq_true_eq, List.all_eq_true] at h
  rw [Bool.and_eq_true, decide_eq_true_eq, List.all_eq_true, Bool.and_eq_true, decide_eq_true_eq, List.all_eq_true, List.length_take, List.length_drop]
  exact ⟨⟨by omega, fun x hx => h.2 x (List.mem_of_mem_take hx)⟩, ⟨by omega, fun x hx => h.2 x (List.mem_of_mem_drop hx)⟩⟩
theorem Rel.takes {α : Type} {R : V → α → Prop} {xs : List V} {ys : List α} (h : Rel R xs ys) (n : Nat) : Rel R (xs.take n) (ys.take n) ∧ Rel R (xs.drop n) (ys.drop n) := by
  refine ⟨⟨by rw [List.length_take, List.length_take, h.1], fun i x y hx hy => ?_⟩, ⟨by rw [List.length_drop, List.length_drop, h.1], fun i x y hx hy => ?_⟩⟩
  · rw [List.getElem?_take] at hx hy
    split at hx
    · rename_i hi
      rw [if_pos hi] at hy
      exact h.2 i x y hx hy
    · cases hx
  · rw [List.getElem?_drop] at hx hy
    exact h.2 _ x y hx hy
theorem lines_sum {fs : Fs} (h : areB fs = true) : ((fs.map fieldL).map (·.length)).sum ≤ 40 * 232 := by
  obtain ⟨h1, h2⟩ := areB_val h
  have : ∀ gs : Fs, (∀ x ∈ gs, x.1.length ≤ 30 ∧ x.2.length ≤ 200) → ((gs.map fieldL).map (·.length)).sum ≤ gs.length * 232 := fun gs => by
    induction gs with
    | nil => intro _; exact Nat.le_refl 0
    | cons x r ih =>
      intro h
      have a := ih fun y hy => h y (List.mem_cons_of_mem _ hy)
      obtain ⟨b1, b2⟩ := h x List.mem_cons_self
      rw [List.map_cons, List.map_cons, List.sum_cons, fieldL_len, List.length_cons]
      omega
  have := this fs h2
  omega
end Z
set_option maxHeartbeats 4000000
namespace Z
open PySem PySem.Spec PyProof.Rows L2 TL Evl NdefX
/-! ### a message written in chunks -/
def numT (i : Int) : Str := PySem.Str.ofString (toString i)
def chunkL (cs : List Str) : List Str := cs.flatMap fun c => [numT (c.length : Int), c]
def cLines (st : Str) (fs : Fs) (b : Str) (ss : List Int) (n : Nat) : List Str := [st] ++ (fs.take n).map fieldL ++ [("length: chunks" : Str), ""] ++ chunkL (chP b (ss ++ [(b.length : Int)]) 0) ++ [("0" : Str)] ++ (fs.drop n).map fieldL
def chunkedW (st : Str) (fs : Fs) (b : Str) (ss : List Int) (n : Nat) : Str := Txt.join "\n" (cLines st fs b ss n ++ [("" : Str), ""])
theorem chP_len (b : Str) : ∀ (ss : List Int) (a : Int), (chP b ss a).length ≤ ss.length ∧ ∀ c ∈ chP b ss a, c.length ≤ b.length
  | [], a => ⟨Nat.le_refl 0, fun c h => by cases h⟩
  | s :: r, a => by
    unfold chP
    split
    · obtain ⟨h1, h2⟩ := chP_len b r (a + s)
      refine ⟨by rw [List.length_cons, List.length_cons]; omega, fun c hc => ?_⟩
      rcases List.mem_cons.mp hc with rfl | hc
      · exact cutS_length b _ _
      · exact h2 c hc
    · obtain ⟨h1, h2⟩ := chP_len b r a
      exact ⟨by rw [List.length_cons]; omega, h2⟩
theorem chunkL_sum (m : Nat) (hm : m ≤ 10000) : ∀ cs : List Str, (∀ c ∈ cs, c.length ≤ m) → ((chunkL cs).map (·.length)).sum ≤ cs.length * (m + 7) ∧ (chunkL cs).length = 2 * cs.length
  | [], _ => ⟨by simp [chunkL], rfl⟩
  | c :: r, h => by
    obtain ⟨h1, h2⟩ := chunkL_sum m hm r fun x hx => h x (List.mem_cons_of_mem _ hx)
    have hc := h c List.mem_cons_self
    have hn : (numT (c.length : Int)).length ≤ 7 := strI_len (by omega) (by omega)
    have e : chunkL (c :: r) = numT (c.length : Int) :: c :: chunkL r := rfl
    rw [e, List.map_cons, List.map_cons, List.sum_cons, List.sum_cons, List.length_cons, List.length_cons, List.length_cons, h2, Nat.add_mul]
    exact ⟨by omega, by omega⟩
def spWc (RQ RS : Addr) : Sp := fun vs H Q _ => ∃ v q st b fs ss tr, vs = [v, .ref q, .int tr] ∧ MgO RQ RS H v st fs b ∧ H q = some (.lst (ss.map V.int)) ∧ areB fs = true ∧ st.length ≤ 100 ∧ b.length ≤ 1000 ∧ ss.length ≤ 20 ∧ 0 ≤ tr ∧ tr ≤ (fs.length : Int) ∧ RetV (.str (chunkedW st fs b ss ((fs.length : Int) - tr).toNat)) H Q
section
variable {σ : L2.St} {H : Hp} {ta : TA} {sp : Sp} {E : XK} {vs xs : List V}
theorem el_callX (h : EvA ta σ H vs) (hs : ∀ H1, Ex H H1 → ∀ (Q : VK) (E : XK), RetL xs H1 Q → sp (vs ++ []) H1 Q E) : EvL (tCall sp [] E ta) σ H xs := fun H1 e Q q =>
  h H1 e _ fun H2 e2 => hs H2 (e.trans e2) _ _ fun p H3 np e3 hp => q p H3 (fresh_back e2 np) (e2.trans e3) hp
end
theorem q_ext {K : PySem.W.Frag} {σ : L2.St} {H : Hp} {te tl : TE} {D : Ends} {tz : TS} {a : Addr} {xs ys : List V} (hl : H a = some (.lst xs)) (h : Ev tl σ H (.ref a)) (hy : EvL te σ H ys) (hz : xs.length + ys.length ≤ 100000) (k : ∀ H1, Ex H H1 → H1 a = some (.lst xs) → tz D σ (upd H1 a (.lst (xs ++ ys)))) : tSeq (tDrop (tBM K "list" rExtend tl (tCons te tNil))) tz D σ H :=
  s_ext (D := { D with nx := tz D }) hl h hy hz k
section
variable {P : Program} {w : World} {K : PySem.W.Frag} {mg : Str → Option Value} {base : Heap} {f RQ RS : Addr} {fd : FuncData} {k : Nat}
theorem ok_write_chunked (T : Mg mg) (WO : Wo K mg RQ RS) (PO : Po P w K mg base RQ RS) (c_field_lines : Call P w K mg base 1 "field_lines" ["fields"] spFl) (c_chunk_texts : Call P w K mg base 1 "chunk_texts" ["body", "sizes"] spCt)
    (F : FnP K "write_chunked" s_write_chunked f fd) (gm : mg "write_chunked" = some (.ref f)) : Call P w K mg base 3 "write_chunked" ["message", "sizes", "trailer"] (spWc RQ RS) := by
  obtain ⟨gqs, rqs, dqs, oqs, Fqs, bqs⟩ := PO.qs.ex
  obtain ⟨gss, rss, dss, oss, Fss, bss⟩ := PO.ss.ex
  refine mk F gm (fun _ _ _ _ _ _ us hl => match us, hl with | [_, _, _], _ => rfl) (fun _ _ _ _ _ _ us hl => match us, hl with | [_, _, _], _ => rfl) sc_write_chunked (fun vs H Q E h => ?_) (fun cdv A outer s H vs Q E hr h => ?_)
  · obtain ⟨v, q, st, b, fs, ss, tr, rfl, _⟩ := h
    rfl
  · obtain ⟨v, q, st, b, fs, ss, tr, rfl, hm, hq, hok, hst, hbl, hss, htr0, htr1, q0⟩ := h
    refine ⟨_, (pss_cons (ps_set (i := 3) sc_write_chunked.nd rfl (Or.inl rfl) (pe_op op_sub (pe_callB call_len_seq (by rfl) T.len (by decide +kernel) (pa_cons (pe_fld (pv 0) rfl) pa_nil)) (pv 2)))
    (pss_cons (ps_set (i := 4) sc_write_chunked.nd rfl (Or.inl rfl) (pe_op op_cat (pe_op op_cat (pe_lst (pa_cons (pe_either (pe_prop (pv 0) WO.cq oqs Fqs (hr.mono (by decide)) bqs .nil pass0 rfl) (pe_prop (pv 0) WO.cs oss Fss (hr.mono (by decide)) bss .nil pass0 rfl)) pa_nil)) (pe_f c_field_lines hr (by decide) rfl (pa_cons (pe_slice sl_list (pe_fld (pv 0) rfl) po_none (po_some (pv 3))) pa_nil))) (pe_lst (pa_cons pe_str (pa_cons pe_str pa_nil)))))
    (pss_cons (ps_for PassesOwn.never rfl (pi_list (pe_f c_chunk_texts hr (by decide) rfl (pa_cons (pe_fld (pv 0) rfl) (pa_cons (pv 1) pa_nil)))) (pg_name (i := 5) sc_write_chunked.nd rfl (Or.inl rfl))
      (pss_one (ps_expr (pe_bm PySem.F.plainAttrs_list PySem.F.slot_list_extend PySem.F.type_list_extend mt_extend (pv 4) (pa_cons (pe_lst (pa_cons (pe_callTy cz_str (by rfl) T.str (by decide +kernel) (pa_cons (pe_callB cz_len (by rfl) T.len (by decide +kernel) (pa_cons (pv 5) pa_nil)) pa_nil)) (pa_cons (pv 5) pa_nil))) pa_nil)))))
    (pss_cons (ps_expr (pe_bm PySem.F.plainAttrs_list PySem.F.slot_list_append PySem.F.type_list_append mt_append (pv 4) (pa_cons pe_str pa_nil)))
    (pss_cons (ps_expr (pe_bm PySem.F.plainAttrs_list PySem.F.slot_list_extend PySem.F.type_list_extend mt_extend (pv 4) (pa_cons (pe_f c_field_lines hr (by decide) rfl (pa_cons (pe_slice sl_list (pe_fld (pv 0) rfl) (po_some (pv 3)) po_none) pa_nil)) pa_nil)))
    (pss_one (ps_ret (pe_bm PySem.F.plainAttrs_str PySem.F.slot_str_join PySem.F.type_str_join mz_join pe_str (pa_cons (pe_lst (StX.pa_star (pv 4) (pa_cons pe_str (pa_cons pe_str pa_nil)))) pa_nil))))))))), ?_⟩
    obtain ⟨n, hn⟩ : ∃ n : Nat, (fs.length : Int) - tr = n := ⟨((fs.length : Int) - tr).toNat, by omega⟩
    rw [hn, Int.toNat_natCast] at q0
    obtain ⟨a, dx, l, ex, rfl, ha, hex, hf⟩ := id hm
    obtain ⟨fx, hfx, hfr⟩ := id hf
    have WM := WO.at_ st
    have flds : ∀ {σ : L2.St} {H' : Hp}, σ[0]? = some (some (.ref a)) → Ex H H' → Ev (tFld K (tVar 0) "fields") σ H' (.ref l) := fun h0 e => ev_fldO WM.cls WM.n3 (ev_var h0) (e _ _ ha) ms_fields
    obtain ⟨hok1, hok2⟩ := areB_take hok n
    refine q_asg (v := .int (n : Int)) (ev_is (ev_op (ev_len (flds rfl (Ex.refl H)) (sq_of hfx)) (ev_var rfl) rv_I0) (by rw [hfr.1]; exact congrArg V.int hn)) fun H1 e1 => ?_
    have hlen := hfr.1
    have hfl := (areB_val hok).1
    refine q_asgL (xs := ([st] ++ (fs.take n).map fieldL ++ [("length: chunks" : Str), ""]).map V.str) (by
        rw [List.map_append, List.map_append]
        refine el_catLL (el_catLL (el_lst (ea_cons (ev_start (ev_var rfl) (hm.ex e1)) ea_nil) (by show 1 ≤ 100000; decide)) (el_fl (xs := fx.take n) ?_ (fun H2 e2 => (Rel.takes (hfr.mono fun _ _ m => TupAt.ex m (e1.trans e2)) n).1) hok1) (by simp only [List.length_map, List.length_take, List.length_cons, List.length_nil]; omega)) (el_lst (ea_cons ev_c (ea_cons ev_c ea_nil)) (by show 2 ≤ 100000; decide)) (by simp only [List.length_append, List.length_map, List.length_take, List.length_cons, List.length_nil]; omega)
        rw [← cutV_take]
        exact el_sl (flds rfl e1) eo_none (eo_some (ev_var rfl)) (sq_of (e1 _ _ hfx))) fun L H2 nL e2 hL => ?_
    generalize hhd : [st] ++ (fs.take n).map fieldL ++ [("length: chunks" : Str), ""] = hd0 at hL
    have e02 := e1.trans e2
    have nL0 := fresh_back e1 nL
    have hcs := chP_len b (ss ++ [(b.length : Int)]) 0
    generalize hcc : chP b (ss ++ [(b.length : Int)]) 0 = cs at hcs
    obtain ⟨hc1, hc2⟩ := hcs
    rw [List.length_append] at hc1
    have hc1 : cs.length ≤ 21 := by have : [(b.length : Int)].length = 1 := rfl; omega
    have hhl : hd0.length ≤ 43 := by rw [← hhd]; simp only [List.length_append, List.length_map, List.length_take, List.length_cons, List.length_nil]; omega
    refine q_forNLn (xs := cs.map V.str) (el_callX (vs := [.str b, .ref q]) (ea_cons (ev_fldO WM.cls WM.n4 (ev_var rfl) (e02 _ _ ha) rfl) (ea_cons (ev_var rfl) ea_nil)) fun H3 e3 Q' E' q' => ⟨b, q, ss, rfl, e3 _ _ (e02 _ _ hq), by omega, by omega, by rw [hcc]; exact q'⟩)
      (fun d i σ' H' => ∃ v : Option V, σ' = [some (.ref a), some (.ref q), some (.int tr), some (.int (n : Int)), some (.ref L), v] ∧ Ex H H' ∧ H' L = some (.lst ((hd0 ++ chunkL (cs.take i)).map V.str)) ∧ H' d = some (.lst (cs.map V.str)) ∧ d ≠ L)
      (fun d H3 nd e3 hd => ⟨none, rfl, e02.trans e3, by rw [show chunkL (cs.take 0) = [] from rfl, List.append_nil]; exact e3 _ _ hL, hd, fun e => (by rw [e, hL] at nd; cases nd)⟩) (fun d i σ' H' hi pv => ?_) (fun d i x σ' H' hi pv => ?_) (fun d σ' H' pv => ?_)
    · obtain ⟨v, rfl, e3, h3, hd, nd⟩ := pv
      exact sq_of hd
    · obtain ⟨v, rfl, e3, h3, hd, nd⟩ := pv
      rw [List.getElem?_map] at hi
      cases hci : cs[i]? with
      | none => rw [hci] at hi; cases hi
      | some c =>
        rw [hci] at hi
        cases hi
        have hcm := hc2 c (List.mem_of_getElem? hci)
        have hil : i < cs.length := by
          rcases Nat.lt_or_ge i cs.length with h | h
          · exact h
          · rw [List.getElem?_eq_none h] at hci; cases hci
        have hcl := (chunkL_sum b.length (by omega) (cs.take i) fun x hx => hc2 x (List.mem_of_mem_take hx)).2
        rw [List.length_take] at hcl
        refine s_ext (xs := (hd0 ++ chunkL (cs.take i)).map V.str) (ys := [numT (c.length : Int), c].map V.str) h3 (ev_var rfl) (el_lst (ea_cons (ev_strI (ev_lenStr (ev_var rfl) (by omega)) (Nat.lt_of_lt_of_le (show (c.length : Int).natAbs < 2 ^ 20 by rw [Int.natAbs_natCast]; exact Nat.lt_of_le_of_lt (Nat.le_trans hcm hbl) (by decide)) (Nat.pow_le_pow_right (by decide) (by decide)))) (ea_cons (ev_var rfl) ea_nil)) (by show 2 ≤ 100000; decide)) (by rw [List.length_map, List.length_append, hcl]; show _ + 2 ≤ _; omega) fun H4 e4 h4 => ?_
        refine ⟨_, rfl, Ex.mut (e3.trans e4) nL0, ?_, ?_, nd⟩
        · rw [upd_same, ← List.map_append, List.append_assoc]
          have : chunkL (cs.take (i + 1)) = chunkL (cs.take i) ++ [numT (c.length : Int), c] := by
            unfold chunkL
            rw [List.take_add_one, hci, List.flatMap_append]
            rfl
          rw [this]
        · rw [upd_ne nd]
          exact e4 _ _ hd
    · obtain ⟨v, rfl, e3, h3, hd, nd⟩ := pv
      rw [List.length_map, List.take_length] at h3
      obtain ⟨hcs1, hcs2⟩ := chunkL_sum b.length (by omega) cs hc2
      refine q_app h3 (ev_var rfl) ev_c (by rw [List.length_map, List.length_append, hcs2]; omega) fun H4 e4 => ?_
      have hL4 : (upd H4 L (.lst ((hd0 ++ chunkL cs).map V.str ++ [.str "0"]))) L = some (.lst ((hd0 ++ chunkL cs ++ [("0" : Str)]).map V.str)) := by
        rw [upd_same, List.map_append (l₂ := [("0" : Str)])]
        rfl
      have e05 : Ex H (upd H4 L (.lst ((hd0 ++ chunkL cs).map V.str ++ [.str "0"]))) := Ex.mut (e3.trans e4) nL0
      generalize upd H4 L (.lst ((hd0 ++ chunkL cs).map V.str ++ [.str "0"])) = H5 at hL4 e05
      refine q_ext (ys := ((fs.drop n).map fieldL).map V.str) hL4 (ev_var rfl) (el_fl (xs := fx.drop n) (by
          rw [← cutV_drop]
          exact el_sl (flds rfl e05) (eo_some (ev_var rfl)) eo_none (sq_of (e05 _ _ hfx))) (fun H6 e6 => (Rel.takes (hfr.mono fun _ _ m => TupAt.ex m (e05.trans e6)) n).2) hok2) (by simp only [List.length_map, List.length_append, List.length_drop, List.length_cons, List.length_nil, hcs2]; omega) fun H6 e6 h6 => ?_
      have hL6 : (upd H6 L (.lst ((hd0 ++ chunkL cs ++ [("0" : Str)]).map V.str ++ ((fs.drop n).map fieldL).map V.str))) L = some (.lst ((cLines st fs b ss n).map V.str)) := by
        rw [upd_same, ← List.map_append]
        unfold cLines
        rw [hcc, hhd]
      have e07 : Ex H (upd H6 L (.lst ((hd0 ++ chunkL cs ++ [("0" : Str)]).map V.str ++ ((fs.drop n).map fieldL).map V.str))) := Ex.mut (e05.trans e6) nL0
      generalize upd H6 L (.lst ((hd0 ++ chunkL cs ++ [("0" : Str)]).map V.str ++ ((fs.drop n).map fieldL).map V.str)) = H7 at hL6 e07
      refine s_ret (v := .str (chunkedW st fs b ss n)) (ev_joinL (zs := cLines st fs b ss n ++ [("" : Str), ""]) (by
          rw [List.map_append]
          exact el_lst (ea_star (ev_var rfl) hL6 (ea_cons ev_c (ea_cons ev_c ea_nil))) (by unfold cLines; rw [hcc]; simp only [List.length_map, List.length_append, List.length_take, List.length_drop, List.length_cons, List.length_nil, hcs2]; omega)) ?_) fun H8 e8 => q0 H8 (e07.trans e8)
      unfold cLines
      rw [hcc]
      have s1 := lines_sum hok1
      have s2 := lines_sum hok2
      have l1 : ("length: chunks" : Str).length ≤ 20 := by decide +kernel
      have l2 : ("" : Str).length = 0 := by decide +kernel
      have l3 : ("0" : Str).length = 1 := by decide +kernel
      have l4 : ("\n" : Str).length = 1 := by decide +kernel
      have hcs3 : cs.length * (b.length + 7) ≤ 21 * 1007 := Nat.mul_le_mul hc1 (by omega)
      simp only [List.map_append, List.sum_append, List.map_cons, List.map_nil, List.sum_cons, List.sum_nil, List.length_append, List.length_cons, List.length_nil, List.length_take, List.length_drop, List.length_map, hcs2, l2, l3, l4]
      simp only [List.map_map] at s1 s2 ⊢
      omega
end
end Z
set_option maxHeartbeats 4000000
namespace Z
open PySem PySem.Spec PyProof.Rows L2 TL Evl NdefX
/-! ### which framings may be; the error; write_message -/
def frI (st : Str) (fs : Fs) (o : Option (List Int)) (tr : Int) (oe : Bool) : Bool :=
  match o with
  | none => decide (tr = 0) && (mayB st || !oe)
  | some ss => if (!mayB st || ss.any fun s => decide (s < 1)) = true then false else decide ((0 : Int) ≤ tr) && decide (tr ≤ (fs.length : Int))
def frB (st : Str) (fs : Fs) (o : Option (List Int)) (tr : Int) (oe : Bool) : Bool := if (oe && (o.isSome || isRq st)) = true then false else frI st fs o tr oe
def ChA (H : Hp) (ch : V) : Option (List Int) → Prop
  | none => ch = .non
  | some ss => ∃ q, ch = .ref q ∧ H q = some (.lst (ss.map V.int))
theorem ChA.ex {H H' : Hp} {ch : V} {o : Option (List Int)} (h : ChA H ch o) (e : Ex H H') : ChA H' ch o := by
  cases o with
  | none => exact h
  | some ss =>
    obtain ⟨q, rfl, hq⟩ := h
    exact ⟨q, rfl, e _ _ hq⟩
def lenL (b : Str) : Str := [("length: " : Str), numT (b.length : Int)].foldl (· ++ ·) Str.empty
def pLines (st : Str) (fs : Fs) (b : Str) (oe : Bool) : List Str := [st] ++ fs.map fieldL ++ (if (mayB st && !oe) = true then [lenL b] else [])
def plainW (st : Str) (fs : Fs) (b : Str) (oe : Bool) : Str := Txt.join "\n" (pLines st fs b oe ++ [("" : Str), b])
def wrM (st : Str) (fs : Fs) (b : Str) (o : Option (List Int)) (tr : Int) (oe : Bool) : Str :=
  match o with
  | none => plainW st fs b oe
  | some ss => chunkedW st fs b ss ((fs.length : Int) - tr).toNat
def spIf (RQ RS : Addr) : Sp := fun vs H Q _ => ∃ v ch st b fs o tr oe, vs = [v, ch, .int tr, .bl oe] ∧ MgO RQ RS H v st fs b ∧ ChA H ch o ∧ (∀ ss, o = some ss → ss.length ≤ 20) ∧ RetV (.bl (frB st fs o tr oe)) H Q
def spWm (RQ RS DF : Addr) : Sp := fun vs H Q E => ∃ v ch st b fs o tr oe, vs = [v, ch, .int tr, .bl oe] ∧ MgO RQ RS H v st fs b ∧ ChA H ch o ∧ (∀ ss, o = some ss → ss.length ≤ 20) ∧ areB fs = true ∧ st.length ≤ 100 ∧ b.length ≤ 1000 ∧
  (frB st fs o tr oe = true → ∀ H', Ex H H' → Q (.str (wrM st fs b o tr oe)) H') ∧ (frB st fs o tr oe = false → ∀ H', Ex H H' → E (.ref DF) none H')
structure Ef0 (P : Program) (w : World) (K : PySem.W.Frag) (mg : Str → Option Value) (base : Heap) (D : Addr) : Prop where
  ex : ∃ fI fd, OexC K D ∧ PySem.W.findIn K (.ref D) "__init__" = some (some (.ref fI)) ∧ PySem.W.typeIn K (.ref fI) = some (.type "function") ∧ FnOk P w K mg base CX0 1 fI fd ["self"] (ZX.spErr0 D) ∧ Binds K fd ["self"] []
theorem ps_raise0 {X : Cx} {W : WX} {D : Addr} {x : Str} {p pos pos' : Pos} (F : Ef0 X.prog X.w X.K X.mg X.base D) (hc : X.calm = true) (tk : L2N.Takes X W) (hr : Room 2 X.A) (hg : Gl X x) (hm : X.mg x = some (.ref D))
    (hdb : (x == ("__debug__" : Str)) = false := by decide) :
    PS X (.Raise (some (.Call (.Name x p) [] [] pos)) none pos') (fun _ σ H => ZX.tMkN D (ZX.spErr0 D) σ H fun cls d H' => W cls d σ H') := by
  obtain ⟨fI, fd, T, h1, h2, h3, h4⟩ := F.ex
  exact L2N.ps_raise hc tk (ZX.pmk_oex0 T h1 h2 h3 hr h4 pass0 hg hm hdb)
/-- the classes of errors -/
structure We (K : PySem.W.Frag) (mg : Str → Option Value) (DF DH DM DV DR : Addr) : Prop where
  mF : mg "InvalidFraming" = some (.ref DF)
  mH : mg "HopError" = some (.ref DH)
  mM : mg "InvalidMessage" = some (.ref DM)
  mV : mg "InvalidValue" = some (.ref DV)
  mR : mg "ReaderClosed" = some (.ref DR)
  xF : ExcC K DF
  iFH : PySem.W.kitOne K (.ref DF) (.ref DH) = some true
  iFE : PySem.W.kitOne K (.ref DF) (.type "ValueError") = some true
  iFM : PySem.W.kitOne K (.ref DF) (.ref DM) = some false
  iFV : PySem.W.kitOne K (.ref DF) (.ref DV) = some false
  iFR : PySem.W.kitOne K (.ref DF) (.ref DR) = some false
  eFF : PySem.W.exmOne K (.ref DF) (.ref DF) = some true
section
variable {P : Program} {w : World} {K : PySem.W.Frag} {mg : Str → Option Value} {base : Heap} {f cc cda D RQ RS DF DH DM DV DR : Addr} {fd : FuncData} {k : Nat} {CX : CXT}
theorem ok_if (T : ZX.Sup P K D f cc cda fd d_if.name d_if.qual d_if.params d_if.body d_if.scope) : FnOk P w K mg base CX 1 f fd ["self"] (ZX.spErr0 D) := by
  refine ZX.fn_sup1 (k := 0) (N := ["self", "__class__"]) T (nscope_by (by decide +kernel)) (by rfl) (by rfl) (by rfl) (by rfl) (fun _ => by rfl) (fun _ h => by unfold interactive; rw [h] <;> rfl) (fun _ h => by rfl) (fun _ => by rfl) (fun vs H Q E h => ?_) (fun A outer s H vs Q E hr h => ?_)
  · obtain ⟨a, rfl, _⟩ := h
    rfl
  · obtain ⟨a, rfl, ha, q⟩ := h
    refine ⟨a, [], _, _, rfl, ha, pe_str, pss_nil, ?_⟩
    exact ⟨by show 1 ≤ 1000; decide, ha, q H (Ex.refl H)⟩
theorem ok_is_framing (T : Mg mg) (WO : Wo K mg RQ RS) (PO : Po P w K mg base RQ RS) (F : FnP K "is_framing" s_is_framing f fd) (gm : mg "is_framing" = some (.ref f)) : Call P w K mg base 3 "is_framing" ["message", "chunks", "trailer", "open_end"] (spIf RQ RS) := by
  obtain ⟨gqm, rqm, dqm, oqm, Fqm, bqm⟩ := PO.qm.ex
  obtain ⟨gsm, rsm, dsm, osm, Fsm, bsm⟩ := PO.sm.ex
  refine mk F gm (fun _ _ _ _ _ _ us hl => match us, hl with | [_, _, _, _], _ => rfl) (fun _ _ _ _ _ _ us hl => match us, hl with | [_, _, _, _], _ => rfl) sc_is_framing (fun vs H Q E h => ?_) (fun cdv A outer s H vs Q E hr h => ?_)
  · obtain ⟨v, ch, st, b, fs, o, tr, oe, rfl, _⟩ := h
    rfl
  · obtain ⟨v, ch, st, b, fs, o, tr, oe, rfl, hm, hch, ho, q⟩ := h
    refine ⟨_, (pss_cons (ps_if (PW.pt (pw_and (pt_truth (pv 3) (by intro _; rfl)) (pw_and1 (PW.pt (pw_or (pt_cmpR op_notN1 (pv 1) pe_non (nomark _)) (pw_or1 (pt_val (pe_callB call_isi (by rfl) T.isinstance (by decide +kernel) (pa_cons (pv 0) (pa_cons (pe_gc (v := .ref RQ) rfl ⟨_, WO.mQ, rfl⟩) pa_nil))))))))))
      (pss_one (ps_ret pe_bl))
      pss_nil)
    (pss_cons (ps_if (pt_cmpR op_isN1 (pv 1) pe_non (nomark _))
      (pss_one (ps_ret (pe_and (pe_cmpR op_eq (pv 2) pe_int (nomark _)) (pe_one (pe_or (pe_either (pe_prop (pv 0) WO.cq oqm Fqm (hr.mono (by decide)) bqm .nil pass0 rfl) (pe_prop (pv 0) WO.cs osm Fsm (hr.mono (by decide)) bsm .nil pass0 rfl)) (pe_one (pe_not (pv 3))))))))
      pss_nil)
    (pss_cons (ps_if (PW.pt (pw_or (pt_not (pt_val (pe_either (pe_prop (pv 0) WO.cq oqm Fqm (hr.mono (by decide)) bqm .nil pass0 rfl) (pe_prop (pv 0) WO.cs osm Fsm (hr.mono (by decide)) bsm .nil pass0 rfl)))) (pw_or1 (pt_val (pe_callB (cr_any rfl) (by rfl) T.any (by decide +kernel) (pa_cons (pe_lc (own := [("size", 4)]) (g := gName 4) (tt := tYes) rfl sc_is_framing.nd (pi_list (pv 1)) (blkOk_by (N := ["message", "chunks", "trailer", "open_end", "size"]) (sc := L2.defScope s_is_framing) (by decide +kernel)) (fun _ _ _ _ _ => pg_name (i := 4) sc_is_framing.nd rfl (Or.inl rfl)) (fun _ _ _ _ _ => pts_nil) (fun _ _ _ _ _ => (pe_cmpR op_lt (pv 4) pe_int (nomark _)))) pa_nil))))))
      (pss_one (ps_ret pe_bl))
      pss_nil)
    (pss_one (ps_ret (pe_chain op_le op_le pe_int (pv 2) (pe_callB call_len_seq (by rfl) T.len (by decide +kernel) (pa_cons (pe_fld (pv 0) rfl) pa_nil)))))))), ?_⟩
    have hno : (!decide (ch = V.non)) = o.isSome := by
      cases o with
      | none => rw [show ch = .non from hch]; rfl
      | some ss =>
        obtain ⟨r, rfl, _⟩ := hch
        rfl
    have hno2 : decide (ch = V.non) = !o.isSome := by rw [← hno, Bool.not_not]
    refine q_when (b := oe && (o.isSome || isRq st)) (et_and (et_truB (ev_var rfl)) fun _ => et_or (et_is (et_test (ev_op (ev_var rfl) ev_c rv_notN)) hno) fun _ => et_B (ev_isRq WO (ev_var rfl) ev_c hm)) (fun hb H1 e1 => ?_) (fun hb H1 e1 => ?_)
    · refine s_ret ev_c fun H2 e2 => ?_
      have g := q H2 (e1.trans e2)
      unfold frB at g
      rw [if_pos hb] at g
      exact g
    · have hf : frB st fs o tr oe = frI st fs o tr oe := by
        unfold frB
        rw [hb, if_neg Bool.false_ne_true]
      refine q_when (b := !o.isSome) (et_is (et_test (ev_op (ev_var rfl) ev_c rv_isN)) hno2) (fun hb2 H2 e2 => ?_) (fun hb2 H2 e2 => ?_)
      · cases o with
        | some ss => cases hb2
        | none =>
          refine s_ret (v := .bl (frB st fs none tr oe)) (ev_is (ev_andV (ev_op (ev_var rfl) ev_c rv_eqI) fun _ => ev_orV (ev_may (ev_var rfl) (hm.ex (e1.trans e2))) fun _ => ev_notV (ev_var rfl)) (congrArg V.bl hf.symm)) fun H3 e3 => q H3 ((e1.trans e2).trans e3)
      · cases o with
        | none => cases hb2
        | some ss =>
          obtain ⟨r, rfl, hr0⟩ := hch
          have e12 := e1.trans e2
          have hss := ho ss rfl
          obtain ⟨a, dx, l, ex, rfl, ha, hex, hfs⟩ := id hm
          obtain ⟨fx, hfx, hfr⟩ := id hfs
          have WM := WO.at_ st
          refine q_when (b := !mayB st || ss.any fun s => decide (s < 1)) (et_or (et_not (et_B (ev_may (ev_var rfl) (hm.ex e12)))) fun _ => et_B (ev_is (ev_any (bs := ss.map fun s => decide (s < 1)) (by
              have e : given (ss.map V.int).length (fun _ => true) (fun i => .bl (decide (ss.getD i 0 < 1))) = (ss.map fun s => decide (s < 1)).map V.bl := by
                rw [List.length_map, List.map_map]
                have := given_all ss 0 (fun _ => true) (fun s => .bl (decide (s < 1)))
                rw [this, List.filter_eq_self.mpr fun _ _ => rfl]
                rfl
              rw [← e]
              refine el_lcL (fun _ => true) (fun i => .bl (decide (ss.getD i 0 < 1))) (ev_var rfl) (sq_of (e12 _ _ hr0)) (by rw [List.length_map]; omega) (fun _ => rfl) (fun i x H3 e3 hx => et_yes) (fun i x H3 e3 hx _ => ?_)
              obtain ⟨hi, rfl⟩ := at_intE hx
              exact ev_op (ev_var rfl) ev_c rv_I0)) (by rw [List.any_map]; rfl))) (fun hb3 H3 e3 => ?_) (fun hb3 H3 e3 => ?_)
          · refine s_ret ev_c fun H4 e4 => ?_
            have g := q H4 ((e12.trans e3).trans e4)
            have h0 : frB st fs (some ss) tr oe = false := hf.trans (by unfold frI; dsimp only; rw [if_pos hb3])
            rw [h0] at g
            exact g
          · have h0 : frB st fs (some ss) tr oe = (decide ((0 : Int) ≤ tr) && decide (tr ≤ (fs.length : Int))) := hf.trans (by unfold frI; dsimp only; rw [hb3, if_neg Bool.false_ne_true])
            refine s_ret (ev_is (ev_chain ev_c (ev_var rfl) (ev_len (ev_fldO WM.cls WM.n3 (ev_var rfl) ((e12.trans e3) _ _ ha) ms_fields) (sq_of ((e12.trans e3) _ _ hfx)))) (by rw [h0, hfr.1])) fun H4 e4 => q H4 ((e12.trans e3).trans e4)
end
end Z
set_option maxHeartbeats 4000000
namespace Z
open PySem PySem.Spec PyProof.Rows L2 TL Evl NdefX
/-! ### write_message -/
theorem lenL_len {b : Str} (h : b.length ≤ 1000) : (lenL b).length ≤ 20 := by
  have hn : (numT (b.length : Int)).length ≤ 7 := strI_len (by omega) (by omega)
  have e1 : (Str.empty ++ ("length: " : Str)).length ≤ 8 := by decide +kernel
  show ((Str.empty ++ ("length: " : Str)) ++ numT (b.length : Int)).length ≤ 20
  rw [Str.length_append]
  omega
section
variable {P : Program} {w : World} {K : PySem.W.Frag} {mg : Str → Option Value} {base : Heap} {f cc cda D RQ RS DF DH DM DV DR : Addr} {fd : FuncData} {k : Nat} {CX : CXT} {dvs : List V} {kws : List (Str × V)}
theorem ok_write_message (T : Mg mg) (WO : Wo K mg RQ RS) (PO : Po P w K mg base RQ RS) (WE : We K mg DF DH DM DV DR) (EF : Ef0 P w K mg base DF) (c_field_lines : Call P w K mg base 1 "field_lines" ["fields"] spFl) (c_is_framing : Call P w K mg base 3 "is_framing" ["message", "chunks", "trailer", "open_end"] (spIf RQ RS)) (c_write_chunked : Call P w K mg base 3 "write_chunked" ["message", "sizes", "trailer"] (spWc RQ RS))
    (F : FunD K "write_message" "write_message" (L2.defArgs s_write_message) (L2.defBody s_write_message) (L2.defScope s_write_message) dvs kws f fd) : FnOk P w K mg base (L2N.CX P w) 4 f fd ["message", "chunks", "trailer", "open_end"] (spWm RQ RS DF) := by
  obtain ⟨gqs, rqs, dqs, oqs, Fqs, bqs⟩ := PO.qs.ex
  obtain ⟨gss, rss, dss, oss, Fss, bss⟩ := PO.ss.ex
  obtain ⟨gqm, rqm, dqm, oqm, Fqm, bqm⟩ := PO.qm.ex
  obtain ⟨gsm, rsm, dsm, osm, Fsm, bsm⟩ := PO.sm.ex
  refine FunD.ok F sc_write_message (fun vs H Q E h => ?_) (fun cdv A outer s H vs Q E hr h => ?_)
  · obtain ⟨v, ch, st, b, fs, o, tr, oe, rfl, _⟩ := h
    rfl
  · obtain ⟨v, ch, st, b, fs, o, tr, oe, rfl, hm, hch, ho, hok, hst, hbl, q, qf⟩ := h
    refine ⟨_, (pss_cons (ps_if (pt_not (pt_val (pe_f c_is_framing hr (by decide) rfl (pa_cons (pv 0) (pa_cons (pv 1) (pa_cons (pv 2) (pa_cons (pv 3) pa_nil)))))))
      (pss_one (ps_raise0 EF rfl (L2N.takes_of rfl rfl rfl rfl) (hr.mono (by decide)) rfl WE.mF))
      pss_nil)
    (pss_cons (ps_if (pt_cmpR op_notN1 (pv 1) pe_non (nomark _))
      (pss_one (ps_ret (pe_f c_write_chunked hr (by decide) rfl (pa_cons (pv 0) (pa_cons (pv 1) (pa_cons (pv 2) pa_nil))))))
      pss_nil)
    (pss_cons (ps_set (i := 4) sc_write_message.nd rfl (Or.inl rfl) (pe_op op_cat (pe_lst (pa_cons (pe_either (pe_prop (pv 0) WO.cq oqs Fqs (hr.mono (by decide)) bqs .nil pass0 rfl) (pe_prop (pv 0) WO.cs oss Fss (hr.mono (by decide)) bss .nil pass0 rfl)) pa_nil)) (pe_f c_field_lines hr (by decide) rfl (pa_cons (pe_fld (pv 0) rfl) pa_nil))))
    (pss_cons (ps_if (PW.pt (pw_and (pt_val (pe_either (pe_prop (pv 0) WO.cq oqm Fqm (hr.mono (by decide)) bqm .nil pass0 rfl) (pe_prop (pv 0) WO.cs osm Fsm (hr.mono (by decide)) bsm .nil pass0 rfl))) (pw_and1 (pt_not (pt_truth (pv 3) (by intro _; rfl))))))
      (pss_one (ps_expr (pe_bm PySem.F.plainAttrs_list PySem.F.slot_list_append PySem.F.type_list_append mt_append (pv 4) (pa_cons (pe_joined (.cons pe_str (.cons (pe_fmt (pe_callB cz_len (by rfl) T.len (by decide +kernel) (pa_cons (pe_fld (pv 0) rfl) pa_nil))) .nil))) pa_nil))))
      pss_nil)
    (pss_one (ps_ret (pe_bm PySem.F.plainAttrs_str PySem.F.slot_str_join PySem.F.type_str_join mz_join pe_str (pa_cons (pe_lst (StX.pa_star (pv 4) (pa_cons pe_str (pa_cons (pe_fld (pv 0) rfl) pa_nil)))) pa_nil)))))))), ?_⟩
    refine q_when (b := !frB st fs o tr oe) (et_not (et_B (ev_call (ea_cons (ev_var rfl) (ea_cons (ev_var rfl) (ea_cons (ev_var rfl) (ea_cons (ev_var rfl) ea_nil)))) (fun H1 e Q' q' E' => ⟨v, ch, st, b, fs, o, tr, oe, rfl, hm.ex e, hch.ex e, ho, q'⟩)))) (fun hb H1 e1 => ?_) (fun hb H1 e1 => ?_)
    · rw [Bool.not_eq_true'] at hb
      exact ZX.mk_err0 fun H2 e2 => qf hb H2 (e1.trans e2)
    · rw [Bool.not_eq_false'] at hb
      have q := q hb
      obtain ⟨a, dx, l, ex, rfl, ha, hex, hf⟩ := id hm
      have WM := WO.at_ st
      have hno : (!decide (ch = V.non)) = o.isSome := by
        cases o with
        | none => rw [show ch = .non from hch]; rfl
        | some ss =>
          obtain ⟨r, rfl, _⟩ := hch
          rfl
      refine q_when (b := o.isSome) (et_is (et_test (ev_op (ev_var rfl) ev_c rv_notN)) hno) (fun hb2 H2 e2 => ?_) (fun hb2 H2 e2 => ?_)
      · cases o with
        | none => cases hb2
        | some ss =>
          obtain ⟨r, rfl, hr0⟩ := id hch
          have e12 := e1.trans e2
          have ht : (0 : Int) ≤ tr ∧ tr ≤ (fs.length : Int) := by
            unfold frB at hb
            split at hb
            · cases hb
            · unfold frI at hb
              dsimp only at hb
              split at hb
              · cases hb
              · rw [Bool.and_eq_true, decide_eq_true_eq, decide_eq_true_eq] at hb
                exact hb
          exact s_ret (v := .str (wrM st fs b (some ss) tr oe)) (ev_call (ea_cons (ev_var rfl) (ea_cons (ev_var rfl) (ea_cons (ev_var rfl) ea_nil))) (fun H3 e Q' q' E' => ⟨.ref a, r, st, b, fs, ss, tr, rfl, hm.ex (e12.trans e), (e12.trans e) _ _ hr0, hok, hst, hbl, ho ss rfl, ht.1, ht.2, q'⟩)) fun H3 e3 => q H3 (e12.trans e3)
      · cases o with
        | some ss => cases hb2
        | none =>
          have e12 := e1.trans e2
          have hfl := (areB_val hok).1
          have s1 := lines_sum hok
          have ll := lenL_len hbl
          refine q_asgL (xs := ([st] ++ fs.map fieldL).map V.str) (by
            rw [List.map_append]
            exact el_catLL (el_lst (ea_cons (ev_start (ev_var rfl) (hm.ex e12)) ea_nil) (by show 1 ≤ 100000; decide)) (el_flA (ev_fldO WM.cls WM.n3 (ev_var rfl) (e12 _ _ ha) ms_fields) (hf.ex e12) hok) (by simp only [List.length_map, List.length_cons, List.length_nil]; omega)) fun L H3 nL e3 hL => ?_
          have e13 := e12.trans e3
          have nL0 := fresh_back e12 nL
          refine q_tailIf (fun σ1 Hx => σ1 = [some (.ref a), some ch, some (.int tr), some (.bl oe), some (.ref L)] ∧ Ex H Hx ∧ Hx L = some (.lst ((pLines st fs b oe).map V.str))) (fun σ1 H4 hR => ?_) (fun tail => ?_)
          · obtain ⟨rfl, e4, h4⟩ := hR
            refine s_ret (v := .str (wrM st fs b none tr oe)) (ev_joinL (zs := pLines st fs b oe ++ [("" : Str), b]) (by
              rw [List.map_append]
              exact el_lst (ea_star (ev_var rfl) h4 (ea_cons ev_c (ea_cons (ev_fldO WM.cls WM.n4 (ev_var rfl) (e4 _ _ ha) rfl) ea_nil))) (by unfold pLines; split <;> simp only [List.length_map, List.length_append, List.length_cons, List.length_nil] <;> omega)) ?_) fun H5 e5 => q H5 (e4.trans e5)
            have l2 : ("" : Str).length = 0 := by decide +kernel
            have l4 : ("\n" : Str).length = 1 := by decide +kernel
            unfold pLines
            split
            · simp only [List.map_append, List.sum_append, List.map_cons, List.map_nil, List.sum_cons, List.sum_nil, List.length_append, List.length_cons, List.length_nil, List.length_map, l2, l4]
              simp only [List.map_map] at s1 ⊢
              omega
            · simp only [List.map_append, List.sum_append, List.map_cons, List.map_nil, List.sum_cons, List.sum_nil, List.length_append, List.length_cons, List.length_nil, List.length_map, l2, l4]
              simp only [List.map_map] at s1 ⊢
              omega
          · refine q_if (b := mayB st && !oe) (et_and (et_B (ev_may (ev_var rfl) (hm.ex e13))) fun _ => et_not (et_truB (ev_var rfl))) (fun hb3 H4 e4 => ?_) (fun hb3 H4 e4 => ?_)
            · refine s_app (e4 _ _ hL) (ev_var rfl) (ev_joined (zs := [("length: " : Str), numT (b.length : Int)]) (x := lenL b) (ej_cons ev_c (ej_cons (ev_fmtI (ev_lenStr (ev_fldO WM.cls WM.n4 (ev_var rfl) ((e13.trans e4) _ _ ha) rfl) (by omega)) (log_small (by omega))) ej_nil)) ?_ rfl) (by simp only [List.length_map, List.length_append, List.length_cons, List.length_nil]; omega) fun H5 e5 => ?_
              · have hn : (numT (b.length : Int)).length ≤ 7 := strI_len (by omega) (by omega)
                have c1 : ("length: " : Str).length ≤ 100 := by decide +kernel
                simp only [List.map_cons, List.map_nil, List.sum_cons, List.sum_nil]
                omega
              · refine tail _ _ ⟨rfl, Ex.mut ((e13.trans e4).trans e5) nL0, ?_⟩
                rw [upd_same]
                unfold pLines
                rw [if_pos hb3, List.map_append (l₂ := [lenL b])]
                rfl
            · refine tail _ _ ⟨rfl, e13.trans e4, ?_⟩
              rw [e4 _ _ hL]
              unfold pLines
              rw [hb3, if_neg Bool.false_ne_true, List.append_nil]
end
end Z
set_option maxHeartbeats 4000000
namespace Z
open PySem PySem.Spec PyProof.Rows L2 TL Evl NdefX
/-! ### the written form as the law writes it -/
theorem cutMid_tl (z : Str) (a s : Nat) : tl (cutS z (some (a : Int)) (some ((a : Int) + (s : Int)))) = ((tl z).drop a).take s := by
  have e : (a : Int) + (s : Int) = ((a + s : Nat) : Int) := by omega
  rw [e]
  show ((tl z).drop (HT.sIx z.length 0 (some (a : Int)))).take (HT.sIx z.length z.length (some ((a + s : Nat) : Int)) - HT.sIx z.length 0 (some (a : Int))) = _
  rw [show HT.sIx z.length z.length (some ((a + s : Nat) : Int)) = min (a + s) z.length from HT.sIx_nat _ _ (a + s), show HT.sIx z.length 0 (some (a : Int)) = min a z.length from HT.sIx_nat _ _ a, len_tl]
  by_cases h : a ≤ (tl z).length
  · rw [Nat.min_eq_left h]
    by_cases h2 : a + s ≤ (tl z).length
    · rw [Nat.min_eq_left h2, Nat.add_sub_cancel_left]
    · rw [Nat.min_eq_right (by omega), List.take_of_length_le (by rw [List.length_drop]; exact Nat.le_refl _), List.take_of_length_le (by rw [List.length_drop]; omega)]
  · rw [Nat.min_eq_right (show (tl z).length ≤ a + s by omega), Nat.min_eq_right (show (tl z).length ≤ a by omega), List.drop_of_length_le (Nat.le_refl _), List.drop_of_length_le (show (tl z).length ≤ a by omega), List.take_nil, List.take_nil]
def chLt : List Int → Str → Str → Str
  | [], _, t => t ++ ("0\n" : Str)
  | s :: r, b, t => chLt r (cutS b (some s) none) (if cutS b none (some s) = ("" : Str) then t else t ++ numT ((cutS b none (some s)).length : Int) ++ ("\n" : Str) ++ cutS b none (some s) ++ ("\n" : Str))
/-- lines with their ends -/
def flat (ls : List Str) : List Nat := ls.flatMap fun l => tl l ++ [10]
theorem flat_append (a b : List Str) : flat (a ++ b) = flat a ++ flat b := by unfold flat; rw [List.flatMap_append]
theorem flat_cons (a : Str) (b : List Str) : flat (a :: b) = tl a ++ [10] ++ flat b := by unfold flat; rw [List.flatMap_cons]
theorem join_flat (ls : List Str) (z : Str) : tl (Txt.join "\n" (ls ++ [z])) = flat ls ++ tl z := by
  cases ls with
  | nil =>
    rw [List.nil_append, join_tl]
    unfold flat
    simp
  | cons p r =>
    rw [List.cons_append, join_tl, flat_cons, List.flatMap_append, nl_tl]
    have : ∀ (p : List Nat) (r : List Str), p ++ (r.flatMap fun q => [10] ++ tl q) ++ [10] = p ++ [10] ++ flat r := fun p r => by
      induction r generalizing p with
      | nil => simp [flat]
      | cons x t ih =>
        rw [List.flatMap_cons, flat_cons]
        have := ih (p ++ [10] ++ tl x)
        simp only [List.append_assoc] at this ⊢
        exact this
    have h := this (tl p) r
    simp only [List.flatMap_cons, List.flatMap_nil, List.append_nil] 
    rw [← List.append_assoc, ← List.append_assoc, h]
theorem chLt_tl (b : Str) : ∀ (X : List Int) (a : Nat) (t u : Str), tl u = (tl b).drop a → (∀ s ∈ X, 0 ≤ s ∧ (1 ≤ s ∨ b.length = 0)) → tl (chLt X u t) = tl t ++ flat (chunkL (chP b X a)) ++ [48, 10]
  | [], a, t, u, _, _ => by
    unfold chLt chP
    rw [tl_append, show tl ("0\n" : Str) = [48, 10] by decide +kernel]
    simp [chunkL, flat]
  | s :: r, a, t, u, hu, hs => by
    obtain ⟨h0, h1⟩ := hs s List.mem_cons_self
    obtain ⟨n, rfl⟩ := Int.eq_ofNat_of_zero_le h0
    have hpt : tl (cutS u none (some (n : Int))) = ((tl b).drop a).take n := by rw [cutTo_tl, hu]
    have hrt : tl (cutS u (some (n : Int)) none) = (tl b).drop (a + n) := by rw [cutFrom_tl, hu, List.drop_drop]
    have hlb := len_tl' b
    unfold chLt chP
    by_cases hc : (a : Int) < (b.length : Int)
    · have hmid : cutS b (some (a : Int)) (some ((a : Int) + (n : Int))) = cutS u none (some (n : Int)) := ext_tl (by rw [cutMid_tl, hpt])
      have hne : ¬ cutS u none (some (n : Int)) = ("" : Str) := fun e => by
        have := congrArg (fun z => (tl z).length) e
        rw [hpt, tl_empty, List.length_take, List.length_drop, hlb] at this
        have : min n (b.length - a) = 0 := this
        omega
      rw [if_pos hc, if_neg hne, hmid]
      have := chLt_tl b r (a + n) (t ++ numT ((cutS u none (some (n : Int))).length : Int) ++ ("\n" : Str) ++ cutS u none (some (n : Int)) ++ ("\n" : Str)) _ hrt fun s hs' => hs s (List.mem_cons_of_mem _ hs')
      rw [this]
      have e : ((a : Int) + (n : Int)) = ((a + n : Nat) : Int) := by omega
      rw [e]
      have e2 : ∀ (c : Str) (cs : List Str), chunkL (c :: cs) = numT (c.length : Int) :: c :: chunkL cs := fun _ _ => rfl
      rw [e2, flat_cons, flat_cons]
      simp only [tl_append, nl_tl, List.append_assoc]
    · have he : (tl b).drop a = [] := List.drop_eq_nil_of_le (by rw [hlb]; omega)
      have hem : cutS u none (some (n : Int)) = ("" : Str) := ext_tl (by rw [hpt, he, tl_empty, List.take_nil])
      rw [if_neg hc, if_pos hem]
      exact chLt_tl b r a t _ (by rw [hrt, he]; exact List.drop_eq_nil_of_le (by rw [hlb]; omega)) fun s hs' => hs s (List.mem_cons_of_mem _ hs')
def lawL (x : Str × Str) : Str := x.1 ++ (": " : Str) ++ x.2 ++ ("\n" : Str)
theorem lawL_tl (x : Str × Str) : tl (lawL x) = tl (fieldL x) ++ [10] := by
  unfold lawL fieldL
  simp only [List.foldl_cons, List.foldl_nil, tl_append, nl_tl]
  rw [show tl Str.empty = [] by decide +kernel, List.nil_append]
theorem join_law (gs : Fs) : tl (Txt.join "" (gs.map lawL)) = flat (gs.map fieldL) := by
  rw [tlTJ]
  unfold flat
  rw [List.flatMap_map, List.flatMap_map]
  have : (fun a : Str × Str => tl (lawL a)) = fun a => tl (fieldL a) ++ [10] := funext lawL_tl
  rw [this]
def headT (st : Str) (fs : Fs) (n : Nat) : Str := st ++ ("\n" : Str) ++ Txt.join "" ((fs.map lawL).take n)
theorem headT_tl (st : Str) (fs : Fs) (n : Nat) : tl (headT st fs n) = flat ([st] ++ (fs.take n).map fieldL) := by
  unfold headT
  rw [tl_append, tl_append, nl_tl, ← List.map_take, join_law, List.singleton_append, flat_cons]
/-- the law's own written form; the lines before the last tr -/
def formT (st : Str) (fs : Fs) (b : Str) (o : Option (List Int)) (tr : Int) (oe : Bool) : Str :=
  match o with
  | some ss => headT st fs ((fs.length : Int) - tr).toNat ++ ("length: chunks\n\n" : Str) ++ chLt (ss ++ [(b.length : Int)]) b "" ++ Txt.join "" ((fs.map lawL).drop ((fs.length : Int) - tr).toNat) ++ ("\n" : Str)
  | none => (if (mayB st && !oe) = true then headT st fs ((fs.length : Int) - tr).toNat ++ (("length: " : Str) ++ numT (b.length : Int) ++ ("\n" : Str)) else headT st fs ((fs.length : Int) - tr).toNat) ++ ("\n" : Str) ++ b
theorem form_eq {st b : Str} {fs : Fs} {o : Option (List Int)} {tr : Int} {oe : Bool} (h : frB st fs o tr oe = true) : formT st fs b o tr oe = wrM st fs b o tr oe := by
  refine ext_tl ?_
  unfold frB at h
  split at h
  · cases h
  · unfold frI at h
    cases o with
    | none =>
      dsimp only at h
      rw [Bool.and_eq_true, decide_eq_true_eq] at h
      obtain ⟨rfl, h2⟩ := h
      unfold formT wrM plainW pLines
      dsimp only
      have en : ((fs.length : Int) - 0).toNat = fs.length := by omega
      have ej : ∀ ls : List Str, tl (Txt.join "\n" (ls ++ [("" : Str), b])) = flat ls ++ [10] ++ tl b := fun ls => by
        have := join_flat (ls ++ [("" : Str)]) b
        rw [List.append_assoc] at this
        rw [show ls ++ [("" : Str), b] = ls ++ ([("" : Str)] ++ [b]) from rfl, this, flat_append, flat_cons, tl_empty]
        simp [flat]
      rw [ej, flat_append, tl_append, tl_append, nl_tl, en]
      have hh := headT_tl st fs fs.length
      rw [List.take_length] at hh
      split
      · rw [tl_append, tl_append, tl_append, nl_tl, hh]
        have : flat [lenL b] = tl ("length: " : Str) ++ tl (numT (b.length : Int)) ++ [10] := by
          rw [flat_cons]
          unfold lenL
          simp only [List.foldl_cons, List.foldl_nil, tl_append]
          rw [show tl Str.empty = [] by decide +kernel, List.nil_append]
          simp [flat]
        rw [this]
      · rw [hh]
        simp [flat]
    | some ss =>
      dsimp only at h
      split at h
      · cases h
      · rename_i hns
        rw [Bool.or_eq_true, not_or, Bool.not_eq_true, Bool.not_eq_true] at hns
        have hss : ∀ s ∈ ss, (1 : Int) ≤ s := fun s hs => by
          have h2 := List.any_eq_false.mp hns.2 s hs
          rw [decide_eq_true_eq] at h2
          omega
        unfold formT wrM chunkedW
        dsimp only
        have ej : ∀ ls : List Str, tl (Txt.join "\n" (ls ++ [("" : Str), ""])) = flat ls ++ [10] := fun ls => by
          have := join_flat (ls ++ [("" : Str)]) ""
          rw [List.append_assoc] at this
          rw [show ls ++ [("" : Str), ""] = ls ++ ([("" : Str)] ++ [("" : Str)]) from rfl, this, flat_append, flat_cons, tl_empty]
          simp [flat]
        generalize ((fs.length : Int) - tr).toNat = n
        have hc := chLt_tl b (ss ++ [(b.length : Int)]) 0 "" b rfl fun s hs => by
          rcases List.mem_append.mp hs with hs | hs
          · exact ⟨by have := hss s hs; omega, Or.inl (hss s hs)⟩
          · rw [List.mem_singleton.mp hs]
            exact ⟨by omega, by omega⟩
        rw [ej]
        unfold cLines
        rw [tl_append, tl_append, tl_append, tl_append, hc, headT_tl, ← List.map_drop, join_law, nl_tl, tl_empty]
        have e1 : flat [("length: chunks" : Str), ""] = tl ("length: chunks\n\n" : Str) := by decide +kernel
        have e2 : flat [("0" : Str)] = [48, 10] := by decide +kernel
        simp only [flat_append, e1, e2, List.append_assoc, List.nil_append]
        rfl
end Z
set_option maxHeartbeats 4000000
namespace Z
open PySem PySem.Spec PyProof.Rows L2 TL Evl NdefX
/-! ### the law's draws: names, values, bodies -/
section
variable {σ : L2.St} {H : Hp} {ta tb tc tl' : TE} {td : TA} {p : Addr} {n lo hi c : Int} {z : Str} {xs : List V} {Q : VK} {E E2 : XK}
theorem rd_dr (h : EvA td σ H [.ref p, .int n]) (b : Bg H p) (h1 : 1 ≤ n) (h2 : n ≤ 1000000) (k : ∀ (d : Int) H', 0 ≤ d → d < n → Bg H' p → Keep p H H' → Q (.int d) H') : tCall spDr [] E td σ H Q :=
  rd_call h fun H1 e1 => ⟨p, n, rfl, b.ex e1, h1, h2, fun d H' d0 d1 b' k' => k d H' d0 d1 b' ((Keep.of e1).trans k')⟩
theorem rd_pk (hp : Ev ta σ H (.ref p)) (hl : EvL tl' σ H xs) (b : Bg H p) (h1 : 1 ≤ xs.length) (h2 : xs.length ≤ 1000) (k : ∀ v H', v ∈ xs → Bg H' p → Keep p H H' → Q v H') : tCall spPk [] E (tCons ta (tCons tl' tNil)) σ H Q :=
  hp H (Ex.refl H) _ fun H1 e1 => hl H1 e1 _ fun l H2 nl e2 hl2 => ⟨p, l, xs, rfl, (b.ex e1).ex e2, (b.ex e1).ne nl, hl2, h1, h2, fun v H' hv b' k' => k v H' hv b' (((Keep.of e1).trans (Keep.of e2)).trans k')⟩
theorem rd_mo (h : EvA td σ H [.ref p, .int lo, .int hi]) (b : Bg H p) (k : ∀ (d : Int) H', d = lo ∨ d = hi → Bg H' p → Keep p H H' → Q (.int d) H') : tCall spMo [] E td σ H Q :=
  rd_call h fun H1 e1 => ⟨p, lo, hi, rfl, b.ex e1, fun d H' hd b' k' => k d H' hd b' ((Keep.of e1).trans k')⟩
theorem rd_wd (h : EvA td σ H [.ref p, .str z, .int lo, .int hi]) (b : Bg H p) (z1 : 1 ≤ z.length) (z2 : z.length ≤ 1000) (h0 : 0 ≤ lo) (h1 : lo ≤ hi) (h2 : hi ≤ 1000) (k : ∀ (t : Str) H', lo ≤ (t.length : Int) → (t.length : Int) ≤ hi → (∀ c ∈ tl t, c ∈ tl z) → Bg H' p → Keep p H H' → Q (.str t) H') : tCall spWd [] E td σ H Q :=
  rd_call h fun H1 e1 => ⟨p, z, lo, hi, rfl, b.ex e1, z1, z2, h0, h1, h2, fun t H' t0 t1 ht b' k' => k t H' t0 t1 ht b' ((Keep.of e1).trans k')⟩
theorem rd_wdM (hp : Ev ta σ H (.ref p)) (hz : Ev tb σ H (.str z)) (hc : Ev tc σ H (.int lo)) (hm : ∀ H1, Ex H H1 → EvA td σ H1 [.ref p, .int c, .int hi]) (b : Bg H p) (z1 : 1 ≤ z.length) (z2 : z.length ≤ 1000) (h0 : 0 ≤ lo) (h1 : lo ≤ c) (h2 : c ≤ hi) (h3 : hi ≤ 1000) (k : ∀ (t : Str) H', lo ≤ (t.length : Int) → (t.length : Int) ≤ hi → (∀ c ∈ tl t, c ∈ tl z) → Bg H' p → Keep p H H' → Q (.str t) H') : tCall spWd [] E (tCons ta (tCons tb (tCons tc (tCons (tCall spMo [] E2 td) tNil)))) σ H Q :=
  hp H (Ex.refl H) _ fun H1 e1 => hz H1 e1 _ fun H2 e2 => hc H2 (e1.trans e2) _ fun H3 e3 => rd_mo (hm H3 ((e1.trans e2).trans e3)) (b.ex ((e1.trans e2).trans e3)) fun d H4 hd b4 k4 => ⟨p, z, lo, d, rfl, b4, z1, z2, h0, by omega, by omega, fun t H' t0 t1 ht b' k' => k t H' t0 (by omega) ht b' (((Keep.of ((e1.trans e2).trans e3)).trans k4).trans k')⟩
end
theorem hd_app {a b : Str} (h : a.length = 1) : hd (a ++ b) = hd a := by
  unfold hd
  rw [tl_append]
  cases e : tl a with
  | nil =>
    rw [len_tl, e] at h
    exact absurd h (by decide)
  | cons x r => rfl
def lowS : Str := "abcdefghijklmnopqrstuvwxyz"
def tailS : Str := "abcdefghijklmnopqrstuvwxyz0123456789-"
theorem name_drawn {a t : Str} (ha : a.length = 1) (h1 : ∀ c ∈ tl a, c ∈ tl lowS) (ht : t.length ≤ 29) (h2 : ∀ c ∈ tl t, c ∈ tl tailS) (hn : a ++ t ≠ ("length" : Str)) : nameB (a ++ t) = true := by
  have k : ∀ c ∈ tl lowS, c ∈ tl tailS := by decide +kernel
  have e1 : allIn a tailS = true := List.all_eq_true.mpr fun c hc => decide_eq_true (k c (h1 c hc))
  have e2 : allIn t tailS = true := List.all_eq_true.mpr fun c hc => decide_eq_true (h2 c hc)
  have e3 : hdIn (a ++ t) lowS = true := by
    unfold hdIn
    rw [hd_app ha]
    unfold hd
    cases e : tl a with
    | nil =>
      rw [len_tl, e] at ha
      exact absurd ha (by decide)
    | cons x r =>
      exact decide_eq_true (h1 x (by rw [e]; exact List.mem_cons_self))
  show (((decide ((1 : Int) ≤ (a ++ t).length) && decide (((a ++ t).length : Int) ≤ 30)) && (hdIn (a ++ t) lowS && allIn (a ++ t) tailS)) && !decide (a ++ t = ("length" : Str))) = true
  rw [e3, allIn_app, e1, e2, decide_eq_false hn, Str.length_append, decide_eq_true (by omega), decide_eq_true (by omega)]
  rfl
theorem name_len7 : nameB ("length-" : Str) = true := by decide +kernel
theorem strip_value {z : Str} (h : allIn z signs = true) (hl : z.length ≤ 200) : valueB (Txt.stripChars z " ") = true := by
  have := strip_len z " "
  unfold valueB
  rw [decide_eq_true (by omega), strip_idem, decide_eq_true rfl, Bool.and_true, Bool.true_and]
  exact allIn_sub h fun c hc => strip_mem hc
def spNm : Sp := fun vs H Q _ => ∃ p, vs = [.ref p] ∧ Bg H p ∧ ∀ (t : Str) H', nameB t = true → Bg H' p → Keep p H H' → Q (.str t) H'
def spVl : Sp := fun vs H Q _ => ∃ p, vs = [.ref p] ∧ Bg H p ∧ ∀ (t : Str) H', valueB t = true → Bg H' p → Keep p H H' → Q (.str t) H'
def spNs : Sp := fun vs H Q _ => ∃ p, vs = [.ref p] ∧ Bg H p ∧ ∀ (q : Addr) (ns : List Str) H', q ≠ p → H' q = some (.lst (ns.map V.str)) → 1 ≤ ns.length → ns.length ≤ 3 → (∀ t ∈ ns, nameB t = true) → Bg H' p → Keep p H H' → Q (.ref q) H'
def spBy : Sp := fun vs H Q _ => ∃ p, vs = [.ref p] ∧ Bg H p ∧ ∀ (t : Str) H', t.length ≤ 1000 → bodyB t = true → Bg H' p → Keep p H H' → Q (.str t) H'
theorem linesB_of {z : Str} (h : z.length ≤ 1000) (k : ∀ c ∈ tl z, c = 10 ∨ c ∈ tl signs) : bodyB z = true := by
  unfold bodyB linesB
  rw [decide_eq_true (by omega), Bool.true_and]
  exact List.all_eq_true.mpr fun c hc => by
    rcases k c hc with h | h
    · rw [decide_eq_true h]; rfl
    · rw [decide_eq_true h, Bool.or_true]
section
variable {P : Program} {w : World} {K : PySem.W.Frag} {mg : Str → Option Value} {base : Heap} {f : Addr} {fd : FuncData} {k : Nat}
theorem ok_law_name (T : Mg mg) (c_law_most : CMo P w K mg base) (c_law_word : CWd P w K mg base) (c_law_letters : Call P w K mg base 1 "_law_letters" [] (sp0 (.str letters))) (F : FnP K "_law_name" s_law_name f fd) (gm : mg "_law_name" = some (.ref f)) : Call P w K mg base 3 "_law_name" ["bag"] spNm := by
  refine mk F gm (fun _ _ _ _ _ _ us hl => match us, hl with | [_], _ => rfl) (fun _ _ _ _ _ _ us hl => match us, hl with | [_], _ => rfl) sc_law_name (fun vs H Q E h => ?_) (fun cdv A outer s H vs Q E hr h => ?_)
  · obtain ⟨p, rfl, _⟩ := h
    rfl
  · obtain ⟨p, rfl, b, q⟩ := h
    refine ⟨_, (pss_cons (ps_set (i := 1) sc_law_name.nd rfl (Or.inl rfl) (pe_op oz_add (pe_f0 c_law_letters hr (by decide) rfl) pe_str))
    (pss_cons (ps_set (i := 2) sc_law_name.nd rfl (Or.inl rfl) (pe_op oz_add (pe_f c_law_word hr (by decide) rfl (pa_cons (pv 0) (pa_cons (pe_f0 c_law_letters hr (by decide) rfl) (pa_cons pe_int (pa_cons pe_int pa_nil))))) (pe_f c_law_word hr (by decide) rfl (pa_cons (pv 0) (pa_cons (pv 1) (pa_cons pe_int (pa_cons (pe_f c_law_most hr (by decide) rfl (pa_cons (pv 0) (pa_cons pe_int (pa_cons pe_int pa_nil)))) pa_nil)))))))
    (pss_cons (ps_if (pt_cmpR op_eq (pv 2) pe_str (nomark _))
      (pss_one (ps_ret pe_str))
      pss_nil)
    (pss_one (ps_ret (pv 2)))))), ?_⟩
    refine q_asg (v := .str tailS) (ev_is (ev_op (ev_call ea_nil sv0) ev_c (rv_addS (by decide +kernel))) (by rw [show letters ++ ("0123456789-" : Str) = tailS by decide +kernel])) fun H1 e1 => ?_
    have l1 : 1 ≤ letters.length ∧ letters.length ≤ 1000 := by decide +kernel
    have l2 : 1 ≤ tailS.length ∧ tailS.length ≤ 1000 := by decide +kernel
    have hlow : letters = lowS := by decide +kernel
    refine q_asgR (rd_wd (ea_cons (ev_var rfl) (ea_cons (ev_call ea_nil sv0) (ea_cons ev_c (ea_cons ev_c ea_nil)))) (b.ex e1) l1.1 l1.2 (by decide) (by decide) (by decide) fun a H2 a0 a1 ha b2 k2 => ?_)
    refine rd_wdM (ev_var rfl) (ev_var rfl) ev_c (fun H1 e1 => ea_cons (ev_var rfl) (ea_cons ev_c (ea_cons ev_c ea_nil))) b2 l2.1 l2.2 (by decide) (by decide) (by decide) (by decide) fun t H3 t0 t1 ht b3 k3 => ?_
    refine ⟨a, t, rfl, rfl, sz_of (show a.length + t.length ≤ 100000 by omega), ?_⟩
    have kk := ((Keep.of e1).trans k2).trans k3
    rw [hlow] at ha
    refine q_when (et_test (ev_op (ev_var rfl) ev_c rv_eqS)) (fun hb H4 e4 => ?_) (fun hb H4 e4 => ?_)
    · exact s_ret ev_c fun H5 e5 => q _ H5 name_len7 (b3.ex (e4.trans e5)) (kk.trans (Keep.of (e4.trans e5)))
    · exact s_ret (ev_var rfl) fun H5 e5 => q _ H5 (name_drawn (by omega) ha (by omega) ht (of_decide_eq_false hb)) (b3.ex (e4.trans e5)) (kk.trans (Keep.of (e4.trans e5)))
theorem ok_law_value (T : Mg mg) (c_law_most : CMo P w K mg base) (c_law_word : CWd P w K mg base) (c_law_signs : Call P w K mg base 1 "_law_signs" [] (sp0 (.str signs))) (F : FnP K "_law_value" s_law_value f fd) (gm : mg "_law_value" = some (.ref f)) : Call P w K mg base 3 "_law_value" ["bag"] spVl := by
  refine mk F gm (fun _ _ _ _ _ _ us hl => match us, hl with | [_], _ => rfl) (fun _ _ _ _ _ _ us hl => match us, hl with | [_], _ => rfl) sc_law_value (fun vs H Q E h => ?_) (fun cdv A outer s H vs Q E hr h => ?_)
  · obtain ⟨p, rfl, _⟩ := h
    rfl
  · obtain ⟨p, rfl, b, q⟩ := h
    refine ⟨_, (pss_one (ps_ret (pe_bm PySem.F.plainAttrs_str PySem.F.slot_str_strip PySem.F.type_str_strip mz_strip (pe_f c_law_word hr (by decide) rfl (pa_cons (pv 0) (pa_cons (pe_f0 c_law_signs hr (by decide) rfl) (pa_cons pe_int (pa_cons (pe_f c_law_most hr (by decide) rfl (pa_cons (pv 0) (pa_cons pe_int (pa_cons pe_int pa_nil)))) pa_nil))))) (pa_cons pe_str pa_nil)))), ?_⟩
    have l1 : 1 ≤ signs.length ∧ signs.length ≤ 1000 := by decide +kernel
    refine g_ret ?_
    refine rd_wdM (ev_var rfl) (ev_call ea_nil sv0) ev_c (fun H1 e1 => ea_cons (ev_var rfl) (ea_cons ev_c (ea_cons ev_c ea_nil))) b l1.1 l1.2 (by decide) (by decide) (by decide) (by decide) fun t H2 t0 t1 ht b2 k2 => ?_
    refine ⟨rfl, ev_c H2 (Ex.refl H2) _ fun H3 e3 => ⟨t, " ", rfl, rfl, sz_of (show t.length ≤ 100000 by omega), ?_⟩⟩
    exact q _ H3 (strip_value (List.all_eq_true.mpr fun c hc => decide_eq_true (ht c hc)) (by omega)) (b2.ex e3) (k2.trans (Keep.of e3))
end
end Z
set_option maxHeartbeats 4000000
namespace Z
open PySem PySem.Spec PyProof.Rows L2 TL Evl NdefX
/-! ### lists drawn element by element -/
theorem lc_bg {α : Type} {te : TE} {σ : L2.St} {j n : Nat} {vs : List Nat} {lo : Int} {H1 : Hp} {D p : Addr} {Qd : Hp → Prop} (R : Hp → V → α → Prop) (ok : α → Prop)
    (stab : ∀ (H H' : Hp) v x, R H v x → (∀ b xs, H b = some (.tup xs) → H' b = some (.tup xs)) → R H' v x) (hD : H1 D = none) (b1 : Bg H1 p) (hn : n ≤ 1000) (hw : ∀ x, wipe ((wipe σ vs).set j (some x)) vs = wipe σ vs)
    (el : ∀ (i : Nat) (H' : Hp), i < n → Bg H' p → Keep p H1 H' → ∀ k : VK, (∀ v x H2, R H2 v x → ok x → Bg H2 p → Keep p H' H2 → k v H2) → te ((wipe σ vs).set j (some (.int (lo + i)))) H' k)
    (fin : ∀ (H' : Hp) ys xs, H' D = some (.lst ys) → Rel (R H') ys xs → xs.length = n → (∀ x ∈ xs, ok x) → Bg H' p → Keep p H1 H' → Qd H') :
    ∃ W : Nat → Nat → Hp → Prop, (∃ m, W 0 m (upd H1 D (HO.lst []))) ∧ ∀ (i m : Nat) (H : Hp), W i m H → (Itr lo n).stop i H ∧ Qd H ∨ (Itr lo n).go i H ∧ ∃ Nx : Hp → Prop, (∀ (H' : Hp), Nx H' → ∃ m', m' < m ∧ W (i + 1) m' H') ∧ ∀ (x : V) (H' : Hp), (Itr lo n).yld i H x H' →
      gName j x (wipe σ vs) H' fun σ2 H2 => wipe σ2 vs = wipe σ vs ∧ tYes σ2 H2 fun b H3 => if b = true then te σ2 H3 fun y H4 => ∃ acc, H4 D = some (HO.lst acc) ∧ acc.length < sizeLine ∧ Nx (upd H4 D (HO.lst (acc ++ [y]))) else Nx H3 := by
  have hDp : D ≠ p := b1.ne hD
  refine lc_range (lo := lo) (n := n) (fun i H' => ∃ ys xs, H' D = some (.lst ys) ∧ Rel (R H') ys xs ∧ xs.length = i ∧ (∀ x ∈ xs, ok x) ∧ Bg H' p ∧ Keep p H1 H') ⟨[], [], upd_same, ⟨rfl, fun i x y h _ => nomatch h⟩, rfl, (fun _ h => nomatch h), b1.upd hDp, fun c o hc ho => by rw [upd_ne (ne_of_none ho hD)]; exact ho⟩ (fun i H' hi pv => ?_) (fun H' pv => ?_)
  · obtain ⟨ys, xs, h1, h2, h3, h4, h5, h6⟩ := pv
    refine ⟨hw _, ?_⟩
    unfold tYes
    dsimp only
    rw [if_pos rfl]
    refine el i H' hi h5 h6 _ fun v x H2 hv hx b2 k2 => ?_
    have hd2 : H2 D = some (.lst ys) := k2 _ _ hDp h1
    have ht : ∀ b zs, H' b = some (.tup zs) → (upd H2 D (.lst (ys ++ [v]))) b = some (.tup zs) := fun b zs hb => by
      have nD : b ≠ D := fun e => by rw [e, h1] at hb; cases hb
      have np : b ≠ p := fun e => by
        obtain ⟨us, hu⟩ := h5.has
        rw [e, hu] at hb; cases hb
      rw [upd_ne nD]
      exact k2 _ _ np hb
    have ht2 : ∀ b zs, H2 b = some (.tup zs) → (upd H2 D (.lst (ys ++ [v]))) b = some (.tup zs) := fun b zs hb => by
      have nD : b ≠ D := fun e => by rw [e, hd2] at hb; cases hb
      rw [upd_ne nD]
      exact hb
    have hl : ys.length = i := h2.1.trans h3
    refine ⟨ys, hd2, Nat.lt_of_lt_of_le (show ys.length < 100000 by omega) (by decide), ys ++ [v], xs ++ [x], upd_same, ?_, by rw [List.length_append, h3]; rfl, fun z hz => ?_, b2.upd hDp, fun c o hc ho => ?_⟩
    · refine ⟨by rw [List.length_append, List.length_append, h2.1]; rfl, fun m a c ha hc => ?_⟩
      by_cases hm : m < ys.length
      · rw [List.getElem?_append_left hm] at ha
        rw [List.getElem?_append_left (by rw [← h2.1]; exact hm)] at hc
        exact stab _ _ _ _ (h2.2 m a c ha hc) ht
      · rw [List.getElem?_append_right (by omega)] at ha
        rw [List.getElem?_append_right (by rw [← h2.1]; omega), ← h2.1] at hc
        have hz : m - ys.length = 0 := by
          rcases Nat.eq_zero_or_pos (m - ys.length) with h | h
          · exact h
          · rw [List.getElem?_eq_none (by show 1 ≤ _; omega)] at ha
            cases ha
        rw [hz] at ha hc
        cases ha
        cases hc
        exact stab _ _ _ _ hv ht2
    · rcases List.mem_append.mp hz with hz | hz
      · exact h4 z hz
      · rw [List.mem_singleton.mp hz]
        exact hx
    · rw [upd_ne (ne_of_none ho hD)]
      exact k2 _ _ hc (h6 _ _ hc ho)
  · obtain ⟨ys, xs, h1, h2, h3, h4, h5, h6⟩ := pv
    exact fin H' ys xs h1 h2 h3 h4 h5 h6
theorem rel_str {ys : List V} {zs : List Str} (h : Rel (fun v s => v = V.str s) ys zs) : ys = zs.map V.str := by
  refine List.ext_getElem (by rw [h.1, List.length_map]) fun i h1 h2 => ?_
  rw [List.getElem_map]
  rw [List.length_map] at h2
  exact h.2 i _ _ (List.getElem?_eq_getElem h1) (List.getElem?_eq_getElem h2)
theorem foldl_mem (a : Array Nat) : ∀ (n : Nat) (acc : Array Nat) (c : Nat), c ∈ ((List.replicate n a).foldl (· ++ ·) acc).toList → c ∈ acc.toList ∨ c ∈ a.toList
  | 0, acc, c, h => .inl h
  | n + 1, acc, c, h => by
    rw [List.replicate_succ, List.foldl_cons] at h
    rcases foldl_mem a n (acc ++ a) c h with h | h
    · rw [Array.toList_append] at h
      exact List.mem_append.mp h
    · exact .inr h
theorem repS_mem {z : Str} {n c : Nat} (h : c ∈ tl (repS z n)) : c ∈ tl z := by
  unfold repS at h
  split at h
  · have : tl Str.empty = [] := rfl
    rw [this] at h
    cases h
  · split at h
    · exact h
    · rcases foldl_mem z.cps n #[] c h with h | h
      · cases h
      · exact h
section
variable {P : Program} {w : World} {K : PySem.W.Frag} {mg : Str → Option Value} {base : Heap} {f : Addr} {fd : FuncData} {k : Nat}
theorem ok_law_names (T : Mg mg) (c_law_draw : CDr P w K mg base) (c_law_name : Call P w K mg base 3 "_law_name" ["bag"] spNm) (F : FnP K "_law_names" s_law_names f fd) (gm : mg "_law_names" = some (.ref f)) : Call P w K mg base 4 "_law_names" ["bag"] spNs := by
  refine mk F gm (fun _ _ _ _ _ _ us hl => match us, hl with | [_], _ => rfl) (fun _ _ _ _ _ _ us hl => match us, hl with | [_], _ => rfl) sc_law_names (fun vs H Q E h => ?_) (fun cdv A outer s H vs Q E hr h => ?_)
  · obtain ⟨p, rfl, _⟩ := h
    rfl
  · obtain ⟨p, rfl, b, q⟩ := h
    refine ⟨_, (pss_one (ps_ret (pe_lc (own := [("k", 1)]) (g := gName 1) (tt := tYes) rfl sc_law_names.nd (pi_range1 rfl T.range (pa_cons (pe_op op_add pe_int (pe_f c_law_draw hr (by decide) rfl (pa_cons (pv 0) (pa_cons pe_int pa_nil)))) pa_nil)) (blkOk_by (N := ["bag", "k"]) (sc := L2.defScope s_law_names) (by decide +kernel)) (fun _ _ _ _ _ => pg_name (i := 1) sc_law_names.nd rfl (Or.inl rfl)) (fun _ _ _ _ _ => pts_nil) (fun _ _ _ _ _ => (pe_f c_law_name hr (by decide) rfl (pa_cons (pv 0) pa_nil)))))), ?_⟩
    refine g_ret ?_
    refine rd_dr (Q := fun v H1 => _) (ea_cons (ev_var rfl) (ea_cons ev_c ea_nil)) b (by decide) (by decide) fun d H1 d0 d1 b1 k1 => ⟨1, d, rfl, rfl, 1 + d, rfl, by omega, by omega, fun D hD => ?_⟩
    refine lc_bg (α := Str) (fun _ v s => v = .str s) (fun s => nameB s = true) (fun _ _ _ _ h _ => h) hD b1 (by omega) (fun _ => rfl) (fun i H2 hi b2 k2 kk hk => ?_) (fun H2 ys xs hd hr hl ho b2 k2 => ?_)
    · exact rd_call (ea_cons (ev_var rfl) ea_nil) fun H3 e3 => ⟨p, rfl, b2.ex e3, fun t H4 ht b4 k4 => hk _ t H4 rfl ht b4 ((Keep.of e3).trans k4)⟩
    · have hDp : D ≠ p := b1.ne hD
      rw [rel_str hr] at hd
      exact q D xs H2 hDp hd (by omega) (by omega) ho b2 (k1.trans k2)
theorem ok_law_body (T : Mg mg) (c_law_draw : CDr P w K mg base) (c_law_pick : CPk P w K mg base) (c_law_word : CWd P w K mg base) (c_law_signs : Call P w K mg base 1 "_law_signs" [] (sp0 (.str signs))) (F : FnP K "_law_body" s_law_body f fd) (gm : mg "_law_body" = some (.ref f)) : Call P w K mg base 3 "_law_body" ["bag"] spBy := by
  refine mk F gm (fun _ _ _ _ _ _ us hl => match us, hl with | [_], _ => rfl) (fun _ _ _ _ _ _ us hl => match us, hl with | [_], _ => rfl) sc_law_body (fun vs H Q E h => ?_) (fun cdv A outer s H vs Q E hr h => ?_)
  · obtain ⟨p, rfl, _⟩ := h
    rfl
  · obtain ⟨p, rfl, b, q⟩ := h
    refine ⟨_, (pss_cons (ps_set (i := 1) sc_law_body.nd rfl (Or.inl rfl) (pe_f c_law_draw hr (by decide) rfl (pa_cons (pv 0) (pa_cons pe_int pa_nil))))
    (pss_cons (ps_if (pt_cmpR op_eq (pv 1) pe_int (nomark _))
      (pss_one (ps_ret (pe_f c_law_pick hr (by decide) rfl (pa_cons (pv 0) (pa_cons (pe_lst (pa_cons pe_str (pa_cons pe_str (pa_cons pe_str (pa_cons pe_str (pa_cons pe_str (pa_cons pe_str (pa_cons pe_str pa_nil)))))))) pa_nil)))))
      pss_nil)
    (pss_cons (ps_if (pt_cmpR op_eq (pv 1) pe_int (nomark _))
      (pss_one (ps_ret pe_str))
      pss_nil)
    (pss_cons (ps_if (pt_cmpR op_eq (pv 1) pe_int (nomark _))
      (pss_one (ps_ret (pe_op oz_rep (pe_f c_law_pick hr (by decide) rfl (pa_cons (pv 0) (pa_cons (pe_lst (pa_cons pe_str (pa_cons pe_str (pa_cons pe_str pa_nil)))) pa_nil))) (pe_op op_add pe_int (pe_f c_law_draw hr (by decide) rfl (pa_cons (pv 0) (pa_cons pe_int pa_nil)))))))
      pss_nil)
    (pss_one (ps_ret (pe_f c_law_word hr (by decide) rfl (pa_cons (pv 0) (pa_cons (pe_op oz_add (pe_f0 c_law_signs hr (by decide) rfl) pe_str) (pa_cons pe_int (pa_cons pe_int pa_nil))))))))))), ?_⟩
    refine q_asgR (rd_dr (ea_cons (ev_var rfl) (ea_cons ev_c ea_nil)) b (by decide) (by decide) fun way H1 d0 d1 b1 k1 => ?_)
    try dsimp only
    refine q_when (et_test (ev_op (ev_var rfl) ev_c rv_eqI)) (fun _ H2 e2 => ?_) (fun _ H2 e2 => ?_)
    · refine g_ret (rd_pk (xs := [("0\n\n" : Str), "\n", "a", "2\nab\n0\n\n", "answer ok\n\n", "ask get /\n\n", "length: 2\n\nab"].map V.str) (ev_var rfl) (el_lst (ea_cons ev_c (ea_cons ev_c (ea_cons ev_c (ea_cons ev_c (ea_cons ev_c (ea_cons ev_c (ea_cons ev_c ea_nil))))))) (by decide)) (b1.ex e2) (by decide) (by decide) fun v H3 hv b3 k3 => ?_)
      obtain ⟨x, rfl, hx⟩ := strs_in hv
      have hx2 : ∀ x ∈ [("0\n\n" : Str), "\n", "a", "2\nab\n0\n\n", "answer ok\n\n", "ask get /\n\n", "length: 2\n\nab"], x.length ≤ 1000 ∧ bodyB x = true := by decide +kernel
      exact q x H3 (hx2 x hx).1 (hx2 x hx).2 b3 ((k1.trans (Keep.of e2)).trans k3)
    refine q_when (et_test (ev_op (ev_var rfl) ev_c rv_eqI)) (fun _ H3 e3 => ?_) (fun _ H3 e3 => ?_)
    · exact s_ret ev_c fun H4 e4 => q _ H4 (by decide +kernel) (by decide +kernel) (b1.ex ((e2.trans e3).trans e4)) (k1.trans (Keep.of ((e2.trans e3).trans e4)))
    refine q_when (et_test (ev_op (ev_var rfl) ev_c rv_eqI)) (fun _ H4 e4 => ?_) (fun _ H4 e4 => ?_)
    · have e24 := (e2.trans e3).trans e4
      refine g_ret (rd_pk (Q := fun v H => _) (xs := [("b" : Str), "\n", "c: d\n"].map V.str) (ev_var rfl) (el_lst (ea_cons ev_c (ea_cons ev_c (ea_cons ev_c ea_nil))) (by decide)) (b1.ex e24) (by decide) (by decide) fun v H5 hv b5 k5 => ?_)
      obtain ⟨x, rfl, hx⟩ := strs_in hv
      refine rd_dr (Q := fun v H => _) (ea_cons (ev_var rfl) (ea_cons ev_c ea_nil)) b5 (by decide) (by decide) fun d H6 d0 d1 b6 k6 => ⟨1, d, rfl, rfl, x, 1 + d, rfl, rfl, by omega, by omega, ?_, ?_⟩
      · have hx1 : ∀ x ∈ [("b" : Str), "\n", "c: d\n"], x.length ≤ 1000 := by decide +kernel
        exact hx1 x hx
      have hx2 : ∀ x ∈ [("b" : Str), "\n", "c: d\n"], x.length ≤ 5 ∧ ∀ c ∈ tl x, c = 10 ∨ c ∈ tl signs := by decide +kernel
      obtain ⟨g1, g2⟩ := hx2 x hx
      refine q _ H6 (by rw [repS_len]; have : (1 + d).toNat * x.length ≤ 120 * 5 := Nat.mul_le_mul (by omega) g1; omega) (linesB_of (by rw [repS_len]; have : (1 + d).toNat * x.length ≤ 120 * 5 := Nat.mul_le_mul (by omega) g1; omega) fun c hc => g2 c (repS_mem hc)) b6 (((k1.trans (Keep.of e24)).trans k5).trans k6)
    · have e24 := (e2.trans e3).trans e4
      have l1 : 1 ≤ (signs ++ ("\n" : Str)).length ∧ (signs ++ ("\n" : Str)).length ≤ 1000 := by decide +kernel
      refine g_ret (rd_wd (z := signs ++ ("\n" : Str)) (ea_cons (ev_var rfl) (ea_cons (ev_op (ev_call ea_nil sv0) ev_c (rv_addS (by decide +kernel))) (ea_cons ev_c (ea_cons ev_c ea_nil)))) (b1.ex e24) l1.1 l1.2 (by decide) (by decide) (by decide) fun t H5 t0 t1 ht b5 k5 => ?_)
      refine q t H5 (by omega) (linesB_of (by omega) fun c hc => ?_) b5 ((k1.trans (Keep.of e24)).trans k5)
      have := ht c hc
      rw [tl_append, nl_tl] at this
      rcases List.mem_append.mp this with h | h
      · exact .inr h
      · exact .inl (List.mem_singleton.mp h)
end
end Z
set_option maxHeartbeats 4000000
namespace Z
open PySem PySem.Spec PyProof.Rows L2 TL Evl NdefX
/-! ### rows -/
theorem asL_tl (m q : Str) : tl (asL m q) = tl ("ask " : Str) ++ tl m ++ [32] ++ tl q := by
  unfold asL
  simp only [List.foldl_cons, List.foldl_nil, tl_append]
  rw [show tl Str.empty = [] by decide +kernel, List.nil_append, show tl (" " : Str) = [32] by decide +kernel]
theorem ansL_tl (s : Str) : tl (ansL s) = tl ("answer " : Str) ++ tl s := by
  unfold ansL
  simp only [List.foldl_cons, List.foldl_nil, tl_append]
  rw [show tl Str.empty = [] by decide +kernel, List.nil_append]
theorem as_kind {m : Str} (q : Str) (h : m ∈ mdL) : isRq (asL m q) = true ∧ mayB (asL m q) = decide (m = ("put" : Str)) := by
  have e : ∀ a : Str, asL a q = (("ask " : Str) ++ a ++ (" " : Str)) ++ q := fun a => ext_tl (by
    rw [asL_tl, tl_append, tl_append, tl_append, show tl (" " : Str) = [32] by decide +kernel])
  have e1 : isRq (asL m q) = true := by
    unfold isRq
    have : asL m q = ("ask " : Str) ++ (m ++ (" " : Str) ++ q) := ext_tl (by
      rw [asL_tl, tl_append, tl_append, tl_append, show tl (" " : Str) = [32] by decide +kernel]
      simp only [List.append_assoc])
    rw [this]
    exact starts_own _ _
  refine ⟨e1, ?_⟩
  unfold mayB
  rw [if_pos e1, e]
  simp only [mdL, List.mem_cons, List.not_mem_nil, or_false] at h
  rcases h with rfl | rfl | rfl
  · rw [show (("ask " : Str) ++ ("get" : Str) ++ (" " : Str)) = ("ask get " : Str) by decide +kernel, starts_apart q (by decide +kernel)]
    decide +kernel
  · rw [show (("ask " : Str) ++ ("put" : Str) ++ (" " : Str)) = ("ask put " : Str) by decide +kernel, starts_own]
    decide +kernel
  · rw [show (("ask " : Str) ++ ("delete" : Str) ++ (" " : Str)) = ("ask delete " : Str) by decide +kernel, starts_apart q (by decide +kernel)]
    decide +kernel
theorem an_kind : ∀ s ∈ stL, isRq (ansL s) = false ∧ mayB (ansL s) = hasBd s ∧ (ansL s).length ≤ 100 := by decide +kernel
theorem asL_eq (m q : Str) : ("ask " : Str) ++ m ++ (" " : Str) ++ q = asL m q := ext_tl (by
  rw [asL_tl, tl_append, tl_append, tl_append, show tl (" " : Str) = [32] by decide +kernel])
theorem ansL_eq (s : Str) : ("answer " : Str) ++ s = ansL s := ext_tl (by rw [ansL_tl, tl_append])
def patS : Str := "abcdefghijklmnopqrstuvwxyz0123456789/-."
theorem path_drawn {t : Str} (ht : t.length ≤ 59) (h : ∀ c ∈ tl t, c ∈ tl patS) : pathB (("/" : Str) ++ t) = true := by
  have l1 : ("/" : Str).length = 1 := by decide +kernel
  have e : hd (("/" : Str) ++ t) = some 47 := by
    unfold hd
    rw [tl_append]
    rfl
  have a : allIn ("/" : Str) patS = true := by decide +kernel
  have a2 : allIn t patS = true := List.all_eq_true.mpr fun c hc => decide_eq_true (h c hc)
  show ((decide ((1 : Int) ≤ (("/" : Str) ++ t).length) && decide (((("/" : Str) ++ t).length : Int) ≤ 60)) && (decide (hd (("/" : Str) ++ t) = some 47) && allIn (("/" : Str) ++ t) patS)) = true
  rw [e, allIn_app, a, a2, Str.length_append, l1, decide_eq_true (by omega), decide_eq_true (by omega)]
  rfl
theorem pf_stab : ∀ (H H' : Hp) v x, PfAt H v x → (∀ b xs, H b = some (.tup xs) → H' b = some (.tup xs)) → PfAt H' v x := fun H H' v x h k => by
  obtain ⟨t, rfl, ht⟩ := h
  exact ⟨t, rfl, k _ _ ht⟩
theorem FsAt.keepB {p l : Addr} {H H' : Hp} {fs : Fs} (h : FsAt H l fs) (k : Keep p H H') (b : Bg H p) (n : l ≠ p) : FsAt H' l fs := h.keep k b.has n
def StOk (st : Str) : Prop := (∃ m q, m ∈ mdL ∧ pathB q = true ∧ st = asL m q) ∨ ∃ s, s ∈ stL ∧ st = ansL s
theorem path60 {q : Str} (h : pathB q = true) : q.length ≤ 60 := by
  unfold pathB at h
  simp only [Bool.and_eq_true, decide_eq_true_eq] at h
  omega
theorem StOk.len {st : Str} (h : StOk st) : st.length ≤ 100 := by
  rcases h with ⟨m, q, hm, hq, rfl⟩ | ⟨s, hs, rfl⟩
  · have h1 := m_len hm
    have h2 := path60 hq
    have h3 := congrArg List.length (asL_tl m q)
    rw [List.length_append, List.length_append, List.length_append, len_tl', len_tl', len_tl', len_tl'] at h3
    have h4 : ("ask " : Str).length = 4 := by decide +kernel
    have h5 : [32].length = 1 := rfl
    omega
  · exact (an_kind s hs).2.2
def RowOk (st : Str) (fs : Fs) (b : Str) : Prop := StOk st ∧ areB fs = true ∧ b.length ≤ 1000 ∧ bodyB b = true ∧ (b = "" ∨ mayB st = true)
def spMy : Sp := fun vs H Q _ => ∃ st : Str, vs = [.str st] ∧ st.length ≤ 100 ∧ RetV (.bl (mayB st)) H Q
def spRw : Sp := fun vs H Q _ => ∃ (p : Addr) (side : Str) (qn : Addr) (ns : List Str), vs = [.ref p, .str side, .ref qn] ∧ Bg H p ∧ qn ≠ p ∧ H qn = some (.lst (ns.map V.str)) ∧ 1 ≤ ns.length ∧ ns.length ≤ 3 ∧ (∀ t ∈ ns, nameB t = true) ∧
  ∀ (t l : Addr) (st b : Str) (fs : Fs) H', H' t = some (.tup [.str st, .ref l, .str b]) → FsAt H' l fs → RowOk st fs b → l ≠ p → Bg H' p → Keep p H H' → Q (.ref t) H'
section
variable {P : Program} {w : World} {K : PySem.W.Frag} {mg : Str → Option Value} {base : Heap} {f : Addr} {fd : FuncData} {k : Nat}
theorem ok_law_may (T : Mg mg) (F : FnP K "_law_may" s_law_may f fd) (gm : mg "_law_may" = some (.ref f)) : Call P w K mg base 1 "_law_may" ["start"] spMy := by
  refine mk F gm (fun _ _ _ _ _ _ us hl => match us, hl with | [_], _ => rfl) (fun _ _ _ _ _ _ us hl => match us, hl with | [_], _ => rfl) sc_law_may (fun vs H Q E h => ?_) (fun cdv A outer s H vs Q E hr h => ?_)
  · obtain ⟨st, rfl, _⟩ := h
    rfl
  · obtain ⟨st, rfl, hl, q⟩ := h
    refine ⟨_, (pss_cons (ps_if (pt_val (pe_bm PySem.F.plainAttrs_str PySem.F.slot_str_startswith PySem.F.type_str_startswith mz_starts (pv 0) (pa_cons pe_str pa_nil)))
      (pss_one (ps_ret (pe_bm PySem.F.plainAttrs_str PySem.F.slot_str_startswith PySem.F.type_str_startswith mz_starts (pv 0) (pa_cons pe_str pa_nil))))
      pss_nil)
    (pss_one (ps_ret (pe_and (pe_cmpR op_ne (pv 0) pe_str (nomark _)) (pe_one (pe_cmpR op_ne (pv 0) pe_str (nomark _))))))), ?_⟩
    unfold mayB isRq at q
    refine q_when (et_B (ev_starts (ev_var rfl) ev_c)) (fun hb H1 e1 => ?_) (fun hb H1 e1 => ?_)
    · rw [if_pos hb] at q
      exact s_ret (ev_starts (ev_var rfl) ev_c) fun H2 e2 => q H2 (e1.trans e2)
    · rw [hb, if_neg Bool.false_ne_true] at q
      exact s_ret (ev_andV (ev_op (ev_var rfl) ev_c rv_neS) fun _ => ev_op (ev_var rfl) ev_c rv_neS) fun H2 e2 => q H2 (e1.trans e2)
theorem ok_law_statuses (T : Mg mg) (F : FnP K "_law_statuses" s_law_statuses f fd) (gm : mg "_law_statuses" = some (.ref f)) : Call P w K mg base 1 "_law_statuses" [] (fun vs H Q _ => vs = [] ∧ RetL (stL.map V.str) H Q) := by
  refine mk F gm (fun _ _ _ _ _ _ us hl => match us, hl with | [], _ => rfl) (fun _ _ _ _ _ _ us hl => match us, hl with | [], _ => rfl) sc_law_statuses (fun vs H Q E h => ?_) (fun cdv A outer s H vs Q E hr h => ?_)
  · obtain ⟨rfl, _⟩ := h
    rfl
  · obtain ⟨rfl, q⟩ := h
    refine ⟨_, (pss_one (ps_ret (pe_lst (pa_cons pe_str (pa_cons pe_str (pa_cons pe_str (pa_cons pe_str (pa_cons pe_str (pa_cons pe_str (pa_cons pe_str (pa_cons pe_str (pa_cons pe_str pa_nil)))))))))))), ?_⟩
    exact s_retL (xs := stL.map V.str) (el_lst (ea_cons ev_c (ea_cons ev_c (ea_cons ev_c (ea_cons ev_c (ea_cons ev_c (ea_cons ev_c (ea_cons ev_c (ea_cons ev_c (ea_cons ev_c ea_nil))))))))) (by decide)) q
theorem ok_law_row (T : Mg mg) (c_law_draw : CDr P w K mg base) (c_law_pick : CPk P w K mg base) (c_law_most : CMo P w K mg base) (c_law_word : CWd P w K mg base) (c_law_letters : Call P w K mg base 1 "_law_letters" [] (sp0 (.str letters))) (c_law_statuses : Call P w K mg base 1 "_law_statuses" [] (fun vs H Q _ => vs = [] ∧ RetL (stL.map V.str) H Q))
    (c_law_value : Call P w K mg base 3 "_law_value" ["bag"] spVl) (c_law_may : Call P w K mg base 1 "_law_may" ["start"] spMy) (c_law_body : Call P w K mg base 3 "_law_body" ["bag"] spBy)
    (F : FnP K "_law_row" s_law_row f fd) (gm : mg "_law_row" = some (.ref f)) : Call P w K mg base 4 "_law_row" ["bag", "side", "names"] spRw := by
  refine mk F gm (fun _ _ _ _ _ _ us hl => match us, hl with | [_, _, _], _ => rfl) (fun _ _ _ _ _ _ us hl => match us, hl with | [_, _, _], _ => rfl) sc_law_row (fun vs H Q E h => ?_) (fun cdv A outer s H vs Q E hr h => ?_)
  · obtain ⟨p, side, qn, ns, rfl, _⟩ := h
    rfl
  · obtain ⟨p, side, qn, ns, rfl, b, nqp, hqn, hn1, hn3, hns, q⟩ := h
    refine ⟨_, (pss_cons (ps_if (pt_cmpR op_eq (pv 1) pe_str (nomark _))
      (pss_cons (ps_set (i := 3) sc_law_row.nd rfl (Or.inl rfl) (pe_op oz_add pe_str (pe_f c_law_word hr (by decide) rfl (pa_cons (pv 0) (pa_cons (pe_op oz_add (pe_f0 c_law_letters hr (by decide) rfl) pe_str) (pa_cons pe_int (pa_cons (pe_f c_law_most hr (by decide) rfl (pa_cons (pv 0) (pa_cons pe_int (pa_cons pe_int pa_nil)))) pa_nil)))))))
      (pss_one (ps_set (i := 4) sc_law_row.nd rfl (Or.inl rfl) (pe_op oz_add (pe_op oz_add (pe_op oz_add pe_str (pe_f c_law_pick hr (by decide) rfl (pa_cons (pv 0) (pa_cons (pe_lst (pa_cons pe_str (pa_cons pe_str (pa_cons pe_str pa_nil)))) pa_nil)))) pe_str) (pv 3)))))
      (pss_one (ps_set (i := 4) sc_law_row.nd rfl (Or.inl rfl) (pe_op oz_add pe_str (pe_f c_law_pick hr (by decide) rfl (pa_cons (pv 0) (pa_cons (pe_f0 c_law_statuses hr (by decide) rfl) pa_nil)))))))
    (pss_cons (ps_set (i := 5) sc_law_row.nd rfl (Or.inl rfl) (pe_f c_law_pick hr (by decide) rfl (pa_cons (pv 0) (pa_cons (pe_lst (pa_cons pe_int (pa_cons pe_int (pa_cons pe_int (pa_cons pe_int pa_nil))))) pa_nil))))
    (pss_cons (ps_if (pt_cmpR op_eq (pe_f c_law_draw hr (by decide) rfl (pa_cons (pv 0) (pa_cons pe_int pa_nil))) pe_int (nomark _))
      (pss_one (ps_set (i := 5) sc_law_row.nd rfl (Or.inl rfl) (pe_op op_add pe_int (pe_f c_law_draw hr (by decide) rfl (pa_cons (pv 0) (pa_cons pe_int pa_nil))))))
      pss_nil)
    (pss_cons (ps_setLc (i := 6) (own := [("k", 7)]) (g := gName 7) (tt := tYes) rfl sc_law_row.nd rfl rfl (sw_true rfl rfl rfl (by decide +kernel)) (pi_range1 rfl T.range (pa_cons (pv 5) pa_nil)) (blkOk_by (N := ["bag", "side", "names", "path", "start", "count", "fields", "k", "body"]) (sc := L2.defScope s_law_row) (by decide +kernel)) (fun _ _ _ _ _ => pg_name (i := 7) sc_law_row.nd rfl (Or.inl rfl)) (fun _ _ _ _ _ => pts_nil) (fun _ _ _ _ _ => (pe_tup (pa_cons (pe_f c_law_pick hr (by decide) rfl (pa_cons (pv 0) (pa_cons (pv 2) pa_nil))) (pa_cons (pe_f c_law_value hr (by decide) rfl (pa_cons (pv 0) pa_nil)) pa_nil)))))
    (pss_cons (ps_set (i := 8) sc_law_row.nd rfl (Or.inl rfl) pe_str)
    (pss_cons (ps_if (pt_val (pe_f c_law_may hr (by decide) rfl (pa_cons (pv 4) pa_nil)))
      (pss_one (ps_set (i := 8) sc_law_row.nd rfl (Or.inl rfl) (pe_f c_law_body hr (by decide) rfl (pa_cons (pv 0) pa_nil))))
      pss_nil)
    (pss_one (ps_ret (pe_tup (pa_cons (pv 4) (pa_cons (pv 6) (pa_cons (pv 8) pa_nil)))))))))))), ?_⟩
    refine q_tailIf (fun σ1 Hx => ∃ (op : Option V) (st : Str), σ1 = [some (.ref p), some (.str side), some (.ref qn), op, some (.str st), none, none, none, none] ∧ StOk st ∧ Bg Hx p ∧ Keep p H Hx) (fun σ1 H1 hR => ?_) (fun tail => ?_)
    · obtain ⟨op, st, rfl, hst, b1, k1⟩ := hR
      refine q_asgR (rd_pk (xs := [2, 1, 0, 3].map V.int) (ev_var rfl) (el_lst (ea_cons ev_c (ea_cons ev_c (ea_cons ev_c (ea_cons ev_c ea_nil)))) (by decide)) b1 (by decide) (by decide) fun v H2 hv b2 k2 => ?_)
      obtain ⟨c0, rfl, hc0⟩ := ints_in hv
      have hc3 : 0 ≤ c0 ∧ c0 ≤ 40 := by
        simp only [List.mem_cons, List.not_mem_nil, or_false] at hc0
        omega
      refine q_tailIf (fun σ1 Hx => ∃ cn : Int, σ1 = [some (.ref p), some (.str side), some (.ref qn), op, some (.str st), some (.int cn), none, none, none] ∧ 0 ≤ cn ∧ cn ≤ 40 ∧ Bg Hx p ∧ Keep p H Hx) (fun σ1 H3 hR => ?_) (fun tail => ?_)
      · obtain ⟨cn, rfl, cn0, cn1, b3, k3⟩ := hR
        refine q_asgR ((ev_var rfl : Ev (tVar 5) _ _ (.int cn)) H3 (Ex.refl H3) _ fun H4 e4 => ⟨cn, rfl, by omega, by omega, fun D hD => ?_⟩)
        have b4 := b3.ex e4
        have k4 := k3.trans (Keep.of e4)
        refine lc_bg (α := Str × Str) PfAt (fun x => fieldB x = true) pf_stab hD b4 (by omega) (fun _ => rfl) (fun i H5 hi b5 k5 kk hk => ?_) (fun H5 ys fs hd hr hl ho b5 k5 => ?_)
        · have hq5 : H5 qn = some (.lst (ns.map V.str)) := k5 _ _ nqp (k4 _ _ nqp hqn)
          refine rd_call (Q := fun v H => _) (ea_cons (ev_var rfl) (ea_cons (ev_var rfl) ea_nil)) fun H6 e6 => ⟨p, qn, ns.map V.str, rfl, b5.ex e6, nqp, e6 _ _ hq5, by rw [List.length_map]; exact hn1, by rw [List.length_map]; omega, fun v H7 hv b7 k7 => ?_⟩
          obtain ⟨x, rfl, hx⟩ := strs_in hv
          refine rd_call (Q := fun v H => _) (ea_cons (ev_var rfl) ea_nil) fun H8 e8 => ⟨p, rfl, b7.ex e8, fun y H9 hy b9 k9 => ⟨by show 2 ≤ sizeLine; decide, fun t nt => ?_⟩⟩
          refine hk (.ref t) (x, y) _ ⟨t, rfl, upd_same⟩ (by unfold fieldB; rw [hns x hx, hy]; rfl) (b9.upd (b9.ne nt)) ?_
          exact ((Keep.of e6).trans (k7.trans ((Keep.of e8).trans k9))).trans (Keep.of (Ex.new nt))
        · have hok : areB fs = true := by
            unfold areB
            rw [Bool.and_eq_true, decide_eq_true_eq, List.all_eq_true]
            exact ⟨by omega, ho⟩
          have hf : FsAt H5 D fs := ⟨ys, hd, hr⟩
          have hDp : D ≠ p := b4.ne hD
          have k45 := k4.trans k5
          refine q_asg ev_c fun H6 e6 => ?_
          refine q_tailIf (fun σ1 Hx => ∃ bb : Str, σ1 = [some (.ref p), some (.str side), some (.ref qn), op, some (.str st), some (.int cn), some (.ref D), none, some (.str bb)] ∧ bb.length ≤ 1000 ∧ bodyB bb = true ∧ (bb = "" ∨ mayB st = true) ∧ Bg Hx p ∧ Keep p H Hx ∧ FsAt Hx D fs) (fun σ1 H7 hR => ?_) (fun tail => ?_)
          · obtain ⟨bb, rfl, g1, g2, g3, b7, k7, f7⟩ := hR
            refine g_ret ⟨.str st, rfl, .ref D, rfl, .str bb, rfl, by show 3 ≤ sizeLine; decide, fun t nt => ?_⟩
            exact q t D st bb fs _ upd_same (f7.ex (Ex.new nt)) ⟨hst, hok, g1, g2, g3⟩ hDp (b7.upd (b7.ne nt)) (k7.trans (Keep.of (Ex.new nt)))
          · refine q_if (et_B (ev_call (ea_cons (ev_var rfl) ea_nil) (fun H1 e1 Q' q' E' => ⟨st, rfl, hst.len, q'⟩))) (fun hb H7 e7 => ?_) (fun hb H7 e7 => ?_)
            · have e67 := e6.trans e7
              refine s_asgR (rd_call (ea_cons (ev_var rfl) ea_nil) fun H8 e8 => ⟨p, rfl, b5.ex (e67.trans e8), fun bb H9 g1 g2 b9 k9 => ?_⟩)
              have k59 := (Keep.of (p := p) (e67.trans e8)).trans k9
              exact tail _ _ ⟨bb, rfl, g1, g2, .inr hb, b9, k45.trans k59, hf.keepB k59 b5 hDp⟩
            · have e67 := e6.trans e7
              exact tail _ _ ⟨"", rfl, by decide +kernel, by decide +kernel, .inl rfl, b5.ex e67, k45.trans (Keep.of e67), hf.ex e67⟩
      · refine rd_dr (Q := fun v H => _) (ea_cons (ev_var rfl) (ea_cons ev_c ea_nil)) b2 (by decide) (by decide) fun d H3 d0 d1 b3 k3 => ?_
        refine ⟨rfl, _, rfl, ite2 (fun _ => ?_) (fun _ => ?_)⟩
        · refine s_asgR (rd_dr (Q := fun v H => _) (ea_cons (ev_var rfl) (ea_cons ev_c ea_nil)) b3 (by decide) (by decide) fun d' H4 d0' d1' b4 k4 => ⟨36, d', rfl, rfl, ?_⟩)
          exact tail _ _ ⟨36 + d', rfl, by omega, by omega, b4, ((k1.trans k2).trans k3).trans k4⟩
        · exact tail _ _ ⟨c0, rfl, hc3.1, hc3.2, b3, (k1.trans k2).trans k3⟩
    · refine q_if (et_test (ev_op (ev_var rfl) ev_c rv_eqS)) (fun hb H1 e1 => ?_) (fun hb H1 e1 => ?_)
      · have l1 : 1 ≤ (letters ++ ("0123456789/-." : Str)).length ∧ (letters ++ ("0123456789/-." : Str)).length ≤ 1000 := by decide +kernel
        have l2 : letters ++ ("0123456789/-." : Str) = patS := by decide +kernel
        refine q_asgR (rd_wdM (Q := fun v H => _) (z := letters ++ ("0123456789/-." : Str)) (ev_var rfl) (ev_op (ev_call ea_nil sv0) ev_c (rv_addS (by decide +kernel))) ev_c (fun H1 e1 => ea_cons (ev_var rfl) (ea_cons ev_c (ea_cons ev_c ea_nil))) (b.ex e1) l1.1 l1.2 (by decide) (by decide) (by decide) (by decide) fun t H2 t0 t1 ht b2 k2 => ?_)
        have s1 : ("/" : Str).length = 1 := by decide +kernel
        refine ⟨"/", t, rfl, rfl, sz_of (show ("/" : Str).length + t.length ≤ 100000 by omega), ?_⟩
        refine s_asgR (rd_pk (Q := fun v H => _) (xs := [("put" : Str), "get", "delete"].map V.str) (ev_var rfl) (el_lst (ea_cons ev_c (ea_cons ev_c (ea_cons ev_c ea_nil))) (by decide)) b2 (by decide) (by decide) fun v H3 hv b3 k3 => ?_)
        obtain ⟨m, rfl, hm⟩ := strs_in hv
        have hm2 : m ∈ mdL := by
          simp only [List.mem_cons, List.not_mem_nil, or_false] at hm
          simp only [mdL, List.mem_cons, List.not_mem_nil, or_false]
          rcases hm with h | h | h
          · exact .inr (.inl h)
          · exact .inl h
          · exact .inr (.inr h)
        have hml := m_len hm2
        have s2 : ("ask " : Str).length = 4 := by decide +kernel
        have s3 : (" " : Str).length = 1 := by decide +kernel
        refine ⟨"ask ", m, rfl, rfl, sz_of (show ("ask " : Str).length + m.length ≤ 100000 by omega), _, " ", rfl, rfl, sz_of (show (("ask " : Str) ++ m).length + (" " : Str).length ≤ 100000 by rw [Str.length_append]; omega), .str (("/" : Str) ++ t), rfl, _, ("/" : Str) ++ t, rfl, rfl, sz_of (show (("ask " : Str) ++ m ++ (" " : Str)).length + (("/" : Str) ++ t).length ≤ 100000 by rw [Str.length_append, Str.length_append, Str.length_append]; omega), ?_⟩
        rw [l2] at ht
        rw [asL_eq]
        exact tail _ _ ⟨_, asL m (("/" : Str) ++ t), rfl, .inl ⟨m, _, hm2, path_drawn (by omega) ht, rfl⟩, b3, ((Keep.of e1).trans k2).trans k3⟩
      · refine s_asgR (rd_pk (Q := fun v H => _) (xs := stL.map V.str) (ev_var rfl) (el_callX (vs := []) ea_nil fun H1 e1 Q' E' q' => ⟨rfl, q'⟩) (b.ex e1) (by decide) (by decide) fun v H3 hv b3 k3 => ?_)
        obtain ⟨x, rfl, hx⟩ := strs_in hv
        have hxl := st_len hx
        have s2 : ("answer " : Str).length = 7 := by decide +kernel
        refine ⟨"answer ", x, rfl, rfl, sz_of (show ("answer " : Str).length + x.length ≤ 100000 by omega), ?_⟩
        rw [ansL_eq]
        exact tail _ _ ⟨none, ansL x, rfl, .inr ⟨x, hx, rfl⟩, b3, (Keep.of e1).trans k3⟩
end
end Z
set_option maxHeartbeats 4000000
namespace Z
open PySem PySem.Spec PyProof.Rows L2 TL Evl NdefX
/-! ### data compared -/
def toF (x : Str × Str) : PyData := .tuple [.str x.1, .str x.2]
theorem sign_ok {z : Str} (h : allIn z signs = true) : PyData.strOk z = true := ok_text fun c hc => signs_lt c (of_decide_eq_true (List.all_eq_true.mp h c hc))
theorem name_ok {z : Str} (h : nameB z = true) : PyData.strOk z = true := by
  unfold nameB wordB at h
  simp only [Bool.and_eq_true] at h
  have h2 := h.1.2.2
  refine ok_text fun c hc => ?_
  have h4 : c ∈ tl "abcdefghijklmnopqrstuvwxyz0123456789-" := of_decide_eq_true (List.all_eq_true.mp h2 c hc)
  have : ∀ c ∈ tl "abcdefghijklmnopqrstuvwxyz0123456789-", c < 128 := by decide +kernel
  exact this c h4
theorem value_ok {z : Str} (h : valueB z = true) : PyData.strOk z = true := by
  unfold valueB at h
  simp only [Bool.and_eq_true] at h
  exact sign_ok h.2.1
def okF (fs : Fs) : Prop := ∀ x ∈ fs, fieldB x = true
theorem areB_ok {fs : Fs} (h : areB fs = true) : okF fs := by
  unfold areB at h
  rw [Bool.and_eq_true, List.all_eq_true] at h
  exact h.2
theorem lay_toF : ∀ fs : Fs, okF fs → PyData.canLayAll0 (fs.map toF) = true
  | [], _ => by simp [PyData.canLayAll0]
  | x :: r, h => by
    have h2 := lay_toF r fun y hy => h y (List.mem_cons_of_mem _ hy)
    obtain ⟨h3, h4⟩ := Bool.and_eq_true_iff.mp (h x List.mem_cons_self)
    simp [PyData.canLayAll0, PyData.canLay0, toF, name_ok h3, value_ok h4, h2]
theorem depth_toF : ∀ fs : Fs, PyData.depthAll (fs.map toF) ≤ 2
  | [] => by simp [PyData.depthAll]
  | x :: r => by
    have := depth_toF r
    simp only [List.map_cons, PyData.depthAll, PyData.depth, toF]
    omega
theorem shaped_toF (fs : Fs) (h : okF fs) : SeqAt.shaped (.list (fs.map toF)) = true := by
  have h1 := depth_toF fs
  have h2 : PyData.depth (.list (fs.map toF)) ≤ 64 := by simp only [PyData.depth]; omega
  show (PyData.canLay0 (.list (fs.map toF)) && decide (PyData.depth (.list (fs.map toF)) ≤ 64)) = true
  rw [Bool.and_eq_true]
  exact ⟨by simp only [PyData.canLay0]; exact lay_toF fs h, decide_eq_true h2⟩
theorem eqv_toF (a b : Str × Str) : PyData.eqv (toF a) (toF b) = decide (a = b) := by
  obtain ⟨x, y⟩ := a
  obtain ⟨z, u⟩ := b
  show PyData.eqv (.tuple [.str x, .str y]) (.tuple [.str z, .str u]) = _
  simp only [PyData.eqv, PyData.eqvAll, Bool.and_true]
  rw [Bool.eq_iff_iff, Bool.and_eq_true, beq_iff_eq, beq_iff_eq, decide_eq_true_eq]
  exact ⟨fun h => by rw [h.1, h.2], fun h => ⟨congrArg Prod.fst h, congrArg Prod.snd h⟩⟩
theorem eqvAll_toF : ∀ fs gs : Fs, PyData.eqvAll (fs.map toF) (gs.map toF) = decide (fs = gs)
  | [], [] => by simp [PyData.eqvAll]
  | [], _ :: _ => by simp [PyData.eqvAll]
  | _ :: _, [] => by simp [PyData.eqvAll]
  | x :: r, y :: s => by
    show (PyData.eqv (toF x) (toF y) && PyData.eqvAll (r.map toF) (s.map toF)) = _
    rw [eqv_toF, eqvAll_toF r s, Bool.eq_iff_iff, Bool.and_eq_true, decide_eq_true_eq, decide_eq_true_eq, decide_eq_true_eq]
    exact ⟨fun h => by rw [h.1, h.2], fun h => by
      injection h with h1 h2
      exact ⟨h1, h2⟩⟩
theorem dpf_all {K : PySem.W.Frag} {H : Hp} : ∀ {xs : List V} {os : Fs}, Rel (PfAt H) xs os → DpAll K H xs (os.map toF)
  | [], [], _ => .nil
  | [], o :: os, h => by have := h.1; cases this
  | x :: xs, [], h => by have := h.1; cases this
  | x :: xs, o :: os, h => by
    obtain ⟨p, rfl, hp⟩ := h.2 0 x o rfl rfl
    exact .cons (.tup (st_of hp) (.cons (.str _) (.cons (.str _) .nil))) (dpf_all ⟨Nat.succ.inj h.1, fun i y u a b => h.2 (i + 1) y u a b⟩)
theorem dpf {K : PySem.W.Frag} {H : Hp} {q : Addr} {fs : Fs} (h : FsAt H q fs) : Dp K H (.ref q) (.list (fs.map toF)) := by
  obtain ⟨xs, h1, h2⟩ := h
  exact .lst (sq_of h1) (dpf_all h2)
theorem rv_eqF {K : PySem.W.Frag} {H : Hp} {p q : Addr} {fs gs : Fs} (h1 : FsAt H p fs) (h2 : FsAt H q gs) (k1 : okF fs) (k2 : okF gs) : RV (rEqD K) (.ref p) (.ref q) H (.bl (decide (fs = gs))) := fun H1 e Q k => by
  refine ⟨_, _, dpf (h1.ex e), dpf (h2.ex e), shaped_toF fs k1, shaped_toF gs k2, ?_⟩
  have e1 : PyData.eqv (.list (fs.map toF)) (.list (gs.map toF)) = decide (fs = gs) := by
    simp only [PyData.eqv]
    exact eqvAll_toF fs gs
  rw [e1]
  exact k H1 (Ex.refl H1)
theorem rv_neF {K : PySem.W.Frag} {H : Hp} {p q : Addr} {fs gs : Fs} (h1 : FsAt H p fs) (h2 : FsAt H q gs) (k1 : okF fs) (k2 : okF gs) : RV (rNeD K) (.ref p) (.ref q) H (.bl (!decide (fs = gs))) := fun H1 e Q k => by
  refine ⟨_, _, dpf (h1.ex e), dpf (h2.ex e), shaped_toF fs k1, shaped_toF gs k2, ?_⟩
  have e1 : PyData.eqv (.list (fs.map toF)) (.list (gs.map toF)) = decide (fs = gs) := by
    simp only [PyData.eqv]
    exact eqvAll_toF fs gs
  rw [e1]
  exact k H1 (Ex.refl H1)

section
variable {K : PySem.W.Frag} {H : Hp} {x y : V} {d e : PyData}
theorem rv_dat (h1 : ∀ H1, Ex H H1 → Dp K H1 x d) (h2 : ∀ H1, Ex H H1 → Dp K H1 y e) (s1 : SeqAt.shaped d = true) (s2 : SeqAt.shaped e = true) : RV (rEqD K) x y H (.bl (d.eqv e)) := fun H1 ex Q k => ⟨d, e, h1 H1 ex, h2 H1 ex, s1, s2, k H1 (Ex.refl H1)⟩
theorem rv_ndat (h1 : ∀ H1, Ex H H1 → Dp K H1 x d) (h2 : ∀ H1, Ex H H1 → Dp K H1 y e) (s1 : SeqAt.shaped d = true) (s2 : SeqAt.shaped e = true) : RV (rNeD K) x y H (.bl (!d.eqv e)) := fun H1 ex Q k => ⟨d, e, h1 H1 ex, h2 H1 ex, s1, s2, k H1 (Ex.refl H1)⟩
end
def oD : Option (List Int) → PyData
  | none => .none
  | some ss => .list (ss.map .int)
theorem dp_ints {K : PySem.W.Frag} {H : Hp} : ∀ ss : List Int, DpAll K H (ss.map V.int) (ss.map PyData.int)
  | [] => .nil
  | i :: r => .cons (.int i) (dp_ints r)
theorem dp_o {K : PySem.W.Frag} {H : Hp} {ch : V} {o : Option (List Int)} (h : ChA H ch o) : Dp K H ch (oD o) := by
  cases o with
  | none => rw [show ch = .non from h]; exact .non
  | some ss =>
    obtain ⟨q, rfl, hq⟩ := h
    exact .lst (sq_of hq) (dp_ints ss)
theorem lay_ints : ∀ ss : List Int, PyData.canLayAll0 (ss.map PyData.int) = true
  | [] => by simp [PyData.canLayAll0]
  | i :: r => by simp [PyData.canLayAll0, PyData.canLay0, lay_ints r]
theorem depth_ints : ∀ ss : List Int, PyData.depthAll (ss.map PyData.int) ≤ 1
  | [] => by simp [PyData.depthAll]
  | i :: r => by
    have := depth_ints r
    simp only [List.map_cons, PyData.depthAll, PyData.depth]
    omega
theorem lay_o (o : Option (List Int)) : PyData.canLay0 (oD o) = true ∧ PyData.depth (oD o) ≤ 3 := by
  cases o with
  | none => exact ⟨by simp [oD, PyData.canLay0], by simp [oD, PyData.depth]⟩
  | some ss =>
    have := depth_ints ss
    exact ⟨by simp only [oD, PyData.canLay0]; exact lay_ints ss, by simp only [oD, PyData.depth]; omega⟩
theorem shaped_o (o : Option (List Int)) : SeqAt.shaped (oD o) = true := by
  obtain ⟨h1, h2⟩ := lay_o o
  show (PyData.canLay0 _ && decide (PyData.depth _ ≤ 64)) = true
  rw [h1, decide_eq_true (by omega)]
  rfl
theorem eqv_ints : ∀ ss : List Int, PyData.eqvAll (ss.map PyData.int) (ss.map PyData.int) = true
  | [] => by simp [PyData.eqvAll]
  | i :: r => by simp [PyData.eqvAll, PyData.eqv, eqv_ints r]
theorem eqv_o (o : Option (List Int)) : PyData.eqv (oD o) (oD o) = true := by
  cases o with
  | none => simp [oD, PyData.eqv]
  | some ss =>
    simp only [oD, PyData.eqv]
    exact eqv_ints ss
/-- a list of ints against the empty list -/
theorem rv_neI0 {K : PySem.W.Frag} {H : Hp} {l p : Addr} {ss : List Int} (hl : H l = some (.lst (ss.map V.int))) (hp : H p = some (.lst [])) : RV (rNeD K) (.ref l) (.ref p) H (.bl (!decide (ss = []))) := by
  have h := rv_ndat (K := K) (H := H) (x := .ref l) (y := .ref p) (d := oD (some ss)) (e := .list []) (fun H1 e => .lst (sq_of (e _ _ hl)) (dp_ints ss)) (fun H1 e => .lst (sq_of (e _ _ hp)) .nil) (shaped_o (some ss)) rfl
  have e1 : PyData.eqv (oD (some ss)) (.list []) = decide (ss = []) := by
    cases ss with
    | nil => simp [oD, PyData.eqv, PyData.eqvAll]
    | cons a r => simp [oD, PyData.eqv, PyData.eqvAll]
  rw [e1] at h
  exact h
/-! ### cut at spaces -/
def splW : List Nat → List Nat → List (List Nat)
  | acc, [] => [acc]
  | acc, c :: r => if c = 32 then acc :: splW [] r else splW (acc ++ [c]) r
theorem spl_splW : ∀ (l acc : List Nat), spl [32] 0 acc l = splW acc l
  | [], acc => spl_nil _ _ _
  | c :: r, acc => by
    have hp : pre [32] (c :: r) = decide (c = 32) := by
      show ([c] == [32]) = decide (c = 32)
      by_cases h : c = 32
      · rw [h]; rfl
      · rw [decide_eq_false h]
        exact beq_eq_false_iff_ne.mpr fun e => h (by cases e; rfl)
    show spl [32] 0 acc (c :: r) = if c = 32 then acc :: splW [] r else splW (acc ++ [c]) r
    by_cases h : c = 32
    · rw [spl_hit (by rw [hp, decide_eq_true h]), if_pos h]
      show acc :: spl [32] 0 [] r = _
      rw [spl_splW r []]
    · rw [spl_miss (by rw [hp, decide_eq_false h]), if_neg h]
      exact spl_splW r (acc ++ [c])
theorem splitW_eq (z : Str) : Txt.split z " " = (splW [] (tl z)).map S' := by
  have e : tl (" " : Str) = [32] := by decide +kernel
  have h : (Txt.split z " ").map tl = splW [] (tl z) := by
    rw [split_spl z " " (by rw [e]; simp) (kind_ok (by decide +kernel)), e]
    exact spl_splW _ _
  rw [← h, List.map_map]
  have : (S' ∘ tl) = id := funext S'_tl
  rw [this, List.map_id]
theorem splW_app : ∀ (a acc l : List Nat), 32 ∉ a → splW acc (a ++ l) = splW (acc ++ a) l
  | [], acc, l, _ => by rw [List.append_nil]; rfl
  | c :: r, acc, l, h => by
    have hc : c ≠ 32 := fun e => h (by rw [e]; exact List.mem_cons_self)
    show (if c = 32 then acc :: splW [] (r ++ l) else splW (acc ++ [c]) (r ++ l)) = _
    rw [if_neg hc, splW_app r (acc ++ [c]) l fun q => h (List.mem_cons_of_mem _ q), List.append_assoc]
    rfl
theorem splW_none (a acc : List Nat) (h : 32 ∉ a) : splW acc a = [acc ++ a] := by
  have := splW_app a acc [] h
  rw [List.append_nil] at this
  exact this
theorem splW_cut (a l : List Nat) (h : 32 ∉ a) : splW [] (a ++ 32 :: l) = a :: splW [] l := by
  rw [splW_app a [] _ h]
  rfl
theorem path_nosp {q : Str} (h : pathB q = true) : 32 ∉ tl q := fun hm => by
  unfold pathB at h
  simp only [Bool.and_eq_true] at h
  have := of_decide_eq_true (List.all_eq_true.mp h.2.2 32 hm)
  exact absurd this (by decide +kernel)
theorem split_as {m q : Str} (hm : m ∈ mdL) (hq : pathB q = true) : Txt.split (asL m q) " " = [("ask" : Str), m, q] := by
  have hms : 32 ∉ tl m := by
    have : ∀ m ∈ mdL, 32 ∉ tl m := by decide +kernel
    exact this m hm
  have ha : 32 ∉ tl ("ask" : Str) := by decide +kernel
  have e : tl (asL m q) = tl ("ask" : Str) ++ 32 :: (tl m ++ 32 :: tl q) := by
    rw [asL_tl, show tl ("ask " : Str) = tl ("ask" : Str) ++ [32] by decide +kernel]
    simp only [List.append_assoc, List.cons_append, List.nil_append]
  rw [splitW_eq, e, splW_cut _ _ ha, splW_cut _ _ hms, splW_none _ _ (path_nosp hq)]
  show [S' (tl _), S' (tl m), S' (tl q)] = _
  rw [S'_tl, S'_tl, S'_tl]
theorem split_an : ∀ s ∈ stL, Txt.split (ansL s) " " = [("answer" : Str), s] := fun s hs => by
  have h1 : ∀ s ∈ stL, 32 ∉ tl s := by decide +kernel
  have ha : 32 ∉ tl ("answer" : Str) := by decide +kernel
  have e : tl (ansL s) = tl ("answer" : Str) ++ 32 :: tl s := by
    rw [ansL_tl, show tl ("answer " : Str) = tl ("answer" : Str) ++ [32] by decide +kernel]
    simp only [List.append_assoc, List.cons_append, List.nil_append]
  rw [splitW_eq, e, splW_cut _ _ ha, splW_none _ _ (h1 s hs)]
  show [S' (tl _), S' (tl s)] = _
  rw [S'_tl, S'_tl]
/-! ### messages made of rows -/
section
variable {σ : L2.St} {H : Hp} {ta tr : TA} {te : TE} {C : Addr} {sp : Sp} {dvs xs : List V} {E : XK} {Q : VK} {x : V} {K : PySem.W.Frag} {l : Addr} {fs : Fs}
theorem rd_mkS (h : ta σ H fun vs H1 => ∀ x dx, H1 x = none → H1 dx = none → dx ≠ x → sp (.ref x :: (vs ++ dvs)) (upd (upd H1 dx (.own x)) x (.ins C dx [])) (fun v H2 => v = .non ∧ Q (.ref x) H2) E) : tMake C sp dvs E ta σ H Q := h
theorem rd_cS {R : List V → Hp → Prop} (h : Ev te σ H x) (k : ∀ H1, Ex H H1 → tr σ H1 fun ys H2 => R (x :: ys) H2) : tCons te tr σ H R := h H (Ex.refl H) _ k
theorem rd_lS {R : List V → Hp → Prop} (h : EvL te σ H xs) (k : ∀ p H1, H p = none → Ex H H1 → H1 p = some (.lst xs) → tr σ H1 fun ys H2 => R (.ref p :: ys) H2) : tCons te tr σ H R := h H (Ex.refl H) _ k
theorem rd_nS {R : List V → Hp → Prop} (h : R [] H) : tNil σ H R := h
theorem el_listS (h : Ev te σ H (.ref l)) (hl : H l = some (.lst xs)) : EvL (tCB (rListS K) (tCons te tNil)) σ H xs := fun H1 e Q q =>
  h H1 e _ fun H2 e2 => ⟨l, xs, rfl, .inl (sq_of ((e.trans e2) _ _ hl)), fun p hp => q p _ (fresh_back e2 hp) (e2.trans (Ex.new hp)) upd_same⟩
end
structure Mkr (P : Program) (w : World) (K : PySem.W.Frag) (mg : Str → Option Value) (base : Heap) (R : Addr) : Prop where
  ex : ∃ fi fd, Mk K R fi ∧ FnOk P w K mg base CX0 6 fi fd ["self", "status", "fields", "body"] (spRs R) ∧ Binds K fd ["self", "status", "fields", "body"] []
structure Mkq (P : Program) (w : World) (K : PySem.W.Frag) (mg : Str → Option Value) (base : Heap) (R : Addr) : Prop where
  ex : ∃ fi fd, Mk K R fi ∧ FnOk P w K mg base CX0 6 fi fd ["self", "method", "path", "fields", "body"] (spRq R) ∧ Binds K fd ["self", "method", "path", "fields", "body"] []
def RowA (H : Hp) (v : V) (l : Addr) (st : Str) (fs : Fs) (b : Str) : Prop := ∃ t, v = .ref t ∧ H t = some (.tup [.str st, .ref l, .str b]) ∧ FsAt H l fs
def spMd (RQ RS : Addr) : Sp := fun vs H Q _ => ∃ v l st b fs, vs = [v] ∧ RowA H v l st fs b ∧ RowOk st fs b ∧ ∀ u H', Ex H H' → MgO RQ RS H' u st fs b → Q u H'
section
variable {P : Program} {w : World} {K : PySem.W.Frag} {mg : Str → Option Value} {base : Heap} {f RQ RS : Addr} {fd : FuncData} {k : Nat}
theorem ok_law_made (T : Mg mg) (WO : Wo K mg RQ RS) (IR : Mkr P w K mg base RS) (IQ : Mkq P w K mg base RQ) (F : FnP K "_law_made" s_law_made f fd) (gm : mg "_law_made" = some (.ref f)) : Call P w K mg base 8 "_law_made" ["row"] (spMd RQ RS) := by
  obtain ⟨fr, dr, MR, FR, bR⟩ := IR.ex
  obtain ⟨fq, dq, MQ, FQ, bQ⟩ := IQ.ex
  refine mk F gm (fun _ _ _ _ _ _ us hl => match us, hl with | [_], _ => rfl) (fun _ _ _ _ _ _ us hl => match us, hl with | [_], _ => rfl) sc_law_made (fun vs H Q E h => ?_) (fun cdv A outer s H vs Q E hr h => ?_)
  · obtain ⟨v, l, st, b, fs, rfl, _⟩ := h
    rfl
  · obtain ⟨v, l, st, b, fs, rfl, ⟨t, rfl, ht, hf⟩, ⟨hst, hok, hbl, hbb, hbm⟩, q⟩ := h
    refine ⟨_, (pss_cons (ps_set (i := 1) sc_law_made.nd rfl (Or.inl rfl) (pe_bm PySem.F.plainAttrs_str PySem.F.slot_str_split PySem.F.type_str_split mz_split (pe_ix ix_tup (pv 0) pe_int (fun _ _ => rfl)) (pa_cons pe_str pa_nil)))
    (pss_cons (ps_if (pt_cmpR op_eq (pe_ix ix_list (pv 1) pe_int (fun _ _ => rfl)) pe_str (nomark _))
      (pss_one (ps_ret (pe_make MQ FQ (hr.mono (by decide)) rfl WO.mQ bQ .nil pass0 (pa_cons (pe_ix ix_list (pv 1) pe_int (fun _ _ => rfl)) (pa_cons (pe_ix ix_list (pv 1) pe_int (fun _ _ => rfl)) (pa_cons (pe_callTy call_list_of (by rfl) T.list (by decide +kernel) (pa_cons (pe_ix ix_tup (pv 0) pe_int (fun _ _ => rfl)) pa_nil)) (pa_cons (pe_ix ix_tup (pv 0) pe_int (fun _ _ => rfl)) pa_nil)))))))
      pss_nil)
    (pss_one (ps_ret (pe_make MR FR (hr.mono (by decide)) rfl WO.mS bR .nil pass0 (pa_cons (pe_ix ix_list (pv 1) pe_int (fun _ _ => rfl)) (pa_cons (pe_callTy call_list_of (by rfl) T.list (by decide +kernel) (pa_cons (pe_ix ix_tup (pv 0) pe_int (fun _ _ => rfl)) pa_nil)) (pa_cons (pe_ix ix_tup (pv 0) pe_int (fun _ _ => rfl)) pa_nil)))))))), ?_⟩
    obtain ⟨fx, hfx, hfr⟩ := id hf
    have it : ∀ {σ : L2.St} {H' : Hp} (j : Nat) {y : V}, Ex H H' → σ[0]? = some (some (.ref t)) → [V.str st, .ref l, .str b][j]? = some y → Ev (tOp (rIxT K) (tVar 0) (tC (.int (j : Int)))) σ H' y := fun j y e h0 hv => ev_ixT (ev_var h0) ev_c (e _ _ ht) (atI_nat hv)
    have hl1 := hst.len
    refine q_asgL (el_split (it 0 (Ex.refl H) rfl rfl) ev_c (by decide +kernel) (by omega)) fun wl H1 nw e1 hw => ?_
    rcases hst with ⟨m, qq, hm, hq, rfl⟩ | ⟨s0, hs0, rfl⟩
    · rw [split_as hm hq] at hw
      obtain ⟨kd1, kd2⟩ := as_kind qq hm
      refine q_when (b := true) (et_is (et_test (ev_op (ev_ixL (ev_var rfl) ev_c hw (atI_nat (j := 0) rfl)) ev_c rv_eqS)) (by decide +kernel)) (fun _ H2 e2 => ?_) (fun h => nomatch h)
      have e12 := e1.trans e2
      refine g_ret (rd_mkS (rd_cS (ev_ixL (ev_var rfl) ev_c (e2 _ _ hw) (atI_nat (j := 1) rfl)) fun H3 e3 => rd_cS (ev_ixL (ev_var rfl) ev_c (e3 _ _ (e2 _ _ hw)) (atI_nat (j := 2) rfl)) fun H4 e4 => rd_lS (el_listS (it 1 ((e12.trans e3).trans e4) rfl rfl) (((e12.trans e3).trans e4) _ _ hfx)) fun p H5 np e5 hp => rd_cS (it 2 (((e12.trans e3).trans e4).trans e5) rfl rfl) fun H6 e6 => rd_nS ?_))
      have e16 := (((e12.trans e3).trans e4).trans e5).trans e6
      refine ri_rq (vs := [.str m, .str qq, .ref p, .str b]) (dvs := []) rfl ⟨fx, e6 _ _ hp, hfr.mono fun _ _ m => TupAt.ex m e16⟩ ⟨hm, hq, path60 hq, hok, by omega, hbb, ?_⟩ fun u H7 e7 hu => q u H7 (e16.trans e7) ?_
      · rcases hbm with h | h
        · exact .inl h
        · rw [kd2, decide_eq_true_eq] at h
          exact .inr h
      · unfold MgO clO
        rw [if_pos kd1, kd2]
        exact hu
    · rw [split_an s0 hs0] at hw
      obtain ⟨kd1, kd2, _⟩ := an_kind s0 hs0
      refine q_when (b := false) (et_is (et_test (ev_op (ev_ixL (ev_var rfl) ev_c hw (atI_nat (j := 0) rfl)) ev_c rv_eqS)) (by decide +kernel)) (fun h => nomatch h) (fun _ H2 e2 => ?_)
      have e12 := e1.trans e2
      refine g_ret (rd_mkS (rd_cS (ev_ixL (ev_var rfl) ev_c (e2 _ _ hw) (atI_nat (j := 1) rfl)) fun H3 e3 => rd_lS (el_listS (it 1 (e12.trans e3) rfl rfl) ((e12.trans e3) _ _ hfx)) fun p H5 np e5 hp => rd_cS (it 2 ((e12.trans e3).trans e5) rfl rfl) fun H6 e6 => rd_nS ?_))
      have e16 := ((e12.trans e3).trans e5).trans e6
      refine ri_rs (vs := [.str s0, .ref p, .str b]) (dvs := []) rfl ⟨fx, e6 _ _ hp, hfr.mono fun _ _ m => TupAt.ex m e16⟩ ⟨hs0, hok, by omega, hbb, ?_⟩ fun u H7 e7 hu => q u H7 (e16.trans e7) ?_
      · rcases hbm with h | h
        · exact .inl h
        · rw [kd2] at h
          exact .inr h
      · unfold MgO clO
        rw [kd1, if_neg Bool.false_ne_true, kd2]
        exact hu
end
end Z
set_option maxHeartbeats 4000000
namespace Z
open PySem PySem.Spec PyProof.Rows L2 TL Evl NdefX
/-! ### the law's written form -/
def spCl : Sp := fun vs H Q _ => ∃ (b : Str) (q : Addr) (ss : List Int), vs = [.str b, .ref q] ∧ H q = some (.lst (ss.map V.int)) ∧ b.length ≤ 1000 ∧ ss.length ≤ 20 ∧ RetV (.str (chLt (ss ++ [(b.length : Int)]) b "")) H Q
def spFo : Sp := fun vs H Q _ => ∃ v l st b fs ch o tr oe, vs = [v, ch, .int tr, .bl oe] ∧ RowA H v l st fs b ∧ ChA H ch o ∧ (∀ ss, o = some ss → ss.length ≤ 20) ∧ areB fs = true ∧ st.length ≤ 100 ∧ b.length ≤ 1000 ∧ RetV (if frB st fs o tr oe = true then .str (formT st fs b o tr oe) else .non) H Q
theorem big20 {i : Int} (h : i.natAbs < 2 ^ 20) : i.natAbs < 2 ^ 1920 := Nat.lt_of_lt_of_le h (Nat.pow_le_pow_right (by decide) (by decide))
section
variable {P : Program} {w : World} {K : PySem.W.Frag} {mg : Str → Option Value} {base : Heap} {f RQ RS : Addr} {fd : FuncData} {k : Nat}
theorem ok_law_chunk_lines (T : Mg mg) (F : FnP K "_law_chunk_lines" s_law_chunk_lines f fd) (gm : mg "_law_chunk_lines" = some (.ref f)) : Call P w K mg base 1 "_law_chunk_lines" ["body", "sizes"] spCl := by
  refine mk F gm (fun _ _ _ _ _ _ us hl => match us, hl with | [_, _], _ => rfl) (fun _ _ _ _ _ _ us hl => match us, hl with | [_, _], _ => rfl) sc_law_chunk_lines (fun vs H Q E h => ?_) (fun cdv A outer s H vs Q E hr h => ?_)
  · obtain ⟨b, l, ss, rfl, _⟩ := h
    rfl
  · obtain ⟨b, l, ss, rfl, hl, hb, hss, q⟩ := h
    refine ⟨_, (pss_cons (ps_set (i := 2) sc_law_chunk_lines.nd rfl (Or.inl rfl) pe_str)
    (pss_cons (ps_for PassesOwn.never rfl (pi_list (pe_op op_cat (pv 1) (pe_lst (pa_cons (pe_callB cz_len (by rfl) T.len (by decide +kernel) (pa_cons (pv 0) pa_nil)) pa_nil)))) (pg_name (i := 3) sc_law_chunk_lines.nd rfl (Or.inl rfl))
      (pss_cons (ps_set (i := 4) sc_law_chunk_lines.nd rfl (Or.inl rfl) (pe_slice sl_str (pv 0) po_none (po_some (pv 3))))
      (pss_cons (ps_set (i := 0) sc_law_chunk_lines.nd rfl (Or.inl rfl) (pe_slice sl_str (pv 0) (po_some (pv 3)) po_none))
      (pss_one (ps_if (pt_cmpR op_ne (pv 4) pe_str (nomark _))
        (pss_one (ps_set (i := 2) sc_law_chunk_lines.nd rfl (Or.inl rfl) (pe_op oz_add (pe_op oz_add (pe_op oz_add (pe_op oz_add (pv 2) (pe_callTy cz_str (by rfl) T.str (by decide +kernel) (pa_cons (pe_callB cz_len (by rfl) T.len (by decide +kernel) (pa_cons (pv 4) pa_nil)) pa_nil))) pe_str) (pv 4)) pe_str)))
        pss_nil)))))
    (pss_one (ps_ret (pe_op oz_add (pv 2) pe_str))))), ?_⟩
    refine q_asg ev_c fun H1 e1 => ?_
    have hl1 := e1 _ _ hl
    generalize hX : ss ++ [(b.length : Int)] = X at q
    generalize hR : chLt X b "" = R at q
    have hXl : X.length ≤ 21 := by rw [← hX, List.length_append]; show _ + 1 ≤ _; omega
    have c1 : ("\n" : Str).length = 1 := by decide +kernel
    have c2 : ("0\n" : Str).length = 2 := by decide +kernel
    refine q_forNLn (xs := X.map V.int) (by
        rw [← hX, List.map_append]
        exact el_catEL (l := l) (xs := ss.map V.int) (zs := [V.int (b.length : Int)]) (ev_var rfl) (el_lst (ea_cons (ev_lenStr (ev_var rfl) (by omega)) ea_nil) (by show 1 ≤ 100000; decide)) hl1 (by rw [List.length_map]; show _ + 1 ≤ _; omega))
      (fun d i σ' H' => ∃ (v u : Option V) (bd t : Str), σ' = [some (.str bd), some (.ref l), some (.str t), v, u] ∧ Ex H H' ∧ H' d = some (.lst (X.map V.int)) ∧ bd.length ≤ b.length ∧ t.length ≤ i * 1010 ∧ chLt (X.drop i) bd t = R)
      (fun d H3 nd e3 hd => ⟨none, none, b, "", rfl, e1.trans e3, hd, Nat.le_refl _, by decide +kernel, hR⟩) (fun d i σ' H' hi pv => ?_) (fun d i x σ' H' hi pv => ?_) (fun d σ' H' pv => ?_)
    · obtain ⟨v, u, bd, t, rfl, e3, hd, g1, g2, heq⟩ := pv
      exact sq_of hd
    · obtain ⟨v, u, bd, t, rfl, e3, hd, g1, g2, heq⟩ := pv
      obtain ⟨hi', rfl⟩ := at_intE hi
      have hlt : i < X.length := hi'
      have hdr : X.drop i = X[i] :: X.drop (i + 1) := List.drop_eq_getElem_cons hlt
      rw [hdr] at heq
      have hgd : X.getD i 0 = X[i] := by rw [List.getD_eq_getElem?_getD, List.getElem?_eq_getElem hlt]; rfl
      rw [hgd]
      generalize X[i] = sz at heq
      have p1 := cutS_length bd none (some sz)
      have p2 := cutS_length bd (some sz) none
      refine q_asg (ev_slS (lo := none) (hi := some sz) (ev_var rfl) eo_none (eo_some (ev_var rfl)) (by omega)) fun H4 e4 => ?_
      refine q_asg (ev_slS (lo := some sz) (hi := none) (ev_var rfl) (eo_some (ev_var rfl)) eo_none (by omega)) fun H5 e5 => ?_
      have e35 := (e3.trans e4).trans e5
      have hd5 := e5 _ _ (e4 _ _ hd)
      unfold chLt at heq
      generalize cutS bd none (some sz) = pc at heq p1
      generalize cutS bd (some sz) none = bd2 at heq p2
      refine Evl.s_if (et_test (ev_op (ev_var rfl) ev_c rv_neS)) (fun hc H6 e6 => ?_) (fun hc H6 e6 => ?_)
      · rw [Bool.not_eq_true', decide_eq_false_iff_not] at hc
        rw [if_neg hc] at heq
        have hn : (numT (pc.length : Int)).length ≤ 7 := strI_len (by omega) (by omega)
        have hi1 : (i + 1) * 1010 = i * 1010 + 1010 := Nat.succ_mul i 1010
        have hi2 : i * 1010 ≤ 21 * 1010 := Nat.mul_le_mul (by omega) (Nat.le_refl _)
        refine s_asg (v := .str (t ++ numT (pc.length : Int) ++ ("\n" : Str) ++ pc ++ ("\n" : Str))) (ev_op (ev_op (ev_op (ev_op (ev_var rfl) (ev_strI (ev_lenStr (ev_var rfl) (by omega)) (big20 (by rw [Int.natAbs_natCast]; exact Nat.lt_of_le_of_lt (Nat.le_trans p1 (Nat.le_trans g1 hb)) (by decide)))) (rv_addS (show t.length + (numT (pc.length : Int)).length ≤ 200000 by omega))) ev_c (rv_addS (show (t ++ numT (pc.length : Int)).length + ("\n" : Str).length ≤ 200000 by rw [Str.length_append]; omega))) (ev_var rfl) (rv_addS (by rw [Str.length_append, show (t ++ PySem.Str.ofString (toString (pc.length : Int))).length = t.length + (numT (pc.length : Int)).length from Str.length_append _ _]; omega))) ev_c (rv_addS (by rw [Str.length_append, Str.length_append, show (t ++ PySem.Str.ofString (toString (pc.length : Int))).length = t.length + (numT (pc.length : Int)).length from Str.length_append _ _]; omega))) fun H7 e7 => ?_
        refine ⟨_, _, bd2, _, rfl, (e35.trans e6).trans e7, e7 _ _ (e6 _ _ hd5), by omega, ?_, heq⟩
        rw [Str.length_append, Str.length_append, Str.length_append, Str.length_append]
        omega
      · rw [Bool.not_eq_false', decide_eq_true_eq] at hc
        rw [if_pos hc] at heq
        exact ⟨_, _, bd2, t, rfl, e35.trans e6, e6 _ _ hd5, by omega, by omega, heq⟩
    · obtain ⟨v, u, bd, t, rfl, e3, hd, g1, g2, heq⟩ := pv
      rw [List.length_map, List.drop_length] at heq
      rw [List.length_map] at g2
      have hi2 : X.length * 1010 ≤ 21 * 1010 := Nat.mul_le_mul hXl (Nat.le_refl _)
      rw [← heq] at q
      exact s_ret (v := .str (t ++ ("0\n" : Str))) (ev_op (ev_var rfl) ev_c (rv_addS (by omega))) fun H4 e4 => q H4 (e3.trans e4)
theorem chLt_len : ∀ (X : List Int) (u t : Str), u.length ≤ 1000 → (chLt X u t).length ≤ t.length + X.length * 1010 + 2
  | [], u, t, _ => by
    unfold chLt
    rw [Str.length_append, show ("0\n" : Str).length = 2 by decide +kernel]
    omega
  | s :: r, u, t, h => by
    unfold chLt
    have p1 := cutS_length u none (some s)
    have p2 := cutS_length u (some s) none
    have c1 : ("\n" : Str).length = 1 := by decide +kernel
    have := chLt_len r (cutS u (some s) none) (if cutS u none (some s) = ("" : Str) then t else t ++ numT ((cutS u none (some s)).length : Int) ++ ("\n" : Str) ++ cutS u none (some s) ++ ("\n" : Str)) (by omega)
    have hm : (r.length + 1) * 1010 = r.length * 1010 + 1010 := Nat.succ_mul _ _
    rw [List.length_cons, hm]
    split at this
    · rename_i hc
      rw [if_pos hc]
      omega
    · rename_i hc
      rw [if_neg hc]
      have hn : (numT ((cutS u none (some s)).length : Int)).length ≤ 7 := strI_len (by omega) (by omega)
      simp only [Str.length_append] at this ⊢
      omega
theorem lawL_len (x : Str × Str) : (lawL x).length = x.1.length + 3 + x.2.length := by
  unfold lawL
  simp only [Str.length_append]
  rw [show (": " : Str).length = 2 by decide +kernel, show ("\n" : Str).length = 1 by decide +kernel]
  omega
theorem laws_sum {fs : Fs} (h : areB fs = true) : ((fs.map lawL).map (·.length)).sum ≤ 40 * 233 := by
  obtain ⟨h1, h2⟩ := areB_val h
  have : ∀ gs : Fs, (∀ x ∈ gs, x.1.length ≤ 30 ∧ x.2.length ≤ 200) → ((gs.map lawL).map (·.length)).sum ≤ gs.length * 233 := fun gs => by
    induction gs with
    | nil => intro _; exact Nat.le_refl 0
    | cons x r ih =>
      intro h
      have a := ih fun y hy => h y (List.mem_cons_of_mem _ hy)
      obtain ⟨b1, b2⟩ := h x List.mem_cons_self
      rw [List.map_cons, List.map_cons, List.sum_cons, lawL_len, List.length_cons]
      omega
  have := this fs h2
  omega
theorem ev_opLL {r : R2} {σ : L2.St} {H : Hp} {ta tb : TE} {xs ys : List V} {v : V} (ha : EvL ta σ H xs) (hb : EvL tb σ H ys) (k : ∀ p q H1, Ex H H1 → H1 p = some (.lst xs) → H1 q = some (.lst ys) → RV r (.ref p) (.ref q) H1 v) : Ev (tOp r ta tb) σ H v := fun H1 e Q q =>
  ha H1 e _ fun p H2 np e2 hp => hb H2 (e.trans e2) _ fun q' H3 nq e3 hq => k p q' H3 ((e.trans e2).trans e3) (e3 _ _ hp) hq H3 (Ex.refl H3) Q (fun H4 e4 => q H4 ((e2.trans e3).trans e4))
theorem any_filter (ss : List Int) : (!decide ((ss.filter fun s => decide (s < 1)) = [])) = ss.any fun s => decide (s < 1) := by
  cases h : ss.any fun s => decide (s < 1) with
  | false =>
    rw [decide_eq_true (List.filter_eq_nil_iff.mpr fun a ha => by rw [List.any_eq_false] at h; exact h a ha)]
    rfl
  | true =>
    rw [decide_eq_false]
    · rfl
    · intro e
      obtain ⟨a, ha, hp⟩ := List.any_eq_true.mp h
      exact List.filter_eq_nil_iff.mp e a ha hp
theorem frB_law (st : Str) (fs : Fs) (o : Option (List Int)) (tr : Int) (oe : Bool) : frB st fs o tr oe = !((oe && (o.isSome || (!mayB st || isRq st))) || ((o.isSome && (!mayB st || (o.getD []).any fun s => decide (s < 1))) || ((!o.isSome && !decide (tr = 0)) || !(decide ((0 : Int) ≤ tr) && decide (tr ≤ (fs.length : Int)))))) := by
  unfold frB frI
  cases o with
  | none =>
    by_cases h : tr = 0
    · subst h
      have : decide ((0 : Int) ≤ (fs.length : Int)) = true := decide_eq_true (by omega)
      rw [this]
      cases oe <;> cases mayB st <;> cases isRq st <;> rfl
    · rw [decide_eq_false h]
      cases oe <;> cases mayB st <;> cases isRq st <;> rfl
  | some ss =>
    show (if (oe && (true || isRq st)) = true then false else if (!mayB st || ss.any fun s => decide (s < 1)) = true then false else (decide ((0 : Int) ≤ tr) && decide (tr ≤ (fs.length : Int)))) = !((oe && (true || (!mayB st || isRq st))) || ((true && (!mayB st || ss.any fun s => decide (s < 1))) || ((!true && !decide (tr = 0)) || !(decide ((0 : Int) ≤ tr) && decide (tr ≤ (fs.length : Int))))))
    cases oe <;> cases mayB st <;> cases isRq st <;> cases (ss.any fun s => decide (s < 1)) <;> cases (decide ((0 : Int) ≤ tr) && decide (tr ≤ (fs.length : Int))) <;> rfl
theorem ok_law_form (T : Mg mg) (c_law_may : Call P w K mg base 1 "_law_may" ["start"] spMy) (c_law_chunk_lines : Call P w K mg base 1 "_law_chunk_lines" ["body", "sizes"] spCl) (F : FnP K "_law_form" s_law_form f fd) (gm : mg "_law_form" = some (.ref f)) : Call P w K mg base 2 "_law_form" ["row", "sizes", "tail", "open_ended"] spFo := by
  refine mk F gm (fun _ _ _ _ _ _ us hl => match us, hl with | [_, _, _, _], _ => rfl) (fun _ _ _ _ _ _ us hl => match us, hl with | [_, _, _, _], _ => rfl) sc_law_form (fun vs H Q E h => ?_) (fun cdv A outer s H vs Q E hr h => ?_)
  · obtain ⟨v, l, st, b, fs, ch, o, tr, oe, rfl, _⟩ := h
    rfl
  · obtain ⟨v, l, st, b, fs, ch, o, tr, oe, rfl, ⟨t, rfl, ht, hf⟩, hch, ho, hok, hst, hbl, q⟩ := h
    refine ⟨_, (pss_cons (ps_set (i := 4) sc_law_form.nd rfl (Or.inl rfl) (pe_ix ix_tup (pv 0) pe_int (fun _ _ => rfl)))
    (pss_cons (ps_set (i := 5) sc_law_form.nd rfl (Or.inl rfl) (pe_ix ix_tup (pv 0) pe_int (fun _ _ => rfl)))
    (pss_cons (ps_set (i := 6) sc_law_form.nd rfl (Or.inl rfl) (pe_f c_law_may hr (by decide) rfl (pa_cons (pv 4) pa_nil)))
    (pss_cons (ps_if (PW.pt (pw_and (pt_truth (pv 3) (by intro _; rfl)) (pw_and1 (PW.pt (pw_or (pt_cmpR op_notN1 (pv 1) pe_non (nomark _)) (pw_or (pt_not (pt_truth (pv 6) (by intro _; rfl))) (pw_or1 (pt_val (pe_bm PySem.F.plainAttrs_str PySem.F.slot_str_startswith PySem.F.type_str_startswith mz_starts (pv 4) (pa_cons pe_str pa_nil))))))))))
      (pss_one (ps_ret pe_non))
      pss_nil)
    (pss_cons (ps_if (PW.pt (pw_and (pt_cmpR op_notN1 (pv 1) pe_non (nomark _)) (pw_and1 (PW.pt (pw_or (pt_not (pt_truth (pv 6) (by intro _; rfl))) (pw_or1 (pt_cmpR (op_neD hr.units) (pe_lc (own := [("size", 7)]) (g := gName 7) rfl sc_law_form.nd (pi_list (pv 1)) (blkOk_by (N := ["row", "sizes", "tail", "open_ended", "start", "fields", "may", "size", "lines", "field", "text"]) (sc := L2.defScope s_law_form) (by decide +kernel)) (fun _ _ _ _ _ => pg_name (i := 7) sc_law_form.nd rfl (Or.inl rfl)) (fun _ _ _ _ _ => pts_one (pt_cmpR op_lt (pv 7) pe_int (nomark _))) (fun _ _ _ _ _ => (pv 7))) (pe_lst pa_nil) (nomark _))))))))
      (pss_one (ps_ret pe_non))
      pss_nil)
    (pss_cons (ps_if (PW.pt (pw_or (PW.pt (pw_and (pt_cmpR op_isN1 (pv 1) pe_non (nomark _)) (pw_and1 (pt_cmpR op_ne (pv 2) pe_int (nomark _))))) (pw_or1 (pt_not (pt_chain op_le op_le pe_int (pv 2) (pe_callB call_len_seq (by rfl) T.len (by decide +kernel) (pa_cons (pv 5) pa_nil)))))))
      (pss_one (ps_ret pe_non))
      pss_nil)
    (pss_cons (ps_setLc (i := 8) (own := [("field", 9)]) (g := gName 9) (tt := tYes) rfl sc_law_form.nd rfl rfl (sw_true rfl rfl rfl (by decide +kernel)) (pi_list (pv 5)) (blkOk_by (N := ["row", "sizes", "tail", "open_ended", "start", "fields", "may", "size", "lines", "field", "text"]) (sc := L2.defScope s_law_form) (by decide +kernel)) (fun _ _ _ _ _ => pg_name (i := 9) sc_law_form.nd rfl (Or.inl rfl)) (fun _ _ _ _ _ => pts_nil) (fun _ _ _ _ _ => (pe_op oz_add (pe_op oz_add (pe_op oz_add (inK (K := K) (t := fun K => tOp (rIxT K) _ _) rfl (pe_ix ix_tup (pv 9) pe_int (fun _ _ => rfl))) pe_str) (inK (K := K) (t := fun K => tOp (rIxT K) _ _) rfl (pe_ix ix_tup (pv 9) pe_int (fun _ _ => rfl)))) pe_str)))
    (pss_cons (ps_set (i := 10) sc_law_form.nd rfl (Or.inl rfl) (pe_op oz_add (pe_op oz_add (pv 4) pe_str) (pe_bm PySem.F.plainAttrs_str PySem.F.slot_str_join PySem.F.type_str_join mz_join pe_str (pa_cons (pe_slice sl_list (pv 8) po_none (po_some (pe_op op_sub (pe_callB call_len_seq (by rfl) T.len (by decide +kernel) (pa_cons (pv 8) pa_nil)) (pv 2)))) pa_nil))))
    (pss_cons (ps_if (pt_cmpR op_notN1 (pv 1) pe_non (nomark _))
      (pss_cons (ps_set (i := 10) sc_law_form.nd rfl (Or.inl rfl) (pe_op oz_add (pe_op oz_add (pv 10) pe_str) (pe_f c_law_chunk_lines hr (by decide) rfl (pa_cons (pe_ix ix_tup (pv 0) pe_int (fun _ _ => rfl)) (pa_cons (pv 1) pa_nil)))))
      (pss_one (ps_ret (pe_op oz_add (pe_op oz_add (pv 10) (pe_bm PySem.F.plainAttrs_str PySem.F.slot_str_join PySem.F.type_str_join mz_join pe_str (pa_cons (pe_slice sl_list (pv 8) (po_some (pe_op op_sub (pe_callB call_len_seq (by rfl) T.len (by decide +kernel) (pa_cons (pv 8) pa_nil)) (pv 2))) po_none) pa_nil))) pe_str))))
      pss_nil)
    (pss_cons (ps_if (PW.pt (pw_and (pt_truth (pv 6) (by intro _; rfl)) (pw_and1 (pt_not (pt_truth (pv 3) (by intro _; rfl))))))
      (pss_one (ps_set (i := 10) sc_law_form.nd rfl (Or.inl rfl) (pe_op oz_add (pe_op oz_add (pe_op oz_add (pv 10) pe_str) (pe_callTy cz_str (by rfl) T.str (by decide +kernel) (pa_cons (pe_callB cz_len (by rfl) T.len (by decide +kernel) (pa_cons (pe_ix ix_tup (pv 0) pe_int (fun _ _ => rfl)) pa_nil)) pa_nil))) pe_str)))
      pss_nil)
    (pss_one (ps_ret (pe_op oz_add (pe_op oz_add (pv 10) pe_str) (pe_ix ix_tup (pv 0) pe_int (fun _ _ => rfl))))))))))))))), ?_⟩
    rw [frB_law] at q
    obtain ⟨fx, hfx, hfr⟩ := id hf
    have hlen := hfr.1
    have hfl := (areB_val hok).1
    have it : ∀ {σ : L2.St} {H' : Hp} (j : Nat) {y : V}, Ex H H' → σ[0]? = some (some (.ref t)) → [V.str st, .ref l, .str b][j]? = some y → Ev (tOp (rIxT K) (tVar 0) (tC (.int (j : Int)))) σ H' y := fun j y e h0 hv => ev_ixT (ev_var h0) ev_c (e _ _ ht) (atI_nat hv)
    refine q_asg (it 0 (Ex.refl H) rfl rfl) fun H1 e1 => q_asg (it 1 e1 rfl rfl) fun H2 e2 => ?_
    refine q_asg (v := .bl (mayB st)) (ev_call (ea_cons (ev_var rfl) ea_nil) (fun H1 e1 Q' q' E' => ⟨st, rfl, hst, q'⟩)) fun H3 e3 => ?_
    have e13 := (e1.trans e2).trans e3
    have hno : (!decide (ch = V.non)) = o.isSome := by
      cases o with
      | none => rw [show ch = .non from hch]; rfl
      | some ss =>
        obtain ⟨r, rfl, _⟩ := hch
        rfl
    have hno2 : decide (ch = V.non) = !o.isSome := by rw [← hno, Bool.not_not]
    refine q_when (b := oe && (o.isSome || (!mayB st || isRq st))) (et_and (et_truB (ev_var rfl)) fun _ => et_or (et_is (et_test (ev_op (ev_var rfl) ev_c rv_notN)) hno) fun _ => et_or (et_not (et_truB (ev_var rfl))) fun _ => et_B (ev_starts (ev_var rfl) ev_c)) (fun hb H4 e4 => ?_) (fun hb H4 e4 => ?_)
    · rw [hb] at q
      exact s_ret ev_c fun H5 e5 => q H5 ((e13.trans e4).trans e5)
    rw [hb, Bool.false_or] at q
    have e14 := e13.trans e4
    refine q_when (b := o.isSome && (!mayB st || (o.getD []).any fun s => decide (s < 1))) (et_and (et_is (et_test (ev_op (ev_var rfl) ev_c rv_notN)) hno) fun hs => et_or (et_not (et_truB (ev_var rfl))) fun _ => ?_) (fun hb2 H5 e5 => ?_) (fun hb2 H5 e5 => ?_)
    · cases o with
      | none => cases hs
      | some ss =>
        obtain ⟨r, rfl, hr0⟩ := id hch
        have hss := ho ss rfl
        refine et_test (ev_is (ev_opLL (xs := (ss.filter fun s => decide (s < 1)).map V.int) (ys := []) ?_ (el_lst ea_nil (by decide)) fun p q H5 e5 hp hq => rv_neI0 hp hq) (congrArg V.bl (any_filter ss)))
        have e : given (ss.map V.int).length (fun i => decide (ss.getD i 0 < 1)) (fun i => .int (ss.getD i 0)) = (ss.filter fun s => decide (s < 1)).map V.int := by
          rw [List.length_map]
          exact given_all ss 0 (fun s => decide (s < 1)) V.int
        rw [← e]
        refine el_lcL (fun i => decide (ss.getD i 0 < 1)) (fun i => .int (ss.getD i 0)) (ev_var rfl) (sq_of (e14 _ _ hr0)) (by rw [List.length_map]; omega) (fun _ => rfl) (fun i x H6 e6 hx => ?_) (fun i x H6 e6 hx _ => ?_)
        · obtain ⟨hi, rfl⟩ := at_intE hx
          exact et_test (ev_op (ev_var rfl) ev_c rv_I0)
        · obtain ⟨hi, rfl⟩ := at_intE hx
          exact ev_var rfl
    · rw [hb2, Bool.true_or] at q
      exact s_ret ev_c fun H6 e6 => q H6 ((e14.trans e5).trans e6)
    rw [hb2, Bool.false_or] at q
    have e15 := e14.trans e5
    refine q_when (b := (!o.isSome && !decide (tr = 0)) || !(decide ((0 : Int) ≤ tr) && decide (tr ≤ (fs.length : Int)))) (et_or (et_and (et_is (et_test (ev_op (ev_var rfl) ev_c rv_isN)) hno2) fun _ => et_test (ev_op (ev_var rfl) ev_c rv_neI)) fun _ => et_not (et_test (ev_is (ev_chain ev_c (ev_var rfl) (ev_len (ev_var rfl) (sq_of (e15 _ _ hfx)))) (by rw [hfr.1])))) (fun hb3 H6 e6 => ?_) (fun hb3 H6 e6 => ?_)
    · rw [hb3] at q
      exact s_ret ev_c fun H7 e7 => q H7 ((e15.trans e6).trans e7)
    rw [hb3, Bool.not_false, if_pos rfl] at q
    have e16 := e15.trans e6
    have htr : (0 : Int) ≤ tr ∧ tr ≤ (fs.length : Int) := by
      rw [Bool.or_eq_false_iff, Bool.not_eq_false', Bool.and_eq_true, decide_eq_true_eq, decide_eq_true_eq] at hb3
      exact hb3.2
    obtain ⟨n, hn⟩ : ∃ n : Nat, (fs.length : Int) - tr = n := ⟨((fs.length : Int) - tr).toNat, by omega⟩
    have hnn : ((fs.length : Int) - tr).toNat = n := by rw [hn, Int.toNat_natCast]
    obtain ⟨hok1, hok2⟩ := areB_take hok n
    have s1 := laws_sum hok1
    have s2 := laws_sum hok2
    have hv := (areB_val hok).2
    have c1 : ("\n" : Str).length = 1 := by decide +kernel
    have c2 : (": " : Str).length = 2 := by decide +kernel
    have c3 : ("length: chunks\n\n" : Str).length ≤ 20 := by decide +kernel
    have c4 : ("length: " : Str).length ≤ 20 := by decide +kernel
    refine q_asgL (xs := (fs.map lawL).map V.str) (fun H7 e7 Q7 q7 => ?_) fun L H7 nL e7 hL => ?_
    · refine ⟨.ref l, rfl, l, rfl, ⟨_, sq_of ((e16.trans e7) _ _ hfx)⟩, fun D hD => ?_⟩
      refine lc_rel (α := Str) (fun i => (fs.take i).map lawL) (fun _ v s => v = .str s) (fun _ _ _ _ _ _ h => h) (sq_of ((e16.trans e7) _ _ hfx)) hD rfl (by omega) (fun i x H8 hi e8 k k0 hk hk0 => ?_) (fun H8 ys e8 hy hrel => ?_)
      · obtain ⟨o1, ho1, tt, rfl, htt⟩ := hfr.get hi
        have ht3 := ((e16.trans e7).trans e8) _ _ htt
        obtain ⟨v1, v2⟩ := hv o1 (List.mem_of_getElem? ho1)
        refine ⟨rfl, ?_⟩
        unfold tYes
        dsimp only
        rw [if_pos rfl]
        refine (ev_op (ev_op (ev_op (ev_ixT (ev_var rfl) ev_c ht3 (atI_nat (j := 0) rfl)) ev_c (rv_addS (by omega))) (ev_ixT (ev_var rfl) ev_c ht3 (atI_nat (j := 1) rfl)) (rv_addS (by rw [Str.length_append]; omega))) ev_c (rv_addS (by rw [Str.length_append, Str.length_append]; omega))) H8 (Ex.refl H8) _ fun H9 e9 => hk _ H9 (lawL o1) e9 ?_ rfl
        rw [List.take_add_one, ho1, List.map_append]
        rfl
      · rw [hlen, List.take_length] at hrel
        rw [rel_str hrel] at hy
        exact q7 D H8 hD e8 hy
    · have e17 := e16.trans e7
      have slA : ∀ {σ : L2.St} {H' : Hp} {te : TO}, Ex H7 H' → σ[8]? = some (some (.ref L)) → EvO te σ H' (some (n : Int)) → EvL (tSl (rSlL K) (tVar 8) tNoPart te) σ H' (((fs.take n).map lawL).map V.str) := fun e h0 he => by
        have g := el_sl (K := K) (ev_var h0) eo_none he (sq_of (e _ _ hL))
        rw [cutV_take, ← List.map_take, ← List.map_take] at g
        exact g
      have slB : ∀ {σ : L2.St} {H' : Hp} {te : TO}, Ex H7 H' → σ[8]? = some (some (.ref L)) → EvO te σ H' (some (n : Int)) → EvL (tSl (rSlL K) (tVar 8) te tNoPart) σ H' (((fs.drop n).map lawL).map V.str) := fun e h0 he => by
        have g := el_sl (K := K) (ev_var h0) he eo_none (sq_of (e _ _ hL))
        rw [cutV_drop, ← List.map_drop, ← List.map_drop] at g
        exact g
      have nI : ∀ {σ : L2.St} {H' : Hp}, Ex H7 H' → σ[8]? = some (some (.ref L)) → σ[2]? = some (some (.int tr)) → Ev (tOp (rI0 fun i j => .int (i - j)) (tCB (rLenS K) (tCons (tVar 8) tNil)) (tVar 2)) σ H' (.int (n : Int)) := fun e h0 h2 => ev_is (ev_op (ev_len (ev_var h0) (sq_of (e _ _ hL))) (ev_var h2) rv_I0) (by rw [List.length_map, List.length_map]; exact congrArg V.int hn)
      have hj1 : (Txt.join "" ((fs.take n).map lawL)).length ≤ 9320 := by rw [lenTJ]; omega
      have hj2 : (Txt.join "" ((fs.drop n).map lawL)).length ≤ 9320 := by rw [lenTJ]; omega
      have hlt : ∀ gs : Fs, areB gs = true → (((gs.map lawL).map (·.length)).sum + (gs.map lawL).length * ("" : Str).length ≤ 100000) := fun gs hg => by
        have := laws_sum hg
        have c0 : ("" : Str).length = 0 := by decide +kernel
        rw [c0, Nat.mul_zero]
        omega
      have eH : headT st fs n = st ++ ("\n" : Str) ++ Txt.join "" ((fs.take n).map lawL) := by unfold headT; rw [List.map_take]
      have lH : (headT st fs n).length ≤ 9421 := by rw [eH, Str.length_append, Str.length_append]; omega
      refine q_asg (v := .str (headT st fs n)) (ev_is (ev_op (ev_op (ev_var rfl) ev_c (rv_addS (by omega))) (ev_joinL (zs := (fs.take n).map lawL) (slA (Ex.refl H7) rfl (eo_some (nI (Ex.refl H7) rfl rfl))) (hlt _ hok1)) (rv_addS (by rw [Str.length_append]; omega))) (by rw [eH])) fun H8 e8 => ?_
      unfold formT at q
      rw [hnn] at q
      refine q_when (b := o.isSome) (et_is (et_test (ev_op (ev_var rfl) ev_c rv_notN)) hno) (fun hb4 H9 e9 => ?_) (fun hb4 H9 e9 => ?_)
      · cases o with
        | none => cases hb4
        | some ss =>
          obtain ⟨r, rfl, hr0⟩ := id hch
          have hss := ho ss rfl
          have e19 := (e17.trans e8).trans e9
          have hcl := chLt_len (ss ++ [(b.length : Int)]) b "" hbl
          have c0 : ("" : Str).length = 0 := by decide +kernel
          rw [List.length_append, c0] at hcl
          have hcl2 : (ss.length + [(b.length : Int)].length) * 1010 ≤ 21 * 1010 := Nat.mul_le_mul (by show ss.length + 1 ≤ 21; omega) (Nat.le_refl _)
          refine q_asg (ev_op (ev_op (ev_var rfl) ev_c (rv_addS (by omega))) (ev_call (ea_cons (it 2 e19 rfl rfl) (ea_cons (ev_var rfl) ea_nil)) (fun H1 e1 Q' q' E' => ⟨b, r, ss, rfl, (e19.trans e1) _ _ hr0, hbl, hss, q'⟩)) (rv_addS (by rw [Str.length_append]; omega))) fun H10 e10 => ?_
          have e7a := (e8.trans e9).trans e10
          have ejd : (fs.map lawL).drop n = (fs.drop n).map lawL := List.map_drop.symm
          dsimp only at q
          rw [ejd] at q
          exact s_ret (ev_op (ev_op (ev_var rfl) (ev_joinL (zs := (fs.drop n).map lawL) (slB e7a rfl (eo_some (nI e7a rfl rfl))) (hlt _ hok2)) (rv_addS (by rw [Str.length_append, Str.length_append]; omega))) ev_c (rv_addS (by rw [Str.length_append, Str.length_append, Str.length_append]; omega))) fun H11 e11 => q H11 ((e19.trans e10).trans e11)
      · cases o with
        | some ss => cases hb4
        | none =>
          have e19 := (e17.trans e8).trans e9
          dsimp only at q
          generalize htx : (if (mayB st && !oe) = true then headT st fs n ++ (("length: " : Str) ++ numT (b.length : Int) ++ ("\n" : Str)) else headT st fs n) = tx at q
          have hn7 : (numT (b.length : Int)).length ≤ 7 := strI_len (by omega) (by omega)
          have ltx : tx.length ≤ 9500 := by
            rw [← htx]
            split
            · simp only [Str.length_append]
              omega
            · omega
          refine q_tailIf (fun σ1 Hx => σ1 = [some (.ref t), some ch, some (.int tr), some (.bl oe), some (.str st), some (.ref l), some (.bl (mayB st)), none, some (.ref L), none, some (.str tx)] ∧ Ex H Hx) (fun σ1 H10 hR => ?_) (fun tail => ?_)
          · obtain ⟨rfl, e10⟩ := hR
            exact s_ret (ev_op (ev_op (ev_var rfl) ev_c (rv_addS (by omega))) (it 2 e10 rfl rfl) (rv_addS (by rw [Str.length_append]; omega))) fun H11 e11 => q H11 (e10.trans e11)
          · refine q_if (b := mayB st && !oe) (et_and (et_truB (ev_var rfl)) fun _ => et_not (et_truB (ev_var rfl))) (fun hb5 H10 e10 => ?_) (fun hb5 H10 e10 => tail _ _ ⟨?_, e19.trans e10⟩)
            · rw [if_pos hb5] at htx
              have heq : headT st fs n ++ ("length: " : Str) ++ numT (b.length : Int) ++ ("\n" : Str) = tx := by
                rw [← htx]
                exact ext_tl (by simp only [tl_append, List.append_assoc])
              refine s_asg (v := .str (headT st fs n ++ ("length: " : Str) ++ numT (b.length : Int) ++ ("\n" : Str))) (ev_op (ev_op (ev_op (ev_var rfl) ev_c (rv_addS (by omega))) (ev_strI (ev_lenStr (it 2 (e19.trans e10) rfl rfl) (by omega)) (big20 (by rw [Int.natAbs_natCast]; exact Nat.lt_of_le_of_lt hbl (by decide)))) (rv_addS (show (headT st fs n ++ ("length: " : Str)).length + (numT (b.length : Int)).length ≤ 200000 by rw [Str.length_append]; omega))) ev_c (rv_addS (show (headT st fs n ++ ("length: " : Str) ++ numT (b.length : Int)).length + ("\n" : Str).length ≤ 200000 by rw [Str.length_append, Str.length_append]; omega))) fun H11 e11 => tail _ _ ⟨?_, (e19.trans e10).trans e11⟩
              rw [heq]
              rfl
            · rw [hb5, if_neg Bool.false_ne_true] at htx
              rw [← htx]
              rfl
end
end Z
set_option maxHeartbeats 4000000
namespace Z
open PySem PySem.Spec PyProof.Rows L2 TL Evl NdefX
/-! ### sizes and options drawn -/
def ChP (p : Addr) (H : Hp) (ch : V) : Option (List Int) → Prop
  | none => ch = .non
  | some ss => ss.length ≤ 20 ∧ ∃ q, ch = .ref q ∧ q ≠ p ∧ H q = some (.lst (ss.map V.int))
theorem ChP.ch {p : Addr} {H : Hp} {ch : V} {o : Option (List Int)} (h : ChP p H ch o) : ChA H ch o ∧ ∀ ss, o = some ss → ss.length ≤ 20 := by
  cases o with
  | none => exact ⟨h, fun ss e => nomatch e⟩
  | some ss =>
    obtain ⟨hl, q, rfl, _, hq⟩ := h
    exact ⟨⟨q, rfl, hq⟩, fun s e => by cases e; exact hl⟩
theorem ChP.keep {p : Addr} {H H' : Hp} {ch : V} {o : Option (List Int)} (h : ChP p H ch o) (k : Keep p H H') : ChP p H' ch o := by
  cases o with
  | none => exact h
  | some ss =>
    obtain ⟨hl, q, rfl, n, hq⟩ := h
    exact ⟨hl, q, rfl, n, k _ _ n hq⟩
theorem RowA.keep {p l : Addr} {H H' : Hp} {v : V} {st b : Str} {fs : Fs} (h : RowA H v l st fs b) (n : l ≠ p) (k : Keep p H H') (bg : Bg H p) : RowA H' v l st fs b := by
  obtain ⟨t, rfl, ht, hf⟩ := h
  have nt : t ≠ p := fun e => by
    obtain ⟨xs, hx⟩ := bg.has
    rw [e, hx] at ht; cases ht
  exact ⟨t, rfl, k _ _ nt ht, hf.keepB k bg n⟩
def spSz : Sp := fun vs H Q _ => ∃ (p : Addr) (v : V) (l : Addr) (st b : Str) (fs : Fs), vs = [.ref p, v] ∧ Bg H p ∧ RowA H v l st fs b ∧ l ≠ p ∧ b.length ≤ 1000 ∧ ∀ (q : Addr) (ss : List Int) H', q ≠ p → H' q = some (.lst (ss.map V.int)) → ss.length ≤ 20 → Bg H' p → Keep p H H' → Q (.ref q) H'
def spOp : Sp := fun vs H Q _ => ∃ (p : Addr) (v : V) (l : Addr) (st b : Str) (fs : Fs), vs = [.ref p, v] ∧ Bg H p ∧ RowA H v l st fs b ∧ l ≠ p ∧ b.length ≤ 1000 ∧ st.length ≤ 100 ∧ fs.length ≤ 40 ∧ ∀ (q : Addr) (ch : V) (o : Option (List Int)) (tr : Int) (oe : Bool) H', q ≠ p → H' q = some (.lst [ch, .int tr, .bl oe]) → ChP p H' ch o → Bg H' p → Keep p H H' → Q (.ref q) H'
section
variable {P : Program} {w : World} {K : PySem.W.Frag} {mg : Str → Option Value} {base : Heap} {f RQ RS : Addr} {fd : FuncData} {k : Nat}
theorem ok_law_sizes (T : Mg mg) (c_law_draw : CDr P w K mg base) (c_law_pick : CPk P w K mg base) (F : FnP K "_law_sizes" s_law_sizes f fd) (gm : mg "_law_sizes" = some (.ref f)) : Call P w K mg base 3 "_law_sizes" ["bag", "row"] spSz := by
  refine mk F gm (fun _ _ _ _ _ _ us hl => match us, hl with | [_, _], _ => rfl) (fun _ _ _ _ _ _ us hl => match us, hl with | [_, _], _ => rfl) sc_law_sizes (fun vs H Q E h => ?_) (fun cdv A outer s H vs Q E hr h => ?_)
  · obtain ⟨p, v, l, st, b, fs, rfl, _⟩ := h
    rfl
  · obtain ⟨p, v, l, st, b, fs, rfl, bg, hrow, nlp, hbl, q⟩ := h
    refine ⟨_, (pss_cons (ps_setLc (i := 2) (own := [("k", 3)]) (g := gName 3) (tt := tYes) rfl sc_law_sizes.nd rfl rfl (sw_true rfl rfl rfl (by decide +kernel)) (pi_range1 rfl T.range (pa_cons (pe_f c_law_pick hr (by decide) rfl (pa_cons (pv 0) (pa_cons (pe_lst (pa_cons pe_int (pa_cons pe_int (pa_cons pe_int (pa_cons pe_int (pa_cons pe_int (pa_cons pe_int pa_nil))))))) pa_nil))) pa_nil)) (blkOk_by (N := ["bag", "row", "sizes", "k", "at"]) (sc := L2.defScope s_law_sizes) (by decide +kernel)) (fun _ _ _ _ _ => pg_name (i := 3) sc_law_sizes.nd rfl (Or.inl rfl)) (fun _ _ _ _ _ => pts_nil) (fun _ _ _ _ _ => (pe_op op_add pe_int (pe_f c_law_draw hr (by decide) rfl (pa_cons (pv 0) (pa_cons pe_int pa_nil))))))
    (pss_cons (ps_if (pt_cmpR op_eq (pe_f c_law_draw hr (by decide) rfl (pa_cons (pv 0) (pa_cons pe_int pa_nil))) pe_int (nomark _))
      (pss_cons (ps_set (i := 4) sc_law_sizes.nd rfl (Or.inl rfl) (pe_f c_law_draw hr (by decide) rfl (pa_cons (pv 0) (pa_cons (pe_op op_add (pe_callB call_len_seq (by rfl) T.len (by decide +kernel) (pa_cons (pv 2) pa_nil)) pe_int) pa_nil))))
      (pss_one (ps_expr (pe_bm PySem.F.plainAttrs_list PySem.F.slot_list_insert PySem.F.type_list_insert mt_insert (pv 2) (pa_cons (pv 4) (pa_cons (pe_f c_law_pick hr (by decide) rfl (pa_cons (pv 0) (pa_cons (pe_lst (pa_cons pe_int (pa_cons (pe_un un_neg pe_int) (pa_cons (pe_callB cz_len (by rfl) T.len (by decide +kernel) (pa_cons (pe_ix ix_tup (pv 1) pe_int (fun _ _ => rfl)) pa_nil)) (pa_cons (pe_op op_add (pe_callB cz_len (by rfl) T.len (by decide +kernel) (pa_cons (pe_ix ix_tup (pv 1) pe_int (fun _ _ => rfl)) pa_nil)) pe_int) (pa_cons pe_int (pa_cons pe_int pa_nil))))))) pa_nil))) pa_nil))))))
      pss_nil)
    (pss_one (ps_ret (pv 2))))), ?_⟩
    refine q_asgR (rd_pk (Q := fun v H => _) (xs := [1, 0, 2, 3, 4, 5].map V.int) (ev_var rfl) (el_lst (ea_cons ev_c (ea_cons ev_c (ea_cons ev_c (ea_cons ev_c (ea_cons ev_c (ea_cons ev_c ea_nil)))))) (by decide)) bg (by decide) (by decide) fun v1 H1 hv b1 k1 => ?_)
    obtain ⟨c0, rfl, hc0⟩ := ints_in hv
    have hc3 : 0 ≤ c0 ∧ c0 ≤ 5 := by
      simp only [List.mem_cons, List.not_mem_nil, or_false] at hc0
      omega
    refine ⟨c0, rfl, by omega, by omega, fun D hD => ?_⟩
    refine lc_bg (α := Int) (fun _ v i => v = .int i) (fun _ => True) (fun _ _ _ _ h _ => h) hD b1 (by omega) (fun _ => rfl) (fun i H2 hi b2 k2 kk hk => ?_) (fun H2 ys xs hd hr hl _ b2 k2 => ?_)
    · exact rd_dr (Q := fun v H => _) (ea_cons (ev_var rfl) (ea_cons ev_c ea_nil)) b2 (by decide) (by decide) fun d H3 d0 d1 b3 k3 => ⟨1, d, rfl, rfl, hk _ (1 + d) H3 rfl trivial b3 k3⟩
    · have hys : ys = xs.map V.int := by
        refine List.ext_getElem (by rw [hr.1, List.length_map]) fun i h1 h2 => ?_
        rw [List.getElem_map]
        rw [List.length_map] at h2
        exact hr.2 i _ _ (List.getElem?_eq_getElem h1) (List.getElem?_eq_getElem h2)
      rw [hys] at hd
      have hDp : D ≠ p := b1.ne hD
      have hD0 : H D = none := b1.free k1 hD
      have k02 := k1.trans k2
      have hxl : xs.length ≤ 5 := by omega
      refine q_tailIf (fun σ1 Hx => ∃ (w1 w2 : Option V) (zs : List Int), σ1 = [some (.ref p), some v, some (.ref D), w1, w2] ∧ zs.length ≤ 20 ∧ Hx D = some (.lst (zs.map V.int)) ∧ Bg Hx p ∧ Keep p H Hx) (fun σ1 H3 hR => ?_) (fun tail => ?_)
      · obtain ⟨w1, w2, zs, rfl, hz, h3, b3, k3⟩ := hR
        exact s_ret (ev_var rfl) fun H4 e4 => q D zs H4 hDp (e4 _ _ h3) hz (b3.ex e4) (k3.trans (Keep.of e4))
      · refine rd_dr (Q := fun v H => _) (ea_cons (ev_var rfl) (ea_cons ev_c ea_nil)) b2 (by decide) (by decide) fun d H3 d0 d1 b3 k3 => ?_
        have h3 := k3 _ _ hDp hd
        have k03 := k02.trans k3
        refine ⟨rfl, _, rfl, ite2 (fun _ => ?_) (fun _ => tail _ _ ⟨_, _, xs, rfl, by omega, h3, b3, k03⟩)⟩
        refine q_asgR (rd_dr (Q := fun v H => _) (ea_cons (ev_var rfl) (ea_cons (ev_op (ev_len (ev_var rfl) (sq_of h3)) ev_c rv_I0) ea_nil)) b3 (by omega) (by rw [List.length_map]; omega) fun at_ H4 a0 a1 b4 k4 => ?_)
        rw [List.length_map] at a1
        have h4 := k4 _ _ hDp h3
        have k04 := k03.trans k4
        have hrow4 := hrow.keep nlp k04 bg
        obtain ⟨t, rfl, ht4, hf4⟩ := hrow4
        have it : ∀ {σ : L2.St} {H' : Hp} (j : Nat) {y : V}, Ex H4 H' → σ[1]? = some (some (.ref t)) → [V.str st, .ref l, .str b][j]? = some y → Ev (tOp (rIxT K) (tVar 1) (tC (.int (j : Int)))) σ H' y := fun j y e h0 hv => ev_ixT (ev_var h0) ev_c (e _ _ ht4) (atI_nat hv)
        refine ⟨_, rfl, Or.inl ⟨rfl, _, sq_of h4⟩, .int at_, rfl, ?_⟩
        refine rd_pk (Q := fun v H => _) (xs := [0, -1, (b.length : Int), (b.length : Int) + 1, 100000, 60].map V.int) (ev_var rfl) (el_lst (ea_cons ev_c (ea_cons (ev_un ev_c ru_neg) (ea_cons (ev_lenStr (it 2 (Ex.refl _) rfl rfl) (by omega)) (ea_cons (ev_op (ev_lenStr (it 2 (Ex.refl _) rfl rfl) (by omega)) ev_c rv_I0) (ea_cons ev_c (ea_cons ev_c ea_nil)))))) (by show 6 ≤ 100000; decide)) b4 (by show 1 ≤ 6; decide) (by show 6 ≤ 1000; decide) fun y H5 hy b5 k5 => ?_
        obtain ⟨j, rfl, _⟩ := ints_in hy
        have h5 := k5 _ _ hDp h4
        refine ⟨D, xs.map V.int, at_, .int j, rfl, rfl, h5, Nat.lt_of_lt_of_le (show (xs.map V.int).length < 100000 by rw [List.length_map]; omega) (by decide), a0, Int.lt_of_lt_of_le (show at_ < 100 by omega) (by decide), ?_⟩
        refine tail _ _ ⟨_, _, xs.take at_.toNat ++ [j] ++ xs.drop at_.toNat, rfl, ?_, ?_, b5.upd hDp, (k04.trans k5).mut hD0⟩
        · rw [List.length_append, List.length_append, List.length_take, List.length_drop]
          show _ + 1 + _ ≤ 20
          omega
        · rw [upd_same, List.map_append, List.map_append, List.map_take, List.map_drop]
          rfl
end
end Z
set_option maxHeartbeats 4000000
namespace Z
open PySem PySem.Spec PyProof.Rows L2 TL Evl NdefX
section
variable {P : Program} {w : World} {K : PySem.W.Frag} {mg : Str → Option Value} {base : Heap} {f RQ RS : Addr} {fd : FuncData} {k : Nat}
theorem ok_law_options (T : Mg mg) (c_law_draw : CDr P w K mg base) (c_law_pick : CPk P w K mg base) (c_law_sizes : Call P w K mg base 3 "_law_sizes" ["bag", "row"] spSz) (c_law_may : Call P w K mg base 1 "_law_may" ["start"] spMy) (F : FnP K "_law_options" s_law_options f fd) (gm : mg "_law_options" = some (.ref f)) : Call P w K mg base 4 "_law_options" ["bag", "row"] spOp := by
  refine mk F gm (fun _ _ _ _ _ _ us hl => match us, hl with | [_, _], _ => rfl) (fun _ _ _ _ _ _ us hl => match us, hl with | [_, _], _ => rfl) sc_law_options (fun vs H Q E h => ?_) (fun cdv A outer s H vs Q E hr h => ?_)
  · obtain ⟨p, v, l, st, b, fs, rfl, _⟩ := h
    rfl
  · obtain ⟨p, v, l, st, b, fs, rfl, bg, hrow, nlp, hbl, hst, hfl, q⟩ := h
    refine ⟨_, (pss_cons (ps_set (i := 2) sc_law_options.nd rfl (Or.inl rfl) (pe_f c_law_draw hr (by decide) rfl (pa_cons (pv 0) (pa_cons pe_int pa_nil))))
    (pss_cons (ps_set (i := 3) sc_law_options.nd rfl (Or.inl rfl) pe_non)
    (pss_cons (ps_if (PW.pt (pw_or (pt_cmpR op_eq (pv 2) pe_int (nomark _)) (pw_or1 (pt_cmpR op_eq (pv 2) pe_int (nomark _)))))
      (pss_one (ps_set (i := 3) sc_law_options.nd rfl (Or.inl rfl) (pe_f c_law_sizes hr (by decide) rfl (pa_cons (pv 0) (pa_cons (pv 1) pa_nil)))))
      pss_nil)
    (pss_cons (ps_set (i := 4) sc_law_options.nd rfl (Or.inl rfl) pe_int)
    (pss_cons (ps_if (pt_cmpR op_ne (pv 2) pe_int (nomark _))
      (pss_one (ps_set (i := 4) sc_law_options.nd rfl (Or.inl rfl) (pe_f c_law_draw hr (by decide) rfl (pa_cons (pv 0) (pa_cons (pe_op op_add (pe_callB call_len_seq (by rfl) T.len (by decide +kernel) (pa_cons (pe_ix ix_tup (pv 1) pe_int (fun _ _ => rfl)) pa_nil)) pe_int) pa_nil)))))
      pss_nil)
    (pss_cons (ps_if (pt_cmpR op_eq (pe_f c_law_draw hr (by decide) rfl (pa_cons (pv 0) (pa_cons pe_int pa_nil))) pe_int (nomark _))
      (pss_one (ps_set (i := 4) sc_law_options.nd rfl (Or.inl rfl) (pe_f c_law_pick hr (by decide) rfl (pa_cons (pv 0) (pa_cons (pe_lst (pa_cons (pe_un un_neg pe_int) (pa_cons (pe_op op_add (pe_callB call_len_seq (by rfl) T.len (by decide +kernel) (pa_cons (pe_ix ix_tup (pv 1) pe_int (fun _ _ => rfl)) pa_nil)) pe_int) (pa_cons pe_int pa_nil)))) pa_nil)))))
      pss_nil)
    (pss_cons (ps_set (i := 5) sc_law_options.nd rfl (Or.inl rfl) (pe_and (pe_cmpR op_eq (pv 2) pe_int (nomark _)) (pe_one (pe_cmpR op_eq (pe_f c_law_draw hr (by decide) rfl (pa_cons (pv 0) (pa_cons pe_int pa_nil))) pe_int (nomark _)))))
    (pss_cons (ps_if (pt_cmpR op_eq (pe_f c_law_draw hr (by decide) rfl (pa_cons (pv 0) (pa_cons pe_int pa_nil))) pe_int (nomark _))
      (pss_one (ps_set (i := 5) sc_law_options.nd rfl (Or.inl rfl) (pe_not (pv 5))))
      pss_nil)
    (pss_cons (ps_if (PW.pt (pw_and (pt_cmpR op_eq (pe_f c_law_draw hr (by decide) rfl (pa_cons (pv 0) (pa_cons pe_int pa_nil))) pe_int (nomark _)) (pw_and1 (pt_not (pt_val (pe_f c_law_may hr (by decide) rfl (pa_cons (pe_ix ix_tup (pv 1) pe_int (fun _ _ => rfl)) pa_nil)))))))
      (pss_cons (ps_set (i := 3) sc_law_options.nd rfl (Or.inl rfl) pe_non)
      (pss_one (ps_set (i := 4) sc_law_options.nd rfl (Or.inl rfl) pe_int)))
      pss_nil)
    (pss_one (ps_ret (pe_lst (pa_cons (pv 3) (pa_cons (pv 4) (pa_cons (pv 5) pa_nil))))))))))))))), ?_⟩
    obtain ⟨t, rfl, ht, hf⟩ := id hrow
    have nt : t ≠ p := fun e => by
      obtain ⟨xs, hx⟩ := bg.has
      rw [e, hx] at ht; cases ht
    have it : ∀ {σ : L2.St} {H' : Hp} (j : Nat) {y : V}, Keep p H H' → σ[1]? = some (some (.ref t)) → [V.str st, .ref l, .str b][j]? = some y → Ev (tOp (rIxT K) (tVar 1) (tC (.int (j : Int)))) σ H' y := fun j y e h0 hv => ev_ixT (ev_var h0) ev_c (e _ _ nt ht) (atI_nat hv)
    have lenF : ∀ {σ : L2.St} {H' : Hp}, Keep p H H' → Bg H' p → σ[1]? = some (some (.ref t)) → Ev (tCB (rLenS K) (tCons (tOp (rIxT K) (tVar 1) (tC (.int 1))) tNil)) σ H' (.int (fs.length : Int)) := fun kp bb h0 => by
      obtain ⟨fx, hfx, hfr⟩ := hf.keepB kp bg nlp
      have := ev_len (K := K) (it 1 kp h0 rfl) (sq_of hfx)
      rw [hfr.1] at this
      exact this
    refine q_asgR (rd_dr (Q := fun v H => _) (ea_cons (ev_var rfl) (ea_cons ev_c ea_nil)) bg (by decide) (by decide) fun way H1 w0 w1 b1 k1 => ?_)
    refine q_asg ev_c fun H2 e2 => ?_
    have b2 := b1.ex e2
    have k2 := k1.trans (Keep.of e2)
    refine q_tailIf (fun σ1 Hx => ∃ (ch : V) (o : Option (List Int)), σ1 = [some (.ref p), some (.ref t), some (.int way), some ch, none, none] ∧ Bg Hx p ∧ Keep p H Hx ∧ ChP p Hx ch o) (fun σ1 H3 hR => ?_) (fun tail => ?_)
    · obtain ⟨ch, o, rfl, b3, k3, hch⟩ := hR
      refine q_asg ev_c fun H4 e4 => ?_
      have b4 := b3.ex e4
      have k4 := k3.trans (Keep.of e4)
      have hch4 := hch.keep (Keep.of e4)
      refine q_tailIf (fun σ1 Hx => ∃ tr : Int, σ1 = [some (.ref p), some (.ref t), some (.int way), some ch, some (.int tr), none] ∧ Bg Hx p ∧ Keep p H Hx ∧ ChP p Hx ch o) (fun σ1 H5 hR => ?_) (fun tail => ?_)
      · obtain ⟨tr, rfl, b5, k5, hch5⟩ := hR
        refine q_tailIf (fun σ1 Hx => ∃ tr : Int, σ1 = [some (.ref p), some (.ref t), some (.int way), some ch, some (.int tr), none] ∧ Bg Hx p ∧ Keep p H Hx ∧ ChP p Hx ch o) (fun σ1 H6 hR => ?_) (fun tail => ?_)
        · obtain ⟨tr, rfl, b6, k6, hch6⟩ := hR
          refine q_tail (fun σ1 Hx => ∃ oe : Bool, σ1 = [some (.ref p), some (.ref t), some (.int way), some ch, some (.int tr), some (.bl oe)] ∧ Bg Hx p ∧ Keep p H Hx ∧ ChP p Hx ch o) (fun σ1 H7 hR => ?_) (fun tail => ?_)
          · obtain ⟨oe, rfl, b7, k7, hch7⟩ := hR
            refine q_tailIf (fun σ1 Hx => ∃ oe : Bool, σ1 = [some (.ref p), some (.ref t), some (.int way), some ch, some (.int tr), some (.bl oe)] ∧ Bg Hx p ∧ Keep p H Hx ∧ ChP p Hx ch o) (fun σ1 H8 hR => ?_) (fun tail => ?_)
            · obtain ⟨oe, rfl, b8, k8, hch8⟩ := hR
              refine q_tailIf (fun σ1 Hx => ∃ (ch : V) (o : Option (List Int)) (tr : Int), σ1 = [some (.ref p), some (.ref t), some (.int way), some ch, some (.int tr), some (.bl oe)] ∧ Bg Hx p ∧ Keep p H Hx ∧ ChP p Hx ch o) (fun σ1 H9 hR => ?_) (fun tail => ?_)
              · obtain ⟨ch, o, tr, rfl, b9, k9, hch9⟩ := hR
                refine s_retL (el_lst (ea_cons (ev_var rfl) (ea_cons (ev_var rfl) (ea_cons (ev_var rfl) ea_nil))) (by show 3 ≤ 100000; decide)) fun r H10 nr e10 hr10 => ?_
                exact q r ch o tr oe H10 (b9.ne nr) hr10 (hch9.keep (Keep.of e10)) (b9.ex e10) (k9.trans (Keep.of e10))
              · refine rd_dr (Q := fun v H => _) (ea_cons (ev_var rfl) (ea_cons ev_c ea_nil)) b8 (by decide) (by decide) fun d H9 d0 d1 b9 k9 => ?_
                have k09 := k8.trans k9
                have hch9 := hch8.keep k9
                refine ⟨rfl, _, rfl, ite2 (fun _ => ?_) (fun _ => ?_)⟩
                · refine (et_not (et_B (ev_call (ea_cons (it 0 k09 rfl rfl) ea_nil) (fun H1 e1 Q' q' E' => ⟨st, rfl, hst, q'⟩)))) H9 (Ex.refl H9) _ fun H10 e10 => ?_
                  have b10 := b9.ex e10
                  have k10 := k09.trans (Keep.of e10)
                  have hch10 := hch9.keep (Keep.of e10)
                  refine ite2 (fun _ => ?_) (fun _ => tail _ _ ⟨ch, o, tr, rfl, b10, k10, hch10⟩)
                  refine q_asg ev_c fun H11 e11 => s_asg ev_c fun H12 e12 => tail _ _ ⟨.non, none, 0, rfl, b10.ex (e11.trans e12), k10.trans (Keep.of (e11.trans e12)), rfl⟩
                · exact iteF (tail _ _ ⟨ch, o, tr, rfl, b9, k09, hch9⟩)
            · refine rd_dr (Q := fun v H => _) (ea_cons (ev_var rfl) (ea_cons ev_c ea_nil)) b7 (by decide) (by decide) fun d H8 d0 d1 b8 k8 => ?_
              have k08 := k7.trans k8
              have hch8 := hch7.keep k8
              refine ⟨rfl, _, rfl, ite2 (fun _ => ?_) (fun _ => tail _ _ ⟨oe, rfl, b8, k08, hch8⟩)⟩
              exact s_asg (ev_notV (ev_var rfl)) fun H9 e9 => tail _ _ ⟨!oe, rfl, b8.ex e9, k08.trans (Keep.of e9), hch8.keep (Keep.of e9)⟩
          · refine q_asgR ((ev_op (ev_var rfl) ev_c rv_eqI : Ev _ _ _ (.bl (decide (way = 1)))) H6 (Ex.refl H6) _ fun H7 e7 => ⟨_, rfl, ite2 (fun _ => ?_) (fun _ => tail _ _ ⟨false, rfl, b6.ex e7, k6.trans (Keep.of e7), hch6.keep (Keep.of e7)⟩)⟩)
            refine rd_dr (Q := fun v H => _) (ea_cons (ev_var rfl) (ea_cons ev_c ea_nil)) (b6.ex e7) (by decide) (by decide) fun d H8 d0 d1 b8 k8 => ?_
            have k08 := (k6.trans (Keep.of e7)).trans k8
            have hch8 := (hch6.keep (Keep.of e7)).keep k8
            refine ev_c H8 (Ex.refl H8) _ fun H8a e8a => rv_eqI H8a (Ex.refl H8a) _ fun H9 e9b => ?_
            have e9 := e8a.trans e9b
            exact tail _ _ ⟨_, rfl, b8.ex e9, k08.trans (Keep.of e9), hch8.keep (Keep.of e9)⟩
        · refine rd_dr (Q := fun v H => _) (ea_cons (ev_var rfl) (ea_cons ev_c ea_nil)) b5 (by decide) (by decide) fun d H6 d0 d1 b6 k6 => ?_
          have k06 := k5.trans k6
          have hch6 := hch5.keep k6
          refine ⟨rfl, _, rfl, ite2 (fun _ => ?_) (fun _ => tail _ _ ⟨tr, rfl, b6, k06, hch6⟩)⟩
          refine s_asgR (rd_pk (Q := fun v H => _) (xs := [-1, (fs.length : Int) + 1, 1].map V.int) (ev_var rfl) (el_lst (ea_cons (ev_un ev_c ru_neg) (ea_cons (ev_op (lenF k06 b6 rfl) ev_c rv_I0) (ea_cons ev_c ea_nil))) (by show 3 ≤ 100000; decide)) b6 (by show 1 ≤ 3; decide) (by show 3 ≤ 1000; decide) fun y H7 hy b7 k7 => ?_)
          obtain ⟨j, rfl, _⟩ := ints_in hy
          exact tail _ _ ⟨j, rfl, b7, k06.trans k7, hch6.keep k7⟩
      · refine q_if (et_test (ev_op (ev_var rfl) ev_c rv_neI)) (fun hb H5 e5 => ?_) (fun hb H5 e5 => tail _ _ ⟨0, rfl, b4.ex e5, k4.trans (Keep.of e5), hch4.keep (Keep.of e5)⟩)
        have b5 := b4.ex e5
        have k5 := k4.trans (Keep.of e5)
        have hch5 := hch4.keep (Keep.of e5)
        refine s_asgR (rd_dr (Q := fun v H => _) (ea_cons (ev_var rfl) (ea_cons (ev_op (lenF k5 b5 rfl) ev_c rv_I0) ea_nil)) b5 (by omega) (by omega) fun d H6 d0 d1 b6 k6 => ?_)
        exact tail _ _ ⟨d, rfl, b6, k5.trans k6, hch5.keep k6⟩
    · refine q_if (et_or (et_test (ev_op (ev_var rfl) ev_c rv_eqI)) fun _ => et_test (ev_op (ev_var rfl) ev_c rv_eqI)) (fun hb H3 e3 => ?_) (fun hb H3 e3 => tail _ _ ⟨.non, none, rfl, b2.ex e3, k2.trans (Keep.of e3), rfl⟩)
      have b3 := b2.ex e3
      have k3 := k2.trans (Keep.of e3)
      refine s_asgR (rd_call (ea_cons (ev_var rfl) (ea_cons (ev_var rfl) ea_nil)) fun H4 e4 => ⟨p, .ref t, l, st, b, fs, rfl, b3.ex e4, hrow.keep nlp (k3.trans (Keep.of e4)) bg, nlp, hbl, fun r ss H5 nr hr5 hs b5 k5 => ?_⟩)
      exact tail _ _ ⟨.ref r, some ss, rfl, b5, (k3.trans (Keep.of e4)).trans k5, hs, r, rfl, nr, hr5⟩
end
end Z
set_option maxHeartbeats 2000000
namespace ZX
open PySem PySem.Spec PyProof.Rows L2 He
/-! ### a def of the module called with keywords, errors told at the reading -/
section
variable {X : Cx} {CX : CXT} {k n : Nat} {f : Addr} {fd : FuncData} {ps ks : List Str} {sp : Sp} {E : L2.St → XK} {e : Expr} {es : List Expr} {kws : List Keyword} {x : Str} {p pos : Pos} {t tk : TA}
  {gg : List Value → List Value → List Value} {gV : List V → List V → List V}
def tFkE (n m : Nat) (sp : Sp) (gV : List V → List V → List V) (E : L2.St → XK) (t tk : TA) : TE := fun σ H Q => t σ H fun vs H2 => tk σ H2 fun zs H3 => vs.length = n ∧ zs.length = m ∧ sp (gV vs zs) H3 Q (E σ)
theorem pe_fkE (F : FnOk X.prog X.w X.K X.mg X.base CX k f fd ps sp) (hr : Room k X.A) (hg : Gl X x) (hm : X.mg x = some (.ref f)) (hk : PySem.W.keepIn X.K (.ref f) = true) (hb : KBn X.K fd ps n ks gg gV) (hx : ∀ σ, PassesAt CX X σ (E σ)) (ha : PA X (e :: es) t) (hkw : PK X kws tk)
    (hall : (backToKw pos (keywordEach kws X.env)).all (·.1.isSome) = true := by rfl) (hks : (backToKw pos (keywordEach kws X.env)).filterMap (·.1) = ks := by rfl)
    (hdb : (x == ("__debug__" : Str)) = false := by decide)
    (hst : starEach (e :: es) X.env = (false, eval e X.env) :: starEach es X.env := by rfl)
    (hpl : ((backTo pos (starEach (e :: es) X.env)).any (·.1) || (backToKw pos (keywordEach kws X.env)).any (·.1.isNone)) = false := by rfl) :
    PE X (.Call (.Name x p) (e :: es) kws pos) (tFkE n ks.length sp gV E t tk) := by
  refine ⟨fun pins s σ H Q I h => ?_⟩
  refine wpAny_Call_Name_kw (ld_glob I hg hm (PySem.W.callWith_KW (h₀ := X.base) I.ok.mod.kin hk hall (thn (ha.run pos pins _ σ H _ I h) fun us s2 ⟨vs, H2, I3, r, q2⟩ => ?_) hpl hst) hdb)
  refine thn (hkw.run pos pins s2 σ H2 _ I3 q2) fun ws s3 ⟨zs, H3, I4, rz, l1, l2, q3⟩ => ⟨I4.kIn, ?_⟩
  rw [hks]
  exact run_fnKS F hr hb (hx σ) I4 r rz l1 l2 q3
theorem pe_fkE0 (F : FnOk X.prog X.w X.K X.mg X.base CX k f fd ps sp) (hr : Room k X.A) (hg : Gl X x) (hm : X.mg x = some (.ref f)) (hk : PySem.W.keepIn X.K (.ref f) = true) (hb : KBn X.K fd ps 0 ks gg gV) (hx : ∀ σ, PassesAt CX X σ (E σ)) (hkw : PK X kws tk)
    (hall : (backToKw pos (keywordEach kws X.env)).all (·.1.isSome) = true := by rfl) (hks : (backToKw pos (keywordEach kws X.env)).filterMap (·.1) = ks := by rfl)
    (hdb : (x == ("__debug__" : Str)) = false := by decide)
    (hpl : ((backTo pos (starEach [] X.env)).any (·.1) || (backToKw pos (keywordEach kws X.env)).any (·.1.isNone)) = false := by rfl) :
    PE X (.Call (.Name x p) [] kws pos) (tFkE 0 ks.length sp gV E tNil tk) := by
  refine ⟨fun pins s σ H Q I h => ?_⟩
  refine wpAny_Call_Name_kw (ld_glob I hg hm (PySem.W.callWith_KW0 (h₀ := X.base) I.ok.mod.kin hk hall ?_ hpl) hdb)
  refine thn (hkw.run pos pins s σ H _ I h) fun ws s2 ⟨zs, H2, I2, rz, l1, l2, q2⟩ => ⟨I2.kIn, ?_⟩
  rw [hks]
  exact run_fnKS (us := []) (vs := []) F hr hb (hx σ) I2 .nil rz l1 l2 q2
end
end ZX
set_option maxHeartbeats 4000000
namespace Z
open PySem PySem.Spec PyProof.Rows L2 TL Evl NdefX
/-! ### write_message called in five ways -/
abbrev wmN : List Str := ["message", "chunks", "trailer", "open_end"]
section
variable {K : PySem.W.Frag} {f : Addr} {fd : FuncData}
abbrev FWm (K : PySem.W.Frag) (f : Addr) (fd : FuncData) : Prop := FunD K "write_message" "write_message" (L2.defArgs s_write_message) (L2.defBody s_write_message) (L2.defScope s_write_message) [] kwW f fd
theorem kb_A (F : FWm K f fd) : ∃ gg, KBn K fd wmN 1 [] gg (fun vs zs => vs ++ [.non, .int 0, .bl false]) := by
  obtain ⟨mv, h⟩ := ZX.kb0 (ps := wmN) F 1 [] [("chunks", .non), ("trailer", .int 0), ("open_end", .bl false)] (fun us mv ws => us ++ mv) (List.cons_ne_nil _ _) (fun q hq => hq) (fun r1 r2 r3 => r1.append r2)
    fun D doc pm an cdv ct us mv ws h1 h2 h3 => match us, mv, ws, h1, h2, h3 with | [_], [_, _, _], [], _, _, _ => ⟨_, _, _, _, _, _, rfl, rfl, ⟨_, _, _, _, _, _, rfl, rfl, ⟨_, _, _, _, _, _, rfl, rfl, rfl⟩⟩⟩
  exact ⟨_, h⟩
theorem kb_B (F : FWm K f fd) : ∃ gg, KBn K fd wmN 1 ["open_end"] gg (fun vs zs => vs ++ [.non, .int 0] ++ zs) := by
  obtain ⟨mv, h⟩ := ZX.kb0 (ps := wmN) F 1 ["open_end"] [("chunks", .non), ("trailer", .int 0)] (fun us mv ws => us ++ mv ++ ws) (List.cons_ne_nil _ _) (fun q hq => List.Sublist.subset (.cons₂ _ (.cons₂ _ (.cons _ .slnil))) hq) (fun r1 r2 r3 => (r1.append r2).append r3)
    fun D doc pm an cdv ct us mv ws h1 h2 h3 => match us, mv, ws, h1, h2, h3 with | [_], [_, _], [_], _, _, _ => ⟨_, _, _, _, _, _, rfl, rfl, ⟨_, _, _, _, _, _, rfl, rfl, rfl⟩⟩
  exact ⟨_, h⟩
theorem kb_C (F : FWm K f fd) : ∃ gg, KBn K fd wmN 1 ["chunks"] gg (fun vs zs => vs ++ zs ++ [.int 0, .bl false]) := by
  obtain ⟨mv, h⟩ := ZX.kb0 (ps := wmN) F 1 ["chunks"] [("trailer", .int 0), ("open_end", .bl false)] (fun us mv ws => us ++ ws ++ mv) (List.cons_ne_nil _ _) (fun q hq => List.Sublist.subset (.cons _ (.cons₂ _ (.cons₂ _ .slnil))) hq) (fun r1 r2 r3 => (r1.append r3).append r2)
    fun D doc pm an cdv ct us mv ws h1 h2 h3 => match us, mv, ws, h1, h2, h3 with | [_], [_, _], [_], _, _, _ => ⟨_, _, _, _, _, _, rfl, rfl, ⟨_, _, _, _, _, _, rfl, rfl, rfl⟩⟩
  exact ⟨_, h⟩
theorem kb_D (F : FWm K f fd) : ∃ gg, KBn K fd wmN 1 ["trailer", "chunks"] gg (fun vs zs => vs ++ zs.drop 1 ++ zs.take 1 ++ [.bl false]) := by
  obtain ⟨mv, h⟩ := ZX.kb0 (ps := wmN) F 1 ["trailer", "chunks"] [("open_end", .bl false)] (fun us mv ws => us ++ ws.drop 1 ++ ws.take 1 ++ mv) (List.cons_ne_nil _ _) (fun q hq => List.Sublist.subset (.cons _ (.cons _ (.cons₂ _ .slnil))) hq) (fun r1 r2 r3 => ((r1.append (r3.drop 1)).append (r3.take 1)).append r2)
    fun D doc pm an cdv ct us mv ws h1 h2 h3 => match us, mv, ws, h1, h2, h3 with | [_], [_], [_, _], _, _, _ => ⟨_, _, _, _, _, _, rfl, rfl, rfl⟩
  exact ⟨_, h⟩
theorem kb_E (F : FWm K f fd) : KBn K fd wmN 0 ["message", "open_end", "chunks", "trailer"] (fun us ws => us ++ ws.take 1 ++ ws.drop 2 ++ (ws.drop 1).take 1) (fun vs zs => vs ++ zs.take 1 ++ zs.drop 2 ++ (zs.drop 1).take 1) :=
  ZX.kbAll (ps := wmN) F 0 ["message", "open_end", "chunks", "trailer"] (fun us ws => us ++ ws.take 1 ++ ws.drop 2 ++ (ws.drop 1).take 1) (fun r1 r2 => ((r1.append (r2.take 1)).append (r2.drop 2)).append ((r2.drop 1).take 1)) fun dV kV doc pm an cdv ct us ws h1 h2 hd => by
    rw [hd rfl]
    exact match us, ws, h1, h2 with | [], [_, _, _, _], _, _ => by kernel_rfl
end
structure Wmf (P : Program) (w : World) (K : PySem.W.Frag) (mg : Str → Option Value) (base : Heap) (RQ RS DF : Addr) : Prop where
  ex : ∃ f fd gA gB gC gD gE, FnOk P w K mg base (L2N.CX P w) 4 f fd wmN (spWm RQ RS DF) ∧ mg "write_message" = some (.ref f) ∧ PySem.W.keepIn K (.ref f) = true ∧
    KBn K fd wmN 1 [] gA (fun vs zs => vs ++ [.non, .int 0, .bl false]) ∧ KBn K fd wmN 1 ["open_end"] gB (fun vs zs => vs ++ [.non, .int 0] ++ zs) ∧ KBn K fd wmN 1 ["chunks"] gC (fun vs zs => vs ++ zs ++ [.int 0, .bl false]) ∧
    KBn K fd wmN 1 ["trailer", "chunks"] gD (fun vs zs => vs ++ zs.drop 1 ++ zs.take 1 ++ [.bl false]) ∧ KBn K fd wmN 0 ["message", "open_end", "chunks", "trailer"] gE (fun vs zs => vs ++ zs.take 1 ++ zs.drop 2 ++ (zs.drop 1).take 1)
section
variable {K : PySem.W.Frag} {D a : Addr} {σ : L2.St} {H : Hp} {ta tc te : TE} {td : TA} {c v : V} {cv : Value} {b : Bool} {cs : List V} {ws : List Value}
theorem ev_isEN (x : ExcC K D) (h : Ev ta σ H (.ref a)) (hc : Ev tc σ H c) (hcv : ∀ u, RelV c u → u = cv) (k : PySem.W.kitOne K (.ref D) cv = some b) : Ev (tCB (ZX.rIsEN K a (.ref D) none) (tCons ta (tCons tc tNil))) σ H (.bl b) := fun H1 e Q q =>
  h H1 e _ fun H2 e2 => hc H2 (e.trans e2) _ fun H3 e3 => ⟨D, rfl, rfl, x, c, cv, b, rfl, hcv, k, q H3 (e2.trans e3)⟩
theorem ev_isET (x : ExcC K D) (h : Ev ta σ H (.ref a)) (hu : EvU te σ H cs) (pr : Paired ClsV cs ws) (k : PySem.W.kitAny K (.ref D) ws = some b) : Ev (tCB (ZX.rIsET K a (.ref D) none) (tCons ta (tCons te tNil))) σ H (.bl b) := fun H1 e Q q =>
  h H1 e _ fun H2 e2 => hu H2 (e.trans e2) _ fun tp H3 np e3 hp => ⟨D, tp, cs, ws, b, rfl, rfl, x, rfl, hp, pr, k, q H3 (e2.trans e3)⟩
end
theorem relT {u : Value} {n : String} (h : RelV (.ty n) u) : u = .type n := h
theorem relC {u : Value} {a : Addr} (h : RelV (.ref a) u) : u = .ref a := h
theorem kit3 {K : PySem.W.Frag} {t a b c : Value} (h1 : PySem.W.kitOne K t a = some false) (h2 : PySem.W.kitOne K t b = some false) (h3 : PySem.W.kitOne K t c = some false) : PySem.W.kitAny K t [a, b, c] = some false := by
  simp [PySem.W.kitAny, h1, h2, h3]
theorem inO {X : Cx} {K : PySem.W.Frag} {op : Value → Value → Sem Value} {r : PySem.W.Frag → R2} (same : X.K = K) (h : OpR X op (r X.K)) : OpR X op (r K) := same ▸ h
theorem shaped_opt (o : Option (List Int)) (tr : Int) (oe : Bool) : SeqAt.shaped (.list [oD o, .int tr, .bool oe]) = true := by
  obtain ⟨h1, h2⟩ := lay_o o
  have h3 : PyData.depth (.list [oD o, .int tr, .bool oe]) ≤ 64 := by
    simp only [PyData.depth, PyData.depthAll]
    omega
  show (PyData.canLay0 _ && decide (PyData.depth _ ≤ 64)) = true
  rw [decide_eq_true h3, Bool.and_true]
  simp [PyData.canLay0, PyData.canLayAll0, h1]
theorem opt_eq {o : Option (List Int)} {tr : Int} {oe : Bool} (h : PyData.eqv (.list [oD o, .int tr, .bool oe]) (.list [.none, .int 0, .bool false]) = true) : o = none ∧ tr = 0 ∧ oe = false := by
  cases o with
  | none =>
    simp only [oD, PyData.eqv, PyData.eqvAll, Bool.and_eq_true] at h
    cases oe <;> simp_all
  | some ss => simp [oD, PyData.eqv, PyData.eqvAll] at h

/-! ### what is told -/
def spTo (RQ RS : Addr) : Sp := fun vs H Q _ => ∃ v q way st b fs ch o tr oe, vs = [v, .ref q, .int way] ∧ MgO RQ RS H v st fs b ∧ H q = some (.lst [ch, .int tr, .bl oe]) ∧ ChA H ch o ∧ (∀ ss, o = some ss → ss.length ≤ 20) ∧ areB fs = true ∧ st.length ≤ 100 ∧ b.length ≤ 1000 ∧
  ∀ r H', Ex H H' → H' r = some (.lst [if frB st fs o tr oe = true then .str (wrM st fs b o tr oe) else .non, .bl true]) → Q (.ref r) H'
section
variable {P : Program} {w : World} {K : PySem.W.Frag} {mg : Str → Option Value} {base : Heap} {f RQ RS DF DH DM DV DR : Addr} {fd : FuncData} {k : Nat}
theorem ok_law_told (T : Mg mg) (WV : We K mg DF DH DM DV DR) (WM : Wmf P w K mg base RQ RS DF) (F : FnP K "_law_told" s_law_told f fd) (gm : mg "_law_told" = some (.ref f)) : Call P w K mg base 5 "_law_told" ["message", "options", "way"] (spTo RQ RS) := by
  obtain ⟨fW, dW, gA, gB, gC, gD, gE, FW, gW, kW, kA, kB, kC, kD, kE⟩ := WM.ex
  refine mk F gm (fun _ _ _ _ _ _ us hl => match us, hl with | [_, _, _], _ => rfl) (fun _ _ _ _ _ _ us hl => match us, hl with | [_, _, _], _ => rfl) sc_law_told (fun vs H Q E h => ?_) (fun cdv A outer s H vs Q E hr h => ?_)
  · obtain ⟨v, q, way, st, b, fs, ch, o, tr, oe, rfl, _⟩ := h
    rfl
  · obtain ⟨v, l, way, st, b, fs, ch, o, tr, oe, rfl, hm, hl, hch, ho, hok, hst, hbl, q⟩ := h
    refine ⟨_, (pss_cons (ps_set (i := 3) sc_law_told.nd rfl (Or.inl rfl) pe_non)
    (pss_cons (ps_if (pt_cmpR op_notN1 (pe_ix ix_list (pv 1) pe_int (fun _ _ => rfl)) pe_non (nomark _))
      (pss_one (ps_set (i := 3) sc_law_told.nd rfl (Or.inl rfl) (pe_callTy call_list_of (by rfl) T.list (by decide +kernel) (pa_cons (pe_ix ix_list (pv 1) pe_int (fun _ _ => rfl)) pa_nil))))
      pss_nil)
    (pss_cons (ZX.ps_try_fst (i := 5) rfl rfl sc_law_told.nd rfl rfl ⟨rfl, by decide, .inl WV.mF⟩ (fun W' pn xe tk po => (pss_one (ps_if (PW.pt (pw_and (pt_cmpR op_eq (pv 2) pe_int (nomark _)) (pw_and1 (pt_cmpR (inO (K := K) (r := fun K => rEqD K) rfl (op_eqD hr.units)) (pv 1) (pe_lst (pa_cons pe_non (pa_cons pe_int (pa_cons pe_bl pa_nil)))) (nomark _)))))
        (pss_one (ps_set (i := 4) sc_law_told.nd rfl (Or.inl rfl) (ZX.pe_fkE (E := WE W') FW (hr.mono (by decide)) rfl gW kW kA (fun σ => L2N.passAt tk σ) (pa_cons (pv 0) pa_nil) pk_nil)))
        (pss_one (ps_if (PW.pt (pw_and (pt_cmpR op_eq (pv 2) pe_int (nomark _)) (pw_and (pt_cmpR op_isN1 (inK (K := K) (t := fun K => tOp (rIxL K) _ _) rfl (pe_ix ix_list (pv 1) pe_int (fun _ _ => rfl))) pe_non (nomark _)) (pw_and1 (pt_cmpR op_eq (inK (K := K) (t := fun K => tOp (rIxL K) _ _) rfl (pe_ix ix_list (pv 1) pe_int (fun _ _ => rfl))) pe_int (nomark _))))))
          (pss_one (ps_set (i := 4) sc_law_told.nd rfl (Or.inl rfl) (ZX.pe_fkE (E := WE W') FW (hr.mono (by decide)) rfl gW kW kB (fun σ => L2N.passAt tk σ) (pa_cons (pv 0) pa_nil) (pk_cons (inK (K := K) (t := fun K => tOp (rIxL K) _ _) rfl (pe_ix ix_list (pv 1) pe_int (fun _ _ => rfl))) pk_nil))))
          (pss_one (ps_if (PW.pt (pw_and (pt_cmpR op_eq (pv 2) pe_int (nomark _)) (pw_and (pt_cmpR op_eq (inK (K := K) (t := fun K => tOp (rIxL K) _ _) rfl (pe_ix ix_list (pv 1) pe_int (fun _ _ => rfl))) pe_int (nomark _)) (pw_and1 (pt_not (pt_val (inK (K := K) (t := fun K => tOp (rIxL K) _ _) rfl (pe_ix ix_list (pv 1) pe_int (fun _ _ => rfl)))))))))
            (pss_one (ps_set (i := 4) sc_law_told.nd rfl (Or.inl rfl) (ZX.pe_fkE (E := WE W') FW (hr.mono (by decide)) rfl gW kW kC (fun σ => L2N.passAt tk σ) (pa_cons (pv 0) pa_nil) (pk_cons (pv 3) pk_nil))))
            (pss_one (ps_if (PW.pt (pw_and (pt_cmpR op_eq (pv 2) pe_int (nomark _)) (pw_and1 (pt_not (pt_val (inK (K := K) (t := fun K => tOp (rIxL K) _ _) rfl (pe_ix ix_list (pv 1) pe_int (fun _ _ => rfl))))))))
              (pss_one (ps_set (i := 4) sc_law_told.nd rfl (Or.inl rfl) (ZX.pe_fkE (E := WE W') FW (hr.mono (by decide)) rfl gW kW kD (fun σ => L2N.passAt tk σ) (pa_cons (pv 0) pa_nil) (pk_cons (inK (K := K) (t := fun K => tOp (rIxL K) _ _) rfl (pe_ix ix_list (pv 1) pe_int (fun _ _ => rfl))) (pk_cons (pv 3) pk_nil)))))
              (pss_one (ps_set (i := 4) sc_law_told.nd rfl (Or.inl rfl) (ZX.pe_fkE0 (E := WE W') FW (hr.mono (by decide)) rfl gW kW kE (fun σ => L2N.passAt tk σ) (pk_cons (pv 0) (pk_cons (inK (K := K) (t := fun K => tOp (rIxL K) _ _) rfl (pe_ix ix_list (pv 1) pe_int (fun _ _ => rfl))) (pk_cons (pv 3) (pk_cons (inK (K := K) (t := fun K => tOp (rIxL K) _ _) rfl (pe_ix ix_list (pv 1) pe_int (fun _ _ => rfl))) pk_nil))))))))))))))))
    (fun a oe cls d pn hz hf => (pss_cons (ps_set (i := 6) sc_law_told.nd rfl (Or.inl rfl) (pe_and (pe_callB (ZX.call_isEN hz.zc hf) (by rfl) T.isinstance (by decide +kernel) (pa_cons (pv 5) (pa_cons (pe_gc (v := .ref DH) rfl ⟨_, WV.mH, rfl⟩) pa_nil))) (pe_one (pe_callB (ZX.call_isEN hz.zc hf) (by rfl) T.isinstance (by decide +kernel) (pa_cons (pv 5) (pa_cons (pe_bltn (v := .ty "ValueError") (u := .type "ValueError") (by rfl) T.ValueError (by decide +kernel) rfl) pa_nil))))))
      (pss_cons (ps_if (PW.pt (pw_or (pt_not (pt_val (pv 6))) (pw_or1 (pt_val (pe_callB (ZX.call_isET hz.zc hf) (by rfl) T.isinstance (by decide +kernel) (pa_cons (pv 5) (pa_cons (pe_tup (pa_cons (pe_gc (v := .ref DM) rfl ⟨_, WV.mM, rfl⟩) (pa_cons (pe_gc (v := .ref DV) rfl ⟨_, WV.mV, rfl⟩) (pa_cons (pe_gc (v := .ref DR) rfl ⟨_, WV.mR, rfl⟩) pa_nil)))) pa_nil)))))))
        (pss_one (ps_ret (pe_lst (pa_cons pe_str (pa_cons (pe_cmpR (inO (K := K) (r := fun K => rEqD K) rfl (op_eqD hr.units)) (pv 3) (inK (K := K) (t := fun K => tOp (rIxL K) _ _) rfl (pe_ix ix_list (pv 1) pe_int (fun _ _ => rfl))) (nomark _)) pa_nil)))))
        pss_nil)
      (pss_one (ps_ret (pe_lst (pa_cons pe_non (pa_cons (pe_cmpR (inO (K := K) (r := fun K => rEqD K) rfl (op_eqD hr.units)) (pv 3) (inK (K := K) (t := fun K => tOp (rIxL K) _ _) rfl (pe_ix ix_list (pv 1) pe_int (fun _ _ => rfl))) (nomark _)) pa_nil)))))))))
    (pss_cons (ps_if (pt_not (pt_val (pe_callB call_isi (by rfl) T.isinstance (by decide +kernel) (pa_cons (pv 4) (pa_cons (pe_bltn (v := .ty "str") (u := .type "str") (by rfl) T.str (by decide +kernel) rfl) pa_nil)))))
      (pss_one (ps_ret (pe_lst (pa_cons pe_str (pa_cons (pe_cmpR (inO (K := K) (r := fun K => rEqD K) rfl (op_eqD hr.units)) (pv 3) (pe_ix ix_list (pv 1) pe_int (fun _ _ => rfl)) (nomark _)) pa_nil)))))
      pss_nil)
    (pss_one (ps_ret (pe_lst (pa_cons (pv 4) (pa_cons (pe_cmpR (inO (K := K) (r := fun K => rEqD K) rfl (op_eqD hr.units)) (pv 3) (pe_ix ix_list (pv 1) pe_int (fun _ _ => rfl)) (nomark _)) pa_nil))))))))), ?_⟩
    have hno : (!decide (ch = V.non)) = o.isSome := by
      cases o with
      | none => rw [show ch = .non from hch]; rfl
      | some ss =>
        obtain ⟨r, rfl, _⟩ := hch
        rfl
    have hno2 : decide (ch = V.non) = !o.isSome := by rw [← hno, Bool.not_not]
    have L : ∀ {σ : L2.St} {H' : Hp} (j : Nat) {y : V}, Ex H H' → σ[1]? = some (some (.ref l)) → [ch, .int tr, .bl oe][j]? = some y → Ev (tOp (rIxL K) (tVar 1) (tC (.int (j : Int)))) σ H' y := fun j y e h0 hv => ev_ixL (ev_var h0) ev_c (e _ _ hl) (atI_nat hv)
    refine q_asg ev_c fun H1 e1 => ?_
    refine q_tailIf (fun σ1 Hx => ∃ gv : V, σ1 = [some v, some (.ref l), some (.int way), some gv, none, none, none] ∧ Ex H Hx ∧ ChA Hx gv o) (fun σ1 H2 hR => ?_) (fun tail => ?_)
    · obtain ⟨gv, rfl, e2, hg⟩ := hR
      have eqG : ∀ {H' : Hp}, Ex H2 H' → RV (rEqD K) gv ch H' (.bl true) := fun e => by
        have := rv_dat (K := K) (fun H1 e1 => dp_o (hg.ex (e.trans e1))) (fun H1 e1 => dp_o (hch.ex ((e2.trans e).trans e1))) (shaped_o o) (shaped_o o)
        rw [eqv_o] at this
        exact this
      have run : ∀ (gv' : V) (tr' : Int) (oe' : Bool) (H4 : Hp) (KQ : VK) (KE : XK), Ex H2 H4 → ChA H4 gv' o → tr' = tr → oe' = oe → (frB st fs o tr oe = true → ∀ H5, Ex H2 H5 → KQ (.str (wrM st fs b o tr oe)) H5) → (frB st fs o tr oe = false → ∀ H5, Ex H2 H5 → KE (.ref DF) none H5) → spWm RQ RS DF [v, gv', .int tr', .bl oe'] H4 KQ KE :=
        fun gv' tr' oe' H4 KQ KE e4 hc h1 h2 k1 k2 => by
          subst h1 h2
          exact ⟨v, gv', st, b, fs, o, tr', oe', rfl, hm.ex (e2.trans e4), hc, ho, hok, hst, hbl, fun hb H5 e5 => k1 hb H5 (e4.trans e5), fun hb H5 e5 => k2 hb H5 (e4.trans e5)⟩
      refine q_in ?_
      dsimp only
      refine Evl.s_if (et_and (et_test (ev_op (ev_var rfl) ev_c rv_eqI)) fun _ => et_test (ev_opL (ev_var rfl) (el_lst (ea_cons ev_c (ea_cons ev_c (ea_cons ev_c ea_nil))) (by show 3 ≤ 100000; decide)) fun p H3 hp e3 => rv_dat (d := .list [oD o, .int tr, .bool oe]) (e := .list [.none, .int 0, .bool false]) (fun H4 e4 => .lst (sq_of (((e2.trans e3).trans e4) _ _ hl)) (.cons (dp_o (hch.ex ((e2.trans e3).trans e4))) (.cons (.int tr) (.cons (.bl oe) .nil)))) (fun H4 e4 => .lst (sq_of (e4 _ _ hp)) (.cons .non (.cons (.int 0) (.cons (.bl false) .nil)))) (shaped_opt o tr oe) (shaped_opt none 0 false))) (fun hb1 H3 e3 => ?_) (fun hb1 H3 e3 => ?_)
      · obtain ⟨h1, h2, h3⟩ := opt_eq (Bool.and_eq_true_iff.mp hb1).2
        refine s_asgR ((ea_cons (ev_var rfl) ea_nil) H3 (Ex.refl H3) _ fun H4 e4 => ⟨rfl, rfl, run .non 0 false H4 _ _ (e3.trans e4) (by rw [h1]; rfl) h2.symm h3.symm (fun hb H7 e7 => ?_) (fun hb H7 e7 => ?_)⟩)
        · refine q_when (b := false) (et_is (et_not (et_B (ev_isi (b := true) (ev_var rfl) (fun H1 _ => .base (.str _)) (kit_ty (by decide +kernel))))) rfl) (fun h => nomatch h) (fun _ H8 e8 => ?_)
          refine s_retL (el_lst (ea_cons (ev_var rfl) (ea_cons (ev_op (ev_var rfl) (L 0 ((e2.trans e7).trans e8) rfl rfl) (eqG (e7.trans e8))) ea_nil)) (by show 2 ≤ 100000; decide)) fun r H9 nr e9 hr9 => ?_
          have g := q r H9 (((e2.trans e7).trans e8).trans e9)
          rw [if_pos hb] at g
          exact g hr9
        · refine ⟨WV.eFF, fun a ha => ?_⟩
          refine q_asg (v := .bl true) (ev_andV (a := true) (b := true) (ev_isEN WV.xF (ev_var rfl) ev_c (fun _ => relC) WV.iFH) fun _ => ev_isEN WV.xF (ev_var rfl) ev_c (fun _ => relT) WV.iFE) fun H8 e8 => ?_
          refine q_when (b := false) (et_is (et_or (a := false) (et_is (et_not (et_B (ev_var rfl))) rfl) fun _ => et_B (ev_isET WV.xF (ev_var rfl) (eu_tup (ea_cons ev_c (ea_cons ev_c (ea_cons ev_c ea_nil))) (by show 3 ≤ 100000; decide)) (.cons (.own DM) (.cons (.own DV) (.cons (.own DR) .nil))) (kit3 WV.iFM WV.iFV WV.iFR))) rfl) (fun h => nomatch h) (fun _ H9 e9 => ?_)
          refine s_retL (el_lst (ea_cons ev_c (ea_cons (ev_op (ev_var rfl) (L 0 (((e2.trans e7).trans e8).trans e9) rfl rfl) (eqG ((e7.trans e8).trans e9))) ea_nil)) (by show 2 ≤ 100000; decide)) fun r H10 nr e10 hr10 => ?_
          have g := q r H10 ((((e2.trans e7).trans e8).trans e9).trans e10)
          rw [hb, if_neg Bool.false_ne_true] at g
          exact g hr10
      refine Evl.s_if (et_and (et_test (ev_op (ev_var rfl) ev_c rv_eqI)) fun _ => et_and (et_is (et_test (ev_op (L 0 (e2.trans e3) rfl rfl) ev_c rv_isN)) hno2) fun _ => et_test (ev_op (L 1 (e2.trans e3) rfl rfl) ev_c rv_eqI)) (fun hb2 H4 e4 => ?_) (fun hb2 H4 e4 => ?_)
      · obtain ⟨_, h1, h2⟩ : _ ∧ _ ∧ _ := ⟨trivial, (Bool.and_eq_true_iff.mp (Bool.and_eq_true_iff.mp hb2).2).1, of_decide_eq_true (Bool.and_eq_true_iff.mp (Bool.and_eq_true_iff.mp hb2).2).2⟩
        have e34 := e3.trans e4
        have hon : o = none := by cases o with | none => rfl | some ss => cases h1
        refine s_asgR ((ea_cons (ev_var rfl) ea_nil) H4 (Ex.refl H4) _ fun H5 e5 => (ea_cons (L 2 ((e2.trans e34).trans e5) rfl rfl) ea_nil) H5 (Ex.refl H5) _ fun H6 e6 => ⟨rfl, rfl, run .non 0 oe H6 _ _ ((e34.trans e5).trans e6) (by rw [hon]; rfl) h2.symm rfl (fun hb H7 e7 => ?_) (fun hb H7 e7 => ?_)⟩)
        · refine q_when (b := false) (et_is (et_not (et_B (ev_isi (b := true) (ev_var rfl) (fun H1 _ => .base (.str _)) (kit_ty (by decide +kernel))))) rfl) (fun h => nomatch h) (fun _ H8 e8 => ?_)
          refine s_retL (el_lst (ea_cons (ev_var rfl) (ea_cons (ev_op (ev_var rfl) (L 0 ((e2.trans e7).trans e8) rfl rfl) (eqG (e7.trans e8))) ea_nil)) (by show 2 ≤ 100000; decide)) fun r H9 nr e9 hr9 => ?_
          have g := q r H9 (((e2.trans e7).trans e8).trans e9)
          rw [if_pos hb] at g
          exact g hr9
        · refine ⟨WV.eFF, fun a ha => ?_⟩
          refine q_asg (v := .bl true) (ev_andV (a := true) (b := true) (ev_isEN WV.xF (ev_var rfl) ev_c (fun _ => relC) WV.iFH) fun _ => ev_isEN WV.xF (ev_var rfl) ev_c (fun _ => relT) WV.iFE) fun H8 e8 => ?_
          refine q_when (b := false) (et_is (et_or (a := false) (et_is (et_not (et_B (ev_var rfl))) rfl) fun _ => et_B (ev_isET WV.xF (ev_var rfl) (eu_tup (ea_cons ev_c (ea_cons ev_c (ea_cons ev_c ea_nil))) (by show 3 ≤ 100000; decide)) (.cons (.own DM) (.cons (.own DV) (.cons (.own DR) .nil))) (kit3 WV.iFM WV.iFV WV.iFR))) rfl) (fun h => nomatch h) (fun _ H9 e9 => ?_)
          refine s_retL (el_lst (ea_cons ev_c (ea_cons (ev_op (ev_var rfl) (L 0 (((e2.trans e7).trans e8).trans e9) rfl rfl) (eqG ((e7.trans e8).trans e9))) ea_nil)) (by show 2 ≤ 100000; decide)) fun r H10 nr e10 hr10 => ?_
          have g := q r H10 ((((e2.trans e7).trans e8).trans e9).trans e10)
          rw [hb, if_neg Bool.false_ne_true] at g
          exact g hr10
      have e34 := e3.trans e4
      refine Evl.s_if (et_and (et_test (ev_op (ev_var rfl) ev_c rv_eqI)) fun _ => et_and (et_test (ev_op (L 1 (e2.trans e34) rfl rfl) ev_c rv_eqI)) fun _ => et_not (et_B (L 2 (e2.trans e34) rfl rfl))) (fun hb3 H5 e5 => ?_) (fun hb3 H5 e5 => ?_)
      · obtain ⟨h1, h2⟩ := Bool.and_eq_true_iff.mp (Bool.and_eq_true_iff.mp hb3).2
        have h1 := of_decide_eq_true h1
        rw [Bool.not_eq_true'] at h2
        have e35 := e34.trans e5
        refine s_asgR ((ea_cons (ev_var rfl) ea_nil) H5 (Ex.refl H5) _ fun H6 e6 => (ea_cons (ev_var rfl) ea_nil) H6 (Ex.refl H6) _ fun H8 e8 => ⟨rfl, rfl, run gv 0 false H8 _ _ ((e35.trans e6).trans e8) (hg.ex ((e35.trans e6).trans e8)) h1.symm h2.symm (fun hb H7 e7 => ?_) (fun hb H7 e7 => ?_)⟩)
        · refine q_when (b := false) (et_is (et_not (et_B (ev_isi (b := true) (ev_var rfl) (fun H1 _ => .base (.str _)) (kit_ty (by decide +kernel))))) rfl) (fun h => nomatch h) (fun _ H8 e8 => ?_)
          refine s_retL (el_lst (ea_cons (ev_var rfl) (ea_cons (ev_op (ev_var rfl) (L 0 ((e2.trans e7).trans e8) rfl rfl) (eqG (e7.trans e8))) ea_nil)) (by show 2 ≤ 100000; decide)) fun r H9 nr e9 hr9 => ?_
          have g := q r H9 (((e2.trans e7).trans e8).trans e9)
          rw [if_pos hb] at g
          exact g hr9
        · refine ⟨WV.eFF, fun a ha => ?_⟩
          refine q_asg (v := .bl true) (ev_andV (a := true) (b := true) (ev_isEN WV.xF (ev_var rfl) ev_c (fun _ => relC) WV.iFH) fun _ => ev_isEN WV.xF (ev_var rfl) ev_c (fun _ => relT) WV.iFE) fun H8 e8 => ?_
          refine q_when (b := false) (et_is (et_or (a := false) (et_is (et_not (et_B (ev_var rfl))) rfl) fun _ => et_B (ev_isET WV.xF (ev_var rfl) (eu_tup (ea_cons ev_c (ea_cons ev_c (ea_cons ev_c ea_nil))) (by show 3 ≤ 100000; decide)) (.cons (.own DM) (.cons (.own DV) (.cons (.own DR) .nil))) (kit3 WV.iFM WV.iFV WV.iFR))) rfl) (fun h => nomatch h) (fun _ H9 e9 => ?_)
          refine s_retL (el_lst (ea_cons ev_c (ea_cons (ev_op (ev_var rfl) (L 0 (((e2.trans e7).trans e8).trans e9) rfl rfl) (eqG ((e7.trans e8).trans e9))) ea_nil)) (by show 2 ≤ 100000; decide)) fun r H10 nr e10 hr10 => ?_
          have g := q r H10 ((((e2.trans e7).trans e8).trans e9).trans e10)
          rw [hb, if_neg Bool.false_ne_true] at g
          exact g hr10
      have e35 := e34.trans e5
      refine Evl.s_if (et_and (et_test (ev_op (ev_var rfl) ev_c rv_eqI)) fun _ => et_not (et_B (L 2 (e2.trans e35) rfl rfl))) (fun hb4 H6 e6 => ?_) (fun hb4 H6 e6 => ?_)
      · have h2 := (Bool.and_eq_true_iff.mp hb4).2
        rw [Bool.not_eq_true'] at h2
        have e36 := e35.trans e6
        refine s_asgR ((ea_cons (ev_var rfl) ea_nil) H6 (Ex.refl H6) _ fun Ha ea => (ea_cons (L 1 ((e2.trans e36).trans ea) rfl rfl) (ea_cons (ev_var rfl) ea_nil)) Ha (Ex.refl Ha) _ fun H8 e8 => ⟨rfl, rfl, run gv tr false H8 _ _ ((e36.trans ea).trans e8) (hg.ex ((e36.trans ea).trans e8)) rfl h2.symm (fun hb H7 e7 => ?_) (fun hb H7 e7 => ?_)⟩)
        · refine q_when (b := false) (et_is (et_not (et_B (ev_isi (b := true) (ev_var rfl) (fun H1 _ => .base (.str _)) (kit_ty (by decide +kernel))))) rfl) (fun h => nomatch h) (fun _ H8 e8 => ?_)
          refine s_retL (el_lst (ea_cons (ev_var rfl) (ea_cons (ev_op (ev_var rfl) (L 0 ((e2.trans e7).trans e8) rfl rfl) (eqG (e7.trans e8))) ea_nil)) (by show 2 ≤ 100000; decide)) fun r H9 nr e9 hr9 => ?_
          have g := q r H9 (((e2.trans e7).trans e8).trans e9)
          rw [if_pos hb] at g
          exact g hr9
        · refine ⟨WV.eFF, fun a ha => ?_⟩
          refine q_asg (v := .bl true) (ev_andV (a := true) (b := true) (ev_isEN WV.xF (ev_var rfl) ev_c (fun _ => relC) WV.iFH) fun _ => ev_isEN WV.xF (ev_var rfl) ev_c (fun _ => relT) WV.iFE) fun H8 e8 => ?_
          refine q_when (b := false) (et_is (et_or (a := false) (et_is (et_not (et_B (ev_var rfl))) rfl) fun _ => et_B (ev_isET WV.xF (ev_var rfl) (eu_tup (ea_cons ev_c (ea_cons ev_c (ea_cons ev_c ea_nil))) (by show 3 ≤ 100000; decide)) (.cons (.own DM) (.cons (.own DV) (.cons (.own DR) .nil))) (kit3 WV.iFM WV.iFV WV.iFR))) rfl) (fun h => nomatch h) (fun _ H9 e9 => ?_)
          refine s_retL (el_lst (ea_cons ev_c (ea_cons (ev_op (ev_var rfl) (L 0 (((e2.trans e7).trans e8).trans e9) rfl rfl) (eqG ((e7.trans e8).trans e9))) ea_nil)) (by show 2 ≤ 100000; decide)) fun r H10 nr e10 hr10 => ?_
          have g := q r H10 ((((e2.trans e7).trans e8).trans e9).trans e10)
          rw [hb, if_neg Bool.false_ne_true] at g
          exact g hr10
      · have e36 := e35.trans e6
        refine s_asgR (ea_nil H6 (Ex.refl H6) _ fun Ha ea => (ea_cons (ev_var rfl) (ea_cons (L 2 ((e2.trans e36).trans ea) rfl rfl) (ea_cons (ev_var rfl) (ea_cons (L 1 ((e2.trans e36).trans ea) rfl rfl) ea_nil)))) Ha (Ex.refl Ha) _ fun H8 e8 => ⟨rfl, rfl, run gv tr oe H8 _ _ ((e36.trans ea).trans e8) (hg.ex ((e36.trans ea).trans e8)) rfl rfl (fun hb H7 e7 => ?_) (fun hb H7 e7 => ?_)⟩)
        · refine q_when (b := false) (et_is (et_not (et_B (ev_isi (b := true) (ev_var rfl) (fun H1 _ => .base (.str _)) (kit_ty (by decide +kernel))))) rfl) (fun h => nomatch h) (fun _ H8 e8 => ?_)
          refine s_retL (el_lst (ea_cons (ev_var rfl) (ea_cons (ev_op (ev_var rfl) (L 0 ((e2.trans e7).trans e8) rfl rfl) (eqG (e7.trans e8))) ea_nil)) (by show 2 ≤ 100000; decide)) fun r H9 nr e9 hr9 => ?_
          have g := q r H9 (((e2.trans e7).trans e8).trans e9)
          rw [if_pos hb] at g
          exact g hr9
        · refine ⟨WV.eFF, fun a ha => ?_⟩
          refine q_asg (v := .bl true) (ev_andV (a := true) (b := true) (ev_isEN WV.xF (ev_var rfl) ev_c (fun _ => relC) WV.iFH) fun _ => ev_isEN WV.xF (ev_var rfl) ev_c (fun _ => relT) WV.iFE) fun H8 e8 => ?_
          refine q_when (b := false) (et_is (et_or (a := false) (et_is (et_not (et_B (ev_var rfl))) rfl) fun _ => et_B (ev_isET WV.xF (ev_var rfl) (eu_tup (ea_cons ev_c (ea_cons ev_c (ea_cons ev_c ea_nil))) (by show 3 ≤ 100000; decide)) (.cons (.own DM) (.cons (.own DV) (.cons (.own DR) .nil))) (kit3 WV.iFM WV.iFV WV.iFR))) rfl) (fun h => nomatch h) (fun _ H9 e9 => ?_)
          refine s_retL (el_lst (ea_cons ev_c (ea_cons (ev_op (ev_var rfl) (L 0 (((e2.trans e7).trans e8).trans e9) rfl rfl) (eqG ((e7.trans e8).trans e9))) ea_nil)) (by show 2 ≤ 100000; decide)) fun r H10 nr e10 hr10 => ?_
          have g := q r H10 ((((e2.trans e7).trans e8).trans e9).trans e10)
          rw [hb, if_neg Bool.false_ne_true] at g
          exact g hr10
    · refine q_if (b := o.isSome) (et_is (et_test (ev_op (L 0 e1 rfl rfl) ev_c rv_notN)) hno) (fun hb H2 e2 => ?_) (fun hb H2 e2 => ?_)
      · cases o with
        | none => cases hb
        | some ss =>
          obtain ⟨r, rfl, hr0⟩ := id hch
          refine s_asgR ((el_listS (K := K) (L 0 (e1.trans e2) rfl rfl) ((e1.trans e2) _ _ hr0)) H2 (Ex.refl H2) _ fun p H3 np e3 hp => ?_)
          exact tail _ _ ⟨.ref p, rfl, (e1.trans e2).trans e3, p, rfl, hp⟩
      · cases o with
        | some ss => cases hb
        | none => exact tail _ _ ⟨.non, rfl, e1.trans e2, rfl⟩
end
end Z
set_option maxHeartbeats 4000000
namespace Z
open PySem PySem.Spec PyProof.Rows L2 TL Evl NdefX
/-! ### the written form is plain text -/
def Asc (z : Str) : Prop := ∀ c ∈ tl z, c < 128
theorem asc_join {ls : List Str} (h : ∀ l ∈ ls, Asc l) : Asc (Txt.join "\n" ls) := fun c hc => by
  cases ls with
  | nil =>
    have : tl (Txt.join "\n" []) = [] := by decide +kernel
    rw [this] at hc
    cases hc
  | cons p r =>
    rw [join_tl] at hc
    rcases List.mem_append.mp hc with hc | hc
    · exact h p List.mem_cons_self c hc
    · obtain ⟨q, hq, hc⟩ := List.mem_flatMap.mp hc
      rw [nl_tl] at hc
      rcases List.mem_append.mp hc with hc | hc
      · rw [List.mem_singleton.mp hc]; decide
      · exact h q (List.mem_cons_of_mem _ hq) c hc
theorem asc_signs {z s : Str} (hs : ∀ c ∈ tl s, c < 128) (h : allIn z s = true) : Asc z := fun c hc => hs c (of_decide_eq_true (List.all_eq_true.mp h c hc))
theorem asc_st {st : Str} (h : StOk st) : Asc st := by
  rcases h with ⟨m, q, hm, hq, rfl⟩ | ⟨s, hs, rfl⟩
  · intro c hc
    rw [asL_tl] at hc
    rcases List.mem_append.mp hc with hc | hc
    · rcases List.mem_append.mp hc with hc | hc
      · rcases List.mem_append.mp hc with hc | hc
        · have : ∀ c ∈ tl ("ask " : Str), c < 128 := by decide +kernel
          exact this c hc
        · have : ∀ m ∈ mdL, ∀ c ∈ tl m, c < 128 := by decide +kernel
          exact this m hm c hc
      · rw [List.mem_singleton.mp hc]; decide
    · unfold pathB at hq
      simp only [Bool.and_eq_true] at hq
      exact asc_signs (by decide +kernel) hq.2.2 c hc
  · have : ∀ s ∈ stL, ∀ c ∈ tl (ansL s), c < 128 := by decide +kernel
    exact this s hs
theorem asc_field {x : Str × Str} (h : fieldB x = true) : Asc (fieldL x) := by
  obtain ⟨h1, h2⟩ := Bool.and_eq_true_iff.mp h
  unfold nameB wordB at h1
  simp only [Bool.and_eq_true] at h1
  unfold valueB at h2
  simp only [Bool.and_eq_true] at h2
  intro c hc
  have e : tl (fieldL x) = tl x.1 ++ tl (": " : Str) ++ tl x.2 := by
    unfold fieldL
    simp only [List.foldl_cons, List.foldl_nil, tl_append]
    rw [show tl Str.empty = [] by decide +kernel, List.nil_append]
  rw [e] at hc
  rcases List.mem_append.mp hc with hc | hc
  · rcases List.mem_append.mp hc with hc | hc
    · exact asc_signs (by decide +kernel) h1.1.2.2 c hc
    · have : ∀ c ∈ tl (": " : Str), c < 128 := by decide +kernel
      exact this c hc
  · exact asc_signs signs_lt h2.2.1 c hc
theorem asc_body {b : Str} (h : bodyB b = true) : Asc b := fun c hc => by
  unfold bodyB linesB at h
  obtain ⟨_, h2⟩ := Bool.and_eq_true_iff.mp h
  have := List.all_eq_true.mp h2 c hc
  rw [Bool.or_eq_true, decide_eq_true_eq, decide_eq_true_eq] at this
  rcases this with h | h
  · rw [h]; decide
  · exact signs_lt c h
theorem asc_num {i : Int} (h0 : 0 ≤ i) (h1 : i ≤ 999999) : Asc (numT i) := fun c hc => by
  have := num_digs h0 h1 c hc
  omega
theorem asc_chunk {b : Str} (hb : Asc b) (hl : b.length ≤ 1000) : ∀ (ss : List Int) (a : Int), ∀ l ∈ chunkL (chP b ss a), Asc l
  | [], a, l, h => by cases h
  | s :: r, a, l, h => by
    unfold chP at h
    split at h
    · have e : chunkL (cutS b (some a) (some (a + s)) :: chP b r (a + s)) = numT ((cutS b (some a) (some (a + s))).length : Int) :: cutS b (some a) (some (a + s)) :: chunkL (chP b r (a + s)) := rfl
      rw [e] at h
      have hcl := cutS_length b (some a) (some (a + s))
      rcases List.mem_cons.mp h with rfl | h
      · exact asc_num (by omega) (by omega)
      · rcases List.mem_cons.mp h with rfl | h
        · exact fun c hc => hb c (List.mem_of_mem_drop (List.mem_of_mem_take hc))
        · exact asc_chunk hb hl r (a + s) l h
    · exact asc_chunk hb hl r a l h
theorem asc_fields {fs : Fs} (h : areB fs = true) : ∀ l ∈ fs.map fieldL, Asc l := fun l hl => by
  obtain ⟨x, hx, rfl⟩ := List.mem_map.mp hl
  exact asc_field (areB_ok h x hx)
theorem asc_wr {st b : Str} {fs : Fs} {o : Option (List Int)} {tr : Int} {oe : Bool} (hst : StOk st) (hok : areB fs = true) (hb : bodyB b = true) (hl : b.length ≤ 1000) : Asc (wrM st fs b o tr oe) := by
  have e0 : Asc ("" : Str) := by unfold Asc; decide +kernel
  have a1 := asc_st hst
  have a2 := asc_body hb
  unfold wrM
  cases o with
  | none =>
    dsimp only
    unfold plainW pLines
    refine asc_join fun l hm => ?_
    simp only [List.mem_append, List.mem_cons, List.not_mem_nil, or_false] at hm
    rcases hm with ((hm | hm) | hm) | (hm | hm)
    · rw [hm]; exact a1
    · exact asc_fields hok l hm
    · split at hm
      · rw [List.mem_singleton.mp hm]
        intro c hc
        have e : tl (lenL b) = tl ("length: " : Str) ++ tl (numT (b.length : Int)) := by
          unfold lenL
          simp only [List.foldl_cons, List.foldl_nil, tl_append]
          rw [show tl Str.empty = [] by decide +kernel, List.nil_append]
        rw [e] at hc
        rcases List.mem_append.mp hc with hc | hc
        · have : ∀ c ∈ tl ("length: " : Str), c < 128 := by decide +kernel
          exact this c hc
        · exact asc_num (by omega) (by omega) c hc
      · cases hm
    · rw [hm]; exact e0
    · rw [hm]; exact a2
  | some ss =>
    dsimp only
    unfold chunkedW cLines
    generalize ((fs.length : Int) - tr).toNat = n
    obtain ⟨k1, k2⟩ := areB_take hok n
    refine asc_join fun l hm => ?_
    simp only [List.mem_append, List.mem_cons, List.not_mem_nil, or_false] at hm
    rcases hm with (((((hm | hm) | (hm | hm)) | hm) | hm) | hm) | (hm | hm)
    · rw [hm]; exact a1
    · exact asc_fields k1 l hm
    · rw [hm]; unfold Asc; decide +kernel
    · rw [hm]; exact e0
    · exact asc_chunk a2 hl _ _ l hm
    · rw [hm]; unfold Asc; decide +kernel
    · exact asc_fields k2 l hm
    · rw [hm]; exact e0
    · rw [hm]; exact e0
/-! ### what is told, compared -/
def tO (st : Str) (fs : Fs) (b : Str) (o : Option (List Int)) (tr : Int) (oe : Bool) : Option Str := if frB st fs o tr oe = true then some (wrM st fs b o tr oe) else none
def tV : Option Str → V
  | none => .non
  | some z => .str z
def tD : Option Str → PyData
  | none => .none
  | some z => .str z
theorem tO_V (st : Str) (fs : Fs) (b : Str) (o : Option (List Int)) (tr : Int) (oe : Bool) : (if frB st fs o tr oe = true then V.str (wrM st fs b o tr oe) else .non) = tV (tO st fs b o tr oe) ∧ (if frB st fs o tr oe = true then V.str (formT st fs b o tr oe) else .non) = tV (tO st fs b o tr oe) := by
  unfold tO
  by_cases h : frB st fs o tr oe = true
  · rw [if_pos h, if_pos h, if_pos h, form_eq h]
    exact ⟨rfl, rfl⟩
  · rw [if_neg h, if_neg h, if_neg h]
    exact ⟨rfl, rfl⟩
theorem dp_t {K : PySem.W.Frag} {H : Hp} {r : Addr} {x : Option Str} (h : H r = some (.lst [tV x, .bl true])) : Dp K H (.ref r) (.list [tD x, .bool true]) := by
  refine .lst (sq_of h) (.cons ?_ (.cons (.bl true) .nil))
  cases x with
  | none => exact .non
  | some z => exact .str z
theorem shaped_t {x : Option Str} (h : ∀ z, x = some z → Asc z) : SeqAt.shaped (.list [tD x, .bool true]) = true := by
  have h2 : PyData.depth (.list [tD x, .bool true]) ≤ 64 := by
    cases x <;> simp [tD, PyData.depth, PyData.depthAll]
  show (PyData.canLay0 _ && decide (PyData.depth _ ≤ 64)) = true
  rw [decide_eq_true h2, Bool.and_true]
  cases x with
  | none => simp [tD, PyData.canLay0, PyData.canLayAll0]
  | some z =>
    have := ok_text (h z rfl)
    simp [tD, PyData.canLay0, PyData.canLayAll0, this]
theorem eqv_t (x : Option Str) : PyData.eqv (.list [tD x, .bool true]) (.list [tD x, .bool true]) = true := by
  cases x <;> simp [tD, PyData.eqv, PyData.eqvAll]
/-! ### messages stay -/
theorem FsAt.nbag {l p : Addr} {H : Hp} {fs : Fs} (h : FsAt H l fs) (b : Bg H p) : l ≠ p := fun e => by
  obtain ⟨xs, hx, hr⟩ := h
  obtain ⟨c0, cv, c2, hb, _⟩ := b
  rw [e, hb] at hx
  cases hx
  cases fs with
  | nil => cases hr.1
  | cons x r =>
    obtain ⟨t, ht, _⟩ := hr.2 0 _ x rfl rfl
    cases ht
theorem MgO.keep {RQ RS p : Addr} {H H' : Hp} {v : V} {st b : Str} {fs : Fs} (h : MgO RQ RS H v st fs b) (k : Keep p H H') (bg : Bg H p) : MgO RQ RS H' v st fs b := by
  obtain ⟨a, dx, l, s, rfl, ha, hx, hf⟩ := h
  have na : a ≠ p := fun e => by
    obtain ⟨xs, hb⟩ := bg.has
    rw [e, hb] at ha
    cases ha
  exact ⟨a, dx, l, s, rfl, k _ _ na ha, hx, hf.keepB k bg (hf.nbag bg)⟩
end Z
set_option maxHeartbeats 4000000
namespace Z
open PySem PySem.Spec PyProof.Rows L2 TL Evl NdefX
def spLr : Sp := fun vs H Q _ => ∃ p, vs = [.ref p] ∧ Bg H p ∧ ∀ H', Keep p H H' → Q (.bl true) H'
def spLawS (K : PySem.W.Frag) : Sp := fun vs H Q _ => ∃ (a : Addr) (ns : List Int), vs = [.ref a] ∧ SqL K H a (ns.map V.int) ∧ ns.length ≤ 63 ∧ (∀ z ∈ ns, z.natAbs < 2 ^ cap) ∧ ∀ H', Q (.bl true) H'
section
variable {P : Program} {w : World} {K : PySem.W.Frag} {mg : Str → Option Value} {base : Heap} {f RQ RS : Addr} {fd : FuncData} {k : Nat}
theorem ok_law_right (T : Mg mg) (WO : Wo K mg RQ RS) (PO : Po P w K mg base RQ RS) (c_law_draw : CDr P w K mg base) (c_law_pick : CPk P w K mg base) (c_law_names : Call P w K mg base 4 "_law_names" ["bag"] spNs) (c_law_row : Call P w K mg base 4 "_law_row" ["bag", "side", "names"] spRw) (c_law_made : Call P w K mg base 8 "_law_made" ["row"] (spMd RQ RS)) (c_law_options : Call P w K mg base 4 "_law_options" ["bag", "row"] spOp)
    (c_law_form : Call P w K mg base 2 "_law_form" ["row", "sizes", "tail", "open_ended"] spFo) (c_law_told : Call P w K mg base 5 "_law_told" ["message", "options", "way"] (spTo RQ RS)) (F : FnP K "_law_right" s_law_right f fd) (gm : mg "_law_right" = some (.ref f)) : Call P w K mg base 9 "_law_right" ["bag"] spLr := by
  obtain ⟨gqs, rqs, dqs, oqs, Fqs, bqs⟩ := PO.qs.ex
  obtain ⟨gss, rss, dss, oss, Fss, bss⟩ := PO.ss.ex
  refine mk F gm (fun _ _ _ _ _ _ us hl => match us, hl with | [_], _ => rfl) (fun _ _ _ _ _ _ us hl => match us, hl with | [_], _ => rfl) sc_law_right (fun vs H Q E h => ?_) (fun cdv A outer s H vs Q E hr h => ?_)
  · obtain ⟨p, rfl, _⟩ := h
    rfl
  · obtain ⟨p, rfl, bg, q⟩ := h
    refine ⟨_, (pss_cons (ps_set (i := 1) sc_law_right.nd rfl (Or.inl rfl) (pe_f c_law_row hr (by decide) rfl (pa_cons (pv 0) (pa_cons (pe_f c_law_pick hr (by decide) rfl (pa_cons (pv 0) (pa_cons (pe_lst (pa_cons pe_str (pa_cons pe_str pa_nil))) pa_nil))) (pa_cons (pe_f c_law_names hr (by decide) rfl (pa_cons (pv 0) pa_nil)) pa_nil)))))
    (pss_cons (ps_set (i := 2) sc_law_right.nd rfl (Or.inl rfl) (pe_f c_law_made hr (by decide) rfl (pa_cons (pv 1) pa_nil)))
    (pss_cons (ps_set (i := 3) sc_law_right.nd rfl (Or.inl rfl) (pe_f c_law_options hr (by decide) rfl (pa_cons (pv 0) (pa_cons (pv 1) pa_nil))))
    (pss_cons (ps_set (i := 4) sc_law_right.nd rfl (Or.inl rfl) (pe_f c_law_form hr (by decide) rfl (pa_cons (pv 1) (pa_cons (pe_ix ix_list (pv 3) pe_int (fun _ _ => rfl)) (pa_cons (pe_ix ix_list (pv 3) pe_int (fun _ _ => rfl)) (pa_cons (pe_ix ix_list (pv 3) pe_int (fun _ _ => rfl)) pa_nil))))))
    (pss_cons (ps_if (pt_cmpR (op_neD hr.units) (pe_f c_law_told hr (by decide) rfl (pa_cons (pv 2) (pa_cons (pv 3) (pa_cons (pe_f c_law_draw hr (by decide) rfl (pa_cons (pv 0) (pa_cons pe_int pa_nil))) pa_nil)))) (pe_lst (pa_cons (pv 4) (pa_cons pe_bl pa_nil))) (nomark _))
      (pss_one (ps_ret pe_bl))
      pss_nil)
    (pss_cons (ps_if (PW.pt (pw_or (pt_cmpR (op_neD hr.units) (pe_fld (pv 2) rfl) (pe_ix ix_tup (pv 1) pe_int (fun _ _ => rfl)) (nomark _)) (pw_or (pt_cmpR op_ne (pe_fld (pv 2) rfl) (pe_ix ix_tup (pv 1) pe_int (fun _ _ => rfl)) (nomark _)) (pw_or1 (pt_cmpR op_ne (pe_either (pe_prop (pv 2) WO.cq oqs Fqs (hr.mono (by decide)) bqs .nil pass0 rfl) (pe_prop (pv 2) WO.cs oss Fss (hr.mono (by decide)) bss .nil pass0 rfl)) (pe_ix ix_tup (pv 1) pe_int (fun _ _ => rfl)) (nomark _))))))
      (pss_one (ps_ret pe_bl))
      pss_nil)
    (pss_one (ps_ret (pe_cmpR (op_eqD hr.units) (pe_f c_law_told hr (by decide) rfl (pa_cons (pv 2) (pa_cons (pe_lst (pa_cons pe_non (pa_cons pe_int (pa_cons pe_bl pa_nil)))) (pa_cons pe_int pa_nil)))) (pe_lst (pa_cons (pe_f c_law_form hr (by decide) rfl (pa_cons (pv 1) (pa_cons pe_non (pa_cons pe_int (pa_cons pe_bl pa_nil))))) (pa_cons pe_bl pa_nil))) (nomark _)))))))))), ?_⟩
    refine q_asgR ⟨.ref p, rfl, rd_pk (Q := fun v H => _) (xs := [("answers" : Str), "asks"].map V.str) (ev_var rfl) (el_lst (ea_cons ev_c (ea_cons ev_c ea_nil)) (by decide)) bg (by decide) (by decide) fun sv H1 hsv b1 k1 => ?_⟩
    obtain ⟨side, rfl, _⟩ := strs_in hsv
    refine rd_call (Q := fun v H => _) (ea_cons (ev_var rfl) ea_nil) fun H2 e2 => ⟨p, rfl, b1.ex e2, fun qn ns H3 nq hq n1 n3 hns b3 k3 => ⟨p, side, qn, ns, rfl, b3, nq, hq, n1, n3, hns, fun t l st b fs H4 ht hf hrow nlp b4 k4 => ?_⟩⟩
    have k04 := ((k1.trans (Keep.of e2)).trans k3).trans k4
    clear k1 e2 k3 k4 hq hns
    obtain ⟨hst, hok, hbl, hbb, hbm⟩ := id hrow
    have hsl := hst.len
    have hfl := (areB_val hok).1
    refine q_asgR (rd_call (ea_cons (ev_var rfl) ea_nil) fun H5 e5 => ⟨.ref t, l, st, b, fs, rfl, ⟨t, rfl, e5 _ _ ht, hf.ex e5⟩, hrow, fun u H6 e6 hm => ?_⟩)
    have e46 := e5.trans e6
    have b6 := b4.ex e46
    have rw6 : RowA H6 (.ref t) l st fs b := ⟨t, rfl, e46 _ _ ht, hf.ex e46⟩
    refine q_asgR (rd_call (ea_cons (ev_var rfl) (ea_cons (ev_var rfl) ea_nil)) fun H7 e7 => ⟨p, .ref t, l, st, b, fs, rfl, b6.ex e7, rw6.keep nlp (Keep.of e7) b6, nlp, hbl, hsl, hfl, fun qo ch o tr oe H8 nqo hqo hch b8 k8 => ?_⟩)
    have k68 := (Keep.of (p := p) e7).trans k8
    have k08 := (k04.trans (Keep.of e46)).trans k68
    have hm8 := hm.keep k68 b6
    have rw8 := rw6.keep nlp k68 b6
    obtain ⟨hcha, hcho⟩ := hch.ch
    have tv := tO_V st fs b o tr oe
    have asc : ∀ {o : Option (List Int)} {tr : Int} {oe : Bool} (z : Str), tO st fs b o tr oe = some z → Asc z := fun z h => by
      unfold tO at h
      split at h
      · cases h
        exact asc_wr hst hok hbb hbl
      · cases h
    have L : ∀ {σ : L2.St} {H' : Hp} (j : Nat) {y : V}, Ex H8 H' → σ[3]? = some (some (.ref qo)) → [ch, .int tr, .bl oe][j]? = some y → Ev (tOp (rIxL K) (tVar 3) (tC (.int (j : Int)))) σ H' y := fun j y e h0 hv => ev_ixL (ev_var h0) ev_c (e _ _ hqo) (atI_nat hv)
    refine q_asg (v := tV (tO st fs b o tr oe)) (ev_call (ea_cons (ev_var rfl) (ea_cons (L 0 (Ex.refl H8) rfl rfl) (ea_cons (L 1 (Ex.refl H8) rfl rfl) (ea_cons (L 2 (Ex.refl H8) rfl rfl) ea_nil)))) (fun H9 e9 Q' q' E' => ⟨.ref t, l, st, b, fs, ch, o, tr, oe, rfl, rw8.keep nlp (Keep.of e9) b8, hcha.ex e9, hcho, hok, hsl, hbl, by rw [tv.2]; exact q'⟩)) fun H9 e9 => ?_
    refine ⟨u, rfl, .ref qo, rfl, rd_dr (Q := fun v H => _) (ea_cons (ev_var rfl) (ea_cons ev_c ea_nil)) (b8.ex e9) (by decide) (by decide) fun d H10 d0 d1 b10 k10 => ?_⟩
    have k810 := (Keep.of (p := p) e9).trans k10
    refine ⟨u, qo, d, st, b, fs, ch, o, tr, oe, rfl, hm8.keep k810 b8, k810 _ _ nqo hqo, (hch.keep k810).ch.1, hcho, hok, hsl, hbl, fun r H11 e11 hr11 => ?_⟩
    rw [tv.1] at hr11
    refine (el_lst (ea_cons (ev_var rfl) (ea_cons ev_c ea_nil)) (by show 2 ≤ 100000; decide)) H11 (Ex.refl H11) _ fun z H12 nz e12 hz => ⟨.list [tD (tO st fs b o tr oe), .bool true], .list [tD (tO st fs b o tr oe), .bool true], dp_t (e12 _ _ hr11), dp_t hz, shaped_t asc, shaped_t asc, _, rfl, ?_⟩
    rw [eqv_t]
    refine iteF ?_
    have k812 := k810.trans (Keep.of (e11.trans e12))
    have b12 := b10.ex (e11.trans e12)
    have hm12 := hm8.keep k812 b8
    obtain ⟨t', ht', ht12, hf12⟩ := rw8.keep nlp k812 b8
    cases ht'
    obtain ⟨a, dx, l', ex, rfl, ha, hex, hf'⟩ := id hm12
    have WM := WO.at_ st
    have it : ∀ {σ : L2.St} {H' : Hp} (j : Nat) {y : V}, Ex H12 H' → σ[1]? = some (some (.ref t)) → [V.str st, .ref l, .str b][j]? = some y → Ev (tOp (rIxT K) (tVar 1) (tC (.int (j : Int)))) σ H' y := fun j y e h0 hv => ev_ixT (ev_var h0) ev_c (e _ _ ht12) (atI_nat hv)
    refine q_when (b := false) (et_is (et_or (et_test (ev_op (ev_fldO WM.cls WM.n3 (ev_var rfl) ha ms_fields) (it 1 (Ex.refl H12) rfl rfl) (rv_neF hf' hf12 (areB_ok hok) (areB_ok hok)))) fun _ => et_or (et_test (ev_op (ev_fldO WM.cls WM.n4 (ev_var rfl) ha rfl) (it 2 (Ex.refl H12) rfl rfl) rv_neS)) fun _ => et_test (ev_op (ev_start (ev_var rfl) hm12) (it 0 (Ex.refl H12) rfl rfl) rv_neS)) (by rw [decide_eq_true rfl, decide_eq_true rfl, decide_eq_true rfl]; rfl)) (fun h => nomatch h) (fun _ H13 e13 => ?_)
    have tv2 := tO_V st fs b none 0 false
    refine g_ret ⟨.ref a, rfl, (el_lst (ea_cons ev_c (ea_cons ev_c (ea_cons ev_c ea_nil))) (by show 3 ≤ 100000; decide)) H13 (Ex.refl H13) _ fun qz H14 nqz e14 hqz => ⟨.ref a, qz, 0, st, b, fs, .non, none, 0, false, rfl, hm12.ex (e13.trans e14), hqz, rfl, (fun _ h => nomatch h), hok, hsl, hbl, fun r2 H15 e15 hr15 => ?_⟩⟩
    rw [tv2.1] at hr15
    have e1215 := (e13.trans e14).trans e15
    refine (el_lst (ea_cons (x := tV (tO st fs b none 0 false)) (ev_call (ea_cons (ev_var rfl) (ea_cons ev_c (ea_cons ev_c (ea_cons ev_c ea_nil)))) (fun H16 e16 Q' q' E' => ⟨.ref t, l, st, b, fs, .non, none, 0, false, rfl, ⟨t, rfl, (e1215.trans e16) _ _ ht12, hf12.ex (e1215.trans e16)⟩, rfl, (fun _ h => nomatch h), hok, hsl, hbl, by rw [tv2.2]; exact q'⟩)) (ea_cons ev_c ea_nil)) (by show 2 ≤ 100000; decide)) H15 (Ex.refl H15) _ fun z2 H16 nz2 e16 hz2 => ⟨.list [tD (tO st fs b none 0 false), .bool true], .list [tD (tO st fs b none 0 false), .bool true], dp_t (e16 _ _ hr15), dp_t hz2, shaped_t asc, shaped_t asc, ?_⟩
    rw [eqv_t]
    exact q H16 (k08.trans (k812.trans (Keep.of (e1215.trans e16))))
theorem ok_lawS (T : Mg mg) (c_law_bag : Call P w K mg base 1 "_law_bag" ["script", "k"] (spBg K)) (c_law_right : Call P w K mg base 9 "_law_right" ["bag"] spLr) (F : FnP K "law" s_law f fd) : FnOk P w K mg base CX0 10 f fd ["script"] (spLawS K) := by
  refine mkF F sc_law (fun vs H Q E h => ?_) (fun cdv A outer s H vs Q E hr h => ?_)
  · obtain ⟨a, ns, rfl, _⟩ := h
    rfl
  · obtain ⟨a, ns, rfl, hS, hl, hbits, q⟩ := h
    refine ⟨_, (pss_cons (ps_for PassesOwn.never rfl (pi_range1 rfl T.range (pa_cons (pe_callB (call_max2 rfl) (by rfl) T.max (by decide +kernel) (pa_cons pe_int (pa_cons (pe_callB (cz_min2 rfl) (by rfl) T.min (by decide +kernel) (pa_cons pe_int (pa_cons (pe_callB call_len_seq (by rfl) T.len (by decide +kernel) (pa_cons (pv 0) pa_nil)) pa_nil))) pa_nil))) pa_nil)) (pg_name (i := 1) sc_law.nd rfl (Or.inl rfl))
      (pss_one (ps_if (pt_not (pt_val (pe_f c_law_right hr (by decide) rfl (pa_cons (pe_f c_law_bag hr (by decide) rfl (pa_cons (pv 0) (pa_cons (pv 1) pa_nil))) pa_nil))))
        (pss_one (ps_ret pe_bl))
        pss_nil)))
    (pss_one (ps_ret pe_bl))), ?_⟩
    refine ⟨.ref a, rfl, a, ns.map V.int, rfl, .inl hS, 40, _, rfl, 1, _, rfl, ?_⟩
    rw [List.length_map]
    have hmin : (if (ns.length : Int) < 40 then (ns.length : Int) else 40) ≤ 40 := by
      by_cases h : (ns.length : Int) < 40
      · rw [if_pos h]; omega
      · rw [if_neg h]; omega
    generalize (if (ns.length : Int) < 40 then (ns.length : Int) else 40) = m at hmin
    have hmax : 1 ≤ (if m > 1 then m else 1) ∧ (if m > 1 then m else 1) ≤ 63 := by
      by_cases h : m > 1
      · rw [if_pos h]; omega
      · rw [if_neg h]; omega
    generalize (if m > 1 then m else 1) = j at hmax
    refine ⟨j, rfl, by omega, by omega, for_range (lo := 0) (n := j.toNat) (fun i σ' H' => (∃ v1, σ' = [some (.ref a), v1]) ∧ SqL K H' a (ns.map V.int)) ⟨⟨none, rfl⟩, hS⟩ (fun i σ' H' hi pv => ?_) (fun σ' H' pv => ?_)⟩
    · obtain ⟨⟨v1, rfl⟩, hS'⟩ := pv
      have e0 : (0 : Int) + (i : Int) = (i : Int) := Int.zero_add _
      rw [e0]
      refine ⟨.ref a, rfl, .int (i : Int), rfl, a, ns, i, rfl, hS', hl, by omega, hbits, fun p H1 np e1 b1 => ?_⟩
      have keepS : ∀ H2, Keep p H' H2 → SqL K H2 a (ns.map V.int) := fun H2 k => by
        have ex : Ex H' H2 := fun b o h => k b o (ne_of_none h np) h
        exact ex_l ex hS'
      refine ⟨p, rfl, b1, fun H2 k2 => ?_⟩
      exact ⟨true, rfl, iteF ⟨⟨_, rfl⟩, keepS H2 ((Keep.of e1).trans k2)⟩⟩
    · obtain ⟨⟨v1, rfl⟩, hS'⟩ := pv
      exact q H'
end
end Z
set_option maxHeartbeats 4000000
namespace Z
open PySem PySem.Spec PyProof.Rows L2 TL Evl NdefX
theorem err_binds {P : Program} {K : PySem.W.Frag} {x : Str} {fd : FuncData} {d : ZX.DefA} {ps : List Str} (E : ZX.Err P K x fd d) (hat : d.at_ = .met x "__init__") (e : ZX.fnC K (d.at_.ad K) = d.val) (c : d.ok K = true) (hdf : d.dfl = [])
    (h : ∀ (cc : Addr) (kV doc pm : Value) (an : Option Addr) (cdv ct : Value) (us : List Value), us.length = ps.length → bindArgs (PySem.W.fnX d.name d.qual d.params d.body d.scope [("__class__", cc)] .none kV doc pm an cdv ct) ⟨us, []⟩ = pure (ps.zip us)) : Binds K fd ps [] := by
  obtain ⟨kp, oc, od, osl, fd', q, k1, k2, _⟩ := d.parts e c
  obtain ⟨oc2, od2, osl2, dV, kV, doc, pm, ct, an, e2, q2⟩ := E.sup.fn
  have ead : d.at_.ad K = He.ma K (He.ga K x) "__init__" := by rw [hat] <;> rfl
  rw [ead] at q
  rw [q] at q2
  have e3 : fd' = fd := by
    have := Option.some.inj q2
    injection this with _ _ h3 _
    injection h3
  subst e3
  have hd : fd'.defaults = .none := by
    rcases k2 with ⟨_, h2⟩ | ⟨h2, _⟩
    · exact h2
    · exact absurd (show d.dvs K = [] by unfold ZX.DefA.dvs; rw [hdf]; rfl) h2
  rw [e2] at hd
  have hd : dV = .none := hd
  subst hd
  rw [e2]
  exact .all (h _ kV doc pm an _ ct)
end Z
set_option maxHeartbeats 2000000
namespace ZX
open PySem PySem.Spec PyProof.Rows L2 He
/-! ### the Hook, what is looked at often standing first -/
end ZX
set_option maxHeartbeats 2000000
namespace ZX
open PySem PySem.Spec PyProof.Rows L2 He
/-! ### the run looked at in parts: what one look makes the kernel hold is let go before the next -/
end ZX
set_option maxHeartbeats 0
namespace Z
open PySem PySem.Spec PyProof.Rows L2
theorem facts {P : Program} {w : World} {K : PySem.W.Frag} {h : Heap} {mg : Str → Option Value} {f : Addr} (hfl : ((P.main.file : Str) == flS) = true) (htop : (P.main.scope.names.lookup ("super" : Str)).isSome = false)
    (X : K.In h) (G : h.Ns mainGlobals mg) (hfa : mg ("law" : Str) = some (.ref f)) (c : ZX.SaysA fas exK fns K) :
    ∃ fd : FuncData, (∀ (s : Shared) (v : Value), BindsTo s fd ⟨[v], []⟩ [("script", v)]) ∧ ∀ base : Heap, K.In base → base.Ns mainGlobals mg → FnOk P w K mg base CX0 10 f fd ["script"] (spLawS K) := by
  have x := c.more
  obtain ⟨fd0, F0⟩ := ZX.DefA.funD (c.def_ 0 (d := d_wall) rfl).1 (c.def_ 0 (d := d_wall) rfl).2 rfl
  obtain ⟨fd1, F1⟩ := ZX.DefA.funD (c.def_ 1 (d := d_consists_of) rfl).1 (c.def_ 1 (d := d_consists_of) rfl).2 rfl
  obtain ⟨fd2, F2⟩ := ZX.DefA.funD (c.def_ 2 (d := d_is_plain) rfl).1 (c.def_ 2 (d := d_is_plain) rfl).2 rfl
  obtain ⟨fd3, F3⟩ := ZX.DefA.funD (c.def_ 3 (d := d_is_plain_lines) rfl).1 (c.def_ 3 (d := d_is_plain_lines) rfl).2 rfl
  obtain ⟨fd4, F4⟩ := ZX.DefA.funD (c.def_ 4 (d := d_is_path) rfl).1 (c.def_ 4 (d := d_is_path) rfl).2 rfl
  obtain ⟨fd5, F5⟩ := ZX.DefA.funD (c.def_ 5 (d := d_is_word) rfl).1 (c.def_ 5 (d := d_is_word) rfl).2 rfl
  obtain ⟨fd6, F6⟩ := ZX.DefA.funD (c.def_ 6 (d := d_is_field_name) rfl).1 (c.def_ 6 (d := d_is_field_name) rfl).2 rfl
  obtain ⟨fd7, F7⟩ := ZX.DefA.funD (c.def_ 7 (d := d_is_value) rfl).1 (c.def_ 7 (d := d_is_value) rfl).2 rfl
  obtain ⟨fd8, F8⟩ := ZX.DefA.funD (c.def_ 8 (d := d_are_fields) rfl).1 (c.def_ 8 (d := d_are_fields) rfl).2 rfl
  obtain ⟨fd9, F9⟩ := ZX.DefA.funD (c.def_ 9 (d := d_is_body) rfl).1 (c.def_ 9 (d := d_is_body) rfl).2 rfl
  obtain ⟨fd10, F10⟩ := ZX.DefA.funK (c.def_ 10 (d := d_write_message) rfl).1 (c.def_ 10 (d := d_write_message) rfl).2 rfl (exK_at x 23)
  obtain ⟨fd11, F11⟩ := ZX.DefA.funD (c.def_ 11 (d := d_is_framing) rfl).1 (c.def_ 11 (d := d_is_framing) rfl).2 rfl
  obtain ⟨fd12, F12⟩ := ZX.DefA.funD (c.def_ 12 (d := d_write_chunked) rfl).1 (c.def_ 12 (d := d_write_chunked) rfl).2 rfl
  obtain ⟨fd13, F13⟩ := ZX.DefA.funD (c.def_ 13 (d := d_field_lines) rfl).1 (c.def_ 13 (d := d_field_lines) rfl).2 rfl
  obtain ⟨fd14, F14⟩ := ZX.DefA.funD (c.def_ 14 (d := d_chunk_texts) rfl).1 (c.def_ 14 (d := d_chunk_texts) rfl).2 rfl
  obtain ⟨fd15, F15⟩ := ZX.DefA.funD (c.def_ 15 (d := d_law_bag) rfl).1 (c.def_ 15 (d := d_law_bag) rfl).2 rfl
  obtain ⟨fd16, F16⟩ := ZX.DefA.funD (c.def_ 16 (d := d_law_draw) rfl).1 (c.def_ 16 (d := d_law_draw) rfl).2 rfl
  obtain ⟨fd17, F17⟩ := ZX.DefA.funD (c.def_ 17 (d := d_law_pick) rfl).1 (c.def_ 17 (d := d_law_pick) rfl).2 rfl
  obtain ⟨fd18, F18⟩ := ZX.DefA.funD (c.def_ 18 (d := d_law_most) rfl).1 (c.def_ 18 (d := d_law_most) rfl).2 rfl
  obtain ⟨fd19, F19⟩ := ZX.DefA.funD (c.def_ 19 (d := d_law_word) rfl).1 (c.def_ 19 (d := d_law_word) rfl).2 rfl
  obtain ⟨fd20, F20⟩ := ZX.DefA.funD (c.def_ 20 (d := d_law_letters) rfl).1 (c.def_ 20 (d := d_law_letters) rfl).2 rfl
  obtain ⟨fd21, F21⟩ := ZX.DefA.funD (c.def_ 21 (d := d_law_signs) rfl).1 (c.def_ 21 (d := d_law_signs) rfl).2 rfl
  obtain ⟨fd22, F22⟩ := ZX.DefA.funD (c.def_ 22 (d := d_law_statuses) rfl).1 (c.def_ 22 (d := d_law_statuses) rfl).2 rfl
  obtain ⟨fd23, F23⟩ := ZX.DefA.funD (c.def_ 23 (d := d_law_may) rfl).1 (c.def_ 23 (d := d_law_may) rfl).2 rfl
  obtain ⟨fd24, F24⟩ := ZX.DefA.funD (c.def_ 24 (d := d_law_name) rfl).1 (c.def_ 24 (d := d_law_name) rfl).2 rfl
  obtain ⟨fd25, F25⟩ := ZX.DefA.funD (c.def_ 25 (d := d_law_value) rfl).1 (c.def_ 25 (d := d_law_value) rfl).2 rfl
  obtain ⟨fd26, F26⟩ := ZX.DefA.funD (c.def_ 26 (d := d_law_names) rfl).1 (c.def_ 26 (d := d_law_names) rfl).2 rfl
  obtain ⟨fd27, F27⟩ := ZX.DefA.funD (c.def_ 27 (d := d_law_body) rfl).1 (c.def_ 27 (d := d_law_body) rfl).2 rfl
  obtain ⟨fd28, F28⟩ := ZX.DefA.funD (c.def_ 28 (d := d_law_row) rfl).1 (c.def_ 28 (d := d_law_row) rfl).2 rfl
  obtain ⟨fd29, F29⟩ := ZX.DefA.funD (c.def_ 29 (d := d_law_made) rfl).1 (c.def_ 29 (d := d_law_made) rfl).2 rfl
  obtain ⟨fd30, F30⟩ := ZX.DefA.funD (c.def_ 30 (d := d_law_chunk_lines) rfl).1 (c.def_ 30 (d := d_law_chunk_lines) rfl).2 rfl
  obtain ⟨fd31, F31⟩ := ZX.DefA.funD (c.def_ 31 (d := d_law_form) rfl).1 (c.def_ 31 (d := d_law_form) rfl).2 rfl
  obtain ⟨fd32, F32⟩ := ZX.DefA.funD (c.def_ 32 (d := d_law_sizes) rfl).1 (c.def_ 32 (d := d_law_sizes) rfl).2 rfl
  obtain ⟨fd33, F33⟩ := ZX.DefA.funD (c.def_ 33 (d := d_law_options) rfl).1 (c.def_ 33 (d := d_law_options) rfl).2 rfl
  obtain ⟨fd34, F34⟩ := ZX.DefA.funD (c.def_ 34 (d := d_law_told) rfl).1 (c.def_ 34 (d := d_law_told) rfl).2 rfl
  obtain ⟨fd35, F35⟩ := ZX.DefA.funD (c.def_ 35 (d := d_law_right) rfl).1 (c.def_ 35 (d := d_law_right) rfl).2 rfl
  obtain ⟨fd36, F36⟩ := ZX.DefA.funD (c.def_ 36 (d := d_law) rfl).1 (c.def_ 36 (d := d_law) rfl).2 rfl
  obtain ⟨fd_Mi, F_Mi⟩ := ZX.DefA.funD (c.def_ 38 (d := d_Mi) rfl).1 (c.def_ 38 (d := d_Mi) rfl).2 rfl
  obtain ⟨fd_Qs, F_Qs⟩ := ZX.DefA.funD (c.def_ 39 (d := d_Qs) rfl).1 (c.def_ 39 (d := d_Qs) rfl).2 rfl
  obtain ⟨fd_Ss, F_Ss⟩ := ZX.DefA.funD (c.def_ 40 (d := d_Ss) rfl).1 (c.def_ 40 (d := d_Ss) rfl).2 rfl
  obtain ⟨fd_Qm, F_Qm⟩ := ZX.DefA.funD (c.def_ 41 (d := d_Qm) rfl).1 (c.def_ 41 (d := d_Qm) rfl).2 rfl
  obtain ⟨fd_Sm, F_Sm⟩ := ZX.DefA.funD (c.def_ 42 (d := d_Sm) rfl).1 (c.def_ 42 (d := d_Sm) rfl).2 rfl
  obtain ⟨fd_Rs, F_Rs⟩ := ZX.DefA.funD (c.def_ 43 (d := d_Rs) rfl).1 (c.def_ 43 (d := d_Rs) rfl).2 rfl
  obtain ⟨fd_Rq, F_Rq⟩ := ZX.DefA.funD (c.def_ 44 (d := d_Rq) rfl).1 (c.def_ 44 (d := d_Rq) rfl).2 rfl
  have g0 := He.glo_ok X G (c.fact 0 (f := .glo "_wall") rfl)
  have g1 := He.glo_ok X G (c.fact 1 (f := .glo "consists_of") rfl)
  have g2 := He.glo_ok X G (c.fact 2 (f := .glo "is_plain") rfl)
  have g3 := He.glo_ok X G (c.fact 3 (f := .glo "is_plain_lines") rfl)
  have g4 := He.glo_ok X G (c.fact 4 (f := .glo "is_path") rfl)
  have g5 := He.glo_ok X G (c.fact 5 (f := .glo "is_word") rfl)
  have g6 := He.glo_ok X G (c.fact 6 (f := .glo "is_field_name") rfl)
  have g7 := He.glo_ok X G (c.fact 7 (f := .glo "is_value") rfl)
  have g8 := He.glo_ok X G (c.fact 8 (f := .glo "are_fields") rfl)
  have g9 := He.glo_ok X G (c.fact 9 (f := .glo "is_body") rfl)
  have g10 := He.glo_ok X G (c.fact 10 (f := .glo "write_message") rfl)
  have g11 := He.glo_ok X G (c.fact 11 (f := .glo "is_framing") rfl)
  have g12 := He.glo_ok X G (c.fact 12 (f := .glo "write_chunked") rfl)
  have g13 := He.glo_ok X G (c.fact 13 (f := .glo "field_lines") rfl)
  have g14 := He.glo_ok X G (c.fact 14 (f := .glo "chunk_texts") rfl)
  have g15 := He.glo_ok X G (c.fact 15 (f := .glo "_law_bag") rfl)
  have g16 := He.glo_ok X G (c.fact 16 (f := .glo "_law_draw") rfl)
  have g17 := He.glo_ok X G (c.fact 17 (f := .glo "_law_pick") rfl)
  have g18 := He.glo_ok X G (c.fact 18 (f := .glo "_law_most") rfl)
  have g19 := He.glo_ok X G (c.fact 19 (f := .glo "_law_word") rfl)
  have g20 := He.glo_ok X G (c.fact 20 (f := .glo "_law_letters") rfl)
  have g21 := He.glo_ok X G (c.fact 21 (f := .glo "_law_signs") rfl)
  have g22 := He.glo_ok X G (c.fact 22 (f := .glo "_law_statuses") rfl)
  have g23 := He.glo_ok X G (c.fact 23 (f := .glo "_law_may") rfl)
  have g24 := He.glo_ok X G (c.fact 24 (f := .glo "_law_name") rfl)
  have g25 := He.glo_ok X G (c.fact 25 (f := .glo "_law_value") rfl)
  have g26 := He.glo_ok X G (c.fact 26 (f := .glo "_law_names") rfl)
  have g27 := He.glo_ok X G (c.fact 27 (f := .glo "_law_body") rfl)
  have g28 := He.glo_ok X G (c.fact 28 (f := .glo "_law_row") rfl)
  have g29 := He.glo_ok X G (c.fact 29 (f := .glo "_law_made") rfl)
  have g30 := He.glo_ok X G (c.fact 30 (f := .glo "_law_chunk_lines") rfl)
  have g31 := He.glo_ok X G (c.fact 31 (f := .glo "_law_form") rfl)
  have g32 := He.glo_ok X G (c.fact 32 (f := .glo "_law_sizes") rfl)
  have g33 := He.glo_ok X G (c.fact 33 (f := .glo "_law_options") rfl)
  have g34 := He.glo_ok X G (c.fact 34 (f := .glo "_law_told") rfl)
  have g35 := He.glo_ok X G (c.fact 35 (f := .glo "_law_right") rfl)
  have g36 := He.glo_ok X G (c.fact 36 (f := .glo "law") rfl)
  have g37 := He.glo_ok X G (c.fact 37 (f := .glo "Message") rfl)
  have g38 := He.glo_ok X G (c.fact 38 (f := .glo "Response") rfl)
  have g39 := He.glo_ok X G (c.fact 39 (f := .glo "Request") rfl)
  have g40 := He.glo_ok X G (c.fact 40 (f := .glo "InvalidFraming") rfl)
  have g41 := He.glo_ok X G (c.fact 41 (f := .glo "HopError") rfl)
  have g42 := He.glo_ok X G (c.fact 42 (f := .glo "InvalidMessage") rfl)
  have g43 := He.glo_ok X G (c.fact 43 (f := .glo "InvalidValue") rfl)
  have g44 := He.glo_ok X G (c.fact 44 (f := .glo "ReaderClosed") rfl)
  have T : Mg mg := ⟨He.free_ok X G (c.fact 45 (f := .free "len") rfl),
    He.free_ok X G (c.fact 46 (f := .free "all") rfl),
    He.free_ok X G (c.fact 47 (f := .free "any") rfl),
    He.free_ok X G (c.fact 48 (f := .free "abs") rfl),
    He.free_ok X G (c.fact 49 (f := .free "sum") rfl),
    He.free_ok X G (c.fact 50 (f := .free "isinstance") rfl),
    He.free_ok X G (c.fact 51 (f := .free "range") rfl),
    He.free_ok X G (c.fact 52 (f := .free "int") rfl),
    He.free_ok X G (c.fact 53 (f := .free "bool") rfl),
    He.free_ok X G (c.fact 54 (f := .free "str") rfl),
    He.free_ok X G (c.fact 55 (f := .free "min") rfl),
    He.free_ok X G (c.fact 56 (f := .free "max") rfl),
    He.free_ok X G (c.fact 57 (f := .free "list") rfl),
    (by obtain ⟨t, e⟩ := He.str_ok X G (c.fact 60 (f := .str "LOWER" "abcdefghijklmnopqrstuvwxyz") rfl); exact ⟨_, e, t, rfl⟩),
    (by obtain ⟨t, e⟩ := He.str_ok X G (c.fact 61 (f := .str "WORD_SIGNS" "abcdefghijklmnopqrstuvwxyz0123456789-") rfl); exact ⟨_, e, t, rfl⟩),
    (by obtain ⟨t, e⟩ := He.str_ok X G (c.fact 62 (f := .str "PATH_SIGNS" "abcdefghijklmnopqrstuvwxyz0123456789/-.") rfl); exact ⟨_, e, t, rfl⟩),
    (by obtain ⟨t, e⟩ := He.int_ok X G (c.fact 63 (f := .int "MOST_PATH" 60) rfl); exact ⟨_, e, t, rfl⟩),
    (by obtain ⟨t, e⟩ := He.int_ok X G (c.fact 64 (f := .int "MOST_NAME" 30) rfl); exact ⟨_, e, t, rfl⟩),
    (by obtain ⟨t, e⟩ := He.int_ok X G (c.fact 65 (f := .int "MOST_VALUE" 200) rfl); exact ⟨_, e, t, rfl⟩),
    He.free_ok X G (c.fact 58 (f := .free "ValueError") rfl)⟩
  have WB : Wb K mg (He.ga K "Message") := ⟨g37, ZX.read_ok (exK_at x 1), ZX.cint_ok (exK_at x 2), ZX.cint_ok (exK_at x 3)⟩
  have WR : Ws K mg (He.ga K "Response") := ⟨g38, He.cls_ok (c.fact 66 (f := .cls "Response") rfl), He.noat_ok (c.fact 68 (f := .noat "Response" "_first_line") rfl), He.noat_ok (c.fact 69 (f := .noat "Response" "_has_body") rfl), He.noat_ok (c.fact 70 (f := .noat "Response" "fields") rfl), He.noat_ok (c.fact 71 (f := .noat "Response" "body") rfl), He.noat_ok (c.fact 72 (f := .noat "Response" "status") rfl), ZX.read_ok (exK_at x 4), ⟨_, ZX.ctup_ok (exK_at x 5)⟩⟩
  have WQ : Wq K mg (He.ga K "Request") := ⟨g39, ⟨He.cls_ok (c.fact 73 (f := .cls "Request") rfl), He.noat_ok (c.fact 75 (f := .noat "Request" "_first_line") rfl), He.noat_ok (c.fact 76 (f := .noat "Request" "_has_body") rfl), He.noat_ok (c.fact 77 (f := .noat "Request" "fields") rfl), He.noat_ok (c.fact 78 (f := .noat "Request" "body") rfl)⟩, He.noat_ok (c.fact 79 (f := .noat "Request" "method") rfl), He.noat_ok (c.fact 80 (f := .noat "Request" "path") rfl), ZX.read_ok (exK_at x 6), ⟨_, ZX.ctup_ok (exK_at x 7)⟩⟩
  have WO : Wo K mg (He.ga K "Request") (He.ga K "Response") := ⟨g39, g38, WQ.wm, WR.wm, ZX.insC_ok (exK_at x 12), ZX.insC_ok (exK_at x 13), of_decide_eq_true (exK_at x 14), of_decide_eq_true (exK_at x 15)⟩
  have WV : We K mg (He.ga K "InvalidFraming") (He.ga K "HopError") (He.ga K "InvalidMessage") (He.ga K "InvalidValue") (He.ga K "ReaderClosed") := ⟨g40, g41, g42, g43, g44, ZX.excC_ok (exK_at x 17), of_decide_eq_true (exK_at x 18), of_decide_eq_true (exK_at x 19), of_decide_eq_true (exK_at x 20), of_decide_eq_true (exK_at x 21), of_decide_eq_true (exK_at x 22), He.exm_ok (c.fact 81 (f := .exm "InvalidFraming" "InvalidFraming" true) rfl)⟩
  obtain ⟨fd_if, E_if⟩ := ZX.err_ok (P := P) (x := "InvalidFraming") (exK_at x 16) hfl htop (He.eqO_ok (c.fact 59 (f := .free "super") rfl)) (He.eqO_ok (exK_at x 24)) rfl (c.def_ 37 (d := d_if) rfl).1 (c.def_ 37 (d := d_if) rfl).2 rfl
  have b_if := err_binds (ps := ["self"]) E_if rfl (c.def_ 37 (d := d_if) rfl).1 (c.def_ 37 (d := d_if) rfl).2 rfl fun _ _ _ _ _ _ _ us hl => match us, hl with | [_], _ => rfl
  have e := hfa.symm.trans g36
  cases e
  refine ⟨fd36, fun s v => (FunD.bindsA (ps := ["script"]) F36 fun _ _ _ _ _ _ us hl => match us, hl with | [_], _ => rfl) s [v] rfl, fun base _ _ => ?_⟩
  have c_consists_of := ok_consists_of (P := P) (w := w) (base := base) T  F1 g1
  have c_is_plain := ok_is_plain (P := P) (w := w) (base := base) T  F2 g2
  have c_is_plain_lines := ok_is_plain_lines (P := P) (w := w) (base := base) T c_is_plain F3 g3
  have c_is_body := ok_is_body (P := P) (w := w) (base := base) T WB c_is_plain_lines F9 g9
  have c_is_path := ok_is_path (P := P) (w := w) (base := base) T c_consists_of F4 g4
  have c_is_word := ok_is_word (P := P) (w := w) (base := base) T c_consists_of F5 g5
  have c_is_field_name := ok_is_field_name (P := P) (w := w) (base := base) T c_is_word F6 g6
  have c_is_value := ok_is_value (P := P) (w := w) (base := base) T c_is_plain F7 g7
  have c_are_fields := ok_are_fields (P := P) (w := w) (base := base) T WB c_is_field_name c_is_value F8 g8
  have MBR : Mb P w K mg base (He.ga K "Message") (He.ga K "Response") := ⟨_, fd_Mi, ZX.cfn_ok (exK_at x 0), ok_Mi T WR.wm c_are_fields c_is_body F_Mi, (FunD.bindsN (ps := ["self", "first_line", "has_body", "fields", "body"]) F_Mi fun _ _ _ _ _ _ us hl => match us, hl with | [_, _, _, _, _], _ => rfl)⟩
  obtain ⟨dsR, vsR, brR⟩ := FunD.binds1 (ps := ["self", "status", "fields", "body"]) F_Rs 4 2 (by simp [d_Rs, ZX.DefA.dvs]) rfl fun T kV doc pm an cdv ct us its h1 h2 => match us, its, h1, h2 with | [_, _, _, _], [_, _], _, _ => ⟨_, rfl, rfl⟩
  have edR : dsR = [] := by cases vsR; rfl
  subst edR
  have IR : Mkr P w K mg base (He.ga K "Response") := ⟨_, fd_Rs, He.mkr_ok (c.fact 67 (f := .mkr "Response") rfl), ok_Rs T WB WR MBR F_Rs, brR⟩
  have MBQ : Mb P w K mg base (He.ga K "Message") (He.ga K "Request") := ⟨_, fd_Mi, ZX.cfn_ok (exK_at x 0), ok_Mi T WQ.wm c_are_fields c_is_body F_Mi, (FunD.bindsN (ps := ["self", "first_line", "has_body", "fields", "body"]) F_Mi fun _ _ _ _ _ _ us hl => match us, hl with | [_, _, _, _, _], _ => rfl)⟩
  obtain ⟨dsQ, vsQ, brQ⟩ := FunD.binds1 (ps := ["self", "method", "path", "fields", "body"]) F_Rq 5 2 (by simp [d_Rq, ZX.DefA.dvs]) rfl fun T kV doc pm an cdv ct us its h1 h2 => match us, its, h1, h2 with | [_, _, _, _, _], [_, _], _, _ => ⟨_, rfl, rfl⟩
  have edQ : dsQ = [] := by cases vsQ; rfl
  subst edQ
  have IQ : Mkq P w K mg base (He.ga K "Request") := ⟨_, fd_Rq, He.mkr_ok (c.fact 74 (f := .mkr "Request") rfl), ok_Ri T WB WQ MBQ c_is_path F_Rq, brQ⟩
  have PO : Po P w K mg base (He.ga K "Request") (He.ga K "Response") := ⟨⟨⟨_, _, fd_Qs, ZX.prop_ok (exK_at x 8), ok_Ps WQ.wm F_Qs, (FunD.bindsN (ps := ["self"]) F_Qs fun _ _ _ _ _ _ us hl => match us, hl with | [_], _ => rfl)⟩⟩, ⟨⟨_, _, fd_Ss, ZX.prop_ok (exK_at x 9), ok_Ps WR.wm F_Ss, (FunD.bindsN (ps := ["self"]) F_Ss fun _ _ _ _ _ _ us hl => match us, hl with | [_], _ => rfl)⟩⟩, ⟨⟨_, _, fd_Qm, ZX.prop_ok (exK_at x 10), ok_Pm WQ.wm F_Qm, (FunD.bindsN (ps := ["self"]) F_Qm fun _ _ _ _ _ _ us hl => match us, hl with | [_], _ => rfl)⟩⟩, ⟨⟨_, _, fd_Sm, ZX.prop_ok (exK_at x 11), ok_Pm WR.wm F_Sm, (FunD.bindsN (ps := ["self"]) F_Sm fun _ _ _ _ _ _ us hl => match us, hl with | [_], _ => rfl)⟩⟩⟩
  have EF : Ef0 P w K mg base (He.ga K "InvalidFraming") := ⟨_, fd_if, E_if.sup.oex, E_if.init, E_if.ty, ok_if E_if.sup, b_if⟩
  have c_field_lines := ok_field_lines (P := P) (w := w) (base := base) T  F13 g13
  have c_chunk_texts := ok_chunk_texts (P := P) (w := w) (base := base) T  F14 g14
  have c_write_chunked := ok_write_chunked (P := P) (w := w) (base := base) T WO PO c_field_lines c_chunk_texts F12 g12
  have c_is_framing := ok_is_framing (P := P) (w := w) (base := base) T WO PO F11 g11
  obtain ⟨gA, kA⟩ := kb_A F10
  obtain ⟨gB, kB⟩ := kb_B F10
  obtain ⟨gC, kC⟩ := kb_C F10
  obtain ⟨gD, kD⟩ := kb_D F10
  have WM : Wmf P w K mg base (He.ga K "Request") (He.ga K "Response") (He.ga K "InvalidFraming") := ⟨_, fd10, gA, gB, gC, gD, _, ok_write_message T WO PO WV EF c_field_lines c_is_framing c_write_chunked F10, g10, F10.kp, kA, kB, kC, kD, kb_E F10⟩
  have c_law_letters := ok_law_letters (P := P) (w := w) (base := base) T  F20 g20
  have c_law_signs := ok_law_signs (P := P) (w := w) (base := base) T  F21 g21
  have c_law_bag := ok_law_bag (P := P) (w := w) (base := base) T  F15 g15
  have c_law_draw := ok_law_draw (P := P) (w := w) (base := base) T  F16 g16
  have c_law_pick := ok_law_pick (P := P) (w := w) (base := base) T c_law_draw F17 g17
  have c_law_most := ok_law_most (P := P) (w := w) (base := base) T c_law_draw F18 g18
  have c_law_word := ok_law_word (P := P) (w := w) (base := base) T c_law_draw F19 g19
  have c_law_name := ok_law_name (P := P) (w := w) (base := base) T c_law_most c_law_word c_law_letters F24 g24
  have c_law_value := ok_law_value (P := P) (w := w) (base := base) T c_law_most c_law_word c_law_signs F25 g25
  have c_law_names := ok_law_names (P := P) (w := w) (base := base) T c_law_draw c_law_name F26 g26
  have c_law_body := ok_law_body (P := P) (w := w) (base := base) T c_law_draw c_law_pick c_law_word c_law_signs F27 g27
  have c_law_may := ok_law_may (P := P) (w := w) (base := base) T  F23 g23
  have c_law_statuses := ok_law_statuses (P := P) (w := w) (base := base) T  F22 g22
  have c_law_row := ok_law_row (P := P) (w := w) (base := base) T c_law_draw c_law_pick c_law_most c_law_word c_law_letters c_law_statuses c_law_value c_law_may c_law_body F28 g28
  have c_law_made := ok_law_made (P := P) (w := w) (base := base) T WO IR IQ F29 g29
  have c_law_chunk_lines := ok_law_chunk_lines (P := P) (w := w) (base := base) T  F30 g30
  have c_law_form := ok_law_form (P := P) (w := w) (base := base) T c_law_may c_law_chunk_lines F31 g31
  have c_law_sizes := ok_law_sizes (P := P) (w := w) (base := base) T c_law_draw c_law_pick F32 g32
  have c_law_options := ok_law_options (P := P) (w := w) (base := base) T c_law_draw c_law_pick c_law_sizes c_law_may F33 g33
  have c_law_told := ok_law_told (P := P) (w := w) (base := base) T WV WM F34 g34
  have c_law_right := ok_law_right (P := P) (w := w) (base := base) T WO PO c_law_draw c_law_pick c_law_names c_law_row c_law_made c_law_options c_law_form c_law_told F35 g35
  exact ok_lawS T c_law_bag c_law_right F36
end Z
open PySem PySem.W PySem.Calls PyProof.Rows
set_option maxRecDepth 100000 in
set_option maxHeartbeats 0 in
theorem PySem.Challenge.cw_hopkeep_k02_messages_written_holds : PySem.Challenge.rw_hopkeep_k02_messages_written.Holds := by
  w_on; o_law
  refine HandSHeadRun.head_any (r := Z.R) (q := view Z.R.prog [55]) (H := Z.hk) (ob := Z.ob) (M := 16000) (loose := Z.others) (d := HandSHeadRun.topDef Z.R.prog 55) (kwd := []) Z.ob_eq (by kernel_rfl) (fun s => by kernel_rfl) Z.run
    (by kernel_rfl) (by kernel_rfl) (by kernel_rfl) (by rfl) (by first | assumption | decide +kernel) (by decide +kernel) ⟨rfl, rfl, rfl, rfl, rfl, by decide +kernel⟩ ?hw ?hc
  case hw => w_witness2
  case hc =>
    refine LamX.walk_ofTsE (l := PySem.Challenge.rw_hopkeep_k02_messages_written) (n := 63) (k := 10) (x := "script") (CX := fun _ => L2.CX0) rfl (by decide) (by kernel_rfl) ⟨rfl, by decide, by decide⟩ ?F (fun _ _ _ _ _ z => z)
    intro w mg fa h Y G hmg0
    obtain ⟨K, KX, c⟩ := Y
    have hmg : mg ("law" : PySem.Str) = some (.ref fa) := by
      have e : (HandSHeadRun.topDef Z.R.prog 55).name = ("law" : PySem.Str) := by kernel_rfl
      rw [← e]
      exact hmg0
    obtain ⟨fd, hb, hF⟩ := Z.facts (P := Z.R.prog) (w := w) (by kernel_rfl) (by kernel_rfl) KX G hmg c
    exact ⟨K, KX, fd, [], Z.spLawS K, (fun p hp => nomatch hp), (fun p hp => nomatch hp), (fun p hp => nomatch hp), hb, fun H a ns hl hz _ hS => ⟨a, ns, rfl, hS, hl, fun z hm => Z.bits_lt (n := Z.cap) (hz z hm), fun _ => rfl⟩, fun base h1 h2 _ => hF base h1 h2⟩
