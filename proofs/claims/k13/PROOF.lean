import PyProof.Rows.All
import Wide.All
import OpenK.AllK
import Wide.FinOn
import HandS.ForMost
import HandS.StrMore
import KE.IntTextLaws
import PyProof.MeetsSeq2
import PyProof.DictTable
import HandS.Codes
import HandS.Translate
import HandS.Defaults
import HandS.IsInst
import HandS.Wide
import HandS.WideBits
import HandS.EndBits
import HandS.HeadEnd
import HandS.Flow
import HandS.Steps
import HandS.Evl
import HandS.Walk
import KE.KSuper
import KE.KExcSuper
import HandS.Base
import HandS.Call
import HandS.Exc
import HandS.ExcInit
import HandS.ExcSuper
import HandS.Nested
import HandS.ClsMeth
import HandS.ExcOwn
import HandS.ExcIs
import HandS.ExcField
import HandS.OwnEq
import HandS.More
import HandS.MakeKw
import HandS.Style
import HandS.SlotsOwn
import KE.KCallOwn
import PyProof.Rows.StrRev
import HandS.HeadHook1
import HandS.HeadHook2
import HandS.ExcCtx
import HandS.HotCalls
import HandS.Words
import HandS.Hot
import HandS.Iter
import PyProof.StrLoop
import OpenK.KOps
import HandS.ListItems
import HandS.ListEq
import HandS.Conv
import KE.KDictList
import PyProof.EqKinds
import HandS.FStr
import HandS.WordsExc
import HandS.TryOnly
import HandS.Star
import HandS.Property
import HandS.Replace
import HandS.ReplaceLit
import HandS.ReplaceDef
import HandS.ExcInitHot
import HandS.Head0
import HandS.Head1
import HandS.Head2
import KE.KStateDown
import HandS.HeadWalk
import PySem.Challenge.RW_hopkeep_k13_whole_checks_tell_versions
set_option Elab.async false
set_option linter.all false
set_option maxRecDepth 100000
set_option maxHeartbeats 0
namespace ZX
open PySem PySem.Spec PyProof.Rows L2 He
abbrev FnC : Type := Option (Str × Str × Arguments × FuncBody × Scope × Addr × List Str × Addr)
def fnC (K : PySem.W.Frag) (a : Addr) : FnC := match K.lookup a with
  | some ⟨_, _, .func fd, _⟩ => some (fd.name, fd.qualname, fd.params, fd.body, fd.scope, fd.globals, fd.closure.map (·.1), fd.builtins)
  | _ => none
inductive Pl where
  | glo (x : Str)
  | met (x m : Str)
  | sta (x m : Str)
  | rcd (T : String) (x m : Str)
def Pl.ad (K : PySem.W.Frag) : Pl → Addr
  | .glo x => ga K x
  | .met x m => ma K (ga K x) m
  | .sta x m => match PySem.W.recIn K (ma K (ga K x) m) "staticmethod" with
    | some (.ref g :: _) => g
    | _ => 0
  | .rcd T x m => match PySem.W.recIn K (ma K (ga K x) m) T with
    | some (.ref g :: _) => g
    | _ => 0
structure DefA where
  at_ : Pl
  name : Str
  qual : Str
  params : Arguments
  body : List Stmt
  scope : Scope
  dfl : List Dv
  clo : List Str
def DefA.val (d : DefA) : FnC := some (d.name, d.qual, d.params, .stmts d.body, d.scope, mainGlobals, d.clo, builtinsNs)
def DefA.dvs (K : PySem.W.Frag) (d : DefA) : List V := d.dfl.map (Dv.v K)
def DefA.ok (K : PySem.W.Frag) (d : DefA) : Bool := PySem.W.keepIn K (.ref (d.at_.ad K)) && (match K.lookup (d.at_.ad K) with
  | some ⟨_, _, .func fd, _⟩ => PySem.W.codeIn K fd.code d.qual && dflB K fd.defaults (d.dvs K)
  | _ => false)
def ccOf (K : PySem.W.Frag) (a : Addr) : Addr := match K.lookup a with
  | some ⟨_, _, .func fd, _⟩ => (match fd.closure with
    | [(_, c)] => c
    | _ => 0)
  | _ => 0
def cdOf (K : PySem.W.Frag) (a : Addr) : Addr := match K.lookup a with
  | some ⟨_, _, .func fd, _⟩ => (match fd.code with
    | .ref c => c
    | _ => 0)
  | _ => 0
def oexClsB (K : PySem.W.Frag) (C : Addr) : Bool := match K.lookup C with
  | some ⟨.type "type", _, .cls cd, sl⟩ => (match cd.mro, sl.toList with
    | .ref C' :: bm, [_, _, _, _, some (.builtin n), _] => C' == C && n == "ValueError.__new__" && !cd.hasDel && cd.hasDict && HandSPX.refsVE bm
    | _, _ => false)
  | _ => false
def errB (K : PySem.W.Frag) (fl : Str) (x : Str) : Bool :=
  oexClsB K (ga K x) && (eqO (PySem.W.findIn K (.ref (ga K x)) "__setattr__") (some (some (.builtin "object.__setattr__"))) && (decide (PySem.W.subIn K (.ref (ga K x)) (.type "BaseException") = some true) && (decide (PySem.W.typeIn K (.ref (ga K x)) = some (.type "type")) && (PySem.W.keepIn K (.ref (ga K x)) &&
  (decide (PySem.W.subIn K (.ref (ga K x)) (.type "ValueError") = some true) && (decide (PySem.W.mroIn K (ga K x) (.ref (ga K x)) = some true) && (decide (PySem.W.ks_superIn K (ga K x) (ga K x) "__init__" = some (some (.builtin "ValueError.__init__"))) &&
  (eqO (PySem.W.findIn K (.ref (ga K x)) "__init__") (some (some (.ref (ma K (ga K x) "__init__")))) && (decide (PySem.W.typeIn K (.ref (ma K (ga K x) "__init__")) = some (.type "function")) &&
  ((match K.lookup (ccOf K (ma K (ga K x) "__init__")) with
    | some ⟨_, _, .cell (some v), _⟩ => decide (v = .ref (ga K x))
    | _ => false) && (match K.lookup (cdOf K (ma K (ga K x) "__init__")) with
    | some ⟨_, _, .fields vs, _⟩ => (match (vs[2]? : Option Value) with
      | some (Value.str f _) => decide (fl = f)
      | _ => false)
    | _ => false)))))))))))
def excCB (K : PySem.W.Frag) (D : Addr) : Bool := eqO (PySem.W.findIn K (.ref D) "__getattribute__") (some (some (.builtin "BaseException.__getattribute__"))) && (eqO (PySem.W.findIn K (.ref D) "__getattr__") (some none) && (decide (PySem.W.subIn K (.ref D) (.type "BaseException") = some true) && (PySem.W.hasDictIn K D &&
  (eqO (PySem.W.findIn K (.ref D) "__class__") (some (some (.builtin "object.__class__"))) && (eqO (PySem.W.specialIn K (.builtin "object.__class__") "__get__") (some (some (.builtin "getset_descriptor.__get__"))) && (decide (PySem.W.takesIn K (.builtin "object.__class__") = some true) && decide (PySem.W.mroIn K D (.type "object") = some true)))))))
def insCB (K : PySem.W.Frag) (D : Addr) : Bool := eqO (PySem.W.findIn K (.ref D) "__class__") (some (some (.builtin "object.__class__"))) && (eqO (PySem.W.specialIn K (.builtin "object.__class__") "__get__") (some (some (.builtin "getset_descriptor.__get__"))) && (decide (PySem.W.takesIn K (.builtin "object.__class__") = some true) && decide (PySem.W.mroIn K D (.type "object") = some true)))
def statB (K : PySem.W.Frag) (x m : Str) : Bool := PySem.W.readsIn K (ga K x) (.type "type") && (eqO (PySem.W.specialIn K (.ref (ga K x)) "__getattribute__") (some (some (.builtin "type.__getattribute__"))) &&
  ((match PySem.W.findCls K (.ref (ga K x)) (.type "type") m with
    | some (.get (.builtin n) (.ref p) .none (.ref C)) => decide (n = "staticmethod.__get__") && (decide (p = ma K (ga K x) m) && decide (C = ga K x))
    | _ => false) && ((match PySem.W.recIn K (ma K (ga K x) m) "staticmethod" with
    | some (.ref g :: _) => decide (g = (Pl.sta x m).ad K)
    | _ => false) && PySem.W.keepIn K (.ref ((Pl.sta x m).ad K)))))
def asS (g : Addr → Option Obj) : Nat → List Addr
  | 0 => [mainGlobals, cStatics]
  | n + 1 => growD g (asS g n)
abbrev AlA : Type := Bool × List FnC
def obsA (fa : List Fa) (ex : PySem.W.Frag → Bool) (fn : List DefA) (K : PySem.W.Frag) : AlA := ((fa.all fun f => f.ok K) && (ex K && fn.all fun d => d.ok K), fn.map fun d => fnC K (d.at_.ad K))
def valA (fn : List DefA) : AlA := (true, fn.map DefA.val)
def SaysA (fa : List Fa) (ex : PySem.W.Frag → Bool) (fn : List DefA) (K : PySem.W.Frag) : Prop := obsA fa ex fn K = valA fn
def obsAG (n : Nat) (fa : List Fa) (ex : PySem.W.Frag → Bool) (fn : List DefA) (g : Addr → Option Obj) : AlA := obsA fa ex fn (frG g (asS g n))
def hookA (n : Nat) (fa : List Fa) (ex : PySem.W.Frag → Bool) (fn : List DefA) : PySem.W.Hook where
  α := AlA
  obs := fun s => obsAG n fa ex fn s.heap.get?
  val := fun _ => valA fn
  says := fun _ h => ∃ K : PySem.W.Frag, K.In h ∧ SaysA fa ex fn K
  of := fun _ _ e => ⟨_, frG_in, e⟩
  keeps := fun _ _ _ ⟨K, hK, c⟩ k => ⟨K, PySem.W.Frag.In.keeps hK k, c⟩
theorem obsAG_eq {n : Nat} {fa : List Fa} {ex : PySem.W.Frag → Bool} {fn : List DefA} {g : Addr → Option Obj} {s : Shared} (h : ∀ a, g a = s.heap.get? a) : obsAG n fa ex fn g = (hookA n fa ex fn).obs s := by
  have e : g = s.heap.get? := funext h
  rw [e] <;> rfl
def readB (K : PySem.W.Frag) (x : Str) : Bool := PySem.W.readsIn K (ga K x) (.type "type") && eqO (PySem.W.specialIn K (.ref (ga K x)) "__getattribute__") (some (some (.builtin "type.__getattribute__")))
def cfnB (K : PySem.W.Frag) (x m : Str) : Bool := readB K x && ((match PySem.W.findCls K (.ref (ga K x)) (.type "type") m with
    | some (.val (.ref g)) => decide (g = ma K (ga K x) m)
    | _ => false) && PySem.W.keepIn K (.ref (ma K (ga K x) m)))
def cintB (K : PySem.W.Frag) (x m : Str) (n : Int) : Bool := match PySem.W.findCls K (.ref (ga K x)) (.type "type") m with
    | some (.val (.int i _)) => decide (i = n)
    | _ => false
def ctOf (K : PySem.W.Frag) (x m : Str) : Addr := match PySem.W.findCls K (.ref (ga K x)) (.type "type") m with
    | some (.val (.ref p)) => p
    | _ => 0
def strVs : List Value → List Str → Bool
  | [], [] => true
  | .str z _ :: vs, y :: ys => decide (z = y) && strVs vs ys
  | _, _ => false
def ctupB (K : PySem.W.Frag) (x m : Str) (zs : List Str) : Bool := (match PySem.W.findCls K (.ref (ga K x)) (.type "type") m with
    | some (.val (.ref p)) => decide (p = ctOf K x m)
    | _ => false) && (match K.lookup (ctOf K x m) with
    | some ⟨.type t, _, .seq its _, _⟩ => decide (t = "tuple") && (decide (its.size ≤ 100) && strVs its.toList zs)
    | _ => false)
def cmetB (K : PySem.W.Frag) (x m : Str) : Bool := (match PySem.W.findCls K (.ref (ga K x)) (.type "type") m with
    | some (.get (.builtin n) (.ref p) .none (.ref C)) => decide (n = "classmethod.__get__") && (decide (p = ma K (ga K x) m) && decide (C = ga K x))
    | _ => false) && ((match PySem.W.recIn K (ma K (ga K x) m) "classmethod" with
    | some (.ref g :: _) => decide (g = (Pl.rcd "classmethod" x m).ad K)
    | _ => false) && PySem.W.fnIn K ((Pl.rcd "classmethod" x m).ad K))
def propB (K : PySem.W.Frag) (x m : Str) : Bool := eqO (PySem.W.findIn K (.ref (ga K x)) m) (some (some (.ref (ma K (ga K x) m)))) && (eqO (PySem.W.specialIn K (.ref (ma K (ga K x) m)) "__get__") (some (some (.builtin "property.__get__"))) &&
  (decide (PySem.W.takesIn K (.ref (ma K (ga K x) m)) = some true) && (match PySem.W.recIn K (ma K (ga K x) m) "property" with
    | some (.ref g :: _) => decide (g = (Pl.rcd "property" x m).ad K)
    | _ => false)))
def frontOf (g : Addr → Option Obj) (as : List Addr) : List Addr :=
  (mainGlobals :: cStatics :: as.filterMap fun a => match g a with
    | some o => (match o.data with | .cls _ => some a | _ => none)
    | none => none) ++ ((as.filterMap fun a => match g a with
    | some o => (match o.data with | .cls cd => some cd.ns | _ => none)
    | none => none) ++ as.flatMap fun a => match g a with
    | some o => (match o.data with
      | .func fd => (match fd.code with | .ref c => [a, c] | _ => [a])
      | _ => [])
    | none => [])
def asQ (g : Addr → Option Obj) (n : Nat) : List Addr := frontOf g (asS g n) ++ asS g n
def obsBG (n : Nat) (fa : List Fa) (ex : PySem.W.Frag → Bool) (fn : List DefA) (g : Addr → Option Obj) : AlA := obsA fa ex fn (frG g (asQ g n))
def hookB (n : Nat) (fa : List Fa) (ex : PySem.W.Frag → Bool) (fn : List DefA) : PySem.W.Hook where
  α := AlA
  obs := fun s => obsBG n fa ex fn s.heap.get?
  val := fun _ => valA fn
  says := fun _ h => ∃ K : PySem.W.Frag, K.In h ∧ SaysA fa ex fn K
  of := fun _ _ e => ⟨_, frG_in, e⟩
  keeps := fun _ _ _ ⟨K, hK, c⟩ k => ⟨K, PySem.W.Frag.In.keeps hK k, c⟩
theorem obsBG_eq {n : Nat} {fa : List Fa} {ex : PySem.W.Frag → Bool} {fn : List DefA} {g : Addr → Option Obj} {s : Shared} (h : ∀ a, g a = s.heap.get? a) : obsBG n fa ex fn g = (hookB n fa ex fn).obs s := by
  have e : g = s.heap.get? := funext h
  rw [e] <;> rfl
def hookU : PySem.W.Hook where
  α := Unit
  obs := fun _ => ()
  val := fun _ => ()
  says := fun _ _ => True
  of := fun _ _ _ => trivial
  keeps := fun _ _ _ _ _ => trivial
def obU (s : PySem.W.SharedT) : Unit := ()
def obF (n : Nat) (fa : List Fa) (ex : PySem.W.Frag → Bool) (fn : List DefA) (s : PySem.W.SharedT) : Bool := (obsBG n fa ex fn (HandSHeadRun.getT s)).1
def obD (n : Nat) (fa : List Fa) (ex : PySem.W.Frag → Bool) (fn : List DefA) (s : PySem.W.SharedT) : List FnC := (obsBG n fa ex fn (HandSHeadRun.getT s)).2
def RunLooks (r : PySem.W.OpenRow) (M : Nat) (w : World) {β : Type} (f : PySem.W.SharedT → β) (v : β) : Prop := ∀ o : PySem.OsState, (HandSHeadRun.endF (HandSHeadRun.stepQ (HandSHeadRun.denQ HandSHeadRun.tabQ) r.prog w) M r.prog w o).map f = some v
theorem look_three {S A B C D : Type} {x : Option S} {f : S → A} {g : S → B} {c : S → C} {d : S → D} {t : S → Unit} {u : A} {v : B} {i : C} {j : D} (h0 : x.map (fun s => (f s, g s, t s)) = some (u, v, ())) (h1 : x.map c = some i) (h2 : x.map d = some j) : x.map (fun s => (f s, g s, (c s, d s))) = some (u, v, (i, j)) := by
  cases x with
  | none => cases h1
  | some s =>
    have e0 := Option.some.inj h0
    have a1 : f s = u := congrArg (fun z => z.1) e0
    have a2 : g s = v := congrArg (fun z => z.2.1) e0
    have a3 : c s = i := Option.some.inj h1
    have a4 : d s = j := Option.some.inj h2
    show some (f s, g s, (c s, d s)) = _
    rw [a1, a2, a3, a4]
theorem run_three {r : PySem.W.OpenRow} {q : Program} {M n : Nat} {loose : List PySem.Str} {w : World} {fa : List Fa} {ex : PySem.W.Frag → Bool} {fn : List DefA} (h0 : HandSHeadRun.RunEq r q hookU obU M loose w) (h1 : RunLooks r M w (obF n fa ex fn) true) (h2 : RunLooks r M w (obD n fa ex fn) (fn.map DefA.val)) :
    HandSHeadRun.RunEq r q (hookB n fa ex fn) (fun s => obsBG n fa ex fn (HandSHeadRun.getT s)) M loose w := fun o => look_three (h0 o) (h1 o) (h2 o)
end ZX
set_option maxHeartbeats 0
namespace Z
open PySem PySem.Spec PyProof.Rows L2
def top (i : Nat) : Stmt := PySem.Challenge.pw_hopkeep_k13_whole_checks_tell_versions.main.body.getD i (.Pass ⟨0, 0, 0, 0⟩)
def cbody : Stmt → List Stmt
  | .ClassDef _ _ _ b _ _ _ _ _ _ _ => b
  | _ => []
def inC (i j : Nat) : Stmt := (cbody (top i)).getD j (.Pass ⟨0, 0, 0, 0⟩)
abbrev s_wall : Stmt := top 0
abbrev s_consists_of : Stmt := top 14
abbrev s_is_plain : Stmt := top 15
abbrev s_is_plain_lines : Stmt := top 16
abbrev s_is_path : Stmt := top 17
abbrev s_is_word : Stmt := top 18
abbrev s_is_field_name : Stmt := top 19
abbrev s_is_value : Stmt := top 20
abbrev s_list_elements : Stmt := top 21
abbrev s_read_number : Stmt := top 22
abbrev s_read_reading : Stmt := top 23
abbrev s_is_mark_text : Stmt := top 29
abbrev s_read_mark : Stmt := top 30
abbrev s_settled : Stmt := top 31
abbrev s_read_marks_field : Stmt := top 35
abbrev s_read_reading_field : Stmt := top 36
abbrev s_without_own : Stmt := top 37
abbrev s_checking : Stmt := top 38
abbrev s_are_fields : Stmt := top 42
abbrev s_is_body : Stmt := top 43
abbrev s_law_bag : Stmt := top 45
abbrev s_law_take : Stmt := top 46
abbrev s_law_letter : Stmt := top 47
abbrev s_law_truth : Stmt := top 48
abbrev s_law_text : Stmt := top 49
abbrev s_law_world : Stmt := top 50
abbrev s_law_shown : Stmt := top 51
abbrev s_law_is_settled : Stmt := top 52
abbrev s_law_grow : Stmt := top 53
abbrev s_law_step : Stmt := top 54
abbrev s_law_tag : Stmt := top 55
abbrev s_law_note : Stmt := top 56
abbrev s_law_unchanged : Stmt := top 57
abbrev s_law_due : Stmt := top 58
abbrev s_law_checks : Stmt := top 59
abbrev s_law_truth_of_settled : Stmt := top 60
abbrev s_law_fields : Stmt := top 61
abbrev s_law_stay : Stmt := top 62
abbrev s_law : Stmt := top 63
abbrev s_iv : Stmt := inC 3 0
abbrev s_im : Stmt := inC 4 0
abbrev s_mi : Stmt := inC 27 0
abbrev s_mr : Stmt := inC 27 1
abbrev s_ms : Stmt := inC 27 2
abbrev s_mw : Stmt := inC 27 3
abbrev s_me : Stmt := inC 27 4
abbrev s_mt : Stmt := inC 27 5
abbrev s_li : Stmt := inC 28 0
abbrev s_lr : Stmt := inC 28 1
abbrev s_ls : Stmt := inC 28 2
abbrev s_lw : Stmt := inC 28 3
abbrev s_la : Stmt := inC 28 4
abbrev s_ll : Stmt := inC 28 5
abbrev s_Mi : Stmt := inC 40 2
abbrev s_Ri : Stmt := inC 41 1
abbrev s_Mv : Stmt := inC 40 4
abbrev s_Mj : Stmt := inC 40 5
abbrev s_Mw : Stmt := inC 40 6
abbrev s_Mo : Stmt := inC 40 7
abbrev s_Me : Stmt := inC 40 12
abbrev s_Rr : Stmt := inC 41 3
abbrev s_Ci : Stmt := inC 34 0
abbrev s_Co : Stmt := inC 34 1
abbrev s_Cn : Stmt := inC 34 2
abbrev s_Ct : Stmt := inC 34 5
abbrev s_Cu : Stmt := inC 33 0
abbrev s_Cb : Stmt := inC 34 3
abbrev s_Cc : Stmt := inC 34 4
abbrev s_Ch : Stmt := inC 34 6
abbrev s_Cv : Stmt := inC 34 7
def d_iv : ZX.DefA := ⟨.met "InvalidValue" "__init__", "__init__", "InvalidValue.__init__", L2.defArgs s_iv, L2.defBody s_iv, L2.defScope s_iv, [], ["__class__"]⟩
def d_im : ZX.DefA := ⟨.met "InvalidMark" "__init__", "__init__", "InvalidMark.__init__", L2.defArgs s_im, L2.defBody s_im, L2.defScope s_im, [], ["__class__"]⟩
/-! ### the head: facts by names, the run -/
def d_wall : ZX.DefA := ⟨.glo "_wall", "_wall", "_wall", L2.defArgs s_wall, L2.defBody s_wall, L2.defScope s_wall, [], []⟩
def d_consists_of : ZX.DefA := ⟨.glo "consists_of", "consists_of", "consists_of", L2.defArgs s_consists_of, L2.defBody s_consists_of, L2.defScope s_consists_of, [], []⟩
def d_is_plain : ZX.DefA := ⟨.glo "is_plain", "is_plain", "is_plain", L2.defArgs s_is_plain, L2.defBody s_is_plain, L2.defScope s_is_plain, [], []⟩
def d_is_plain_lines : ZX.DefA := ⟨.glo "is_plain_lines", "is_plain_lines", "is_plain_lines", L2.defArgs s_is_plain_lines, L2.defBody s_is_plain_lines, L2.defScope s_is_plain_lines, [], []⟩
def d_is_path : ZX.DefA := ⟨.glo "is_path", "is_path", "is_path", L2.defArgs s_is_path, L2.defBody s_is_path, L2.defScope s_is_path, [], []⟩
def d_is_word : ZX.DefA := ⟨.glo "is_word", "is_word", "is_word", L2.defArgs s_is_word, L2.defBody s_is_word, L2.defScope s_is_word, [], []⟩
def d_is_field_name : ZX.DefA := ⟨.glo "is_field_name", "is_field_name", "is_field_name", L2.defArgs s_is_field_name, L2.defBody s_is_field_name, L2.defScope s_is_field_name, [], []⟩
def d_is_value : ZX.DefA := ⟨.glo "is_value", "is_value", "is_value", L2.defArgs s_is_value, L2.defBody s_is_value, L2.defScope s_is_value, [], []⟩
def d_list_elements : ZX.DefA := ⟨.glo "list_elements", "list_elements", "list_elements", L2.defArgs s_list_elements, L2.defBody s_list_elements, L2.defScope s_list_elements, [], []⟩
def d_read_number : ZX.DefA := ⟨.glo "read_number", "read_number", "read_number", L2.defArgs s_read_number, L2.defBody s_read_number, L2.defScope s_read_number, [], []⟩
def d_read_reading : ZX.DefA := ⟨.glo "read_reading", "read_reading", "read_reading", L2.defArgs s_read_reading, L2.defBody s_read_reading, L2.defScope s_read_reading, [], []⟩
def d_is_mark_text : ZX.DefA := ⟨.glo "is_mark_text", "is_mark_text", "is_mark_text", L2.defArgs s_is_mark_text, L2.defBody s_is_mark_text, L2.defScope s_is_mark_text, [], []⟩
def d_read_mark : ZX.DefA := ⟨.glo "read_mark", "read_mark", "read_mark", L2.defArgs s_read_mark, L2.defBody s_read_mark, L2.defScope s_read_mark, [], []⟩
def d_settled : ZX.DefA := ⟨.glo "settled", "settled", "settled", L2.defArgs s_settled, L2.defBody s_settled, L2.defScope s_settled, [], []⟩
def d_read_marks_field : ZX.DefA := ⟨.glo "read_marks_field", "read_marks_field", "read_marks_field", L2.defArgs s_read_marks_field, L2.defBody s_read_marks_field, L2.defScope s_read_marks_field, [], []⟩
def d_read_reading_field : ZX.DefA := ⟨.glo "read_reading_field", "read_reading_field", "read_reading_field", L2.defArgs s_read_reading_field, L2.defBody s_read_reading_field, L2.defScope s_read_reading_field, [], []⟩
def d_without_own : ZX.DefA := ⟨.glo "without_own", "without_own", "without_own", L2.defArgs s_without_own, L2.defBody s_without_own, L2.defScope s_without_own, [], []⟩
def d_checking : ZX.DefA := ⟨.glo "checking", "checking", "checking", L2.defArgs s_checking, L2.defBody s_checking, L2.defScope s_checking, [], []⟩
def d_are_fields : ZX.DefA := ⟨.glo "are_fields", "are_fields", "are_fields", L2.defArgs s_are_fields, L2.defBody s_are_fields, L2.defScope s_are_fields, [], []⟩
def d_is_body : ZX.DefA := ⟨.glo "is_body", "is_body", "is_body", L2.defArgs s_is_body, L2.defBody s_is_body, L2.defScope s_is_body, [], []⟩
def d_law_bag : ZX.DefA := ⟨.glo "_law_bag", "_law_bag", "_law_bag", L2.defArgs s_law_bag, L2.defBody s_law_bag, L2.defScope s_law_bag, [], []⟩
def d_law_take : ZX.DefA := ⟨.glo "_law_take", "_law_take", "_law_take", L2.defArgs s_law_take, L2.defBody s_law_take, L2.defScope s_law_take, [], []⟩
def d_law_letter : ZX.DefA := ⟨.glo "_law_letter", "_law_letter", "_law_letter", L2.defArgs s_law_letter, L2.defBody s_law_letter, L2.defScope s_law_letter, [], []⟩
def d_law_truth : ZX.DefA := ⟨.glo "_law_truth", "_law_truth", "_law_truth", L2.defArgs s_law_truth, L2.defBody s_law_truth, L2.defScope s_law_truth, [], []⟩
def d_law_text : ZX.DefA := ⟨.glo "_law_text", "_law_text", "_law_text", L2.defArgs s_law_text, L2.defBody s_law_text, L2.defScope s_law_text, [], []⟩
def d_law_world : ZX.DefA := ⟨.glo "_law_world", "_law_world", "_law_world", L2.defArgs s_law_world, L2.defBody s_law_world, L2.defScope s_law_world, [], []⟩
def d_law_shown : ZX.DefA := ⟨.glo "_law_shown", "_law_shown", "_law_shown", L2.defArgs s_law_shown, L2.defBody s_law_shown, L2.defScope s_law_shown, [], []⟩
def d_law_is_settled : ZX.DefA := ⟨.glo "_law_is_settled", "_law_is_settled", "_law_is_settled", L2.defArgs s_law_is_settled, L2.defBody s_law_is_settled, L2.defScope s_law_is_settled, [], []⟩
def d_law_grow : ZX.DefA := ⟨.glo "_law_grow", "_law_grow", "_law_grow", L2.defArgs s_law_grow, L2.defBody s_law_grow, L2.defScope s_law_grow, [], []⟩
def d_law_step : ZX.DefA := ⟨.glo "_law_step", "_law_step", "_law_step", L2.defArgs s_law_step, L2.defBody s_law_step, L2.defScope s_law_step, [], []⟩
def d_law_tag : ZX.DefA := ⟨.glo "_law_tag", "_law_tag", "_law_tag", L2.defArgs s_law_tag, L2.defBody s_law_tag, L2.defScope s_law_tag, [], []⟩
def d_law_note : ZX.DefA := ⟨.glo "_law_note", "_law_note", "_law_note", L2.defArgs s_law_note, L2.defBody s_law_note, L2.defScope s_law_note, [], []⟩
def d_law_unchanged : ZX.DefA := ⟨.glo "_law_unchanged", "_law_unchanged", "_law_unchanged", L2.defArgs s_law_unchanged, L2.defBody s_law_unchanged, L2.defScope s_law_unchanged, [], []⟩
def d_law_due : ZX.DefA := ⟨.glo "_law_due", "_law_due", "_law_due", L2.defArgs s_law_due, L2.defBody s_law_due, L2.defScope s_law_due, [], []⟩
def d_law_checks : ZX.DefA := ⟨.glo "_law_checks", "_law_checks", "_law_checks", L2.defArgs s_law_checks, L2.defBody s_law_checks, L2.defScope s_law_checks, [], []⟩
def d_law_truth_of_settled : ZX.DefA := ⟨.glo "_law_truth_of_settled", "_law_truth_of_settled", "_law_truth_of_settled", L2.defArgs s_law_truth_of_settled, L2.defBody s_law_truth_of_settled, L2.defScope s_law_truth_of_settled, [], []⟩
def d_law_fields : ZX.DefA := ⟨.glo "_law_fields", "_law_fields", "_law_fields", L2.defArgs s_law_fields, L2.defBody s_law_fields, L2.defScope s_law_fields, [], []⟩
def d_law_stay : ZX.DefA := ⟨.glo "_law_stay", "_law_stay", "_law_stay", L2.defArgs s_law_stay, L2.defBody s_law_stay, L2.defScope s_law_stay, [], []⟩
def d_law : ZX.DefA := ⟨.glo "law", "law", "law", L2.defArgs s_law, L2.defBody s_law, L2.defScope s_law, [], []⟩
def d_mi : ZX.DefA := ⟨.met "Mark" "__init__", "__init__", "Mark.__init__", L2.defArgs s_mi, L2.defBody s_mi, L2.defScope s_mi, [.bl false], []⟩
def d_mr : ZX.DefA := ⟨.sta "Mark" "read", "read", "Mark.read", L2.defArgs s_mr, L2.defBody s_mr, L2.defScope s_mr, [], []⟩
def d_ms : ZX.DefA := ⟨.met "Mark" "strongly", "strongly", "Mark.strongly", L2.defArgs s_ms, L2.defBody s_ms, L2.defScope s_ms, [], []⟩
def d_mw : ZX.DefA := ⟨.met "Mark" "weakly", "weakly", "Mark.weakly", L2.defArgs s_mw, L2.defBody s_mw, L2.defScope s_mw, [], []⟩
def d_me : ZX.DefA := ⟨.met "Mark" "__eq__", "__eq__", "Mark.__eq__", L2.defArgs s_me, L2.defBody s_me, L2.defScope s_me, [], []⟩
def d_mt : ZX.DefA := ⟨.met "Mark" "__str__", "__str__", "Mark.__str__", L2.defArgs s_mt, L2.defBody s_mt, L2.defScope s_mt, [], []⟩
def d_li : ZX.DefA := ⟨.met "MarkList" "__init__", "__init__", "MarkList.__init__", L2.defArgs s_li, L2.defBody s_li, L2.defScope s_li, [.bl false], []⟩
def d_lr : ZX.DefA := ⟨.sta "MarkList" "read", "read", "MarkList.read", L2.defArgs s_lr, L2.defBody s_lr, L2.defScope s_lr, [], []⟩
def d_ls : ZX.DefA := ⟨.met "MarkList" "strongly", "strongly", "MarkList.strongly", L2.defArgs s_ls, L2.defBody s_ls, L2.defScope s_ls, [], []⟩
def d_lw : ZX.DefA := ⟨.met "MarkList" "weakly", "weakly", "MarkList.weakly", L2.defArgs s_lw, L2.defBody s_lw, L2.defScope s_lw, [], []⟩
def d_la : ZX.DefA := ⟨.met "MarkList" "__add__", "__add__", "MarkList.__add__", L2.defArgs s_la, L2.defBody s_la, L2.defScope s_la, [], []⟩
def d_ll : ZX.DefA := ⟨.met "MarkList" "__len__", "__len__", "MarkList.__len__", L2.defArgs s_ll, L2.defBody s_ll, L2.defScope s_ll, [], []⟩
def d_Mi : ZX.DefA := ⟨.met "Message" "__init__", "__init__", "Message.__init__", L2.defArgs s_Mi, L2.defBody s_Mi, L2.defScope s_Mi, [], []⟩
def d_Mv : ZX.DefA := ⟨.met "Request" "all_values", "all_values", "Message.all_values", L2.defArgs s_Mv, L2.defBody s_Mv, L2.defScope s_Mv, [], []⟩
def d_Mj : ZX.DefA := ⟨.met "Request" "joined", "joined", "Message.joined", L2.defArgs s_Mj, L2.defBody s_Mj, L2.defScope s_Mj, [], []⟩
def d_Mw : ZX.DefA := ⟨.met "Request" "with_field", "with_field", "Message.with_field", L2.defArgs s_Mw, L2.defBody s_Mw, L2.defScope s_Mw, [], []⟩
def d_Mo : ZX.DefA := ⟨.met "Request" "without", "without", "Message.without", L2.defArgs s_Mo, L2.defBody s_Mo, L2.defScope s_Mo, [], []⟩
def d_Rr : ZX.DefA := ⟨.met "Request" "remade", "remade", "Request.remade", L2.defArgs s_Rr, L2.defBody s_Rr, L2.defScope s_Rr, [], []⟩
def d_Ri : ZX.DefA := ⟨.met "Request" "__init__", "__init__", "Request.__init__", L2.defArgs s_Ri, L2.defBody s_Ri, L2.defScope s_Ri, [.adr (He.dflAt ("Request", some "__init__") 0), .str ""], []⟩
def d_Ci : ZX.DefA := ⟨.met "Conditions" "__init__", "__init__", "Conditions.__init__", L2.defArgs s_Ci, L2.defBody s_Ci, L2.defScope s_Ci, [], []⟩
def d_Co : ZX.DefA := ⟨.rcd "classmethod" "Conditions" "of", "of", "Conditions.of", L2.defArgs s_Co, L2.defBody s_Co, L2.defScope s_Co, [], []⟩
def d_Cc : ZX.DefA := ⟨.met "Conditions" "__call__", "__call__", "Conditions.__call__", L2.defArgs s_Cc, L2.defBody s_Cc, L2.defScope s_Cc, [], []⟩
def d_Ch : ZX.DefA := ⟨.met "Conditions" "_holds", "_holds", "Conditions._holds", L2.defArgs s_Ch, L2.defBody s_Ch, L2.defScope s_Ch, [], []⟩
def d_Cv : ZX.DefA := ⟨.met "Conditions" "_is_unchanged", "_is_unchanged", "Conditions._is_unchanged", L2.defArgs s_Cv, L2.defBody s_Cv, L2.defScope s_Cv, [], []⟩
def d_Cu : ZX.DefA := ⟨.met "Current" "__init__", "__init__", "Current.__init__", L2.defArgs s_Cu, L2.defBody s_Cu, L2.defScope s_Cu, [], []⟩
def fns : List ZX.DefA := [d_wall, d_consists_of, d_is_plain, d_is_plain_lines, d_is_path, d_is_word, d_is_field_name, d_is_value, d_list_elements, d_read_number, d_read_reading, d_is_mark_text, d_read_mark, d_settled, d_read_marks_field, d_read_reading_field, d_without_own, d_checking, d_are_fields, d_is_body, d_law_bag, d_law_take, d_law_letter, d_law_truth, d_law_text, d_law_world, d_law_shown, d_law_is_settled, d_law_grow, d_law_step, d_law_tag, d_law_note, d_law_unchanged, d_law_due, d_law_checks, d_law_truth_of_settled, d_law_fields, d_law_stay, d_law, d_iv, d_im, d_mi, d_mr, d_ms, d_mw, d_me, d_mt, d_li, d_lr, d_ls, d_lw, d_la, d_ll, d_Mi, d_Mv, d_Mj, d_Mw, d_Mo, d_Rr, d_Ri, d_Ci, d_Co, d_Cc, d_Ch, d_Cv, d_Cu]
def fas : List He.Fa := [.glo "_wall", .glo "consists_of", .glo "is_plain", .glo "is_plain_lines", .glo "is_path", .glo "is_word", .glo "is_field_name", .glo "is_value", .glo "list_elements", .glo "read_number", .glo "read_reading", .glo "is_mark_text", .glo "read_mark", .glo "settled", .glo "read_marks_field", .glo "read_reading_field", .glo "without_own", .glo "checking", .glo "are_fields", .glo "is_body", .glo "_law_bag", .glo "_law_take", .glo "_law_letter", .glo "_law_truth", .glo "_law_text", .glo "_law_world", .glo "_law_shown", .glo "_law_is_settled", .glo "_law_grow", .glo "_law_step", .glo "_law_tag", .glo "_law_note", .glo "_law_unchanged", .glo "_law_due", .glo "_law_checks", .glo "_law_truth_of_settled", .glo "_law_fields", .glo "_law_stay", .glo "law", .glo "HopError", .glo "InvalidValue", .glo "InvalidMark", .glo "Mark", .glo "MarkList", .glo "Current", .glo "Conditions", .glo "Message", .glo "Request", .free "len", .free "all", .free "any", .free "isinstance", .free "range", .free "int", .free "bool", .free "list", .free "str", .free "super", .str "LOWER" "abcdefghijklmnopqrstuvwxyz", .str "DIGITS" "0123456789", .str "WORD_SIGNS" "abcdefghijklmnopqrstuvwxyz0123456789-", .str "PATH_SIGNS" "abcdefghijklmnopqrstuvwxyz0123456789/-.", .int "MOST_PATH" 60, .int "MOST_NAME" 30, .int "MOST_VALUE" 200, .int "MOST_DIGITS" 6, .str "MARK_SIGNS" "abcdefghijklmnopqrstuvwxyz0123456789-.", .int "MOST_MARK" 40, .cls "MarkList", .noat "MarkList" "marks", .noat "MarkList" "star", .meth "MarkList" "strongly", .meth "MarkList" "weakly", .mkr "MarkList", .cls "Mark", .noat "Mark" "text", .noat "Mark" "weak", .meth "Mark" "strongly", .meth "Mark" "weakly", .mkr "Mark", .exm "InvalidMark" "InvalidMark" true, .exm "InvalidMark" "HopError" true, .exm "InvalidValue" "InvalidValue" true, .cls "Request", .mkr "Request", .cls "Conditions", .mkr "Conditions", .meth "Conditions" "_holds", .meth "Conditions" "_is_unchanged", .noat "Request" "_first_line", .noat "Request" "_has_body", .noat "Request" "fields", .noat "Request" "body", .noat "Request" "method", .noat "Request" "path", .meth "Request" "all_values", .meth "Request" "joined", .meth "Request" "with_field", .meth "Request" "without", .meth "Request" "remade", .noat "Conditions" "_method", .noat "Conditions" "_if_mark", .noat "Conditions" "_if_no_mark", .noat "Conditions" "_if_unchanged", .noat "Conditions" "_if_changed", .noat "Conditions" "_if_part", .cls "Current", .mkr "Current", .noat "Current" "mark", .noat "Current" "changed"]
def flS : Str := "/claim/cut.py"
def exs (K : PySem.W.Frag) : List Bool := [ZX.errB K flS "InvalidValue",
  ZX.errB K flS "InvalidMark",
  ZX.insCB K (He.ga K "Mark"),
  ZX.excCB K (He.ga K "InvalidValue"),
  ZX.excCB K (He.ga K "InvalidMark"),
  xfB K (He.ga K "InvalidValue"),
  xfB K (He.ga K "InvalidMark"),
  He.eqO (PySem.W.findIn K (.ref (He.ga K "InvalidValue")) "name") (some none),
  He.eqO (PySem.W.findIn K (.ref (He.ga K "InvalidMark")) "text") (some none),
  decide (PySem.W.kitOne K (.ref (He.ga K "Mark")) (.ref (He.ga K "Mark")) = some true),
  decide (PySem.W.kitOne K (.ref (He.ga K "InvalidMark")) (.ref (He.ga K "HopError")) = some true),
  decide (PySem.W.kitOne K (.ref (He.ga K "InvalidMark")) (.type "ValueError") = some true),
  decide (PySem.W.kitOne K (.ref (He.ga K "InvalidMark")) (.ref (He.ga K "InvalidValue")) = some false),
  decide (PySem.W.kitOne K (.ref (He.ga K "InvalidMark")) (.ref (He.ga K "InvalidMark")) = some true),
  decide (PySem.W.kitOne K (.ref (He.ga K "InvalidValue")) (.ref (He.ga K "HopError")) = some true),
  decide (PySem.W.kitOne K (.ref (He.ga K "InvalidValue")) (.type "ValueError") = some true),
  decide (PySem.W.kitOne K (.ref (He.ga K "InvalidValue")) (.ref (He.ga K "InvalidMark")) = some false),
  He.eqO (PySem.W.findIn K (.ref (He.ga K "Mark")) "__eq__") (some (some (.ref (He.ma K (He.ga K "Mark") "__eq__")))),
  PySem.W.isFn K (.ref (He.ma K (He.ga K "Mark") "__eq__")),
  He.eqO (PySem.W.findIn K (.ref (He.ga K "Mark")) "__str__") (some (some (.ref (He.ma K (He.ga K "Mark") "__str__")))),
  PySem.W.isFn K (.ref (He.ma K (He.ga K "Mark") "__str__")),
  ZX.statB K "Mark" "read",
  He.eqO (PySem.W.nsIn K cStatics "thirdparty.any") (some none),
  ZX.insCB K (He.ga K "MarkList"),
  decide (PySem.W.kitOne K (.ref (He.ga K "MarkList")) (.ref (He.ga K "MarkList")) = some true),
  He.eqO (PySem.W.findIn K (.ref (He.ga K "MarkList")) "__len__") (some (some (.ref (He.ma K (He.ga K "MarkList") "__len__")))),
  PySem.W.isFn K (.ref (He.ma K (He.ga K "MarkList") "__len__")),
  He.eqO (PySem.W.findIn K (.ref (He.ga K "MarkList")) "__add__") (some (some (.ref (He.ma K (He.ga K "MarkList") "__add__")))),
  PySem.W.isFn K (.ref (He.ma K (He.ga K "MarkList") "__add__")),
  PySem.W.selfFirst K (He.ga K "MarkList"),
  ZX.statB K "MarkList" "read",
  ZX.readB K "Message",
  ZX.cintB K "Message" "MOST_FIELDS" 40,
  ZX.cintB K "Message" "MOST_BODY" 100000,
  ZX.insCB K (He.ga K "Request"),
  ZX.readB K "Request",
  ZX.ctupB K "Request" "METHODS" ["get", "put", "delete"],
  decide (PySem.W.kitOne K (.ref (He.ga K "Request")) (.ref (He.ga K "Request")) = some true),
  decide (PySem.W.kitOne K (.ref (He.ga K "Request")) (.ref (He.ga K "Message")) = some true),
  ZX.cfnB K "Message" "__init__",
  ZX.readB K "Conditions",
  ZX.cmetB K "Conditions" "of",
  He.eqO (PySem.W.findIn K (.ref (He.ga K "Conditions")) "__call__") (some (some (.ref (He.ma K (He.ga K "Conditions") "__call__")))),
  PySem.W.isFn K (.ref (He.ma K (He.ga K "Conditions") "__call__")),
  PySem.W.fnIn K (He.ma K (He.ga K "Conditions") "__call__"),
  ZX.insCB K (He.ga K "Current"),
  decide (PySem.W.kitOne K (.ref (He.ga K "Current")) (.ref (He.ga K "Current")) = some true)]
def exK (K : PySem.W.Frag) : Bool := (exs K).all id
theorem exK_at {K : PySem.W.Frag} (h : exK K = true) (i : Nat) {b : Bool} (e : (exs K)[i]? = some b := by rfl) : b = true := List.all_eq_true.mp h b (List.mem_of_getElem? e)
abbrev R : PySem.W.OpenRow := PySem.W.OpenLaw.row PySem.Challenge.rw_hopkeep_k13_whole_checks_tell_versions
abbrev hk : PySem.W.Hook := ZX.hookB 5 fas exK fns
def ob (s : PySem.W.SharedT) : ZX.AlA := ZX.obsBG 5 fas exK fns (HandSHeadRun.getT s)
theorem ob_eq (s : PySem.W.SharedT) : ob s = hk.obs s.abs := ZX.obsBG_eq (HandSHeadRun.getT_eq s)
def others : List Str := (["HopError", "InvalidValue", "InvalidMark", "Mark", "MarkList", "Current", "Conditions", "Message", "Request", "LOWER", "DIGITS", "WORD_SIGNS", "PATH_SIGNS", "MOST_PATH", "MOST_NAME", "MOST_VALUE", "MOST_DIGITS", "MARK_SIGNS", "MOST_MARK", "_wall"] : List Str) ++ (["consists_of", "is_plain", "is_plain_lines", "is_path", "is_word", "is_field_name", "is_value", "list_elements", "read_number", "read_reading", "is_mark_text", "read_mark", "settled", "read_marks_field", "read_reading_field", "without_own", "checking", "are_fields", "is_body", "_law_bag"] : List Str) ++ (["_law_take", "_law_letter", "_law_truth", "_law_text", "_law_world", "_law_shown", "_law_is_settled", "_law_grow", "_law_step", "_law_tag", "_law_note", "_law_unchanged", "_law_due", "_law_checks", "_law_truth_of_settled", "_law_fields", "_law_stay"] : List Str)
theorem run0 (w : World) : HandSHeadRun.RunEq R (PySem.W.view R.prog [63]) ZX.hookU ZX.obU 16000 others w := by
  intro o
  kernel_rfl
theorem run1 (w : World) : ZX.RunLooks R 16000 w (ZX.obF 5 fas exK fns) true := by
  intro o
  kernel_rfl
theorem run2 (w : World) : ZX.RunLooks R 16000 w (ZX.obD 5 fas exK fns) (fns.map ZX.DefA.val) := by
  intro o
  kernel_rfl
theorem run (w : World) : HandSHeadRun.RunEq R (PySem.W.view R.prog [63]) hk ob 16000 others w :=
  have z := ZX.run_three (run0 w) (run1 w) (run2 w)
  z
end Z
namespace Z
open PySem PySem.Spec PyProof.Rows L2 TL PySem.Builtin.Str
/-! ### strings -/
def allIn (z s : Str) : Bool := (tl z).all fun c => decide (c ∈ tl s)
theorem len_tl' (x : Str) : (tl x).length = x.length := (len_tl x).symm
theorem tl_empty : tl ("" : Str) = [] := by decide +kernel
theorem eq_empty {x : Str} : x = ("" : Str) ↔ tl x = [] := by
  constructor
  · intro h; rw [h]; exact tl_empty
  · intro h; exact ext_tl (h.trans tl_empty.symm)
theorem contains_mem (y : Str) (c : Nat) : y.cps.contains c = decide (c ∈ tl y) := by
  have : y.cps.contains c = y.cps.toList.contains c := by
    cases y with | mk a => simp
  rw [this]
  by_cases h : c ∈ tl y
  · rw [decide_eq_true h]; exact List.contains_iff_mem.mpr h
  · rw [decide_eq_false h]
    cases e : y.cps.toList.contains c with
    | false => rfl
    | true => exact absurd (List.contains_iff_mem.mp e) h
/-- strip(signs) leaves nothing exactly if all are among the signs -/
theorem strip_all (z s : Str) : decide (Txt.stripChars z s = ("" : Str)) = allIn z s := by
  have hg : s.cps.contains = fun c => decide (c ∈ tl s) := funext (contains_mem s)
  have e0 : Txt.stripChars z s = strSub z (stripLo s.cps.contains true z) (stripHi s.cps.contains true z (stripLo s.cps.contains true z)) := stripBy_eq _ _ _ _
  obtain ⟨l1, l2, l3⟩ := lo_facts s.cps.contains z
  obtain ⟨h1, h2, h3, h4⟩ := hi_facts s.cps.contains z _ l1
  generalize hlo : stripLo s.cps.contains true z = lo at *
  generalize hhi : stripHi s.cps.contains true z lo = hi at *
  have hlen : (tl z).length = z.length := len_tl' z
  have e1 : tl (Txt.stripChars z s) = ((tl z).drop lo).take (hi - lo) := by rw [e0]; exact tl_strSub _ _ _
  have key : tl (Txt.stripChars z s) = [] ↔ hi = lo := by
    rw [e1]
    constructor
    · intro h
      have := congrArg List.length h
      rw [List.length_take, List.length_drop, hlen] at this
      simp only [List.length_nil] at this
      omega
    · intro h; rw [h]; simp
  have gd : ∀ k, k < z.length → s.cps.contains (z.cps.getD k 0) = true → z.cps.getD k 0 ∈ tl s := fun k _ h => by
    rw [contains_mem] at h; exact of_decide_eq_true h
  have gt : ∀ k (hk : k < z.length), z.cps.getD k 0 = (tl z)[k]'(by rw [hlen]; exact hk) := fun k hk => by
    rw [← getD_list]
    have : k < z.cps.toList.length := by rw [← hlen] at hk; exact hk
    show z.cps.toList.getD k 0 = z.cps.toList[k]
    rw [List.getD_eq_getElem?_getD, List.getElem?_eq_getElem this]
    rfl
  by_cases hh : hi = lo
  · rw [decide_eq_true (eq_empty.mpr (key.mpr hh))]
    symm
    refine List.all_eq_true.mpr fun c hc => decide_eq_true ?_
    obtain ⟨k, hk, e⟩ := List.mem_iff_getElem.mp hc
    have hk' : k < z.length := by rw [← hlen]; exact hk
    have : z.cps.getD k 0 ∈ tl s := by
      by_cases hkl : k < lo
      · exact gd k hk' (l2 k hkl)
      · exact gd k hk' (h3 k (by omega) hk')
    rw [gt k hk', e] at this
    exact this
  · have hne : ¬ Txt.stripChars z s = ("" : Str) := fun h => hh (key.mp (eq_empty.mp h))
    rw [decide_eq_false hne]
    symm
    cases e : allIn z s with
    | false => rfl
    | true =>
      exfalso
      have ha := List.all_eq_true.mp e
      have hlt : lo < z.length := by omega
      rcases l3 with h | h
      · omega
      · have hm : z.cps.getD lo 0 ∈ tl s := by
          rw [gt lo hlt]
          exact of_decide_eq_true (ha _ (List.getElem_mem _))
        rw [contains_mem, decide_eq_true hm] at h
        cases h
theorem strip_len (z s : Str) : (Txt.stripChars z s).length ≤ z.length := by
  have e0 : Txt.stripChars z s = strSub z (stripLo s.cps.contains true z) (stripHi s.cps.contains true z (stripLo s.cps.contains true z)) := stripBy_eq _ _ _ _
  rw [e0, len_tl, tl_strSub, List.length_take, List.length_drop, len_tl]
  omega
/-! ### plain -/
def signs : Str := (" !\"#$&'()*+,-./0123456789:;<=>?@ABCDEFGHIJKLMNOPQRSTUVWXYZ[\\]^_`" : Str) ++ ("abcdefghijklmnopqrstuvwxyz{|}~" : Str)
theorem signs_lt : ∀ c ∈ tl signs, c < 128 := by decide +kernel
theorem signs_128 : ∀ c, c < 128 → (Unicode.isPrintable c && decide (c ≠ 37)) = decide (c ∈ tl signs) := by decide +kernel
theorem filter_eq {l : List Nat} {p : Nat → Bool} : (l.filter p = l) ↔ l.all p = true := by
  rw [List.filter_eq_self, List.all_eq_true]
theorem plain_all (l : List Nat) : (l.all (fun c => decide (c < 128)) && (l.all Unicode.isPrintable && l.all fun c => decide (c ≠ 37))) = l.all fun c => decide (c ∈ tl signs) := by
  induction l with
  | nil => rfl
  | cons a r ih =>
    rw [List.all_cons, List.all_cons, List.all_cons, List.all_cons, ← ih]
    by_cases h : a < 128
    · rw [← signs_128 a h, decide_eq_true h]
      cases Unicode.isPrintable a <;> cases decide (a ≠ 37) <;> cases r.all (fun c => decide (c < 128)) <;> cases r.all Unicode.isPrintable <;> rfl
    · have h2 : ¬ a ∈ tl signs := fun hm => h (signs_lt a hm)
      rw [decide_eq_false h, decide_eq_false h2]
      cases r.all (fun c => decide (c < 128)) <;> cases r.all Unicode.isPrintable <;> rfl
theorem isascii_tl (z : Str) : Txt.isascii z = (tl z).all fun c => decide (c < 128) := by
  unfold Txt.isascii
  rw [← Array.all_toList]
theorem isprintable_tl (z : Str) : Txt.isprintable z = (tl z).all Unicode.isPrintable := by
  unfold Txt.isprintable
  rw [← Array.all_toList]
/-- the text without its percent signs -/
def no37 (z : Str) : Str := ⟨((tl z).filter fun c => decide (c ≠ 37)).toArray⟩
theorem no37_tl (z : Str) : tl (no37 z) = (tl z).filter fun c => decide (c ≠ 37) := rfl
theorem no37_eq (z : Str) : decide (no37 z = z) = (tl z).all fun c => decide (c ≠ 37) := by
  cases e : (tl z).all fun c => decide (c ≠ 37) with
  | true => exact decide_eq_true (ext_tl ((no37_tl z).trans (filter_eq.mpr e)))
  | false =>
    refine decide_eq_false fun h => ?_
    have : (tl z).filter (fun c => decide (c ≠ 37)) = tl z := by rw [← no37_tl, h]
    rw [filter_eq.mp this] at e
    cases e
theorem plain_eq (z : Str) : (Txt.isascii z && (Txt.isprintable z && decide (no37 z = z))) = allIn z signs := by
  rw [isascii_tl, isprintable_tl, no37_eq]
  exact plain_all (tl z)
/-! ### the first sign -/
def hd (z : Str) : Option Nat := (tl z).head?
theorem hd_some {z : Str} (h : 1 ≤ z.length) : ∃ c, hd z = some c ∧ z.cps[0]? = some c := by
  rw [len_tl] at h
  cases e : tl z with
  | nil => rw [e] at h; exact absurd h (by decide)
  | cons c r =>
    refine ⟨c, by unfold hd; rw [e]; rfl, ?_⟩
    have : z.cps.toList[0]? = some c := by show (tl z)[0]? = _; rw [e]; rfl
    simpa using this
theorem cut1_tl (z : Str) : tl (cutS z none (some 1)) = (tl z).take 1 := by
  show ((tl z).drop (HT.sIx z.length 0 none)).take (HT.sIx z.length z.length (some 1) - HT.sIx z.length 0 none) = _
  rw [HT.sIx_none, show HT.sIx z.length z.length (some 1) = min 1 z.length from HT.sIx_nat _ _ 1, List.drop_zero, Nat.sub_zero]
  rw [len_tl]
  cases tl z with
  | nil => rfl
  | cons c r =>
    rw [List.length_cons, show min 1 (r.length + 1) = 1 by omega]
theorem cutFrom1_tl (z : Str) : tl (cutS z (some 1) none) = (tl z).drop 1 := by
  show ((tl z).drop (HT.sIx z.length 0 (some 1))).take (HT.sIx z.length z.length none - HT.sIx z.length 0 (some 1)) = _
  rw [HT.sIx_none, show HT.sIx z.length 0 (some 1) = min 1 z.length from HT.sIx_nat _ _ 1]
  rw [len_tl]
  cases tl z with
  | nil => rfl
  | cons c r =>
    rw [List.length_cons, show min 1 (r.length + 1) = 1 by omega]
    exact List.take_of_length_le (by simp)
theorem cut1_one {z : Str} {c : Nat} (h : hd z = some c) : cutS z none (some 1) = ⟨#[c]⟩ := by
  refine ext_tl ?_
  rw [cut1_tl]
  unfold hd at h
  cases e : tl z with
  | nil => rw [e] at h; cases h
  | cons a r =>
    rw [e] at h
    cases h
    rfl
theorem cut1_nil {z : Str} (h : hd z = none) : cutS z none (some 1) = ("" : Str) := by
  refine eq_empty.mpr ?_
  rw [cut1_tl]
  unfold hd at h
  cases e : tl z with
  | nil => rfl
  | cons a r => rw [e] at h; cases h
theorem one_eq (c d : Nat) : ((⟨#[c]⟩ : Str) = ⟨#[d]⟩) ↔ c = d := by
  constructor
  · intro h
    have := congrArg tl h
    have h2 : ([c] : List Nat) = [d] := this
    cases h2
    rfl
  · intro h; rw [h]
end Z
set_option maxHeartbeats 2000000
namespace Z
open PySem PySem.Spec PyProof.Rows L2 TL PySem.Builtin PySem.Builtin.Str
/-! ### text.translate({37: None}) for a text of ASCII signs: the percent signs go, all others stay -/
/-- nothing that stood in the heap has changed -/
abbrev Old (h h' : Heap) : Prop := ∀ b o, h.get? b = some o → h'.get? b = some o
/-- what the table holds: the key 37 with None, and no other key -/
structure Drops (f : Key → Option Value) : Prop where
  here : f (Sum.inl 37) = some .none
  away : ∀ c : Nat, c ≠ 37 → f (Sum.inl (c : Int)) = none
theorem drops_one : Drops (valueAt [((Sum.inl 37 : Key), Value.none)]) where
  here := rfl
  away := fun c hc => by
    have e : decide ((Sum.inl 37 : Key) = Sum.inl (c : Int)) = false := by
      rw [key_ll]
      exact beq_eq_false_iff_ne.mpr (by omega)
    show ((List.find? _ [((Sum.inl 37 : Key), Value.none)]).map (·.2)) = none
    rw [List.find?_cons, e]
    rfl
section
variable {prog : Program} {w : World} {A : Around} {E : Value → Shared → Prop} {s : Shared} {d : Addr}
/-- the sign 37 is found, with None -/
theorem look_here {f : Key → Option Value} {Q : Mapped → Shared → Prop} (T : Drops f) (hm : s.heap.MapOf (mixKind prog w) d f)
    (q : ∀ k, Q .drop { s with toks := k }) : wpAny (model prog w) A (tableLookup (.ref d) 37) Q E s := by
  unfold tableLookup
  refine wpAny_bind (wpAny_attempt (wpAny_bind (wpAny_mkInt ?_)))
  exact wpAny_getItem_of (knd := mixKind prog w) (k := Sum.inl ((37 : Nat) : Int)) (mixKind_int _ _ _ _) hm T.here (wpAny_pure (q _))
/-- any other sign is not: the KeyError of the look is taken for «keep» -/
theorem look_away {f : Key → Option Value} {Q : Mapped → Shared → Prop} {c : Nat} (hc : c ≠ 37) (calm : A.handled = none) (low : (d == sysModules) = false) (T : Drops f) (hm : s.heap.MapOf (mixKind prog w) d f)
    (q : ∀ h' k, Old s.heap h' → Q .keep { s with heap := h', toks := k }) : wpAny (model prog w) A (tableLookup (.ref d) c) Q E s := by
  unfold tableLookup
  refine wpAny_bind (wpAny_attempt (wpAny_bind (wpAny_mkInt ?_)))
  refine wpAny_getItem_missing_of (knd := mixKind prog w) (k := Sum.inl (c : Int)) (mixKind_int _ _ _ _) low calm hm (T.away c hc) ?_
  intro h' e new
  obtain ⟨eo, _, get, isKey, _⟩ := new.there
  have kin : isSubtype (.type "KeyError") (.type "LookupError") = pure true := key_is_lookup
  refine wpAny_bind (wpAny_isInstance (T := "KeyError") (b := true) ⟨eo, get, isKey⟩ kin ?_)
  exact wpAny_bind (wpAny_rule (wpAny_pure (q h' _ new.keeps)))
end
def left37 (l : List Nat) : List Nat := l.filter fun c => decide (c ≠ 37)
theorem left_nil : left37 [] = [] := rfl
theorem left_here (l : List Nat) : left37 (l ++ [37]) = left37 l := by
  unfold left37
  rw [List.filter_append]
  simp
theorem left_away {c : Nat} (h : c ≠ 37) (l : List Nat) : left37 (l ++ [c]) = left37 l ++ [c] := by
  unfold left37
  rw [List.filter_append]
  simp [h]
theorem left_len (l : List Nat) : (left37 l).length ≤ l.length := List.length_filter_le _ _
def sign (c : Nat) : Str := ⟨#[c]⟩
theorem glue_signs (l : List Nat) : ∀ a : Array Nat, (l.map sign).foldl (fun acc (p : Str) => acc ++ p.cps) a = a ++ l.toArray := by
  induction l with
  | nil => intro a; simp
  | cons c r ih =>
    intro a
    show (r.map sign).foldl (fun acc (p : Str) => acc ++ p.cps) (a ++ #[c]) = _
    rw [ih]
    refine Array.toList_inj.mp ?_
    simp
/-- where a sign of the fast road goes -/
def goes37 (c : Nat) : Option Nat := if c = 37 then none else some c
/-- the memo of the signs asked before -/
def Memo (known : List (Nat × Option Nat)) : Prop := ∀ c a, known.lookup c = some a → a = goes37 c
theorem memo_nil : Memo [] := fun _ _ h => nomatch h
theorem Memo.more {known : List (Nat × Option Nat)} (m : Memo known) (c : Nat) : Memo ((c, goes37 c) :: known) := fun c' a h => by
  rcases lookup_new h with ⟨rfl, e⟩ | h
  · exact e
  · exact m c' a h
abbrev Walk37 : Type := List Str × Nat × Bool × List (Nat × Option Nat) × Bool
/-- the state behind the signs `past`, ahead of `rest` -/
structure Mid37 (x : List Nat) (s : Shared) (rest : List Nat) (past : List Nat) (pieces : List Str) (known : List (Nat × Option Nat)) (h' : Heap) : Prop where
  cut : x = past ++ rest
  made : pieces.reverse = (left37 past).map sign
  memo : Memo known
  old : Old s.heap h'
def At37 (x : List Nat) (s : Shared) (rest : List Nat) (st : Walk37) (s' : Shared) : Prop :=
  ∃ past pieces known h' k, Mid37 x s rest past pieces known h' ∧ st = (pieces, (left37 past).length, true, known, false) ∧ s' = { s with heap := h', toks := k }
section
variable {x rest past : List Nat} {s : Shared} {c : Nat} {pieces : List Str} {known : List (Nat × Option Nat)} {h' : Heap} {k : Nat}
theorem Mid37.away (m : Mid37 x s (c :: rest) past pieces known h') (hc : c ≠ 37) {known' : List (Nat × Option Nat)} (hk : Memo known') {h2 : Heap} (old : Old s.heap h2) :
    At37 x s rest (sign c :: pieces, (left37 past).length + 1, true, known', false) { s with heap := h2, toks := k } := by
  refine ⟨past ++ [c], sign c :: pieces, known', h2, k, ⟨?_, ?_, hk, old⟩, ?_, rfl⟩
  · rw [m.cut, List.append_assoc, List.singleton_append]
  · rw [left_away hc, List.map_append, List.reverse_cons, m.made]
    rfl
  · rw [left_away hc, List.length_append, List.length_singleton]
theorem Mid37.here (m : Mid37 x s (37 :: rest) past pieces known h') {known' : List (Nat × Option Nat)} (hk : Memo known') {h2 : Heap} (old : Old s.heap h2) :
    At37 x s rest (pieces, (left37 past).length, true, known', false) { s with heap := h2, toks := k } := by
  refine ⟨past ++ [37], pieces, known', h2, k, ⟨?_, ?_, hk, old⟩, ?_, rfl⟩
  · rw [m.cut, List.append_assoc, List.singleton_append]
  · rw [left_here, m.made]
  · rw [left_here]
end
theorem meets37 {prog : Program} {w : World} {x : List Nat} {t : Tok} {d : Addr} {f : Key → Option Value} (T : Drops f) (low : (d == sysModules) = false) (few : x.length ≤ 16000000) (ascii : ∀ c ∈ x, c < 128) :
    MeetsIn prog w («str.translate» ⟨[.str (SX.S x) t, .ref d], []⟩) (fun A R s => A.handled = none ∧ s.heap.MapOf (mixKind prog w) d f ∧
      ∀ (v : Value) (h' : Heap) (k : Nat), Old s.heap h' → (∃ t', v = .str (SX.S (left37 x)) t') → R (.ok (.ret v)) { s with heap := h', toks := k }) := by
  refine .of_wp fun A R s hyp => ?_
  obtain ⟨calm, tab, done⟩ := hyp
  have calm1 : A.in1.handled = none := calm
  show wpAny _ _ (if ((SX.S x).length == 0) = true then _ else (do
    let st ← forIn (SX.S x).cps (([], 0, (SX.S x).cps.all fun y => decide (y < 128), [], false) : Walk37) _
    _)) _ _ s
  by_cases empty : x = []
  · rw [if_pos (show ((SX.S x).length == 0) = true by rw [SX.S_len, empty]; rfl)]
    subst empty
    exact wpAny_bind (wpAny_rule (wpAny_pure ⟨_, rfl, done _ s.heap s.toks (fun _ _ e => e) ⟨t, rfl⟩⟩))
  · have full : ¬ ((SX.S x).length == 0) = true := fun h => by
      rw [SX.S_len, beq_iff_eq] at h
      exact empty (List.eq_nil_of_length_eq_zero h)
    have fast : ((SX.S x).cps.all fun y => decide (y < 128)) = true := by
      rw [← Array.all_toList]
      exact List.all_eq_true.mpr fun c hc => decide_eq_true (ascii c hc)
    rw [if_neg full, fast]
    refine wpAny_bind (MeetsSeq2.wpAny_forIn_array _ (At37 x s) _ (fun c rest st s' at_ => ?_) (fun st s' at_ => ?_) (SX.S x).cps ([], 0, true, [], false) ?_)
    · obtain ⟨past, pieces, known, h', k, m, rfl, rfl⟩ := at_
      have short : tooLong (left37 past).length = false := by
        have q := congrArg List.length m.cut
        rw [List.length_append] at q
        have := left_len past
        exact PyProof.Rows.short24 (by omega)
      have tab' : h'.MapOf (mixKind prog w) d f := by
        obtain ⟨o, es, ep, get, r⟩ := tab
        exact ⟨o, es, ep, m.old _ _ get, r⟩
      show wpAny _ _ (if tooLong (left37 past).length = true then _ else (if true = true then _ else _)) _ _ _
      rw [short, if_neg Bool.false_ne_true, if_pos rfl]
      by_cases hc : c = 37
      · subst hc
        cases ask : known.lookup 37 with
        | some a =>
          have ea : a = none := m.memo _ _ ask
          subst ea
          exact wpAny_bind (wpAny_pure (wpAny_pure (m.here m.memo m.old)))
        | none =>
          exact wpAny_bind (look_here T tab' fun k2 => wpAny_bind (wpAny_pure (wpAny_pure (m.here (m.memo.more 37) m.old))))
      · have ego : goes37 c = some c := if_neg hc
        have more := m.memo.more c
        rw [ego] at more
        cases ask : known.lookup c with
        | some a =>
          have ea : a = some c := (m.memo _ _ ask).trans ego
          subst ea
          exact wpAny_bind (wpAny_pure (wpAny_pure (m.away hc m.memo m.old)))
        | none =>
          exact wpAny_bind (look_away hc calm1 low T tab' fun h2 k2 old => wpAny_bind (wpAny_pure (wpAny_pure (m.away hc more fun b o e => old b o (m.old b o e)))))
    · obtain ⟨past, pieces, known, h', k, m, rfl, rfl⟩ := at_
      have ex : past = x := by rw [m.cut, List.append_nil]
      have made := m.made
      rw [ex] at made ⊢
      have := left_len x
      have text : (⟨#[] ++ (left37 x).toArray⟩ : Str) = SX.S (left37 x) := by simp
      show wpAny _ _ (if tooLong (left37 x).length = true then _ else retStr ⟨List.foldl (fun acc (p : Str) => acc ++ p.cps) #[] pieces.reverse⟩) _ _ _
      rw [PyProof.Rows.short24 (n := (left37 x).length) (by omega), if_neg Bool.false_ne_true, made, glue_signs, text]
      exact wpAny_bind (wpAny_mkStr (wpAny_pure ⟨_, rfl, done _ h' _ m.old ⟨_, rfl⟩⟩) (by rw [SX.S_len, sizeLine_eq]; omega))
    · refine ⟨[], [], [], s.heap, s.toks, ⟨?_, rfl, memo_nil, fun _ _ e => e⟩, rfl, rfl⟩
      show x = [] ++ x.toArray.toList
      simp
/-- the rule, over the layer: the table a dict that the call has made -/
theorem mt_translate37 {X : Cx} (hc : X.calm = true) : MtR X "str.translate" (fun x xs H Q => ∃ (z : Str) (d : Addr), x = .str z ∧ xs = [.ref d] ∧ H d = some (.dK [(Sum.inl 37, .non)]) ∧ (∀ c ∈ tl z, c < 128) ∧ z.length ≤ 16000000 ∧ Q (.str (no37 z)) H) := by
  intro pins s σ H x xs v us Q I rx rs ⟨z, d, ex, exs, hd, ascii, few, q⟩
  rw [ex] at rx
  rw [exs] at rs
  obtain ⟨t, ev⟩ := rx
  rw [ev]
  cases rs with
  | cons r1 none_left =>
    cases none_left
    have eu := r1
    rw [show _ = Value.ref d from eu]
    obtain ⟨_, low, vs, kv, is⟩ := I.hok d _ hd
    have evs : vs = [((Sum.inl 37 : Key), Value.none)] := by
      cases kv with
      | cons pq none_left =>
        cases none_left
        exact congrArg (fun p => [p]) (Prod.ext (Eq.symm pq.1) pq.2)
    rw [evs] at is
    have ez : z = SX.S (tl z) := (SX.S_tl z).symm
    rw [ez]
    refine call_meetsIn F.slot_str_translate (typeIs_str _ _ _) F.entry_str_translate (F.args_str_translate_2 _ _) (meets37 (t := t) drops_one low (by rw [len_tl']; exact few) ascii) ⟨I.ok.hd hc, is.mapOf, ?_⟩
    intro v2 h' k old ⟨t', e2⟩
    rw [e2]
    exact ⟨.str _, H, I.kept (t' := k) old, ⟨t', rfl⟩, q⟩
end Z
set_option maxHeartbeats 2000000
namespace Z
open PySem PySem.Spec PyProof.Rows L2 TL
/-! ### defs of the module, called by place or by keywords -/
abbrev FnP (K : PySem.W.Frag) (x : Str) (st : Stmt) (f : Addr) (fd : FuncData) : Prop := FunD K x x (L2.defArgs st) (L2.defBody st) (L2.defScope st) [] [] f fd
structure Call (P : Program) (w : World) (K : PySem.W.Frag) (mg : Str → Option Value) (base : Heap) (k : Nat) (x : Str) (ps : List Str) (sp : Sp) : Prop where
  ex : ∃ (f : Addr) (fd : FuncData), FnOk P w K mg base CX0 k f fd ps sp ∧ mg x = some (.ref f) ∧ PySem.W.keepIn K (.ref f) = true ∧ Binds K fd ps [] ∧ KBn K fd ps 0 ps (fun _ ws => ws) (fun _ zs => zs)
section
variable {P : Program} {w : World} {K : PySem.W.Frag} {mg : Str → Option Value} {base : Heap} {x : Str} {st : Stmt} {f : Addr} {fd : FuncData} {N ps : List Str} {k : Nat} {sp : Sp}
theorem kbn (F : FnP K x st f fd) (h : ∀ (kV doc pm : Value) (an : Option Addr) (cdv ct : Value) (ws : List Value), ws.length = ps.length → bindArgs (PySem.W.fnOf x x (L2.defArgs st) (L2.defBody st) (L2.defScope st) .none kV doc pm an cdv ct) ⟨[], ps.zip ws⟩ = pure (ps.zip ws)) :
    KBn K fd ps 0 ps (fun _ ws => ws) (fun _ zs => zs) := by
  obtain ⟨_, _, dflt, kwd, doc, mod, ann, code, tp, _, isFd, _, _, none_given, _⟩ := F.ex
  have no : dflt = .none := none_given.elim (fun q => q.2) fun q => absurd rfl q.1
  rw [isFd, no]
  refine ⟨fun st0 us ws _ nu nw => ?_, fun _ r => r⟩
  rw [List.eq_nil_of_length_eq_zero nu]
  exact .of_eq (h kwd doc mod ann code tp ws nw)
/-- a def's promise, by its body -/
theorem mkF (F : FnP K x st f fd) (S : FnScope N ps (L2.defScope st)) (len : ∀ vs H Q E, sp vs H Q E → vs.length = ps.length)
    (hbody : ∀ (cdv : Value) (A : Around) (outer : List Env) (s : Shared) (H : Hp) (vs : List V) (Q : VK) (E : XK), Room k (A.deeper (envOfC x (L2.defScope st) s.heap.objs.size f cdv)) → sp vs H Q E →
      ∃ t, PSs (cxOf CX0 P w K mg base N x (L2.defScope st) f cdv A outer s H E).nox (L2.defBody st) t ∧ t { nx := fun _ H' => Q .non H', rt := Q } (start N vs) H) : FnOk P w K mg base CX0 (k + 1) f fd ps sp :=
  F.ok S len fun cdv A outer s H vs Q E hr h => by
    obtain ⟨t, h1, h2⟩ := hbody cdv A outer s H vs Q E hr h
    exact ⟨t, h1.nox, h2⟩
theorem mk (F : FnP K x st f fd) (gm : mg x = some (.ref f))
    (hb : ∀ (kV doc pm : Value) (an : Option Addr) (cdv ct : Value) (us : List Value), us.length = ps.length → bindArgs (PySem.W.fnOf x x (L2.defArgs st) (L2.defBody st) (L2.defScope st) .none kV doc pm an cdv ct) ⟨us, []⟩ = pure (ps.zip us))
    (hk : ∀ (kV doc pm : Value) (an : Option Addr) (cdv ct : Value) (ws : List Value), ws.length = ps.length → bindArgs (PySem.W.fnOf x x (L2.defArgs st) (L2.defBody st) (L2.defScope st) .none kV doc pm an cdv ct) ⟨[], ps.zip ws⟩ = pure (ps.zip ws))
    (S : FnScope N ps (L2.defScope st)) (len : ∀ vs H Q E, sp vs H Q E → vs.length = ps.length)
    (hbody : ∀ (cdv : Value) (A : Around) (outer : List Env) (s : Shared) (H : Hp) (vs : List V) (Q : VK) (E : XK), Room k (A.deeper (envOfC x (L2.defScope st) s.heap.objs.size f cdv)) → sp vs H Q E →
      ∃ t, PSs (cxOf CX0 P w K mg base N x (L2.defScope st) f cdv A outer s H E).nox (L2.defBody st) t ∧ t { nx := fun _ H' => Q .non H', rt := Q } (start N vs) H) : Call P w K mg base (k + 1) x ps sp := by
  exact ⟨f, fd, mkF F S len hbody, gm, F.kp, F.bindsN hb, kbn F hk⟩
end
section
variable {X : Cx} {k j : Nat} {x : Str} {ps : List Str} {sp : Sp} {p pos : Pos} {e : Expr} {es : List Expr} {kws : List Keyword} {t tk : TA}
theorem pe_f (c : Call X.prog X.w X.K X.mg X.base k x ps sp) (hr : Room j X.A) (hk : k ≤ j) (hg : Gl X x) (ha : PA X (e :: es) t)
    (hdb : (x == ("__debug__" : Str)) = false := by decide) (he : starEach (e :: es) X.env = (false, eval e X.env) :: starEach es X.env := by rfl) (hpl : (backTo pos (starEach es X.env)).any (·.1) = false := by rfl) :
    PE X (.Call (.Name x p) (e :: es) [] pos) (tCall sp [] E0 t) := by
  obtain ⟨f, fd, F, hm, kp, b, _⟩ := c.ex
  exact pe_call F (hr.mono hk) hg hm kp b .nil pass0 ha hdb he hpl
theorem pe_f0 (c : Call X.prog X.w X.K X.mg X.base k x ps sp) (hr : Room j X.A) (hk : k ≤ j) (hg : Gl X x) (hdb : (x == ("__debug__" : Str)) = false := by decide) : PE X (.Call (.Name x p) [] [] pos) (tCall sp [] E0 tNil) := by
  obtain ⟨f, fd, F, hm, kp, b, _⟩ := c.ex
  exact pe_call0 F (hr.mono hk) hg hm kp b .nil pass0 hdb
/-- f(k = v, ..), all parameters by keywords, in their order -/
theorem pe_fk (c : Call X.prog X.w X.K X.mg X.base k x ps sp) (hr : Room j X.A) (hj : k ≤ j) (hg : Gl X x) (hkw : PK X kws tk)
    (hks : (backToKw pos (keywordEach kws X.env)).filterMap (·.1) = ps := by rfl) (hall : (backToKw pos (keywordEach kws X.env)).all (·.1.isSome) = true := by rfl)
    (hdb : (x == ("__debug__" : Str)) = false := by decide)
    (hpl : ((backTo pos (starEach [] X.env)).any (·.1) || (backToKw pos (keywordEach kws X.env)).any (·.1.isNone)) = false := by rfl) :
    PE X (.Call (.Name x p) [] kws pos) (tCallN 0 ps.length sp (fun _ zs => zs) E0 tNil tk) where
  run := fun pins s σ H Q I asks => by
    obtain ⟨f, fd, F, named, kept, _, binds⟩ := c.ex
    refine wpAny_Call_Name_kw (ld_glob I hg named (PySem.W.callWith_KW0 (h₀ := X.base) I.ok.mod.kin kept hall ?_ hpl) hdb)
    refine thn (hkw.run pos pins s σ H _ I asks) fun ws s2 told => ?_
    obtain ⟨zs, H2, I2, rz, _, many, wish⟩ := told
    refine ⟨I2.kIn, ?_⟩
    rw [hks]
    exact run_fnN (us := []) (vs := []) F (hr.mono hj) binds pass0 I2 .nil rz rfl many wish
end
section
variable {X : Cx} {x : Str} {pos : Pos}
/-- a module's constant -/
theorem pe_gc {v : V} (hg : Gl X x) (h : ∃ u, X.mg x = some u ∧ RelV v u) (hd : (x == ("__debug__" : Str)) = false := by decide) : PE X (.Name x pos) (tC v) := by
  obtain ⟨u, hm, r⟩ := h
  exact pe_glob hg hm r hd
end
/-- where the context is a comprehension's, its written part is the def's -/
theorem inK {X : Cx} {K : PySem.W.Frag} {e : Expr} {t : PySem.W.Frag → TE} (same : X.K = K) (h : PE X e (t X.K)) : PE X e (t K) := same ▸ h
/-! ### a text times a number -/
def repS (z : Str) (n : Nat) : Str := if n = 0 then Str.empty else if (n == 1 || z.length == 0) = true then z else ⟨(List.replicate n z.cps).foldl (· ++ ·) #[]⟩
theorem rep_size (a : Array Nat) : ∀ (n : Nat) (acc : Array Nat), ((List.replicate n a).foldl (· ++ ·) acc).size = acc.size + n * a.size
  | 0, acc => by simp
  | n + 1, acc => by
    rw [List.replicate_succ, List.foldl_cons, rep_size a n, Array.size_append, Nat.succ_mul]
    omega
theorem repS_len (z : Str) (n : Nat) : (repS z n).length = n * z.length := by
  unfold repS
  split
  · rename_i h
    rw [h, Nat.zero_mul]
    rfl
  · split
    · rename_i h
      simp only [Bool.or_eq_true, beq_iff_eq] at h
      rcases h with h | h
      · rw [h, Nat.one_mul]
      · rw [h, Nat.mul_zero]
    · show ((List.replicate n z.cps).foldl (· ++ ·) #[]).size = n * z.cps.size
      rw [rep_size]
      simp
section
variable {X : Cx}
theorem op_rep_str : OpR X (binaryOp .Mult) (fun x y H Q => ∃ (z : Str) (i : Int), x = .str z ∧ y = .int i ∧ 0 ≤ i ∧ i ≤ 1000 ∧ z.length ≤ 1000 ∧ Q (.str (repS z i.toNat)) H) := by
  intro pins s σ H x y v u Q I rx ry h
  obtain ⟨z, i, rfl, rfl, h0, h1, hz, q⟩ := h
  obtain ⟨t, rfl⟩ := rx
  obtain ⟨t', rfl⟩ := ry
  have hle : z.length * i.toNat ≤ 1000000 := Nat.le_trans (Nat.mul_le_mul hz (show i.toNat ≤ 1000 by omega)) (by decide)
  refine PySem.P.mul_str ?_ (fun hn _ hgt => ?_) (fun _ _ => PyProof.Rows.short24 (by omega)) ?_
  · rw [decide_eq_false (show ¬ i < -(2 ^ 63) by omega), decide_eq_false (show ¬ i ≥ 2 ^ 63 by omega)]
    rfl
  · have h2 : i ∣ i := Int.dvd_refl i
    have h3 : (2 ^ 63 - 1) / (1000 : Int) ≤ (2 ^ 63 - 1) / i := by
      have : (2 ^ 63 - 1) / (1000 : Int) * i ≤ 2 ^ 63 - 1 := by
        have e : (2 ^ 63 - 1) / (1000 : Int) = 9223372036854775 := by decide
        rw [e]
        omega
      exact (Int.le_ediv_iff_mul_le (by omega)).mpr this
    have e : (2 ^ 63 - 1) / (1000 : Int) = 9223372036854775 := by decide
    rw [e] at h3
    omega
  · by_cases hn : i < 1
    · rw [if_pos hn]
      have : repS z i.toNat = Str.empty := by unfold repS; rw [if_pos (show i.toNat = 0 by omega)]
      rw [this] at q
      exact ⟨by decide, ⟨.str Str.empty, H, I.tok _, ⟨_, rfl⟩, q⟩⟩
    · rw [if_neg hn]
      have e1 : (i == 1) = (i.toNat == 1) := by
        by_cases h : i = 1
        · subst h; rfl
        · rw [beq_eq_false_iff_ne.mpr h, beq_eq_false_iff_ne.mpr (show i.toNat ≠ 1 by omega)]
      have e2 : repS z i.toNat = if (i.toNat == 1 || z.length == 0) = true then z else ⟨(List.replicate i.toNat z.cps).foldl (· ++ ·) #[]⟩ := by
        unfold repS
        rw [if_neg (show ¬ i.toNat = 0 by omega)]
      have hl := repS_len z i.toNat
      rw [e2] at q hl
      rw [e1]
      by_cases hc : (i.toNat == 1 || z.length == 0) = true
      · rw [if_pos hc] at q ⊢
        exact ⟨.str z, H, I, ⟨t, rfl⟩, q⟩
      · rw [if_neg hc] at q hl ⊢
        refine ⟨?_, ⟨.str _, H, I.tok _, ⟨_, rfl⟩, q⟩⟩
        rw [hl, sizeLine_eq]
        rw [Nat.mul_comm] at hle
        omega
end
/-! ### the size of a cell -/
theorem bits_lt {z : Int} {n : Nat} (h : Builtin.Int.intBits z ≤ n) : z.natAbs < 2 ^ n := by
  unfold Builtin.Int.intBits at h
  by_cases hz : z = 0
  · rw [hz]
    exact Nat.two_pow_pos n
  · have e : (z == 0) = false := beq_eq_false_iff_ne.mpr hz
    rw [e, if_neg Bool.false_ne_true] at h
    exact Nat.lt_of_lt_of_le (Nat.lt_log2_self) (Nat.pow_le_pow_right (by decide) h)
end Z
set_option maxHeartbeats 2000000
namespace Z
open PySem PySem.Spec PyProof.Rows L2 TL Evl
/-! ### named readings of values -/
def rStrip : V → List V → Hp → VK → Prop := fun x xs H Q => ∃ a b, x = .str a ∧ xs = [.str b] ∧ a.length ≤ sizeLine ∧ Q (.str (Txt.stripChars a b)) H
def rIsascii : V → List V → Hp → VK → Prop := fun x xs H Q => ∃ a, x = .str a ∧ xs = [] ∧ True ∧ Q (.bl (Txt.isascii a)) H
def rIsprint : V → List V → Hp → VK → Prop := fun x xs H Q => ∃ a, x = .str a ∧ xs = [] ∧ True ∧ Q (.bl (Txt.isprintable a)) H
def rTrans : V → List V → Hp → VK → Prop := fun x xs H Q => ∃ (z : Str) (d : Addr), x = .str z ∧ xs = [.ref d] ∧ H d = some (.dK [(Sum.inl 37, .non)]) ∧ (∀ c ∈ tl z, c < 128) ∧ z.length ≤ 16000000 ∧ Q (.str (no37 z)) H
def rAddS2 : R2 := fun x y H Q => ∃ i j, x = .str i ∧ y = .str j ∧ i.length + j.length ≤ sizeLine ∧ Q (.str (i ++ j)) H
def rLenStr : List V → Hp → VK → Prop := fun xs H Q => ∃ z, xs = [.str z] ∧ z.length ≤ sizeLine ∧ Q (.int z.length) H
def rIntStr : List V → Hp → VK → Prop := fun xs H Q => ∃ a n, xs = [.str a] ∧ PySem.intText? a = some n ∧ a.length ≤ 640 ∧ Q (.int n) H
def rStarts : V → List V → Hp → VK → Prop := fun x xs H Q => ∃ a b, x = .str a ∧ xs = [.str b] ∧ Q (.bl (Txt.startswith a b)) H
section
variable {X : Cx}
theorem mz_strip : MtR X "str.strip" rStrip := mt_stripChars
theorem mz_isascii : MtR X "str.isascii" rIsascii := mt_isascii
theorem mz_isprint : MtR X "str.isprintable" rIsprint := mt_isprintable
theorem mz_trans (hc : X.calm = true) : MtR X "str.translate" rTrans := mt_translate37 hc
theorem oz_add : OpR X (binaryOp .Add) rAddS2 := op_add_str
theorem cz_len : CallR X (.builtin "len") rLenStr := call_len_str
theorem cz_int : CallR X (.type "int") rIntStr := call_int_str
theorem mz_starts : MtR X "str.startswith" rStarts := mt_startswith
end
/-! ### what evaluates to what, for texts -/
section
variable {K : PySem.W.Frag} {σ : L2.St} {H H' : Hp} {ta tb tc te to ts : TE} {t u : TT} {x y z v : V} {r : R2} {a b s : Str} {c : Nat}
theorem rv_in {w : Str} : RV rInS (.str ⟨#[c]⟩) (.str w) H (.bl (decide (c ∈ tl w))) := fun H1 _ _ q => ⟨c, w, rfl, rfl, q H1 (Ex.refl H1)⟩
theorem rv_notin {w : Str} : RV rNotInS (.str ⟨#[c]⟩) (.str w) H (.bl (!decide (c ∈ tl w))) := fun H1 _ _ q => ⟨c, w, rfl, rfl, q H1 (Ex.refl H1)⟩
theorem rv_isN : RV rIsN x .non H (.bl (decide (x = .non))) := fun H1 _ _ q => ⟨rfl, q H1 (Ex.refl H1)⟩
theorem rv_notN : RV rNotN x .non H (.bl (!decide (x = .non))) := fun H1 _ _ q => ⟨rfl, q H1 (Ex.refl H1)⟩
theorem rv_addS (h : a.length + b.length ≤ 200000) : RV rAddS2 (.str a) (.str b) H (.str (a ++ b)) := fun H1 _ _ q => ⟨a, b, rfl, rfl, Nat.le_trans h (by decide), q H1 (Ex.refl H1)⟩
theorem decS {a b : Str} : decide (V.str a = V.str b) = decide (a = b) := by
  by_cases h : a = b
  · rw [decide_eq_true h, decide_eq_true (congrArg V.str h)]
  · rw [decide_eq_false h, decide_eq_false fun e => h (V.str.inj e)]
theorem decI {a b : Int} : decide (V.int a = V.int b) = decide (a = b) := by
  by_cases h : a = b
  · rw [decide_eq_true h, decide_eq_true (congrArg V.int h)]
  · rw [decide_eq_false h, decide_eq_false fun e => h (V.int.inj e)]
theorem rv_eqS : RV rEq (.str a) (.str b) H (.bl (decide (a = b))) := by
  rw [← decS]; exact rv_eq rfl
theorem rv_neS : RV rNe (.str a) (.str b) H (.bl (!decide (a = b))) := by
  rw [← decS]; exact rv_ne rfl
theorem rv_eqI {i j : Int} : RV rEq (.int i) (.int j) H (.bl (decide (i = j))) := by
  rw [← decI]; exact rv_eq rfl
theorem rv_neI {i j : Int} : RV rNe (.int i) (.int j) H (.bl (!decide (i = j))) := by
  rw [← decI]; exact rv_ne rfl
theorem ev_strip (h : Ev to σ H (.str a)) (hs : Ev ts σ H (.str s)) (hz : a.length ≤ 100000) : Ev (tBM K "str" rStrip to (tCons ts tNil)) σ H (.str (Txt.stripChars a s)) := fun H1 e Q q =>
  h H1 e _ fun H2 e2 => ⟨rfl, hs H2 (e.trans e2) _ fun H3 e3 => ⟨a, s, rfl, rfl, sz_of hz, q H3 (e2.trans e3)⟩⟩
theorem ev_isascii (h : Ev to σ H (.str a)) : Ev (tBM0 K "str" rIsascii to) σ H (.bl (Txt.isascii a)) := fun H1 e Q q => h H1 e _ fun H2 e2 => ⟨rfl, a, rfl, rfl, trivial, q H2 e2⟩
theorem ev_isprint (h : Ev to σ H (.str a)) : Ev (tBM0 K "str" rIsprint to) σ H (.bl (Txt.isprintable a)) := fun H1 e Q q => h H1 e _ fun H2 e2 => ⟨rfl, a, rfl, rfl, trivial, q H2 e2⟩
theorem ev_starts (h : Ev to σ H (.str a)) (hs : Ev ts σ H (.str s)) : Ev (tBM K "str" rStarts to (tCons ts tNil)) σ H (.bl (Txt.startswith a s)) := fun H1 e Q q =>
  h H1 e _ fun H2 e2 => ⟨rfl, hs H2 (e.trans e2) _ fun H3 e3 => ⟨a, s, rfl, rfl, q H3 (e2.trans e3)⟩⟩
/-- text.translate({37: None}) -/
theorem ev_trans (h : Ev to σ H (.str a)) (ha : ∀ c ∈ tl a, c < 128) (hz : a.length ≤ 100000) : Ev (tBM K "str" rTrans to (tCons (tDisp [(tC (.int 37), tC .non)]) tNil)) σ H (.str (no37 a)) := fun H1 e Q q =>
  h H1 e _ fun H2 e2 => ⟨rfl, fun p hp => ⟨upd_same, [(Sum.inl 37, .non)], rfl, (by decide), ⟨a, p, rfl, rfl, (by rw [upd_same]; rfl), ha, Nat.le_trans hz (by decide), q _ (e2.trans (fun b o hb => by
    rw [upd_ne (ne_of_none hb hp), upd_ne (ne_of_none hb hp)]
    exact hb))⟩⟩⟩
theorem ev_lenStr (h : Ev te σ H (.str a)) (hz : a.length ≤ 100000) : Ev (tCB rLenStr (tCons te tNil)) σ H (.int (a.length : Int)) := fun H1 e Q q => h H1 e _ fun H2 e2 => ⟨a, rfl, sz_of hz, q H2 e2⟩
theorem ev_intStr {n : Int} (h : Ev te σ H (.str a)) (hn : PySem.intText? a = some n) (hl : a.length ≤ 640) : Ev (tCB rIntStr (tCons te tNil)) σ H (.int n) := fun H1 e Q q => h H1 e _ fun H2 e2 => ⟨a, n, rfl, hn, hl, q H2 e2⟩
theorem ev_slS {tl' th : TO} {lo hi : Option Int} (h : Ev te σ H (.str a)) (h1 : EvO tl' σ H lo) (h2 : EvO th σ H hi) (hz : a.length ≤ 100000) : Ev (tSl rSlS te tl' th) σ H (.str (cutS a lo hi)) := fun H1 e Q q =>
  h H1 e _ fun H2 e2 => h1 H2 (e.trans e2) _ fun H3 e3 => h2 H3 ((e.trans e2).trans e3) _ fun H4 e4 => ⟨a, rfl, sz_of hz, q H4 ((e2.trans e3).trans e4)⟩
theorem ev_ixS {i : Int} (h : Ev te σ H (.str a)) (h1 : Ev tb σ H (.int i)) (hz : a.length ≤ 100000) (ha : atI (tl a) i = some c) : Ev (tOp rIxS te tb) σ H (.str ⟨#[c]⟩) := ev_op h h1 (rv_ixS hz ha)
/-- a <= b <= c -/
theorem ev_chain {i j k : Int} (ha : Ev ta σ H (.int i)) (hb : Ev tb σ H (.int j)) (hc : Ev tc σ H (.int k)) :
    Ev (tChain (rI0 fun i j => .bl (decide (i ≤ j))) (rI0 fun i j => .bl (decide (i ≤ j))) ta tb tc) σ H (.bl (decide (i ≤ j) && decide (j ≤ k))) := fun H1 e Q q =>
  ha H1 e _ fun H2 e2 => hb H2 (e.trans e2) _ fun H3 e3 => ⟨i, j, rfl, rfl, _, rfl, by
    cases h : decide (i ≤ j) with
    | true =>
      refine iteT ?_
      refine hc H3 ((e.trans e2).trans e3) _ fun H4 e4 => ⟨j, k, rfl, rfl, ?_⟩
      have g := q H4 ((e2.trans e3).trans e4)
      rw [h] at g
      exact g
    | false =>
      refine iteF ?_
      have g := q H3 (e2.trans e3)
      rw [h] at g
      exact g⟩
/-- the same, where the last part is asked only if the first holds -/
theorem ev_callN {sp : Sp} {vs : List V} {n : Nat} {E : XK} {tk : TA} (h : EvA tk σ H vs) (hl : vs.length = n) (hs : SpV sp vs H z) : Ev (tCallN 0 n sp (fun _ zs => zs) E tNil tk) σ H z := fun H1 e Q q =>
  h H1 e _ fun H2 e2 => ⟨rfl, hl, hs H2 (e.trans e2) Q (fun H3 e3 => q H3 (e2.trans e3)) E⟩
theorem el_callN {sp : Sp} {vs xs : List V} {n : Nat} {E : XK} {tk : TA} (h : EvA tk σ H vs) (hl : vs.length = n) (hs : SpL sp vs H xs) : EvL (tCallN 0 n sp (fun _ zs => zs) E tNil tk) σ H xs := fun H1 e Q q =>
  h H1 e _ fun H2 e2 => ⟨rfl, hl, hs H2 (e.trans e2) Q (fun p H3 hp e3 h3 => q p H3 (fresh_back e2 hp) (e2.trans e3) h3) E⟩
end
/-! ### promises of plain functions of texts -/
def sp1 (f : Str → V) : Sp := fun vs H Q _ => ∃ z : Str, vs = [.str z] ∧ z.length ≤ 100000 ∧ RetV (f z) H Q
def sp2 (f : Str → Str → V) : Sp := fun vs H Q _ => ∃ z s : Str, vs = [.str z, .str s] ∧ z.length ≤ 100000 ∧ RetV (f z s) H Q
def sp0 (v : V) : Sp := fun vs H Q _ => vs = [] ∧ RetV v H Q
def sp1L (f : Str → List V) : Sp := fun vs H Q _ => ∃ z : Str, vs = [.str z] ∧ z.length ≤ 10000 ∧ RetL (f z) H Q
theorem sv1 {f : Str → V} {z : Str} {H : Hp} (h : z.length ≤ 100000) : SpV (sp1 f) [.str z] H (f z) := fun H1 e Q q E => ⟨z, rfl, h, q⟩
theorem sv2 {f : Str → Str → V} {z s : Str} {H : Hp} (h : z.length ≤ 100000) : SpV (sp2 f) [.str z, .str s] H (f z s) := fun H1 e Q q E => ⟨z, s, rfl, h, q⟩
theorem sv0 {v : V} {H : Hp} : SpV (sp0 v) [] H v := fun H1 e Q q E => ⟨rfl, q⟩
theorem sl1 {f : Str → List V} {z : Str} {H : Hp} (h : z.length ≤ 10000) : SpL (sp1L f) [.str z] H (f z) := fun H1 e Q q E => ⟨z, rfl, h, q⟩
end Z
set_option maxHeartbeats 2000000
namespace Z
open PySem PySem.Spec PyProof.Rows L2 TL Evl
/-! ### cut at commas -/
def splC : List Nat → List Nat → List (List Nat)
  | acc, [] => [acc]
  | acc, c :: r => if c = 44 then acc :: splC [] r else splC (acc ++ [c]) r
theorem spl_splC : ∀ (l acc : List Nat), spl [44] 0 acc l = splC acc l
  | [], acc => spl_nil _ _ _
  | c :: r, acc => by
    have hp : pre [44] (c :: r) = decide (c = 44) := by
      show ([c] == [44]) = decide (c = 44)
      by_cases h : c = 44
      · rw [h]; rfl
      · rw [decide_eq_false h]
        exact beq_eq_false_iff_ne.mpr fun e => h (by cases e; rfl)
    show spl [44] 0 acc (c :: r) = if c = 44 then acc :: splC [] r else splC (acc ++ [c]) r
    by_cases h : c = 44
    · rw [spl_hit (by rw [hp, decide_eq_true h]), if_pos h]
      show acc :: spl [44] 0 [] r = _
      rw [spl_splC r []]
    · rw [spl_miss (by rw [hp, decide_eq_false h]), if_neg h]
      exact spl_splC r (acc ++ [c])
theorem splC_len : ∀ (l acc : List Nat), (splC acc l).length ≤ l.length + 1
  | [], acc => Nat.le_refl _
  | c :: r, acc => by
    show (if c = 44 then acc :: splC [] r else splC (acc ++ [c]) r).length ≤ r.length + 1 + 1
    by_cases h : c = 44
    · rw [if_pos h, List.length_cons]; have := splC_len r []; omega
    · rw [if_neg h]; have := splC_len r (acc ++ [c]); omega
theorem splC_each : ∀ (l acc p : List Nat), p ∈ splC acc l → p.length ≤ acc.length + l.length
  | [], acc, p, h => by
    rw [List.mem_singleton.mp h]
    exact Nat.le_add_right _ _
  | c :: r, acc, p, h => by
    have h : p ∈ (if c = 44 then acc :: splC [] r else splC (acc ++ [c]) r) := h
    rw [List.length_cons]
    by_cases hc : c = 44
    · rw [if_pos hc] at h
      rcases List.mem_cons.mp h with e | h
      · rw [e]; omega
      · have := splC_each r [] p h
        rw [List.length_nil] at this
        omega
    · rw [if_neg hc] at h
      have := splC_each r (acc ++ [c]) p h
      rw [List.length_append, List.length_singleton] at this
      omega
theorem comma : tl ("," : Str) = [44] := by decide +kernel
theorem comma_kind {x : Str} : ¬ Builtin.Str.strKind x < Builtin.Str.strKind ("," : Str) := kind_ok (by decide +kernel)
theorem split_tl (z : Str) : (Txt.split z ",").map tl = splC [] (tl z) := by
  rw [split_spl z "," (by rw [comma]; simp) comma_kind, comma]
  exact spl_splC _ _
def S' (l : List Nat) : Str := ⟨l.toArray⟩
theorem S'_tl (x : Str) : S' (tl x) = x := mk_tl x
theorem tl_S' (l : List Nat) : tl (S' l) = l := rfl
theorem split_eq (z : Str) : Txt.split z "," = (splC [] (tl z)).map S' := by
  rw [← split_tl, List.map_map]
  have : (S' ∘ tl) = id := funext S'_tl
  rw [this, List.map_id]
theorem split_len (z : Str) : (Txt.split z ",").length ≤ z.length + 1 := by
  rw [split_eq, List.length_map, len_tl]
  exact splC_len _ _
theorem split_each {z p : Str} (h : p ∈ Txt.split z ",") : p.length ≤ z.length := by
  rw [split_eq] at h
  obtain ⟨l, hl, rfl⟩ := List.mem_map.mp h
  have := splC_each _ _ _ hl
  rw [List.length_nil, Nat.zero_add] at this
  rw [len_tl, len_tl]
  exact this
/-- the elements of a list in a field -/
def stripped (z : Str) : List Str := (Txt.split z ",").map fun p => Txt.stripChars p " "
def elems (z : Str) : List Str := (stripped z).filter fun p => !decide (p = ("" : Str))
/-! ### the same, sign by sign -/
def wstep (st : List Str × Str) (c : Nat) : List Str × Str :=
  if c = 44 then (if Txt.stripChars st.2 " " = ("" : Str) then st.1 else st.1 ++ [Txt.stripChars st.2 " "], "") else (st.1, st.2 ++ ⟨#[c]⟩)
def keepW (p : Str) : List Str := if Txt.stripChars p " " = ("" : Str) then [] else [Txt.stripChars p " "]
theorem keepW_eq (l : List Str) : (l.map fun p => Txt.stripChars p " ").filter (fun p => !decide (p = ("" : Str))) = l.flatMap keepW := by
  induction l with
  | nil => rfl
  | cons p r ih =>
    rw [List.map_cons, List.filter_cons, List.flatMap_cons, ih]
    unfold keepW
    by_cases h : Txt.stripChars p " " = ("" : Str)
    · rw [decide_eq_true h, if_pos h]; rfl
    · rw [decide_eq_false h, if_neg h]; rfl
theorem snoc_S' (l : List Nat) (c : Nat) : S' l ++ (⟨#[c]⟩ : Str) = S' (l ++ [c]) := ext_tl (by rw [tl_append]; rfl)
theorem wfold : ∀ (l : List Nat) (fs : List Str) (w : List Nat), (l ++ [44]).foldl wstep (fs, S' w) = (fs ++ ((splC w l).map S').flatMap keepW, ("" : Str))
  | [], fs, w => by
    show wstep (fs, S' w) 44 = _
    unfold wstep
    rw [if_pos rfl]
    show (if Txt.stripChars (S' w) " " = ("" : Str) then fs else fs ++ [Txt.stripChars (S' w) " "], ("" : Str)) = (fs ++ ([w].map S').flatMap keepW, ("" : Str))
    have : ([w].map S').flatMap keepW = keepW (S' w) := by simp
    rw [this]
    unfold keepW
    by_cases h : Txt.stripChars (S' w) " " = ("" : Str)
    · rw [if_pos h, if_pos h, List.append_nil]
    · rw [if_neg h, if_neg h]
  | c :: r, fs, w => by
    rw [List.cons_append, List.foldl_cons]
    show List.foldl wstep (wstep (fs, S' w) c) (r ++ [44]) = (fs ++ ((if c = 44 then w :: splC [] r else splC (w ++ [c]) r).map S').flatMap keepW, ("" : Str))
    unfold wstep
    by_cases h : c = 44
    · rw [if_pos h, if_pos h]
      have e : ("" : Str) = S' [] := eq_comm.mp (eq_empty.mpr rfl)
      show List.foldl wstep (if Txt.stripChars (S' w) " " = ("" : Str) then fs else fs ++ [Txt.stripChars (S' w) " "], ("" : Str)) (r ++ [44]) = _
      rw [e, wfold r _ [], List.map_cons, List.flatMap_cons, ← e]
      unfold keepW
      by_cases h2 : Txt.stripChars (S' w) " " = ("" : Str)
      · rw [if_pos h2, if_pos h2, List.nil_append]
      · rw [if_neg h2, if_neg h2, List.append_assoc]
    · rw [if_neg h, if_neg h]
      show List.foldl wstep (fs, S' w ++ ⟨#[c]⟩) (r ++ [44]) = _
      rw [snoc_S', wfold r fs (w ++ [c])]
theorem words_elems (z : Str) : ((tl z ++ [44]).foldl wstep ([], ("" : Str))).1 = elems z := by
  have e : ("" : Str) = S' [] := eq_comm.mp (eq_empty.mpr rfl)
  have h := wfold (tl z) [] []
  rw [← e] at h
  rw [h]
  show [] ++ ((splC [] (tl z)).map S').flatMap keepW = elems z
  rw [List.nil_append, ← split_eq]
  unfold elems stripped
  rw [keepW_eq]
/-! ### what a comprehension gives -/
theorem given_take {α : Type} (xs : List α) (d : α) (p : α → Bool) (g : α → V) : ∀ n, n ≤ xs.length → given n (fun i => p (xs.getD i d)) (fun i => g (xs.getD i d)) = ((xs.take n).filter p).map g
  | 0, _ => rfl
  | n + 1, h => by
    have hn : n < xs.length := h
    have e : xs.getD n d = xs[n] := by rw [List.getD_eq_getElem?_getD, List.getElem?_eq_getElem hn]; rfl
    have et : xs.take (n + 1) = xs.take n ++ [xs[n]] := by rw [List.take_add_one, List.getElem?_eq_getElem hn]; rfl
    rw [et, List.filter_append, List.map_append, ← given_take xs d p g n (by omega)]
    by_cases hp : p (xs.getD n d) = true
    · rw [given_yes (f := fun i => p (xs.getD i d)) hp]
      rw [e] at hp ⊢
      rw [List.filter_cons, if_pos hp]
      rfl
    · have hp' : p (xs.getD n d) = false := by
        cases h : p (xs.getD n d) with
        | true => exact absurd h hp
        | false => rfl
      rw [given_no (f := fun i => p (xs.getD i d)) hp']
      rw [e] at hp
      rw [List.filter_cons, if_neg hp]
      show _ = _ ++ []
      rw [List.append_nil]
theorem given_all {α : Type} (xs : List α) (d : α) (p : α → Bool) (g : α → V) : given xs.length (fun i => p (xs.getD i d)) (fun i => g (xs.getD i d)) = (xs.filter p).map g := by
  rw [given_take xs d p g xs.length (Nat.le_refl _), List.take_length]
theorem at_str {xs : List Str} {i : Nat} {x : V} (h : (xs.map V.str)[i]? = some x) (d : Str) : i < xs.length ∧ x = .str (xs.getD i d) ∧ xs.getD i d ∈ xs := by
  rw [List.getElem?_map] at h
  cases e : xs[i]? with
  | none => rw [e] at h; cases h
  | some a =>
    rw [e] at h
    cases h
    have : xs.getD i d = a := by rw [List.getD_eq_getElem?_getD, e]; rfl
    exact ⟨(List.getElem?_eq_some_iff.mp e).1, by rw [this], by rw [this]; exact List.mem_of_getElem? e⟩
/-! ### loops over a text; a text split -/
def rSplit : V → List V → Hp → VK → Prop := fun x xs H Q => ∃ a b, x = .str a ∧ xs = [.str b] ∧ (b.length == 0) = false ∧ a.length + 2 ≤ sizeLine ∧ rNewStrs (Txt.split a b) H Q
theorem mz_split {X : Cx} : MtR X "str.split" rSplit := mt_split
section
variable {K : PySem.W.Frag} {σ : L2.St} {H H' : Hp} {ta tb tc te to ts : TE} {t u : TT} {x y z v : V} {r : R2} {a b s : Str} {c : Nat} {D : Ends} {tu tz : TS}
theorem el_split (h : Ev to σ H (.str a)) (hs : Ev ts σ H (.str s)) (h0 : (s.length == 0) = false) (hz : a.length ≤ 100000) : EvL (tBM K "str" rSplit to (tCons ts tNil)) σ H ((Txt.split a s).map V.str) := fun H1 e Q q =>
  h H1 e _ fun H2 e2 => ⟨rfl, hs H2 (e.trans e2) _ fun H3 e3 => ⟨a, s, rfl, rfl, h0, Nat.le_trans (Nat.add_le_add_right hz 2) (by decide), fun p hp => q p _ (fresh_back (e2.trans e3) hp) ((e2.trans e3).trans (Ex.new hp)) upd_same⟩⟩
theorem s_forS {w : Str} {j : Nat} (h : Ev te σ H (.str w)) (Pv : Nat → L2.St → Hp → Prop) (h0 : ∀ H1, Ex H H1 → Pv 0 σ H1)
    (hs : ∀ i c σ' H', (tl w)[i]? = some c → Pv i σ' H' → tu { D with nx := Pv (i + 1), ct := Pv (i + 1), bk := D.nx } (σ'.set j (some (.str ⟨#[c]⟩))) H') (hd : ∀ σ' H', Pv (tl w).length σ' H' → D.nx σ' H') : tFor (iStr te) (gName j) tu D σ H :=
  h H (Ex.refl H) _ fun H1 e => ⟨w, rfl, for_it (walk_str (z := w)) Pv (h0 H1 e) (fun _ _ _ _ _ => trivial) (fun i x σ' H' H'' hi p y => by
    obtain ⟨rfl, c, hc, rfl⟩ := y
    exact hs i c σ' H'' (by show w.cps.toList[i]? = some c; simpa using hc) p) (fun σ' H' p => hd σ' H' (by
      have : (tl w).length = w.cps.size := by rw [len_tl']; rfl
      rw [this]; exact p))⟩
theorem q_forS {w : Str} {j : Nat} (h : Ev te σ H (.str w)) (Pv : Nat → L2.St → Hp → Prop) (h0 : ∀ H1, Ex H H1 → Pv 0 σ H1)
    (hs : ∀ i c σ' H', (tl w)[i]? = some c → Pv i σ' H' → tu { D with nx := Pv (i + 1), ct := Pv (i + 1), bk := tz D } (σ'.set j (some (.str ⟨#[c]⟩))) H') (hd : ∀ σ' H', Pv (tl w).length σ' H' → tz D σ' H') : tSeq (tFor (iStr te) (gName j) tu) tz D σ H :=
  s_forS (D := { D with nx := tz D }) h Pv h0 hs hd
end
/-! ### numbers -/
open NumText in
theorem digits_all {z : Str} (h : allIn z "0123456789" = true) : AllDigits (tl z) := fun c hc => by
  have h1 := of_decide_eq_true (List.all_eq_true.mp h c hc)
  have e : tl ("0123456789" : Str) = [48, 49, 50, 51, 52, 53, 54, 55, 56, 57] := by decide +kernel
  rw [e] at h1
  simp only [List.mem_cons, List.not_mem_nil, or_false] at h1
  omega
theorem int_digits {z : Str} (h : allIn z "0123456789" = true) (h1 : 1 ≤ z.length) (h2 : z.length ≤ 640) : PySem.intText? z = some ((NumText.digitsVal (tl z) : Nat) : Int) :=
  intText_digits (digits_all h) (fun e => by
    rw [len_tl] at h1
    have : tl z = [] := e
    rw [this] at h1
    exact absurd h1 (by decide)) (by omega)
end Z
set_option maxHeartbeats 4000000
namespace Z
open PySem PySem.Spec PyProof.Rows L2 TL Evl
/-! ### what the functions give -/
def pathB (z : Str) : Bool := (decide ((1 : Int) ≤ z.length) && decide ((z.length : Int) ≤ 60)) && (decide (hd z = some 47) && allIn z "abcdefghijklmnopqrstuvwxyz0123456789/-.")
def hdIn (z s : Str) : Bool := match hd z with | some c => decide (c ∈ tl s) | none => false
def wordB (z : Str) (m : Int) : Bool := (decide ((1 : Int) ≤ z.length) && decide ((z.length : Int) ≤ m)) && (hdIn z "abcdefghijklmnopqrstuvwxyz" && allIn z "abcdefghijklmnopqrstuvwxyz0123456789-")
def nameB (z : Str) : Bool := wordB z 30 && !decide (z = ("length" : Str))
def valueB (z : Str) : Bool := decide ((z.length : Int) ≤ 200) && (allIn z signs && decide (Txt.stripChars z " " = z))
def digB (z : Str) : Bool := (decide ((1 : Int) ≤ z.length) && decide ((z.length : Int) ≤ 6)) && (allIn z "0123456789" && (decide ((z.length : Int) = 1) || !decide (hd z = some 48)))
def numV (z : Str) : V := if digB z = true then .int (((NumText.digitsVal (tl z) : Nat)) : Int) else .non
theorem item0 {z : Str} (h : 1 ≤ z.length) : ∃ c, hd z = some c ∧ atI (tl z) 0 = some c := by
  obtain ⟨c, h1, h2⟩ := hd_some h
  refine ⟨c, h1, ?_⟩
  have : (tl z)[0]? = some c := by
    show z.cps.toList[0]? = some c
    simpa using h2
  exact atI_nat (j := 0) this
theorem pl {a b c : Int} (h : (decide (a ≤ b) && decide (b ≤ c)) = true) : a ≤ b ∧ b ≤ c := by
  rw [Bool.and_eq_true, decide_eq_true_eq, decide_eq_true_eq] at h
  exact h
section
variable {P : Program} {w : World} {K : PySem.W.Frag} {mg : Str → Option Value} {base : Heap} {f : Addr} {fd : FuncData} {k : Nat}
end
end Z

namespace Z
open PySem PySem.Spec PyProof.Rows L2 TL Evl
theorem et_yes {σ : L2.St} {H : Hp} : EvT tYes σ H true := fun H1 e Q q => q H1 (Ex.refl H1)
theorem cut1_eq (z : Str) (c : Nat) : decide (cutS z none (some 1) = (⟨#[c]⟩ : Str)) = decide (hd z = some c) := by
  cases e : hd z with
  | none =>
    rw [cut1_nil e, decide_eq_false (show ¬ (none : Option Nat) = some c from fun h => nomatch h)]
    refine decide_eq_false fun h => ?_
    have := congrArg tl h
    rw [tl_empty] at this
    exact absurd this.symm (by show ¬ [c] = []; simp)
  | some d =>
    rw [cut1_one e]
    by_cases h : d = c
    · rw [h, decide_eq_true rfl, decide_eq_true rfl]
    · rw [decide_eq_false fun x => h ((one_eq _ _).mp x), decide_eq_false fun x => h (Option.some.inj x)]
theorem cut_len (z : Str) (a b : Option Int) : (cutS z a b).length ≤ z.length := cutS_length z a b
def rest (z : Str) : Str := cutS z (some 1) none
def readV (z : Str) : V := if hd z = some 45 then (if digB (rest z) = true ∧ rest z ≠ ("0" : Str) then .int (-((NumText.digitsVal (tl (rest z)) : Nat) : Int)) else .non) else numV z
theorem starts_minus (z : Str) : Txt.startswith z "-" = decide (hd z = some 45) := by
  have e45 : ("-" : Str) = ⟨#[45]⟩ := by decide +kernel
  unfold Txt.startswith Builtin.Str.subAt
  rw [e45]
  show (decide (0 + 1 ≤ z.length) && (z.cps.extract 0 (0 + 1) == #[45])) = _
  have hx : (z.cps.extract 0 (0 + 1) == #[45]) = decide ((tl z).take 1 = [45]) := by
    have : (z.cps.extract 0 (0 + 1)).toList = (tl z).take 1 := by simp [tl]
    by_cases h : (tl z).take 1 = [45]
    · rw [decide_eq_true h]
      refine beq_iff_eq.mpr (Array.toList_inj.mp ?_)
      rw [this, h]
    · rw [decide_eq_false h]
      refine beq_eq_false_iff_ne.mpr fun e => h ?_
      rw [← this, e]
  rw [hx, len_tl]
  unfold hd
  cases e : tl z with
  | nil => rfl
  | cons a r =>
    have h1 : 0 + 1 ≤ (a :: r).length := by rw [List.length_cons]; omega
    rw [decide_eq_true h1, Bool.true_and]
    show decide ([a] = [45]) = decide (some a = some 45)
    by_cases h : a = 45
    · rw [h]; rfl
    · rw [decide_eq_false fun e => h (by cases e; rfl), decide_eq_false fun e => h (Option.some.inj e)]
theorem zero_text {z : Str} (h : z.length = 1) (h48 : hd z = some 48) : z = ("0" : Str) := by
  refine ext_tl ?_
  have e : tl ("0" : Str) = [48] := by decide +kernel
  rw [e]
  unfold hd at h48
  rw [len_tl] at h
  cases q : tl z with
  | nil => rw [q] at h48; cases h48
  | cons a r =>
    rw [q] at h48 h
    cases h48
    cases r with
    | nil => rfl
    | cons b t => rw [List.length_cons, List.length_cons] at h; omega
theorem zero_len {z : Str} (h : z = ("0" : Str)) : z.length = 1 := by rw [h]; decide +kernel
section
variable {P : Program} {w : World} {K : PySem.W.Frag} {mg : Str → Option Value} {base : Heap} {f : Addr} {fd : FuncData} {k : Nat}
abbrev cons_ (P : Program) (w : World) (K : PySem.W.Frag) (mg : Str → Option Value) (base : Heap) : Prop := Call P w K mg base 1 "consists_of" ["text", "signs"] (sp2 fun z s => .bl (allIn z s))
end
end Z

namespace Z
open PySem PySem.Spec PyProof.Rows L2 TL Evl
open NumText in
theorem fold_mono : ∀ (l : List Nat) (a : Nat), 1 ≤ a → 1 ≤ l.foldl (fun acc c => acc * 10 + (c - 48)) a
  | [], a, h => h
  | c :: r, a, h => fold_mono r (a * 10 + (c - 48)) (by omega)
open NumText in
theorem val_pos {z : Str} (hb : digB z = true) (h0 : z ≠ ("0" : Str)) : 1 ≤ digitsVal (tl z) := by
  unfold digB at hb
  obtain ⟨h1, h2⟩ := Bool.and_eq_true_iff.mp hb
  obtain ⟨h3, h4⟩ := Bool.and_eq_true_iff.mp h2
  have hl := pl h1
  have hall := digits_all h3
  have hne : hd z ≠ some 48 := by
    intro h48
    rw [Bool.or_eq_true, decide_eq_true_eq, Bool.not_eq_true', decide_eq_false_iff_not] at h4
    rcases h4 with h | h
    · exact h0 (zero_text (by omega) h48)
    · exact h h48
  unfold hd at hne
  cases q : tl z with
  | nil =>
    have := len_tl z
    rw [q] at this
    have e : ([] : List Nat).length = 0 := rfl
    omega
  | cons c r =>
    rw [q] at hne hall
    have hc := hall c List.mem_cons_self
    have : c ≠ 48 := fun e => hne (by rw [e]; rfl)
    show 1 ≤ (c :: r).foldl (fun acc c => acc * 10 + (c - 48)) 0
    rw [List.foldl_cons]
    exact fold_mono r _ (by omega)
theorem val_zero : NumText.digitsVal (tl ("0" : Str)) = 0 := by decide +kernel
theorem rest_len (z : Str) : (rest z).length ≤ z.length := cut_len z _ _
theorem minus_nodig {z : Str} (h : hd z = some 45) : digB z = false := by
  cases e : digB z with
  | false => rfl
  | true =>
    exfalso
    unfold digB at e
    obtain ⟨h1, h2⟩ := Bool.and_eq_true_iff.mp e
    obtain ⟨h3, h4⟩ := Bool.and_eq_true_iff.mp h2
    have hall := digits_all h3
    unfold hd at h
    cases q : tl z with
    | nil => rw [q] at h; cases h
    | cons c r =>
      rw [q] at h hall
      cases h
      have := hall 45 List.mem_cons_self
      omega
theorem minus_zero {z : Str} (h : hd z = some 45) : decide (z = ("-0" : Str)) = decide (rest z = ("0" : Str)) := by
  have e0 : tl ("-0" : Str) = [45, 48] := by decide +kernel
  have e1 : tl ("0" : Str) = [48] := by decide +kernel
  have er : tl (rest z) = (tl z).drop 1 := cutFrom1_tl z
  unfold hd at h
  by_cases hz : z = ("-0" : Str)
  · rw [decide_eq_true hz]
    symm
    refine decide_eq_true (ext_tl ?_)
    rw [er, e1, hz, e0]
    rfl
  · rw [decide_eq_false hz]
    symm
    refine decide_eq_false fun hr => hz (ext_tl ?_)
    rw [hr, e1] at er
    cases q : tl z with
    | nil => rw [q] at h; cases h
    | cons c r =>
      rw [q] at h er
      cases h
      have er : [48] = r := er
      rw [← er, e0]
theorem numV_form (z : Str) : (digB z = true ∧ numV z = .int ((NumText.digitsVal (tl z) : Nat) : Int)) ∨ (digB z = false ∧ numV z = .non) := by
  unfold numV
  cases h : digB z with
  | true => exact .inl ⟨rfl, if_pos rfl⟩
  | false => exact .inr ⟨rfl, if_neg (by decide)⟩
section
variable {P : Program} {w : World} {K : PySem.W.Frag} {mg : Str → Option Value} {base : Heap} {f : Addr} {fd : FuncData} {k : Nat}
abbrev C1 (P : Program) (w : World) (K : PySem.W.Frag) (mg : Str → Option Value) (base : Heap) (k : Nat) (x : Str) (f : Str → V) : Prop := Call P w K mg base k x ["text"] (sp1 f)
/-! ### the law's own reading -/
def letters : Str := "abcdefghijklmnopqrstuvwxyz"
end
end Z

namespace Z
open PySem PySem.Spec PyProof.Rows L2 TL Evl
/-! ### texts in lists, compared -/
theorem lay_strs : ∀ xs : List Str, (∀ x ∈ xs, PyData.strOk x = true) → PyData.canLayAll0 (xs.map PyData.str) = true
  | [], _ => by simp [PyData.canLayAll0]
  | x :: r, h => by
    have h1 := h x List.mem_cons_self
    have h2 := lay_strs r fun y hy => h y (List.mem_cons_of_mem _ hy)
    simp [PyData.canLayAll0, PyData.canLay0, h1, h2]
theorem depth_strs : ∀ xs : List Str, PyData.depthAll (xs.map PyData.str) ≤ 1
  | [] => by simp [PyData.depthAll]
  | x :: r => by
    have := depth_strs r
    simp only [List.map_cons, PyData.depthAll, PyData.depth]
    omega
theorem shaped_strs (xs : List Str) (h : ∀ x ∈ xs, PyData.strOk x = true) : SeqAt.shaped (.list (xs.map PyData.str)) = true := by
  have h1 := depth_strs xs
  have h2 : PyData.depth (.list (xs.map PyData.str)) ≤ 64 := by simp only [PyData.depth]; omega
  show (PyData.canLay0 (.list (xs.map PyData.str)) && decide (PyData.depth (.list (xs.map PyData.str)) ≤ 64)) = true
  rw [Bool.and_eq_true]
  exact ⟨by simp only [PyData.canLay0]; exact lay_strs xs h, decide_eq_true h2⟩
theorem ok_text {x : Str} (h : ∀ c ∈ tl x, c < 128) : PyData.strOk x = true := by
  unfold PyData.strOk
  rw [← Array.all_toList]
  exact List.all_eq_true.mpr fun c hc => decide_eq_true (Nat.lt_trans (h c hc) (by decide))
theorem splC_mem : ∀ (l acc p : List Nat), p ∈ splC acc l → ∀ c ∈ p, c ∈ acc ∨ c ∈ l
  | [], acc, p, h, c, hc => by
    rw [List.mem_singleton.mp h] at hc
    exact .inl hc
  | a :: r, acc, p, h, c, hc => by
    have h : p ∈ (if a = 44 then acc :: splC [] r else splC (acc ++ [a]) r) := h
    by_cases ha : a = 44
    · rw [if_pos ha] at h
      rcases List.mem_cons.mp h with e | h
      · rw [e] at hc; exact .inl hc
      · rcases splC_mem r [] p h c hc with g | g
        · cases g
        · exact .inr (List.mem_cons_of_mem _ g)
    · rw [if_neg ha] at h
      rcases splC_mem r (acc ++ [a]) p h c hc with g | g
      · rcases List.mem_append.mp g with g | g
        · exact .inl g
        · rw [List.mem_singleton.mp g]; exact .inr List.mem_cons_self
      · exact .inr (List.mem_cons_of_mem _ g)
theorem strip_mem {p s : Str} {c : Nat} (h : c ∈ tl (Txt.stripChars p s)) : c ∈ tl p := by
  have e0 : Txt.stripChars p s = Builtin.Str.strSub p (stripLo s.cps.contains true p) (stripHi s.cps.contains true p (stripLo s.cps.contains true p)) := stripBy_eq _ _ _ _
  rw [e0, tl_strSub] at h
  exact List.mem_of_mem_drop (List.mem_of_mem_take h)
theorem elems_mem {z p : Str} (h : p ∈ elems z) {c : Nat} (hc : c ∈ tl p) : c ∈ tl z := by
  unfold elems stripped at h
  obtain ⟨h1, _⟩ := List.mem_filter.mp h
  obtain ⟨p0, h2, rfl⟩ := List.mem_map.mp h1
  have h3 := strip_mem hc
  rw [split_eq] at h2
  obtain ⟨l, hl, rfl⟩ := List.mem_map.mp h2
  rcases splC_mem _ _ _ hl c h3 with g | g
  · cases g
  · exact g
theorem elems_ok {z : Str} (h : allIn z signs = true) : ∀ p ∈ elems z, PyData.strOk p = true := fun p hp => ok_text fun c hc => signs_lt c (of_decide_eq_true (List.all_eq_true.mp h c (elems_mem hp hc)))
theorem dp_strs {K : PySem.W.Frag} {H : Hp} : ∀ xs : List Str, DpAll K H (xs.map V.str) (xs.map PyData.str)
  | [] => .nil
  | x :: r => .cons (.str x) (dp_strs r)
theorem rv_eqL {K : PySem.W.Frag} {H : Hp} {p p2 : Addr} {xs : List Str} (h1 : SqL K H p (xs.map V.str)) (h2 : SqL K H p2 (xs.map V.str)) (hx : ∀ x ∈ xs, PyData.strOk x = true) : RV (rEqD K) (.ref p) (.ref p2) H (.bl true) := fun H1 e Q q => by
  refine ⟨.list (xs.map .str), .list (xs.map .str), .lst (ex_l e h1) (dp_strs xs), .lst (ex_l e h2) (dp_strs xs), shaped_strs xs hx, shaped_strs xs hx, ?_⟩
  rw [SeqAt.eqv_refl _ (SeqAt.canLay_of_shaped (shaped_strs xs hx))]
  exact q H1 (Ex.refl H1)
section
variable {K : PySem.W.Frag} {σ : L2.St} {H H' : Hp} {ta tb te : TE} {x : V}
theorem ev_isi {n : String} {t : Value} {b : Bool} (h : Ev ta σ H x) (ht : ∀ H1, Ex H H1 → TyX K H1 x t) (hk : PySem.W.kitOne K t (.type n) = some b) : Ev (tCB (rIsi K) (tCons ta (tCons (tC (.ty n)) tNil))) σ H (.bl b) := fun H1 e Q q =>
  h H1 e _ fun H2 e2 => ⟨x, .ty n, t, .type n, b, rfl, .ty n, ht H2 (e.trans e2), hk, q H2 e2⟩
theorem et_truB {b : Bool} (h : Ev te σ H (.bl b)) : EvT (fun σ H Q => te σ H fun x H' => ∃ k, TruV K x H' k ∧ Q k H') σ H b := fun H1 e Q q => h H1 e _ fun H2 e2 => ⟨b, rfl, q H2 e2⟩
theorem rv_eqB {a b : Bool} : RV rEq (.bl a) (.bl b) H (.bl (decide (a = b))) := by
  have : decide (V.bl a = V.bl b) = decide (a = b) := by
    by_cases h : a = b
    · rw [decide_eq_true h, decide_eq_true (congrArg V.bl h)]
    · rw [decide_eq_false h, decide_eq_false fun e => h (V.bl.inj e)]
  rw [← this]
  exact rv_eq rfl
end
section
variable {P : Program} {w : World} {K : PySem.W.Frag} {mg : Str → Option Value} {base : Heap} {f : Addr} {fd : FuncData} {k : Nat}
theorem wd_len (l : List Nat) (fs : List Str) (wd : Str) : (l.foldl wstep (fs, wd)).2.length ≤ wd.length + l.length ∧ (l.foldl wstep (fs, wd)).1.length ≤ fs.length + l.length := by
  induction l generalizing fs wd with
  | nil => exact ⟨Nat.le_refl _, Nat.le_refl _⟩
  | cons c r ih =>
    rw [List.foldl_cons, List.length_cons]
    have e : wstep (fs, wd) c = ((wstep (fs, wd) c).1, (wstep (fs, wd) c).2) := rfl
    rw [e]
    obtain ⟨h1, h2⟩ := ih (wstep (fs, wd) c).1 (wstep (fs, wd) c).2
    have g : (wstep (fs, wd) c).2.length ≤ wd.length + 1 ∧ (wstep (fs, wd) c).1.length ≤ fs.length + 1 := by
      unfold wstep
      by_cases hc : c = 44
      · rw [if_pos hc]
        refine ⟨by show (("" : Str)).length ≤ _; rw [show (("" : Str)).length = 0 by decide +kernel]; omega, ?_⟩
        show (if Txt.stripChars wd " " = ("" : Str) then fs else fs ++ [Txt.stripChars wd " "]).length ≤ _
        by_cases h : Txt.stripChars wd " " = ("" : Str)
        · rw [if_pos h]; omega
        · rw [if_neg h, List.length_append]; exact Nat.le_refl _
      · rw [if_neg hc]
        refine ⟨?_, by show fs.length ≤ _; omega⟩
        show (wd ++ (⟨#[c]⟩ : Str)).length ≤ _
        rw [Str.length_append]
        exact Nat.le_refl _
    omega
theorem take_step {l : List Nat} {i c : Nat} (h : l[i]? = some c) (st : List Str × Str) : (l.take (i + 1)).foldl wstep st = wstep ((l.take i).foldl wstep st) c := by
  rw [List.take_add_one, h, List.foldl_append]
  rfl
def spTruth : Sp := fun vs H Q _ => ∃ a b : Bool, vs = [.bl a, .bl b] ∧ RetV (.bl (decide (a = b))) H Q
theorem svT {a b : Bool} {H : Hp} : SpV spTruth [.bl a, .bl b] H (.bl (decide (a = b))) := fun H1 e Q q E => ⟨a, b, rfl, q⟩
def spInt : Sp := fun vs H Q _ => ∃ z : V, vs = [z, z] ∧ (z = .non ∨ ∃ i, z = .int i) ∧ RetV (.bl true) H Q
theorem numV_kind (z : Str) : numV z = .non ∨ ∃ i, numV z = .int i := by
  rcases numV_form z with ⟨_, h⟩ | ⟨_, h⟩
  · exact .inr ⟨_, h⟩
  · exact .inl h
theorem readV_kind (z : Str) : readV z = .non ∨ ∃ i, readV z = .int i := by
  unfold readV
  by_cases h : hd z = some 45
  · rw [if_pos h]
    by_cases h2 : digB (rest z) = true ∧ rest z ≠ ("0" : Str)
    · rw [if_pos h2]; exact .inr ⟨_, rfl⟩
    · rw [if_neg h2]; exact .inl rfl
  · rw [if_neg h]; exact numV_kind z
theorem svI {v : V} {H : Hp} (h : v = .non ∨ ∃ i, v = .int i) : SpV spInt [v, v] H (.bl true) := fun H1 e Q q E => ⟨v, rfl, h, q⟩
def spRight : Sp := fun vs H Q _ => ∃ z : Str, vs = [.str z] ∧ z.length ≤ 10000 ∧ RetV (.bl true) H Q
theorem dec_self (b : Bool) : decide (b = b) = true := decide_eq_true rfl
end
end Z

namespace Z
open PySem PySem.Spec PyProof.Rows L2 TL Evl
def rRepStr : R2 := fun x y H Q => ∃ (z : Str) (i : Int), x = .str z ∧ y = .int i ∧ 0 ≤ i ∧ i ≤ 1000 ∧ z.length ≤ 1000 ∧ Q (.str (repS z i.toNat)) H
theorem oz_rep {X : Cx} : OpR X (binaryOp .Mult) rRepStr := op_rep_str
def rInt1 : List V → Hp → VK → Prop := fun xs H Q => (∃ i, xs = [.int i] ∧ Q (.int i) H) ∨ ∃ k, xs = [.bl k] ∧ Q (.int (if k then 1 else 0)) H
theorem cz_int1 {X : Cx} : CallR X (.type "int") rInt1 := call_int1
def rJoin (K : PySem.W.Frag) : V → List V → Hp → VK → Prop := fun x xs H Q => ∃ a p, ∃ ys : List Str, x = .str a ∧ xs = [.ref p] ∧ (SqL K H p (ys.map V.str) ∨ SqT K H p (ys.map V.str)) ∧ (ys.map (·.length)).sum + ys.length * a.length ≤ 16777216 ∧ Q (.str (Txt.join a ys)) H
theorem mz_join {X : Cx} : MtR X "str.join" (rJoin X.K) := mt_join
section
variable {K : PySem.W.Frag} {σ : L2.St} {H H' : Hp} {ta tb te : TE} {x : V} {ti : TA}
theorem ev_int1 {i : Int} (h : Ev te σ H (.int i)) : Ev (tCB rInt1 (tCons te tNil)) σ H (.int i) := fun H1 e Q q => h H1 e _ fun H2 e2 => .inl ⟨i, rfl, q H2 e2⟩
theorem rd_call {sp : Sp} {vs : List V} {E : XK} {Q : VK} (h : EvA ti σ H vs) (k : ∀ H1, Ex H H1 → sp (vs ++ []) H1 Q E) : tCall sp [] E ti σ H Q := h H (Ex.refl H) _ k
end
/-! ### the bag of draws -/
def cap : Nat := 1048576
/-- a bag at p, of which at most n were drawn -/
def BagAt (H : Hp) (p : Addr) (n : Nat) : Prop := ∃ (c0 : Int) (cv : V) (c2 : Int), H p = some (.lst [.int c0, cv, .int c2]) ∧ 0 ≤ c2 ∧ c2 ≤ (n : Int) ∧ (cv = .non ∨ ∃ c : Int, cv = .int c ∧ c.natAbs < 2 ^ cap)
/-- all but what stands at p is as it was -/
def Keep (p : Addr) (H H' : Hp) : Prop := ∀ b o, b ≠ p → H b = some o → H' b = some o
theorem Keep.of {p : Addr} {H H' : Hp} (e : Ex H H') : Keep p H H' := fun b o _ h => e b o h
theorem Keep.trans {p : Addr} {H H1 H2 : Hp} (a : Keep p H H1) (b : Keep p H1 H2) : Keep p H H2 := fun c o hc h => b c o hc (a c o hc h)
theorem Keep.upd {p : Addr} {H H1 : Hp} {o : HO} (a : Keep p H H1) : Keep p H (upd H1 p o) := fun c u hc h => by rw [upd_ne hc]; exact a c u hc h
theorem BagAt.ex {H H' : Hp} {p : Addr} {n : Nat} (b : BagAt H p n) (e : Ex H H') : BagAt H' p n := by
  obtain ⟨c0, cv, c2, h, r⟩ := b
  exact ⟨c0, cv, c2, e _ _ h, r⟩
theorem BagAt.mono {H : Hp} {p : Addr} {n m : Nat} (b : BagAt H p n) (h : n ≤ m) : BagAt H p m := by
  obtain ⟨c0, cv, c2, h1, h2, h3, h4⟩ := b
  exact ⟨c0, cv, c2, h1, h2, by omega, h4⟩
theorem BagAt.some {H : Hp} {p : Addr} {n : Nat} (b : BagAt H p n) : ∃ xs, H p = some (.lst xs) := by
  obtain ⟨c0, cv, c2, h, r⟩ := b
  exact ⟨_, h⟩
theorem Keep.free {p : Addr} {H H' : Hp} (a : Keep p H H') {n : Nat} (b : BagAt H' p n) {l : Addr} (h : H' l = none) : H l = none := by
  cases q : H l with
  | none => rfl
  | some o =>
    by_cases e : l = p
    · obtain ⟨xs, g⟩ := b.some
      rw [e, g] at h
      cases h
    · rw [a l o e q] at h
      cases h
def spDraw : Sp := fun vs H Q _ => ∃ (p : Addr) (size : Int) (n : Nat), vs = [.ref p, .int size] ∧ BagAt H p n ∧ n ≤ 100000000 ∧ 1 ≤ size ∧ size ≤ 1000000 ∧
  ∀ (d : Int) (H' : Hp), 0 ≤ d → d < size → BagAt H' p (n + 1) → Keep p H H' → Q (.int d) H'
section
variable {P : Program} {w : World} {K : PySem.W.Frag} {mg : Str → Option Value} {base : Heap} {f : Addr} {fd : FuncData} {k : Nat}
end
end Z

namespace Z
open PySem PySem.Spec PyProof.Rows L2 TL Evl
theorem at_int {α : Type} {xs : List α} {d : Int} (h0 : 0 ≤ d) (h1 : d < (xs.length : Int)) : ∃ v, atI xs d = some v ∧ v ∈ xs := by
  obtain ⟨j, rfl⟩ := Int.eq_ofNat_of_zero_le h0
  have hj : j < xs.length := by omega
  exact ⟨xs[j], atI_nat (List.getElem?_eq_getElem hj), List.getElem_mem hj⟩
abbrev CDraw (P : Program) (w : World) (K : PySem.W.Frag) (mg : Str → Option Value) (base : Heap) : Prop := Call P w K mg base 1 "_law_draw" ["bag", "size"] spDraw
def spPickS : Sp := fun vs H Q _ => ∃ (p : Addr) (n : Nat) (z : Str), vs = [.ref p, .str z] ∧ BagAt H p n ∧ n ≤ 100000000 ∧ 1 ≤ z.length ∧ z.length ≤ 1000 ∧ ∀ (c : Nat) (H' : Hp), BagAt H' p (n + 1) → Keep p H H' → Q (.str ⟨#[c]⟩) H'
def spPickL : Sp := fun vs H Q _ => ∃ (p : Addr) (n : Nat) (l : Addr) (xs : List V), vs = [.ref p, .ref l] ∧ BagAt H p n ∧ n ≤ 100000000 ∧ l ≠ p ∧ H l = some (.lst xs) ∧ 1 ≤ xs.length ∧ xs.length ≤ 1000 ∧ ∀ (v : V) (H' : Hp), v ∈ xs → BagAt H' p (n + 1) → Keep p H H' → Q v H'
def spMost : Sp := fun vs H Q _ => ∃ (p : Addr) (n : Nat) (a b : Int), vs = [.ref p, .int a, .int b] ∧ BagAt H p n ∧ n ≤ 100000000 ∧ ∀ (v : Int) (H' : Hp), v = a ∨ v = b → BagAt H' p (n + 1) → Keep p H H' → Q (.int v) H'
/-- a word of at most `most` signs; at most 1001 draws -/
def spWord : Sp := fun vs H Q _ => ∃ (p : Addr) (n : Nat) (z : Str) (least most : Int), vs = [.ref p, .str z, .int least, .int most] ∧ BagAt H p n ∧ n ≤ 90000000 ∧ 1 ≤ z.length ∧ z.length ≤ 1000 ∧ 0 ≤ least ∧ least ≤ most ∧ most ≤ 1000 ∧
  ∀ (t : Str) (H' : Hp), (t.length : Int) ≤ most → BagAt H' p (n + 1001) → Keep p H H' → Q (.str t) H'
def spBag (K : PySem.W.Frag) : Sp := fun vs H Q _ => ∃ (a : Addr) (ns : List Int) (i : Nat), vs = [.ref a, .int (i : Int)] ∧ SqL K H a (ns.map V.int) ∧ ns.length ≤ 63 ∧ i ≤ 63 ∧ (∀ z ∈ ns, z.natAbs < 2 ^ cap) ∧ ∀ (p : Addr) (H' : Hp), H p = none → Ex H H' → BagAt H' p 0 → Q (.ref p) H'
section
variable {P : Program} {w : World} {K : PySem.W.Frag} {mg : Str → Option Value} {base : Heap} {f : Addr} {fd : FuncData} {k : Nat}
theorem sum_ones : ∀ ys : List Str, (∀ y ∈ ys, y.length = 1) → (ys.map (·.length)).sum = ys.length
  | [], _ => rfl
  | y :: r, h => by
    rw [List.map_cons, List.sum_cons, sum_ones r fun x hx => h x (List.mem_cons_of_mem _ hx), h y List.mem_cons_self, List.length_cons]
    omega
theorem join_len (sep : Str) (ys : List Str) : (Txt.join sep ys).length ≤ (ys.map (·.length)).sum + ys.length * sep.length := by
  rw [join_eq]
  exact StrLaws.join_length_le sep ys
end
end Z

namespace Z
open PySem PySem.Spec PyProof.Rows L2 TL Evl
def spList : Sp := fun vs H Q _ => ∃ (p : Addr) (n : Nat), vs = [.ref p] ∧ BagAt H p n ∧ n ≤ 80000000 ∧ ∀ (t : Str) (H' : Hp), t.length ≤ 100 → BagAt H' p (n + 10000) → Keep p H H' → Q (.str t) H'
def spText : Sp := fun vs H Q _ => ∃ (p : Addr) (n : Nat), vs = [.ref p] ∧ BagAt H p n ∧ n ≤ 1000 ∧ ∀ (t : Str) (H' : Hp), t.length ≤ 1500 → BagAt H' p (n + 100000) → Keep p H H' → Q (.str t) H'
def spSpoilt : Sp := fun vs H Q _ => ∃ (p : Addr) (n : Nat) (z : Str), vs = [.ref p, .str z] ∧ BagAt H p n ∧ n ≤ 1000000 ∧ z.length ≤ 1500 ∧ ∀ (t : Str) (H' : Hp), t.length ≤ 4000 → BagAt H' p (n + 3) → Keep p H H' → Q (.str t) H'
def spLaw (K : PySem.W.Frag) : Sp := fun vs H Q _ => ∃ (a : Addr) (ns : List Int), vs = [.ref a] ∧ SqL K H a (ns.map V.int) ∧ ns.length ≤ 63 ∧ (∀ z ∈ ns, z.natAbs < 2 ^ cap) ∧ ∀ H', Q (.bl true) H'
theorem BagAt.new {H : Hp} {p l : Addr} {n : Nat} {o : HO} (b : BagAt H p n) (h : H l = none) : BagAt (upd H l o) p n ∧ l ≠ p := by
  obtain ⟨xs, g⟩ := b.some
  exact ⟨b.ex (Ex.new h), fun e => by rw [e, g] at h; cases h⟩
theorem strs_in {ss : List Str} {v : V} (h : v ∈ ss.map V.str) : ∃ x, v = .str x ∧ x ∈ ss := by
  obtain ⟨x, hx, e⟩ := List.mem_map.mp h
  exact ⟨x, e.symm, hx⟩
theorem ints_in {ss : List Int} {v : V} (h : v ∈ ss.map V.int) : ∃ x, v = .int x ∧ x ∈ ss := by
  obtain ⟨x, hx, e⟩ := List.mem_map.mp h
  exact ⟨x, e.symm, hx⟩
theorem sum_most : ∀ (ys : List Str) (m : Nat), (∀ y ∈ ys, y.length ≤ m) → (ys.map (·.length)).sum ≤ ys.length * m
  | [], _, _ => Nat.zero_le _
  | y :: r, m, h => by
    have h1 := sum_most r m fun x hx => h x (List.mem_cons_of_mem _ hx)
    have h2 := h y List.mem_cons_self
    rw [List.map_cons, List.sum_cons, List.length_cons, Nat.succ_mul]
    omega
section
variable {P : Program} {w : World} {K : PySem.W.Frag} {mg : Str → Option Value} {base : Heap} {f : Addr} {fd : FuncData} {k : Nat}
abbrev CPickL (P : Program) (w : World) (K : PySem.W.Frag) (mg : Str → Option Value) (base : Heap) : Prop := Call P w K mg base 2 "_law_pick" ["bag", "things"] spPickL
abbrev CPickS (P : Program) (w : World) (K : PySem.W.Frag) (mg : Str → Option Value) (base : Heap) : Prop := Call P w K mg base 2 "_law_pick" ["bag", "things"] spPickS
abbrev CMost (P : Program) (w : World) (K : PySem.W.Frag) (mg : Str → Option Value) (base : Heap) : Prop := Call P w K mg base 2 "_law_most" ["bag", "small", "large"] spMost
abbrev CWord (P : Program) (w : World) (K : PySem.W.Frag) (mg : Str → Option Value) (base : Heap) : Prop := Call P w K mg base 2 "_law_word" ["bag", "signs", "least", "most"] spWord
end
end Z

namespace Z
open PySem PySem.Spec PyProof.Rows L2 TL Evl
theorem short_in {ss : List Str} {m : Nat} (h : ss.all (fun x => decide (x.length ≤ m)) = true) {x : Str} (hx : x ∈ ss) : x.length ≤ m := of_decide_eq_true (List.all_eq_true.mp h x hx)
section
variable {P : Program} {w : World} {K : PySem.W.Frag} {mg : Str → Option Value} {base : Heap} {f : Addr} {fd : FuncData} {k : Nat}
end
end Z
set_option maxHeartbeats 4000000
namespace Z
open PySem PySem.Spec PyProof.Rows L2 TL Evl
/-! ### lists of values, each with what it stands for -/
def Rel {α : Type} (R : V → α → Prop) (xs : List V) (os : List α) : Prop := xs.length = os.length ∧ ∀ (i : Nat) (x : V) (o : α), xs[i]? = some x → os[i]? = some o → R x o
section
variable {α : Type} {R R' : V → α → Prop} {xs : List V} {os : List α} {x : V} {o : α} {i : Nat}
theorem Rel.mono (h : Rel R xs os) (m : ∀ x o, R x o → R' x o) : Rel R' xs os := ⟨h.1, fun i x o a b => m x o (h.2 i x o a b)⟩
theorem Rel.nil : Rel R [] [] := ⟨rfl, fun i x o a => by cases a⟩
theorem Rel.snoc (h : Rel R xs os) (r : R x o) : Rel R (xs ++ [x]) (os ++ [o]) := by
  refine ⟨by rw [List.length_append, List.length_append, h.1]; rfl, fun i y u a b => ?_⟩
  by_cases hi : i < xs.length
  · rw [List.getElem?_append_left hi] at a
    rw [List.getElem?_append_left (by rw [← h.1]; exact hi)] at b
    exact h.2 i y u a b
  · rw [List.getElem?_append_right (by omega)] at a
    rw [List.getElem?_append_right (by rw [← h.1]; omega)] at b
    rw [← h.1] at b
    cases e : i - xs.length with
    | zero =>
      rw [e] at a b
      cases a
      cases b
      exact r
    | succ n =>
      rw [e] at a
      cases a
theorem Rel.get (h : Rel R xs os) (a : xs[i]? = some x) : ∃ o, os[i]? = some o ∧ R x o := by
  have hi : i < xs.length := (List.getElem?_eq_some_iff.mp a).1
  have e := List.getElem?_eq_getElem (h.1 ▸ hi : i < os.length)
  exact ⟨_, e, h.2 i x _ a e⟩
theorem Rel.at (h : Rel R xs os) (b : os[i]? = some o) : ∃ x, xs[i]? = some x ∧ R x o := by
  have hi : i < os.length := (List.getElem?_eq_some_iff.mp b).1
  have e := List.getElem?_eq_getElem (h.1.symm ▸ hi : i < xs.length)
  exact ⟨_, e, h.2 i _ o e b⟩
end
/-- a comprehension over a list whose values stand for things -/
theorem lc_rel {K : PySem.W.Frag} {a : Addr} {xs : List V} {g : TG} {tt : TT} {te : TE} {vs : List Nat} {σ : L2.St} {H0 : Hp} {D : Addr} {Qd : Hp → Prop} {α : Type} (acc : Nat → List α) (R : Hp → V → α → Prop)
    (mono : ∀ H1 H2 x o, (∀ b ob, b ≠ D → H1 b = some ob → H2 b = some ob) → (∃ ys, H1 D = some (.lst ys)) → R H1 x o → R H2 x o)
    (hx : SqL K H0 a xs) (hD : H0 D = none) (h00 : acc 0 = []) (hz : xs.length ≤ 50000)
    (hs : ∀ i x H, xs[i]? = some x → Ex H0 H → ∀ (k : VK) (k0 : Hp → Prop), (∀ y H4 o, Ex H H4 → acc (i + 1) = acc i ++ [o] → R H4 y o → k y H4) → (∀ H3, Ex H H3 → acc (i + 1) = acc i → k0 H3) →
      g x (wipe σ vs) H fun σ2 H2 => wipe σ2 vs = wipe σ vs ∧ tt σ2 H2 fun b H3 => if b = true then te σ2 H3 k else k0 H3)
    (hd : ∀ H ys, Ex H0 H → H D = some (.lst ys) → Rel (R H) ys (acc xs.length) → Qd H) :
    ∃ W : Nat → Nat → Hp → Prop, (∃ m, W 0 m (upd H0 D (.lst []))) ∧ ∀ i m H, W i m H →
      ((Itl K a).stop i H ∧ Qd H) ∨ ((Itl K a).go i H ∧ ∃ Nx : Hp → Prop, (∀ H', Nx H' → ∃ m', m' < m ∧ W (i + 1) m' H') ∧ ∀ x H', (Itl K a).yld i H x H' → g x (wipe σ vs) H' fun σ2 H2 => wipe σ2 vs = wipe σ vs ∧ tt σ2 H2 fun b H3 =>
        if b = true then te σ2 H3 fun y H4 => ∃ acc, H4 D = some (.lst acc) ∧ acc.length < sizeLine ∧ Nx (upd H4 D (.lst (acc ++ [y]))) else Nx H3) := by
  refine lc_list (xs := xs) (fun i H => Ex H0 H ∧ ∃ ys, H D = some (.lst ys) ∧ ys.length ≤ i ∧ Rel (R H) ys (acc i)) ⟨Ex.new hD, [], upd_same, Nat.le_refl _, by rw [h00]; exact Rel.nil⟩ (fun i H _ p => ex_l p.1 hx) (fun i x H hi p => ?_) (fun H p => ?_)
  · obtain ⟨e0, ys, hy, hl, hr⟩ := p
    have hi2 : i < xs.length := (List.getElem?_eq_some_iff.mp hi).1
    refine hs i x H hi e0 _ _ (fun y H4 o e4 ea r => ?_) (fun H3 e3 ea => ?_)
    · refine ⟨ys, e4 _ _ hy, sz_lt (by omega), Ex.mut (e0.trans e4) hD, ys ++ [y], upd_same, by rw [List.length_append]; exact Nat.add_le_add_right hl 1, ?_⟩
      rw [ea]
      refine Rel.snoc (hr.mono fun x o q => ?_) ?_
      · exact mono _ _ x o (fun b ob hb h => by rw [upd_ne hb]; exact h) ⟨ys, e4 _ _ hy⟩ (mono _ _ x o (fun b ob _ h => e4 b ob h) ⟨ys, hy⟩ q)
      · exact mono _ _ y o (fun b ob hb h => by rw [upd_ne hb]; exact h) ⟨ys, e4 _ _ hy⟩ r
    · refine ⟨e0.trans e3, ys, e3 _ _ hy, by omega, ?_⟩
      rw [ea]
      exact hr.mono fun x o q => mono _ _ x o (fun b ob _ h => e3 b ob h) ⟨ys, hy⟩ q
  · obtain ⟨e0, ys, hy, hl, hr⟩ := p
    exact hd H ys e0 hy hr
/-! ### a number that may not be there, pairs of them -/
def num (z : Str) : Option Nat := if digB z = true then some (NumText.digitsVal (tl z)) else none
def ov : Option Nat → V
  | none => .non
  | some n => .int (n : Int)
theorem numV_ov (z : Str) : numV z = ov (num z) := by
  unfold numV num
  cases h : digB z <;> rfl
theorem ov_non (o : Option Nat) : decide (ov o = .non) = o.isNone := by cases o <;> rfl
abbrev Pr := Option Nat × Option Nat
def TupAt (H : Hp) (v : V) (xs : List V) : Prop := ∃ p, v = .ref p ∧ H p = some (.tup xs)
def PrAt (H : Hp) (v : V) (o : Pr) : Prop := TupAt H v [ov o.1, ov o.2]
def OPrAt (H : Hp) (v : V) : Option Pr → Prop
  | none => v = .non
  | some q => PrAt H v q
def IpAt (H : Hp) (v : V) (o : Int × Int) : Prop := TupAt H v [.int o.1, .int o.2]
theorem TupAt.keep {H1 H2 : Hp} {D : Addr} {v : V} {xs : List V} (h : TupAt H1 v xs) (k : ∀ b ob, b ≠ D → H1 b = some ob → H2 b = some ob) (hD : ∃ ys, H1 D = some (.lst ys)) : TupAt H2 v xs := by
  obtain ⟨p, rfl, hp⟩ := h
  obtain ⟨ys, hy⟩ := hD
  exact ⟨p, rfl, k p _ (fun e => by rw [e, hy] at hp; cases hp) hp⟩
theorem TupAt.ex {H1 H2 : Hp} {v : V} {xs : List V} (h : TupAt H1 v xs) (e : Ex H1 H2) : TupAt H2 v xs := by
  obtain ⟨p, rfl, hp⟩ := h
  exact ⟨p, rfl, e _ _ hp⟩
theorem OPrAt.ex {H1 H2 : Hp} {v : V} {o : Option Pr} (h : OPrAt H1 v o) (e : Ex H1 H2) : OPrAt H2 v o := by
  cases o with
  | none => exact h
  | some q => exact TupAt.ex h e
theorem OPrAt.keep {H1 H2 : Hp} {D : Addr} {v : V} {o : Option Pr} (h : OPrAt H1 v o) (k : ∀ b ob, b ≠ D → H1 b = some ob → H2 b = some ob) (hD : ∃ ys, H1 D = some (.lst ys)) : OPrAt H2 v o := by
  cases o with
  | none => exact h
  | some q => exact TupAt.keep h k hD
/-! ### the dash of a text -/
def dashAt (z : Str) : Option Nat := (Builtin.Str.occurrences z "-" 0 z.length 1).head?
theorem find_dash (z : Str) : Txt.find z "-" = (match dashAt z with | some i => (i : Int) | none => -1) := by
  unfold Txt.find dashAt
  cases Builtin.Str.occurrences z "-" 0 z.length 1 <;> rfl
theorem dash_len : ("-" : Str).length = 1 := by decide +kernel
theorem cutTo_tl (z : Str) (i : Nat) : tl (cutS z none (some (i : Int))) = (tl z).take i := by
  show ((tl z).drop (HT.sIx z.length 0 none)).take (HT.sIx z.length z.length (some (i : Int)) - HT.sIx z.length 0 none) = _
  rw [HT.sIx_none, show HT.sIx z.length z.length (some (i : Int)) = min i z.length from HT.sIx_nat _ _ i, List.drop_zero, Nat.sub_zero, len_tl]
  by_cases h : i ≤ (tl z).length
  · rw [Nat.min_eq_left h]
  · rw [Nat.min_eq_right (by omega), List.take_of_length_le (Nat.le_refl _), List.take_of_length_le (by omega)]
theorem cutFrom_tl (z : Str) (i : Nat) : tl (cutS z (some (i : Int)) none) = (tl z).drop i := by
  show ((tl z).drop (HT.sIx z.length 0 (some (i : Int)))).take (HT.sIx z.length z.length none - HT.sIx z.length 0 (some (i : Int))) = _
  rw [HT.sIx_none, show HT.sIx z.length 0 (some (i : Int)) = min i z.length from HT.sIx_nat _ _ i, len_tl]
  by_cases h : i ≤ (tl z).length
  · rw [Nat.min_eq_left h]
    exact List.take_of_length_le (by rw [List.length_drop]; exact Nat.le_refl _)
  · rw [Nat.min_eq_right (by omega), List.drop_of_length_le (Nat.le_refl _), List.drop_of_length_le (by omega), List.take_nil]
/-- what stands ahead of a place, what stands behind -/
def preT (z : Str) (i : Nat) : Str := S' ((tl z).take i)
def sufT (z : Str) (i : Nat) : Str := S' ((tl z).drop i)
theorem cutTo (z : Str) (i : Nat) : cutS z none (some (i : Int)) = preT z i := ext_tl (by rw [cutTo_tl]; rfl)
theorem cutFrom (z : Str) (i : Nat) : cutS z (some (i : Int)) none = sufT z i := ext_tl (by rw [cutFrom_tl]; rfl)
theorem preT_len (z : Str) (i : Nat) : (preT z i).length ≤ z.length := by rw [← cutTo]; exact cut_len z _ _
theorem sufT_len (z : Str) (i : Nat) : (sufT z i).length ≤ z.length := by rw [← cutFrom]; exact cut_len z _ _
theorem part_dash (z : Str) : (∃ i, dashAt z = some i ∧ i + 1 ≤ z.length ∧ Txt.partition z "-" = (preT z i, ("-" : Str), sufT z (i + 1))) ∨ (dashAt z = none ∧ Txt.partition z "-" = (z, ("" : Str), ("" : Str))) := by
  unfold Txt.partition dashAt
  rcases StrLaws.occ_head z "-" 1 (Nat.le_refl 1) with ⟨h0, _⟩ | ⟨i, r, h0, hi, _⟩
  · rw [h0]; exact .inr ⟨rfl, rfl⟩
  · rw [h0]
    have hb : i + ("-" : Str).length ≤ z.length := hi.1
    refine .inl ⟨i, rfl, by rw [dash_len] at hb; exact hb, ?_⟩
    show (Builtin.Str.strSub z 0 i, ("-" : Str), Builtin.Str.strSub z (i + ("-" : Str).length) z.length) = _
    rw [dash_len]
    refine Prod.ext ?_ (Prod.ext rfl ?_)
    · exact ext_tl (by rw [tl_strSub, List.drop_zero, Nat.sub_zero]; rfl)
    · exact ext_tl (by rw [tl_strSub_end]; rfl)
theorem num_empty : num ("" : Str) = none := by decide +kernel
theorem preT0 (z : Str) : preT z 0 = ("" : Str) := eq_empty.mpr (by unfold preT; rw [List.take_zero]; rfl)
theorem preT_ne {z : Str} {i : Nat} (h : 0 < i) (hi : i + 1 ≤ z.length) : preT z i ≠ ("" : Str) := fun e => by
  have e2 := eq_empty.mp e
  have e3 : ((tl z).take i).length = 0 := by rw [show (tl z).take i = [] from e2]; rfl
  rw [List.length_take, len_tl'] at e3
  omega
theorem sufT_empty {z : Str} {i : Nat} (hi : i + 1 ≤ z.length) : decide (sufT z (i + 1) = ("" : Str)) = decide ((i : Int) = (z.length : Int) - 1) := by
  have e : sufT z (i + 1) = ("" : Str) ↔ (i : Int) = (z.length : Int) - 1 := by
    rw [eq_empty]
    show (tl z).drop (i + 1) = [] ↔ _
    rw [List.drop_eq_nil_iff, len_tl']
    omega
  exact decide_eq_decide.mpr e
/-- what a range says -/
def pairO (A B : Option Nat) : Option Pr :=
  match A, B with
  | none, none => none
  | some a, some b => if b < a then none else some (some a, some b)
  | x, y => some (x, y)
def badB (z : Str) (i : Nat) : Bool := ((num (preT z i)).isNone && !decide (preT z i = ("" : Str))) || ((num (sufT z (i + 1))).isNone && !decide (sufT z (i + 1) = ("" : Str)))
def rangeO (z : Str) : Option Pr :=
  match dashAt z with
  | none => none
  | some i => if badB z i = true then none else pairO (num (preT z i)) (num (sufT z (i + 1)))
theorem rangeO_some {z : Str} {i : Nat} (h : dashAt z = some i) : rangeO z = if badB z i = true then none else pairO (num (preT z i)) (num (sufT z (i + 1))) := by
  unfold rangeO
  rw [h]
theorem rangeO_none {z : Str} (h : dashAt z = none) : rangeO z = none := by
  unfold rangeO
  rw [h]
/-! ### the place of a digit -/
theorem occ_none (z : Str) (c : Nat) (h : c ∉ tl z) : Builtin.Str.occurrences z ⟨#[c]⟩ 0 z.length 1 = [] := by
  have e := StrLaws.found_one z c
  rw [decide_eq_false h] at e
  cases ho : Builtin.Str.occurrences z ⟨#[c]⟩ 0 z.length 1 with
  | nil => rfl
  | cons a r =>
    rw [ho] at e
    exact nomatch e
def dg : Str := "0123456789"
theorem find_digit (c : Nat) : Txt.find dg ⟨#[c]⟩ = if c ∈ tl dg then ((c : Int) - 48) else -1 := by
  by_cases h : c ∈ tl dg
  · rw [if_pos h]
    have all : ∀ c ∈ tl dg, Txt.find dg ⟨#[c]⟩ = ((c : Int) - 48) := by decide +kernel
    exact all c h
  · rw [if_neg h]
    unfold Txt.find
    rw [occ_none dg c h]
theorem dig_range : ∀ c ∈ tl dg, 48 ≤ c ∧ c ≤ 57 := by decide +kernel
/-- digits read so far -/
def dval (l : List Nat) : Nat := l.foldl (fun a c => a * 10 + (c - 48)) 0
theorem dval_snoc (l : List Nat) (c : Nat) : dval (l ++ [c]) = dval l * 10 + (c - 48) := by
  unfold dval
  rw [List.foldl_append]
  rfl
theorem dfold_lt : ∀ (l : List Nat) (a : Nat), (∀ c ∈ l, c ∈ tl dg) → l.foldl (fun a c => a * 10 + (c - 48)) a < (a + 1) * 10 ^ l.length
  | [], a, _ => by show a < (a + 1) * 1; omega
  | c :: r, a, h => by
    have h1 := dfold_lt r (a * 10 + (c - 48)) fun x hx => h x (List.mem_cons_of_mem _ hx)
    have h2 := dig_range c (h c List.mem_cons_self)
    rw [List.foldl_cons, List.length_cons, Nat.pow_succ, Nat.mul_comm (10 ^ r.length) 10, ← Nat.mul_assoc]
    exact Nat.lt_of_lt_of_le h1 (Nat.mul_le_mul_right _ (by omega))
theorem dval_lt {l : List Nat} (h : ∀ c ∈ l, c ∈ tl dg) : dval l < 10 ^ l.length := by
  have := dfold_lt l 0 h
  rw [Nat.zero_add, Nat.one_mul] at this
  exact this
/-! ### named readings -/
def rFind : V → List V → Hp → VK → Prop := fun x xs H Q => ∃ a b, x = .str a ∧ xs = [.str b] ∧ Q (.int (Txt.find a b)) H
theorem mz_find {X : Cx} : MtR X "str.find" rFind := mt_find
def rPart : V → List V → Hp → VK → Prop := fun x xs H Q => ∃ a b, x = .str a ∧ xs = [.str b] ∧ (b.length == 0) = false ∧ a.length ≤ sizeLine ∧
    ∀ p, H p = none → Q (.ref p) (upd H p (.tup [.str (Txt.partition a b).1, .str (Txt.partition a b).2.1, .str (Txt.partition a b).2.2]))
theorem mz_part {X : Cx} : MtR X "str.partition" rPart := mt_partition
def rStrI : List V → Hp → VK → Prop := fun xs H Q => ∃ i : Int, xs = [.int i] ∧ i.natAbs.log2 < 1920 ∧ Q (.str (toString i)) H
theorem cz_str {X : Cx} : CallR X (.type "str") rStrI := call_str_int
section
variable {K : PySem.W.Frag} {σ : L2.St} {H H' : Hp} {ta tb te to ts : TE} {a b s : Str} {p : Addr} {xs : List V}
theorem ev_find (h : Ev to σ H (.str a)) (hs : Ev ts σ H (.str s)) : Ev (tBM K "str" rFind to (tCons ts tNil)) σ H (.int (Txt.find a s)) := fun H1 e Q q =>
  h H1 e _ fun H2 e2 => ⟨rfl, hs H2 (e.trans e2) _ fun H3 e3 => ⟨a, s, rfl, rfl, q H3 (e2.trans e3)⟩⟩
theorem eu_part (h : Ev to σ H (.str a)) (hs : Ev ts σ H (.str s)) (h0 : (s.length == 0) = false) (hz : a.length ≤ 100000) : EvU (tBM K "str" rPart to (tCons ts tNil)) σ H [.str (Txt.partition a s).1, .str (Txt.partition a s).2.1, .str (Txt.partition a s).2.2] := fun H1 e Q q =>
  h H1 e _ fun H2 e2 => ⟨rfl, hs H2 (e.trans e2) _ fun H3 e3 => ⟨a, s, rfl, rfl, h0, sz_of hz, fun p hp => q p _ (fresh_back (e2.trans e3) hp) ((e2.trans e3).trans (Ex.new hp)) upd_same⟩⟩
theorem ev_strI {i : Int} (h : Ev te σ H (.int i)) (hi : i.natAbs < 2 ^ 1920) : Ev (tCB rStrI (tCons te tNil)) σ H (.str (toString i)) := fun H1 e Q q => h H1 e _ fun H2 e2 => ⟨i, rfl, by
  by_cases z : i.natAbs = 0
  · rw [z]; decide
  · exact (Nat.log2_lt z).mpr hi, q H2 e2⟩
theorem ev_lenT {p : Addr} {xs : List V} (ha : Ev ta σ H (.ref p)) (h : SqT K H p xs) : Ev (tCB (rLenS K) (tCons ta tNil)) σ H (.int (xs.length : Int)) := fun H1 e Q q =>
  ha H1 e _ fun H2 e2 => ⟨p, xs, rfl, Or.inr (ex_t (e.trans e2) h), q H2 e2⟩
theorem ev_ixT {i : Int} {v : V} (h : Ev ta σ H (.ref p)) (hi : Ev tb σ H (.int i)) (hp : H p = some (.tup xs)) (hv : atI xs i = some v) : Ev (tOp (rIxT K) ta tb) σ H v := ev_op h hi (rv_ixT (st_of hp) hv)
theorem ev_ixL {i : Int} {v : V} (h : Ev ta σ H (.ref p)) (hi : Ev tb σ H (.int i)) (hp : H p = some (.lst xs)) (hv : atI xs i = some v) : Ev (tOp (rIxL K) ta tb) σ H v := ev_op h hi (rv_ixL (sq_of hp) hv)
/-- any of a list of truths -/
theorem ev_any {bs : List Bool} (ha : EvL ta σ H (bs.map V.bl)) : Ev (tCB (L2.rAny K) (tCons ta tNil)) σ H (.bl (bs.any id)) := fun H1 e Q q =>
  ha H1 e _ fun p H2 _ e2 h2 => ⟨p, bs, rfl, sq_of h2, q H2 e2⟩
def rMin2 : List V → Hp → VK → Prop := fun xs H Q => ∃ i j, xs = [.int i, .int j] ∧ Q (.int (if j < i then j else i)) H
theorem ev_min2 {i j : Int} (ha : Ev ta σ H (.int i)) (hb : Ev tb σ H (.int j)) : Ev (tCB rMin2 (tCons ta (tCons tb tNil))) σ H (.int (if j < i then j else i)) := fun H1 e Q q =>
  ha H1 e _ fun H2 e2 => hb H2 (e.trans e2) _ fun H3 e3 => ⟨i, j, rfl, q H3 (e2.trans e3)⟩
end
section
variable {X : Cx}
theorem cz_min2 (h : X.calm = true) : CallR X (.builtin "min") rMin2 := call_min2 h
end
/-! ### numbers' texts are short -/
theorem strI_len {i : Int} (h0 : 0 ≤ i) (h : i < 10 ^ 7) : (PySem.Str.ofString (toString i)).length ≤ 7 := by
  obtain ⟨n, rfl⟩ := Int.eq_ofNat_of_zero_le h0
  rw [len_tl, tl_num]
  exact numL_len (by decide) (by omega)
end Z
set_option maxHeartbeats 4000000
namespace Z
open PySem PySem.Spec PyProof.Rows L2 TL Evl
/-! ### short texts -/
def EvS (te : TE) (σ : L2.St) (H : Hp) (n : Nat) : Prop := ∃ t : Str, t.length ≤ n ∧ Ev te σ H (.str t)
def EvAS (ta : TA) (σ : L2.St) (H : Hp) (n k : Nat) : Prop := ∃ ts : List Str, ts.length = k ∧ (∀ t ∈ ts, t.length ≤ n) ∧ EvA ta σ H (ts.map V.str)
section
variable {K : PySem.W.Frag} {σ : L2.St} {H H' : Hp} {ta tb te to ts : TE} {a b s : Str} {p : Addr} {xs : List V} {n m k : Nat} {tr : TA}  {ta' : TA} {i : Nat} {sp : Sp} {E : XK} {Q : VK} {x v : V} {D : Ends} {t tz tu : TS} {tt : TT} {dvs : List V}
theorem es_c : EvS (tC (.str a)) σ H a.length := ⟨a, Nat.le_refl _, ev_c⟩
theorem es_var (h : σ[i]? = some (some (.str a))) (hn : a.length ≤ n) : EvS (tVar i) σ H n := ⟨a, hn, ev_var h⟩
theorem es_add (h : EvS ta σ H n) (h2 : EvS tb σ H m) (hs : n + m ≤ 200000 := by decide +kernel) : EvS (tOp rAddS2 ta tb) σ H (n + m) := by
  obtain ⟨x, hx, ex⟩ := h
  obtain ⟨y, hy, ey⟩ := h2
  exact ⟨x ++ y, by rw [Str.length_append]; omega, ev_op ex ey (rv_addS (by omega))⟩
theorem eas_nil : EvAS tNil σ H n 0 := ⟨[], rfl, (fun _ h => by cases h), ea_nil⟩
theorem eas_cons (h : EvS te σ H m) (hm : m ≤ n) (hr : EvAS tr σ H n k) : EvAS (tCons te tr) σ H n (k + 1) := by
  obtain ⟨x, hx, ex⟩ := h
  obtain ⟨ts, h1, h2, h3⟩ := hr
  refine ⟨x :: ts, by rw [List.length_cons, h1], fun t ht => ?_, ea_cons ex h3⟩
  rcases List.mem_cons.mp ht with rfl | ht
  · exact Nat.le_trans hx hm
  · exact h2 t ht
theorem es_mono (h : EvS te σ H n) (hm : n ≤ m) : EvS te σ H m := by
  obtain ⟨x, hx, ex⟩ := h
  exact ⟨x, Nat.le_trans hx hm, ex⟩
theorem es_ex (h : EvS te σ H n) (e : Ex H H') : EvS te σ H' n := by
  obtain ⟨x, hx, ex⟩ := h
  exact ⟨x, hx, ex.mono e⟩
theorem es_strI {i : Int} (h : Ev te σ H (.int i)) (h0 : 0 ≤ i) (h1 : i < 10 ^ 7) : EvS (tCB rStrI (tCons te tNil)) σ H 7 :=
  ⟨_, strI_len h0 h1, ev_strI h (Nat.lt_of_lt_of_le (show i.natAbs < 2 ^ 24 by omega) (Nat.pow_le_pow_right (by decide) (by decide)))⟩
/-! ### readings, one after another -/
theorem rd_cons (h : Ev te σ H x) {Q : List V → Hp → Prop} (k : ∀ H1, Ex H H1 → tr σ H1 fun xs H2 => Q (x :: xs) H2) : tCons te tr σ H Q := h H (Ex.refl H) _ k
theorem rd_args (h : ta' σ H fun vs H1 => sp (vs ++ dvs) H1 Q E) : tCall sp dvs E ta' σ H Q := h
theorem rd_ev (h : Ev te σ H x) (k : ∀ H1, Ex H H1 → Q x H1) : te σ H Q := h H (Ex.refl H) _ k
theorem rd_evL (h : EvL te σ H xs) (k : ∀ p H1, H p = none → Ex H H1 → H1 p = some (.lst xs) → Q (.ref p) H1) : te σ H Q := h H (Ex.refl H) _ k
theorem rd_callN {vs : List V} {tk : TA} (h : EvA tk σ H vs) (hl : vs.length = n) (k : ∀ H1, Ex H H1 → sp vs H1 Q E) : tCallN 0 n sp (fun _ zs => zs) E tNil tk σ H Q := h H (Ex.refl H) _ fun H1 e => ⟨rfl, hl, k H1 e⟩
theorem q_tail (R : L2.St → Hp → Prop) (k : ∀ σ1 H1, R σ1 H1 → tz D σ1 H1) (h : (∀ σ1 H1, R σ1 H1 → tz D σ1 H1) → tSeq t tz D σ H) : tSeq t tz D σ H := h k
theorem g_name {R : L2.St → Hp → Prop} (h : R (σ.set i (some v)) H) : gName i v σ H R := h
theorem q_tailIf {tw : TS} (R : L2.St → Hp → Prop) (k : ∀ σ1 H1, R σ1 H1 → tz D σ1 H1) (h : (∀ σ1 H1, R σ1 H1 → tz D σ1 H1) → tSeq (tIfS tt tu tw) tz D σ H) : tSeq (tIfS tt tu tw) tz D σ H := h k
theorem el_listN (h : EvL te σ H xs) : EvL (tCB (rListS K) (tCons te tNil)) σ H xs := fun H1 e Q q =>
  h H1 e _ fun p H2 np e2 h2 => ⟨p, xs, rfl, .inl (sq_of h2), fun l hl => q l _ (fresh_back e2 hl) (e2.trans (Ex.new hl)) upd_same⟩
end
section
variable {K : PySem.W.Frag} {σ : L2.St} {H : Hp} {tb : TE} {ta : TA} {n k : Nat} {D : Ends} {i : Int}
/-- one of a list of short texts -/
theorem ev_pick (hev : EvAS ta σ H n k) (hk : k ≤ 1000) (hi : Ev tb σ H (.int i)) (h0 : 0 ≤ i) (h1 : i < (k : Int)) : EvS (tOp (rIxL K) (tLst ta) tb) σ H n := by
  obtain ⟨ts, hk2, hts, hev⟩ := hev
  obtain ⟨t, ht, htm⟩ := at_int (xs := ts.map V.str) (d := i) h0 (by rw [List.length_map, hk2]; exact h1)
  obtain ⟨x, hx, e⟩ := List.mem_map.mp htm
  subst e
  exact ⟨x, hts x hx, ev_opL1 (el_lst hev (by rw [List.length_map, hk2]; omega)) (fun H1 e => hi.mono e) (fun p H1 hp e => rv_ixL (sq_of hp) ht)⟩
theorem s_retS {te : TE} (h : EvS te σ H n) (q : ∀ x : Str, x.length ≤ n → ∀ H1, Ex H H1 → D.rt (.str x) H1) : tRet te D σ H := by
  obtain ⟨x, hx, ex⟩ := h
  exact s_ret ex (q x hx)
end
section
variable {K : PySem.W.Frag} {σ : L2.St} {H : Hp} {te : TE} {tr : TA} {D : Ends} {xs vs : List V}
/-- a list whose first thing is a new list -/
theorem s_retLL (h : EvL te σ H xs) (hr : ∀ H1, Ex H H1 → EvA tr σ H1 vs) (hz : vs.length + 1 ≤ 1000)
    (q : ∀ p l H1, H p = none → Ex H H1 → H1 l = some (.lst xs) → l ≠ p → H1 p = some (.lst (.ref l :: vs)) → D.rt (.ref p) H1) : tRet (tLst (tCons te tr)) D σ H :=
  h H (Ex.refl H) _ fun l H1 nl e1 h1 => (hr H1 e1) H1 (Ex.refl H1) _ fun H2 e2 => ⟨Nat.le_trans (show vs.length + 1 ≤ 1000 from hz) (by decide), fun p np =>
    q p l _ (fresh_back (e1.trans e2) np) ((e1.trans e2).trans (Ex.new np)) (by rw [upd_ne (ne_of_none (e2 _ _ h1) np)]; exact e2 _ _ h1) (ne_of_none (e2 _ _ h1) np) upd_same⟩
end
/-! ### a source of draws: a list whose first thing is the list l0 of cells -/
def SrcAt (H : Hp) (p l0 : Addr) (n : Nat) : Prop := ∃ (cs : List Int) (c1 c2 c3 sd : Int), H p = some (.lst [.ref l0, .int c1, .int c2, .int c3, .int sd]) ∧ H l0 = some (.lst (cs.map V.int)) ∧ l0 ≠ p ∧ cs.length ≤ 63 ∧ (∀ z ∈ cs, z.natAbs < 2 ^ cap) ∧ 0 ≤ c1 ∧ 0 ≤ c3 ∧ c3 ≤ (n : Int) ∧ 0 ≤ sd ∧ sd < 2147483629
section
variable {H H' : Hp} {p l0 l : Addr} {n m : Nat} {o : HO}
theorem SrcAt.ex (b : SrcAt H p l0 n) (e : Ex H H') : SrcAt H' p l0 n := by
  obtain ⟨cs, c1, c2, c3, sd, h, h2, r⟩ := b
  exact ⟨cs, c1, c2, c3, sd, e _ _ h, e _ _ h2, r⟩
theorem SrcAt.mono (b : SrcAt H p l0 n) (h : n ≤ m) : SrcAt H p l0 m := by
  obtain ⟨cs, c1, c2, c3, sd, h1, h2, h3, h4, h5, h6, h7, h8, r⟩ := b
  exact ⟨cs, c1, c2, c3, sd, h1, h2, h3, h4, h5, h6, h7, by omega, r⟩
theorem SrcAt.has (b : SrcAt H p l0 n) : ∃ xs, H p = some (.lst xs) := by
  obtain ⟨cs, c1, c2, c3, sd, h, r⟩ := b
  exact ⟨_, h⟩
theorem SrcAt.has0 (b : SrcAt H p l0 n) : ∃ xs, H l0 = some (.lst xs) := by
  obtain ⟨cs, c1, c2, c3, sd, h, h2, r⟩ := b
  exact ⟨_, h2⟩
theorem SrcAt.ne (b : SrcAt H p l0 n) (h : H l = none) : l ≠ p ∧ l ≠ l0 := by
  obtain ⟨xs, g⟩ := b.has
  obtain ⟨ys, g2⟩ := b.has0
  exact ⟨(fun e => by rw [e, g] at h; cases h), (fun e => by rw [e, g2] at h; cases h)⟩
theorem SrcAt.upd (b : SrcAt H p l0 n) (h : l ≠ p ∧ l ≠ l0) : SrcAt (upd H l o) p l0 n := by
  obtain ⟨cs, c1, c2, c3, sd, h1, h2, r⟩ := b
  exact ⟨cs, c1, c2, c3, sd, by rw [upd_ne (Ne.symm h.1)]; exact h1, by rw [upd_ne (Ne.symm h.2)]; exact h2, r⟩
theorem Keep.non (a : Keep p H H') {xs : List V} (b : H' p = some (.lst xs)) (h : H' l = none) : H l = none := by
  cases q : H l with
  | none => rfl
  | some o =>
    by_cases e : l = p
    · rw [e, b] at h
      cases h
    · rw [a l o e q] at h
      cases h
theorem Keep.freeS (a : Keep p H H') (b : SrcAt H' p l0 n) (h : H' l = none) : H l = none := by
  obtain ⟨xs, g⟩ := b.has
  exact a.non g h
/-- an object that was not there ahead may change -/
theorem Keep.mut (a : Keep p H H') (h : H l = none) : Keep p H (L2.upd H' l o) := fun b u hb hu => by
  rw [upd_ne (ne_of_none hu h)]
  exact a b u hb hu
theorem Keep.at (a : Keep p H H') (h : H l = some o) (hl : l ≠ p) : H' l = some o := a l o hl h
end
def spSource (K : PySem.W.Frag) : Sp := fun vs H Q _ => ∃ (a : Addr) (ns : List Int), vs = [.ref a] ∧ SqL K H a (ns.map V.int) ∧ ns.length ≤ 63 ∧ (∀ z ∈ ns, z.natAbs < 2 ^ cap) ∧ ∀ (p l0 : Addr) (H' : Hp), H p = none → Ex H H' → SrcAt H' p l0 0 → Q (.ref p) H'
def spMixed : Sp := fun vs H Q _ => ∃ c s lim : Int, vs = [.int c, .int s, .int lim] ∧ c.natAbs < 2 ^ cap ∧ 0 ≤ s ∧ s ≤ 1000000000 ∧ 1 ≤ lim ∧ lim ≤ 1000000 ∧ ∀ d : Int, 0 ≤ d → d < lim → RetV (.int d) H Q
def spSrc : Sp := fun vs H Q _ => ∃ (p l0 : Addr) (lim : Int) (n : Nat), vs = [.ref p, .int lim] ∧ SrcAt H p l0 n ∧ n ≤ 100000000 ∧ 1 ≤ lim ∧ lim ≤ 1000000 ∧ ∀ (d : Int) (H' : Hp), 0 ≤ d → d < lim → SrcAt H' p l0 (n + 1) → Keep p H H' → Q (.int d) H'
theorem cutV_all {xs : List V} (h : xs.length ≤ 63) : cutV xs none (some 63) = xs := by
  unfold cutV
  rw [HT.sIx_none, show HT.sIx xs.length xs.length (some 63) = min 63 xs.length from HT.sIx_nat _ _ 63, List.drop_zero, Nat.sub_zero, Nat.min_eq_right h]
  exact List.take_of_length_le (Nat.le_refl _)
theorem sq_le {x b : Int} (h0 : 0 ≤ x) (h : x ≤ b) : x * x ≤ b * b := Int.mul_le_mul h h h0 (by omega)
end Z
set_option maxHeartbeats 4000000
namespace Z
open PySem PySem.Spec PyProof.Rows L2 TL Evl
/-! ### a bag of draws: a list whose first thing is the list l0 of cells, three numbers -/
def DwAt (H : Hp) (p l0 : Addr) : Prop := ∃ (cs : List Int) (c1 c2 c3 : Int), H p = some (.lst [.ref l0, .int c1, .int c2, .int c3]) ∧ H l0 = some (.lst (cs.map V.int)) ∧ l0 ≠ p ∧ cs.length ≤ 63 ∧ (∀ z ∈ cs, z.natAbs < 2 ^ cap) ∧ 0 ≤ c1 ∧ 0 ≤ c3 ∧ c3 < 2147483647
section
variable {H H' : Hp} {p l0 l : Addr} {o : HO}
theorem DwAt.ex (b : DwAt H p l0) (e : Ex H H') : DwAt H' p l0 := by
  obtain ⟨cs, c1, c2, c3, h, h2, r⟩ := b
  exact ⟨cs, c1, c2, c3, e _ _ h, e _ _ h2, r⟩
theorem DwAt.has (b : DwAt H p l0) : ∃ xs, H p = some (.lst xs) := by
  obtain ⟨cs, c1, c2, c3, h, r⟩ := b
  exact ⟨_, h⟩
theorem DwAt.has0 (b : DwAt H p l0) : ∃ xs, H l0 = some (.lst xs) := by
  obtain ⟨cs, c1, c2, c3, h, h2, r⟩ := b
  exact ⟨_, h2⟩
theorem DwAt.ne (b : DwAt H p l0) (h : H l = none) : l ≠ p ∧ l ≠ l0 := by
  obtain ⟨xs, g⟩ := b.has
  obtain ⟨ys, g2⟩ := b.has0
  exact ⟨(fun e => by rw [e, g] at h; cases h), (fun e => by rw [e, g2] at h; cases h)⟩
theorem DwAt.upd (b : DwAt H p l0) (h : l ≠ p ∧ l ≠ l0) : DwAt (upd H l o) p l0 := by
  obtain ⟨cs, c1, c2, c3, h1, h2, r⟩ := b
  exact ⟨cs, c1, c2, c3, by rw [upd_ne (Ne.symm h.1)]; exact h1, by rw [upd_ne (Ne.symm h.2)]; exact h2, r⟩
theorem Keep.freeB (a : Keep p H H') (b : DwAt H' p l0) (h : H' l = none) : H l = none := by
  obtain ⟨xs, g⟩ := b.has
  exact a.non g h
end
def spBagS (K : PySem.W.Frag) : Sp := fun vs H Q _ => ∃ (a : Addr) (ns : List Int), vs = [.ref a] ∧ SqL K H a (ns.map V.int) ∧ ns.length ≤ 63 ∧ (∀ z ∈ ns, z.natAbs < 2 ^ cap) ∧ ∀ (p l0 : Addr) (H' : Hp), H p = none → Ex H H' → DwAt H' p l0 → Q (.ref p) H'
def spTake : Sp := fun vs H Q _ => ∃ (p l0 : Addr) (lim : Int), vs = [.ref p, .int lim] ∧ DwAt H p l0 ∧ 1 ≤ lim ∧ lim ≤ 1000000 ∧ ∀ (d : Int) (H' : Hp), 0 ≤ d → d < lim → DwAt H' p l0 → Keep p H H' → Q (.int d) H'
/-! ### texts of marks -/
def mkS : Str := "abcdefghijklmnopqrstuvwxyz0123456789-."
def markB (z : Str) : Bool := (decide ((1 : Int) ≤ z.length) && decide ((z.length : Int) ≤ 40)) && allIn z mkS
def plS : Str := (" !\"#$&'()*+,-./0123456789:;<=>?@ABCDEFGHIJKLMNOPQRSTUVWXYZ[\\]^_`" : Str) ++ ("abcdefghijklmnopqrstuvwxyz{|}~" : Str)
def wrZ (z : Str) (b : Bool) : Str := (cond b ("w" : Str) "" ++ ("\"" : Str)) ++ z ++ ("\"" : Str)
def one (c : Nat) : Str := ⟨#[c]⟩
theorem one_len (c : Nat) : (one c).length = 1 := rfl
theorem tl_one (c : Nat) : tl (one c) = [c] := rfl
theorem markB_iff {z : Str} : markB z = true ↔ (1 ≤ z.length ∧ z.length ≤ 40) ∧ allIn z mkS = true := by
  unfold markB
  rw [Bool.and_eq_true, Bool.and_eq_true, decide_eq_true_eq, decide_eq_true_eq]
  constructor
  · rintro ⟨⟨h1, h2⟩, h3⟩
    exact ⟨⟨by omega, by omega⟩, h3⟩
  · rintro ⟨⟨h1, h2⟩, h3⟩
    exact ⟨⟨by omega, by omega⟩, h3⟩
theorem allIn_app (a b s : Str) : allIn (a ++ b) s = (allIn a s && allIn b s) := by
  unfold allIn
  rw [tl_append, List.all_append]
theorem allIn_sub {a b s : Str} (h : allIn b s = true) (hs : ∀ c ∈ tl a, c ∈ tl b) : allIn a s = true := by
  refine List.all_eq_true.mpr fun c hc => List.all_eq_true.mp h c (hs c hc)
theorem allIn_one {c : Nat} {s : Str} (h : c ∈ tl s) : allIn (one c) s = true := by
  refine List.all_eq_true.mpr fun d hd => ?_
  have : d = c := by
    have := List.mem_singleton.mp (show d ∈ [c] from hd)
    exact this
  rw [this]
  exact decide_eq_true h
theorem cut_mem {z : Str} {a b : Option Int} {c : Nat} (h : c ∈ tl (cutS z a b)) : c ∈ tl z := List.mem_of_mem_drop (List.mem_of_mem_take h)
theorem allIn_cut {z s : Str} (a b : Option Int) (h : allIn z s = true) : allIn (cutS z a b) s = true := allIn_sub h fun _ hc => cut_mem hc
/-- z[:i] + c + z[i + 1:] -/
theorem put_len {z : Str} {i : Nat} {c : Nat} (h : i < z.length) : (cutS z none (some (i : Int)) ++ one c ++ cutS z (some ((i : Int) + 1)) none).length = z.length := by
  have e : (i : Int) + 1 = ((i + 1 : Nat) : Int) := by omega
  rw [e, cutTo, cutFrom, Str.length_append, Str.length_append]
  have h1 : (preT z i).length = i := by
    show ((tl z).take i).toArray.size = i
    rw [List.size_toArray, List.length_take, len_tl']
    omega
  have h2 : (sufT z (i + 1)).length = z.length - (i + 1) := by
    show ((tl z).drop (i + 1)).toArray.size = _
    rw [List.size_toArray, List.length_drop, len_tl']
  rw [h1, h2, one_len]
  omega
theorem put_mark {z : Str} {i c : Nat} (h : markB z = true) (hi : i < z.length) (hc : c ∈ tl mkS) : markB (cutS z none (some (i : Int)) ++ one c ++ cutS z (some ((i : Int) + 1)) none) = true := by
  have h2 := markB_iff.mp h
  refine markB_iff.mpr ⟨by rw [put_len hi]; exact h2.1, ?_⟩
  rw [allIn_app, allIn_app, allIn_cut _ _ h2.2, allIn_cut _ _ h2.2, allIn_one hc]
  rfl
theorem wrZ_len (z : Str) (b : Bool) : (wrZ z b).length ≤ z.length + 3 := by
  unfold wrZ
  rw [Str.length_append, Str.length_append, Str.length_append]
  have h1 : (cond b ("w" : Str) "").length ≤ 1 := by cases b <;> decide +kernel
  have h2 : ("\"" : Str).length = 1 := by decide +kernel
  omega
theorem wrZ_pos (z : Str) (b : Bool) : 2 ≤ (wrZ z b).length := by
  unfold wrZ
  rw [Str.length_append, Str.length_append, Str.length_append]
  have h2 : ("\"" : Str).length = 1 := by decide +kernel
  omega
section
variable {K : PySem.W.Frag} {σ : L2.St} {H H' : Hp} {ta tb te to ts : TE} {a b s : Str} {n m k : Nat} {tlo thi : TO} {lo hi : Option Int} {i : Int}
theorem es_sl (h : EvS te σ H n) (h1 : EvO tlo σ H lo) (h2 : EvO thi σ H hi) (hz : n ≤ 100000) : EvS (tSl rSlS te tlo thi) σ H n := by
  obtain ⟨x, hx, ex⟩ := h
  exact ⟨cutS x lo hi, Nat.le_trans (cut_len x _ _) hx, ev_slS ex h1 h2 (by omega)⟩
theorem es_ev (h : Ev te σ H (.str a)) (hn : a.length ≤ n) : EvS te σ H n := ⟨a, hn, h⟩
def rUpper : V → List V → Hp → VK → Prop := fun x xs H Q => ∃ a, x = .str a ∧ xs = [] ∧ a.length ≤ 5592405 ∧ Q (.str (Txt.upper a)) H
end
end Z
namespace Z
open PySem PySem.Spec PyProof.Rows L2 TL Evl
section
variable {K : PySem.W.Frag} {σ : L2.St} {H : Hp} {ta tb tc : TE} {i j k : Int}
/-- a < b < c -/
theorem ev_chainL (ha : Ev ta σ H (.int i)) (hb : Ev tb σ H (.int j)) (hc : Ev tc σ H (.int k)) :
    Ev (tChain (rI0 fun i j => .bl (decide (i < j))) (rI0 fun i j => .bl (decide (i < j))) ta tb tc) σ H (.bl (decide (i < j) && decide (j < k))) := fun H1 e Q q =>
  ha H1 e _ fun H2 e2 => hb H2 (e.trans e2) _ fun H3 e3 => ⟨i, j, rfl, rfl, _, rfl, by
    cases h : decide (i < j) with
    | true =>
      refine iteT ?_
      refine hc H3 ((e.trans e2).trans e3) _ fun H4 e4 => ⟨j, k, rfl, rfl, ?_⟩
      have g := q H4 ((e2.trans e3).trans e4)
      rw [h] at g
      exact g
    | false =>
      refine iteF ?_
      have g := q H3 (e2.trans e3)
      rw [h] at g
      exact g⟩
end
end Z
set_option maxHeartbeats 4000000
namespace Z
open PySem PySem.Spec PyProof.Rows L2 TL Evl
/-! ### a written mark -/
def quo (z : Str) : Str := if decide (hd z = some 119) = true then rest z else z
def inn (q : Str) : Str := cutS q (some 1) (some (-1))
def qut (t : Str) : Str := ("\"" : Str) ++ t ++ ("\"" : Str)
def readZ (z : Str) : Option (Str × Bool) := if quo z = qut (inn (quo z)) ∧ markB (inn (quo z)) = true then some (inn (quo z), decide (hd z = some 119)) else none
theorem q34 : ("\"" : Str) = one 34 := by decide +kernel
theorem w119 : ("w" : Str) = one 119 := by decide +kernel
theorem inn_sub (q : Str) : tl (inn q) = ((tl q).drop (HT.sIx q.length 0 (some 1))).take (HT.sIx q.length q.length (some (-1)) - HT.sIx q.length 0 (some 1)) := rfl
theorem sx1 (n : Nat) : HT.sIx n 0 (some 1) = min 1 n := HT.sIx_nat n 0 1
theorem sxm (n : Nat) : HT.sIx n n (some (-1)) = n - 1 := by
  show (if (-1 : Int) < 0 then ((-1 : Int) + (n : Int)).toNat else min (-1 : Int).toNat n) = n - 1
  rw [if_pos (by decide)]
  omega
theorem inn_short {q : Str} (h : q.length < 3) : markB (inn q) = false := by
  cases e : markB (inn q) with
  | false => rfl
  | true =>
    have h1 := (markB_iff.mp e).1.1
    have h2 := congrArg List.length (inn_sub q)
    rw [len_tl', List.length_take, sx1, sxm] at h2
    omega
theorem split3 {l : List Nat} (h : 3 ≤ l.length) : ∃ a m b, l = a :: (m ++ [b]) := by
  cases l with
  | nil => cases h
  | cons a r =>
    have hr : r ≠ [] := by
      intro e
      rw [e, List.length_singleton] at h
      omega
    exact ⟨a, r.dropLast, r.getLast hr, by rw [List.dropLast_concat_getLast]⟩
theorem inn_mid {q : Str} {a b : Nat} {m : List Nat} (h : tl q = a :: (m ++ [b])) : tl (inn q) = m := by
  have hn : q.length = m.length + 2 := by
    rw [← len_tl', h, List.length_cons, List.length_append]
    rfl
  rw [inn_sub, sx1, sxm, h, Nat.min_eq_left (by omega)]
  show (m ++ [b]).take (q.length - 1 - 1) = m
  rw [show q.length - 1 - 1 = m.length by omega, List.take_left]
theorem qut_tl (t : Str) : tl (qut t) = 34 :: (tl t ++ [34]) := by
  unfold qut
  rw [q34, tl_append, tl_append, tl_one]
  rfl
theorem qut_iff {q : Str} {a b : Nat} {m : List Nat} (h : tl q = a :: (m ++ [b])) : q = qut (inn q) ↔ (a = 34 ∧ b = 34) := by
  have hm := inn_mid h
  constructor
  · intro e
    have e2 := congrArg tl e
    rw [h, qut_tl, hm] at e2
    injection e2 with e3 e4
    have e5 := List.append_cancel_left e4
    injection e5 with e6 _
    exact ⟨e3, e6⟩
  · rintro ⟨rfl, rfl⟩
    refine ext_tl ?_
    rw [qut_tl, hm, h]
theorem hd_q {q : Str} {a : Nat} {m : List Nat} (h : tl q = a :: m) : atI (tl q) 0 = some a := atI_nat (j := 0) (by rw [h]; rfl)
theorem last_q {q : Str} {a b : Nat} {m : List Nat} (h : tl q = a :: (m ++ [b])) : atI (tl q) (-1) = some b := by
  rw [h]
  exact atI_last (a :: m) b
theorem one34 (c : Nat) : decide (one c = ("\"" : Str)) = decide (c = 34) := by
  rw [q34]
  exact decide_eq_decide.mpr (one_eq c 34)
theorem quo_cut (z : Str) : cutS z (some (if decide (hd z = some 119) then 1 else 0)) none = quo z := by
  unfold quo
  cases h : decide (hd z = some 119) with
  | true =>
    rw [if_pos rfl, if_pos rfl]
    rfl
  | false =>
    rw [if_neg (by decide), if_neg (by decide)]
    have e : cutS z (some ((0 : Nat) : Int)) none = z := ext_tl (by rw [cutFrom_tl]; rfl)
    exact e
theorem quo_len (z : Str) : (quo z).length ≤ z.length := by
  unfold quo
  split
  · exact rest_len z
  · exact Nat.le_refl _
theorem inn_len (z : Str) : (inn z).length ≤ z.length := cut_len z _ _
theorem read_none {z : Str} (h : ¬ (quo z = qut (inn (quo z)) ∧ markB (inn (quo z)) = true)) : readZ z = none := if_neg h
theorem read_some {z : Str} (h : quo z = qut (inn (quo z)) ∧ markB (inn (quo z)) = true) : readZ z = some (inn (quo z), decide (hd z = some 119)) := if_pos h
theorem starts_w (z : Str) : Txt.startswith z "w" = decide (hd z = some 119) := by
  unfold Txt.startswith Builtin.Str.subAt
  rw [w119]
  show (decide (0 + 1 ≤ z.length) && (z.cps.extract 0 (0 + 1) == #[119])) = _
  have hx : (z.cps.extract 0 (0 + 1) == #[119]) = decide ((tl z).take 1 = [119]) := by
    have : (z.cps.extract 0 (0 + 1)).toList = (tl z).take 1 := by simp [tl]
    by_cases h : (tl z).take 1 = [119]
    · rw [decide_eq_true h]
      refine beq_iff_eq.mpr (Array.toList_inj.mp ?_)
      rw [this, h]
    · rw [decide_eq_false h]
      refine beq_eq_false_iff_ne.mpr fun e => h ?_
      rw [← this, e]
  rw [hx, len_tl]
  unfold hd
  cases e : tl z with
  | nil => rfl
  | cons a r =>
    have h1 : 0 + 1 ≤ (a :: r).length := by rw [List.length_cons]; omega
    rw [decide_eq_true h1, Bool.true_and]
    show decide ([a] = [119]) = decide (some a = some 119)
    by_cases h : a = 119
    · rw [h]; rfl
    · rw [decide_eq_false fun e => h (by cases e; rfl), decide_eq_false fun e => h (Option.some.inj e)]
/-- the written form of a good mark is read back -/
theorem read_wr {z : Str} {b : Bool} (h : markB z = true) : readZ (wrZ z b) = some (z, b) := by
  have ht : tl (wrZ z b) = (cond b [119] []) ++ (34 :: (tl z ++ [34])) := by
    unfold wrZ
    rw [q34, tl_append, tl_append, tl_append, tl_one]
    cases b with
    | true =>
      show ((tl ("w" : Str) ++ [34]) ++ tl z) ++ [34] = _
      rw [w119, tl_one]
      simp
    | false =>
      show ((tl ("" : Str) ++ [34]) ++ tl z) ++ [34] = _
      rw [tl_empty]
      simp
  have hw : decide (hd (wrZ z b) = some 119) = b := by
    unfold hd
    rw [ht]
    cases b <;> rfl
  have hq : tl (quo (wrZ z b)) = 34 :: (tl z ++ [34]) := by
    unfold quo
    rw [hw]
    cases b with
    | true =>
      rw [if_pos rfl]
      unfold rest
      rw [cutFrom1_tl, ht]
      rfl
    | false =>
      rw [if_neg (by decide), ht]
      rfl
  have hi : inn (quo (wrZ z b)) = z := ext_tl (inn_mid hq)
  have hc : quo (wrZ z b) = qut (inn (quo (wrZ z b))) ∧ markB (inn (quo (wrZ z b))) = true := ⟨(qut_iff hq).mpr ⟨rfl, rfl⟩, by rw [hi]; exact h⟩
  rw [read_some hc, hi, hw]
end Z
namespace Z
open PySem PySem.Spec PyProof.Rows L2 TL Evl
theorem ev_intB {b : Bool} {te : TE} {σ : L2.St} {H : Hp} (h : Ev te σ H (.bl b)) : Ev (tCB rInt1 (tCons te tNil)) σ H (.int (if b then 1 else 0)) := fun H1 e Q q => h H1 e _ fun H2 e2 => .inr ⟨b, rfl, q H2 e2⟩
end Z
set_option maxHeartbeats 2000000
namespace ZX
open PySem PySem.W PySem.Calls PyProof.Rows
section
variable {prog : Program} {w : World} {A : Around} {E : Value → Shared → Prop} {h : Heap} {g : Array GenState} {d : Drawn} {t : Nat} {os : OsState}
variable {nm q : Str} {C N : Addr} {bs bm : List Value} {hdct : Bool} {sn : List Str} {sub : List Value} {ab : Bool} {col : Option Bool} {dd : Option Addr} {k0 k1 k2 k3 k5 : Option Value}
theorem call_mw {u e t0 : Addr} {rest : List Value} {Q : Value → Shared → Prop}
    (hC : h.get? C = some (excClassObj nm q C N bs bm hdct sn sub ab col dd k0 k1 k2 k3 k5 "ValueError.__new__")) (he : h.get? e = some (HandSPX.excO C t0)) (hu : h.get? u = some (kxs_mw "ValueError.__init__" e)) (hrest : rest.length ≤ sizeLine)
    (hq : ∀ h' t1, (∀ b o, b ≠ e → h.get? b = some o → h'.get? b = some o) → h'.get? e = some (HandSPX.excO C t1) → Q .none ⟨h', g, d, t, os⟩) :
    wpAny (model prog w) A (call (.ref u) rest) Q E ⟨h, g, d, t, os⟩ := by
  refine wpAny_call (codeAny_of_tree ?_)
  show wpAny _ A.in1 (callAny (.ref u) ⟨rest, []⟩) _ _ _
  simp only [callAny]
  refine wpAny_bind (wpAny_load hu ?_)
  simp only [kxs_mw, show (Value.type "method-wrapper" == Value.type "method" || Value.type "method-wrapper" == Value.type "builtin_function_or_method" || Value.type "method-wrapper" == Value.type "method-wrapper") = true by decide, if_true]
  refine W.KFB.if_so (by decide) ?_
  refine wpAny_bind (ESX.check_bound F.excBase_ValueError hC he rfl ?_)
  refine wpAny_bind (wpAny_pure (wpAny_pure ?_))
  refine ⟨Code.quiet_builtin _ (by decide +kernel), codeAny_builtin F.excBase_ValueError.initEntry ?_⟩
  rw [Around.under_plainId F.excBase_ValueError.init.plain _]
  wp_walk
  refine hq _ h.objs.size (fun b o hb ho => ?_) ?_
  · rw [Heap.get?_update_other _ _ (Ne.symm hb)]
    exact Heap.get?_push_of_some _ ho
  · rw [Heap.get?_update_self _ (Heap.get?_push_of_some _ he) rfl]
    rfl
end
end ZX
set_option maxHeartbeats 2000000
namespace ZX
open PySem PySem.W PySem.Calls PyProof.Rows L2 NdefX
/-- super().__init__(..) of an exception that is being made -/
theorem init_mw {X : Cx} {pins : List (Addr × Obj)} {σ : L2.St} {H : Hp} {s : Shared} {a C u : Addr} {A : Around} {E : Value → Shared → Prop} {us : List Value} {Q : Value → Shared → Prop} (T : OexC X.K C) (I : Inv X ((u, kxs_mw "ValueError.__init__" a) :: pins) σ H s) (e : H a = some (exo a C none)) (hl : us.length ≤ sizeLine)
    (h : ∀ s', Inv X ((u, kxs_mw "ValueError.__init__" a) :: pins) σ H s' → Q .none s') : wpAny (model X.prog X.w) A (call (.ref u) us) Q E s := by
  obtain ⟨nm, q, N, bs, bm, sn, sub, ab, col, dd, k0, k1, k2, k3, k5, hC, hbm⟩ := T.cls
  obtain ⟨t1, ho⟩ := exo_at I.hok e
  have hu := ClX.pin_at I
  obtain ⟨hp, g, d, t, os⟩ := s
  refine call_mw (I.kIn _ _ hC) ho hu hl fun h' t2 k hx => ?_
  have J := I.write (t' := t) (x := a) (e := a) (o := exo a C none) (by rw [e]; exact True.intro) (.inl rfl) k ⟨_, hx⟩ (exo_ok hx)
  have eu : upd H a (exo a C none) = H := by
    funext b
    by_cases hb : b = a
    · rw [hb, upd_same, e]
    · rw [upd_ne hb]
  rw [eu] at J
  exact h _ J
/-- what stands of an error's class, at D, and of its __init__, at f -/
structure Sup (P : Program) (K : Frag) (D f cc cda : Addr) (fd : FuncData) (name qual : Str) (params : Arguments) (body : List Stmt) (scope : Scope) : Prop where
  fn : ∃ (oc : Value) (od : Option Addr) (osl : Array (Option Value)) (dV kV doc pm ct : Value) (an : Option Addr), fd = fnX name qual params body scope [("__class__", cc)] dV kV doc pm an (.ref cda) ct ∧ K.lookup f = some ⟨oc, od, .func fd, osl⟩
  code : codeIn K (.ref cda) qual = true
  cell : ∃ (cl : Value) (cld : Option Addr) (csl : Array (Option Value)), K.lookup cc = some ⟨cl, cld, .cell (some (.ref D)), csl⟩
  file : ∃ (ccl : Value) (cdd : Option Addr) (vs : Array Value) (ccs : Array (Option Value)) (fl : Str) (tf : Tok), K.lookup cda = some ⟨ccl, cdd, .fields vs, ccs⟩ ∧ vs[2]? = some (.str fl tf) ∧ ((P.main.file : Str) == fl) = true
  sup : nsIn K mainGlobals "super" = some none
  third : nsIn K cStatics "thirdparty.any" = some none
  top : (P.main.scope.names.lookup ("super" : Str)).isSome = false
  along : ks_superIn K D D "__init__" = some (some (.builtin "ValueError.__init__"))
  subV : subIn K (.ref D) (.type "ValueError") = some true
  mro : mroIn K D (.ref D) = some true
  oex : OexC K D
section
variable {CX : CXT} {P : Program} {w : World} {K : Frag} {mg : Str → Option Value} {base : Heap} {N ps : List Str} {k : Nat} {f cc cda D : Addr} {fd : FuncData} {name qual : Str} {params : Arguments} {body rest : List Stmt} {scope : Scope} {sp : Sp} {es : List Expr} {p0 p1 p2 p3 p4 : Pos} {ar : Arg}
abbrev nf (name qual : Str) (params : Arguments) (body : List Stmt) (scope : Scope) (cc cda : Addr) : NF := ⟨name, qual, params, body, scope, [("__class__", cc)], cda⟩
theorem fn_pre (T : Sup P K D f cc cda fd name qual params body scope) (S : NScope N ps ["__class__"] scope) (hsup : scope.names.lookup ("super" : Str) = some .globalImplicit) (hp0 : (params.posonlyargs ++ params.args).head? = some ar) (har : ps[0]? = some ar.arg)
    (hb : body = .Expr (.Call (.Attribute (.Call (.Name "super" p0) [] [] p1) "__init__" p2) es [] p3) p4 :: rest)
    (he : ∀ env : Env, eval (.Call (.Attribute (.Call (.Name "super" p0) [] [] p1) "__init__" p2) es [] p3) env = (do
      let ov ← attributeBase (.Call (.Name "super" p0) [] [] p1) "__init__" env (eval (.Call (.Name "super" p0) [] [] p1) env)
      standAt p2.atName
      let (f, first) ← holding [ov] (getMethod ov "__init__" (pure false))
      callWith p3 f first (backTo p3 (starEach es env)) []))
    (hi : ∀ env : Env, env.scope = scope → interactive env = false) (hsw : ∀ env : Env, env.scope = scope → swapsWith (.Call (.Attribute (.Call (.Name "super" p0) [] [] p1) "__init__" p2) es [] p3) none p4.line env = pure false)
    (len : ∀ vs H Q E, sp vs H Q E → vs.length = ps.length)
    (hbody : ∀ (A : Around) (outer : List Env) (s : Shared) (H : Hp) (vs : List V) (Q : VK) (E : XK), Room k (A.deeper (envF (nf name qual params body scope cc cda) f s.heap.objs.size)) → sp vs H Q E →
      ∃ (a : Addr) (vs' : List V), vs = .ref a :: vs' ∧ H a = some (exo a D none) ∧ ∀ (u : Addr) (s2 : Shared), Inv (ncx CX P w K mg base N (nf name qual params body scope cc cda) f A outer s H E) [(u, kxs_mw "ValueError.__init__" a)] (startF N vs [some (.ref D)]) H s2 →
        wpAny (model P w) (A.deeper (envF (nf name qual params body scope cc cda) f s.heap.objs.size)) (callWith p3 (.ref u) [] (backTo p3 (starEach es (envF (nf name qual params body scope cc cda) f s.heap.objs.size))) [])
          (fun _ s3 => wpAny (model P w) (A.deeper (envF (nf name qual params body scope cc cda) f s.heap.objs.size)) (execs rest (envF (nf name qual params body scope cc cda) f s.heap.objs.size))
            (SP (ncx CX P w K mg base N (nf name qual params body scope cc cda) f A outer s H E) [] { nx := fun _ H' => Q .non H', rt := Q }) (ncx CX P w K mg base N (nf name qual params body scope cc cda) f A outer s H E).xe s3)
          (ncx CX P w K mg base N (nf name qual params body scope cc cda) f A outer s H E).xe s2) :
    FnOk P w K mg base CX (k + 1) f fd ps sp := by
  obtain ⟨⟨oc, od, osl, dV, kV, doc, pm, ct, an, rfl, lk⟩, hcd, ⟨cl, cld, csl, lcell⟩, ⟨ccl, cdd, vc, ccs, fl, tf, lcode, hvs, hfile⟩, hsu, hthird, htop, halong, hB, hmro, TO⟩ := T
  refine ⟨len, fun A outer s H args us vs Q E hr e0 hbi r hsp => ?_⟩
  have hl := len _ _ _ _ hsp
  have KX : K.In s.heap := e0.mod.kin.keeps fun b o e => (e0.bs b o e).1
  have lim : s.heap.NoLimit := e0.mod.nolimit.keeps fun b o e => (e0.bs b o e).1
  obtain ⟨a, vs', rfl, ha, hgo⟩ := hbody A outer s H vs Q E (hr.deeper _) hsp
  refine ks_codeAny_call_defAt (fd := fnX name qual params body scope [("__class__", cc)] dV kV doc pm an (.ref cda) ct) (body := body) (binds := ps.zip us) hr.depth (KX _ _ lk) rfl lim (codeRec_of KX hcd) rfl hbi S.nocell (fun ⟨n, _⟩ hy => S.par n (List.of_mem_zip hy).1) (fun h₁ hns kp => ?_) S.co S.gen S.kind
  have C : CellsAt (nf name qual params body scope cc cda).cl ["__class__"] [some (V.ref D)] s.heap H := by
    have hcc : s.heap.get? cc = some ⟨cl, cld, .cell (some (.ref D)), csl⟩ := KX _ _ lcell
    have look : ∀ {y : Str} {c : Addr}, List.lookup y [(("__class__" : Str), cc)] = some c → y = "__class__" ∧ c = cc := fun {y c} e => by
      by_cases h : y = "__class__"
      · subst h
        have : List.lookup ("__class__" : Str) [(("__class__" : Str), cc)] = some cc := by simp [List.lookup]
        rw [this] at e
        exact ⟨rfl, (Option.some.inj e).symm⟩
      · have q : (y == ("__class__" : Str)) = false := by simpa using h
        simp [List.lookup, q] at e
    refine ⟨rfl, fun y c e => ?_, fun x y c e1 e2 => ?_, fun i y e => ?_⟩
    · obtain ⟨_, rfl⟩ := look e
      exact ⟨(e0.bs _ _ (e0.mod.kin _ _ lcell)).2, _, _, hcc, rfl⟩
    · exact (look e1).1.trans (look e2).1.symm
    · cases i with
      | zero =>
        have ey : y = "__class__" := (Option.some.inj e).symm
        subst ey
        refine ⟨cc, by show List.lookup ("__class__" : Str) [(("__class__" : Str), cc)] = some cc; simp [List.lookup], fun v hv => ?_⟩
        have ev : v = .ref D := (Option.some.inj (Option.some.inj hv)).symm
        subst ev
        exact ⟨_, rfl, _, hcc, rfl⟩
      | succ n => simp at e
  have I : Inv (ncx CX P w K mg base N (nf name qual params body scope cc cda) f A outer s H E) [] (startF N (.ref a :: vs') [some (.ref D)]) H { s with heap := h₁, toks := s.toks + (ps.zip us).length } := inv_startN S hr.hd e0 hl r C hns kp
  have hkc : scope.names.lookup ("__class__" : Str) = some .free := S.frk _ List.mem_cons_self
  have KX1 : K.In h₁ := KX.keeps kp
  obtain ⟨cd, hcl, hcdm⟩ : ∃ cd, clsIn K D = some cd ∧ alongIn K "__init__" ((cd.mro.dropWhile (· != .ref D)).drop 1) = some (some (.builtin "ValueError.__init__")) := by
    unfold ks_superIn at halong
    cases hc : clsIn K D with
    | none => rw [hc] at halong; cases halong
    | some cd => rw [hc] at halong; exact ⟨cd, rfl, halong⟩
  obtain ⟨oD, hD1, hD2⟩ : ∃ oD, h₁.get? D = some oD ∧ oD.data = .cls cd := by
    have hD := hcl
    unfold clsIn at hD
    split at hD
    · rename_i c d cd' sl ho
      cases hD
      exact ⟨_, KX1 _ _ ho, rfl⟩
    · cases hD
  obtain ⟨t1, hoe⟩ := exo_at I.hok ha
  have hoe : h₁.get? a = some ({ cls := .ref D, dict := none, data := .fields #[.ref t1, .none, .none, .none, .bool false, .none] } : Obj) := hoe
  have J : InstAt h₁ a ({ cls := .ref D, dict := none, data := .fields #[.ref t1, .none, .none, .none, .bool false, .none] } : Obj) D none := ⟨hoe, rfl, rfl, trivial⟩
  have u0 : us[0]? = some (.ref a) := by
    cases r with
    | cons ra rr =>
      have ra : _ = _ := ra
      rw [ra]
      rfl
  have ndP : ps.Nodup := by
    have q := S.nd.sublist (List.take_sublist (ps.length + (["__class__"] : List Str).length) N)
    rw [S.pre] at q
    exact (List.nodup_append.mp q).1
  have hself : (ps.zip us).reverse.lookup ar.arg = some (.ref a) := zip_look ndP har u0
  obtain ⟨mb, hbl1, hbl2⟩ := I.mod.blt
  show _root_.PySem.wpAt (model P w) (A.deeper (envF (nf name qual params body scope cc cda) f s.heap.objs.size)) (.func body (envF (nf name qual params body scope cc cda) f s.heap.objs.size)) (execs body (envF (nf name qual params body scope cc cda) f s.heap.objs.size)) _ _ _
  rw [hb]
  refine ks_wpAt_execs_cons (ks_wpAt_Expr_any (ks_wpAt_MethodCall ?_ (he _)) (hi _ rfl) (hsw _ rfl))
  refine ks_wpAt_super_base (env := envF (nf name qual params body scope cc cda) f s.heap.objs.size) hsup hkc rfl rfl (KX1 _ _ lk) rfl hp0 rfl (KX1 _ _ lcode) rfl hvs hfile htop ?_
  refine ks_loadName_global S.kind hsup (loadGlobal_builtin (env := envF (nf name qual params body scope cc cda) f s.heap.objs.size) (I.mod.glob.keeps I.bk) (mg_none_of I.mod.kin I.mod.glob hsu) (hbl1.keeps I.bk) ((hbl2 _ (by decide)).trans (show bootBuiltins "super" = some (.type "super") by decide +kernel)) ⟨rfl, ?_⟩)
  refine wpAny_loadName_free S.kind hkc (by show List.lookup ("__class__" : Str) [(("__class__" : Str), cc)] = some cc; simp [List.lookup]) ⟨_, KX1 _ _ lcell, rfl⟩ ?_
  refine wpAny_loadName_local S.kind (S.par _ (List.mem_of_getElem? har)) hns hself ?_
  refine ks_wpAny_isType_cls hD1 hD2 ⟨rfl, ?_⟩
  refine ks_wpAny_call_super hD1 hD2 J.at_ J.cls (fun c e => by cases e) (looks_mroIn KX1 hmro) (fun h' e kh => ?_)
  have I2 : Inv (ncx CX P w K mg base N (nf name qual params body scope cc cda) f A outer s H E) [] (startF N (.ref a :: vs') [some (.ref D)]) H ⟨h', s.gens, s.drawn, s.toks + (ps.zip us).length, s.os⟩ := I.kept kh
  have J2 : InstAt h' a ({ cls := .ref D, dict := none, data := .fields #[.ref t1, .none, .none, .none, .bool false, .none] } : Obj) D none := ⟨kh _ _ hoe, rfl, rfl, trivial⟩
  have KX2 : K.In h' := KX1.keeps kh
  refine kxs_getMethod kxs_ValueError e (looks_opaque KX2 hthird) (l₀ := cd.mro) (fun A Q E s k q => wpAny_bind ((looks_clsIn KX2 hcl) A _ E s k (wpAny_pure q))) rfl KX2 hcdm (J2.type.andThen (looks_subIn KX2 hB)) (ks_ne KX2 J2 hcl) rfl ?_
  have I3 := ClX.pin_new (o := kxs_mw "ValueError.__init__" a) (a := h'.objs.size) (h' := h'.push (kxs_mw "ValueError.__init__" a)) (t' := s.toks + (ps.zip us).length + 1) I2 (fun b o e => Heap.get?_push_of_some _ e) (Nat.le_refl _) (Heap.get?_push_size _ rfl) (fun v z => by cases z)
  refine wpAny_mono (hgo _ _ I3) (fun v s3 h3 => ?_) (fun e s' h' => h')
  show _root_.PySem.wpAt _ _ _ _ _ _ s3
  refine wpAt_of_wpAny (wpAny_mono h3 (fun fl s' hs => ?_) fun e s' h' => h')
  have fin : ∀ {σ' : L2.St} {H' : Hp} {v : V} {u : Value}, Inv (ncx CX P w K mg base N (nf name qual params body scope cc cda) f A outer s H E) [] σ' H' s' → RelV v u → Q v H' → CE outer P w H s Q u s' :=
    fun {σ' H' v u} J rv q => ⟨v, H', J.os, J.bare, J.base, J.hok, rv, q⟩
  cases fl with
  | ret u =>
    obtain ⟨v, σ', H', J, rv, q⟩ := hs
    exact fin J rv q
  | next =>
    obtain ⟨σ', H', J, q⟩ := hs
    exact fin (v := V.non) (u := Value.none) J rfl q
  | brk =>
    obtain ⟨_, _, _, q⟩ := hs
    exact False.elim q
  | cont =>
    obtain ⟨_, _, _, q⟩ := hs
    exact False.elim q
end
end ZX
set_option maxHeartbeats 2000000
namespace ZX
open PySem PySem.W PySem.Calls PyProof.Rows L2 NdefX
section
variable {CX : CXT} {P : Program} {w : World} {K : Frag} {mg : Str → Option Value} {base : Heap} {N ps : List Str} {k : Nat} {f cc cda D : Addr} {fd : FuncData} {name qual : Str} {params : Arguments} {body rest : List Stmt} {scope : Scope} {sp : Sp} {e : Expr} {p0 p1 p2 p3 p4 : Pos} {ar : Arg}
/-- super().__init__(e), then the rest -/
theorem fn_sup1 (T : Sup P K D f cc cda fd name qual params body scope) (S : NScope N ps ["__class__"] scope) (hsup : scope.names.lookup ("super" : Str) = some .globalImplicit) (hp0 : (params.posonlyargs ++ params.args).head? = some ar) (har : ps[0]? = some ar.arg)
    (hb : body = .Expr (.Call (.Attribute (.Call (.Name "super" p0) [] [] p1) "__init__" p2) [e] [] p3) p4 :: rest)
    (he : ∀ env : Env, eval (.Call (.Attribute (.Call (.Name "super" p0) [] [] p1) "__init__" p2) [e] [] p3) env = (do
      let ov ← attributeBase (.Call (.Name "super" p0) [] [] p1) "__init__" env (eval (.Call (.Name "super" p0) [] [] p1) env)
      standAt p2.atName
      let (f, first) ← holding [ov] (getMethod ov "__init__" (pure false))
      callWith p3 f first (backTo p3 (starEach [e] env)) []))
    (hi : ∀ env : Env, env.scope = scope → interactive env = false) (hsw : ∀ env : Env, env.scope = scope → swapsWith (.Call (.Attribute (.Call (.Name "super" p0) [] [] p1) "__init__" p2) [e] [] p3) none p4.line env = pure false)
    (hse : ∀ env : Env, starEach [e] env = (false, eval e env) :: starEach [] env)
    (len : ∀ vs H Q E, sp vs H Q E → vs.length = ps.length)
    (hbody : ∀ (A : Around) (outer : List Env) (s : Shared) (H : Hp) (vs : List V) (Q : VK) (E : XK), Room k (A.deeper (envF (nf name qual params body scope cc cda) f s.heap.objs.size)) → sp vs H Q E →
      ∃ (a : Addr) (vs' : List V) (te : TE) (tr : TS), vs = .ref a :: vs' ∧ H a = some (exo a D none) ∧ PE (ncx CX P w K mg base N (nf name qual params body scope cc cda) f A outer s H E) e te ∧ PSs (ncx CX P w K mg base N (nf name qual params body scope cc cda) f A outer s H E) rest tr ∧
        te (startF N vs [some (.ref D)]) H fun x H1 => [x].length ≤ 1000 ∧ H1 a = some (exo a D none) ∧ tr { nx := fun _ H' => Q .non H', rt := Q } (startF N vs [some (.ref D)]) H1) :
    FnOk P w K mg base CX (k + 1) f fd ps sp := by
  refine fn_pre T S hsup hp0 har hb he hi hsw len fun A outer s H vs Q E hr hsp => ?_
  obtain ⟨a, vs', te, tr, rfl, ha, hpe, hps, hq⟩ := hbody A outer s H vs Q E hr hsp
  refine ⟨a, vs', rfl, ha, fun u s2 I => ?_⟩
  have hpa : PA (ncx CX P w K mg base N (nf name qual params body scope cc cda) f A outer s H E) [e] (tCons te tNil) := pa_cons hpe pa_nil (hse _)
  have hrun := hpa.run p3 [(u, kxs_mw "ValueError.__init__" a)] s2 (startF N (.ref a :: vs') [some (.ref D)]) H (fun ws H1 => ws.length ≤ 1000 ∧ H1 a = some (exo a D none) ∧ tr { nx := fun _ H' => Q .non H', rt := Q } (startF N (.ref a :: vs') [some (.ref D)]) H1) I hq
  have hrun2 : wpAny (model P w) (A.deeper (envF (nf name qual params body scope cc cda) f s.heap.objs.size)) (spliced (backTo p3 (starEach [e] (envF (nf name qual params body scope cc cda) f s.heap.objs.size)))) (fun us s₁ => KxsAt "ValueError.__init__" u a s₁.heap ∧ wpAny (model P w) (A.deeper (envF (nf name qual params body scope cc cda) f s.heap.objs.size)) (call (.ref u) us)
        (fun _ s3 => wpAny (model P w) (A.deeper (envF (nf name qual params body scope cc cda) f s.heap.objs.size)) (execs rest (envF (nf name qual params body scope cc cda) f s.heap.objs.size))
            (SP (ncx CX P w K mg base N (nf name qual params body scope cc cda) f A outer s H E) [] { nx := fun _ H' => Q .non H', rt := Q }) (ncx CX P w K mg base N (nf name qual params body scope cc cda) f A outer s H E).xe s3)
        (ncx CX P w K mg base N (nf name qual params body scope cc cda) f A outer s H E).xe s₁) (ncx CX P w K mg base N (nf name qual params body scope cc cda) f A outer s H E).xe s2 := by
    refine thn hrun fun us s1 ⟨ws, H1, I1, r, hz, hea, hq1⟩ => ⟨ClX.pin_at I1, ?_⟩
    have T2 : OexC (ncx CX P w K mg base N (nf name qual params body scope cc cda) f A outer s H E).K D := T.oex
    refine init_mw (X := ncx CX P w K mg base N (nf name qual params body scope cc cda) f A outer s H E) T2 I1 hea ?_ fun s' J => ?_
    · rw [← r.length, sizeLine_eq]
      omega
    · exact hps.run [] s' _ H1 _ (ClX.unpin J) hq1
  rw [hse] at hrun2 ⊢
  exact kxs_callWith (i := "ValueError.__init__") (x := a) rfl (evalArgs_plain hrun2)
/-- super().__init__(), then the rest -/
theorem fn_sup0 (T : Sup P K D f cc cda fd name qual params body scope) (S : NScope N ps ["__class__"] scope) (hsup : scope.names.lookup ("super" : Str) = some .globalImplicit) (hp0 : (params.posonlyargs ++ params.args).head? = some ar) (har : ps[0]? = some ar.arg)
    (hb : body = .Expr (.Call (.Attribute (.Call (.Name "super" p0) [] [] p1) "__init__" p2) [] [] p3) p4 :: rest)
    (he : ∀ env : Env, eval (.Call (.Attribute (.Call (.Name "super" p0) [] [] p1) "__init__" p2) [] [] p3) env = (do
      let ov ← attributeBase (.Call (.Name "super" p0) [] [] p1) "__init__" env (eval (.Call (.Name "super" p0) [] [] p1) env)
      standAt p2.atName
      let (f, first) ← holding [ov] (getMethod ov "__init__" (pure false))
      callWith p3 f first (backTo p3 (starEach [] env)) []))
    (hi : ∀ env : Env, env.scope = scope → interactive env = false) (hsw : ∀ env : Env, env.scope = scope → swapsWith (.Call (.Attribute (.Call (.Name "super" p0) [] [] p1) "__init__" p2) [] [] p3) none p4.line env = pure false)
    (len : ∀ vs H Q E, sp vs H Q E → vs.length = ps.length)
    (hbody : ∀ (A : Around) (outer : List Env) (s : Shared) (H : Hp) (vs : List V) (Q : VK) (E : XK), Room k (A.deeper (envF (nf name qual params body scope cc cda) f s.heap.objs.size)) → sp vs H Q E →
      ∃ (a : Addr) (vs' : List V) (tr : TS), vs = .ref a :: vs' ∧ H a = some (exo a D none) ∧ PSs (ncx CX P w K mg base N (nf name qual params body scope cc cda) f A outer s H E) rest tr ∧
        tr { nx := fun _ H' => Q .non H', rt := Q } (startF N vs [some (.ref D)]) H) :
    FnOk P w K mg base CX (k + 1) f fd ps sp := by
  refine fn_pre T S hsup hp0 har hb he hi hsw len fun A outer s H vs Q E hr hsp => ?_
  obtain ⟨a, vs', tr, rfl, ha, hps, hq⟩ := hbody A outer s H vs Q E hr hsp
  refine ⟨a, vs', rfl, ha, fun u s2 I => ?_⟩
  refine kxs_callWith (i := "ValueError.__init__") (x := a) rfl (evalArgs_empty ⟨ClX.pin_at I, ?_⟩)
  have T2 : OexC (ncx CX P w K mg base N (nf name qual params body scope cc cda) f A outer s H E).K D := T.oex
  exact init_mw (X := ncx CX P w K mg base N (nf name qual params body scope cc cda) f A outer s H E) T2 I ha (Nat.zero_le _) fun s' J => hps.run [] s' _ H _ (ClX.unpin J) hq
end
end ZX
set_option maxHeartbeats 2000000
namespace ZX
open PySem PySem.Spec PySem.Calls PyProof.Rows L2
/-! ### == by an own __eq__ -/
def rOwnI (C : Addr) (sp : Sp) (E : XK) : R2 := fun x y H Q => ∃ a dx fs b dy gs, x = .ref a ∧ y = .ref b ∧ H a = some (.ins C dx fs) ∧ H b = some (.ins C dy gs) ∧ sp [x, y] H Q E
theorem op_eqOwn {X : Cx} {CX : CXT} {n : Nat} {C g : Addr} {sp : Sp} {E : XK} (hs : PySem.W.findIn X.K (.ref C) "__eq__" = some (some (.ref g))) (hf : PySem.W.isFn X.K (.ref g) = true) (F : FnR X.prog X.w X.K X.mg X.base CX n g sp) (hr : Room n X.A) (hx : Passes CX X E) :
    OpR X (compareOp .Eq) (rOwnI C sp E) := by
  intro pins s σ H x y v u Q I rx ry h
  obtain ⟨a, dx, fs, b, dy, gs, rfl, rfl, ha, hb, q⟩ := h
  cases (show v = Value.ref a from rx)
  cases (show u = Value.ref b from ry)
  obtain ⟨mA, J, _⟩ := ins_get I.hok ha
  obtain ⟨mB, J', _⟩ := ins_get I.hok hb
  obtain ⟨od, J, _⟩ := J.look
  obtain ⟨od', J', _⟩ := J'.look
  obtain ⟨m, hF⟩ := I.fr
  show wpAny (model X.prog X.w) X.A (richCompare .Eq (.ref a) (.ref b)) (EP X pins σ Q) X.xe s
  refine PySem.W.cmp_K (op := .Eq) (tb := .ref C) hr.units0 hF I.ok.mod.kin J J'.type (by simp [PySem.W.notFirst]) hs hf ?_
  refine wpAny_mono (wpAny_call (run_fnR (us := [.ref a, .ref b]) (vs := [.ref a, .ref b]) F hr hx I (.cons rfl (.cons rfl .nil)) q)) (fun w s' z => ?_) fun _ _ x => x
  obtain ⟨z', H', I', rz, qz⟩ := z
  exact SlX.cmpback rz ⟨z', H', I', rz, qz⟩
/-! ### str(o) by an own __str__ -/
def rStrOwn (C : Addr) (sp : Sp) (E : XK) : List V → Hp → VK → Prop := fun xs H Q => ∃ a dx fs, xs = [.ref a] ∧ H a = some (.ins C dx fs) ∧ sp [.ref a] H (fun v H' => ∃ z : Str, v = .str z ∧ Q v H') E
theorem call_strOwn {X : Cx} {CX : CXT} {n : Nat} {C g : Addr} {sp : Sp} {E : XK} (hs : PySem.W.findIn X.K (.ref C) "__str__" = some (some (.ref g))) (hf : PySem.W.isFn X.K (.ref g) = true) (F : FnR X.prog X.w X.K X.mg X.base CX n g sp) (hr : Room (n + 2) X.A)
    (hx : ∀ (H : Hp) (s : Shared) (e : Value) (s' : Shared), CX X.stack H s E e s' → False) : CallR X (.type "str") (rStrOwn C sp E) := by
  intro pins s σ H xs us Q I r h
  obtain ⟨a, dx, fs, rfl, ha, q⟩ := h
  cases r with
  | cons r1 rs =>
    cases rs
    cases r1
    obtain ⟨mA, J, _⟩ := ins_get I.hok ha
    obtain ⟨od, J, _⟩ := J.look
    refine PySem.W.kso_call (by have := hr.un; show X.A.units + 1 + 1 < _; omega) I.kIn J hs hf ?_
    have hr2 : Room n X.A.in1.in1 := (Room.in1 (k := n) (Room.in1 (k := n + 1) hr))
    refine wpAny_call (codeAny_mono (F X.A.in1.in1 X.stack s H [.ref a] [.ref a] _ E hr2 I.env0.in1.in1 (.cons rfl .nil) q) fun r s' hq => ?_)
    cases r with
    | error e => exact (hx _ _ _ _ hq).elim
    | ok fl =>
      cases fl with
      | ret u =>
        obtain ⟨v, H', I2, rv, z, ev, q2⟩ := I.after hq
        subst ev
        obtain ⟨t, e⟩ := (show ∃ t, u = Value.str z t from rv)
        subst e
        exact ⟨.str z, H', I2, ⟨t, rfl⟩, q2⟩
      | next => exact False.elim hq
      | brk => exact False.elim hq
      | cont => exact False.elim hq
/-! ### C.m(e, ..), m a staticmethod; C(e, ..): what they let out told at the slots -/
structure Stat (K : PySem.W.Frag) (C : Addr) (mc : Value) (m : Str) (p g : Addr) : Prop where
  rd : ClX.CRead K C mc
  at_ : PySem.W.findCls K (.ref C) mc m = some (.get (.builtin "staticmethod.__get__") (.ref p) .none (.ref C))
  rc : ∃ rest, PySem.W.recIn K p "staticmethod" = some (.ref g :: rest)
  kp : PySem.W.keepIn K (.ref g) = true
def tStatS (C : Addr) (sp : Sp) (E : L2.St → XK) (ta : TE) (t : TA) : TE := fun σ H Q => ta σ H fun x H1 => x = .ref C ∧ t σ H1 fun vs H2 => sp vs H2 Q (E σ)
def tMakeS (C : Addr) (sp : Sp) (dvs : List V) (E : L2.St → XK) (t : TA) : TE := fun σ H Q => t σ H fun vs H1 => ∀ x dx, H1 x = none → H1 dx = none → dx ≠ x →
  sp (.ref x :: (vs ++ dvs)) (upd (upd H1 dx (.own x)) x (.ins C dx [])) (fun v H2 => v = .non ∧ Q (.ref x) H2) (E σ)
section
variable {X : Cx} {CX : CXT} {k : Nat} {C p g f : Addr} {mc : Value} {fd : FuncData} {ps : List Str} {sp : Sp} {E : L2.St → XK} {o e : Expr} {es : List Expr} {m x : Str} {pos apos xp : Pos} {ta : TE} {t : TA} {pl : Sem Bool} {dvs : List V} {ds : List Value}
theorem pe_statS (he : PE X o ta) (c : Stat X.K C mc m p g) (F : FnOk X.prog X.w X.K X.mg X.base CX k g fd ps sp) (hb : Binds X.K fd ps []) (hr : Room k X.A) (hx : ∀ σ, PassesAt CX X σ (E σ)) (ha : PA X (e :: es) t)
    (hst : starEach (e :: es) X.env = (false, eval e X.env) :: starEach es X.env := by rfl) (hpl : (backTo pos (starEach es X.env)).any (·.1) = false := by rfl)
    (ht : eval (.Call (.Attribute o m apos) (e :: es) [] pos) X.env = (do
      let ov ← eval o X.env
      standAt apos.atName
      let (f, first) ← holding [ov] (getMethod ov m pl)
      callWith pos f first (backTo pos (starEach (e :: es) X.env)) (backToKw pos (keywordEach [] X.env))) := by rfl) :
    PE X (.Call (.Attribute o m apos) (e :: es) [] pos) (tStatS C sp E ta t) := by
  refine ⟨fun pins s σ H Q I h => ?_⟩
  refine PySem.W.methodCall_KW (pl := pl) (thn (he.run pins s σ H _ I h) fun u s1 ⟨x, H1, I1, rx, ex, q⟩ => ?_) ht
  subst ex
  obtain rfl : u = Value.ref C := rx
  obtain ⟨rest, hp⟩ := c.rc
  refine PySem.W.method_cls I1.kIn c.rd.ga (PySem.W.cls_bind I1.kIn c.rd.rd c.at_ (wpAny_call (PySem.W.sm_get (s := { s1 with toks := s1.toks + 1 }) I1.kIn hp (PySem.W.handed_on rfl ?_))))
  refine PySem.W.callWith_K (h₀ := X.base) I1.ok.mod.kin c.kp (thn (ha.run pos pins _ σ H1 _ (I1.tok _) q) fun us s2 ⟨vs, H2, I2, r, q2⟩ => ⟨I2.kIn, ?_⟩) hst hpl
  exact run_fnS F hr hb (hx σ) I2 r q2
theorem run_makeS {pins : List (Addr × Obj)} {σ : L2.St} {H : Hp} {s : Shared} {Q : VK} {us : List Value} {vs : List V} (M : Mk X.K C f) (F : FnOk X.prog X.w X.K X.mg X.base CX k f fd ps sp) (hr : Room (k + 1) X.A) (hb : Binds X.K fd ps ds) (hd : Vals dvs ds)
    (hx : PassesAt CX X σ (E σ)) (I : Inv X pins σ H s) (r : Vals vs us)
    (h : ∀ x dx, H x = none → H dx = none → dx ≠ x → sp (.ref x :: (vs ++ dvs)) (upd (upd H dx (.own x)) x (.ins C dx [])) (fun v H2 => v = .non ∧ Q (.ref x) H2) (E σ)) :
    wpAny (model X.prog X.w) X.A (call (.ref C) us) (EP X pins σ Q) X.xe s := by
  have hq := h (s.heap.objs.size + 1) s.heap.objs.size (I.hok.fresh (Nat.le_succ _)) (I.hok.fresh (Nat.le_refl _)) (Nat.ne_of_lt (Nat.lt_succ_self _))
  have I2 := Inv.made (C := C) I
  have r2 : Vals (V.ref (s.heap.objs.size + 1) :: (vs ++ dvs)) (Value.ref (s.heap.objs.size + 1) :: (us ++ ds)) := .cons rfl (r.append hd)
  have hl : (Value.ref (s.heap.objs.size + 1) :: us ++ ds).length = ps.length := by
    have e := r2.length
    rw [F.len _ _ _ _ hq] at e
    exact e.symm
  refine wpAny_call (make_map (f := f) I.kIn M.makes M.init (beq_iff_eq.mp M.fn) (codeAny_mono (F.run _ X.stack _ _ ⟨Value.ref (s.heap.objs.size + 1) :: us, []⟩ (Value.ref (s.heap.objs.size + 1) :: (us ++ ds)) _ _ (E σ) (hr.make C us [])
    (I2.env0.make C us []) (hb _ (Value.ref (s.heap.objs.size + 1) :: us) I2.kIn hl) r2 hq) fun r s' hq' => ?_))
  cases r with
  | error e => exact hx pins _ _ e s' I2 hq'
  | ok fl =>
    cases fl with
    | ret u =>
      obtain ⟨v, H', I3, rv, ev, q3⟩ := I2.after hq'
      subst ev
      exact ⟨rv, ⟨V.ref (s.heap.objs.size + 1), H', I3, rfl, q3⟩⟩
    | next => exact False.elim hq'
    | brk => exact False.elim hq'
    | cont => exact False.elim hq'
theorem pe_makeS (M : Mk X.K C f) (F : FnOk X.prog X.w X.K X.mg X.base CX k f fd ps sp) (hr : Room (k + 1) X.A) (hg : Gl X x) (hm : X.mg x = some (.ref C)) (hb : Binds X.K fd ps ds) (hd : Vals dvs ds) (hx : ∀ σ, PassesAt CX X σ (E σ))
    (ha : PA X (e :: es) t) (hdb : (x == ("__debug__" : Str)) = false := by decide) (he : starEach (e :: es) X.env = (false, eval e X.env) :: starEach es X.env := by rfl) (hpl : (backTo pos (starEach es X.env)).any (·.1) = false := by rfl) :
    PE X (.Call (.Name x xp) (e :: es) [] pos) (tMakeS C sp dvs E t) := by
  refine ⟨fun pins s σ H Q I h => ?_⟩
  refine wpAny_Call_Name_kw (ld_glob I hg hm ?_ hdb)
  refine PySem.W.callWith_K (h₀ := X.base) I.ok.mod.kin M.kp (thn (ha.run pos pins s σ H _ I h) fun us s1 ⟨vs, H1, I1, r, q⟩ => ⟨I1.kIn, ?_⟩) he hpl
  exact run_makeS M F hr hb hd (hx σ) I1 r q
end
/-! ### text[::-1] -/
open TL in
def revT (z : Str) : Str := ⟨(tl z).reverse.toArray⟩
open TL in
theorem sliceBy_rev (z : Str) (u : Tok) : Txt.sliceBy z none none (-1, u) = revT z := by
  refine ext_tl ?_
  show (Txt.sliceBy z none none (-1, u)).cps.toList = (tl z).reverse
  rw [step_rev_list]
  have hl : z.length = (tl z).length := len_tl z
  refine List.ext_getElem (by rw [List.length_map, List.length_range, List.length_reverse, hl]) fun i h1 h2 => ?_
  rw [List.length_map, List.length_range] at h1
  rw [List.getElem_map, List.getElem_range, List.getElem_reverse]
  have hi : z.length - 1 - i < z.cps.size := by
    show z.length - 1 - i < z.length
    omega
  have e : z.cps.getD (z.length - 1 - i) 0 = z.cps[z.length - 1 - i] := by simp [Array.getD, hi]
  rw [e]
  have e2 : z.cps[z.length - 1 - i] = (tl z)[z.length - 1 - i]'(by rw [← hl]; exact hi) := by simp [tl]
  rw [e2]
  congr 1
def tRevS (te : TE) : TE := fun σ H Q => te σ H fun x H1 => ∃ z : Str, x = .str z ∧ z.length ≤ sizeLine ∧ Q (.str (revT z)) H1
theorem pe_revS {X : Cx} {e : Expr} {te : TE} {k : Nat} {p1 p2 p3 pos : Pos} (he : PE X e te) : PE X (.Subscript e (.Slice none none (some (.UnaryOp .USub (.Constant (.int 1) k p1) p2)) p3) pos) (tRevS te) := by
  refine ⟨fun pins s σ H Q I h => ?_⟩
  refine Subscript_ (thn (he.run pins s σ H _ I h) fun v s1 ⟨x, H1, I1, r1, q1⟩ => ?_)
  obtain ⟨z, ex, hz, q⟩ := q1
  subst ex
  obtain ⟨t, rfl⟩ := r1
  have hst : PO X (some (.UnaryOp .USub (.Constant (.int 1) k p1) p2)) (tPart (tUn (rU fun i => .int (-i)) (tC (.int 1)))) := po_some (pe_un un_neg pe_int)
  refine wpAny_Slice (thn (po_none.run pins s1 σ H1 (fun o H2 => o = none ∧ H2 = H1) I1 ⟨rfl, rfl⟩) fun vl s2 ⟨l, H2, I2, pl, el, e2⟩ => ?_)
  subst el e2
  refine thn (po_none.run pins s2 σ H2 (fun o H3 => o = none ∧ H3 = H2) I2 ⟨rfl, rfl⟩) fun vu s3 ⟨u, H3, I3, pu, eu, e3⟩ => ?_
  subst eu e3
  refine thn (hst.run pins s3 σ H3 (fun o H4 => o = some (-1) ∧ H4 = H3) I3 ⟨1, rfl, -1, rfl, rfl, rfl⟩) fun vs s4 ⟨o, H4, I4, ps, eo, e4⟩ => ?_
  subst eo e4
  have I5 : Inv X pins σ H4 { s4 with heap := s4.heap.push { cls := .type "slice", data := .fields #[vl, vu, vs] } } := I4.kept (t' := s4.toks) fun b ob q => Heap.get?_push_of_some _ q
  show wpAny (model X.prog X.w) X.A (subscriptTail e (.Slice none none (some (.UnaryOp .USub (.Constant (.int 1) k p1) p2)) p3) (.str z t) (.ref s4.heap.objs.size)) (EP X pins σ Q) X.xe { s4 with heap := s4.heap.push { cls := .type "slice", data := .fields #[vl, vu, vs] } }
  refine tail_any (ops := [.str z t, .ref s4.heap.objs.size]) (typeIs_str _ _ _) (PySem.F.slot_str_getitem.lookup) ?_ (by with_unfolding_all rfl)
  obtain ⟨l, rfl, el⟩ := IsPart.raw pl
  cases l with
  | some l => cases el
  | none =>
    obtain ⟨u', rfl, eu'⟩ := IsPart.raw pu
    cases u' with
    | some u' => cases eu'
    | none =>
      obtain ⟨st, rfl, est⟩ := IsPart.raw ps
      cases st with
      | none => cases est
      | some st =>
        obtain ⟨si, st⟩ := st
        have esi : si = -1 := Option.some.inj est
        subst esi
        refine wpAny_getItem_str_slice (l := none) (u := none) (st := some (-1, st)) ⟨_, Heap.get?_push_size _ rfl, rfl, rfl⟩ rfl ?_
        have hl : (Txt.sliceBy z none none (-1, st)).length ≤ sizeLine := by
          rw [step_rev_len]
          exact hz
        have eq := sliceBy_rev z st
        unfold Txt.sliceBy at eq hl
        have hc : ¬ ((((some ((-1 : Int), st)).map (·.1)).getD 1 == 1 && (slicePicked z none none (some (-1, st))).length == z.length) = true) := by
          have : ((((some ((-1 : Int), st)).map (·.1)).getD 1 == 1)) = false := rfl
          rw [this]; simp
        rw [if_neg hc] at eq hl
        show Made.post (if (((some ((-1 : Int), st)).map (·.1)).getD 1 == 1 && (slicePicked z none none (some (-1, st))).length == z.length) = true then Made.val (.str z t) else Made.str ⟨((slicePicked z none none (some (-1, st))).filterMap (z.cps[·]?)).toArray⟩) (EP X pins σ Q) _
        rw [if_neg hc]
        rw [← eq] at q
        exact ⟨hl, .str _, _, I5.tok _, ⟨_, rfl⟩, q⟩
/-! ### isinstance(e, c), e the exception that the suite holds, with a dict of its own -/
section
open PySem.W
variable {prog : Program} {w : World} {A : Around} {E : Value → Shared → Prop} {s : Shared} {K : Frag} {x D : Addr} {ox od : Obj}
theorem kin_classED {Q : Option Value → Shared → Prop} (hga : findIn K (.ref D) "__getattribute__" = some (some (.builtin "BaseException.__getattribute__"))) (hgt : findIn K (.ref D) "__getattr__" = some none) (hsub : subIn K (.ref D) (.type "BaseException") = some true)
    (hdct : hasDictIn K D = true) (ha : findIn K (.ref D) "__class__" = some (some (.builtin "object.__class__")))
    (hn : specialIn K (.builtin "object.__class__") "__get__" = some (some (.builtin "getset_descriptor.__get__"))) (htk : takesIn K (.builtin "object.__class__") = some true) (hm : mroIn K D (.type "object") = some true)
    (X : K.In s.heap) (I : InstAt s.heap x ox D (some od)) (h : Q (some (.ref D)) { s with toks := s.toks + 1 }) : wpAny (model prog w) A (getAttr? (.ref x) "__class__") Q E s := by
  have hf : findObj K D (some od) "__class__" = some (.bind (.builtin "getset_descriptor.__get__") (.builtin "object.__class__")) := findObj_data (by obtain ⟨cd, hc, _⟩ := any_some hdct; rw [hc]; rfl) ha hn htk
  obtain ⟨hp, g, d, t, os⟩ := s
  have L0 := I.type (M := model prog w)
  have L1 := looks_findIn (M := model prog w) X hga
  have L2 := looks_findIn (M := model prog w) X hgt
  have L3 := looks_find (M := model prog w) X I hf
  have sub : Looks (model prog w) hp (isInstance (.ref x) (.type "BaseException")) true := L0.andThen (looks_subIn X hsub)
  have hx0 : (false && onTheHeap (Value.builtin "BaseException.__getattribute__")) = false := rfl
  have hx2 : (Value.builtin "BaseException.__getattribute__" == Value.builtin "object.__getattribute__") = false := by decide +kernel
  have hx1 : (onTheHeap (Value.ref D) && Value.builtin "BaseException.__getattribute__" == Value.builtin "object.__getattribute__") = false := by rw [hx2]; rfl
  unfold getAttr? getAttrBy? getAttrBy
  refine wpAny_bind (wpAny_mkText (wpAny_bind (wpAny_attempt (wpAny_holding (wpAny_bind (L0.at (wpAny_bind (L1.at ?_))))))))
  show wpAny _ _ (if (onTheHeap (Value.ref D) && Value.builtin "BaseException.__getattribute__" == Value.builtin "object.__getattribute__") = true then _ else _) _ _ _
  rw [hx1, if_neg Bool.false_ne_true]
  unfold getAttrByItsOwn hookBefore
  refine wpAny_bind ?_
  rw [if_pos (show onTheHeap (Value.ref D) = true from rfl)]
  refine L2.at ?_
  refine wpAny_bind (wpAny_attempt (wpAny_holding ?_))
  unfold callGetattribute
  rw [hx0, if_neg Bool.false_ne_true]
  unfold boundAndCalled
  rw [PySem.F.excAttr_ValueError.ga.bind (.ref x)]
  refine wpAny_bind (wpAny_pure ?_)
  show wpAny _ _ (call (.builtin "BaseException.__getattribute__") [.ref x, .str "__class__" t]) _ _ _
  refine wpAny_call (codeAny_call_builtin PySem.F.excAttr_ValueError.ga.plain PySem.F.entry_bexc_ga ?_)
  refine @check_slot (model prog w) _ _ ⟨hp, g, d, t + 1, os⟩ "BaseException.__getattribute__" "BaseException" "__getattribute__" (.ref x) [.str "__class__" t] [] _ (by decide +kernel) (by decide +kernel) sub (PySem.F.args_bexc_ga (.ref x) (.str "__class__" t)) ?_
  unfold Builtin.«object.__getattribute__»
  refine wpAny_bind (wpAny_of_eq (a := ((Value.ref x : Value), [Value.str "__class__" t])) (by first | rfl | (simp only [slotArgs]; rfl)) ?_)
  refine wpAny_bind (wpAny_pure (wpAny_bind (L0.at (wpAny_bind (L3.at ?_)))))
  show wpAny _ _ (holding [Value.builtin "object.__class__"] (call (.builtin "getset_descriptor.__get__") [.builtin "object.__class__", .ref x, .ref D]) >>= ret) _ _ _
  refine wpAny_bind (wpAny_holding (wpAny_call (class_get (s := ⟨hp, g, d, t + 1, os⟩) (ox := ox) (od := some od) X I hm ?_)))
  refine wpAny_pure ?_
  show wpAny _ _ (handedOut (.ref D)) _ _ _
  rw [handedOut_of (v := .ref D) rfl]
  first
    | exact wpAny_pure (wpAny_pure h)
    | exact wpAny_pure h
    | exact wpAny_pure (wpAny_bind (wpAny_pure (wpAny_pure h)))
theorem kitx_excD (hga : findIn K (.ref D) "__getattribute__" = some (some (.builtin "BaseException.__getattribute__"))) (hgt : findIn K (.ref D) "__getattr__" = some none) (hsub : subIn K (.ref D) (.type "BaseException") = some true) (hdct : hasDictIn K D = true) (ha : findIn K (.ref D) "__class__" = some (some (.builtin "object.__class__")))
    (hn : specialIn K (.builtin "object.__class__") "__get__" = some (some (.builtin "getset_descriptor.__get__"))) (htk : takesIn K (.builtin "object.__class__") = some true) (hm : mroIn K D (.type "object") = some true) :
    KitX K (.ref x) (.ref D) (fun h => InstAt h x ox D (some od)) where
  ty := fun _ _ _ I => I.type
  it := fun _ _ X _ => by
    obtain ⟨cdD, hcD, _⟩ := any_some hdct
    unfold clsIn at hcD
    split at hcD
    · rename_i c' d' cd' sl' ho
      intro A' Q' E' s' k q
      unfold isType loadHead
      exact wpAny_bind (wpAny_loadPart (k _ _ (X _ _ ho)) (wpAny_pure q))
    · cases hcD
  ne := fun h tp dd its n sl X htp => by
    obtain ⟨cdD, hcD, _⟩ := any_some hdct
    refine Bool.eq_false_iff.mpr fun q => ?_
    have e : D = tp := Value.ref.inj (beq_iff_eq.mp q)
    subst e
    unfold clsIn at hcD
    split at hcD
    · rename_i c' d' cd' sl' ho
      have z := (X _ _ ho).symm.trans htp
      cases z
    · cases hcD
  ca := fun X I k => kin_classED hga hgt hsub hdct ha hn htk hm X I k
end
def rIsED (K : PySem.W.Frag) (D a dd : Addr) : List V → Hp → VK → Prop := fun xs H Q => ∃ (c : V) (cv : Value) (b : Bool) (fs : List (Str × V)), xs = [.ref a, c] ∧ (∀ u, RelV c u → u = cv) ∧ H dd = some (.xd fs) ∧ PySem.W.kitOne K (.ref D) cv = some b ∧ Q (.bl b) H
theorem call_isED {X : Cx} {a D dd : Addr} {oe : Obj} {pn : List (Addr × Obj)} (C : ExcC X.K D) (hz : Zc (.ref D) (some dd) oe) (hf : ∃ vs, oe.data = .fields vs) : CallR (X.suite a ((a, oe) :: pn)) (.builtin "isinstance") (rIsED X.K D a dd) := by
  intro pins s σ H xs us Q I r h
  obtain ⟨c, cv, b, fs, rfl, hcv, hdd, e, q⟩ := h
  cases r with
  | cons rx rr =>
    cases rr with
    | cons rt rr =>
      cases rr
      cases rx
      have ec := hcv _ rt
      subst ec
      obtain ⟨hget, _⟩ := I.pin (a, oe) (List.mem_append.mpr (.inl List.mem_cons_self))
      obtain ⟨vs, hv⟩ := hf
      have hx : ObjOk X.prog X.w H s.heap dd (.xd fs) := I.hok dd _ hdd
      obtain ⟨mA, ⟨od, es, ep, ho, hns⟩, hr⟩ := hx
      have J : PySem.W.InstAt s.heap a oe D (some od) := by
        obtain ⟨oc, odd, oda, osl⟩ := oe
        obtain ⟨h1, h2⟩ := hz
        dsimp only at h1 h2 hv
        subst h1 h2 hv
        exact ⟨hget, rfl, rfl, ho⟩
      exact PySem.W.kia_one (kitx_excD C.hg C.hk C.hs C.hd C.ha C.hn C.ht C.hm) I.kIn J e (fun z => nomatch z) fun tk => ⟨.bl b, H, I.kept (t' := tk) fun _ _ z => z, rfl, q⟩
end ZX
set_option maxHeartbeats 2000000
namespace ZX
open PySem PySem.Spec PyProof.Rows L2 He
/-! ### the head: defs, methods, staticmethods, errors' __init__s, by one Hook -/
/-- where a def stands -/
theorem DefA.parts {K : PySem.W.Frag} {d : DefA} (e : fnC K (d.at_.ad K) = d.val) (c : d.ok K = true) : PySem.W.keepIn K (.ref (d.at_.ad K)) = true ∧ ∃ (oc : Value) (od : Option Addr) (osl : Array (Option Value)) (fd : FuncData), K.lookup (d.at_.ad K) = some ⟨oc, od, .func fd, osl⟩ ∧
    PySem.W.codeIn K fd.code d.qual = true ∧ DflV K fd.defaults (d.dvs K) ∧ fd.name = d.name ∧ fd.qualname = d.qual ∧ fd.params = d.params ∧ fd.body = .stmts d.body ∧ fd.scope = d.scope ∧ fd.globals = mainGlobals ∧ fd.closure.map (·.1) = d.clo ∧ fd.builtins = builtinsNs := by
  obtain ⟨kp, c2⟩ := ba c
  refine ⟨kp, ?_⟩
  unfold fnC at e
  cases q : K.lookup (d.at_.ad K) with
  | none =>
    rw [q] at c2
    cases c2
  | some o =>
    obtain ⟨oc, od, dt, osl⟩ := o
    rw [q] at c2 e
    cases dt with
    | func fd =>
      have e2 : (some (fd.name, fd.qualname, fd.params, fd.body, fd.scope, fd.globals, fd.closure.map (·.1), fd.builtins) : FnC) = some (d.name, d.qual, d.params, .stmts d.body, d.scope, mainGlobals, d.clo, builtinsNs) := e
      simp only [Option.some.injEq, Prod.mk.injEq] at e2
      obtain ⟨h1, h2, h3, h4, h5, h6, h7, h8⟩ := e2
      have c3 : (PySem.W.codeIn K fd.code d.qual && dflB K fd.defaults (d.dvs K)) = true := c2
      obtain ⟨k1, k2⟩ := ba c3
      exact ⟨oc, od, osl, fd, rfl, k1, dflB_ok k2, h1, h2, h3, h4, h5, h6, h7, h8⟩
    | _ => cases c2
theorem DefA.funD {K : PySem.W.Frag} {d : DefA} (e : fnC K (d.at_.ad K) = d.val) (c : d.ok K = true) (hc : d.clo = []) : ∃ fd, FunD K d.name d.qual d.params d.body d.scope (d.dvs K) [] (d.at_.ad K) fd := by
  obtain ⟨kp, oc, od, osl, fd, q, k1, k2, h1, h2, h3, h4, h5, h6, h7, h8⟩ := d.parts e c
  obtain ⟨n1, n2, n3, n4, n5, n6, n7, n8, n9, n10, n11, n12, n13, n14, n15⟩ := fd
  dsimp only at h1 h2 h3 h4 h5 h6 h7 h8 k1 k2
  rw [hc] at h7
  have h7 := List.map_eq_nil_iff.mp h7
  subst h1 h2 h3 h4 h5 h6 h7 h8
  exact ⟨_, ⟨oc, od, n8, n9, n10, n11, n12, n13, n14, osl, rfl, q, k1, k2, .inl rfl⟩, kp⟩
/-! ### an error's class and its __init__ -/
theorem oexCls_ok {K : PySem.W.Frag} {C : Addr} (q : oexClsB K C = true) : ∃ nm qn N bs bm sn sub ab col dd k0 k1 k2 k3 k5, K.lookup C = some (excClassObj nm qn C N bs bm true sn sub ab col dd k0 k1 k2 k3 k5 "ValueError.__new__") ∧ HandSPX.refsVE bm = true := by
  unfold oexClsB at q
  split at q
  · rename_i dd cd sl ho
    split at q
    · rename_i C' bm k0 k1 k2 k3 n k5 hm hs
      simp only [Bool.and_eq_true, beq_iff_eq, Bool.not_eq_true'] at q
      obtain ⟨⟨⟨⟨rfl, rfl⟩, hdel⟩, hd⟩, hok⟩ := q
      obtain ⟨nm, bs, mro, ns, qn, hd', sn, sub, ab, col, del⟩ := cd
      dsimp only at hm hdel hd
      subst hm hdel hd
      have hsl : sl = #[k0, k1, k2, k3, some (.builtin "ValueError.__new__"), k5] := by
        obtain ⟨l⟩ := sl
        simp only at hs
        rw [hs]
      subst hsl
      exact ⟨nm, qn, ns, bs, bm, sn, sub, ab, col, dd, k0, k1, k2, k3, k5, ho, hok⟩
    · cases q
  · cases q
structure Err (P : Program) (K : PySem.W.Frag) (x : Str) (fd : FuncData) (d : DefA) : Prop where
  sup : Sup P K (ga K x) (ma K (ga K x) "__init__") (ccOf K (ma K (ga K x) "__init__")) (cdOf K (ma K (ga K x) "__init__")) fd d.name d.qual d.params d.body d.scope
  init : PySem.W.findIn K (.ref (ga K x)) "__init__" = some (some (.ref (ma K (ga K x) "__init__")))
  ty : PySem.W.typeIn K (.ref (ma K (ga K x) "__init__")) = some (.type "function")
theorem err_ok {P : Program} {K : PySem.W.Frag} {x fl : Str} {d : DefA} (h : errB K fl x = true) (hfl : ((P.main.file : Str) == fl) = true) (htop : (P.main.scope.names.lookup ("super" : Str)).isSome = false) (hs : PySem.W.nsIn K mainGlobals "super" = some none) (h3 : PySem.W.nsIn K cStatics "thirdparty.any" = some none)
    (hat : d.at_ = .met x "__init__") (e : fnC K (d.at_.ad K) = d.val) (c : d.ok K = true) (hc : d.clo = [("__class__" : Str)]) : ∃ fd, Err P K x fd d := by
  obtain ⟨kp, oc, od, osl, fd, q, k1, k2, g1, g2, g3, g4, g5, g6, g7, g8⟩ := d.parts e c
  obtain ⟨a1, h⟩ := ba h
  obtain ⟨a2, h⟩ := ba h
  obtain ⟨a3, h⟩ := ba h
  obtain ⟨a4, h⟩ := ba h
  obtain ⟨a5, h⟩ := ba h
  obtain ⟨a6, h⟩ := ba h
  obtain ⟨a7, h⟩ := ba h
  obtain ⟨a8, h⟩ := ba h
  obtain ⟨a9, h⟩ := ba h
  obtain ⟨a10, h⟩ := ba h
  obtain ⟨a11, a12⟩ := ba h
  have ead : d.at_.ad K = ma K (ga K x) "__init__" := by rw [hat] <;> rfl
  rw [ead] at q kp
  obtain ⟨n1, n2, n3, n4, n5, n6, n7, n8, n9, n10, n11, n12, n13, n14, n15⟩ := fd
  dsimp only at g1 g2 g3 g4 g5 g6 g7 g8 k1 k2
  rw [hc] at g7
  obtain ⟨cc, ecl⟩ : ∃ cc, n7 = [(("__class__" : Str), cc)] := by
    cases n7 with
    | nil => cases g7
    | cons p r =>
      cases r with
      | nil =>
        obtain ⟨y, z⟩ := p
        have : y = "__class__" := by
          have := List.cons.inj g7
          exact this.1
        exact ⟨z, by rw [this]⟩
      | cons p2 r2 => cases (List.cons.inj g7).2
  obtain ⟨cda, ecd⟩ : ∃ cda, n13 = .ref cda := by
    cases n13 with
    | ref c => exact ⟨c, rfl⟩
    | _ => cases k1
  subst ecl ecd g1 g2 g3 g4 g5 g6 g8
  have ecc : ccOf K (ma K (ga K x) "__init__") = cc := by
    unfold ccOf
    rw [q]
  have ecda : cdOf K (ma K (ga K x) "__init__") = cda := by
    unfold cdOf
    rw [q]
  refine ⟨_, ⟨⟨oc, od, osl, _, _, _, _, _, _, rfl, by rw [ecc, ecda]; exact q⟩, by rw [ecda]; exact k1, ?_, ?_, hs, h3, htop, of_decide_eq_true a8, of_decide_eq_true a6, of_decide_eq_true a7, ⟨oexCls_ok a1, eqO_ok a2, of_decide_eq_true a3, of_decide_eq_true a4, a5⟩⟩, eqO_ok a9, of_decide_eq_true a10⟩
  · cases z : K.lookup (ccOf K (ma K (ga K x) "__init__")) with
    | none => rw [z] at a11; cases a11
    | some o =>
      obtain ⟨o1, o2, o3, o4⟩ := o
      rw [z] at a11
      cases o3 with
      | cell v =>
        cases v with
        | none => cases a11
        | some v =>
          have ev : v = .ref (ga K x) := of_decide_eq_true a11
          rw [ev]
          exact ⟨_, _, _, rfl⟩
      | _ => cases a11
  · cases z : K.lookup (cdOf K (ma K (ga K x) "__init__")) with
    | none => rw [z] at a12; cases a12
    | some o =>
      obtain ⟨o1, o2, o3, o4⟩ := o
      rw [z] at a12
      cases o3 with
      | fields vs =>
        have a12 : (match (vs[2]? : Option Value) with
          | some (Value.str f _) => decide (fl = f)
          | _ => false) = true := a12
        cases y : vs[2]? with
        | none => rw [y] at a12; cases a12
        | some v =>
          rw [y] at a12
          cases v with
          | str f t =>
            have ef : fl = f := of_decide_eq_true a12
            exact ⟨_, _, vs, _, f, t, rfl, y, by rw [← ef]; exact hfl⟩
          | _ => cases a12
      | _ => cases a12
/-- what isinstance and the fields ask of an error's class -/
theorem excC_ok {K : PySem.W.Frag} {D : Addr} (h : excCB K D = true) : ExcC K D := by
  obtain ⟨a1, h⟩ := ba h
  obtain ⟨a2, h⟩ := ba h
  obtain ⟨a3, h⟩ := ba h
  obtain ⟨a4, h⟩ := ba h
  obtain ⟨a5, h⟩ := ba h
  obtain ⟨a6, h⟩ := ba h
  obtain ⟨a7, a8⟩ := ba h
  exact ⟨eqO_ok a1, eqO_ok a2, of_decide_eq_true a3, a4, eqO_ok a5, eqO_ok a6, of_decide_eq_true a7, of_decide_eq_true a8⟩
/-- what isinstance asks of an own object's class -/
structure InsC (K : PySem.W.Frag) (C : Addr) : Prop where
  ha : PySem.W.findIn K (.ref C) "__class__" = some (some (.builtin "object.__class__"))
  hn : PySem.W.specialIn K (.builtin "object.__class__") "__get__" = some (some (.builtin "getset_descriptor.__get__"))
  htk : PySem.W.takesIn K (.builtin "object.__class__") = some true
  hm : PySem.W.mroIn K C (.type "object") = some true
theorem insC_ok {K : PySem.W.Frag} {D : Addr} (h : insCB K D = true) : InsC K D := by
  obtain ⟨a5, h⟩ := ba h
  obtain ⟨a6, h⟩ := ba h
  obtain ⟨a7, a8⟩ := ba h
  exact ⟨eqO_ok a5, eqO_ok a6, of_decide_eq_true a7, of_decide_eq_true a8⟩
/-- a staticmethod -/
theorem stat_ok {K : PySem.W.Frag} {x m : Str} (h : statB K x m = true) : Stat K (ga K x) (.type "type") m (ma K (ga K x) m) ((Pl.sta x m).ad K) := by
  obtain ⟨a1, h⟩ := ba h
  obtain ⟨a2, h⟩ := ba h
  obtain ⟨a3, h⟩ := ba h
  obtain ⟨a4, a5⟩ := ba h
  refine ⟨⟨a1, eqO_ok a2⟩, ?_, ?_, a5⟩
  · split at a3
    · rename_i n p C z
      obtain ⟨b1, b2⟩ := ba a3
      obtain ⟨b3, b4⟩ := ba b2
      rw [z, of_decide_eq_true b1, of_decide_eq_true b3, of_decide_eq_true b4]
    · cases a3
  cases z : PySem.W.recIn K (ma K (ga K x) m) "staticmethod" with
  | none => rw [z] at a4; cases a4
  | some l =>
    cases l with
    | nil => rw [z] at a4; cases a4
    | cons v r =>
      rw [z] at a4
      cases v with
      | ref g =>
        have eg : g = (Pl.sta x m).ad K := of_decide_eq_true a4
        exact ⟨r, by rw [eg]⟩
      | _ => cases a4
/-! ### the Hook -/
section
variable {fa : List Fa} {ex : PySem.W.Frag → Bool} {fn : List DefA} {K : PySem.W.Frag}
theorem SaysA.fact (c : SaysA fa ex fn K) (i : Nat) {f : Fa} (h : fa[i]? = some f := by rfl) : f.ok K = true := by
  have c1 := (ba (show ((fa.all fun f => f.ok K) && (ex K && fn.all fun d => d.ok K)) = true from congrArg (fun z : AlA => z.1) c)).1
  exact List.all_eq_true.mp c1 f (List.mem_of_getElem? h)
theorem SaysA.more (c : SaysA fa ex fn K) : ex K = true := (ba (ba (show ((fa.all fun f => f.ok K) && (ex K && fn.all fun d => d.ok K)) = true from congrArg (fun z : AlA => z.1) c)).2).1
theorem SaysA.def_ (c : SaysA fa ex fn K) (i : Nat) {d : DefA} (h : fn[i]? = some d := by rfl) : fnC K (d.at_.ad K) = d.val ∧ d.ok K = true := by
  have c2 := (ba (ba (show ((fa.all fun f => f.ok K) && (ex K && fn.all fun d => d.ok K)) = true from congrArg (fun z : AlA => z.1) c)).2).2
  have e : fn.map (fun d => fnC K (d.at_.ad K)) = fn.map DefA.val := congrArg (fun z : AlA => z.2) c
  have e2 : (fn.map fun d => fnC K (d.at_.ad K))[i]? = (fn.map DefA.val)[i]? := by rw [e]
  rw [List.getElem?_map, List.getElem?_map, h] at e2
  exact ⟨Option.some.inj e2, List.all_eq_true.mp c2 d (List.mem_of_getElem? h)⟩
end
end ZX
set_option maxHeartbeats 2000000
namespace ZX
open PySem PySem.Spec PyProof.Rows L2 TL
/-- C(e, ..), C an own error with its own __init__, where nothing is handled: the error's context is None -/
theorem pmk_oexN {X : Cx} {CX : CXT} {x : Str} {C fI : Addr} {k : Nat} {fd : FuncData} {ps : List Str} {sp : Sp} {ta : TA} {e : Expr} {es : List Expr} {p pos : Pos} (T : OexC X.K C) (iC : PySem.W.findIn X.K (.ref C) "__init__" = some (some (.ref fI)))
    (tI : PySem.W.typeIn X.K (.ref fI) = some (.type "function")) (F1 : FnOk X.prog X.w X.K X.mg X.base CX k fI fd ps sp) (hr : Room (k + 1) X.A) (hb : Binds X.K fd ps []) (hx : Passes CX X (fun _ _ _ => False)) (hg : Gl X x) (hm : X.mg x = some (.ref C)) (ha : PA X (e :: es) ta)
    (hdb : (x == ("__debug__" : Str)) = false := by decide) (he : starEach (e :: es) X.env = (false, eval e X.env) :: starEach es X.env := by rfl) (hpl : (backTo pos (starEach es X.env)).any (·.1) = false := by rfl) :
    L2N.PMk X (.Call (.Name x p) (e :: es) [] pos) (tMkO C sp [] ta) := by
  intro pins s σ H Q I h
  obtain ⟨nm, q, N, bs, bm, sn, sub, ab, col, dd, k0, k1, k2, k3, k5, hC, hbm⟩ := T.cls
  refine wpAny_Call_Name_kw (ld_glob I hg hm ?_ hdb)
  refine PySem.W.callWith_K (h₀ := X.base) I.ok.mod.kin T.kC (thn (ha.run pos pins s σ H _ I h) fun us s1 ⟨vs, H1, I1, r1, hz, q1⟩ => ⟨I1.kIn, ?_⟩) he hpl
  obtain ⟨hp, g, dr, tk, os⟩ := s1
  have new : H1 (hp.objs.size + 1) = none := I1.hok.fresh (Nat.le_succ _)
  have hq := q1 (hp.objs.size + 1) new
  rw [List.append_nil] at hq
  have grow : ∀ b o, hp.get? b = some o → ((hp.push (PySem.W.kdv_tup us)).push (PySem.HandSPX.excO C hp.objs.size)).get? b = some o := fun b o z => Heap.get?_push_of_some _ (Heap.get?_push_of_some _ z)
  have I2 : Inv X pins σ (upd H1 (hp.objs.size + 1) (exo (hp.objs.size + 1) C none)) ⟨(hp.push (PySem.W.kdv_tup us)).push (PySem.HandSPX.excO C hp.objs.size), g, dr, tk, os⟩ :=
    I1.laid (t' := tk) (a := hp.objs.size + 1) (o := exo (hp.objs.size + 1) C none) (h' := (hp.push (PySem.W.kdv_tup us)).push (PySem.HandSPX.excO C hp.objs.size)) grow (Nat.le_succ _) (exo_ok (by heap_get))
  have r2 : Vals (V.ref (hp.objs.size + 1) :: vs) (Value.ref (hp.objs.size + 1) :: us) := .cons rfl r1
  have lens : (Value.ref (hp.objs.size + 1) :: us).length = ps.length := r2.length.symm.trans (F1.len _ _ _ _ hq)
  have b2 := hb _ (Value.ref (hp.objs.size + 1) :: us) I2.kIn (by rw [List.append_nil]; exact lens)
  rw [List.append_nil] at b2
  have few : us.length ≤ sizeLine := by
    rw [← Paired.length r1, sizeLine_eq]
    omega
  show wpAny _ _ (call (.ref C) us) _ _ _
  refine wpAny_call (PySem.HandSPX.call_own F.excBase_ValueError (fun Y => PySem.HandSPX.refsVE_contains Y bm hbm) (I1.kIn _ _ hC) (PySem.W.looks_findIn I1.kIn iC) (fun self => PySem.W.bind_fn I1.kIn self tI) few
    (codeAny_mono (FnOk.run F1 _ X.stack _ _ ⟨Value.ref (hp.objs.size + 1) :: us, []⟩ (Value.ref (hp.objs.size + 1) :: us) _ _ (fun _ _ _ => False) (hr.make C us []) (I2.env0.make C us []) b2 r2 hq) fun r s' hq' => ?_))
  cases r with
  | error er => exact hx pins σ _ _ er s' I2 hq'
  | ok fl =>
    cases fl with
    | next => exact hq'.elim
    | brk => exact hq'.elim
    | cont => exact hq'.elim
    | ret u =>
      obtain ⟨v, H2, os2, bare, un, hok, rv, ev, d, fs, ea, ed, hd1, q2⟩ := hq'
      subst ev
      obtain ⟨h2, g2, d2, t2, os'⟩ := s'
      obtain ⟨t0, G, J, kG, ge, hoe, na⟩ := mk_end0 (d2 := d2) (t2 := t2) I1 (Nat.le_succ _) grow un hok os2 bare ea ed hd1
      exact ⟨rv, hp.objs.size + 1, _, _, ⟨G, g2, d2, t2, os'⟩, _, .ref C, some d, rfl, J, kG, ge, hoe, ⟨rfl, rfl, fun ws hw => by cases hw; rfl⟩, rfl, rfl, na, rfl, bare, raises_own T.exC T.tyC, q2⟩
/-- nothing is let out -/
theorem passN {X : Cx} : Passes (L2N.CX X.prog X.w) X E0 := fun _ _ _ _ _ _ _ h => by
  obtain ⟨_, _, _, _, _, _, _, _, _, _, _, _, z⟩ := h
  exact False.elim z
theorem takesN {X : Cx} : L2N.Takes X (fun _ _ _ _ => False) := fun _ _ x => by
  obtain ⟨_, _, _, _, _, _, _, _, _, _, _, _, _, _, _, _, z⟩ := x
  exact z.elim
/-- isinstance(e, c) of the error that the suite holds, class and dict told by the reading -/
def rIsEG (K : PySem.W.Frag) (a : Addr) (cls : Value) (d : Option Addr) : List V → Hp → VK → Prop := fun xs H Q => ∃ D dd, cls = .ref D ∧ d = some dd ∧ ExcC K D ∧ rIsED K D a dd xs H Q
theorem call_isEG {X : Cx} {a : Addr} {cls : Value} {d : Option Addr} {oe : Obj} {pn : List (Addr × Obj)} (hz : Zc cls d oe) (hf : ∃ vs, oe.data = .fields vs) : CallR (X.suite a ((a, oe) :: pn)) (.builtin "isinstance") (rIsEG X.K a cls d) := by
  intro pins s σ H xs us Q I r h
  obtain ⟨D, dd, rfl, rfl, c, q⟩ := h
  exact call_isED c hz hf pins s σ H xs us Q I r q
/-- err.f, class and dict told by the reading -/
def tXg (K : PySem.W.Frag) (a : Addr) (cls : Value) (d : Option Addr) (f : Str) (te : TE) : TE := fun σ H Q => te σ H fun x H1 => x = .ref a ∧ ∃ C, cls = .ref C ∧ XfC K C ∧ PySem.W.findIn K (.ref C) f = some none ∧ ∃ (dd : Addr) (fs : List (Str × V)) (v : V), d = some dd ∧ H1 dd = some (.xd fs) ∧ fs.lookup f = some v ∧ Q v H1
theorem pe_xg {X : Cx} {a : Addr} {oe : Obj} {cls : Value} {d : Option Addr} {pn : List (Addr × Obj)} {e : Expr} {te : TE} {pos : Pos} {n : Str} (hz : Zc cls d oe) (hf : ∃ vs, oe.data = .fields vs) (he : PE (X.suite a ((a, oe) :: pn)) e te)
    (hb : attributeBase e n X.env (eval e X.env) = eval e X.env := by rfl) : PE (X.suite a ((a, oe) :: pn)) (.Attribute e n pos) (tXg X.K a cls d n te) := by
  refine ⟨fun pins s σ H Q I h => ?_⟩
  refine attr_of hb (thn (he.run pins s σ H _ I h) fun u s1 hh => ?_)
  obtain ⟨x, H1, I1, rx, ex, C, ec, T, hno, dd, fs, v, ed, ea, l, q⟩ := hh
  subst ex
  obtain rfl : u = Value.ref a := rx
  subst ec
  subst ed
  obtain ⟨ha, _⟩ := I1.pin (a, oe) (List.mem_append_left _ List.mem_cons_self)
  obtain ⟨vs, hd⟩ := hf
  have hx : ObjOk X.prog X.w H1 s1.heap dd (.xd fs) := I1.hok dd _ ea
  obtain ⟨mA, hns, hr⟩ := hx
  obtain ⟨od, ho, hl⟩ := lookIn_ns hns
  obtain ⟨u, hu, ru⟩ := RelO.some_of (v := v) (o := mA n) (by rw [← l]; exact hr n)
  have J : PySem.W.InstAt s1.heap a oe C (some od) := ⟨ha, hz.1, by unfold PySem.W.notCls; rw [hd] <;> rfl, by rw [hz.2]; exact ho⟩
  exact HandSPX.exc_get I1.kIn J T.ga T.gg T.exC (PySem.W.findObj_own T.hdC hno rfl (by rw [hl, hu])) (handed_of ru) ⟨v, H1, I1.tok _, ru, q⟩
end ZX
set_option maxHeartbeats 2000000
namespace ZX
open PySem PySem.Spec PyProof.Rows L2 HotX L2H
/-! ### for over a text while an error is handled -/
section
variable {prog : Program} {w : World} {A : Around} {E : Value → Shared → Prop} {s : Shared} {it x1 : Addr} {x : Str} {t : Tok} {i : Nat} {Q : Option Value → Shared → Prop} {ty : String}
theorem hot_ne (hot : HotAt A x1 s.heap) (hit : s.heap.IsStrIter it ty x t i) : x1 ≠ it := fun e => by
  obtain ⟨o, ho, hc, hd⟩ := hit
  obtain ⟨hh, o1, vs1, h1, d1, c1⟩ := hot
  rw [e, ho] at h1
  cases h1
  rw [hd] at d1
  cases d1
  cases c1
theorem ascii_end_hot (hot : HotAt A x1 s.heap) (hit : s.heap.IsStrIter it "str_ascii_iterator" x t i) (hx : x.cps[i]? = none) (hQ : ∀ h', (∀ b o, b ≠ it → s.heap.get? b = some o → h'.get? b = some o) → Q none { s with heap := h' }) : wpAny (model prog w) A (pyNext (.ref it)) Q E s := by
  have ne := hot_ne hot hit
  obtain ⟨o, ho, hc, hd⟩ := id hit
  obtain ⟨hh, o1, vs1, h1, d1, c1⟩ := hot
  unfold pyNext
  refine wpAny_bind (wpAny_attempt (wpAny_callSpecial?_slot (name := Str.ofString "__next__") hit.typeIs F.slot_str_ascii_iterator_next
    (wpAny_call_entry F.slot_str_ascii_iterator_next hit.typeIs F.entry_str_ascii_iterator_next ?_ (F.args_str_ascii_iterator_next_1 _))))
  show wpAny _ _ (field (.ref it) 0 >>= _) _ _ s
  refine wpAny_bind (wpAny_field ho hd (x := .str x t) rfl ?_)
  show wpAny _ _ (field (.ref it) 1 >>= _) _ _ s
  refine wpAny_bind (wpAny_field ho hd (x := .int i 0) rfl ?_)
  simp only [Int.toNat_natCast, hx]
  refine wpAny_bind (wpAny_rule (wpAny_bind (wpAny_setField ho hd (by simp) (wpAny_bind (wpAny_letGo ?_)))))
  show wpAny _ _ (newExc (.type "StopIteration") [] >>= _) _ _ _
  refine wpAny_bind ?_
  simp only [newExc, newTuple]
  refine wpAny_bind (wpAny_newObj_type ?_ (by size_fits))
  refine wpAny_bind (m := firstArgMember _ _) (wpAny_of_eq (a := Value.none) (by first | rfl | (simp only [firstArgMember]; rfl)) ?_)
  refine wpAny_newObj_type ?_ (by size_fits)
  refine raiseNew_hot ⟨hh, o1, vs1, Heap.get?_push_of_some _ (Heap.get?_push_of_some _ ((Heap.get?_update_other _ _ (Ne.symm ne)).trans h1)), d1, c1⟩ (Nat.ne_of_lt (Heap.lt_size (Heap.get?_push_of_some _ ((Heap.get?_update_other _ _ (Ne.symm ne)).trans h1)))) (Heap.get?_push_size _ rfl) rfl (by first | (simp; done) | (simp; omega) | (simp only [Array.size_append]; simp; omega)) ?_
  refine wpAny_bind (wpAny_isInstance (T := "StopIteration") (b := true) ⟨_, Heap.get?_update_self _ (Heap.get?_push_size _ rfl) rfl, rfl⟩ isSubtype_stop ?_)
  refine wpAny_pure (hQ _ fun b o' hb e => ?_)
  refine (Heap.get?_update_other _ _ ?_).trans (Heap.get?_push_of_some _ (Heap.get?_push_of_some _ ((Heap.get?_update_other _ _ (Ne.symm hb)).trans e)))
  exact Ne.symm (Nat.ne_of_lt (Heap.lt_size (Heap.get?_push_of_some _ ((Heap.get?_update_other _ _ (Ne.symm hb)).trans e))))
theorem wide_end_hot (hot : HotAt A x1 s.heap) (hit : s.heap.IsStrIter it "str_iterator" x t i) (hx : x.cps[i]? = none) (hQ : ∀ h', (∀ b o, b ≠ it → s.heap.get? b = some o → h'.get? b = some o) → Q none { s with heap := h' }) : wpAny (model prog w) A (pyNext (.ref it)) Q E s := by
  have ne := hot_ne hot hit
  obtain ⟨o, ho, hc, hd⟩ := id hit
  obtain ⟨hh, o1, vs1, h1, d1, c1⟩ := hot
  unfold pyNext
  refine wpAny_bind (wpAny_attempt (wpAny_callSpecial?_slot (name := Str.ofString "__next__") hit.typeIs F.slot_str_iterator_next
    (wpAny_call_entry F.slot_str_iterator_next hit.typeIs F.entry_str_iterator_next ?_ (F.args_str_iterator_next_1 _))))
  show wpAny _ _ (field (.ref it) 0 >>= _) _ _ s
  refine wpAny_bind (wpAny_field ho hd (x := .str x t) rfl ?_)
  show wpAny _ _ (field (.ref it) 1 >>= _) _ _ s
  refine wpAny_bind (wpAny_field ho hd (x := .int i 0) rfl ?_)
  simp only [Int.toNat_natCast, hx]
  refine wpAny_bind (wpAny_rule (wpAny_bind (wpAny_setField ho hd (by simp) (wpAny_bind (wpAny_letGo ?_)))))
  show wpAny _ _ (newExc (.type "StopIteration") [] >>= _) _ _ _
  refine wpAny_bind ?_
  simp only [newExc, newTuple]
  refine wpAny_bind (wpAny_newObj_type ?_ (by size_fits))
  refine wpAny_bind (m := firstArgMember _ _) (wpAny_of_eq (a := Value.none) (by first | rfl | (simp only [firstArgMember]; rfl)) ?_)
  refine wpAny_newObj_type ?_ (by size_fits)
  refine raiseNew_hot ⟨hh, o1, vs1, Heap.get?_push_of_some _ (Heap.get?_push_of_some _ ((Heap.get?_update_other _ _ (Ne.symm ne)).trans h1)), d1, c1⟩ (Nat.ne_of_lt (Heap.lt_size (Heap.get?_push_of_some _ ((Heap.get?_update_other _ _ (Ne.symm ne)).trans h1)))) (Heap.get?_push_size _ rfl) rfl (by first | (simp; done) | (simp; omega) | (simp only [Array.size_append]; simp; omega)) ?_
  refine wpAny_bind (wpAny_isInstance (T := "StopIteration") (b := true) ⟨_, Heap.get?_update_self _ (Heap.get?_push_size _ rfl) rfl, rfl⟩ isSubtype_stop ?_)
  refine wpAny_pure (hQ _ fun b o' hb e => ?_)
  refine (Heap.get?_update_other _ _ ?_).trans (Heap.get?_push_of_some _ (Heap.get?_push_of_some _ ((Heap.get?_update_other _ _ (Ne.symm hb)).trans e)))
  exact Ne.symm (Nat.ne_of_lt (Heap.lt_size (Heap.get?_push_of_some _ ((Heap.get?_update_other _ _ (Ne.symm hb)).trans e))))
end
theorem turn_strH {P : Program} {w : World} {K : PySem.W.Frag} {tg : Expr} (it : Addr) (x : Str) (t : Tok) (ty : String) (hty : ty = "str_ascii_iterator" ∨ ty = "str_iterator") : TurnH P w K tg (Its x) [it] it (fun i h => h.IsStrIter it ty x t i) where
  mem := by simp
  obj := fun i h st b hb => by
    have e : b = it := by simpa using hb
    subst e
    obtain ⟨o, e, c, d⟩ := st
    exact ⟨o, e, fun v z => by rw [d] at z; cases z⟩
  keep := fun i h h' st k => let ⟨o, ho, r⟩ := st; ⟨o, k it (by simp) o ho, r⟩
  item := by
    intro X hP hw hK hc i pins s σ H E I hf st hg
    subst hP hw hK
    obtain ⟨f0, f1, f2, f3, f4, f5⟩ := hf it (by simp)
    have hlt : i < x.cps.size := hg
    have hcx : x.cps[i]? = some x.cps[i] := Array.getElem?_eq_getElem hlt
    have hno : ["enumerate", "zip", "dict_itemiterator", "dict_reverseitemiterator", "odict_iterator", "itertools.zip_longest", "itertools.pairwise"].contains ty = false := by
      rcases hty with e | e
      · rw [e]; decide
      · rw [e]; decide
    have fin : ∀ h', h'.IsStrIter it ty x t (i + 1) → Heap.SameBut it s.heap h' → ∃ u, some (Value.str ⟨#[x.cps[i]]⟩ s.toks) = some u ∧ wpAny (model X.prog X.w) X.A (letOwnedTupleGo tg (.ref it) u) (fun _ s2 => ∃ y H', Inv X pins σ H' s2 ∧ RelV y u ∧ (Its x).yld i H y H' ∧ s2.heap.IsStrIter it ty x t (i + 1) ∧ ∀ b ∈ [it], H' b = none) E { s with heap := h', toks := s.toks + 1 } := fun h' st' sb => by
      have I1 : Inv X pins σ H { s with heap := h', toks := s.toks + 1 } := I.turned (fun b o hb e => (sb.2 b hb).trans e) f0 f1 f3 f4 f5
      obtain ⟨oi, e, cc, dd⟩ := id st'
      exact ⟨_, rfl, go_of (s := { s with heap := h', toks := s.toks + 1 }) e cc dd hno ⟨.str ⟨#[x.cps[i]]⟩, H, I1, ⟨_, rfl⟩, ⟨rfl, _, hcx, rfl⟩, st', fun b hb => (hf b hb).1⟩⟩
    rcases hty with e | e
    · subst e
      exact wpAny_pyNext_ascii_item st hcx fun h' st' sb => fin h' st' sb
    · subst e
      exact wpAny_pyNext_wide_item st hcx fun h' st' sb => fin h' st' sb
  done := by
    intro X hP hw hK hc i pins s σ H E I hf st hg
    subst hP hw hK
    obtain ⟨f0, f1, f2, f3, f4, f5⟩ := hf it (by simp)
    obtain ⟨x1, hot⟩ := hc.at I
    have hx : x.cps[i]? = none := Array.getElem?_eq_none hg
    rcases hty with e | e
    · subst e
      exact ascii_end_hot hot st hx fun h' eb => ⟨rfl, I.turned (t' := s.toks) (fun b o hb e => eb b o hb e) f0 f1 f3 f4 f5⟩
    · subst e
      exact wide_end_hot hot st hx fun h' eb => ⟨rfl, I.turned (t' := s.toks) (fun b o hb e => eb b o hb e) f0 f1 f3 f4 f5⟩
  self := fun A i s Q E st h => by
    rcases hty with e | e
    · rw [e] at st; exact wpAny_pyIter_striter_ascii st h
    · rw [e] at st; exact wpAny_pyIter_striter_wide st h
theorem oneH {X : Cx} {tg : Expr} {pins : List (Addr × Obj)} {σ : L2.St} {H : Hp} {s : Shared} {R : It → Hp → Prop} {x : Str} {t : Tok} {ty : String} {tk : Nat} (hty : ty = "str_ascii_iterator" ∨ ty = "str_iterator") (I : Inv X pins σ H s) (q : R (Its x) H) :
    PIEH X pins σ tg R (.ref s.heap.objs.size) { s with heap := s.heap.push { cls := .type ty, data := .fields #[.str x t, .int 0 0] }, toks := tk } := by
  refine ⟨s.heap.objs.size, [s.heap.objs.size], _, _, H, rfl, I.kept fun b o e => Heap.get?_push_of_some _ e, turn_strH _ x t ty hty, ⟨_, Heap.get?_push_size _ rfl, rfl, rfl⟩, fun b hb => ?_, q⟩
  have e : b = s.heap.objs.size := by simpa using hb
  subst e
  exact I.fpOk (Nat.le_refl _) (I.hok.fresh (Nat.le_refl _))
theorem pi_strH {X : Cx} {tg e : Expr} {te : TE} (he : PE X e te) : PIH X tg e (iStr te) := by
  refine ⟨fun pins s σ H R I h => ?_⟩
  refine thn (he.run pins s σ H _ I h) fun v s1 ⟨y, H1, I1, r1, x, ex, q⟩ => ?_
  subst ex
  obtain ⟨t, rfl⟩ := r1
  cases ha : x.cps.all (· < 128)
  · exact wpAny_pyIter_wide ha (oneH (.inr rfl) I1 q)
  · exact wpAny_pyIter_ascii ha (oneH (.inl rfl) I1 q)
end ZX
set_option maxHeartbeats 2000000
namespace ZX
open PySem PySem.Spec PyProof.Rows L2
/-! ### a + b, len(a) by own methods -/
theorem op_binOwn {X : Cx} {CX : CXT} {n : Nat} {C g : Addr} {sp : Sp} {E : XK} {op : Operator} (hc : PySem.W.selfFirst X.K C = true) (hs : PySem.W.findIn X.K (.ref C) (PySem.dunder op.info.2) = some (some (.ref g))) (hf : PySem.W.isFn X.K (.ref g) = true)
    (F : FnR X.prog X.w X.K X.mg X.base CX n g sp) (hr : Room n X.A) (hx : Passes CX X E) : OpR X (binaryOp op) (rOwnI C sp E) := by
  intro pins s σ H x y v u Q I rx ry h
  obtain ⟨a, dx, fs, b, dy, gs, rfl, rfl, ha, hb, q⟩ := h
  cases (show v = Value.ref a from rx)
  cases (show u = Value.ref b from ry)
  obtain ⟨mA, J, _⟩ := ins_get I.hok ha
  obtain ⟨mB, J', _⟩ := ins_get I.hok hb
  obtain ⟨od, J, _⟩ := J.look
  obtain ⟨od', J', _⟩ := J'.look
  obtain ⟨m, hF⟩ := I.fr
  refine PySem.W.binop_K hF I.ok.mod.kin J J'.type hc hs hf ?_
  refine wpAny_mono (wpAny_call (run_fnR (us := [.ref a, .ref b]) (vs := [.ref a, .ref b]) F hr hx I (.cons rfl (.cons rfl .nil)) q)) (fun w s' z => ?_) fun _ _ x => x
  obtain ⟨z', H', I', rz, qz⟩ := z
  exact SlX.cmpback rz ⟨z', H', I', rz, qz⟩
/-- len(o) by an own __len__ -/
def rLenOwn (C : Addr) (sp : Sp) (E : XK) : List V → Hp → VK → Prop := fun xs H Q => ∃ a dx fs, xs = [.ref a] ∧ H a = some (.ins C dx fs) ∧ sp [.ref a] H (fun v H' => ∃ i : Int, v = .int i ∧ 0 ≤ i ∧ i < 2 ^ 63 ∧ Q v H') E
theorem call_lenOwn {X : Cx} {CX : CXT} {n : Nat} {C g : Addr} {sp : Sp} {E : XK} (hs : PySem.W.findIn X.K (.ref C) "__len__" = some (some (.ref g))) (hf : PySem.W.isFn X.K (.ref g) = true) (F : FnR X.prog X.w X.K X.mg X.base CX n g sp) (hr : Room (n + 1) X.A)
    (hx : ∀ (H : Hp) (s : Shared) (e : Value) (s' : Shared), CX X.stack H s E e s' → False) : CallR X (.builtin "len") (rLenOwn C sp E) := by
  intro pins s σ H xs us Q I r h
  obtain ⟨a, dx, fs, rfl, ha, q⟩ := h
  cases r with
  | cons r1 rs =>
    cases rs
    cases r1
    obtain ⟨mA, J, _⟩ := ins_get I.hok ha
    obtain ⟨od, J, _⟩ := J.look
    obtain ⟨m, hF⟩ := I.fr
    refine PySem.W.len_K hF I.ok.mod.kin J hs hf ?_
    refine wpAny_call (codeAny_mono (F X.A.in1 X.stack s H [.ref a] [.ref a] _ E hr.in1 I.env0.in1 (.cons rfl .nil) q) fun r s' hq => ?_)
    cases r with
    | error e => exact (hx _ _ _ _ hq).elim
    | ok fl =>
      cases fl with
      | ret u =>
        obtain ⟨v, H', I2, rv, i, ev, i0, i1, q2⟩ := I.after hq
        subst ev
        obtain ⟨t, rfl⟩ := (show ∃ t, u = Value.int i t from rv)
        exact ⟨⟨i0, i1⟩, .int i, H', I2.tok _, ⟨_, rfl⟩, q2⟩
      | next => exact False.elim hq
      | brk => exact False.elim hq
      | cont => exact False.elim hq
end ZX
set_option maxHeartbeats 2000000
namespace ZX
open PySem PySem.Spec PyProof.Rows L2
/-! ### list(d.values()) -/
def tListVals (te : TE) : TE := fun σ H Q => te σ H fun x H1 => ∃ (d : Addr) (kvs : List (Key × V)), x = .ref d ∧ H1 d = some (.dK kvs) ∧ ∀ p, H1 p = none → Q (.ref p) (upd H1 p (.lst (kvs.map Prod.snd)))
theorem pe_listVals {X : Cx} {e : Expr} {te : TE} {p apos cpos pos : Pos} (hc : X.calm = true) (he : PE X e te) (hg : Gl X "list") (hm : X.mg "list" = none) (hv : bootBuiltins "list" = some (.type "list")) (hbase : attributeBase e "values" X.env (eval e X.env) = eval e X.env := by rfl) (hline : (apos.endLine == cpos.line) = true := by rfl)
    (hs : starEach [.Call (.Attribute e "values" apos) [] [] cpos] X.env = (false, eval (.Call (.Attribute e "values" apos) [] [] cpos) X.env) :: starEach [] X.env := by rfl) :
    PE X (.Call (.Name "list" p) [.Call (.Attribute e "values" apos) [] [] cpos] [] pos) (tListVals te) := by
  refine ⟨fun pins s σ H Q I hq => ?_⟩
  refine wpAny_Call_Name_kw (ld_blt I hg hm hv ?_)
  refine PyProof.Rows.callWith_type1 ?_ hs rfl
  rw [hs]
  show wpAny _ _ (spliced ((false, eval (.Call (.Attribute e "values" apos) [] [] cpos) X.env) :: backTo pos (starEach [] X.env))) _ _ s
  refine Calls.spliced_cons ?_
  refine wpAny_Call_method (T := "dict") (id := "dict.values") hbase rfl hline F.plainAttrs_dict F.slot_dict_values F.type_dict_values (thn (he.run pins s σ H _ I hq) fun u s1 ⟨x, H1, I1, rx, d, kvs, ex, hd, q⟩ => ?_)
  subst ex
  obtain rfl : u = Value.ref d := rx
  obtain ⟨hz, hs0, vs, kv, hdo⟩ := I1.hok d _ hd
  obtain ⟨ep, hat⟩ := hdo.dictAt
  have lk : kvs.length = vs.length := Paired.length kv
  have I2 : Inv X pins σ H1 { s1 with heap := s1.heap.push { cls := .type "dict_values", data := .fields #[.ref d] } } := I1.kept (t' := s1.toks) fun b ob q => Heap.get?_push_of_some _ q
  refine ⟨hdo.typeIs, hdo.mapOf.noDict, ?_⟩
  show wpAny _ _ (callWith cpos (.builtin "dict.values") [.ref d] [] []) _ X.xe s1
  refine method_meetsIn F.slot_dict_values F.entry_dict_values rfl (PySem.evalArgs_none ⟨rfl, hdo.typeIs, F.args_dict_values_1 _, _, meets_dict_values (mixKind X.prog X.w) d hs0, ⟨vs, hdo⟩, ?_⟩)
  refine Calls.spliced_nil ?_
  refine PySem.W.kdl_call (PySem.W.kdl_values (knd := mixKind X.prog X.w) (kvs := vs) (ep := ep)) (I1.ok.hd hc) ⟨⟨_, Heap.get?_push_size _ rfl, rfl, rfl⟩, hat.push _⟩ (by omega) fun h' tk acc' c' hkeep hS hacc => ?_
  refine ⟨.ref _, upd H1 _ (.lst (kvs.map Prod.snd)), I2.laid hkeep (Nat.le_refl _) ⟨?_, acc'.toList, c', ?_, ?_⟩, rfl, q _ (I2.hok.fresh (Nat.le_refl _))⟩
  · rw [List.length_map]; exact hz
  · have el : acc'.toList.length = acc'.size := by simp
    refine vals_of_at (by rw [List.length_map, el, hacc.1, lk]) fun j x v h1 h2 => ?_
    obtain ⟨k, hky⟩ := hacc.2 j v (by rw [← Array.getElem?_toList]; exact h2)
    rw [List.getElem?_map] at h1
    cases hj : kvs[j]? with
    | none => rw [hj] at h1; cases h1
    | some kx =>
      rw [hj] at h1
      cases h1
      obtain ⟨y, e1, e2⟩ := LiI.paired_get kv hj
      rw [hky] at e1
      cases e1
      exact e2.2
  · rw [Array.toArray_toList]; exact hS
/-! ### a list of texts == a list of texts -/
def rEqLS (K : PySem.W.Frag) : R2 := fun x y H Q => ∃ (a b : Addr) (xs ys : List Str), x = .ref a ∧ y = .ref b ∧ SqL K H a (xs.map V.str) ∧ SqL K H b (ys.map V.str) ∧ Q (.bl (decide (xs = ys))) H
theorem strs_at {xs : List Str} {us : List Value} (r : Vals (xs.map V.str) us) {j : Nat} (h1 : j < xs.length) (h2 : j < us.length) : ∃ t, us[j] = .str xs[j] t := by
  obtain ⟨y, e, q⟩ := LiI.paired_get r (i := j) (x := V.str xs[j]) (by rw [List.getElem?_map, List.getElem?_eq_getElem h1]; rfl)
  rw [List.getElem?_eq_getElem h2] at e
  cases e
  exact q
theorem all_eq {xs ys : List Str} (hl : xs.length = ys.length) : ((List.range xs.length).all fun j => xs.getD j "" == ys.getD j "") = decide (xs = ys) := by
  by_cases h : xs = ys
  · rw [decide_eq_true h, h]
    exact List.all_eq_true.mpr fun j _ => beq_self_eq_true _
  · rw [decide_eq_false h]
    refine Bool.eq_false_iff.mpr fun z => h (List.ext_getElem hl fun j h1 h2 => ?_)
    have q := eq_of_beq (List.all_eq_true.mp z j (List.mem_range.mpr h1))
    rw [List.getD_eq_getElem?_getD, List.getD_eq_getElem?_getD, List.getElem?_eq_getElem h1, List.getElem?_eq_getElem h2] at q
    exact q
theorem op_eqLS {X : Cx} (hu : X.A.units < cLine) : OpR X (compareOp .Eq) (rEqLS X.K) := by
  intro pins s σ H x y v u Q I rx ry h
  obtain ⟨a, b, xs, ys, rfl, rfl, ha, hb, q⟩ := h
  obtain rfl : v = Value.ref a := rx
  obtain rfl : u = Value.ref b := ry
  obtain ⟨i1, r1, ⟨o1, m1, g1, c1, d1, p1⟩, _⟩ := I.list ha
  obtain ⟨i2, r2, ⟨o2, m2, g2, c2, d2, p2⟩, _⟩ := I.list hb
  have l1 : s.heap.IsList a i1.toArray := ⟨o1, g1, c1, m1, p1⟩
  have l2 : s.heap.IsList b i2.toArray := ⟨o2, g2, c2, m2, p2⟩
  have n1 : xs.length = i1.length := by have := Paired.length r1; rw [List.length_map] at this; exact this
  have n2 : ys.length = i2.length := by have := Paired.length r2; rw [List.length_map] at this; exact this
  have fin : ∀ k : Bool, k = decide (xs = ys) → ∃ (v' : V) (H' : Hp), Inv X pins σ H' s ∧ RelV v' (Value.bool k) ∧ Q v' H' := fun k hk => ⟨.bl k, H, I, rfl, by rw [hk]; exact q⟩
  show wpAny _ _ (richCompare .Eq (.ref a) (.ref b)) _ _ _
  by_cases hl : xs.length = ys.length
  · refine SeqAt.rcP_lists (e := fun j => xs.getD j "" == ys.getD j "") l1 l2 (by simp; omega) hu (fun j h1 h2 => ?_) _ _ ?_
    · have h1' : j < i1.length := by simpa using h1
      have h2' : j < i2.length := by simpa using h2
      obtain ⟨t, e1⟩ := strs_at r1 (j := j) (by omega) h1'
      obtain ⟨t2, e2⟩ := strs_at r2 (j := j) (by omega) h2'
      rw [show i1.toArray[j] = i1[j] by simp, show i2.toArray[j] = i2[j] by simp, e1, e2]
      rw [show xs.getD j "" = xs[j]'(by omega) by rw [List.getD_eq_getElem?_getD, List.getElem?_eq_getElem (by omega)]; rfl, show ys.getD j "" = ys[j]'(by omega) by rw [List.getD_eq_getElem?_getD, List.getElem?_eq_getElem (by omega)]; rfl, ← SeqAt.str_beq]
      exact SeqAt.EqAt.eqP ((SeqRoads2.EqGives.str _ _ t t2).at _ s)
    · refine fin _ ?_
      rw [show i1.toArray.size = xs.length by simp; omega]
      exact all_eq hl
  · obtain ⟨⟨cls, dd, data, sl⟩, ho, hc, n, hd⟩ := id l1
    obtain ⟨⟨cls2, dd2, data2, sl2⟩, ho2, hc2, n2', hd2⟩ := id l2
    simp only at hc hd hc2 hd2
    subst hc hd hc2 hd2
    have ta : s.TypeIs (.ref a) "list" := ⟨_, ho, rfl⟩
    have tb : s.TypeIs (.ref b) "list" := ⟨_, ho2, rfl⟩
    refine wpAny_richCompare_same_room (op := .Eq) ta tb F.slot_list_eq (call_meets F.slot_list_eq ta F.entry_list_eq (F.args_list_eq_2 _ _) (SeqAt.list_eq_lengthsAt a b i1.toArray i2.toArray n n2' dd dd2 sl sl2 ?_) ⟨ho, ho2, ⟨(fun x => nomatch x), fin _ ?_⟩⟩) hu
    · simp; omega
    · exact (decide_eq_false fun e => hl (by rw [e])).symm
end ZX
set_option maxHeartbeats 4000000
namespace Z
open PySem PySem.Spec PyProof.Rows L2 TL Evl
theorem sc_wall : FnScope ["k"] ["k"] (L2.defScope s_wall) := ⟨rfl, rfl, rfl, by decide +kernel, rfl, by decide +kernel, by decide +kernel⟩
theorem sc_consists_of : FnScope ["text", "signs"] ["text", "signs"] (L2.defScope s_consists_of) := ⟨rfl, rfl, rfl, by decide +kernel, rfl, by decide +kernel, by decide +kernel⟩
theorem sc_is_plain : FnScope ["text"] ["text"] (L2.defScope s_is_plain) := ⟨rfl, rfl, rfl, by decide +kernel, rfl, by decide +kernel, by decide +kernel⟩
theorem sc_is_plain_lines : FnScope ["text"] ["text"] (L2.defScope s_is_plain_lines) := ⟨rfl, rfl, rfl, by decide +kernel, rfl, by decide +kernel, by decide +kernel⟩
theorem sc_is_path : FnScope ["text"] ["text"] (L2.defScope s_is_path) := ⟨rfl, rfl, rfl, by decide +kernel, rfl, by decide +kernel, by decide +kernel⟩
theorem sc_is_word : FnScope ["text", "most"] ["text", "most"] (L2.defScope s_is_word) := ⟨rfl, rfl, rfl, by decide +kernel, rfl, by decide +kernel, by decide +kernel⟩
theorem sc_is_field_name : FnScope ["text"] ["text"] (L2.defScope s_is_field_name) := ⟨rfl, rfl, rfl, by decide +kernel, rfl, by decide +kernel, by decide +kernel⟩
theorem sc_is_value : FnScope ["text"] ["text"] (L2.defScope s_is_value) := ⟨rfl, rfl, rfl, by decide +kernel, rfl, by decide +kernel, by decide +kernel⟩
theorem sc_list_elements : FnScope ["text", "parts", "part"] ["text"] (L2.defScope s_list_elements) := ⟨rfl, rfl, rfl, by decide +kernel, rfl, by decide +kernel, by decide +kernel⟩
theorem sc_read_number : FnScope ["text"] ["text"] (L2.defScope s_read_number) := ⟨rfl, rfl, rfl, by decide +kernel, rfl, by decide +kernel, by decide +kernel⟩
theorem sc_read_reading : FnScope ["text", "number"] ["text"] (L2.defScope s_read_reading) := ⟨rfl, rfl, rfl, by decide +kernel, rfl, by decide +kernel, by decide +kernel⟩
theorem sc_is_mark_text : FnScope ["text"] ["text"] (L2.defScope s_is_mark_text) := ⟨rfl, rfl, rfl, by decide +kernel, rfl, by decide +kernel, by decide +kernel⟩
theorem sc_read_mark : FnScope ["text", "weak", "quoted", "inner"] ["text"] (L2.defScope s_read_mark) := ⟨rfl, rfl, rfl, by decide +kernel, rfl, by decide +kernel, by decide +kernel⟩
theorem sc_settled : FnScope ["changed", "date", "margin"] ["changed", "date", "margin"] (L2.defScope s_settled) := ⟨rfl, rfl, rfl, by decide +kernel, rfl, by decide +kernel, by decide +kernel⟩
theorem sc_read_marks_field : FnScope ["request", "name", "text"] ["request", "name"] (L2.defScope s_read_marks_field) := ⟨rfl, rfl, rfl, by decide +kernel, rfl, by decide +kernel, by decide +kernel⟩
theorem sc_read_reading_field : FnScope ["message", "name", "text"] ["message", "name"] (L2.defScope s_read_reading_field) := ⟨rfl, rfl, rfl, by decide +kernel, rfl, by decide +kernel, by decide +kernel⟩
theorem sc_without_own : FnScope ["request"] ["request"] (L2.defScope s_without_own) := ⟨rfl, rfl, rfl, by decide +kernel, rfl, by decide +kernel, by decide +kernel⟩
theorem sc_checking : FnScope ["request", "mark", "changed", "plain"] ["request", "mark", "changed"] (L2.defScope s_checking) := ⟨rfl, rfl, rfl, by decide +kernel, rfl, by decide +kernel, by decide +kernel⟩
theorem sc_are_fields : FnScope ["fields", "name", "value"] ["fields"] (L2.defScope s_are_fields) := ⟨rfl, rfl, rfl, by decide +kernel, rfl, by decide +kernel, by decide +kernel⟩
theorem sc_is_body : FnScope ["text"] ["text"] (L2.defScope s_is_body) := ⟨rfl, rfl, rfl, by decide +kernel, rfl, by decide +kernel, by decide +kernel⟩
theorem sc_law_bag : FnScope ["script"] ["script"] (L2.defScope s_law_bag) := ⟨rfl, rfl, rfl, by decide +kernel, rfl, by decide +kernel, by decide +kernel⟩
theorem sc_law_take : FnScope ["bag", "limit", "cell", "drawn"] ["bag", "limit"] (L2.defScope s_law_take) := ⟨rfl, rfl, rfl, by decide +kernel, rfl, by decide +kernel, by decide +kernel⟩
theorem sc_law_letter : FnScope ["number"] ["number"] (L2.defScope s_law_letter) := ⟨rfl, rfl, rfl, by decide +kernel, rfl, by decide +kernel, by decide +kernel⟩
theorem sc_law_truth : FnScope ["actual", "due"] ["actual", "due"] (L2.defScope s_law_truth) := ⟨rfl, rfl, rfl, by decide +kernel, rfl, by decide +kernel, by decide +kernel⟩
theorem sc_law_text : FnScope ["bag", "pick", "free", "length", "text", "spot"] ["bag"] (L2.defScope s_law_text) := ⟨rfl, rfl, rfl, by decide +kernel, rfl, by decide +kernel, by decide +kernel⟩
theorem sc_law_world : FnScope ["bag", "limit", "behind", "ahead", "span", "gap", "mode", "world"] ["bag"] (L2.defScope s_law_world) := ⟨rfl, rfl, rfl, by decide +kernel, rfl, by decide +kernel, by decide +kernel⟩
theorem sc_law_shown : FnScope ["world"] ["world"] (L2.defScope s_law_shown) := ⟨rfl, rfl, rfl, by decide +kernel, rfl, by decide +kernel, by decide +kernel⟩
theorem sc_law_is_settled : FnScope ["world"] ["world"] (L2.defScope s_law_is_settled) := ⟨rfl, rfl, rfl, by decide +kernel, rfl, by decide +kernel, by decide +kernel⟩
theorem sc_law_grow : FnScope ["world", "epoch"] ["world", "epoch"] (L2.defScope s_law_grow) := ⟨rfl, rfl, rfl, by decide +kernel, rfl, by decide +kernel, by decide +kernel⟩
theorem sc_law_step : FnScope ["bag", "world", "code", "free", "span", "gap", "ticks"] ["bag", "world", "code"] (L2.defScope s_law_step) := ⟨rfl, rfl, rfl, by decide +kernel, rfl, by decide +kernel, by decide +kernel⟩
theorem sc_law_tag : FnScope ["world"] ["world"] (L2.defScope s_law_tag) := ⟨rfl, rfl, rfl, by decide +kernel, rfl, by decide +kernel, by decide +kernel⟩
theorem sc_law_note : FnScope ["world", "requests", "tag", "known", "held", "request"] ["world", "requests"] (L2.defScope s_law_note) := ⟨rfl, rfl, rfl, by decide +kernel, rfl, by decide +kernel, by decide +kernel⟩
theorem sc_law_unchanged : FnScope ["world", "note", "number"] ["world", "note", "number"] (L2.defScope s_law_unchanged) := ⟨rfl, rfl, rfl, by decide +kernel, rfl, by decide +kernel, by decide +kernel⟩
theorem sc_law_due : FnScope ["world", "note", "number", "starred"] ["world", "note", "number", "starred"] (L2.defScope s_law_due) := ⟨rfl, rfl, rfl, by decide +kernel, rfl, by decide +kernel, by decide +kernel⟩
theorem sc_law_checks : FnScope ["world", "note", "requests", "number", "turn", "current", "k", "due", "fresh"] ["world", "note", "requests"] (L2.defScope s_law_checks) := ⟨rfl, rfl, rfl, by decide +kernel, rfl, by decide +kernel, by decide +kernel⟩
theorem sc_law_truth_of_settled : FnScope ["world", "reading", "gap", "shown"] ["world"] (L2.defScope s_law_truth_of_settled) := ⟨rfl, rfl, rfl, by decide +kernel, rfl, by decide +kernel, by decide +kernel⟩
theorem sc_law_fields : FnScope ["bag", "menu", "fields", "pair"] ["bag"] (L2.defScope s_law_fields) := ⟨rfl, rfl, rfl, by decide +kernel, rfl, by decide +kernel, by decide +kernel⟩
theorem sc_law_stay : FnScope ["requests", "fields", "starred", "k"] ["requests", "fields", "starred"] (L2.defScope s_law_stay) := ⟨rfl, rfl, rfl, by decide +kernel, rfl, by decide +kernel, by decide +kernel⟩
theorem sc_law : FnScope ["script", "bag", "world", "fields", "spot", "starred", "requests", "codes", "notes", "k", "code", "note"] ["script"] (L2.defScope s_law) := ⟨rfl, rfl, rfl, by decide +kernel, rfl, by decide +kernel, by decide +kernel⟩
/-- what the module's names stand for -/
structure Mg (mg : Str → Option Value) : Prop where
  len : mg "len" = none
  all : mg "all" = none
  any : mg "any" = none
  isinstance : mg "isinstance" = none
  range : mg "range" = none
  int : mg "int" = none
  bool : mg "bool" = none
  list : mg "list" = none
  str : mg "str" = none
  LOWER : ∃ u, mg "LOWER" = some u ∧ RelV (.str "abcdefghijklmnopqrstuvwxyz") u
  DIGITS : ∃ u, mg "DIGITS" = some u ∧ RelV (.str "0123456789") u
  WORD_SIGNS : ∃ u, mg "WORD_SIGNS" = some u ∧ RelV (.str "abcdefghijklmnopqrstuvwxyz0123456789-") u
  PATH_SIGNS : ∃ u, mg "PATH_SIGNS" = some u ∧ RelV (.str "abcdefghijklmnopqrstuvwxyz0123456789/-.") u
  MOST_PATH : ∃ u, mg "MOST_PATH" = some u ∧ RelV (.int 60) u
  MOST_NAME : ∃ u, mg "MOST_NAME" = some u ∧ RelV (.int 30) u
  MOST_VALUE : ∃ u, mg "MOST_VALUE" = some u ∧ RelV (.int 200) u
  MOST_DIGITS : ∃ u, mg "MOST_DIGITS" = some u ∧ RelV (.int 6) u
  MARK_SIGNS : ∃ u, mg "MARK_SIGNS" = some u ∧ RelV (.str "abcdefghijklmnopqrstuvwxyz0123456789-.") u
  MOST_MARK : ∃ u, mg "MOST_MARK" = some u ∧ RelV (.int 40) u
/-! ### what the functions give -/
def letC (i : Int) : Nat := (atI (tl mkS) (i % 38)).getD 97
def plnC (i : Int) : Nat := (atI (tl plS) (i % 94)).getD 97
def spLetter : Sp := fun vs H Q _ => ∃ i : Int, vs = [.int i] ∧ RetV (.str (one (letC i))) H Q
def spPlain : Sp := fun vs H Q _ => ∃ i : Int, vs = [.int i] ∧ RetV (.str (one (plnC i))) H Q
theorem svLet {i : Int} {H : Hp} : SpV spLetter [.int i] H (.str (one (letC i))) := fun H1 e Q q E => ⟨i, rfl, q⟩
theorem svPln {i : Int} {H : Hp} : SpV spPlain [.int i] H (.str (one (plnC i))) := fun H1 e Q q E => ⟨i, rfl, q⟩
def spWritten : Sp := fun vs H Q _ => ∃ (z : Str) (b : Bool), vs = [.str z, .bl b] ∧ z.length ≤ 100000 ∧ RetV (.str (wrZ z b)) H Q
theorem svW {z : Str} {b : Bool} {H : Hp} (h : z.length ≤ 100000) : SpV spWritten [.str z, .bl b] H (.str (wrZ z b)) := fun H1 e Q q E => ⟨z, b, rfl, h, q⟩
theorem mkS_at {i : Int} (h0 : 0 ≤ i) (h1 : i < 38) : ∃ c, atI (tl mkS) i = some c ∧ c ∈ tl mkS := at_int (xs := tl mkS) h0 (by
  have : (tl mkS).length = 38 := by decide +kernel
  omega)
theorem plS_at {i : Int} (h0 : 0 ≤ i) (h1 : i < 94) : ∃ c, atI (tl plS) i = some c ∧ c ∈ tl plS := at_int (xs := tl plS) h0 (by
  have : (tl plS).length = 94 := by decide +kernel
  omega)
theorem letC_ok (i : Int) : atI (tl mkS) (i % 38) = some (letC i) ∧ letC i ∈ tl mkS := by
  obtain ⟨c, hc, hm⟩ := mkS_at (i := i % 38) (Int.emod_nonneg _ (by decide)) (Int.emod_lt_of_pos _ (by decide))
  unfold letC
  rw [hc]
  exact ⟨rfl, hm⟩
theorem plnC_ok (i : Int) : atI (tl plS) (i % 94) = some (plnC i) := by
  obtain ⟨c, hc, hm⟩ := plS_at (i := i % 94) (Int.emod_nonneg _ (by decide)) (Int.emod_lt_of_pos _ (by decide))
  unfold plnC
  rw [hc]
  rfl
theorem mz_upper {X : Cx} : MtR X "str.upper" rUpper := mt_upper
section
variable {P : Program} {w : World} {K : PySem.W.Frag} {mg : Str → Option Value} {base : Heap} {f : Addr} {fd : FuncData} {k : Nat}
abbrev CTake (P : Program) (w : World) (K : PySem.W.Frag) (mg : Str → Option Value) (base : Heap) : Prop := Call P w K mg base 1 "_law_take" ["bag", "limit"] spTake
theorem ok_consists_of (T : Mg mg) (F : FnP K "consists_of" s_consists_of f fd) (gm : mg "consists_of" = some (.ref f)) : Call P w K mg base 1 "consists_of" ["text", "signs"] (sp2 fun z s => .bl (allIn z s)) := by
  refine mk F gm (fun _ _ _ _ _ _ us hl => match us, hl with | [_, _], _ => rfl) (fun _ _ _ _ _ _ us hl => match us, hl with | [_, _], _ => rfl) sc_consists_of (fun vs H Q E h => ?_) (fun cdv A outer s H vs Q E hr h => ?_)
  · obtain ⟨z, s, rfl, _⟩ := h
    rfl
  · obtain ⟨z, s, rfl, hz, q⟩ := h
    refine ⟨_, (pss_one (ps_ret (pe_cmpR op_eq (pe_bm PySem.F.plainAttrs_str PySem.F.slot_str_strip PySem.F.type_str_strip mz_strip (pv 0) (pa_cons (pv 1) pa_nil)) pe_str (nomark _)))), ?_⟩
    refine s_ret (v := .bl (allIn z s)) (ev_is (ev_op (ev_strip (ev_var rfl) (ev_var rfl) hz) ev_c rv_eqS) ?_) q
    rw [strip_all]
theorem ok_is_plain (T : Mg mg) (F : FnP K "is_plain" s_is_plain f fd) (gm : mg "is_plain" = some (.ref f)) : Call P w K mg base 1 "is_plain" ["text"] (sp1 fun z => .bl (allIn z signs)) := by
  refine mk F gm (fun _ _ _ _ _ _ us hl => match us, hl with | [_], _ => rfl) (fun _ _ _ _ _ _ us hl => match us, hl with | [_], _ => rfl) sc_is_plain (fun vs H Q E h => ?_) (fun cdv A outer s H vs Q E hr h => ?_)
  · obtain ⟨z, rfl, _⟩ := h
    rfl
  · obtain ⟨z, rfl, hz, q⟩ := h
    refine ⟨_, (pss_one (ps_ret (pe_and (pe_bm0 PySem.F.plainAttrs_str PySem.F.slot_str_isascii PySem.F.type_str_isascii mz_isascii (pv 0)) (pe_and (pe_bm0 PySem.F.plainAttrs_str PySem.F.slot_str_isprintable PySem.F.type_str_isprintable mz_isprint (pv 0)) (pe_one (pe_cmpR op_eq (pe_bm PySem.F.plainAttrs_str PySem.F.slot_str_translate PySem.F.type_str_translate (mz_trans rfl) (pv 0) (pa_cons (pe_disp (pps_cons pe_int pe_non pps_nil) (by rfl) (by rfl) (fun z => by cases z) (by decide)) pa_nil)) (pv 0) (nomark _))))))), ?_⟩
    refine s_ret (v := .bl (allIn z signs)) (ev_is (ev_andV (ev_isascii (ev_var rfl)) fun h1 => ev_andV (ev_isprint (ev_var rfl)) fun h2 => ev_op (ev_trans (ev_var rfl) ?_ hz) (ev_var rfl) rv_eqS) ?_) q
    · rw [isascii_tl] at h1
      exact fun c hc => of_decide_eq_true (List.all_eq_true.mp h1 c hc)
    · rw [plain_eq]
theorem ok_is_path (T : Mg mg) (c_consists_of : Call P w K mg base 1 "consists_of" ["text", "signs"] (sp2 fun z s => .bl (allIn z s))) (F : FnP K "is_path" s_is_path f fd) (gm : mg "is_path" = some (.ref f)) :
    Call P w K mg base 2 "is_path" ["text"] (sp1 fun z => .bl (pathB z)) := by
  refine mk F gm (fun _ _ _ _ _ _ us hl => match us, hl with | [_], _ => rfl) (fun _ _ _ _ _ _ us hl => match us, hl with | [_], _ => rfl) sc_is_path (fun vs H Q E h => ?_) (fun cdv A outer s H vs Q E hr h => ?_)
  · obtain ⟨z, rfl, _⟩ := h
    rfl
  · obtain ⟨z, rfl, hz, q⟩ := h
    refine ⟨_, (pss_one (ps_ret (pe_and (pe_chain op_le op_le pe_int (pe_callB cz_len (by rfl) T.len (by decide +kernel) (pa_cons (pv 0) pa_nil)) (pe_gc rfl T.MOST_PATH)) (pe_and (pe_cmpR op_eq (pe_ix ix_str (pv 0) pe_int (fun _ _ => rfl)) pe_str (nomark _)) (pe_one (pe_f c_consists_of hr (by decide) rfl (pa_cons (pv 0) (pa_cons (pe_gc rfl T.PATH_SIGNS) pa_nil)))))))), ?_⟩
    refine s_ret (v := .bl (pathB z)) (ev_andV (ev_chain ev_c (ev_lenStr (ev_var rfl) hz) ev_c) fun h1 => ?_) q
    obtain ⟨c, e1, e2⟩ := item0 (z := z) (by have := (pl h1).1; omega)
    have e3 : decide ((⟨#[c]⟩ : Str) = ("/" : Str)) = decide (hd z = some 47) := by
      rw [e1, show ("/" : Str) = ⟨#[47]⟩ by decide +kernel]
      by_cases h : c = 47
      · rw [h]; rfl
      · rw [decide_eq_false fun e => h ((one_eq _ _).mp e), decide_eq_false fun e => h (Option.some.inj e)]
    refine ev_andV (a := decide (hd z = some 47)) (ev_is (ev_op (ev_ixS (ev_var rfl) ev_c hz e2) ev_c rv_eqS) (congrArg V.bl e3)) fun h2 => ev_call (ea_cons (ev_var rfl) (ea_cons ev_c ea_nil)) (sv2 hz)
theorem ok_is_word (T : Mg mg) (c_consists_of : Call P w K mg base 1 "consists_of" ["text", "signs"] (sp2 fun z s => .bl (allIn z s))) (F : FnP K "is_word" s_is_word f fd) (gm : mg "is_word" = some (.ref f)) :
    Call P w K mg base 2 "is_word" ["text", "most"] (fun vs H Q _ => ∃ (z : Str) (m : Int), vs = [.str z, .int m] ∧ z.length ≤ 100000 ∧ RetV (.bl (wordB z m)) H Q) := by
  refine mk F gm (fun _ _ _ _ _ _ us hl => match us, hl with | [_, _], _ => rfl) (fun _ _ _ _ _ _ us hl => match us, hl with | [_, _], _ => rfl) sc_is_word (fun vs H Q E h => ?_) (fun cdv A outer s H vs Q E hr h => ?_)
  · obtain ⟨z, m, rfl, _⟩ := h
    rfl
  · obtain ⟨z, m, rfl, hz, q⟩ := h
    refine ⟨_, (pss_one (ps_ret (pe_and (pe_chain op_le op_le pe_int (pe_callB cz_len (by rfl) T.len (by decide +kernel) (pa_cons (pv 0) pa_nil)) (pv 1)) (pe_and (pe_cmpR op_inS (pe_ix ix_str (pv 0) pe_int (fun _ _ => rfl)) (pe_gc rfl T.LOWER) rfl) (pe_one (pe_f c_consists_of hr (by decide) rfl (pa_cons (pv 0) (pa_cons (pe_gc rfl T.WORD_SIGNS) pa_nil)))))))), ?_⟩
    refine s_ret (v := .bl (wordB z m)) (ev_andV (ev_chain ev_c (ev_lenStr (ev_var rfl) hz) (ev_var rfl)) fun h1 => ?_) q
    obtain ⟨c, e1, e2⟩ := item0 (z := z) (by have := (pl h1).1; omega)
    refine ev_andV (ev_is (ev_op (ev_ixS (ev_var rfl) ev_c hz e2) ev_c rv_in) ?_) fun h2 => ev_call (ea_cons (ev_var rfl) (ea_cons ev_c ea_nil)) (sv2 hz)
    unfold hdIn
    rw [e1]
theorem ok_is_field_name (T : Mg mg) (c_is_word : Call P w K mg base 2 "is_word" ["text", "most"] (fun vs H Q _ => ∃ (z : Str) (m : Int), vs = [.str z, .int m] ∧ z.length ≤ 100000 ∧ RetV (.bl (wordB z m)) H Q)) (F : FnP K "is_field_name" s_is_field_name f fd) (gm : mg "is_field_name" = some (.ref f)) :
    Call P w K mg base 3 "is_field_name" ["text"] (sp1 fun z => .bl (nameB z)) := by
  refine mk F gm (fun _ _ _ _ _ _ us hl => match us, hl with | [_], _ => rfl) (fun _ _ _ _ _ _ us hl => match us, hl with | [_], _ => rfl) sc_is_field_name (fun vs H Q E h => ?_) (fun cdv A outer s H vs Q E hr h => ?_)
  · obtain ⟨z, rfl, _⟩ := h
    rfl
  · obtain ⟨z, rfl, hz, q⟩ := h
    refine ⟨_, (pss_one (ps_ret (pe_and (pe_f c_is_word hr (by decide) rfl (pa_cons (pv 0) (pa_cons (pe_gc rfl T.MOST_NAME) pa_nil))) (pe_one (pe_cmpR op_ne (pv 0) pe_str (nomark _)))))), ?_⟩
    exact s_ret (v := .bl (nameB z)) (ev_andV (ev_call (ea_cons (ev_var rfl) (ea_cons ev_c ea_nil)) fun H1 e Q q E => ⟨z, 30, rfl, hz, q⟩) fun h1 => ev_op (ev_var rfl) ev_c rv_neS) q
theorem ok_is_value (T : Mg mg) (c_is_plain : Call P w K mg base 1 "is_plain" ["text"] (sp1 fun z => .bl (allIn z signs))) (F : FnP K "is_value" s_is_value f fd) (gm : mg "is_value" = some (.ref f)) :
    Call P w K mg base 2 "is_value" ["text"] (sp1 fun z => .bl (valueB z)) := by
  refine mk F gm (fun _ _ _ _ _ _ us hl => match us, hl with | [_], _ => rfl) (fun _ _ _ _ _ _ us hl => match us, hl with | [_], _ => rfl) sc_is_value (fun vs H Q E h => ?_) (fun cdv A outer s H vs Q E hr h => ?_)
  · obtain ⟨z, rfl, _⟩ := h
    rfl
  · obtain ⟨z, rfl, hz, q⟩ := h
    refine ⟨_, (pss_one (ps_ret (pe_and (pe_cmpR op_le (pe_callB cz_len (by rfl) T.len (by decide +kernel) (pa_cons (pv 0) pa_nil)) (pe_gc rfl T.MOST_VALUE) (nomark _)) (pe_and (pe_f c_is_plain hr (by decide) rfl (pa_cons (pv 0) pa_nil)) (pe_one (pe_cmpR op_eq (pe_bm PySem.F.plainAttrs_str PySem.F.slot_str_strip PySem.F.type_str_strip mz_strip (pv 0) (pa_cons pe_str pa_nil)) (pv 0) (nomark _))))))), ?_⟩
    exact s_ret (v := .bl (valueB z)) (ev_andV (ev_op (ev_lenStr (ev_var rfl) hz) ev_c rv_I0) fun h1 => ev_andV (ev_call (ea_cons (ev_var rfl) ea_nil) (sv1 hz)) fun h2 => ev_op (ev_strip (ev_var rfl) ev_c hz) (ev_var rfl) rv_eqS) q
theorem ok_list_elements (T : Mg mg) (F : FnP K "list_elements" s_list_elements f fd) (gm : mg "list_elements" = some (.ref f)) : Call P w K mg base 1 "list_elements" ["text"] (sp1L fun z => (elems z).map V.str) := by
  refine mk F gm (fun _ _ _ _ _ _ us hl => match us, hl with | [_], _ => rfl) (fun _ _ _ _ _ _ us hl => match us, hl with | [_], _ => rfl) sc_list_elements (fun vs H Q E h => ?_) (fun cdv A outer s H vs Q E hr h => ?_)
  · obtain ⟨z, rfl, _⟩ := h
    rfl
  · obtain ⟨z, rfl, hz, q⟩ := h
    refine ⟨_, (pss_cons (ps_setLc (i := 1) (own := [("part", 2)]) (g := gName 2) (tt := tYes) rfl sc_list_elements.nd rfl rfl (sw_true rfl rfl rfl (by decide +kernel)) (pi_list (pe_bm PySem.F.plainAttrs_str PySem.F.slot_str_split PySem.F.type_str_split mz_split (pv 0) (pa_cons pe_str pa_nil))) (blkOk_by (N := ["text", "parts", "part"]) (sc := L2.defScope s_list_elements) (by decide +kernel)) (fun _ _ _ _ _ => pg_name (i := 2) sc_list_elements.nd rfl (Or.inl rfl)) (fun _ _ _ _ _ => pts_nil) (fun _ _ _ _ _ => (inK (K := K) (t := fun K => tBM K "str" rStrip _ _) rfl (pe_bm PySem.F.plainAttrs_str PySem.F.slot_str_strip PySem.F.type_str_strip mz_strip (pv 2) (pa_cons pe_str pa_nil)))))
    (pss_one (ps_ret (pe_lc (own := [("part", 2)]) (g := gName 2) rfl sc_list_elements.nd (pi_list (pv 1)) (blkOk_by (N := ["text", "parts", "part"]) (sc := L2.defScope s_list_elements) (by decide +kernel)) (fun _ _ _ _ _ => pg_name (i := 2) sc_list_elements.nd rfl (Or.inl rfl)) (fun _ _ _ _ _ => pts_one (pt_cmpR op_ne (pv 2) pe_str (nomark _))) (fun _ _ _ _ _ => (pv 2)))))), ?_⟩
    have hsl := split_len z
    refine q_asgL (xs := (stripped z).map V.str) ?_ fun p H1 np e1 h1 => ?_
    · have e : given ((Txt.split z ",").map V.str).length (fun _ => true) (fun i => .str (Txt.stripChars ((Txt.split z ",").getD i "") " ")) = (stripped z).map V.str := by
        rw [List.length_map]
        have := given_all (Txt.split z ",") ("" : Str) (fun _ => true) (fun p => .str (Txt.stripChars p " "))
        rw [this]
        unfold stripped
        rw [List.map_map]
        have : (Txt.split z ",").filter (fun _ => true) = Txt.split z "," := List.filter_eq_self.mpr fun _ _ => rfl
        rw [this]
        rfl
      rw [← e]
      refine el_lcNL (fun _ => true) (fun i => .str (Txt.stripChars ((Txt.split z ",").getD i "") " ")) (el_split (ev_var rfl) ev_c (by decide +kernel) (by omega)) (by rw [List.length_map]; omega) (fun _ => rfl) (fun i x H1 e hx => et_yes) (fun i x H1 e hx _ => ?_)
      obtain ⟨hi, ex, hm⟩ := at_str hx ("" : Str)
      subst ex
      exact ev_strip (ev_var rfl) ev_c (by have := split_each hm; omega)
    · have e : given ((stripped z).map V.str).length (fun i => !decide ((stripped z).getD i "" = ("" : Str))) (fun i => .str ((stripped z).getD i "")) = (elems z).map V.str := by
        rw [List.length_map]
        exact given_all (stripped z) ("" : Str) (fun p => !decide (p = ("" : Str))) V.str
      have hlen : (stripped z).length ≤ 20000 := by
        unfold stripped
        rw [List.length_map]
        omega
      refine s_retL (xs := (elems z).map V.str) ?_ fun p2 H2 np2 e2 h2 => q p2 H2 (fresh_back e1 np2) (e1.trans e2) h2
      rw [← e]
      refine el_lcL (fun i => !decide ((stripped z).getD i "" = ("" : Str))) (fun i => .str ((stripped z).getD i "")) (ev_var rfl) (sq_of h1) (by rw [List.length_map]; omega) (fun _ => rfl) (fun i x H1 e hx => ?_) (fun i x H1 e hx _ => ?_)
      · obtain ⟨hi, ex, hm⟩ := at_str hx ("" : Str)
        subst ex
        exact et_test (ev_op (ev_var rfl) ev_c rv_neS)
      · obtain ⟨hi, ex, hm⟩ := at_str hx ("" : Str)
        subst ex
        exact ev_var rfl
theorem ok_read_number (T : Mg mg) (c_consists_of : cons_ P w K mg base) (F : FnP K "read_number" s_read_number f fd) (gm : mg "read_number" = some (.ref f)) : Call P w K mg base 2 "read_number" ["text"] (sp1 numV) := by
  refine mk F gm (fun _ _ _ _ _ _ us hl => match us, hl with | [_], _ => rfl) (fun _ _ _ _ _ _ us hl => match us, hl with | [_], _ => rfl) sc_read_number (fun vs H Q E h => ?_) (fun cdv A outer s H vs Q E hr h => ?_)
  · obtain ⟨z, rfl, _⟩ := h
    rfl
  · obtain ⟨z, rfl, hz, q⟩ := h
    refine ⟨_, (pss_cons (ps_if (PW.pt (pw_or (pt_not (pt_chain op_le op_le pe_int (pe_callB cz_len (by rfl) T.len (by decide +kernel) (pa_cons (pv 0) pa_nil)) (pe_gc rfl T.MOST_DIGITS))) (pw_or1 (pt_not (pt_val (pe_f c_consists_of hr (by decide) rfl (pa_cons (pv 0) (pa_cons (pe_gc rfl T.DIGITS) pa_nil))))))))
      (pss_one (ps_ret pe_non))
      pss_nil)
    (pss_cons (ps_if (PW.pt (pw_and (pt_cmpR op_eq (pe_ix ix_str (pv 0) pe_int (fun _ _ => rfl)) pe_str (nomark _)) (pw_and1 (pt_cmpR op_ne (pv 0) pe_str (nomark _)))))
      (pss_one (ps_ret pe_non))
      pss_nil)
    (pss_one (ps_ret (pe_callTy cz_int (by rfl) T.int (by decide +kernel) (pa_cons (pv 0) pa_nil)))))), ?_⟩
    refine q_when (et_or (et_not (et_test (ev_chain ev_c (ev_lenStr (ev_var rfl) hz) ev_c))) fun _ => et_not (et_B (ev_call (ea_cons (ev_var rfl) (ea_cons ev_c ea_nil)) (sv2 hz)))) (fun hb H1 e1 => ?_) (fun hb H1 e1 => ?_)
    · refine s_ret ev_c fun H2 e2 => ?_
      have : numV z = .non := by
        unfold numV digB
        rw [if_neg]
        intro h
        rw [Bool.and_eq_true, Bool.and_eq_true] at h
        rw [show (decide ((1 : Int) ≤ z.length) && decide ((z.length : Int) ≤ 6)) = true by rw [Bool.and_eq_true]; exact h.1, (Bool.and_eq_true_iff.mp h.2).1] at hb
        cases hb
      have g := q H2 (e1.trans e2)
      rw [this] at g
      exact g
    · rw [Bool.or_eq_false_iff, Bool.not_eq_false', Bool.not_eq_false'] at hb
      obtain ⟨hc, ha⟩ := hb
      have hl := pl hc
      obtain ⟨c, g1, g2⟩ := item0 (z := z) (by omega)
      have e3 : decide ((⟨#[c]⟩ : Str) = ("0" : Str)) = decide (hd z = some 48) := by
        rw [g1, show ("0" : Str) = ⟨#[48]⟩ by decide +kernel]
        by_cases h : c = 48
        · rw [h]; rfl
        · rw [decide_eq_false fun e => h ((one_eq _ _).mp e), decide_eq_false fun e => h (Option.some.inj e)]
      refine q_when (b := decide (hd z = some 48) && !decide (z = ("0" : Str))) (et_and (et_is (et_test (ev_op (ev_ixS (ev_var rfl) ev_c hz g2) ev_c rv_eqS)) e3) fun _ => et_test (ev_op (ev_var rfl) ev_c rv_neS)) (fun hb H2 e2 => ?_) (fun hb H2 e2 => ?_)
      · rw [Bool.and_eq_true, decide_eq_true_eq, Bool.not_eq_true', decide_eq_false_iff_not] at hb
        refine s_ret ev_c fun H3 e3 => ?_
        have : numV z = .non := by
          unfold numV digB
          rw [if_neg]
          intro h
          have h := (Bool.and_eq_true_iff.mp (Bool.and_eq_true_iff.mp h).2).2
          rw [Bool.or_eq_true, decide_eq_true_eq, Bool.not_eq_true', decide_eq_false_iff_not] at h
          rcases h with h | h
          · exact hb.2 (zero_text (by omega) hb.1)
          · exact h hb.1
        have g := q H3 ((e1.trans e2).trans e3)
        rw [this] at g
        exact g
      · have hd1 : digB z = true := by
          unfold digB
          rw [hc, ha, Bool.true_and, Bool.true_and, Bool.or_eq_true, decide_eq_true_eq, Bool.not_eq_true', decide_eq_false_iff_not]
          rw [Bool.and_eq_false_iff, decide_eq_false_iff_not, Bool.not_eq_false', decide_eq_true_eq] at hb
          rcases hb with hb | hb
          · exact .inr hb
          · have := zero_len hb
            exact .inl (by omega)
        refine s_ret (v := numV z) (ev_is (ev_intStr (ev_var rfl) (int_digits ha (by omega) (by omega)) (by omega)) ?_) fun H3 e3 => q H3 ((e1.trans e2).trans e3)
        unfold numV
        rw [if_pos hd1]
theorem ok_read_reading (T : Mg mg) (c_read_number : C1 P w K mg base 2 "read_number" numV) (F : FnP K "read_reading" s_read_reading f fd) (gm : mg "read_reading" = some (.ref f)) : C1 P w K mg base 3 "read_reading" readV := by
  refine mk F gm (fun _ _ _ _ _ _ us hl => match us, hl with | [_], _ => rfl) (fun _ _ _ _ _ _ us hl => match us, hl with | [_], _ => rfl) sc_read_reading (fun vs H Q E h => ?_) (fun cdv A outer s H vs Q E hr h => ?_)
  · obtain ⟨z, rfl, _⟩ := h
    rfl
  · obtain ⟨z, rfl, hz, q⟩ := h
    refine ⟨_, (pss_cons (ps_if (pt_not (pt_val (pe_bm PySem.F.plainAttrs_str PySem.F.slot_str_startswith PySem.F.type_str_startswith mz_starts (pv 0) (pa_cons pe_str pa_nil))))
      (pss_one (ps_ret (pe_f c_read_number hr (by decide) rfl (pa_cons (pv 0) pa_nil))))
      pss_nil)
    (pss_cons (ps_set (i := 1) sc_read_reading.nd rfl (Or.inl rfl) (pe_f c_read_number hr (by decide) rfl (pa_cons (pe_slice sl_str (pv 0) (po_some pe_int) po_none) pa_nil)))
    (pss_cons (ps_if (PW.pt (pw_or (pt_cmpR op_isN1 (pv 1) pe_non (nomark _)) (pw_or1 (pt_cmpR op_eq (pv 1) pe_int (nomark _)))))
      (pss_one (ps_ret pe_non))
      pss_nil)
    (pss_one (ps_ret (pe_un un_neg (pv 1))))))), ?_⟩
    refine q_when (et_is (et_not (et_B (ev_starts (ev_var rfl) ev_c))) (congrArg (!·) (starts_minus z))) (fun hb H1 e1 => ?_) (fun hb H1 e1 => ?_)
    · rw [Bool.not_eq_true', decide_eq_false_iff_not] at hb
      refine s_ret (v := readV z) (ev_is (ev_call (ea_cons (ev_var rfl) ea_nil) (sv1 hz)) ?_) fun H2 e2 => q H2 (e1.trans e2)
      unfold readV
      rw [if_neg hb]
    · rw [Bool.not_eq_false', decide_eq_true_eq] at hb
      have hrl := rest_len z
      refine q_asg (v := numV (rest z)) (ev_call (ea_cons (ev_slS (ev_var rfl) (eo_some ev_c) eo_none hz) ea_nil) (sv1 (z := rest z) (by omega))) fun H2 e2 => ?_
      rcases numV_form (rest z) with ⟨g1, g2⟩ | ⟨g1, g2⟩
      · rw [g2]
        by_cases hv : NumText.digitsVal (tl (rest z)) = 0
        · refine q_when (b := true) (et_is (et_or (et_test (ev_op (ev_var rfl) ev_c rv_isN)) fun _ => et_test (ev_op (ev_var rfl) ev_c rv_eqI)) ?_) (fun _ H3 e3 => ?_) (fun h => nomatch h)
          · rw [hv]; rfl
          · refine s_ret (v := readV z) (ev_is ev_c ?_) fun H4 e4 => q H4 (((e1.trans e2).trans e3).trans e4)
            unfold readV
            rw [if_pos hb, if_neg]
            intro h
            have := val_pos h.1 h.2
            omega
        · refine q_when (b := false) (et_is (et_or (et_test (ev_op (ev_var rfl) ev_c rv_isN)) fun _ => et_test (ev_op (ev_var rfl) ev_c rv_eqI)) ?_) (fun h => nomatch h) (fun _ H3 e3 => ?_)
          · rw [decide_eq_false (show ¬ ((NumText.digitsVal (tl (rest z)) : Nat) : Int) = 0 by omega)]
            rfl
          · refine s_ret (v := readV z) (ev_is (ev_un (ev_var rfl) ru_neg) ?_) fun H4 e4 => q H4 (((e1.trans e2).trans e3).trans e4)
            unfold readV
            rw [if_pos hb, if_pos]
            exact ⟨g1, fun e => hv (by rw [e]; exact val_zero)⟩
      · rw [g2]
        refine q_when (b := true) (et_is (et_or (a := true) (et_is (et_test (ev_op (ev_var rfl) ev_c rv_isN)) rfl) fun h => nomatch h) (Bool.true_or false)) (fun _ H3 e3 => ?_) (fun h => nomatch h)
        refine s_ret (v := readV z) (ev_is ev_c ?_) fun H4 e4 => q H4 (((e1.trans e2).trans e3).trans e4)
        unfold readV
        rw [if_pos hb, if_neg]
        intro h
        rw [g1] at h
        exact nomatch h.1
theorem ok_is_mark_text (T : Mg mg) (c_consists_of : Call P w K mg base 1 "consists_of" ["text", "signs"] (sp2 fun z s => .bl (allIn z s))) (F : FnP K "is_mark_text" s_is_mark_text f fd) (gm : mg "is_mark_text" = some (.ref f)) : Call P w K mg base 2 "is_mark_text" ["text"] (sp1 fun z => .bl (markB z)) := by
  refine mk F gm (fun _ _ _ _ _ _ us hl => match us, hl with | [_], _ => rfl) (fun _ _ _ _ _ _ us hl => match us, hl with | [_], _ => rfl) sc_is_mark_text (fun vs H Q E h => ?_) (fun cdv A outer s H vs Q E hr h => ?_)
  · obtain ⟨z, rfl, _⟩ := h
    rfl
  · obtain ⟨z, rfl, hz, q⟩ := h
    refine ⟨_, (pss_one (ps_ret (pe_and (pe_chain op_le op_le pe_int (pe_callB cz_len (by rfl) T.len (by decide +kernel) (pa_cons (pv 0) pa_nil)) (pe_gc rfl T.MOST_MARK)) (pe_one (pe_f c_consists_of hr (by decide) rfl (pa_cons (pv 0) (pa_cons (pe_gc rfl T.MARK_SIGNS) pa_nil))))))), ?_⟩
    exact s_ret (v := .bl (markB z)) (ev_andV (ev_chain ev_c (ev_lenStr (ev_var rfl) hz) ev_c) fun h1 => ev_call (ea_cons (ev_var rfl) (ea_cons ev_c ea_nil)) (sv2 hz)) q
theorem ok_law_bag1 (T : Mg mg) (F : FnP K "_law_bag" s_law_bag f fd) (gm : mg "_law_bag" = some (.ref f)) : Call P w K mg base 1 "_law_bag" ["script"] (spBagS K) := by
  refine mk F gm (fun _ _ _ _ _ _ us hl => match us, hl with | [_], _ => rfl) (fun _ _ _ _ _ _ us hl => match us, hl with | [_], _ => rfl) sc_law_bag (fun vs H Q E h => ?_) (fun cdv A outer s H vs Q E hr h => ?_)
  · obtain ⟨a, ns, rfl, _⟩ := h
    rfl
  · obtain ⟨a, ns, rfl, hS, hl, hbits, q⟩ := h
    refine ⟨_, (pss_one (ps_ret (pe_lst (pa_cons (pe_callTy call_list_of (by rfl) T.list (by decide +kernel) (pa_cons (pe_slice sl_list (pv 0) po_none (po_some pe_int)) pa_nil)) (pa_cons pe_int (pa_cons pe_int (pa_cons pe_int pa_nil))))))), ?_⟩
    have hl' : (ns.map V.int).length ≤ 63 := by rw [List.length_map]; exact hl
    refine s_retLL (xs := ns.map V.int) (vs := [.int 0, .int 0, .int 0]) (el_listN (by
        have g := el_sl (K := K) (te := tVar 0) (tl := tNoPart) (th := tPart (tC (.int 63))) (σ := [some (.ref a)]) (H := H) (lo := none) (hi := some 63) (ev_var rfl) eo_none (eo_some ev_c) hS
        rw [cutV_all hl'] at g
        exact g)) (fun H1 e1 => ea_cons ev_c (ea_cons ev_c (ea_cons ev_c ea_nil))) (by show 4 ≤ 1000; decide) fun p l0 H3 np e3 h3 hne hp => q p l0 _ np e3 ?_
    exact ⟨ns, 0, 0, 0, hp, h3, hne, hl, hbits, by decide, by decide, by decide⟩
theorem ok_law_take (T : Mg mg) (F : FnP K "_law_take" s_law_take f fd) (gm : mg "_law_take" = some (.ref f)) : CTake P w K mg base := by
  refine mk F gm (fun _ _ _ _ _ _ us hl => match us, hl with | [_, _], _ => rfl) (fun _ _ _ _ _ _ us hl => match us, hl with | [_, _], _ => rfl) sc_law_take (fun vs H Q E h => ?_) (fun cdv A outer s H vs Q E hr h => ?_)
  · obtain ⟨p, l0, lim, rfl, _⟩ := h
    rfl
  · obtain ⟨p, l0, lim, rfl, ⟨cs, c1, c2, c3, hp, hl0, hne, hlen, hcs, h1, h3, h4⟩, hs1', hs2, q⟩ := h
    refine ⟨_, (pss_cons (ps_if (pt_cmpR op_eq (pe_ix ix_list (pv 0) pe_int (fun _ _ => rfl)) pe_int (nomark _))
      (pss_cons (ps_set (i := 2) sc_law_take.nd rfl (Or.inl rfl) pe_int)
      (pss_cons (ps_if (pt_cmpR op_lt (pe_ix ix_list (pv 0) pe_int (fun _ _ => rfl)) (pe_callB call_len_seq (by rfl) T.len (by decide +kernel) (pa_cons (pe_ix ix_list (pv 0) pe_int (fun _ _ => rfl)) pa_nil)) (nomark _))
        (pss_cons (ps_set (i := 2) sc_law_take.nd rfl (Or.inl rfl) (pe_ix ix_list (pe_ix ix_list (pv 0) pe_int (fun _ _ => rfl)) (pe_ix ix_list (pv 0) pe_int (fun _ _ => rfl)) (fun _ _ => rfl)))
        (pss_one (ps_asg (pe_op op_add (pe_ix ix_list (pv 0) pe_int (fun _ _ => rfl)) pe_int) (pg_sub (pv 0) pe_int set_list))))
        pss_nil)
      (pss_cons (ps_asg (pe_op op_mod (pe_callTy cz_int1 (by rfl) T.int (by decide +kernel) (pa_cons (pe_op op_mulX (pe_op op_add (pe_ix ix_list (pv 0) pe_int (fun _ _ => rfl)) (pv 2)) pe_int) pa_nil)) pe_int) (pg_sub (pv 0) pe_int set_list))
      (pss_cons (ps_if (pt_cmpR op_lt (pv 2) (pe_op op_pow pe_int pe_int) (nomark _))
        (pss_one (ps_ret (pe_op op_mod (pe_op op_mod (pe_callTy cz_int1 (by rfl) T.int (by decide +kernel) (pa_cons (pe_op op_mul (pe_ix ix_list (pv 0) pe_int (fun _ _ => rfl)) pe_int) pa_nil)) pe_int) (pv 1))))
        pss_nil)
      (pss_one (ps_asg (pv 2) (pg_sub (pv 0) pe_int set_list)))))))
      pss_nil)
    (pss_cons (ps_set (i := 3) sc_law_take.nd rfl (Or.inl rfl) (pe_op op_mod (pe_callTy cz_int1 (by rfl) T.int (by decide +kernel) (pa_cons (pe_ix ix_list (pv 0) pe_int (fun _ _ => rfl)) pa_nil)) (pv 1)))
    (pss_cons (ps_asg (pe_op op_fdivW (pe_callTy cz_int1 (by rfl) T.int (by decide +kernel) (pa_cons (pe_ix ix_list (pv 0) pe_int (fun _ _ => rfl)) pa_nil)) (pv 1)) (pg_sub (pv 0) pe_int set_list))
    (pss_one (ps_ret (pv 3)))))), ?_⟩
    refine q_tailIf (fun σ1 Hx => ∃ d1 d2 d3 : Int, ∃ v2, σ1 = [some (.ref p), some (.int lim), v2, none] ∧ Hx p = some (.lst [.ref l0, .int d1, .int d2, .int d3]) ∧ Hx l0 = some (.lst (cs.map V.int)) ∧ 0 ≤ d1 ∧ 0 ≤ d3 ∧ d3 < 2147483647 ∧ Keep p H Hx) (fun σ1 Hx hR => ?_) (fun tail => ?_)
    · obtain ⟨d1, d2, d3, v2, rfl, hx, hlx, hd1, hd3, hd4, kx⟩ := hR
      refine q_asg (ev_op (ev_int1 (ev_op (ev_var rfl) ev_c (rv_ixL (sq_of hx) (atI_nat (j := 2) rfl)))) (ev_var rfl) (rv_I (by show 0 < lim; omega))) fun H5 e5 => ?_
      refine q_setL (j := 2) (e5 _ _ hx) (ev_op (ev_int1 (ev_op (ev_var rfl) ev_c (rv_ixL (sq_of (e5 _ _ hx)) (atI_nat (j := 2) rfl)))) (ev_var rfl) (rv_I (wide_div (b := 64) (by omega) (by omega) (by decide) (by decide)))) (ev_var rfl) ev_c (by show 2 < 4; decide) fun H6 e6 => ?_
      refine s_ret (ev_var rfl) fun H7 e7 => q _ H7 (Int.emod_nonneg _ (by omega)) (Int.emod_lt_of_pos _ (by omega)) ⟨cs, d1, _, d3, e7 _ _ upd_same, e7 _ _ ?_, hne, hlen, hcs, hd1, hd3, hd4⟩ ?_
      · rw [upd_ne hne]
        exact (e5.trans e6) _ _ hlx
      · exact ((kx.trans (Keep.of (e5.trans e6))).upd).trans (Keep.of e7)
    · refine q_if (b := decide (c2 = 0)) (et_test (ev_op (ev_op (ev_var rfl) ev_c (rv_ixL (sq_of hp) (atI_nat (j := 2) rfl))) ev_c rv_eqI)) (fun _ H1 e1 => ?_) (fun _ H1 e1 => tail _ _ ⟨c1, c2, c3, none, rfl, e1 _ _ hp, e1 _ _ hl0, h1, h3, h4, Keep.of e1⟩)
      refine q_asg ev_c fun H2 e2 => ?_
      have hp2 := (e1.trans e2) _ _ hp
      have hl2 := (e1.trans e2) _ _ hl0
      have k2 : Keep p H H2 := Keep.of (e1.trans e2)
      refine q_tailIf (fun σ1 Hx => ∃ cell d1 : Int, σ1 = [some (.ref p), some (.int lim), some (.int cell), none] ∧ Hx p = some (.lst [.ref l0, .int d1, .int c2, .int c3]) ∧ Hx l0 = some (.lst (cs.map V.int)) ∧ 0 ≤ d1 ∧ cell.natAbs < 2 ^ cap ∧ Keep p H Hx) (fun σ1 Hx hR => ?_) (fun tail2 => ?_)
      · obtain ⟨cell, d1, rfl, hx, hlx, hd1, hcell, kx⟩ := hR
        have hbig : (c3 + cell).natAbs < 2 ^ (cap + 1) := by
          have h31 : (2147483647 : Nat) ≤ 2 ^ cap := Nat.le_trans (show 2147483647 ≤ 2 ^ 31 by decide) (Nat.pow_le_pow_right (by decide) (by unfold cap; decide))
          rw [Nat.pow_succ]
          generalize 2 ^ cap = C at hcell h31
          omega
        refine q_setL (j := 3) hx (ev_op (ev_int1 (ev_op (ev_op (ev_op (ev_var rfl) ev_c (rv_ixL (sq_of hx) (atI_nat (j := 3) rfl))) (ev_var rfl) rv_I0) ev_c (rv_I (mulx_ok (a := cap + 1) (b := 64) hbig (by decide) (by unfold cap; decide))))) ev_c (rv_I (by show (0 : Int) < 2147483647; decide))) (ev_var rfl) ev_c (by show 3 < 4; decide) fun H5 e5 => ?_
        have hm : 0 ≤ (c3 + cell) * 48271 % 2147483647 ∧ (c3 + cell) * 48271 % 2147483647 < 2147483647 := ⟨Int.emod_nonneg _ (by decide), Int.emod_lt_of_pos _ (by decide)⟩
        generalize (c3 + cell) * 48271 % 2147483647 = m at hm ⊢
        have hp6 : (upd H5 p (.lst ([V.ref l0, .int d1, .int c2, .int c3].set 3 (.int m)))) p = some (.lst [.ref l0, .int d1, .int c2, .int m]) := upd_same
        have k6 : Keep p H (upd H5 p (.lst ([V.ref l0, .int d1, .int c2, .int c3].set 3 (.int m)))) := (kx.trans (Keep.of e5)).upd
        have hl6 : (upd H5 p (.lst ([V.ref l0, .int d1, .int c2, .int c3].set 3 (.int m)))) l0 = some (.lst (cs.map V.int)) := by
          rw [upd_ne hne]
          exact e5 _ _ hlx
        generalize upd H5 p (.lst ([V.ref l0, .int d1, .int c2, .int c3].set 3 (.int m))) = H6 at hp6 k6 hl6 ⊢
        refine q_when (b := decide (cell < 10 ^ 18)) (et_is (et_test (ev_op (ev_var rfl) (ev_op ev_c ev_c (rv_I ⟨by decide, by decide, by decide⟩)) rv_I0)) rfl) (fun _ H7 e7 => ?_) (fun _ H7 e7 => ?_)
        · refine s_ret (ev_op (ev_op (ev_int1 (ev_op (ev_op (ev_var rfl) ev_c (rv_ixL (sq_of (e7 _ _ hp6)) (atI_nat (j := 3) rfl))) ev_c (rv_I (.inr ⟨by decide, by decide⟩)))) ev_c (rv_I (by show (0 : Int) < 2147483399; decide))) (ev_var rfl) (rv_I (by show 0 < lim; omega))) fun H8 e8 => q _ H8 (Int.emod_nonneg _ (by omega)) (Int.emod_lt_of_pos _ (by omega)) ⟨cs, d1, c2, m, (e7.trans e8) _ _ hp6, (e7.trans e8) _ _ hl6, hne, hlen, hcs, hd1, hm.1, hm.2⟩ (k6.trans (Keep.of (e7.trans e8)))
        · refine s_setL (j := 2) (e7 _ _ hp6) (ev_var rfl) (ev_var rfl) ev_c (by show 2 < 4; decide) fun H8 e8 => ?_
          refine tail _ _ ⟨d1, cell, m, some (.int cell), rfl, upd_same, ?_, hd1, hm.1, hm.2, (k6.trans (Keep.of (e7.trans e8))).upd⟩
          rw [upd_ne hne]
          exact (e7.trans e8) _ _ hl6
      · have hlenE : ∀ Hx, Ex H2 Hx → Ev (tCB (rLenS K) (tCons (tOp (rIxL K) (tVar 0) (tC (.int 0))) tNil)) [some (.ref p), some (.int lim), some (.int 0), none] Hx (.int ((cs.map V.int).length : Int)) := fun Hx ex => ev_len (ev_op (ev_var rfl) ev_c (rv_ixL (sq_of (ex _ _ hp2)) (atI_nat (j := 0) rfl))) (sq_of (ex _ _ hl2))
        refine q_if (b := decide (c1 < (cs.length : Int))) (et_is (et_test (ev_op (ev_op (ev_var rfl) ev_c (rv_ixL (sq_of hp2) (atI_nat (j := 1) rfl))) (hlenE H2 (Ex.refl H2)) rv_I0)) (by rw [List.length_map])) (fun hb H3 e3 => ?_) (fun _ H3 e3 => tail2 _ _ ⟨0, c1, rfl, e3 _ _ hp2, e3 _ _ hl2, h1, by unfold cap; exact Nat.pow_pos (by decide), k2.trans (Keep.of e3)⟩)
        have hb := of_decide_eq_true hb
        obtain ⟨cell, hce, hcm⟩ := at_int (xs := cs) h1 hb
        obtain ⟨j, rfl⟩ := Int.eq_ofNat_of_zero_le h1
        have hcell : atI (cs.map V.int) (j : Int) = some (.int cell) := by
          have hj : j < cs.length := by omega
          have e0 : cs[j]? = some cell := by
            have := atI_nat (List.getElem?_eq_getElem hj)
            rw [this] at hce
            rw [List.getElem?_eq_getElem hj]
            exact hce
          exact atI_nat (by rw [List.getElem?_map, e0]; rfl)
        have hp3 := e3 _ _ hp2
        have hl3 := e3 _ _ hl2
        refine q_asg (ev_op (ev_op (ev_var rfl) ev_c (rv_ixL (sq_of hp3) (atI_nat (j := 0) rfl))) (ev_op (ev_var rfl) ev_c (rv_ixL (sq_of hp3) (atI_nat (j := 1) rfl))) (rv_ixL (sq_of hl3) hcell)) fun H4 e4 => ?_
        refine s_setL (j := 1) (e4 _ _ hp3) (ev_op (ev_op (ev_var rfl) ev_c (rv_ixL (sq_of (e4 _ _ hp3)) (atI_nat (j := 1) rfl))) ev_c rv_I0) (ev_var rfl) ev_c (by show 1 < 4; decide) fun H5 e5 => ?_
        refine tail2 _ _ ⟨cell, (j : Int) + 1, rfl, upd_same, ?_, by omega, hcs cell hcm, (k2.trans (Keep.of (e3.trans (e4.trans e5)))).upd⟩
        rw [upd_ne hne]
        exact (e4.trans e5) _ _ hl3
theorem ok_law_letter (T : Mg mg) (F : FnP K "_law_letter" s_law_letter f fd) (gm : mg "_law_letter" = some (.ref f)) : Call P w K mg base 1 "_law_letter" ["number"] spLetter := by
  refine mk F gm (fun _ _ _ _ _ _ us hl => match us, hl with | [_], _ => rfl) (fun _ _ _ _ _ _ us hl => match us, hl with | [_], _ => rfl) sc_law_letter (fun vs H Q E h => ?_) (fun cdv A outer s H vs Q E hr h => ?_)
  · obtain ⟨i, rfl, _⟩ := h
    rfl
  · obtain ⟨i, rfl, q⟩ := h
    refine ⟨_, (pss_one (ps_ret (pe_ix ix_str pe_str (pe_op op_mod (pe_callTy cz_int1 (by rfl) T.int (by decide +kernel) (pa_cons (pv 0) pa_nil)) pe_int) (fun _ _ => rfl)))), ?_⟩
    exact s_ret (ev_ixS ev_c (ev_op (ev_int1 (ev_var rfl)) ev_c (rv_I (by show (0 : Int) < 38; decide))) (by decide +kernel) (letC_ok i).1) q
theorem ok_law_truth1 (T : Mg mg) (F : FnP K "_law_truth" s_law_truth f fd) (gm : mg "_law_truth" = some (.ref f)) : Call P w K mg base 1 "_law_truth" ["actual", "due"] spTruth := by
  refine mk F gm (fun _ _ _ _ _ _ us hl => match us, hl with | [_, _], _ => rfl) (fun _ _ _ _ _ _ us hl => match us, hl with | [_, _], _ => rfl) sc_law_truth (fun vs H Q E h => ?_) (fun cdv A outer s H vs Q E hr h => ?_)
  · obtain ⟨a, b, rfl, _⟩ := h
    rfl
  · obtain ⟨a, b, rfl, q⟩ := h
    refine ⟨_, (pss_one (ps_ret (pe_and (pe_callB call_isi (by rfl) T.isinstance (by decide +kernel) (pa_cons (pv 0) (pa_cons (pe_bltn (v := .ty "bool") (u := .type "bool") (by rfl) T.bool (by decide +kernel) rfl) pa_nil))) (pe_one (pe_cmpR op_eq (pv 0) (pv 1) (nomark _)))))), ?_⟩
    exact s_ret (v := .bl (decide (a = b))) (ev_is (ev_andV (ev_isi (b := true) (ev_var rfl) (fun H1 _ => .base (.bl a)) (kit_ty (by decide +kernel))) fun _ => ev_op (ev_var rfl) (ev_var rfl) rv_eqB) (by rw [Bool.true_and])) q
end
end Z
set_option maxHeartbeats 4000000
namespace Z
open PySem PySem.Spec PyProof.Rows L2 TL Evl
def spPair : Sp := fun vs H Q _ => ∃ z : Str, vs = [.str z] ∧ z.length ≤ 100000 ∧ (readZ z = none → RetV .non H Q) ∧ ∀ t b, readZ z = some (t, b) → ∀ p H', H p = none → Ex H H' → H' p = some (.tup [.str t, .bl b]) → Q (.ref p) H'
def spTxt8 : Sp := fun vs H Q _ => ∃ (p l0 : Addr), vs = [.ref p] ∧ DwAt H p l0 ∧ ∀ (z : Str) (H' : Hp), markB z = true → DwAt H' p l0 → Keep p H H' → Q (.str z) H'
def spNear : Sp := fun vs H Q _ => ∃ (p l0 : Addr) (t : Str), vs = [.ref p, .str t] ∧ markB t = true ∧ DwAt H p l0 ∧ ∀ (z : Str) (H' : Hp), markB z = true → DwAt H' p l0 → Keep p H H' → Q (.str z) H'
def spAsked : Sp := fun vs H Q _ => ∃ (p l0 : Addr) (t : Str), vs = [.ref p, .str t] ∧ markB t = true ∧ DwAt H p l0 ∧ ∀ (z : Str) (H' : Hp), z.length ≤ 10000 → DwAt H' p l0 → Keep p H H' → Q (.str z) H'
section
variable {σ : L2.St} {H : Hp} {ta : TA} {te : TE} {p l0 : Addr} {lim : Int} {Q : VK} {E : XK} {D : Ends} {tz : TS} {i : Nat} {sp : Sp}
theorem rd_take (h : EvA ta σ H [.ref p, .int lim]) (b : DwAt H p l0) (h1 : 1 ≤ lim) (h2 : lim ≤ 1000000) (k : ∀ (d : Int) (H' : Hp), 0 ≤ d → d < lim → DwAt H' p l0 → Keep p H H' → Q (.int d) H') : tCall spTake [] E ta σ H Q :=
  rd_call h fun H1 e1 => ⟨p, l0, lim, rfl, b.ex e1, h1, h2, fun d H' d0 d1 b2 k2 => k d H' d0 d1 b2 ((Keep.of e1).trans k2)⟩
theorem q_take (h : EvA ta σ H [.ref p, .int lim]) (b : DwAt H p l0) (h1 : 1 ≤ lim) (h2 : lim ≤ 1000000) (k : ∀ (d : Int) (H' : Hp), 0 ≤ d → d < lim → DwAt H' p l0 → Keep p H H' → tz D (σ.set i (some (.int d))) H') : tSeq (tAsg (tCall spTake [] E ta) (gName i)) tz D σ H :=
  rd_take h b h1 h2 k
theorem rd_arg1 (h : te σ H fun x H1 => sp [x] H1 Q E) : tCall sp [] E (tCons te tNil) σ H Q := h
end
section
variable {P : Program} {w : World} {K : PySem.W.Frag} {mg : Str → Option Value} {base : Heap} {f : Addr} {fd : FuncData} {k : Nat}
end
theorem cutM1_len {z : Str} (h : 1 ≤ z.length) : (cutS z none (some (-1))).length = z.length - 1 := by
  rw [← len_tl']
  show (((tl z).drop (HT.sIx z.length 0 none)).take (HT.sIx z.length z.length (some (-1)) - HT.sIx z.length 0 none)).length = _
  rw [sxm, HT.sIx_none, List.drop_zero, List.length_take, len_tl']
  omega
theorem cut1_len (z : Str) : (cutS z (some 1) none).length = z.length - 1 := by
  rw [← len_tl', cutFrom1_tl, List.length_drop, len_tl']
theorem rev_mark {z : Str} (h : markB z = true) : markB (ZX.revT z) = true := by
  have h2 := markB_iff.mp h
  have e : tl (ZX.revT z) = (tl z).reverse := rfl
  refine markB_iff.mpr ⟨?_, allIn_sub h2.2 fun c hc => ?_⟩
  · rw [← len_tl', e, List.length_reverse, len_tl']
    exact h2.1
  · rw [e] at hc
    exact List.mem_reverse.mp hc
section
variable {σ : L2.St} {H : Hp} {te ta tb : TE} {n : Nat} {z : Str} {b : Bool} {E : XK} {i : Int} {K : PySem.W.Frag}
theorem ev_rev (h : Ev te σ H (.str z)) (hz : z.length ≤ 100000) : Ev (ZX.tRevS te) σ H (.str (ZX.revT z)) := fun H1 e Q q => h H1 e _ fun H2 e2 => ⟨z, rfl, sz_of hz, q H2 e2⟩
theorem es_wr (h : EvS te σ H n) (hb : Ev tb σ H (.bl b)) (hn : n ≤ 100000) : EvS (tCall spWritten [] E (tCons te (tCons tb tNil))) σ H (n + 3) := by
  obtain ⟨x, hx, ex⟩ := h
  exact ⟨wrZ x b, Nat.le_trans (wrZ_len x b) (by omega), ev_call (ea_cons ex (ea_cons hb ea_nil)) (svW (by omega))⟩
theorem es_rep (h : EvS te σ H n) (hb : Ev tb σ H (.int 41)) (hn : n ≤ 1000) : EvS (tOp rRepStr te tb) σ H (41 * n) := by
  obtain ⟨x, hx, ex⟩ := h
  refine ⟨repS x 41, by rw [repS_len]; exact Nat.mul_le_mul_left 41 hx, ev_op ex hb fun H1 _ Q q => ⟨x, 41, rfl, rfl, by decide, by decide, by omega, q H1 (Ex.refl H1)⟩⟩
theorem es_up (h : EvS te σ H n) (hn : n ≤ 100000) : EvS (tBM0 K "str" rUpper te) σ H (3 * n) := by
  obtain ⟨x, hx, ex⟩ := h
  exact ⟨Txt.upper x, Nat.le_trans (len_upper x) (by omega), fun H1 e Q q => ex H1 e _ fun H2 e2 => ⟨rfl, x, rfl, rfl, by omega, q H2 e2⟩⟩
end
theorem q_arg1 {σ : L2.St} {H : Hp} {te : TE} {sp : Sp} {E : XK} {D : Ends} {tz : TS} {i : Nat} (h : te σ H fun x H1 => sp [x] H1 (fun v H2 => tz D (σ.set i (some v)) H2) E) : tSeq (tAsg (tCall sp [] E (tCons te tNil)) (gName i)) tz D σ H := h
section
variable {σ : L2.St} {H : Hp} {ta tl : TA} {te : TE} {p l0 : Addr} {lim c wy : Int} {Q : VK} {E : XK} {D : Ends} {tz : TS} {i j n m : Nat} {sp : Sp} {K : PySem.W.Frag}
theorem q_takeB (h : EvA ta σ H [.ref p, .int lim]) (b : DwAt H p l0) (h1 : 1 ≤ lim) (h2 : lim ≤ 1000000) (k : ∀ (bb : Bool) (H' : Hp), DwAt H' p l0 → Keep p H H' → tz D (σ.set i (some (.bl bb))) H') : tSeq (tAsg (tOp rEq (tCall spTake [] E ta) (tC (.int c))) (gName i)) tz D σ H :=
  rd_take h b h1 h2 fun d H' _ _ b2 k2 => ⟨rfl, k _ H' b2 k2⟩
theorem q_pickT (hl : EvAS tl σ H n m) (hm : m ≤ 1000) (h : EvA ta σ H [.ref p, .int (m : Int)]) (b : DwAt H p l0) (h1 : 1 ≤ m) (k : ∀ (x : Str) (H' : Hp), x.length ≤ n → DwAt H' p l0 → Keep p H H' → tz D (σ.set i (some (.str x))) H') :
    tSeq (tAsg (tOp (rIxL K) (tLst tl) (tCall spTake [] E ta)) (gName i)) tz D σ H := by
  obtain ⟨ts, hk, hts, hev⟩ := hl
  have g : tLst tl σ H (fun x H1 => tCall spTake [] E ta σ H1 fun y H2 => rIxL K x y H2 fun v H3 => tz D (σ.set i (some v)) H3) := ?_
  · exact g
  refine (el_lst hev (by rw [List.length_map, hk]; omega)) H (Ex.refl H) _ fun l H1 nl e1 hl1 => ?_
  refine rd_take (h.mono e1) (b.ex e1) (by omega) (by omega) fun d H2 d0 d1 b2 k2 => ?_
  obtain ⟨t, ht, htm⟩ := at_int (xs := ts.map V.str) (d := d) d0 (by rw [List.length_map, hk]; exact d1)
  obtain ⟨x, hx, e⟩ := List.mem_map.mp htm
  subst e
  exact ⟨l, _, d, _, rfl, rfl, sq_of (k2 _ _ (b.ne nl).1 hl1), ht, k x H2 (hts x hx) b2 ((Keep.of e1).trans k2)⟩
theorem way (hw : σ[2]? = some (some (.int wy))) (fin : ∀ x : Str, x.length ≤ 10000 → ∀ H', Ex H H' → D.rt (.str x) H') (h : ∀ Hx, EvS te σ Hx n) (hn : n ≤ 10000) (r : ∀ H1, Ex H H1 → tz D σ H1) : tSeq (tIfS (tTest (tOp rEq (tVar 2) (tC (.int c)))) (tRet te) tNext) tz D σ H :=
  q_when (et_test (ev_op (ev_var hw) ev_c rv_eqI)) (fun _ H1 e1 => s_retS (h H1) fun x hx H2 e2 => fin x (Nat.le_trans hx hn) H2 (e1.trans e2)) fun _ H1 e1 => r H1 e1
end
end Z
set_option maxHeartbeats 4000000
namespace Z
open PySem PySem.Spec PyProof.Rows L2 TL Evl NdefX
/-! ### f-strings -/
def EvJ (σ : L2.St) (H : Hp) : List TE → List Str → Prop
  | [], [] => True
  | t :: ts, z :: zs => Ev t σ H (.str z) ∧ EvJ σ H ts zs
  | _, _ => False
theorem ej_nil {σ : L2.St} {H : Hp} : EvJ σ H [] [] := trivial
theorem ej_cons {σ : L2.St} {H : Hp} {t : TE} {ts : List TE} {z : Str} {zs : List Str} (h : Ev t σ H (.str z)) (r : EvJ σ H ts zs) : EvJ σ H (t :: ts) (z :: zs) := ⟨h, r⟩
theorem tjs_run {σ : L2.St} {H : Hp} : ∀ (ts : List TE) (zs : List Str) (acc : Str) (H1 : Hp) (Q : Str → Hp → Prop), EvJ σ H ts zs → Ex H H1 → acc.length + (zs.map (·.length)).sum ≤ 200000 → (∀ H2, Ex H1 H2 → Q (zs.foldl (· ++ ·) acc) H2) → tJs ts acc σ H1 Q
  | [], [], acc, H1, Q, _, _, _, q => q H1 (Ex.refl H1)
  | [], z :: zs, acc, H1, Q, h, _, _, q => h.elim
  | t :: ts, [], acc, H1, Q, h, _, _, q => h.elim
  | t :: ts, z :: zs, acc, H1, Q, h, e, hz, q => by
    rw [List.map_cons, List.sum_cons] at hz
    refine h.1 H1 e _ fun H2 e2 => ⟨z, rfl, Nat.le_trans (show (acc ++ z).length ≤ 200000 by rw [Str.length_append]; omega) (by decide), ?_⟩
    exact tjs_run ts zs (acc ++ z) H2 Q h.2 (e.trans e2) (by rw [Str.length_append]; omega) fun H3 e3 => q H3 (e2.trans e3)
theorem ev_joined {σ : L2.St} {H : Hp} {ts : List TE} {zs : List Str} {x : Str} (h : EvJ σ H ts zs) (hz : (zs.map (·.length)).sum ≤ 200000) (hx : zs.foldl (· ++ ·) Str.empty = x) : Ev (fun σ H Q => tJs ts Str.empty σ H fun out H1 => Q (.str out) H1) σ H (.str x) := fun H1 e Q q => by
  refine tjs_run ts zs Str.empty H1 (fun out H1 => Q (.str out) H1) h e ?_ ?_
  · show 0 + _ ≤ _
    rw [Nat.zero_add]
    exact hz
  · rw [hx]
    exact q
theorem rd_joined {σ : L2.St} {H : Hp} {ts : List TE} {Q : Str → Hp → Prop} (zs : List Str) (h : EvJ σ H ts zs) (hz : (zs.map (·.length)).sum ≤ 200000) (k : ∀ H1, Ex H H1 → Q (zs.foldl (· ++ ·) Str.empty) H1) : tJs ts Str.empty σ H Q :=
  tjs_run ts zs Str.empty H Q h (Ex.refl H) (by
    show 0 + _ ≤ _
    rw [Nat.zero_add]
    exact hz) k
theorem ev_fmt {σ : L2.St} {H : Hp} {te : TE} {z : Str} (h : Ev te σ H (.str z)) (hz : z.length ≤ 100000) : Ev (tFmt te) σ H (.str z) := fun H1 e Q q => h H1 e _ fun H2 e2 => .inl ⟨z, rfl, sz_of hz, q H2 e2⟩
/-! ### an own error that keeps one text -/
def spErr1 (D : Addr) (fld : Str) : Sp := fun vs H Q _ => ∃ (a : Addr) (t : Str), vs = [.ref a, .str t] ∧ t.length ≤ 100000 ∧ H a = some (exo a D none) ∧
  ∀ H1, Ex H H1 → ∀ d, H1 d = none → d ≠ a → Q .non (upd (upd H1 d (exd d [(fld, .str t)])) a (exo a D (some d)))
theorem mk_err1 {D : Addr} {fld t : Str} {ta : TA} {σ : L2.St} {H : Hp} {Q : XK} (h : EvA ta σ H [.str t]) (hl : t.length ≤ 100000)
    (k : ∀ d H', H d = none → Ex H H' → H' d = some (.xd [(fld, .str t)]) → Q (.ref D) (some d) H') : tMkO D (spErr1 D fld) [] ta σ H Q :=
  h H (Ex.refl H) _ fun H1 e1 => ⟨by show 1 ≤ 1000; decide, fun a ha => ⟨a, t, rfl, hl, upd_same, fun H2 e2 d hd hne => by
    have hd1 : H1 d = none := by
      have := fresh_back e2 hd
      rw [upd_ne hne] at this
      exact this
    refine ⟨rfl, d, [(fld, .str t)], upd_same, by rw [upd_ne hne]; exact upd_same, hd1, k d _ (fresh_back e1 hd1) (fun b o hb => ?_) upd_same⟩
    have hb1 := e1 b o hb
    have nd : b ≠ d := ne_of_none hb1 hd1
    have na : b ≠ a := ne_of_none hb1 ha
    rw [upd_ne nd, del_ne na, upd_ne na, upd_ne nd]
    exact e2 b o (by rw [upd_ne na]; exact hb1)⟩⟩
section
variable {P : Program} {w : World} {K : PySem.W.Frag} {mg : Str → Option Value} {base : Heap} {f cc cda D : Addr} {fd : FuncData} {k : Nat} {CX : CXT}
theorem ok_iv (T : ZX.Sup P K D f cc cda fd d_iv.name d_iv.qual d_iv.params d_iv.body d_iv.scope) (hno : PySem.W.findIn K (.ref D) "name" = some none) : FnOk P w K mg base CX 1 f fd ["self", "name"] (spErr1 D "name") := by
  refine ZX.fn_sup1 (k := 0) (N := ["self", "name", "__class__"]) T (nscope_by (by decide +kernel)) (by rfl) (by rfl) (by rfl) (by rfl) (fun _ => by rfl) (fun _ h => by unfold interactive; rw [h] <;> rfl) (fun _ h => by rfl) (fun _ => by rfl) (fun vs H Q E h => ?_) (fun A outer s H vs Q E hr h => ?_)
  · obtain ⟨a, t, rfl, _⟩ := h
    rfl
  · obtain ⟨a, t, rfl, hl, ha, q⟩ := h
    refine ⟨a, [.str t], _, _, rfl, ha, pe_joined (.cons pe_str (.cons (pe_fmt (pv 1)) (.cons pe_str .nil))), pss_one (ps_ost (pv 0) (pv 1)), ?_⟩
    refine rd_joined ["the value of ", t, " is not allowed"] (ej_cons ev_c (ej_cons (ev_fmt (ev_var rfl) hl) (ej_cons ev_c ej_nil))) ?_ fun H1 e1 => ⟨by show 1 ≤ 1000; decide, e1 _ _ ha, .str t, rfl, .ref a, rfl, a, D, rfl, T.oex, hno, .inl ⟨e1 _ _ ha, fun d hd hne => q H1 e1 d hd hne⟩⟩
    have c1 : ("the value of " : Str).length ≤ 100 := by decide +kernel
    have c2 : (" is not allowed" : Str).length ≤ 100 := by decide +kernel
    simp only [List.map_cons, List.map_nil, List.sum_cons, List.sum_nil]
    omega
theorem ok_im (T : ZX.Sup P K D f cc cda fd d_im.name d_im.qual d_im.params d_im.body d_im.scope) (hno : PySem.W.findIn K (.ref D) "text" = some none) : FnOk P w K mg base CX 1 f fd ["self", "text"] (spErr1 D "text") := by
  refine ZX.fn_sup1 (k := 0) (N := ["self", "text", "__class__"]) T (nscope_by (by decide +kernel)) (by rfl) (by rfl) (by rfl) (by rfl) (fun _ => by rfl) (fun _ h => by unfold interactive; rw [h] <;> rfl) (fun _ h => by rfl) (fun _ => by rfl) (fun vs H Q E h => ?_) (fun A outer s H vs Q E hr h => ?_)
  · obtain ⟨a, t, rfl, _⟩ := h
    rfl
  · obtain ⟨a, t, rfl, hl, ha, q⟩ := h
    refine ⟨a, [.str t], _, _, rfl, ha, pe_joined (.cons pe_str (.cons (pe_fmt (pv 1)) .nil)), pss_one (ps_ost (pv 0) (pv 1)), ?_⟩
    refine rd_joined ["no mark: ", t] (ej_cons ev_c (ej_cons (ev_fmt (ev_var rfl) hl) ej_nil)) ?_ fun H1 e1 => ⟨by show 1 ≤ 1000; decide, e1 _ _ ha, .str t, rfl, .ref a, rfl, a, D, rfl, T.oex, hno, .inl ⟨e1 _ _ ha, fun d hd hne => q H1 e1 d hd hne⟩⟩
    have c1 : ("no mark: " : Str).length ≤ 100 := by decide +kernel
    simp only [List.map_cons, List.map_nil, List.sum_cons, List.sum_nil]
    omega
end
end Z
set_option maxHeartbeats 4000000
namespace Z
open PySem PySem.Spec PyProof.Rows L2 TL Evl NdefX
/-! ### what is known of the classes -/
structure Wd (P : Program) (w : World) (K : PySem.W.Frag) (mg : Str → Option Value) (C DV DM DH : Addr) : Prop where
  mC : mg "Mark" = some (.ref C)
  mV : mg "InvalidValue" = some (.ref DV)
  mM : mg "InvalidMark" = some (.ref DM)
  mH : mg "HopError" = some (.ref DH)
  cls : Cls K C
  ins : ZX.InsC K C
  nT : NoAttr K C "text"
  nW : NoAttr K C "weak"
  xV : ExcC K DV
  xM : ExcC K DM
  fV : XfC K DV
  fM : XfC K DM
  nV : PySem.W.findIn K (.ref DV) "name" = some none
  nM : PySem.W.findIn K (.ref DM) "text" = some none
  iCC : PySem.W.kitOne K (.ref C) (.ref C) = some true
  iMH : PySem.W.kitOne K (.ref DM) (.ref DH) = some true
  iME : PySem.W.kitOne K (.ref DM) (.type "ValueError") = some true
  iMV : PySem.W.kitOne K (.ref DM) (.ref DV) = some false
  iMM : PySem.W.kitOne K (.ref DM) (.ref DM) = some true
  iVH : PySem.W.kitOne K (.ref DV) (.ref DH) = some true
  iVE : PySem.W.kitOne K (.ref DV) (.type "ValueError") = some true
  iVM : PySem.W.kitOne K (.ref DV) (.ref DM) = some false
  eMM : PySem.W.exmOne K (.ref DM) (.ref DM) = some true
  eMH : PySem.W.exmOne K (.ref DM) (.ref DH) = some true
  eVV : PySem.W.exmOne K (.ref DV) (.ref DV) = some true
def mkFs (z : Str) (b : Bool) : List (Str × V) := [("text", .str z), ("weak", .bl b)]
theorem mkFs_put (z : Str) (b : Bool) : putF "weak" (.bl b) (putF "text" (.str z) []) = mkFs z b := by
  show putF "weak" (.bl b) [("text", .str z)] = _
  unfold putF
  rw [if_neg (by decide)]
  rfl
theorem lk_text (z : Str) (b : Bool) : (mkFs z b).lookup ("text" : Str) = some (.str z) := by rfl
theorem lk_weak (z : Str) (b : Bool) : (mkFs z b).lookup ("weak" : Str) = some (.bl b) := by rfl
/-- a mark -/
def MkAt (C : Addr) (H : Hp) (v : V) (o : Str × Bool) : Prop := ∃ a dx, v = .ref a ∧ H a = some (.ins C dx (mkFs o.1 o.2))
theorem MkAt.ex {C : Addr} {H H' : Hp} {v : V} {o : Str × Bool} (h : MkAt C H v o) (e : Ex H H') : MkAt C H' v o := by
  obtain ⟨a, dx, rfl, ha⟩ := h
  exact ⟨a, dx, rfl, e _ _ ha⟩
section
variable {K : PySem.W.Frag} {C a dx : Addr} {σ : L2.St} {H : Hp} {te : TE} {z : Str} {b : Bool}
theorem ev_text (c : Cls K C) (n : NoAttr K C "text") (h : Ev te σ H (.ref a)) (ha : H a = some (.ins C dx (mkFs z b))) : Ev (tFld K te "text") σ H (.str z) := fun H1 e Q q =>
  h H1 e _ fun H2 e2 => ⟨a, C, dx, _, _, rfl, e2 _ _ (e _ _ ha), c, n, lk_text z b, q H2 e2⟩
theorem ev_weak (c : Cls K C) (n : NoAttr K C "weak") (h : Ev te σ H (.ref a)) (ha : H a = some (.ins C dx (mkFs z b))) : Ev (tFld K te "weak") σ H (.bl b) := fun H1 e Q q =>
  h H1 e _ fun H2 e2 => ⟨a, C, dx, _, _, rfl, e2 _ _ (e _ _ ha), c, n, lk_weak z b, q H2 e2⟩
end
/-! ### the methods -/
theorem sc_mi : FnScope ["self", "text", "weak"] ["self", "text", "weak"] (L2.defScope s_mi) := ⟨rfl, rfl, rfl, by decide +kernel, rfl, by decide +kernel, by decide +kernel⟩
theorem sc_mr : FnScope ["text", "mark"] ["text"] (L2.defScope s_mr) := ⟨rfl, rfl, rfl, by decide +kernel, rfl, by decide +kernel, by decide +kernel⟩
theorem sc_ms : FnScope ["self", "other"] ["self", "other"] (L2.defScope s_ms) := ⟨rfl, rfl, rfl, by decide +kernel, rfl, by decide +kernel, by decide +kernel⟩
theorem sc_mw : FnScope ["self", "other"] ["self", "other"] (L2.defScope s_mw) := ⟨rfl, rfl, rfl, by decide +kernel, rfl, by decide +kernel, by decide +kernel⟩
theorem sc_me : FnScope ["self", "other"] ["self", "other"] (L2.defScope s_me) := ⟨rfl, rfl, rfl, by decide +kernel, rfl, by decide +kernel, by decide +kernel⟩
theorem sc_mt : FnScope ["self"] ["self"] (L2.defScope s_mt) := ⟨rfl, rfl, rfl, by decide +kernel, rfl, by decide +kernel, by decide +kernel⟩
abbrev FdP (K : PySem.W.Frag) (x q : Str) (st : Stmt) (dvs : List V) (f : Addr) (fd : FuncData) : Prop := FunD K x q (L2.defArgs st) (L2.defBody st) (L2.defScope st) dvs [] f fd
def spTwo (C : Addr) (g : Str × Bool → Str × Bool → Bool) : Sp := fun vs H Q _ => ∃ v u o1 o2, vs = [v, u] ∧ MkAt C H v o1 ∧ MkAt C H u o2 ∧ RetV (.bl (g o1 o2)) H Q
def stB (o1 o2 : Str × Bool) : Bool := !o1.2 && (!o2.2 && decide (o1.1 = o2.1))
def wkB (o1 o2 : Str × Bool) : Bool := decide (o1.1 = o2.1)
def eqB (o1 o2 : Str × Bool) : Bool := decide (o1.1 = o2.1) && decide (o1.2 = o2.2)
def spStr (C : Addr) : Sp := fun vs H Q _ => ∃ v o, vs = [v] ∧ MkAt C H v o ∧ o.1.length ≤ 90000 ∧ RetV (.str (wrZ o.1 o.2)) H Q
section
variable {P : Program} {w : World} {K : PySem.W.Frag} {mg : Str → Option Value} {base : Heap} {f C DV DM DH : Addr} {fd : FuncData} {k : Nat} {CX : CXT}
theorem ok_ms (W : Wd P w K mg C DV DM DH) (F : FdP K "strongly" "Mark.strongly" s_ms [] f fd) : FnOk P w K mg base CX 1 f fd ["self", "other"] (spTwo C stB) := by
  refine FunD.ok F sc_ms (fun vs H Q E h => ?_) (fun cdv A outer s H vs Q E hr h => ?_)
  · obtain ⟨v, u, o1, o2, rfl, _⟩ := h
    rfl
  · obtain ⟨v, u, o1, o2, rfl, ⟨a, dx, rfl, ha⟩, ⟨b, dy, rfl, hb⟩, q⟩ := h
    refine ⟨_, pss_one (ps_ret (pe_and (pe_not (pe_fld (pv 0) rfl)) (pe_and (pe_not (pe_fld (pv 1) rfl)) (pe_one (pe_cmpR op_eq (pe_fld (pv 0) rfl) (pe_fld (pv 1) rfl) (nomark _)))))), ?_⟩
    exact s_ret (v := .bl (stB o1 o2)) (ev_andV (ev_notV (ev_weak W.cls W.nW (ev_var rfl) ha)) fun _ => ev_andV (ev_notV (ev_weak W.cls W.nW (ev_var rfl) hb)) fun _ => ev_op (ev_text W.cls W.nT (ev_var rfl) ha) (ev_text W.cls W.nT (ev_var rfl) hb) rv_eqS) q
theorem ok_mw (W : Wd P w K mg C DV DM DH) (F : FdP K "weakly" "Mark.weakly" s_mw [] f fd) : FnOk P w K mg base CX 1 f fd ["self", "other"] (spTwo C wkB) := by
  refine FunD.ok F sc_mw (fun vs H Q E h => ?_) (fun cdv A outer s H vs Q E hr h => ?_)
  · obtain ⟨v, u, o1, o2, rfl, _⟩ := h
    rfl
  · obtain ⟨v, u, o1, o2, rfl, ⟨a, dx, rfl, ha⟩, ⟨b, dy, rfl, hb⟩, q⟩ := h
    refine ⟨_, pss_one (ps_ret (pe_cmpR op_eq (pe_fld (pv 0) rfl) (pe_fld (pv 1) rfl) (nomark _))), ?_⟩
    exact s_ret (v := .bl (wkB o1 o2)) (ev_op (ev_text W.cls W.nT (ev_var rfl) ha) (ev_text W.cls W.nT (ev_var rfl) hb) rv_eqS) q
theorem ev_isiC {σ : L2.St} {H : Hp} {ta tc : TE} {a dx : Addr} {fs : List (Str × V)} (W : Wd P w K mg C DV DM DH) (h : Ev ta σ H (.ref a)) (hc : Ev tc σ H (.ref C)) (ha : H a = some (.ins C dx fs)) : Ev (tCB (rIsi K) (tCons ta (tCons tc tNil))) σ H (.bl true) := fun H1 e Q q =>
  h H1 e _ fun H2 e2 => hc H2 (e.trans e2) _ fun H3 e3 => ⟨.ref a, .ref C, .ref C, .ref C, true, rfl, .own C, .base (.ins ((e.trans e2).trans e3 |> fun z => z _ _ ha) W.cls W.ins.ha W.ins.hn W.ins.htk W.ins.hm), W.iCC, q H3 (e2.trans e3)⟩
theorem ok_me (T : Mg mg) (W : Wd P w K mg C DV DM DH) (F : FdP K "__eq__" "Mark.__eq__" s_me [] f fd) : FnOk P w K mg base CX 1 f fd ["self", "other"] (spTwo C eqB) := by
  refine FunD.ok F sc_me (fun vs H Q E h => ?_) (fun cdv A outer s H vs Q E hr h => ?_)
  · obtain ⟨v, u, o1, o2, rfl, _⟩ := h
    rfl
  · obtain ⟨v, u, o1, o2, rfl, ⟨a, dx, rfl, ha⟩, ⟨b, dy, rfl, hb⟩, q⟩ := h
    refine ⟨_, pss_one (ps_ret (pe_and (pe_callB call_isi (by rfl) T.isinstance (by decide +kernel) (pa_cons (pv 1) (pa_cons (pe_gc (v := .ref C) rfl ⟨_, W.mC, rfl⟩) pa_nil))) (pe_and (pe_cmpR op_eq (pe_fld (pv 0) rfl) (pe_fld (pv 1) rfl) (nomark _)) (pe_one (pe_cmpR op_eq (pe_fld (pv 0) rfl) (pe_fld (pv 1) rfl) (nomark _)))))), ?_⟩
    exact s_ret (v := .bl (eqB o1 o2)) (ev_is (ev_andV (ev_isiC W (ev_var rfl) ev_c hb) fun _ => ev_andV (ev_op (ev_text W.cls W.nT (ev_var rfl) ha) (ev_text W.cls W.nT (ev_var rfl) hb) rv_eqS) fun _ => ev_op (ev_weak W.cls W.nW (ev_var rfl) ha) (ev_weak W.cls W.nW (ev_var rfl) hb) rv_eqB) (by rw [Bool.true_and]; rfl)) q
theorem ok_mt (W : Wd P w K mg C DV DM DH) (F : FdP K "__str__" "Mark.__str__" s_mt [] f fd) : FnOk P w K mg base CX 1 f fd ["self"] (spStr C) := by
  refine FunD.ok F sc_mt (fun vs H Q E h => ?_) (fun cdv A outer s H vs Q E hr h => ?_)
  · obtain ⟨v, o, rfl, _⟩ := h
    rfl
  · obtain ⟨v, o, rfl, ⟨a, dx, rfl, ha⟩, hl, q⟩ := h
    refine ⟨_, pss_cons (ps_if (pt_truth (pe_fld (pv 0) rfl) (by intro _; rfl)) (pss_one (ps_ret (pe_joined (.cons pe_str (.cons (pe_fmt (pe_fld (pv 0) rfl)) (.cons pe_str .nil)))))) pss_nil) (pss_one (ps_ret (pe_joined (.cons pe_str (.cons (pe_fmt (pe_fld (pv 0) rfl)) (.cons pe_str .nil)))))), ?_⟩
    have c1 : ("w\"" : Str).length ≤ 100 := by decide +kernel
    have c2 : ("\"" : Str).length ≤ 100 := by decide +kernel
    refine q_when (b := o.2) (et_truB (ev_weak W.cls W.nW (ev_var rfl) ha)) (fun hb H1 e1 => ?_) (fun hb H1 e1 => ?_)
    · refine rd_joined ["w\"", o.1, "\""] (ej_cons ev_c (ej_cons (ev_fmt (ev_text W.cls W.nT (ev_var rfl) (e1 _ _ ha)) (by omega)) (ej_cons ev_c ej_nil))) ?_ fun H2 e2 => ?_
      · simp only [List.map_cons, List.map_nil, List.sum_cons, List.sum_nil]
        omega
      · have g := q H2 (e1.trans e2)
        have e : wrZ o.1 o.2 = ((Str.empty ++ ("w\"" : Str)) ++ o.1) ++ ("\"" : Str) := by
          rw [hb]
          exact congrArg (fun x : Str => (x ++ o.1) ++ ("\"" : Str)) (show cond true ("w" : Str) "" ++ ("\"" : Str) = Str.empty ++ ("w\"" : Str) by decide +kernel)
        rw [e] at g
        exact g
    · refine rd_joined ["\"", o.1, "\""] (ej_cons ev_c (ej_cons (ev_fmt (ev_text W.cls W.nT (ev_var rfl) (e1 _ _ ha)) (by omega)) (ej_cons ev_c ej_nil))) ?_ fun H2 e2 => ?_
      · simp only [List.map_cons, List.map_nil, List.sum_cons, List.sum_nil]
        omega
      · have g := q H2 (e1.trans e2)
        have e : wrZ o.1 o.2 = ((Str.empty ++ ("\"" : Str)) ++ o.1) ++ ("\"" : Str) := by
          rw [hb]
          exact congrArg (fun x : Str => (x ++ o.1) ++ ("\"" : Str)) (show cond false ("w" : Str) "" ++ ("\"" : Str) = Str.empty ++ ("\"" : Str) by decide +kernel)
        rw [e] at g
        exact g
end
end Z
set_option maxHeartbeats 4000000
namespace Z
open PySem PySem.Spec PyProof.Rows L2 TL Evl NdefX
/-! ### an own error raised -/
theorem err_binds {P : Program} {K : PySem.W.Frag} {x : Str} {fd : FuncData} {d : ZX.DefA} {ps : List Str} (E : ZX.Err P K x fd d) (hat : d.at_ = .met x "__init__") (e : ZX.fnC K (d.at_.ad K) = d.val) (c : d.ok K = true) (hdf : d.dfl = [])
    (h : ∀ (cc : Addr) (kV doc pm : Value) (an : Option Addr) (cdv ct : Value) (us : List Value), us.length = ps.length → bindArgs (PySem.W.fnX d.name d.qual d.params d.body d.scope [("__class__", cc)] .none kV doc pm an cdv ct) ⟨us, []⟩ = pure (ps.zip us)) : Binds K fd ps [] := by
  obtain ⟨kp, oc, od, osl, fd', q, k1, k2, _⟩ := d.parts e c
  obtain ⟨oc2, od2, osl2, dV, kV, doc, pm, ct, an, e2, q2⟩ := E.sup.fn
  have ead : d.at_.ad K = He.ma K (He.ga K x) "__init__" := by rw [hat] <;> rfl
  rw [ead] at q
  rw [q] at q2
  have e3 : fd' = fd := by
    have := Option.some.inj q2
    injection this with _ _ h3 _
    injection h3
  subst e3
  have hd : fd'.defaults = .none := by
    rcases k2 with ⟨_, h2⟩ | ⟨h2, _⟩
    · exact h2
    · exact absurd (show d.dvs K = [] by unfold ZX.DefA.dvs; rw [hdf]; rfl) h2
  rw [e2] at hd
  have hd : dV = .none := hd
  subst hd
  rw [e2]
  exact .all (h _ kV doc pm an _ ct)
structure Ef (P : Program) (w : World) (K : PySem.W.Frag) (mg : Str → Option Value) (base : Heap) (D : Addr) (ps : List Str) (fld : Str) : Prop where
  ex : ∃ fI fd, OexC K D ∧ PySem.W.findIn K (.ref D) "__init__" = some (some (.ref fI)) ∧ PySem.W.typeIn K (.ref fI) = some (.type "function") ∧ FnOk P w K mg base CX0 1 fI fd ps (spErr1 D fld) ∧ Binds K fd ps []
theorem ps_raiseE {X : Cx} {W : WX} {D : Addr} {ps : List Str} {fld x : Str} {e : Expr} {ta : TA} {p pos pos' : Pos} (F : Ef X.prog X.w X.K X.mg X.base D ps fld) (hc : X.calm = true) (tk : L2N.Takes X W) (hr : Room 2 X.A) (hg : Gl X x) (hm : X.mg x = some (.ref D)) (ha : PA X [e] ta)
    (hdb : (x == ("__debug__" : Str)) = false := by decide) (he : starEach [e] X.env = (false, eval e X.env) :: starEach [] X.env := by rfl) (hpl : (backTo pos (starEach [] X.env)).any (·.1) = false := by rfl) :
    PS X (.Raise (some (.Call (.Name x p) [e] [] pos)) none pos') (fun _ σ H => tMkO D (spErr1 D fld) [] ta σ H fun cls d H' => W cls d σ H') := by
  obtain ⟨fI, fd, T, h1, h2, h3, h4⟩ := F.ex
  exact L2N.ps_raise hc tk (ZX.pmk_oexN T h1 h2 h3 hr h4 pass0 hg hm ha hdb he hpl)
/-! ### Mark(text, weak) -/
def spMi (C DV : Addr) : Sp := fun vs H Q E => ∃ (a dx : Addr) (z : Str) (b : Bool), vs = [.ref a, .str z, .bl b] ∧ z.length ≤ 90000 ∧ H a = some (.ins C dx []) ∧
  (markB z = true → ∀ H', Keep a H H' → H' a = some (.ins C dx (mkFs z b)) → Q .non H') ∧
  (markB z = false → ∀ d H', H d = none → Ex H H' → H' d = some (.xd [("name", .str "text")]) → E (.ref DV) (some d) H')
section
variable {C DV : Addr} {z : Str} {b : Bool} {vs dvs : List V} {H : Hp} {Q : VK} {E : XK}
theorem mi_ok (hv : vs ++ dvs = [.str z, .bl b]) (hz : z.length ≤ 90000) (kt : markB z = true → ∀ a dx H', H a = none → Ex H H' → H' a = some (.ins C dx (mkFs z b)) → Q (.ref a) H')
    (kf : markB z = false → ∀ d H', H d = none → Ex H H' → H' d = some (.xd [("name", .str "text")]) → E (.ref DV) (some d) H') :
    ∀ x dx, H x = none → H dx = none → dx ≠ x → spMi C DV (.ref x :: (vs ++ dvs)) (upd (upd H dx (.own x)) x (.ins C dx [])) (fun v H2 => v = .non ∧ Q (.ref x) H2) E := fun x dx hx hd hne => by
  have e0 : Ex H (upd (upd H dx (.own x)) x (.ins C dx [])) := fun c o hc => by
    rw [upd_ne (ne_of_none hc hx), upd_ne (ne_of_none hc hd)]
    exact hc
  refine ⟨x, dx, z, b, by rw [hv], hz, upd_same, fun hm H' kp h => ⟨rfl, kt hm x dx H' hx (fun c o hc => kp c o (ne_of_none hc hx) (e0 c o hc)) h⟩, fun hm d H' hn ex h => kf hm d H' (fresh_back e0 hn) (e0.trans ex) h⟩
end
section
variable {C DV a : Addr} {z : Str} {b : Bool} {vs dvs zs : List V} {σ : L2.St} {H : Hp} {Q : VK} {ta tk : TA} {n m : Nat}
theorem rd_make {E : XK} (h : EvA ta σ H vs) (hv : vs ++ dvs = [.str z, .bl b]) (hz : z.length ≤ 90000) (hm : markB z = true) (kt : ∀ a dx H', H a = none → Ex H H' → H' a = some (.ins C dx (mkFs z b)) → Q (.ref a) H') : tMake C (spMi C DV) dvs E ta σ H Q :=
  h H (Ex.refl H) _ fun H1 e1 => mi_ok hv hz (fun _ a dx H' ha ex hi => kt a dx H' (fresh_back e1 ha) (e1.trans ex) hi) fun h2 => by rw [hm] at h2; cases h2
theorem rd_makeS {E : L2.St → XK} (h : EvA ta σ H vs) (hv : vs ++ dvs = [.str z, .bl b]) (hz : z.length ≤ 90000) (kt : markB z = true → ∀ a dx H', H a = none → Ex H H' → H' a = some (.ins C dx (mkFs z b)) → Q (.ref a) H')
    (kf : markB z = false → ∀ d H', H d = none → Ex H H' → H' d = some (.xd [("name", .str "text")]) → E σ (.ref DV) (some d) H') : ZX.tMakeS C (spMi C DV) dvs E ta σ H Q :=
  h H (Ex.refl H) _ fun H1 e1 => mi_ok hv hz (fun hm a dx H' ha ex hi => kt hm a dx H' (fresh_back e1 ha) (e1.trans ex) hi) fun hm d H' hd ex hi => kf hm d H' (fresh_back e1 hd) (e1.trans ex) hi
theorem rd_makeN {E : XK} {gV : List V → List V → List V} (h : EvA ta σ H vs) (h2 : EvA tk σ H zs) (hn : vs.length = n) (hm0 : zs.length = m) (hv : ∀ x : Addr, gV (.ref x :: vs) zs = [.ref x, .str z, .bl b]) (hz : z.length ≤ 90000) (hm : markB z = true) (kt : ∀ a dx H', H a = none → Ex H H' → H' a = some (.ins C dx (mkFs z b)) → Q (.ref a) H') :
    tMakeN C n m (spMi C DV) gV E ta tk σ H Q :=
  h H (Ex.refl H) _ fun H1 e1 => h2 H1 e1 _ fun H2 e2 => ⟨hn, hm0, fun x dx hx hd hne => by
    rw [hv x]
    exact mi_ok (vs := [.str z, .bl b]) (dvs := []) rfl hz (fun _ a dx H' ha ex hi => kt a dx H' (fresh_back (e1.trans e2) ha) ((e1.trans e2).trans ex) hi) (fun h2 => by rw [hm] at h2; cases h2) x dx hx hd hne⟩
end
def spReadM (C : Addr) : Sp := fun vs H Q _ => ∃ z : Str, vs = [.str z] ∧ z.length ≤ 90000 ∧ (readZ z = none → RetV .non H Q) ∧ ∀ t b, readZ z = some (t, b) → ∀ a dx H', H a = none → Ex H H' → H' a = some (.ins C dx (mkFs t b)) → Q (.ref a) H'
def spMr (C DM : Addr) : Sp := fun vs H Q E => ∃ z : Str, vs = [.str z] ∧ z.length ≤ 90000 ∧ (readZ z = none → ∀ d H', H d = none → Ex H H' → H' d = some (.xd [("text", .str z)]) → E (.ref DM) (some d) H') ∧
  ∀ t b, readZ z = some (t, b) → ∀ a dx H', H a = none → Ex H H' → H' a = some (.ins C dx (mkFs t b)) → Q (.ref a) H'
structure Mi (P : Program) (w : World) (K : PySem.W.Frag) (mg : Str → Option Value) (base : Heap) (C DV : Addr) : Prop where
  ex : ∃ fi fd ds its, Mk K C fi ∧ FnOk P w K mg base (L2N.CX P w) 3 fi fd ["self", "text", "weak"] (spMi C DV) ∧ Binds K fd ["self", "text", "weak"] [] ∧ Vals [.bl false] ds ∧ Binds K fd ["self", "text", "weak"] ds ∧
    KBn K fd ["self", "text", "weak"] 2 ["weak"] (fun us ws => (fun us (_ : List Value) ws => us ++ ws) us its ws) (fun vs zs => vs ++ zs)
structure Mr (P : Program) (w : World) (K : PySem.W.Frag) (mg : Str → Option Value) (base : Heap) (C DM : Addr) : Prop where
  ex : ∃ mc p g fd, ZX.Stat K C mc "read" p g ∧ FnOk P w K mg base (L2N.CX P w) 6 g fd ["text"] (spMr C DM) ∧ Binds K fd ["text"] []
section
variable {P : Program} {w : World} {K : PySem.W.Frag} {mg : Str → Option Value} {base : Heap} {f C DV DM DH : Addr} {fd : FuncData} {k : Nat}
theorem ok_mi (T : Mg mg) (W : Wd P w K mg C DV DM DH) (c_is_mark_text : Call P w K mg base 2 "is_mark_text" ["text"] (sp1 fun z => .bl (markB z))) (EV : Ef P w K mg base DV ["self", "name"] "name") (F : FdP K "__init__" "Mark.__init__" s_mi [.bl false] f fd) :
    FnOk P w K mg base (L2N.CX P w) 3 f fd ["self", "text", "weak"] (spMi C DV) := by
  refine FunD.ok F sc_mi (fun vs H Q E h => ?_) (fun cdv A outer s H vs Q E hr h => ?_)
  · obtain ⟨a, dx, z, b, rfl, _⟩ := h
    rfl
  · obtain ⟨a, dx, z, b, rfl, hz, ha, qt, qf⟩ := h
    refine ⟨_, pss_cons (ps_if (pt_not (pt_val (pe_f c_is_mark_text hr (by decide) rfl (pa_cons (pv 1) pa_nil)))) (pss_one (ps_raiseE EV rfl (L2N.takes_of rfl rfl rfl rfl) hr rfl W.mV (pa_cons pe_str pa_nil))) pss_nil) (pss_cons (ps_fld (pv 0) (pv 1) rfl) (pss_one (ps_fld (pv 0) (pv 2) rfl))), ?_⟩
    refine q_when (b := !markB z) (et_not (et_B (ev_call (ea_cons (ev_var rfl) ea_nil) (sv1 (by omega))))) (fun hb H1 e1 => ?_) (fun hb H1 e1 => ?_)
    · rw [Bool.not_eq_true'] at hb
      exact mk_err1 (ea_cons ev_c ea_nil) (by decide +kernel) fun d H' hd ex hx => qf hb d H' (fresh_back e1 hd) (e1.trans ex) hx
    · rw [Bool.not_eq_false'] at hb
      have ha1 := e1 _ _ ha
      refine ⟨.str z, rfl, .ref a, rfl, a, C, dx, [], rfl, ha1, W.cls, W.nT, by decide, ?_⟩
      refine ⟨.bl b, rfl, .ref a, rfl, a, C, dx, _, rfl, upd_same, W.cls, W.nW, by show 1 < 1000; decide, ?_⟩
      refine qt hb _ (fun c o hc h => ?_) ?_
      · rw [upd_ne hc, upd_ne hc]
        exact e1 _ _ h
      · rw [upd_same, mkFs_put]
theorem ok_read_mark (T : Mg mg) (W : Wd P w K mg C DV DM DH) (c_is_mark_text : Call P w K mg base 2 "is_mark_text" ["text"] (sp1 fun z => .bl (markB z))) (MI : Mi P w K mg base C DV) (F : FnP K "read_mark" s_read_mark f fd) (gm : mg "read_mark" = some (.ref f)) : Call P w K mg base 5 "read_mark" ["text"] (spReadM C) := by
  obtain ⟨fi, fdi, ds, its, M, Fi, hb0, hds, hbd, hkb⟩ := MI.ex
  refine mk F gm (fun _ _ _ _ _ _ us hl => match us, hl with | [_], _ => rfl) (fun _ _ _ _ _ _ us hl => match us, hl with | [_], _ => rfl) sc_read_mark (fun vs H Q E h => ?_) (fun cdv A outer s H vs Q E hr h => ?_)
  · obtain ⟨z, rfl, _⟩ := h
    rfl
  · obtain ⟨z, rfl, hz, q0, q⟩ := h
    refine ⟨_, (pss_cons (ps_set (i := 1) sc_read_mark.nd rfl (Or.inl rfl) (pe_bm PySem.F.plainAttrs_str PySem.F.slot_str_startswith PySem.F.type_str_startswith mz_starts (pv 0) (pa_cons pe_str pa_nil)))
    (pss_cons (ps_set (i := 2) sc_read_mark.nd rfl (Or.inl rfl) (pe_ifExp (pt_truth (pv 1) (by intro _; rfl)) (pe_slice sl_str (pv 0) (po_some pe_int) po_none) (pv 0)))
    (pss_cons (ps_set (i := 3) sc_read_mark.nd rfl (Or.inl rfl) (pe_slice sl_str (pv 2) (po_some pe_int) (po_some (pe_un un_neg pe_int))))
    (pss_cons (ps_if (PW.pt (pw_or (pt_cmpR op_ne (pv 2) (pe_joined (.cons pe_str (.cons (pe_fmt (pv 3)) (.cons pe_str .nil)))) (nomark _)) (pw_or1 (pt_not (pt_val (pe_f c_is_mark_text hr (by decide) rfl (pa_cons (pv 3) pa_nil)))))))
      (pss_one (ps_ret pe_non))
      pss_nil)
    (pss_one (ps_ret (pe_make M Fi (hr.mono (by decide)) rfl W.mC hb0 .nil ZX.passN (pa_cons (pv 3) (pa_cons (pv 1) pa_nil))))))))), ?_⟩
    have hz2 : z.length ≤ 100000 := by omega
    refine q_asg (v := .bl (decide (hd z = some 119))) (ev_is (ev_starts (ev_var rfl) ev_c) (congrArg V.bl (starts_w z))) fun H1 e1 => ?_
    refine q_asg (v := .str (quo z)) (ev_if (b := decide (hd z = some 119)) (et_truB (ev_var rfl)) (fun hb => ev_is (ev_slS (ev_var rfl) (eo_some ev_c) eo_none hz2) (by unfold quo; rw [if_pos hb]; rfl)) fun hb => ev_is (ev_var rfl) (by unfold quo; rw [hb]; rfl)) fun H2 e2 => ?_
    have hq : (quo z).length ≤ 100000 := Nat.le_trans (quo_len z) hz2
    have hin : (inn (quo z)).length ≤ 90000 := Nat.le_trans (inn_len (quo z)) (Nat.le_trans (quo_len z) hz)
    refine q_asg (v := .str (inn (quo z))) (ev_slS (ev_var rfl) (eo_some ev_c) (eo_some (ev_un ev_c ru_neg)) hq) fun H3 e3 => ?_
    have e03 := (e1.trans e2).trans e3
    refine q_when (b := !decide (quo z = qut (inn (quo z))) || !markB (inn (quo z))) (et_or (et_test (ev_op (ev_var rfl) (ev_joined (zs := ["\"", inn (quo z), "\""]) (ej_cons ev_c (ej_cons (ev_fmt (ev_var rfl) (by omega)) (ej_cons ev_c ej_nil))) ?_ (show (Str.empty ++ ("\"" : Str)) ++ inn (quo z) ++ ("\"" : Str) = qut (inn (quo z)) from ?_)) rv_neS)) fun _ => et_not (et_B (ev_call (ea_cons (ev_var rfl) ea_nil) (sv1 (by omega))))) (fun hb H4 e4 => ?_) (fun hb H4 e4 => ?_)
    · have c2 : ("\"" : Str).length ≤ 100 := by decide +kernel
      simp only [List.map_cons, List.map_nil, List.sum_cons, List.sum_nil]
      omega
    · exact congrArg (fun x : Str => (x ++ inn (quo z)) ++ ("\"" : Str)) (show Str.empty ++ ("\"" : Str) = ("\"" : Str) by decide +kernel)
    · refine s_ret ev_c fun H5 e5 => q0 (read_none fun h => ?_) H5 ((e03.trans e4).trans e5)
      rw [decide_eq_true h.1, h.2] at hb
      cases hb
    · rw [Bool.or_eq_false_iff, Bool.not_eq_false', Bool.not_eq_false', decide_eq_true_eq] at hb
      refine rd_make (ea_cons (ev_var rfl) (ea_cons (ev_var rfl) ea_nil)) rfl hin hb.2 fun a dx H5 ha e5 hi => q _ _ (read_some hb) a dx H5 (fresh_back (e03.trans e4) ha) ((e03.trans e4).trans e5) hi
theorem ok_mr (T : Mg mg) (W : Wd P w K mg C DV DM DH) (c_read_mark : Call P w K mg base 5 "read_mark" ["text"] (spReadM C)) (EM : Ef P w K mg base DM ["self", "text"] "text") (F : FdP K "read" "Mark.read" s_mr [] f fd) : FnOk P w K mg base (L2N.CX P w) 6 f fd ["text"] (spMr C DM) := by
  refine FunD.ok F sc_mr (fun vs H Q E h => ?_) (fun cdv A outer s H vs Q E hr h => ?_)
  · obtain ⟨z, rfl, _⟩ := h
    rfl
  · obtain ⟨z, rfl, hz, qn, qs⟩ := h
    refine ⟨_, pss_cons (ps_set (i := 1) sc_mr.nd rfl (Or.inl rfl) (pe_f c_read_mark hr (by decide) rfl (pa_cons (pv 0) pa_nil))) (pss_cons (ps_if (pt_cmpR op_isN1 (pv 1) pe_non (nomark _)) (pss_one (ps_raiseE EM rfl (L2N.takes_of rfl rfl rfl rfl) (hr.mono (by decide)) rfl W.mM (pa_cons (pv 0) pa_nil))) pss_nil) (pss_one (ps_ret (pv 1)))), ?_⟩
    refine rd_call (ea_cons (ev_var rfl) ea_nil) fun H1 e1 => ⟨z, rfl, hz, fun hn H2 e2 => ?_, fun t b hs a dx H2 ha e2 hi => ?_⟩
    · refine g_name ?_; dsimp only
      refine q_when (b := true) (et_is (et_test (ev_op (ev_var rfl) ev_c rv_isN)) rfl) (fun _ H3 e3 => ?_) (fun h => nomatch h)
      exact mk_err1 (ea_cons (ev_var rfl) ea_nil) (by omega) fun d H' hd ex hx => qn hn d H' (fresh_back ((e1.trans e2).trans e3) hd) (((e1.trans e2).trans e3).trans ex) hx
    · refine g_name ?_; dsimp only
      refine q_when (b := false) (et_is (et_test (ev_op (ev_var rfl) ev_c rv_isN)) rfl) (fun h => nomatch h) (fun _ H3 e3 => ?_)
      exact s_ret (ev_var rfl) fun H4 e4 => qs t b hs a dx H4 (fresh_back e1 ha) (((e1.trans e2).trans e3).trans e4) ((e3.trans e4) _ _ hi)
end
end Z
set_option maxHeartbeats 4000000
namespace Z
open PySem PySem.Spec PyProof.Rows L2 TL Evl NdefX
theorem q_in {t tz : TS} {D : Ends} {σ : L2.St} {H : Hp} (h : t { D with nx := tz D } σ H) : tSeq t tz D σ H := h
theorem g_asg {te : TE} {g : TG} {D : Ends} {σ : L2.St} {H : Hp} (h : te σ H fun v H1 => g v σ H1 D.nx) : tAsg te g D σ H := h
theorem foldl_mem (a : Array Nat) : ∀ (n : Nat) (acc : Array Nat) (c : Nat), c ∈ ((List.replicate n a).foldl (· ++ ·) acc).toList → c ∈ acc.toList ∨ c ∈ a.toList
  | 0, acc, c, h => .inl h
  | n + 1, acc, c, h => by
    rw [List.replicate_succ, List.foldl_cons] at h
    rcases foldl_mem a n (acc ++ a) c h with h | h
    · rw [Array.toList_append] at h
      exact List.mem_append.mp h
    · exact .inr h
theorem repS_mem {z : Str} {n c : Nat} (h : c ∈ tl (repS z n)) : c ∈ tl z := by
  unfold repS at h
  split at h
  · have : tl Str.empty = [] := rfl
    rw [this] at h
    cases h
  · split at h
    · exact h
    · rcases foldl_mem z.cps n #[] c h with h | h
      · cases h
      · exact h
theorem rep_mark {c : Nat} {n : Int} (hc : c ∈ tl mkS) (h0 : 1 ≤ n) (h1 : n ≤ 40) : markB (repS (one c) n.toNat) = true := by
  refine markB_iff.mpr ⟨?_, allIn_sub (allIn_one hc) fun d hd => repS_mem hd⟩
  rw [repS_len, one_len]
  omega
theorem cutTo_len {z : Str} {i : Nat} (h : i ≤ z.length) : (cutS z none (some (i : Int))).length = i := by
  rw [← len_tl', cutTo_tl, List.length_take, len_tl']
  omega
theorem cutFrom_len {z : Str} {i : Nat} (h : i ≤ z.length) : (cutS z (some (i : Int)) none).length = z.length - i := by
  rw [← len_tl', cutFrom_tl, List.length_drop, len_tl']
def spBent : Sp := fun vs H Q _ => ∃ (p l0 : Addr) (e : Str), vs = [.ref p, .str e] ∧ DwAt H p l0 ∧ 1 ≤ e.length ∧ e.length ≤ 43 ∧ ∀ (t : Str) (H' : Hp), t.length ≤ 50 → DwAt H' p l0 → Keep p H H' → Q (.str t) H'
def PoolAt (H : Hp) (q : Addr) : Prop := ∃ z1 z2 z3 : Str, H q = some (.lst [.str z1, .str z2, .str z3]) ∧ markB z1 = true ∧ markB z2 = true ∧ markB z3 = true
theorem PoolAt.keep {H H' : Hp} {p q : Addr} (h : PoolAt H q) (k : Keep p H H') (n : q ≠ p) : PoolAt H' q := by
  obtain ⟨z1, z2, z3, hq, r⟩ := h
  exact ⟨z1, z2, z3, k _ _ n hq, r⟩
def spDrawn : Sp := fun vs H Q _ => ∃ (p l0 q : Addr), vs = [.ref p, .ref q] ∧ DwAt H p l0 ∧ PoolAt H q ∧ q ≠ p ∧ ∀ (t : Addr) (z : Str) (b : Bool) (H' : Hp), H t = none → markB z = true → H' t = some (.tup [.str z, .bl b]) → DwAt H' p l0 → Keep p H H' → Q (.ref t) H'
def spListed : Sp := fun vs H Q _ => ∃ (p l0 q : Addr), vs = [.ref p, .ref q] ∧ DwAt H p l0 ∧ PoolAt H q ∧ q ≠ p ∧ ∀ (z : Str) (H' : Hp), z.length ≤ 10000 → DwAt H' p l0 → Keep p H H' → Q (.str z) H'
section
variable {σ : L2.St} {H : Hp} {ta : TA} {te : TE} {p l0 : Addr} {lim : Int} {Q : VK} {E : XK} {D : Ends} {tz : TS} {i : Nat} {K : PySem.W.Frag} {l : Addr} {xs : List V}
theorem way9 {c wy : Int} {n m : Nat} (hw : σ[2]? = some (some (.int wy))) (fin : ∀ x : Str, x.length ≤ m → ∀ H', Ex H H' → D.rt (.str x) H') (h : ∀ Hx, EvS te σ Hx n) (hn : n ≤ m) (r : ∀ H1, Ex H H1 → tz D σ H1) : tSeq (tIfS (tTest (tOp rEq (tVar 2) (tC (.int c)))) (tRet te) tNext) tz D σ H :=
  q_when (et_test (ev_op (ev_var hw) ev_c rv_eqI)) (fun _ H1 e1 => s_retS (h H1) fun x hx H2 e2 => fin x (Nat.le_trans hx hn) H2 (e1.trans e2)) fun _ H1 e1 => r H1 e1
/-- " " * take -/
theorem rd_sp (h : EvA ta σ H [.ref p, .int lim]) (b : DwAt H p l0) (h1 : 1 ≤ lim) (h2 : lim ≤ 1000) (k : ∀ (x : Str) (H' : Hp), (x.length : Int) < lim → DwAt H' p l0 → Keep p H H' → Q (.str x) H') : tOp rRepStr (tC (.str " ")) (tCall spTake [] E ta) σ H Q := by
  have g : tCall spTake [] E ta σ H fun y H2 => rRepStr (.str " ") y H2 Q := rd_take h b h1 (by omega) fun d H' d0 d1 b2 k2 => ⟨" ", d, rfl, rfl, d0, by omega, by decide +kernel, k _ H' (by
    rw [repS_len, show (" " : Str).length = 1 by decide +kernel]
    omega) b2 k2⟩
  exact g
theorem s_appR (hi : σ[i]? = some (some (.ref l))) (hl : H l = some (.lst xs)) (h : te σ H fun v H2 => rAppend (.ref l) [v] H2 fun _ H3 => D.nx σ H3) : tDrop (tBM K "list" rAppend (tVar i) (tCons te tNil)) D σ H := ⟨_, hi, Or.inl ⟨rfl, xs, sq_of hl⟩, h⟩
end
structure Pc (H : Hp) (p l0 lp : Addr) (n : Nat) (H' : Hp) : Prop where
  bag : DwAt H' p l0
  kp : Keep p H H'
  ex : ∃ ys : List Str, H' lp = some (.lst (ys.map V.str)) ∧ ys.length ≤ n ∧ ∀ y ∈ ys, y.length ≤ 50
theorem Pc.keep {H H1 H2 : Hp} {p l0 lp : Addr} {n : Nat} (h : Pc H p l0 lp n H1) (b : DwAt H2 p l0) (k : Keep p H1 H2) (hn : lp ≠ p) : Pc H p l0 lp n H2 := by
  obtain ⟨ys, h1, r⟩ := h.ex
  exact ⟨b, h.kp.trans k, ys, k _ _ hn h1, r⟩
theorem Pc.e {H H1 H2 : Hp} {p l0 lp : Addr} {n : Nat} (h : Pc H p l0 lp n H1) (e : Ex H1 H2) (hn : lp ≠ p) : Pc H p l0 lp n H2 := h.keep (h.bag.ex e) (Keep.of e) hn
theorem Pc.mono {H H1 : Hp} {p l0 lp : Addr} {n m : Nat} (h : Pc H p l0 lp n H1) (hm : n ≤ m) : Pc H p l0 lp m H1 := by
  obtain ⟨ys, h1, h2, h3⟩ := h.ex
  exact ⟨h.bag, h.kp, ys, h1, Nat.le_trans h2 hm, h3⟩
theorem Pc.app {H H1 : Hp} {p l0 lp : Addr} {n : Nat} {x : Str} {D : Ends} {σ : L2.St} (h : Pc H p l0 lp n H1) (hn : lp ≠ p ∧ lp ≠ l0) (h0 : H lp = none) (hx : x.length ≤ 50) (hs : n ≤ 1000) (k : ∀ H2, Pc H p l0 lp (n + 1) H2 → D.nx σ H2) : rAppend (.ref lp) [.str x] H1 fun _ H3 => D.nx σ H3 := by
  obtain ⟨ys, h1, h2, h3⟩ := h.ex
  refine ⟨lp, _, _, rfl, rfl, h1, sz_lt (by rw [List.length_map]; omega), k _ ⟨h.bag.upd hn, h.kp.mut h0, ys ++ [x], ?_, by rw [List.length_append]; exact Nat.add_le_add_right h2 1, fun y hy => ?_⟩⟩
  · rw [upd_same, List.map_append]
    rfl
  · rcases List.mem_append.mp hy with hy | hy
    · exact h3 y hy
    · rw [List.mem_singleton.mp hy]
      exact hx
end Z
set_option maxHeartbeats 4000000
namespace Z
open PySem PySem.Spec PyProof.Rows L2 TL Evl NdefX
/-! ### lists of marks -/
structure Wl (K : PySem.W.Frag) (mg : Str → Option Value) (L : Addr) : Prop where
  mL : mg "MarkList" = some (.ref L)
  cls : Cls K L
  ins : ZX.InsC K L
  nM : NoAttr K L "marks"
  nS : NoAttr K L "star"
  iLL : PySem.W.kitOne K (.ref L) (.ref L) = some true
def mlFs (v : V) (b : Bool) : List (Str × V) := [("marks", v), ("star", .bl b)]
theorem mlFs_put (v : V) (b : Bool) : putF "star" (.bl b) (putF "marks" v []) = mlFs v b := by
  show putF "star" (.bl b) [("marks", v)] = _
  unfold putF
  rw [if_neg (by decide)]
  rfl
theorem lk_marks (v : V) (b : Bool) : (mlFs v b).lookup ("marks" : Str) = some v := by rfl
theorem lk_star (v : V) (b : Bool) : (mlFs v b).lookup ("star" : Str) = some (.bl b) := by rfl
abbrev Mks := List (Str × Bool)
theorem MkAt.keep {C p : Addr} {H H' : Hp} {v : V} {o : Str × Bool} (h : MkAt C H v o) (k : Keep p H H') (hp : ∃ xs, H p = some (.lst xs)) : MkAt C H' v o := by
  obtain ⟨a, dx, rfl, ha⟩ := h
  obtain ⟨xs, hp⟩ := hp
  refine ⟨a, dx, rfl, k _ _ (fun e => ?_) ha⟩
  rw [e, hp] at ha
  cases ha
/-- a list of marks -/
def MlOf (C L l : Addr) (H : Hp) (v : V) (o : Bool × Mks) : Prop := ∃ a dx vs, v = .ref a ∧ H a = some (.ins L dx (mlFs (.ref l) o.1)) ∧ H l = some (.lst vs) ∧ Rel (MkAt C H) vs o.2
def MlAt (C L : Addr) (H : Hp) (v : V) (o : Bool × Mks) : Prop := ∃ l, MlOf C L l H v o
theorem MlOf.ex {C L l : Addr} {H H' : Hp} {v : V} {o : Bool × Mks} (h : MlOf C L l H v o) (e : Ex H H') : MlOf C L l H' v o := by
  obtain ⟨a, dx, vs, rfl, ha, hl, r⟩ := h
  exact ⟨a, dx, vs, rfl, e _ _ ha, e _ _ hl, r.mono fun _ _ m => m.ex e⟩
theorem MlAt.ex {C L : Addr} {H H' : Hp} {v : V} {o : Bool × Mks} (h : MlAt C L H v o) (e : Ex H H') : MlAt C L H' v o := h.imp fun _ m => m.ex e
theorem MlOf.keep {C L l p : Addr} {H H' : Hp} {v : V} {o : Bool × Mks} (h : MlOf C L l H v o) (k : Keep p H H') (hp : ∃ xs, H p = some (.lst xs)) (n : l ≠ p) : MlOf C L l H' v o := by
  obtain ⟨a, dx, vs, rfl, ha, hl, r⟩ := h
  refine ⟨a, dx, vs, rfl, k _ _ (fun e => ?_) ha, k _ _ n hl, r.mono fun _ _ m => m.keep k hp⟩
  obtain ⟨xs, hp⟩ := hp
  rw [e, hp] at ha
  cases ha
section
variable {K : PySem.W.Frag} {C L a dx : Addr} {σ : L2.St} {H : Hp} {te : TE} {v : V} {b : Bool}
theorem ev_marks (c : Cls K L) (n : NoAttr K L "marks") (h : Ev te σ H (.ref a)) (ha : H a = some (.ins L dx (mlFs v b))) : Ev (tFld K te "marks") σ H v := fun H1 e Q q =>
  h H1 e _ fun H2 e2 => ⟨a, L, dx, _, _, rfl, e2 _ _ (e _ _ ha), c, n, lk_marks v b, q H2 e2⟩
theorem ev_star (c : Cls K L) (n : NoAttr K L "star") (h : Ev te σ H (.ref a)) (ha : H a = some (.ins L dx (mlFs v b))) : Ev (tFld K te "star") σ H (.bl b) := fun H1 e Q q =>
  h H1 e _ fun H2 e2 => ⟨a, L, dx, _, _, rfl, e2 _ _ (e _ _ ha), c, n, lk_star v b, q H2 e2⟩
theorem et_truL {l : Addr} {xs : List V} (h : Ev te σ H (.ref l)) (hl : SqL K H l xs) : EvT (fun σ H Q => te σ H fun x H' => ∃ k, TruV K x H' k ∧ Q k H') σ H (!xs.isEmpty) := fun H1 e Q q => h H1 e _ fun H2 e2 => ⟨_, .inl ⟨xs, ex_l (e.trans e2) hl, rfl⟩, q H2 e2⟩
theorem rv_eqLS {p q : Addr} {xs ys : List Str} (h1 : SqL K H p (xs.map V.str)) (h2 : SqL K H q (ys.map V.str)) : RV (ZX.rEqLS K) (.ref p) (.ref q) H (.bl (decide (xs = ys))) := fun H1 e Q k => ⟨p, q, xs, ys, rfl, rfl, ex_l e h1, ex_l e h2, k H1 (Ex.refl H1)⟩
end
theorem sc_li : FnScope ["self", "marks", "star"] ["self", "marks", "star"] (L2.defScope s_li) := ⟨rfl, rfl, rfl, by decide +kernel, rfl, by decide +kernel, by decide +kernel⟩
theorem sc_lr : FnScope ["text", "parts", "marks", "part", "mark"] ["text"] (L2.defScope s_lr) := ⟨rfl, rfl, rfl, by decide +kernel, rfl, by decide +kernel, by decide +kernel⟩
theorem sc_ls : FnScope ["self", "mark", "own"] ["self", "mark"] (L2.defScope s_ls) := ⟨rfl, rfl, rfl, by decide +kernel, rfl, by decide +kernel, by decide +kernel⟩
theorem sc_lw : FnScope ["self", "mark", "own"] ["self", "mark"] (L2.defScope s_lw) := ⟨rfl, rfl, rfl, by decide +kernel, rfl, by decide +kernel, by decide +kernel⟩
theorem sc_la : FnScope ["self", "other", "found", "mark"] ["self", "other"] (L2.defScope s_la) := ⟨rfl, rfl, rfl, by decide +kernel, rfl, by decide +kernel, by decide +kernel⟩
theorem sc_ll : FnScope ["self"] ["self"] (L2.defScope s_ll) := ⟨rfl, rfl, rfl, by decide +kernel, rfl, by decide +kernel, by decide +kernel⟩
/-! ### MarkList(marks, star) -/
def badL (b : Bool) (n : Nat) : Bool := b && decide (0 < n)
def spLi (L DV : Addr) : Sp := fun vs H Q E => ∃ (a dx q : Addr) (xs : List V) (b : Bool), vs = [.ref a, .ref q, .bl b] ∧ H q = some (.lst xs) ∧ xs.length ≤ 40000 ∧ H a = some (.ins L dx []) ∧
  (badL b xs.length = false → ∀ l H', H l = none → Keep a H H' → H' a = some (.ins L dx (mlFs (.ref l) b)) → H' l = some (.lst xs) → Q .non H') ∧
  (badL b xs.length = true → ∀ d H', H d = none → Ex H H' → H' d = some (.xd [("name", .str "star")]) → E (.ref DV) (some d) H')
section
variable {L DV q : Addr} {xs : List V} {b : Bool} {vs dvs : List V} {H : Hp} {Q : VK} {E : XK}
theorem li_ok (hv : vs ++ dvs = [.ref q, .bl b]) (hq : H q = some (.lst xs)) (hz : xs.length ≤ 40000) (kt : badL b xs.length = false → ∀ a dx l H', H a = none → H l = none → l ≠ a → Ex H H' → H' a = some (.ins L dx (mlFs (.ref l) b)) → H' l = some (.lst xs) → Q (.ref a) H')
    (kf : badL b xs.length = true → ∀ d H', H d = none → Ex H H' → H' d = some (.xd [("name", .str "star")]) → E (.ref DV) (some d) H') :
    ∀ x dx, H x = none → H dx = none → dx ≠ x → spLi L DV (.ref x :: (vs ++ dvs)) (upd (upd H dx (.own x)) x (.ins L dx [])) (fun v H2 => v = .non ∧ Q (.ref x) H2) E := fun x dx hx hd hne => by
  have e0 : Ex H (upd (upd H dx (.own x)) x (.ins L dx [])) := fun c o hc => by
    rw [upd_ne (ne_of_none hc hx), upd_ne (ne_of_none hc hd)]
    exact hc
  refine ⟨x, dx, q, xs, b, by rw [hv], e0 _ _ hq, hz, upd_same, fun hm l H' hl kp h1 h2 => ⟨rfl, kt hm x dx l H' hx (fresh_back e0 hl) (fun e => ?_) (fun c o hc => kp c o (ne_of_none hc hx) (e0 c o hc)) h1 h2⟩, fun hm d H' hn ex h => kf hm d H' (fresh_back e0 hn) (e0.trans ex) h⟩
  rw [e, upd_same] at hl
  cases hl
end
section
variable {C L DV q : Addr} {xs zs : List V} {b : Bool} {vs dvs : List V} {σ : L2.St} {H : Hp} {Q : VK} {ta tk : TA} {n m : Nat} {os : Mks}
theorem ml_new {a dx l : Addr} {H' : Hp} (h1 : H' a = some (.ins L dx (mlFs (.ref l) b))) (h2 : H' l = some (.lst xs)) (r : Rel (MkAt C H) xs os) (e : Ex H H') : MlOf C L l H' (.ref a) (b, os) := ⟨a, dx, xs, rfl, h1, h2, r.mono fun _ _ m => m.ex e⟩
/-- MarkList(..) that is made -/
theorem li_ml {E : XK} (hv : vs ++ dvs = [.ref q, .bl b]) (hq : H q = some (.lst xs)) (hz : xs.length ≤ 40000) (hr : Rel (MkAt C H) xs os) (hb : badL b xs.length = false) (k : ∀ v l H', H l = none → Ex H H' → MlOf C L l H' v (b, os) → Q v H') :
    ∀ x dx, H x = none → H dx = none → dx ≠ x → spLi L DV (.ref x :: (vs ++ dvs)) (upd (upd H dx (.own x)) x (.ins L dx [])) (fun v H2 => v = .non ∧ Q (.ref x) H2) E :=
  li_ok hv hq hz (fun _ a dx l H' ha hl hn e h1 h2 => k _ l H' hl e (ml_new h1 h2 hr e)) fun h => by rw [hb] at h; cases h
end
structure Li (P : Program) (w : World) (K : PySem.W.Frag) (mg : Str → Option Value) (base : Heap) (L DV : Addr) : Prop where
  ex : ∃ fi fd ds its, Mk K L fi ∧ FnOk P w K mg base (L2N.CX P w) 3 fi fd ["self", "marks", "star"] (spLi L DV) ∧ Binds K fd ["self", "marks", "star"] [] ∧ Vals [.bl false] ds ∧ Binds K fd ["self", "marks", "star"] ds ∧
    KBn K fd ["self", "marks", "star"] 2 ["star"] (fun us ws => (fun us (_ : List Value) ws => us ++ ws) us its ws) (fun vs zs => vs ++ zs)
/-! ### readings -/
def readL (z : Str) : Option (Bool × Mks) := if elems z = [("*" : Str)] then some (true, []) else if (elems z = [] ∨ ((elems z).map readZ).any Option.isNone = true) then none else some (false, (elems z).filterMap readZ)
def spLr (C L DM : Addr) : Sp := fun vs H Q E => ∃ z : Str, vs = [.str z] ∧ z.length ≤ 10000 ∧ (readL z = none → ∀ d H', H d = none → Ex H H' → H' d = some (.xd [("text", .str z)]) → E (.ref DM) (some d) H') ∧
  ∀ o, readL z = some o → ∀ v l H', H l = none → Ex H H' → MlOf C L l H' v o → Q v H'
def spLm (C L : Addr) (g : Str × Bool → Str × Bool → Bool) : Sp := fun vs H Q _ => ∃ v u o, vs = [v, u] ∧ MlAt C L H v o ∧ o.2.length ≤ 40000 ∧ ((u = .non ∧ RetV (.bl o.1) H Q) ∨ ∃ q, MkAt C H u q ∧ RetV (.bl (o.1 || o.2.any fun x => g x q)) H Q)
def spLl (C L : Addr) : Sp := fun vs H Q _ => ∃ v o, vs = [v] ∧ MlAt C L H v o ∧ RetV (.int (o.2.length : Int)) H Q
def uniq (os : Mks) : Mks := os.foldl (fun acc x => if x ∈ acc then acc else acc ++ [x]) []
def sumL (a b : Bool × Mks) : Bool × Mks := if (a.1 || b.1) = true then (true, []) else (false, uniq (a.2 ++ b.2))
def okM (os : Mks) : Prop := ∀ o ∈ os, markB o.1 = true
def spLa (C L : Addr) : Sp := fun vs H Q _ => ∃ v u o1 o2, vs = [v, u] ∧ MlAt C L H v o1 ∧ MlAt C L H u o2 ∧ okM o1.2 ∧ okM o2.2 ∧ o1.2.length + o2.2.length ≤ 35000 ∧ ∀ r l H', H l = none → Ex H H' → MlOf C L l H' r (sumL o1 o2) → Q r H'
def OMkAt (C : Addr) (H : Hp) (v : V) : Option (Str × Bool) → Prop
  | none => v = .non
  | some o => MkAt C H v o
theorem omk_non {C : Addr} {H : Hp} {v : V} {o : Option (Str × Bool)} (h : OMkAt C H v o) : decide (v = .non) = o.isNone := by
  cases o with
  | none =>
    have h : v = .non := h
    rw [h]
    rfl
  | some q =>
    obtain ⟨a, dx, rfl, _⟩ := h
    rfl
theorem all_someM : ∀ os : List (Option (Str × Bool)), os.any Option.isNone = false → os = (os.filterMap id).map some
  | [], _ => rfl
  | none :: r, h => by cases h
  | some x :: r, h => by
    have h2 : r.any Option.isNone = false := by
      rw [List.any_cons] at h
      exact h
    show some x :: r = some x :: ((r.filterMap id).map some)
    rw [← all_someM r h2]
section
variable {P : Program} {w : World} {K : PySem.W.Frag} {mg : Str → Option Value} {base : Heap} {f C L DV DM DH : Addr} {fd : FuncData} {k : Nat} {CX : CXT}
theorem ok_li (T : Mg mg) (W : Wd P w K mg C DV DM DH) (WL : Wl K mg L) (EV : Ef P w K mg base DV ["self", "name"] "name") (F : FdP K "__init__" "MarkList.__init__" s_li [.bl false] f fd) : FnOk P w K mg base (L2N.CX P w) 3 f fd ["self", "marks", "star"] (spLi L DV) := by
  refine FunD.ok F sc_li (fun vs H Q E h => ?_) (fun cdv A outer s H vs Q E hr h => ?_)
  · obtain ⟨a, dx, q, xs, b, rfl, _⟩ := h
    rfl
  · obtain ⟨a, dx, q, xs, b, rfl, hq, hz, ha, qt, qf⟩ := h
    refine ⟨_, pss_cons (ps_if (PW.pt (pw_and (pt_truth (pv 2) (by intro _; rfl)) (pw_and1 (pt_cmpR op_gt (pe_callB call_len_seq (by rfl) T.len (by decide +kernel) (pa_cons (pv 1) pa_nil)) pe_int (nomark _))))) (pss_one (ps_raiseE EV rfl (L2N.takes_of rfl rfl rfl rfl) hr rfl W.mV (pa_cons pe_str pa_nil))) pss_nil)
      (pss_cons (ps_fld (pv 0) (pe_callTy call_list_of (by rfl) T.list (by decide +kernel) (pa_cons (pv 1) pa_nil)) rfl) (pss_one (ps_fld (pv 0) (pv 2) rfl))), ?_⟩
    refine q_when (b := badL b xs.length) (et_is (et_and (et_truB (ev_var rfl)) fun _ => et_test (ev_op (ev_len (ev_var rfl) (sq_of hq)) ev_c rv_I0)) (by unfold badL; congr 1; exact decide_eq_decide.mpr (by omega))) (fun hb H1 e1 => ?_) (fun hb H1 e1 => ?_)
    · exact mk_err1 (ea_cons ev_c ea_nil) (by decide +kernel) fun d H' hd ex hx => qf hb d H' (fresh_back e1 hd) (e1.trans ex) hx
    · refine q_in ?_; dsimp only
      refine (el_list (ev_var rfl) (sq_of (e1 _ _ hq))) H1 (Ex.refl H1) _ fun l H2 nl e2 hl => ?_
      have ha2 := e2 _ _ (e1 _ _ ha)
      have hla : l ≠ a := fun e => by
        rw [e, e1 _ _ ha] at nl
        cases nl
      refine ⟨.ref a, rfl, a, L, dx, [], rfl, ha2, WL.cls, WL.nM, by decide, ?_⟩
      refine ⟨.bl b, rfl, .ref a, rfl, a, L, dx, _, rfl, upd_same, WL.cls, WL.nS, by show 1 < 1000; decide, ?_⟩
      refine qt hb l _ (fresh_back e1 nl) (fun c o hc h => ?_) ?_ ?_
      · rw [upd_ne hc, upd_ne hc]
        exact e2 _ _ (e1 _ _ h)
      · rw [upd_same, mlFs_put]
      · rw [upd_ne hla, upd_ne hla]
        exact hl
theorem ok_ll (T : Mg mg) (WL : Wl K mg L) (F : FdP K "__len__" "MarkList.__len__" s_ll [] f fd) : FnOk P w K mg base CX 1 f fd ["self"] (spLl C L) := by
  refine FunD.ok F sc_ll (fun vs H Q E h => ?_) (fun cdv A outer s H vs Q E hr h => ?_)
  · obtain ⟨v, o, rfl, _⟩ := h
    rfl
  · obtain ⟨v, o, rfl, ⟨l, a, dx, vs, rfl, ha, hl, hrel⟩, q⟩ := h
    refine ⟨_, pss_one (ps_ret (pe_callB call_len_seq (by rfl) T.len (by decide +kernel) (pa_cons (pe_fld (pv 0) rfl) pa_nil))), ?_⟩
    refine s_ret (ev_len (ev_marks WL.cls WL.nM (ev_var rfl) ha) (sq_of hl)) ?_
    rw [hrel.1]
    exact q
end
end Z
set_option maxHeartbeats 4000000
namespace Z
open PySem PySem.Spec PyProof.Rows L2 TL Evl NdefX
/-- the methods of a mark -/
structure Mm (P : Program) (w : World) (K : PySem.W.Frag) (mg : Str → Option Value) (base : Heap) (C : Addr) : Prop where
  ex : ∃ fs ds fw dw fe ft, Meth K C "strongly" fs ∧ FnOk P w K mg base CX0 1 fs ds ["self", "other"] (spTwo C stB) ∧ Binds K ds ["self", "other"] [] ∧
    Meth K C "weakly" fw ∧ FnOk P w K mg base CX0 1 fw dw ["self", "other"] (spTwo C wkB) ∧ Binds K dw ["self", "other"] [] ∧
    PySem.W.findIn K (.ref C) "__eq__" = some (some (.ref fe)) ∧ PySem.W.isFn K (.ref fe) = true ∧ FnR P w K mg base CX0 1 fe (fun vs H Q E => spTwo C eqB (vs ++ []) H Q E) ∧
    PySem.W.findIn K (.ref C) "__str__" = some (some (.ref ft)) ∧ PySem.W.isFn K (.ref ft) = true ∧ FnR P w K mg base CX0 1 ft (fun vs H Q E => spStr C (vs ++ []) H Q E)
section
variable {C : Addr} {σ : L2.St} {H : Hp} {ta tb : TE} {v u : V} {o o1 o2 : Str × Bool} {E : XK} {g : Str × Bool → Str × Bool → Bool} {m : Str}
theorem ev_strO (h : Ev ta σ H v) (hm : MkAt C H v o) (hl : o.1.length ≤ 90000) : Ev (tCB (ZX.rStrOwn C (fun vs H Q E => spStr C (vs ++ []) H Q E) E) (tCons ta tNil)) σ H (.str (wrZ o.1 o.2)) := fun H1 e Q q => by
  refine h H1 e _ fun H2 e2 => ?_
  obtain ⟨a, dx, rfl, ha⟩ := hm
  have ha2 := (e.trans e2) _ _ ha
  exact ⟨a, dx, _, rfl, ha2, .ref a, o, rfl, ⟨a, dx, rfl, ha2⟩, hl, fun H3 e3 => ⟨_, rfl, q H3 (e2.trans e3)⟩⟩
theorem ev_meth2 (h : Ev ta σ H v) (hb : Ev tb σ H u) (h1 : MkAt C H v o1) (h2 : MkAt C H u o2) (hm : ∀ z b, (mkFs z b).lookup m = none) : Ev (tMeth C m (spTwo C g) [] E ta (tCons tb tNil)) σ H (.bl (g o1 o2)) := fun H1 e Q q => by
  refine h H1 e _ fun H2 e2 => ?_
  obtain ⟨a, dx, rfl, ha⟩ := h1
  have ha2 := (e.trans e2) _ _ ha
  exact ⟨a, dx, _, rfl, ha2, hm _ _, hb H2 (e.trans e2) _ fun H3 e3 => ⟨.ref a, u, o1, o2, rfl, ⟨a, dx, rfl, e3 _ _ ha2⟩, h2.ex ((e.trans e2).trans e3), fun H4 e4 => q H4 ((e2.trans e3).trans e4)⟩⟩
end
section
variable {P : Program} {w : World} {K : PySem.W.Frag} {mg : Str → Option Value} {base : Heap} {f C L DV DM DH : Addr} {fd : FuncData} {k : Nat} {CX : CXT}
theorem any_ev {σ : L2.St} {H : Hp} {te tl : TE} {l : Addr} {vs : List V} {os : Mks} {g : Str × Bool → Bool} {j : Nat} {ws : List Nat} (hv : Ev tl σ H (.ref l)) (hl : H l = some (.lst vs)) (hrel : Rel (MkAt C H) vs os) (hz : os.length ≤ 40000) (hw : ∀ x, wipe ((wipe σ ws).set j (some x)) ws = wipe σ ws)
    (he : ∀ (x : V) (o : Str × Bool) H1, Ex H H1 → MkAt C H1 x o → Ev te ((wipe σ ws).set j (some x)) H1 (.bl (g o))) : Ev (tCB (L2.rAny K) (tCons (tLc (iList K tl) (gName j) tYes te ws) tNil)) σ H (.bl (os.any g)) := by
  have q : Ev (tCB (L2.rAny K) (tCons (tLc (iList K tl) (gName j) tYes te ws) tNil)) σ H (.bl ((os.map g).any id)) := by
    refine ev_any ?_
    have e : given vs.length (fun _ => true) (fun i => .bl (g (os.getD i default))) = (os.map g).map V.bl := by
      rw [hrel.1, given_all os default (fun _ => true) (fun o => .bl (g o)), List.filter_eq_self.mpr (fun _ _ => rfl)]
      simp only [List.map_map]
      rfl
    rw [← e]
    refine el_lcL (fun _ => true) (fun i => .bl (g (os.getD i default))) hv (sq_of hl) (by rw [hrel.1]; exact hz) hw (fun i x H5 e5 hx => et_yes) (fun i x H5 e5 hx _ => ?_)
    obtain ⟨o, ho, hr⟩ := hrel.get hx
    refine ev_is (he x o H5 e5 (hr.ex e5)) ?_
    rw [List.getD_eq_getElem?_getD, ho]
    rfl
  rw [List.any_map] at q
  exact q
theorem ok_ls (T : Mg mg) (W : Wd P w K mg C DV DM DH) (WL : Wl K mg L) (MM : Mm P w K mg base C) (F : FdP K "strongly" "MarkList.strongly" s_ls [] f fd) : FnOk P w K mg base CX 2 f fd ["self", "mark"] (spLm C L stB) := by
  obtain ⟨fs, ds, fw, dw, fe, ft, ms, Fs, hbs, mw, Fw, hbw, he1, he2, Fe, ht1, ht2, Ft⟩ := MM.ex
  refine FunD.ok F sc_ls (fun vs H Q E h => ?_) (fun cdv A outer s H vs Q E hr h => ?_)
  · obtain ⟨v, u, o, rfl, _⟩ := h
    rfl
  · obtain ⟨v, u, o, rfl, ⟨l, a, dx, vs, rfl, ha, hl, hrel⟩, hz, q⟩ := h
    refine ⟨_, pss_cons (ps_if (pt_truth (pe_fld (pv 0) rfl) (by intro _; rfl)) (pss_one (ps_ret pe_bl)) pss_nil) (pss_one (ps_ret (pe_and (pe_cmpR op_notN1 (pv 1) pe_non (nomark _)) (pe_one (pe_callB (cr_any rfl) (by rfl) T.any (by decide +kernel) (pa_cons (pe_lc (own := [("own", 2)]) (g := gName 2) (tt := tYes) rfl sc_ls.nd (pi_list (pe_fld (pv 0) rfl)) (blkOk_by (N := ["self", "mark", "own"]) (sc := L2.defScope s_ls) (by decide +kernel)) (fun _ _ _ _ _ => pg_name (i := 2) sc_ls.nd rfl (Or.inl rfl)) (fun _ _ _ _ _ => pts_nil) (fun _ _ _ _ _ => pe_meth (pv 2) W.cls ms Fs (hr.mono (by decide)) hbs .nil pass0 (pa_cons (pv 1) pa_nil))) pa_nil)))))), ?_⟩
    refine q_when (b := o.1) (et_truB (ev_star WL.cls WL.nS (ev_var rfl) ha)) (fun hb H1 e1 => ?_) (fun hb H1 e1 => ?_)
    · refine s_ret ev_c fun H2 e2 => ?_
      rcases q with ⟨_, q⟩ | ⟨p, _, q⟩
      · have g := q H2 (e1.trans e2)
        rw [hb] at g
        exact g
      · have g := q H2 (e1.trans e2)
        rw [hb] at g
        exact g
    · rcases q with ⟨rfl, q⟩ | ⟨p, hp, q⟩
      · refine s_ret (ev_andV (a := false) (b := false) (ev_is (ev_op (ev_var rfl) ev_c rv_notN) rfl) fun h => nomatch h) fun H2 e2 => ?_
        have g := q H2 (e1.trans e2)
        rw [hb] at g
        exact g
      · have hn : decide (u = V.non) = false := by
          obtain ⟨b, dy, rfl, _⟩ := hp
          rfl
        refine s_ret (ev_andV (a := true) (b := o.2.any fun x => stB x p) (ev_is (ev_op (ev_var rfl) ev_c rv_notN) (by rw [hn]; rfl)) fun _ => any_ev (g := fun x => stB x p) (ev_marks WL.cls WL.nM (ev_var rfl) (e1 _ _ ha)) (e1 _ _ hl) (hrel.mono fun _ _ m => m.ex e1) hz (fun _ => rfl) (fun x y H5 e5 hm => ev_meth2 (ev_var rfl) (ev_var rfl) hm (hp.ex (e1.trans e5)) (fun _ _ => by rfl))) fun H2 e2 => ?_
        have g := q H2 (e1.trans e2)
        rw [hb] at g
        exact g
theorem ok_lw (T : Mg mg) (W : Wd P w K mg C DV DM DH) (WL : Wl K mg L) (MM : Mm P w K mg base C) (F : FdP K "weakly" "MarkList.weakly" s_lw [] f fd) : FnOk P w K mg base CX 2 f fd ["self", "mark"] (spLm C L wkB) := by
  obtain ⟨fs, ds, fw, dw, fe, ft, ms, Fs, hbs, mw, Fw, hbw, he1, he2, Fe, ht1, ht2, Ft⟩ := MM.ex
  refine FunD.ok F sc_lw (fun vs H Q E h => ?_) (fun cdv A outer s H vs Q E hr h => ?_)
  · obtain ⟨v, u, o, rfl, _⟩ := h
    rfl
  · obtain ⟨v, u, o, rfl, ⟨l, a, dx, vs, rfl, ha, hl, hrel⟩, hz, q⟩ := h
    refine ⟨_, pss_cons (ps_if (pt_truth (pe_fld (pv 0) rfl) (by intro _; rfl)) (pss_one (ps_ret pe_bl)) pss_nil) (pss_one (ps_ret (pe_and (pe_cmpR op_notN1 (pv 1) pe_non (nomark _)) (pe_one (pe_callB (cr_any rfl) (by rfl) T.any (by decide +kernel) (pa_cons (pe_lc (own := [("own", 2)]) (g := gName 2) (tt := tYes) rfl sc_lw.nd (pi_list (pe_fld (pv 0) rfl)) (blkOk_by (N := ["self", "mark", "own"]) (sc := L2.defScope s_lw) (by decide +kernel)) (fun _ _ _ _ _ => pg_name (i := 2) sc_lw.nd rfl (Or.inl rfl)) (fun _ _ _ _ _ => pts_nil) (fun _ _ _ _ _ => pe_meth (pv 2) W.cls mw Fw (hr.mono (by decide)) hbw .nil pass0 (pa_cons (pv 1) pa_nil))) pa_nil)))))), ?_⟩
    refine q_when (b := o.1) (et_truB (ev_star WL.cls WL.nS (ev_var rfl) ha)) (fun hb H1 e1 => ?_) (fun hb H1 e1 => ?_)
    · refine s_ret ev_c fun H2 e2 => ?_
      rcases q with ⟨_, q⟩ | ⟨p, _, q⟩
      · have g := q H2 (e1.trans e2)
        rw [hb] at g
        exact g
      · have g := q H2 (e1.trans e2)
        rw [hb] at g
        exact g
    · rcases q with ⟨rfl, q⟩ | ⟨p, hp, q⟩
      · refine s_ret (ev_andV (a := false) (b := false) (ev_is (ev_op (ev_var rfl) ev_c rv_notN) rfl) fun h => nomatch h) fun H2 e2 => ?_
        have g := q H2 (e1.trans e2)
        rw [hb] at g
        exact g
      · have hn : decide (u = V.non) = false := by
          obtain ⟨b, dy, rfl, _⟩ := hp
          rfl
        refine s_ret (ev_andV (a := true) (b := o.2.any fun x => wkB x p) (ev_is (ev_op (ev_var rfl) ev_c rv_notN) (by rw [hn]; rfl)) fun _ => any_ev (g := fun x => wkB x p) (ev_marks WL.cls WL.nM (ev_var rfl) (e1 _ _ ha)) (e1 _ _ hl) (hrel.mono fun _ _ m => m.ex e1) hz (fun _ => rfl) (fun x y H5 e5 hm => ev_meth2 (ev_var rfl) (ev_var rfl) hm (hp.ex (e1.trans e5)) (fun _ _ => by rfl))) fun H2 e2 => ?_
        have g := q H2 (e1.trans e2)
        rw [hb] at g
        exact g
end
end Z
set_option maxHeartbeats 4000000
namespace Z
open PySem PySem.Spec PyProof.Rows L2 TL Evl NdefX
section
variable {σ : L2.St} {H : Hp} {ta tr : TA} {te : TE} {D : Ends} {C : Addr} {sp : Sp} {dvs xs : List V} {E : XK} {Q : VK} {x : V}
theorem g_ret (h : te σ H fun v H1 => D.rt v H1) : tRet te D σ H := h
theorem rd_mk (h : ta σ H fun vs H1 => ∀ x dx, H1 x = none → H1 dx = none → dx ≠ x → sp (.ref x :: (vs ++ dvs)) (upd (upd H1 dx (.own x)) x (.ins C dx [])) (fun v H2 => v = .non ∧ Q (.ref x) H2) E) : tMake C sp dvs E ta σ H Q := h
theorem rd_consLs {R : List V → Hp → Prop} (h : EvL te σ H xs) (k : ∀ p H1, H p = none → Ex H H1 → H1 p = some (.lst xs) → tr σ H1 fun ys H2 => R (.ref p :: ys) H2) : tCons te tr σ H R := h H (Ex.refl H) _ k
theorem rd_consE {R : List V → Hp → Prop} (h : Ev te σ H x) (k : ∀ H1, Ex H H1 → tr σ H1 fun ys H2 => R (x :: ys) H2) : tCons te tr σ H R := h H (Ex.refl H) _ k
theorem rd_nil {R : List V → Hp → Prop} (h : R [] H) : tNil σ H R := h
end
theorem OMkAt.keep {C p : Addr} {H H' : Hp} {v : V} {o : Option (Str × Bool)} (h : OMkAt C H v o) (k : Keep p H H') (hp : ∃ xs, H p = some (.lst xs)) : OMkAt C H' v o := by
  cases o with
  | none => exact h
  | some q => exact MkAt.keep h k hp
theorem rel_someM {C : Addr} {H : Hp} {xs : List V} {ps : Mks} (h : Rel (OMkAt C H) xs (ps.map some)) : Rel (MkAt C H) xs ps := by
  refine ⟨by rw [h.1, List.length_map], fun i x o a b => ?_⟩
  exact h.2 i x (some o) a (by rw [List.getElem?_map, b]; rfl)
theorem elems_le (z : Str) : (elems z).length ≤ z.length + 1 := by
  unfold elems
  refine Nat.le_trans (List.length_filter_le _ _) ?_
  unfold stripped
  rw [List.length_map]
  exact split_len z
theorem elem_len {z p : Str} (h : p ∈ elems z) : p.length ≤ z.length := by
  obtain ⟨h1, _⟩ := List.mem_filter.mp (show p ∈ (stripped z).filter _ from h)
  unfold stripped at h1
  obtain ⟨p0, h3, e⟩ := List.mem_map.mp h1
  have := split_each h3
  have h5 := strip_len p0 " "
  rw [← e]
  omega
theorem readL_none {z : Str} (h1 : ¬ elems z = [("*" : Str)]) (h2 : elems z = [] ∨ ((elems z).map readZ).any Option.isNone = true) : readL z = none := by
  unfold readL
  rw [if_neg h1, if_pos h2]
theorem readL_some {z : Str} (h1 : ¬ elems z = [("*" : Str)]) (h2 : ¬ (elems z = [] ∨ ((elems z).map readZ).any Option.isNone = true)) : readL z = some (false, (elems z).filterMap readZ) := by
  unfold readL
  rw [if_neg h1, if_neg h2]
section
variable {P : Program} {w : World} {K : PySem.W.Frag} {mg : Str → Option Value} {base : Heap} {f C L DV DM DH : Addr} {fd : FuncData} {k : Nat}
theorem ok_lr (T : Mg mg) (W : Wd P w K mg C DV DM DH) (WL : Wl K mg L) (LI : Li P w K mg base L DV) (c_list_elements : Call P w K mg base 1 "list_elements" ["text"] (sp1L fun z => (elems z).map V.str)) (c_read_mark : Call P w K mg base 5 "read_mark" ["text"] (spReadM C))
    (EM : Ef P w K mg base DM ["self", "text"] "text") (F : FdP K "read" "MarkList.read" s_lr [] f fd) : FnOk P w K mg base (L2N.CX P w) 6 f fd ["text"] (spLr C L DM) := by
  obtain ⟨fi, fdi, ds, its, M, Fi, hb0, hds, hbd, hkb⟩ := LI.ex
  refine FunD.ok F sc_lr (fun vs H Q E h => ?_) (fun cdv A outer s H vs Q E hr h => ?_)
  · obtain ⟨z, rfl, _⟩ := h
    rfl
  · obtain ⟨z, rfl, hz, qn, qs⟩ := h
    refine ⟨_, pss_cons (ps_set (i := 1) sc_lr.nd rfl (Or.inl rfl) (pe_f c_list_elements hr (by decide) rfl (pa_cons (pv 0) pa_nil)))
      (pss_cons (ps_if (pt_cmpR (ZX.op_eqLS hr.units0) (pv 1) (pe_lst (pa_cons pe_str pa_nil)) (nomark _)) (pss_one (ps_ret (pe_make M Fi (hr.mono (by decide)) rfl WL.mL hb0 .nil ZX.passN (pa_cons (pe_lst pa_nil) (pa_cons pe_bl pa_nil))))) pss_nil)
      (pss_cons (ps_setLc (i := 2) (own := [("part", 3)]) (g := gName 3) (tt := tYes) rfl sc_lr.nd rfl rfl (sw_true rfl rfl rfl (by decide +kernel)) (pi_list (pv 1)) (blkOk_by (N := ["text", "parts", "marks", "part", "mark"]) (sc := L2.defScope s_lr) (by decide +kernel)) (fun _ _ _ _ _ => pg_name (i := 3) sc_lr.nd rfl (Or.inl rfl)) (fun _ _ _ _ _ => pts_nil) (fun _ _ _ _ _ => (pe_f c_read_mark hr (by decide) rfl (pa_cons (pv 3) pa_nil))))
      (pss_cons (ps_if (PW.pt (pw_or (pt_not (pt_truth (pv 2) (by intro _; rfl))) (pw_or1 (pt_val (pe_callB (cr_any rfl) (by rfl) T.any (by decide +kernel) (pa_cons (pe_lc (own := [("mark", 4)]) (g := gName 4) (tt := tYes) rfl sc_lr.nd (pi_list (pv 2)) (blkOk_by (N := ["text", "parts", "marks", "part", "mark"]) (sc := L2.defScope s_lr) (by decide +kernel)) (fun _ _ _ _ _ => pg_name (i := 4) sc_lr.nd rfl (Or.inl rfl)) (fun _ _ _ _ _ => pts_nil) (fun _ _ _ _ _ => (pe_cmpR op_isN1 (pv 4) pe_non (nomark _)))) pa_nil))))))
          (pss_one (ps_raiseE EM rfl (L2N.takes_of rfl rfl rfl rfl) (hr.mono (by decide)) rfl W.mM (pa_cons (pv 0) pa_nil))) pss_nil)
      (pss_one (ps_ret (pe_make M Fi (hr.mono (by decide)) rfl WL.mL hbd hds ZX.passN (pa_cons (pv 2) pa_nil))))))), ?_⟩
    refine q_asgL (el_call (ea_cons (ev_var rfl) ea_nil) (sl1 (f := fun z => (elems z).map V.str) hz)) fun l H2 nl e2 h2 => ?_
    refine q_when (b := decide (elems z = [("*" : Str)])) (et_test (ev_opL (ev_var rfl) (el_lst (ea_cons ev_c ea_nil) (by show 1 ≤ _; decide)) (fun p H3 hp e3 => rv_eqLS (xs := elems z) (ys := ["*"]) (sq_of (e3 _ _ h2)) (sq_of hp)))) (fun hb H3 e3 => ?_) (fun hb H3 e3 => ?_)
    · have hs : readL z = some (true, []) := by
        unfold readL
        rw [if_pos (of_decide_eq_true hb)]
      refine g_ret (rd_mk (rd_consLs (el_lst ea_nil (by decide)) fun q H4 nq e4 hq => rd_consE ev_c fun H5 e5 => rd_nil ?_))
      have e05 := ((e2.trans e3).trans e4).trans e5
      exact li_ml (C := C) (os := []) (vs := [.ref q, .bl true]) (dvs := []) rfl (e5 _ _ hq) (by show 0 ≤ _; decide) Rel.nil rfl fun v l' H6 nl' e6 hv => qs _ hs v l' H6 (fresh_back e05 nl') (e05.trans e6) hv
    have hns := of_decide_eq_false hb
    have hle := elems_le z
    refine q_in ?_; dsimp only
    refine g_asg ?_
    refine ⟨.ref l, rfl, l, rfl, ⟨_, sq_of (e3 _ _ h2)⟩, fun D hD => ?_⟩
    refine lc_rel (α := Option (Str × Bool)) (fun i => ((elems z).take i).map readZ) (OMkAt C) (fun _ _ _ _ k hD r => r.keep k hD) (sq_of (e3 _ _ h2)) hD rfl (by rw [List.length_map]; omega) (fun i x H4 hi e4 k k0 hk _ => ?_) (fun H4 ys e4 hy hrel => ?_)
    · obtain ⟨hi2, ex, hm⟩ := at_str hi ("" : Str)
      subst ex
      have hw := elem_len hm
      refine ⟨rfl, ?_⟩
      unfold tYes
      dsimp only
      rw [if_pos rfl]
      have ht : (elems z)[i]? = some ((elems z).getD i "") := by
        rw [List.getD_eq_getElem?_getD, List.getElem?_eq_getElem hi2]; rfl
      have hacc : ((elems z).take (i + 1)).map readZ = ((elems z).take i).map readZ ++ [readZ ((elems z).getD i "")] := by
        rw [List.take_add_one, ht, List.map_append]
        rfl
      refine rd_call (ea_cons (ev_var rfl) ea_nil) fun H5 e5 => ⟨_, rfl, by omega, fun hn H6 e6 => ?_, fun t b hs a dx H6 ha e6 hi => ?_⟩
      · exact hk _ H6 _ (e5.trans e6) hacc (by rw [hn]; rfl)
      · exact hk _ H6 _ (e5.trans e6) hacc (by rw [hs]; exact ⟨a, dx, rfl, hi⟩)
    · rw [List.length_map, List.take_length] at hrel
      have e04 : Ex H H4 := (e2.trans e3).trans e4
      refine g_name ?_; dsimp only
      have hlen := hrel.1
      have hemp : ys.isEmpty = decide (elems z = []) := by
        rw [List.length_map] at hlen
        cases hy0 : ys with
        | nil =>
          rw [hy0] at hlen
          exact (decide_eq_true (List.length_eq_zero_iff.mp hlen.symm)).symm
        | cons y r =>
          rw [hy0] at hlen
          refine (decide_eq_false fun e => ?_).symm
          rw [e] at hlen
          cases hlen
      refine q_when (b := decide (elems z = []) || (((elems z).map readZ).map Option.isNone).any id) (et_or (et_is (et_not (et_truL (ev_var rfl) (sq_of hy))) (by rw [Bool.not_not, hemp])) fun hlt => et_B (ev_any ?_)) (fun hb H5 e5 => ?_) (fun hb H5 e5 => ?_)
      · have e : given ys.length (fun _ => true) (fun i => .bl ((((elems z).map readZ).getD i none).isNone)) = (((elems z).map readZ).map Option.isNone).map V.bl := by
          rw [hlen, given_all ((elems z).map readZ) none (fun _ => true) (fun o => .bl o.isNone), List.filter_eq_self.mpr (fun _ _ => rfl)]
          simp only [List.map_map]
          rfl
        rw [← e]
        refine el_lcL (fun _ => true) (fun i => .bl ((((elems z).map readZ).getD i none).isNone)) (ev_var rfl) (sq_of hy) (by rw [hlen, List.length_map]; omega) (fun _ => rfl) (fun i x H5 e5 hx => et_yes) (fun i x H5 e5 hx _ => ?_)
        obtain ⟨o, ho, hr⟩ := hrel.get hx
        refine ev_is (ev_op (ev_var rfl) ev_c rv_isN) ?_
        rw [omk_non hr, List.getD_eq_getElem?_getD, ho]
        rfl
      · have hn : readL z = none := by
          refine readL_none hns ?_
          rw [Bool.or_eq_true, decide_eq_true_eq, List.any_map] at hb
          exact hb
        exact mk_err1 (ea_cons (ev_var rfl) ea_nil) (by omega) fun d H' hd ex hx => qn hn d H' (fresh_back (e04.trans e5) hd) ((e04.trans e5).trans ex) hx
      · rw [Bool.or_eq_false_iff, decide_eq_false_iff_not, List.any_map] at hb
        have h2 : ((elems z).map readZ).any Option.isNone = false := hb.2
        have hs := readL_some hns (fun h => by
          rcases h with h | h
          · exact hb.1 h
          · rw [h2] at h
            cases h)
        rw [all_someM _ h2] at hrel
        have hr2 := rel_someM hrel
        have ef : ((elems z).map readZ).filterMap id = (elems z).filterMap readZ := by
          rw [List.filterMap_map]
          rfl
        rw [ef] at hr2
        have hl2 : ys.length ≤ 40000 := by
          have := hrel.1
          rw [List.length_map] at hlen
          omega
        refine g_ret (rd_mk (rd_consE (ev_var rfl) fun H6 e6 => rd_nil ?_))
        have e06 := (e04.trans e5).trans e6
        exact li_ml (C := C) (vs := [.ref D]) (dvs := [.bl false]) rfl ((e5.trans e6) _ _ hy) hl2 (hr2.mono fun _ _ m => m.ex (e5.trans e6)) rfl fun v l' H7 nl' e7 hv => qs _ hs v l' H7 (fresh_back e06 nl') (e06.trans e7) hv
end
end Z
set_option maxHeartbeats 4000000
namespace Z
open PySem PySem.Spec PyProof.Rows L2 TL Evl NdefX
/-! ### sums -/
def stepU (acc : Mks) (x : Str × Bool) : Mks := if x ∈ acc then acc else acc ++ [x]
theorem uniq_snoc (os : Mks) (o : Str × Bool) : uniq (os ++ [o]) = stepU (uniq os) o := by
  unfold uniq stepU
  rw [List.foldl_append]
  rfl
theorem uniq_mem : ∀ (os : Mks) (acc : Mks) {x : Str × Bool}, x ∈ os.foldl (fun acc x => if x ∈ acc then acc else acc ++ [x]) acc → x ∈ acc ∨ x ∈ os
  | [], _, _, h => .inl h
  | o :: r, acc, x, h => by
    rw [List.foldl_cons] at h
    rcases uniq_mem r _ h with h | h
    · split at h
      · exact .inl h
      · rcases List.mem_append.mp h with h | h
        · exact .inl h
        · rw [List.mem_singleton.mp h]
          exact .inr List.mem_cons_self
    · exact .inr (List.mem_cons_of_mem _ h)
theorem uniq_ok {os : Mks} (h : okM os) : okM (uniq os) := fun o ho => by
  rcases uniq_mem os [] ho with z | z
  · cases z
  · exact h o z
theorem uniq_le (os : Mks) : ∀ acc : Mks, (os.foldl (fun acc x => if x ∈ acc then acc else acc ++ [x]) acc).length ≤ acc.length + os.length := by
  induction os with
  | nil => exact fun _ => Nat.le_refl _
  | cons o r ih =>
    intro acc
    rw [List.foldl_cons]
    refine Nat.le_trans (ih _) ?_
    split
    · rw [List.length_cons]; omega
    · rw [List.length_append, List.length_cons, List.length_cons, List.length_nil]; omega
theorem uniq_len (os : Mks) : (uniq os).length ≤ os.length := by
  have := uniq_le os []
  rw [List.length_nil, Nat.zero_add] at this
  exact this
def keyM (o : Str × Bool) : Key := .inr (wrZ o.1 o.2)
theorem keyM_inj {a b : Str × Bool} (ha : markB a.1 = true) (h : keyM a = keyM b) (hb : markB b.1 = true) : a = b := by
  have e : wrZ a.1 a.2 = wrZ b.1 b.2 := Sum.inr.inj h
  have h1 := read_wr (b := a.2) ha
  rw [e, read_wr (b := b.2) hb] at h1
  have := Option.some.inj h1
  exact this.symm
theorem key_in {kvs : List (Key × V)} {us : Mks} {o : Str × Bool} (hk : kvs.map Prod.fst = us.map keyM) (hu : okM us) (ho : markB o.1 = true) : (valV kvs (keyM o)).isSome = decide (o ∈ us) := by
  rw [← valV_any]
  have e : (kvs.any fun kv => decide (kv.1 = keyM o)) = ((kvs.map Prod.fst).any fun k => decide (k = keyM o)) := by rw [List.any_map]; rfl
  rw [e, hk, List.any_map]
  by_cases h : o ∈ us
  · rw [decide_eq_true h]
    exact List.any_eq_true.mpr ⟨o, h, decide_eq_true rfl⟩
  · rw [decide_eq_false h]
    refine Bool.eq_false_iff.mpr fun z => ?_
    obtain ⟨x, hx, hk2⟩ := List.any_eq_true.mp z
    have := keyM_inj (hu x hx) (of_decide_eq_true hk2) ho
    rw [this] at hx
    exact h hx
theorem MkAt.updN {C d : Addr} {H : Hp} {v : V} {o : Str × Bool} {u : HO} (h : MkAt C H v o) (hd : ∀ dx fs, H d ≠ some (.ins C dx fs)) : MkAt C (upd H d u) v o := by
  obtain ⟨a, dx, rfl, ha⟩ := h
  refine ⟨a, dx, rfl, ?_⟩
  rw [upd_ne (fun e => hd dx _ (by rw [← e]; exact ha))]
  exact ha
theorem ea_star {K : PySem.W.Frag} {σ : L2.St} {H : Hp} {te : TE} {tr : TA} {l : Addr} {xs ys : List V} (h : Ev te σ H (.ref l)) (hl : SqL K H l xs) (hr : EvA tr σ H ys) : EvA (StX.tStar K te tr) σ H (xs ++ ys) := fun H1 e Q q =>
  h H1 e _ fun H2 e2 => ⟨l, xs, rfl, .inr (ex_l (e.trans e2) hl), hr H2 (e.trans e2) _ fun H3 e3 => q H3 (e2.trans e3)⟩
theorem ea_star1 {K : PySem.W.Frag} {σ : L2.St} {H : Hp} {te : TE} {l : Addr} {xs : List V} (h : Ev te σ H (.ref l)) (hl : SqL K H l xs) : EvA (StX.tStar K te tNil) σ H xs := by
  have := ea_star (K := K) h hl (ea_nil)
  rw [List.append_nil] at this
  exact this
theorem ev_dni {σ : L2.St} {H : Hp} {ty : TE} {i : Nat} {d : Addr} {z : Str} {kvs : List (Key × V)} (h : Ev ty σ H (.str z)) (hi : σ[i]? = some (some (.ref d))) (hd : H d = some (.dK kvs)) : Ev (tDNotIn ty (tVar i)) σ H (.bl (!(valV kvs (.inr z)).isSome)) := fun H1 e Q q =>
  h H1 e _ fun H2 e2 => ⟨_, hi, d, _, rfl, DGet.k (k := .inr z) ((e.trans e2) _ _ hd), q H2 e2⟩
theorem q_dput {σ : L2.St} {H : Hp} {ty : TE} {i j : Nat} {d : Addr} {z : Str} {v : V} {kvs : List (Key × V)} {D : Ends} (hj : σ[j]? = some (some v)) (hi : σ[i]? = some (some (.ref d))) (h : Ev ty σ H (.str z)) (hd : H d = some (.dK kvs)) (hl : kvs.length < 50000)
    (k : ∀ H1, Ex H H1 → D.nx σ (upd H1 d (.dK (putK kvs (.inr z) v)))) : sDPut (tVar i) ty (tVar j) D σ H :=
  ⟨v, hj, _, hi, h H (Ex.refl H) _ fun H1 e1 => ⟨d, _, rfl, DPut.k (k := .inr z) (e1 _ _ hd) (sz_lt (by omega)), k H1 e1⟩⟩
theorem Rel.app {α : Type} {R : V → α → Prop} {xs ys : List V} {os ps : List α} (h : Rel R xs os) (h2 : Rel R ys ps) : Rel R (xs ++ ys) (os ++ ps) := by
  refine ⟨by rw [List.length_append, List.length_append, h.1, h2.1], fun i y u a b => ?_⟩
  by_cases hi : i < xs.length
  · rw [List.getElem?_append_left hi] at a
    rw [List.getElem?_append_left (by rw [← h.1]; exact hi)] at b
    exact h.2 i y u a b
  · rw [List.getElem?_append_right (by omega)] at a
    rw [List.getElem?_append_right (by rw [← h.1]; omega), ← h.1] at b
    exact h2.2 _ y u a b
theorem _root_.L2.Room.units1 {k : Nat} {A : Around} (r : Room k A) : A.units + 1 < cLine := by have := r.un; omega
theorem _root_.L2.Room.units65 {k : Nat} {A : Around} (r : Room k A) : A.units + 65 < cLine := by have := r.un; omega
structure AdI (C : Addr) (H0 : Hp) (d p : Addr) (xs : List V) (us : Mks) (H' : Hp) : Prop where
  ex : Ex H0 H'
  hp : H' p = some (.lst xs)
  kv : ∃ kvs, H' d = some (.dK kvs) ∧ kvs.map Prod.fst = us.map keyM ∧ Rel (MkAt C H') (kvs.map Prod.snd) us
theorem AdI.e {C d p : Addr} {H0 H1 H2 : Hp} {xs : List V} {us : Mks} (h : AdI C H0 d p xs us H1) (e : Ex H1 H2) : AdI C H0 d p xs us H2 := by
  obtain ⟨kvs, h1, h2, h3⟩ := h.kv
  exact ⟨h.ex.trans e, e _ _ h.hp, kvs, e _ _ h1, h2, h3.mono fun _ _ m => m.ex e⟩
section
variable {P : Program} {w : World} {K : PySem.W.Frag} {mg : Str → Option Value} {base : Heap} {f C L DV DM DH : Addr} {fd : FuncData} {k : Nat}
theorem ok_la (T : Mg mg) (W : Wd P w K mg C DV DM DH) (WL : Wl K mg L) (LI : Li P w K mg base L DV) (MM : Mm P w K mg base C) (F : FdP K "__add__" "MarkList.__add__" s_la [] f fd) : FnOk P w K mg base CX0 5 f fd ["self", "other"] (spLa C L) := by
  obtain ⟨fi, fdi, ds, its, M, Fi, hb0, hds, hbd, hkb⟩ := LI.ex
  obtain ⟨fs, dss, fw, dw, fe, ft, ms, Fs, hbs, mw, Fw, hbw, he1, he2, Fe, ht1, ht2, Ft⟩ := MM.ex
  refine FunD.ok F sc_la (fun vs H Q E h => ?_) (fun cdv A outer s H vs Q E hr h => ?_)
  · obtain ⟨v, u, o1, o2, rfl, _⟩ := h
    rfl
  · obtain ⟨v, u, o1, o2, rfl, ⟨l1, a1, dx1, vs1, rfl, ha1, hl1, hr1⟩, ⟨l2, a2, dx2, vs2, rfl, ha2, hl2, hr2⟩, ok1, ok2, hz, q⟩ := h
    refine ⟨_, pss_cons (ps_if (PW.pt (pw_or (pt_truth (pe_fld (pv 0) rfl) (by intro _; rfl)) (pw_or1 (pt_truth (pe_fld (pv 1) rfl) (by intro _; rfl))))) (pss_one (ps_ret (pe_make M Fi (hr.mono (by decide)) rfl WL.mL hb0 .nil ZX.passN (pa_cons (pe_lst pa_nil) (pa_cons pe_bl pa_nil))))) pss_nil)
      (pss_cons (ps_set (i := 2) sc_la.nd rfl (Or.inl rfl) pe_dnewK)
      (pss_cons (ps_for (passes_of rfl) rfl (pi_list (pe_lst (StX.pa_star (pe_fld (pv 0) rfl) (StX.pa_star (pe_fld (pv 1) rfl) pa_nil)))) (pg_name (i := 3) sc_la.nd rfl (Or.inl rfl))
          (pss_one (ps_if (pt_cmp (pc_dnotin hr.units1 (pe_callTy (ZX.call_strOwn (E := E0) ht1 ht2 Ft (hr.mono (by decide)) (fun _ _ _ _ h => h.elim)) (by rfl) T.str (by decide +kernel) (pa_cons (pv 3) pa_nil)) (pv 2)))
            (pss_one (ps_dput hr.units1 (pv 2) (pe_callTy (ZX.call_strOwn (E := E0) ht1 ht2 Ft (hr.mono (by decide)) (fun _ _ _ _ h => h.elim)) (by rfl) T.str (by decide +kernel) (pa_cons (pv 3) pa_nil)) (pv 3) rfl)) pss_nil)))
      (pss_one (ps_ret (pe_make M Fi (hr.mono (by decide)) rfl WL.mL hbd hds ZX.passN (pa_cons (ZX.pe_listVals rfl (pv 2) (by rfl) T.list (by decide +kernel)) pa_nil)))))), ?_⟩
    refine q_when (b := o1.1 || o2.1) (et_or (et_truB (ev_star WL.cls WL.nS (ev_var rfl) ha1)) fun _ => et_truB (ev_star WL.cls WL.nS (ev_var rfl) ha2)) (fun hb H1 e1 => ?_) (fun hb H1 e1 => ?_)
    · have hs : sumL o1 o2 = (true, []) := if_pos hb
      refine g_ret (rd_mk (rd_consLs (el_lst ea_nil (by decide)) fun p H4 np e4 hp => rd_consE ev_c fun H5 e5 => rd_nil ?_))
      have e05 := (e1.trans e4).trans e5
      exact li_ml (C := C) (os := []) (vs := [.ref p, .bl true]) (dvs := []) rfl (e5 _ _ hp) (by show 0 ≤ _; decide) Rel.nil rfl fun v l' H6 nl' e6 hv => q v l' H6 (fresh_back e05 nl') (e05.trans e6) (by rw [hs]; exact hv)
    have hs : sumL o1 o2 = (false, uniq (o1.2 ++ o2.2)) := if_neg (by rw [hb]; exact Bool.false_ne_true)
    have hok : okM (o1.2 ++ o2.2) := fun o ho => by
      rcases List.mem_append.mp ho with h | h
      · exact ok1 o h
      · exact ok2 o h
    have hrel : Rel (MkAt C H1) (vs1 ++ vs2) (o1.2 ++ o2.2) := (hr1.mono fun _ _ m => m.ex e1).app (hr2.mono fun _ _ m => m.ex e1)
    refine q_in ?_; dsimp only
    refine g_asg fun d nd => ?_
    refine g_name ?_; dsimp only
    have ed : Ex H1 (upd H1 d (.dK [])) := Ex.new nd
    refine q_forNLn (xs := vs1 ++ vs2) (el_lst (ea_star (ev_marks WL.cls WL.nM (ev_var rfl) (ed _ _ (e1 _ _ ha1))) (sq_of (ed _ _ (e1 _ _ hl1))) (ea_star1 (ev_marks WL.cls WL.nM (ev_var rfl) (ed _ _ (e1 _ _ ha2))) (sq_of (ed _ _ (e1 _ _ hl2))))) (by rw [List.length_append, hr1.1, hr2.1]; omega))
      (fun p i σ' H' => (∃ v3, σ' = [some (.ref a1), some (.ref a2), some (.ref d), v3]) ∧ p ≠ d ∧ AdI C H1 d p (vs1 ++ vs2) (uniq ((o1.2 ++ o2.2).take i)) H') (fun p H2 np e2 hp => ⟨⟨none, rfl⟩, fun e => ?_, ?_⟩) (fun p i σ' H' _ pv => sq_of pv.2.2.hp) (fun p i x σ' H' hx pv => ?_) (fun p σ' H' pv => ?_)
    · rw [e, upd_same] at np
      cases np
    · exact ⟨ed.trans e2, hp, [], e2 _ _ upd_same, rfl, Rel.nil⟩
    · obtain ⟨⟨v3, rfl⟩, npd, ai⟩ := pv
      obtain ⟨o, ho, hxo⟩ := hrel.get hx
      have hxm := hxo.ex ai.ex
      have hom := hok o (List.mem_of_getElem? ho)
      have hol : o.1.length ≤ 90000 := by have := (markB_iff.mp hom).1.2; omega
      have hus : okM (uniq ((o1.2 ++ o2.2).take i)) := uniq_ok fun y hy => hok y (List.mem_of_mem_take hy)
      have hnext : uniq ((o1.2 ++ o2.2).take (i + 1)) = stepU (uniq ((o1.2 ++ o2.2).take i)) o := by
        rw [List.take_add_one, ho]
        exact uniq_snoc _ _
      obtain ⟨kvs, hkv, hk1, hk2⟩ := ai.kv
      have hin := key_in hk1 hus hom
      refine s_when (b := !decide (o ∈ uniq ((o1.2 ++ o2.2).take i))) (et_B (ev_is (ev_dni (ev_strO (o := o) (ev_var rfl) hxm hol) rfl hkv) (congrArg (fun b : Bool => V.bl (!b)) hin))) (fun hb2 H3 e3 => ?_) (fun hb2 H3 e3 => ?_)
      · rw [Bool.not_eq_true', decide_eq_false_iff_not] at hb2
        have a3 := ai.e e3
        have hlen : kvs.length ≤ 35000 := by
          have h1 := congrArg List.length hk1
          rw [List.length_map, List.length_map] at h1
          have h2 := uniq_len ((o1.2 ++ o2.2).take i)
          have h3 : ((o1.2 ++ o2.2).take i).length ≤ (o1.2 ++ o2.2).length := by rw [List.length_take]; omega
          rw [List.length_append] at h3
          omega
        refine q_dput (v := x) rfl rfl (ev_strO (o := o) (ev_var rfl) (hxm.ex e3) hol) (e3 _ _ hkv) (by omega) fun H4 e4 => ⟨⟨_, rfl⟩, npd, ?_⟩
        have a4 := a3.e e4
        have hv0 : valV kvs (.inr (wrZ o.1 o.2)) = none := by
          have h1 : (valV kvs (keyM o)).isSome = false := by rw [hin]; exact decide_eq_false hb2
          exact Option.isNone_iff_eq_none.mp (by rw [← Option.not_isSome, show (valV kvs (.inr (wrZ o.1 o.2))).isSome = false from h1]; rfl)
        have hd4 : ∀ dx fs, H4 d ≠ some (.ins C dx fs) := fun dx fs e => by
          rw [(e3.trans e4) _ _ hkv] at e
          cases e
        refine ⟨Ex.mut a4.ex nd, by rw [upd_ne npd]; exact a4.hp, kvs ++ [(keyM o, x)], ?_, ?_, ?_⟩
        · rw [upd_same, putK_new _ hv0]
          rfl
        · rw [hnext, List.map_append, hk1]
          unfold stepU
          rw [if_neg hb2, List.map_append]
          rfl
        · rw [hnext, List.map_append]
          unfold stepU
          rw [if_neg hb2]
          exact Rel.snoc (hk2.mono fun _ _ m => (m.ex (e3.trans e4)).updN hd4) ((hxm.ex (e3.trans e4)).updN hd4)
      · rw [Bool.not_eq_false', decide_eq_true_eq] at hb2
        refine ⟨⟨_, rfl⟩, npd, ?_⟩
        rw [hnext]
        unfold stepU
        rw [if_pos hb2]
        exact ai.e e3
    · obtain ⟨⟨v3, rfl⟩, npd, ai⟩ := pv
      obtain ⟨kvs, hkv, hk1, hk2⟩ := ai.kv
      have htake : (o1.2 ++ o2.2).take (vs1 ++ vs2).length = o1.2 ++ o2.2 := by rw [hrel.1, List.take_length]
      rw [htake] at hk2
      refine g_ret (rd_mk ?_)
      refine ⟨_, rfl, d, kvs, rfl, hkv, fun r nr => rd_nil ?_⟩
      have e1r : Ex H (upd H' r (.lst (kvs.map Prod.snd))) := (e1.trans ai.ex).trans (Ex.new nr)
      have hlen : (kvs.map Prod.snd).length ≤ 40000 := by
        rw [hk2.1]
        have h2 := uniq_len (o1.2 ++ o2.2)
        rw [List.length_append] at h2
        omega
      exact li_ml (C := C) (vs := [.ref r]) (dvs := [.bl false]) rfl upd_same hlen (hk2.mono fun _ _ m => m.ex (Ex.new nr)) rfl fun v l' H6 nl' e6 hv => q v l' H6 (fresh_back e1r nl') (e1r.trans e6) (by rw [hs]; exact hv)
end
end Z
set_option maxHeartbeats 2000000
namespace ZX
open PySem PySem.Spec PyProof.Rows L2 He
/-! ### C.m(e, ..), m a def of the class (the object is given); cls(e, ..), cls a local -/
structure CFn (K : PySem.W.Frag) (C : Addr) (mc : Value) (m : Str) (g : Addr) : Prop where
  rd : ClX.CRead K C mc
  at_ : ClX.CVal K C mc m (.ref g) (.ref g)
  kp : PySem.W.keepIn K (.ref g) = true
section
variable {X : Cx} {CX : CXT} {k i : Nat} {C p g f : Addr} {mc : Value} {fd : FuncData} {ps : List Str} {sp : Sp} {E : L2.St → XK} {E1 : XK} {o e : Expr} {es : List Expr} {m x : Str} {pos apos xp : Pos} {ta : TE} {t : TA} {pl : Sem Bool} {dvs : List V} {ds : List Value}
theorem pe_clsFn (he : PE X o ta) (c : CFn X.K C mc m g) (F : FnOk X.prog X.w X.K X.mg X.base CX k g fd ps sp) (hb : Binds X.K fd ps []) (hr : Room k X.A) (hx : ∀ σ, PassesAt CX X σ (E σ)) (ha : PA X (e :: es) t)
    (hst : starEach (e :: es) X.env = (false, eval e X.env) :: starEach es X.env := by rfl) (hpl : (backTo pos (starEach es X.env)).any (·.1) = false := by rfl)
    (ht : eval (.Call (.Attribute o m apos) (e :: es) [] pos) X.env = (do
      let ov ← eval o X.env
      standAt apos.atName
      let (f, first) ← holding [ov] (getMethod ov m pl)
      callWith pos f first (backTo pos (starEach (e :: es) X.env)) (backToKw pos (keywordEach [] X.env))) := by rfl) :
    PE X (.Call (.Attribute o m apos) (e :: es) [] pos) (tStatS C sp E ta t) := by
  refine ⟨fun pins s σ H Q I h => ?_⟩
  refine PySem.W.methodCall_KW (pl := pl) (thn (he.run pins s σ H _ I h) fun u s1 ⟨x, H1, I1, rx, ex, q⟩ => ?_) ht
  subst ex
  obtain rfl : u = Value.ref C := rx
  refine PySem.W.method_cls I1.kIn c.rd.ga (ClX.getcval_ok I1 c.rd c.at_ fun s2 I2 => ?_)
  refine PySem.W.callWith_K (h₀ := X.base) I2.ok.mod.kin c.kp (thn (ha.run pos pins _ σ H1 _ I2 q) fun us s2 ⟨vs, H2, I3, r, q2⟩ => ⟨I3.kIn, ?_⟩) hst hpl
  exact run_fnS F hr hb (hx σ) I3 r q2
/-- cls(e, ..) -/
def tMakeV (i : Nat) (C : Addr) (sp : Sp) (dvs : List V) (E : XK) (t : TA) : TE := fun σ H Q => σ[i]? = some (some (.ref C)) ∧ tMake C sp dvs E t σ H Q
theorem pe_makeV (M : Mk X.K C f) (F : FnOk X.prog X.w X.K X.mg X.base CX k f fd ps sp) (hr : Room (k + 1) X.A) (hN : X.N[i]? = some x) (hv : Vis X.env.scope x) (hb : Binds X.K fd ps ds) (hd : Vals dvs ds) (hx : Passes CX X E1) (ha : PA X (e :: es) t)
    (hdb : (x == ("__debug__" : Str)) = false := by decide) (hcd : (x == ("__classdict__" : Str)) = false := by decide)
    (he : starEach (e :: es) X.env = (false, eval e X.env) :: starEach es X.env := by rfl) (hpl : (backTo pos (starEach es X.env)).any (·.1) = false := by rfl) : PE X (.Call (.Name x xp) (e :: es) [] pos) (tMakeV i C sp dvs E1 t) := by
  refine ⟨fun pins s σ H Q I h => ?_⟩
  obtain ⟨hs, ht⟩ := h
  refine wpAny_Call_Name_kw (thn ((pe_var (pos := xp) hN hv hdb hcd).run pins s σ H (fun v H1 => v = .ref C ∧ H1 = H) I ⟨.ref C, hs, rfl, rfl⟩) fun u s1 ⟨v, H1, I1, r1, q1⟩ => ?_)
  obtain ⟨rfl, rfl⟩ := q1
  cases r1
  refine PySem.W.callWith_K (h₀ := X.base) I1.ok.mod.kin M.kp (thn (ha.run pos pins s1 σ _ _ I1 ht) fun us s2 ⟨vs, H2, I2, r, q⟩ => ⟨I2.kIn, ?_⟩) he hpl
  exact run_make M F hr hb hd hx I2 r q
end
/-! ### facts -/
theorem read_ok {K : PySem.W.Frag} {x : Str} (h : readB K x = true) : ClX.CRead K (ga K x) (.type "type") := by
  obtain ⟨a1, a2⟩ := ba h
  exact ⟨a1, eqO_ok a2⟩
/-- a def of the class x, read off the class y (or one below it) -/
theorem cfn_ok {K : PySem.W.Frag} {x m : Str} (h : cfnB K x m = true) : CFn K (ga K x) (.type "type") m (ma K (ga K x) m) := by
  obtain ⟨a1, h⟩ := ba h
  obtain ⟨a2, a3⟩ := ba h
  refine ⟨read_ok a1, ⟨?_, rfl⟩, a3⟩
  split at a2
  · rename_i g z
    rw [z, of_decide_eq_true a2]
  · cases a2
/-- a class's whole number -/
theorem cint_ok {K : PySem.W.Frag} {x m : Str} {n : Int} (h : cintB K x m n = true) : ∃ u, ClX.CVal K (ga K x) (.type "type") m (.int n) u := by
  unfold cintB at h
  split at h
  · rename_i i t z
    have e : i = n := of_decide_eq_true h
    subst e
    exact ⟨_, z, t, rfl⟩
  · cases h
/-- a class's tuple of texts -/
theorem strVs_ok : ∀ {vs : List Value} {zs : List Str}, strVs vs zs = true → Vals (zs.map V.str) vs
  | [], [], _ => .nil
  | [], _ :: _, h => by cases h
  | v :: vs, [], h => by cases v <;> cases h
  | v :: vs, y :: ys, h => by
    cases v with
    | str z t =>
      obtain ⟨h1, h2⟩ := ba h
      have e : z = y := of_decide_eq_true h1
      exact .cons ⟨t, by rw [e]⟩ (strVs_ok h2)
    | _ => cases h
theorem ctup_ok {K : PySem.W.Frag} {x m : Str} {zs : List Str} (h : ctupB K x m zs = true) : ClX.CVal K (ga K x) (.type "type") m (.ref (ctOf K x m)) (.ref (ctOf K x m)) ∧ ∀ H, SqT K H (ctOf K x m) (zs.map V.str) := by
  obtain ⟨a1, a2⟩ := ba h
  refine ⟨⟨?_, rfl⟩, fun H => ?_⟩
  · split at a1
    · rename_i p z
      rw [z, of_decide_eq_true a1]
    · cases a1
  · split at a2
    · rename_i t d its n sl z
      obtain ⟨b1, b2⟩ := ba a2
      obtain ⟨b3, b4⟩ := ba b2
      have e : t = "tuple" := of_decide_eq_true b1
      subst e
      exact .inr ⟨_, its, n, z, rfl, rfl, Nat.le_trans (of_decide_eq_true b3) (by decide), strVs_ok b4⟩
    · cases a2
/-- a classmethod -/
theorem cmet_ok {K : PySem.W.Frag} {x m : Str} (h : cmetB K x m = true) : ClX.CMet K (ga K x) (.type "type") m (ma K (ga K x) m) ((Pl.rcd "classmethod" x m).ad K) := by
  obtain ⟨a3, h⟩ := ba h
  obtain ⟨a4, a5⟩ := ba h
  refine ⟨?_, ?_, a5⟩
  · split at a3
    · rename_i n p C z
      obtain ⟨b1, b2⟩ := ba a3
      obtain ⟨b3, b4⟩ := ba b2
      rw [z, of_decide_eq_true b1, of_decide_eq_true b3, of_decide_eq_true b4]
    · cases a3
  · split at a4
    · rename_i g r z
      exact ⟨r, by rw [z, of_decide_eq_true a4]⟩
    · cases a4
/-- a property's getter -/
theorem prop_ok {K : PySem.W.Frag} {x m : Str} (h : propB K x m = true) : PropOf K (ga K x) m (ma K (ga K x) m) ((Pl.rcd "property" x m).ad K) := by
  obtain ⟨a1, h⟩ := ba h
  obtain ⟨a2, h⟩ := ba h
  obtain ⟨a3, a4⟩ := ba h
  refine ⟨eqO_ok a1, eqO_ok a2, of_decide_eq_true a3, ?_⟩
  split at a4
  · rename_i g r z
    exact ⟨r, by rw [z, of_decide_eq_true a4]⟩
  · cases a4
end ZX
set_option maxHeartbeats 2000000
namespace Z
open PySem PySem.Spec PyProof.Rows L2 TL
/-! ### defs with text.replace(y, z) -/
section
variable {P : Program} {w : World} {K : PySem.W.Frag} {mg : Str → Option Value} {base : Heap} {x : Str} {st : Stmt} {f : Addr} {fd : FuncData} {N ps : List Str} {k : Nat} {sp : Sp}
theorem mkT (F : FnP K x st f fd) (gm : mg x = some (.ref f))
    (hb : ∀ (kV doc pm : Value) (an : Option Addr) (cdv ct : Value) (us : List Value), us.length = ps.length → bindArgs (PySem.W.fnOf x x (L2.defArgs st) (L2.defBody st) (L2.defScope st) .none kV doc pm an cdv ct) ⟨us, []⟩ = pure (ps.zip us))
    (hk : ∀ (kV doc pm : Value) (an : Option Addr) (cdv ct : Value) (ws : List Value), ws.length = ps.length → bindArgs (PySem.W.fnOf x x (L2.defArgs st) (L2.defBody st) (L2.defScope st) .none kV doc pm an cdv ct) ⟨[], ps.zip ws⟩ = pure (ps.zip ws))
    (S : FnScope N ps (L2.defScope st)) (hnc : ∀ y ∈ (L2.defScope st).names, y.2 ≠ .cell) (hps : 1 ≤ ps.length) (len : ∀ vs H Q E, sp vs H Q E → vs.length = ps.length)
    (hbody : ∀ (cdv : Value) (A : Around) (outer : List Env) (s : Shared) (H : Hp) (vs : List V) (Q : VK) (E : XK), Room k (A.deeper (envOfC x (L2.defScope st) s.heap.objs.size f cdv)) → sp vs H Q E →
      ∃ t, PSsT (cxOf CX0 P w K mg base N x (L2.defScope st) f cdv A outer s H E) (L2.defBody st) t ∧ t { nx := fun _ H' => Q .non H', rt := Q } (start N vs) H) : Call P w K mg base (k + 1) x ps sp := by
  refine ⟨f, fd, ?_, gm, F.kp, F.bindsN hb, kbn F hk⟩
  obtain ⟨oc, od, dflt, kwd, doc, mod, ann, code, tp, osl, isFd, lk, hcd, none_given, _⟩ := F.ex
  rw [isFd] at lk ⊢
  exact L2.fn_ofT lk hcd S hnc hps len fun A outer s H vs Q E hr h => hbody code A outer s H vs Q E hr h
end
section
variable {X : Cx} {k j : Nat} {x : Str} {ps : List Str} {sp : Sp} {p pos : Pos} {e : Expr} {es : List Expr} {t : TA}
theorem pet_f (c : Call X.prog X.w X.K X.mg X.base k x ps sp) (hr : Room j X.A) (hk : k ≤ j) (hg : Gl X x) (ha : PAT X (e :: es) t)
    (hdb : (x == ("__debug__" : Str)) = false := by decide) (he : starEach (e :: es) X.env = (false, eval e X.env) :: starEach es X.env := by rfl) (hpl : (backTo pos (starEach es X.env)).any (·.1) = false := by rfl) :
    PET X (.Call (.Name x p) (e :: es) [] pos) (tCall sp [] E0 t) := by
  obtain ⟨f, fd, F, hm, kp, b, _⟩ := c.ex
  intro pins s σ H Q h0 I h
  refine wpAny_Call_Name_kw (ld_glob I hg hm ?_ hdb)
  refine PySem.W.callWith_K (h₀ := X.base) I.ok.mod.kin kp (thn (ha pos pins s σ H _ h0 I h) fun us s1 ⟨vs, H1, I1, r, q⟩ => ⟨I1.kIn, ?_⟩) he hpl
  exact run_fn F (hr.mono hk) b .nil pass0 I1 r q
end
end Z
set_option maxHeartbeats 2000000
namespace Z
open PySem PySem.Spec PyProof.Rows L2 TL Evl
/-! ### text.replace(one character, "") -/
def splN (n : Nat) : List Nat → List Nat → List (List Nat)
  | acc, [] => [acc]
  | acc, c :: r => if c = n then acc :: splN n [] r else splN n (acc ++ [c]) r
theorem spl_splN (n : Nat) : ∀ (l acc : List Nat), spl [n] 0 acc l = splN n acc l
  | [], acc => spl_nil _ _ _
  | c :: r, acc => by
    have hp : pre [n] (c :: r) = decide (c = n) := by
      show ([c] == [n]) = decide (c = n)
      by_cases h : c = n
      · rw [h, decide_eq_true rfl]; exact beq_self_eq_true _
      · rw [decide_eq_false h]
        exact beq_eq_false_iff_ne.mpr fun e => h (by cases e; rfl)
    show spl [n] 0 acc (c :: r) = if c = n then acc :: splN n [] r else splN n (acc ++ [c]) r
    by_cases h : c = n
    · rw [spl_hit (by rw [hp, decide_eq_true h]), if_pos h]
      show acc :: spl [n] 0 [] r = _
      rw [spl_splN n r []]
    · rw [spl_miss (by rw [hp, decide_eq_false h]), if_neg h]
      exact spl_splN n r (acc ++ [c])
theorem splN_flat (n : Nat) : ∀ (l acc : List Nat), (splN n acc l).flatten = acc ++ l.filter fun c => !decide (c = n)
  | [], acc => by
    show [acc].flatten = acc ++ []
    rw [List.append_nil]
    exact List.append_nil acc
  | c :: r, acc => by
    show (if c = n then acc :: splN n [] r else splN n (acc ++ [c]) r).flatten = _
    by_cases h : c = n
    · rw [if_pos h, List.flatten_cons, splN_flat n r [], List.filter_cons, decide_eq_true h]
      rfl
    · rw [if_neg h, splN_flat n r (acc ++ [c]), List.filter_cons, decide_eq_false h, List.append_assoc]
      rfl
theorem glued_tl (ps : List Str) : tl (Builtin.Str.glued "" ps) = (ps.map tl).flatten := by
  have key : ∀ (ps : List Str) (acc : Array Nat), (ps.foldl (fun (acc : Array Nat) (p : Str) => acc ++ ("" : Str).cps ++ p.cps) acc).toList = acc.toList ++ (ps.map tl).flatten := by
    intro ps
    induction ps with
    | nil => intro acc; simp
    | cons p r ih =>
      intro acc
      rw [List.foldl_cons, ih]
      simp only [Array.toList_append, List.map_cons, List.flatten_cons, List.append_assoc]
      have : ("" : Str).cps.toList = [] := by decide +kernel
      rw [this]
      rfl
  unfold Builtin.Str.glued
  show (((ps.drop 1).foldl (fun acc p => acc ++ ("" : Str).cps ++ p.cps) (ps.headD Str.empty).cps)).toList = _
  rw [key]
  cases ps with
  | nil => rfl
  | cons p r => rfl
theorem replace_glued (x : Str) : Txt.replace x "\n" "" = Builtin.Str.glued "" (Txt.split x "\n") := by
  by_cases hx : x.length < 1
  · have e : x = Str.empty := by
      obtain ⟨a⟩ := x
      have h0 : a.size = 0 := by
        have : a.size < 1 := hx
        omega
      have : a = #[] := Array.eq_empty_of_size_eq_zero h0
      rw [this]
      rfl
    rw [e]
    decide +kernel
  · unfold Txt.replace Txt.split
    have h1 : ("\n" : Str).length = 1 := by decide +kernel
    have hk : ¬ Builtin.Str.strKind x < Builtin.Str.strKind ("\n" : Str) := kind_ok (by decide +kernel)
    rw [h1, decide_eq_false hx, decide_eq_false hk]
    cases h : (Builtin.Str.occurrences x "\n" 0 x.length (x.length + 1)).isEmpty
    · rfl
    · rfl
theorem nl_tl : tl ("\n" : Str) = [10] := by decide +kernel
theorem replace_nl (z : Str) : tl (Txt.replace z "\n" "") = (tl z).filter fun c => !decide (c = 10) := by
  rw [replace_glued z, glued_tl, split_spl z "\n" (by rw [nl_tl]; simp) (kind_ok (by decide +kernel)), nl_tl, spl_splN, splN_flat]
  rfl
def linesB (z : Str) : Bool := (tl z).all fun c => decide (c = 10) || decide (c ∈ tl signs)
theorem lines_eq (z : Str) : allIn (Txt.replace z "\n" "") signs = linesB z := by
  unfold allIn linesB
  rw [replace_nl, Bool.eq_iff_iff, List.all_eq_true, List.all_eq_true]
  constructor
  · intro h c hc
    by_cases e : c = 10
    · rw [e]; rfl
    · rw [decide_eq_false e, Bool.false_or]
      exact h c (List.mem_filter.mpr ⟨hc, by rw [decide_eq_false e]; rfl⟩)
  · intro h c hc
    obtain ⟨h1, h2⟩ := List.mem_filter.mp hc
    have := h c h1
    rw [Bool.not_eq_true'] at h2
    rw [h2, Bool.false_or] at this
    exact this
end Z
set_option maxHeartbeats 4000000
namespace Z
open PySem PySem.Spec PyProof.Rows L2 TL Evl NdefX
abbrev Fs := List (Str × Str)
def PfAt (H : Hp) (v : V) (x : Str × Str) : Prop := TupAt H v [.str x.1, .str x.2]
def FsAt (H : Hp) (q : Addr) (fs : Fs) : Prop := ∃ xs, H q = some (.lst xs) ∧ Rel (PfAt H) xs fs
theorem FsAt.ex {H H' : Hp} {q : Addr} {fs : Fs} (h : FsAt H q fs) (e : Ex H H') : FsAt H' q fs := by
  obtain ⟨xs, h1, h2⟩ := h
  exact ⟨xs, e _ _ h1, h2.mono fun _ _ m => TupAt.ex m e⟩
theorem FsAt.keep {p q : Addr} {H H' : Hp} {fs : Fs} (h : FsAt H q fs) (k : Keep p H H') (hp : ∃ xs, H p = some (.lst xs)) (n : q ≠ p) : FsAt H' q fs := by
  obtain ⟨xs, h1, h2⟩ := h
  exact ⟨xs, k _ _ n h1, h2.mono fun _ _ m => TupAt.keep m k hp⟩
def fieldB (x : Str × Str) : Bool := nameB x.1 && valueB x.2
def lenF (fs : Fs) : Prop := ∀ x ∈ fs, x.1.length ≤ 100000 ∧ x.2.length ≤ 100000
def areB (fs : Fs) : Bool := decide (fs.length ≤ 40) && fs.all fieldB
def bodyB (z : Str) : Bool := decide ((z.length : Int) ≤ 100000) && linesB z
/-- the base class of messages -/
structure Wb (K : PySem.W.Frag) (mg : Str → Option Value) (B : Addr) : Prop where
  m : mg "Message" = some (.ref B)
  rd : ClX.CRead K B (.type "type")
  mf : ∃ u, ClX.CVal K B (.type "type") "MOST_FIELDS" (.int 40) u
  mb : ∃ u, ClX.CVal K B (.type "type") "MOST_BODY" (.int 100000) u
section
variable {K : PySem.W.Frag} {σ : L2.St} {H : Hp} {to te : TE} {B C : Addr} {f z : Str} {v : V} {u mc : Value} {a : Str}
theorem ev_cval (h : Ev te σ H (.ref C)) (r : ClX.CRead K C mc) (k : ClX.CVal K C mc f v u) : Ev (ClX.tCVal K te f) σ H v := fun H1 e Q q => h H1 e _ fun H2 e2 => ⟨C, mc, v, u, rfl, r, k, q H2 e2⟩
theorem ev_replC (h : Ev to σ H (.str a)) (hz : a.length ≤ 100000) : Ev (CwR.tReplC to "\n" "") σ H (.str (Txt.replace a "\n" "")) := fun H1 e Q q => h H1 e _ fun H2 e2 => ⟨a, rfl, by
  have : ("" : Str).length = 0 := by decide +kernel
  rw [this]
  omega, q H2 e2⟩
end
theorem repl_len (z : Str) : (Txt.replace z "\n" "").length ≤ z.length := by
  rw [← len_tl', ← len_tl', replace_nl]
  exact List.length_filter_le _ _
section
variable {P : Program} {w : World} {K : PySem.W.Frag} {mg : Str → Option Value} {base : Heap} {f B C L DV DM DH : Addr} {fd : FuncData} {k : Nat}
theorem ok_is_plain_lines (T : Mg mg) (c_is_plain : Call P w K mg base 1 "is_plain" ["text"] (sp1 fun z => .bl (allIn z signs))) (F : FnP K "is_plain_lines" s_is_plain_lines f fd) (gm : mg "is_plain_lines" = some (.ref f)) : Call P w K mg base 2 "is_plain_lines" ["text"] (sp1 fun z => .bl (linesB z)) := by
  refine mkT F gm (fun _ _ _ _ _ _ us hl => match us, hl with | [_], _ => rfl) (fun _ _ _ _ _ _ us hl => match us, hl with | [_], _ => rfl) sc_is_plain_lines (by decide +kernel) (by decide) (fun vs H Q E h => ?_) (fun cdv A outer s H vs Q E hr h => ?_)
  · obtain ⟨z, rfl, _⟩ := h
    rfl
  · obtain ⟨z, rfl, hz, q⟩ := h
    refine ⟨_, CwR.psst_one (CwR.pst_ret (pet_f c_is_plain hr (by decide) rfl (pat_cons (CwR.pet_replC (pv 0)) pat_nil))), ?_⟩
    refine s_ret (v := .bl (linesB z)) (ev_is (ev_call (ea_cons (ev_replC (ev_var rfl) hz) ea_nil) (sv1 (f := fun z => .bl (allIn z signs)) (Nat.le_trans (repl_len z) hz))) (congrArg V.bl (lines_eq z))) q
theorem ok_is_body (T : Mg mg) (MB : Wb K mg B) (c_is_plain_lines : Call P w K mg base 2 "is_plain_lines" ["text"] (sp1 fun z => .bl (linesB z))) (F : FnP K "is_body" s_is_body f fd) (gm : mg "is_body" = some (.ref f)) : Call P w K mg base 3 "is_body" ["text"] (sp1 fun z => .bl (bodyB z)) := by
  refine mk F gm (fun _ _ _ _ _ _ us hl => match us, hl with | [_], _ => rfl) (fun _ _ _ _ _ _ us hl => match us, hl with | [_], _ => rfl) sc_is_body (fun vs H Q E h => ?_) (fun cdv A outer s H vs Q E hr h => ?_)
  · obtain ⟨z, rfl, _⟩ := h
    rfl
  · obtain ⟨z, rfl, hz, q⟩ := h
    obtain ⟨u, hu⟩ := MB.mb
    refine ⟨_, (pss_one (ps_ret (pe_and (pe_cmpR op_le (pe_callB cz_len (by rfl) T.len (by decide +kernel) (pa_cons (pv 0) pa_nil)) (ClX.pe_cval (pe_gc (v := .ref B) rfl ⟨_, MB.m, rfl⟩)) (nomark _)) (pe_one (pe_f c_is_plain_lines hr (by decide) rfl (pa_cons (pv 0) pa_nil)))))), ?_⟩
    exact s_ret (v := .bl (bodyB z)) (ev_andV (ev_op (ev_lenStr (ev_var rfl) hz) (ev_cval ev_c MB.rd hu) rv_I0) fun _ => ev_call (ea_cons (ev_var rfl) ea_nil) (sv1 hz)) q
end
end Z
set_option maxHeartbeats 4000000
namespace Z
open PySem PySem.Spec PyProof.Rows L2 TL Evl NdefX
theorem rel_bl {ys : List V} {bs : List Bool} (h : Rel (fun v b => v = V.bl b) ys bs) : ys = bs.map V.bl := by
  refine List.ext_getElem (by rw [h.1, List.length_map]) fun i h1 h2 => ?_
  rw [List.getElem_map]
  rw [List.length_map] at h2
  exact h.2 i _ _ (List.getElem?_eq_getElem h1) (List.getElem?_eq_getElem h2)
/-- all([.. for .. in fields]) -/
theorem all_ev {K : PySem.W.Frag} {σ : L2.St} {H : Hp} {te tl : TE} {g : TG} {l : Addr} {vs : List V} {os : Fs} {gB : Str × Str → Bool} {ws : List Nat} (hv : Ev tl σ H (.ref l)) (hl : H l = some (.lst vs)) (hrel : Rel (PfAt H) vs os) (hz : os.length ≤ 40000)
    (hs : ∀ (x : V) (o : Str × Str) H1, o ∈ os → Ex H H1 → PfAt H1 x o → ∀ (k : VK), (∀ H2, Ex H1 H2 → k (.bl (gB o)) H2) → g x (wipe σ ws) H1 fun σ2 H2 => wipe σ2 ws = wipe σ ws ∧ te σ2 H2 k) : Ev (tCB (L2.rAll K) (tCons (tLc (iList K tl) g tYes te ws) tNil)) σ H (.bl (os.all gB)) := fun H1 e Q q =>
  hv H1 e _ fun H2 e2 => ⟨l, rfl, ⟨vs, sq_of ((e.trans e2) _ _ hl)⟩, fun D hD => lc_rel (α := Bool) (fun i => (os.take i).map gB) (fun _ v b => v = .bl b) (fun _ _ _ _ _ _ h => h) (sq_of ((e.trans e2) _ _ hl)) hD rfl (by rw [hrel.1]; omega) (fun i x H3 hi e3 k k0 hk _ => by
    obtain ⟨o, ho, hxo⟩ := hrel.get hi
    have e03 := (e.trans e2).trans e3
    refine hs x o H3 (List.mem_of_getElem? ho) e03 (TupAt.ex hxo e03) k fun H4 e4 => hk _ H4 _ e4 ?_ rfl
    show (os.take (i + 1)).map gB = _
    rw [List.take_add_one, ho, List.map_append]
    rfl) (fun H3 ys e3 hy hr => by
    rw [hrel.1, List.take_length] at hr
    have ey := rel_bl hr
    refine ⟨D, os.map gB, rfl, sq_of (by rw [hy, ey]), ?_⟩
    rw [List.all_map]
    exact q H3 (e2.trans e3))⟩
def spAre : Sp := fun vs H Q _ => ∃ (q : Addr) (fs : Fs), vs = [.ref q] ∧ FsAt H q fs ∧ lenF fs ∧ fs.length ≤ 40000 ∧ RetV (.bl (areB fs)) H Q
/-- the class of requests -/
structure Wr (K : PySem.W.Frag) (mg : Str → Option Value) (B R : Addr) : Prop where
  m : mg "Request" = some (.ref R)
  cls : Cls K R
  ins : ZX.InsC K R
  n1 : NoAttr K R "_first_line"
  n2 : NoAttr K R "_has_body"
  n3 : NoAttr K R "fields"
  n4 : NoAttr K R "body"
  n5 : NoAttr K R "method"
  n6 : NoAttr K R "path"
  rd : ClX.CRead K R (.type "type")
  mt : ∃ p, ClX.CVal K R (.type "type") "METHODS" (.ref p) (.ref p) ∧ ∀ H, SqT K H p ([("get" : Str), "put", "delete"].map V.str)
  iRR : PySem.W.kitOne K (.ref R) (.ref R) = some true
  iRB : PySem.W.kitOne K (.ref R) (.ref B) = some true
def msFs (fl : Str) (hb : Bool) (v : V) (b : Str) : List (Str × V) := [("_first_line", .str fl), ("_has_body", .bl hb), ("fields", v), ("body", .str b)]
def rqFs (fl : Str) (hb : Bool) (v : V) (b m p : Str) : List (Str × V) := [("_first_line", .str fl), ("_has_body", .bl hb), ("fields", v), ("body", .str b), ("method", .str m), ("path", .str p)]
theorem ms_put (fl : Str) (hb : Bool) (v : V) (b : Str) : putF "body" (.str b) (putF "fields" v (putF "_has_body" (.bl hb) (putF "_first_line" (.str fl) []))) = msFs fl hb v b := by rfl
theorem rq_put (fl : Str) (hb : Bool) (v : V) (b m p : Str) : putF "path" (.str p) (putF "method" (.str m) (msFs fl hb v b)) = rqFs fl hb v b m p := by rfl
def spMs (R : Addr) : Sp := fun vs H Q _ => ∃ (a dx q : Addr) (fl b : Str) (hb : Bool) (fs : Fs), vs = [.ref a, .str fl, .bl hb, .ref q, .str b] ∧ H a = some (.ins R dx []) ∧ FsAt H q fs ∧ areB fs = true ∧ b.length ≤ 100000 ∧ bodyB b = true ∧ (b = "" ∨ hb = true) ∧
  ∀ l H', H l = none → Keep a H H' → H' a = some (.ins R dx (msFs fl hb (.ref l) b)) → FsAt H' l fs → Q .non H'
theorem areB_len {fs : Fs} (h : areB fs = true) : lenF fs ∧ fs.length ≤ 40 := by
  unfold areB at h
  rw [Bool.and_eq_true, decide_eq_true_eq, List.all_eq_true] at h
  refine ⟨fun x hx => ?_, h.1⟩
  obtain ⟨h1, h2⟩ := Bool.and_eq_true_iff.mp (h.2 x hx)
  constructor
  · unfold nameB wordB at h1
    simp only [Bool.and_eq_true, decide_eq_true_eq] at h1
    omega
  · unfold valueB at h2
    simp only [Bool.and_eq_true, decide_eq_true_eq] at h2
    omega
end Z
set_option maxHeartbeats 4000000
namespace Z
open PySem PySem.Spec PyProof.Rows L2 TL Evl NdefX
theorem FsAt.updI {H : Hp} {q a C dx : Addr} {fs : Fs} {gs : List (Str × V)} {o : HO} (h : FsAt H q fs) (ha : H a = some (.ins C dx gs)) : FsAt (upd H a o) q fs := by
  obtain ⟨xs, h1, h2⟩ := h
  refine ⟨xs, ?_, h2.mono fun _ x m => ?_⟩
  · rw [upd_ne (fun e => by rw [e, ha] at h1; cases h1)]
    exact h1
  · obtain ⟨t, rfl, ht⟩ := m
    refine ⟨t, rfl, ?_⟩
    rw [upd_ne (fun e => by rw [e, ha] at ht; cases ht)]
    exact ht
theorem g_drop {te : TE} {D : Ends} {σ : L2.St} {H : Hp} (h : te σ H fun _ H1 => D.nx σ H1) : tDrop te D σ H := h
theorem g_fld {K : PySem.W.Frag} {ta tv : TE} {f : Str} {D : Ends} {σ : L2.St} {H : Hp} (h : tv σ H fun y H1 => sFld K ta (tC y) f D σ H1) : sFld K ta tv f D σ H := h
/-- [(a, b) for a, b in fields] -/
theorem fields_new {K : PySem.W.Frag} {σ : L2.St} {H : Hp} {i j1 j2 : Nat} {l : Addr} {fs : Fs} {Q : VK} (hi : σ[i]? = some (some (.ref l))) (hl : FsAt H l fs) (hz : fs.length ≤ 40000) (hw : ∀ x y, wipe (((wipe σ [j1, j2]).set j1 (some x)).set j2 (some y)) [j1, j2] = wipe σ [j1, j2])
    (h1 : ∀ x y, (((wipe σ [j1, j2]).set j1 (some x)).set j2 (some y))[j1]? = some (some x)) (h2 : ∀ x y, (((wipe σ [j1, j2]).set j1 (some x)).set j2 (some y))[j2]? = some (some y))
    (k : ∀ D H', H D = none → Ex H H' → FsAt H' D fs → Q (.ref D) H') : tLc (iList K (tVar i)) (gTup K 2 (gCons (gName j1) (gCons (gName j2) gNil))) tYes (tTup (tCons (tVar j1) (tCons (tVar j2) tNil))) [j1, j2] σ H Q := by
  obtain ⟨xs, hx, hr⟩ := hl
  refine ⟨.ref l, hi, l, rfl, ⟨_, sq_of hx⟩, fun D hD => ?_⟩
  refine lc_rel (α := Str × Str) (fun i => fs.take i) PfAt (fun _ _ _ _ k hD r => TupAt.keep r k hD) (sq_of hx) hD rfl (by rw [hr.1]; omega) (fun i x H13 hi e13 k k0 hk _ => ?_) (fun H13 ms e13 hy hrel => ?_)
  · obtain ⟨o, ho, t, rfl, ht⟩ := hr.get hi
    refine ⟨t, _, rfl, st_of (e13 _ _ ht), rfl, _, _, rfl, _, _, rfl, rfl, hw _ _, ?_⟩
    unfold tYes
    dsimp only
    rw [if_pos rfl]
    refine (eu_tup (ea_cons (ev_var (h1 _ _)) (ea_cons (ev_var (h2 _ _)) ea_nil)) (by show 2 ≤ _; decide)) H13 (Ex.refl H13) _ fun p H14 np e14 hp => hk _ H14 o e14 ?_ ⟨p, rfl, hp⟩
    show fs.take (i + 1) = _
    rw [List.take_add_one, ho]
    rfl
  · rw [hr.1, List.take_length] at hrel
    exact k D H13 hD e13 ⟨ms, hy, hrel⟩
theorem sc_Mi : FnScope ["self", "first_line", "has_body", "fields", "body", "name", "value"] ["self", "first_line", "has_body", "fields", "body"] (L2.defScope s_Mi) := ⟨rfl, rfl, rfl, by decide +kernel, rfl, by decide +kernel, by decide +kernel⟩
theorem sc_Ri : FnScope ["self", "method", "path", "fields", "body"] ["self", "method", "path", "fields", "body"] (L2.defScope s_Ri) := ⟨rfl, rfl, rfl, by decide +kernel, rfl, by decide +kernel, by decide +kernel⟩
def askL (m p : Str) : Str := [("ask " : Str), m, " ", p].foldl (· ++ ·) Str.empty
def okRq (m p : Str) (fs : Fs) (b : Str) : Prop := m ∈ [("get" : Str), "put", "delete"] ∧ pathB p = true ∧ areB fs = true ∧ b.length ≤ 100000 ∧ bodyB b = true ∧ (b = "" ∨ m = "put")
def spRi (R : Addr) : Sp := fun vs H Q _ => ∃ (a dx q : Addr) (m p b : Str) (fs : Fs), vs = [.ref a, .str m, .str p, .ref q, .str b] ∧ H a = some (.ins R dx []) ∧ FsAt H q fs ∧ okRq m p fs b ∧
  ∀ l H', H l = none → Keep a H H' → H' a = some (.ins R dx (rqFs (askL m p) (decide (m = "put")) (.ref l) b m p)) → FsAt H' l fs → Q .non H'
structure Mb (P : Program) (w : World) (K : PySem.W.Frag) (mg : Str → Option Value) (base : Heap) (B R : Addr) : Prop where
  ex : ∃ g fd, ZX.CFn K B (.type "type") "__init__" g ∧ FnOk P w K mg base (L2N.CX P w) 5 g fd ["self", "first_line", "has_body", "fields", "body"] (spMs R) ∧ Binds K fd ["self", "first_line", "has_body", "fields", "body"] []
theorem m_len {m : Str} (h : m ∈ [("get" : Str), "put", "delete"]) : m.length ≤ 10 := by
  simp only [List.mem_cons, List.not_mem_nil, or_false] at h
  rcases h with rfl | rfl | rfl <;> decide +kernel
theorem path_len {p : Str} (h : pathB p = true) : p.length ≤ 60 := by
  unfold pathB at h
  simp only [Bool.and_eq_true, decide_eq_true_eq] at h
  omega
section
variable {P : Program} {w : World} {K : PySem.W.Frag} {mg : Str → Option Value} {base : Heap} {f B R C L DV DM DH : Addr} {fd : FuncData} {k : Nat}
theorem ok_are_fields (T : Mg mg) (MB : Wb K mg B) (c_is_field_name : Call P w K mg base 3 "is_field_name" ["text"] (sp1 fun z => .bl (nameB z))) (c_is_value : Call P w K mg base 2 "is_value" ["text"] (sp1 fun z => .bl (valueB z))) (F : FnP K "are_fields" s_are_fields f fd) (gm : mg "are_fields" = some (.ref f)) :
    Call P w K mg base 4 "are_fields" ["fields"] spAre := by
  refine mk F gm (fun _ _ _ _ _ _ us hl => match us, hl with | [_], _ => rfl) (fun _ _ _ _ _ _ us hl => match us, hl with | [_], _ => rfl) sc_are_fields (fun vs H Q E h => ?_) (fun cdv A outer s H vs Q E hr h => ?_)
  · obtain ⟨q, fs, rfl, _⟩ := h
    rfl
  · obtain ⟨q, fs, rfl, ⟨xs, hx, hxr⟩, hln, hz, kq⟩ := h
    obtain ⟨u, hu⟩ := MB.mf
    refine ⟨_, (pss_cons (ps_if (pt_cmpR op_gt (pe_callB call_len_seq (by rfl) T.len (by decide +kernel) (pa_cons (pv 0) pa_nil)) (ClX.pe_cval (pe_gc (v := .ref B) rfl ⟨_, MB.m, rfl⟩)) (nomark _))
      (pss_one (ps_ret pe_bl))
      pss_nil)
    (pss_one (ps_ret (pe_callB (cr_all rfl) (by rfl) T.all (by decide +kernel) (pa_cons (pe_lc (own := [("name", 1), ("value", 2)]) (g := (gTup K 2 (gCons (gName 1) (gCons (gName 2) gNil)))) (tt := tYes) rfl sc_are_fields.nd (pi_list (pv 0)) (blkOk_by (N := ["fields", "name", "value"]) (sc := L2.defScope s_are_fields) (by decide +kernel)) (fun _ _ _ _ _ => pg_tup rfl (pgs_cons (pg_name (i := 1) sc_are_fields.nd rfl (Or.inl rfl)) (pgs_cons (pg_name (i := 2) sc_are_fields.nd rfl (Or.inl rfl)) pgs_nil))) (fun _ _ _ _ _ => pts_nil) (fun _ _ _ _ _ => (pe_and (pe_f c_is_field_name hr (by decide) rfl (pa_cons (pv 1) pa_nil)) (pe_one (pe_f c_is_value hr (by decide) rfl (pa_cons (pv 2) pa_nil)))))) pa_nil))))), ?_⟩
    refine q_when (b := decide (¬ fs.length ≤ 40)) (et_is (et_test (ev_op (ev_len (ev_var rfl) (sq_of hx)) (ev_cval ev_c MB.rd hu) rv_I0)) (decide_eq_decide.mpr (by rw [hxr.1]; omega))) (fun hb H1 e1 => ?_) (fun hb H1 e1 => ?_)
    · have h0 : areB fs = false := by
        unfold areB
        rw [decide_eq_false (of_decide_eq_true hb), Bool.false_and]
      refine s_ret ev_c fun H2 e2 => ?_
      have g := kq H2 (e1.trans e2)
      rw [h0] at g
      exact g
    · have h0 : areB fs = fs.all fieldB := by
        unfold areB
        rw [decide_eq_true (Decidable.not_not.mp (of_decide_eq_false hb)), Bool.true_and]
      refine s_ret (v := .bl (fs.all fieldB)) (all_ev (gB := fieldB) (ev_var rfl) (e1 _ _ hx) (hxr.mono fun _ _ m => TupAt.ex m e1) hz fun x o H2 hm e2 hxo k hk => ?_) fun H2 e2 => ?_
      · obtain ⟨t, rfl, ht⟩ := hxo
        obtain ⟨l1, l2⟩ := hln o hm
        refine ⟨t, _, rfl, st_of ht, rfl, _, _, rfl, _, _, rfl, rfl, rfl, ?_⟩
        exact (ev_andV (ev_call (ea_cons (ev_var rfl) ea_nil) (sv1 l1)) fun _ => ev_call (ea_cons (ev_var rfl) ea_nil) (sv1 l2)) H2 (Ex.refl H2) _ fun H3 e3 => hk H3 e3
      · have g := kq H2 (e1.trans e2)
        rw [h0] at g
        exact g
theorem ok_Mi (T : Mg mg) (W : Wd P w K mg C DV DM DH) (WR : Wr K mg B R) (EV : Ef P w K mg base DV ["self", "name"] "name") (c_are_fields : Call P w K mg base 4 "are_fields" ["fields"] spAre) (c_is_body : Call P w K mg base 3 "is_body" ["text"] (sp1 fun z => .bl (bodyB z)))
    (F : FdP K "__init__" "Message.__init__" s_Mi [] f fd) : FnOk P w K mg base (L2N.CX P w) 5 f fd ["self", "first_line", "has_body", "fields", "body"] (spMs R) := by
  refine FunD.ok F sc_Mi (fun vs H Q E h => ?_) (fun cdv A outer s H vs Q E hr h => ?_)
  · obtain ⟨a, dx, q, fl, b, hb, fs, rfl, _⟩ := h
    rfl
  · obtain ⟨a, dx, q, fl, b, hb, fs, rfl, ha, hf, hok, hbl, hbb, hbm, k⟩ := h
    obtain ⟨hln, hn⟩ := areB_len hok
    refine ⟨_, pss_cons (ps_if (pt_not (pt_val (pe_f c_are_fields hr (by decide) rfl (pa_cons (pv 3) pa_nil)))) (pss_one (ps_raiseE EV rfl (L2N.takes_of rfl rfl rfl rfl) (hr.mono (by decide)) rfl W.mV (pa_cons pe_str pa_nil))) pss_nil)
      (pss_cons (ps_if (PW.pt (pw_or (pt_not (pt_val (pe_f c_is_body hr (by decide) rfl (pa_cons (pv 4) pa_nil)))) (pw_or1 (PW.pt (pw_and (pt_cmpR op_ne (pv 4) pe_str (nomark _)) (pw_and1 (pt_not (pt_truth (pv 2) (by intro _; rfl)))))))))
        (pss_one (ps_raiseE EV rfl (L2N.takes_of rfl rfl rfl rfl) (hr.mono (by decide)) rfl W.mV (pa_cons pe_str pa_nil))) pss_nil)
      (pss_cons (ps_fld (pv 0) (pv 1) rfl)
      (pss_cons (ps_fld (pv 0) (pv 2) rfl)
      (pss_cons (ps_fld (pv 0) (pe_lc (own := [("name", 5), ("value", 6)]) (g := gTup K 2 (gCons (gName 5) (gCons (gName 6) gNil))) (tt := tYes) rfl sc_Mi.nd (pi_list (pv 3)) (blkOk_by (N := ["self", "first_line", "has_body", "fields", "body", "name", "value"]) (sc := L2.defScope s_Mi) (by decide +kernel)) (fun _ _ _ _ _ => pg_tup rfl (pgs_cons (pg_name (i := 5) sc_Mi.nd rfl (Or.inl rfl)) (pgs_cons (pg_name (i := 6) sc_Mi.nd rfl (Or.inl rfl)) pgs_nil))) (fun _ _ _ _ _ => pts_nil) (fun _ _ _ _ _ => pe_tup (pa_cons (pv 5) (pa_cons (pv 6) pa_nil)))) rfl)
      (pss_one (ps_fld (pv 0) (pv 4) rfl)))))), ?_⟩
    refine q_when (b := false) (et_is (et_not (et_B (ev_call (ea_cons (ev_var rfl) ea_nil) (z := .bl (areB fs)) fun H1 e Q' q' E' => ⟨q, fs, rfl, hf.ex e, hln, by omega, q'⟩))) (by rw [hok]; rfl)) (fun h => nomatch h) (fun _ H1 e1 => ?_)
    refine q_when (b := false) (et_is (et_or (a := false) (et_is (et_not (et_B (ev_call (ea_cons (ev_var rfl) ea_nil) (sv1 (f := fun z => .bl (bodyB z)) hbl)))) (by rw [hbb]; rfl)) fun _ => et_is (b := false) (et_and (et_test (ev_op (ev_var rfl) ev_c rv_neS)) fun _ => et_not (et_truB (ev_var rfl))) (by
      rcases hbm with h | h
      · rw [h, decide_eq_true rfl]; rfl
      · rw [h, Bool.not_true, Bool.and_false])) rfl) (fun h => nomatch h) (fun _ H2 e2 => ?_)
    have e12 := e1.trans e2
    have ha2 := e12 _ _ ha
    refine q_in ?_; dsimp only
    refine ⟨.str fl, rfl, .ref a, rfl, a, R, dx, [], rfl, ha2, WR.cls, WR.n1, by decide, ?_⟩
    refine q_in ?_; dsimp only
    refine ⟨.bl hb, rfl, .ref a, rfl, a, R, dx, _, rfl, upd_same, WR.cls, WR.n2, by show 1 < 1000; decide, ?_⟩
    refine q_in ?_; dsimp only
    have k2 : Keep a H (upd (upd H2 a (.ins R dx (putF "_first_line" (.str fl) []))) a (.ins R dx (putF "_has_body" (.bl hb) (putF "_first_line" (.str fl) [])))) := (Keep.of e12).upd.upd
    have f2 : FsAt (upd (upd H2 a (.ins R dx (putF "_first_line" (.str fl) []))) a (.ins R dx (putF "_has_body" (.bl hb) (putF "_first_line" (.str fl) [])))) q fs := ((hf.ex e12).updI ha2).updI upd_same
    have a2 : (upd (upd H2 a (.ins R dx (putF "_first_line" (.str fl) []))) a (.ins R dx (putF "_has_body" (.bl hb) (putF "_first_line" (.str fl) [])))) a = some (.ins R dx (putF "_has_body" (.bl hb) (putF "_first_line" (.str fl) []))) := upd_same
    have nl0 : ∀ l, (upd (upd H2 a (.ins R dx (putF "_first_line" (.str fl) []))) a (.ins R dx (putF "_has_body" (.bl hb) (putF "_first_line" (.str fl) [])))) l = none → l ≠ a ∧ H l = none := fun l hl => by
      have na : l ≠ a := fun e => by
        rw [e, a2] at hl
        cases hl
      rw [upd_ne na, upd_ne na] at hl
      exact ⟨na, fresh_back e12 hl⟩
    generalize upd (upd H2 a (.ins R dx (putF "_first_line" (.str fl) []))) a (.ins R dx (putF "_has_body" (.bl hb) (putF "_first_line" (.str fl) []))) = H3 at k2 f2 a2 nl0
    refine g_fld (fields_new (by rfl) f2 (by omega) (by intro _ _; rfl) (by intro _ _; rfl) (by intro _ _; rfl) fun l H4 nl e4 hl => ?_)
    obtain ⟨nla, nlH⟩ := nl0 l nl
    have a4 := e4 _ _ a2
    refine ⟨.ref a, rfl, a, R, dx, _, rfl, a4, WR.cls, WR.n3, by show 2 < 1000; decide, ?_⟩
    refine ⟨.str b, rfl, .ref a, rfl, a, R, dx, _, rfl, upd_same, WR.cls, WR.n4, by show 3 < 1000; decide, ?_⟩
    exact k l _ nlH ((k2.trans (Keep.of e4)).upd.upd) (by rw [upd_same, ms_put]) ((hl.updI a4).updI upd_same)
theorem ok_Ri (T : Mg mg) (W : Wd P w K mg C DV DM DH) (WB : Wb K mg B) (WR : Wr K mg B R) (MB : Mb P w K mg base B R) (EV : Ef P w K mg base DV ["self", "name"] "name") (c_is_path : Call P w K mg base 2 "is_path" ["text"] (sp1 fun z => .bl (pathB z)))
    {dvs : List V} (F : FdP K "__init__" "Request.__init__" s_Ri dvs f fd) : FnOk P w K mg base (L2N.CX P w) 6 f fd ["self", "method", "path", "fields", "body"] (spRi R) := by
  obtain ⟨gM, fM, CF, FM, bM⟩ := MB.ex
  refine FunD.ok F sc_Ri (fun vs H Q E h => ?_) (fun cdv A outer s H vs Q E hr h => ?_)
  · obtain ⟨a, dx, q, m, p, b, fs, rfl, _⟩ := h
    rfl
  · obtain ⟨a, dx, q, m, p, b, fs, rfl, ha, hf, ⟨hm, hp, hok, hbl, hbb, hbm⟩, k⟩ := h
    obtain ⟨pm, hmt, hmT⟩ := WR.mt
    refine ⟨_, pss_cons (ps_if (pt_cmpR op_notIn_seq (pv 1) (ClX.pe_cval (pe_gc (v := .ref R) rfl ⟨_, WR.m, rfl⟩)) rfl) (pss_one (ps_raiseE EV rfl (L2N.takes_of rfl rfl rfl rfl) (hr.mono (by decide)) rfl W.mV (pa_cons pe_str pa_nil))) pss_nil)
      (pss_cons (ps_if (pt_not (pt_val (pe_f c_is_path hr (by decide) rfl (pa_cons (pv 2) pa_nil)))) (pss_one (ps_raiseE EV rfl (L2N.takes_of rfl rfl rfl rfl) (hr.mono (by decide)) rfl W.mV (pa_cons pe_str pa_nil))) pss_nil)
      (pss_cons (ps_expr (ZX.pe_clsFn (E := WE (fun _ _ _ _ => False)) (pe_gc (v := .ref B) rfl ⟨_, WB.m, rfl⟩) CF FM bM (hr.mono (by decide)) (fun σ => L2N.passAt ZX.takesN σ) (pa_cons (pv 0) (pa_cons (pe_joined (.cons pe_str (.cons (pe_fmt (pv 1)) (.cons pe_str (.cons (pe_fmt (pv 2)) .nil))))) (pa_cons (pe_cmpR op_eq (pv 1) pe_str (nomark _)) (pa_cons (pv 3) (pa_cons (pv 4) pa_nil)))))))
      (pss_cons (ps_fld (pv 0) (pv 1) rfl) (pss_one (ps_fld (pv 0) (pv 2) rfl))))), ?_⟩
    have hml := m_len hm
    have hpl := path_len hp
    refine q_when (b := false) (et_is (et_test (ev_op (ev_var rfl) (ev_cval ev_c WR.rd hmt) (rv_niT (hmT H) rfl rfl))) (by
      have : inV (.str m) ([("get" : Str), "put", "delete"].map V.str) = true := by
        simp only [List.mem_cons, List.not_mem_nil, or_false] at hm
        rcases hm with rfl | rfl | rfl <;> decide +kernel
      rw [this]; rfl)) (fun h => nomatch h) (fun _ H1 e1 => ?_)
    refine q_when (b := false) (et_is (et_not (et_B (ev_call (ea_cons (ev_var rfl) ea_nil) (sv1 (f := fun z => .bl (pathB z)) (by omega))))) (by rw [hp]; rfl)) (fun h => nomatch h) (fun _ H2 e2 => ?_)
    have e12 := e1.trans e2
    refine q_in ?_; dsimp only
    refine g_drop ?_
    refine ⟨rfl, ?_⟩
    have c4 : ("ask " : Str).length ≤ 100 := by decide +kernel
    have c1 : (" " : Str).length ≤ 100 := by decide +kernel
    refine (ea_cons (ev_var rfl) (ea_cons (ev_joined (zs := [("ask " : Str), m, " ", p]) (x := askL m p) (ej_cons ev_c (ej_cons (ev_fmt (ev_var rfl) (by omega)) (ej_cons ev_c (ej_cons (ev_fmt (ev_var rfl) (by omega)) ej_nil)))) (by simp only [List.map_cons, List.map_nil, List.sum_cons, List.sum_nil]; omega) rfl) (ea_cons (ev_op (ev_var rfl) ev_c rv_eqS) (ea_cons (ev_var rfl) (ea_cons (ev_var rfl) ea_nil))))) H2 (Ex.refl H2) _ fun H3 e3 => ?_
    have e13 := e12.trans e3
    refine ⟨a, dx, q, askL m p, b, decide (m = "put"), fs, rfl, e13 _ _ ha, hf.ex e13, hok, hbl, hbb, ?_, fun l H4 nl k4 h4 hl => ?_⟩
    · rcases hbm with h | h
      · exact .inl h
      · exact .inr (decide_eq_true h)
    · refine q_in ?_; dsimp only
      refine ⟨.str m, rfl, .ref a, rfl, a, R, dx, _, rfl, h4, WR.cls, WR.n5, by show 4 < 1000; decide, ?_⟩
      refine ⟨.str p, rfl, .ref a, rfl, a, R, dx, _, rfl, upd_same, WR.cls, WR.n6, by show 5 < 1000; decide, ?_⟩
      exact k l _ (fresh_back e13 nl) (((Keep.of e13).trans k4).upd.upd) (by rw [upd_same, rq_put]) ((hl.updI h4).updI upd_same)
end
end Z
set_option maxHeartbeats 4000000
namespace Z
open PySem PySem.Spec PyProof.Rows L2 TL Evl NdefX
/-! ### requests -/
abbrev RqT := Str × Str × Fs × Str
def okR (r : RqT) : Prop := okRq r.1 r.2.1 r.2.2.1 r.2.2.2
def RqOf (R l : Addr) (H : Hp) (v : V) (r : RqT) : Prop := ∃ a dx, v = .ref a ∧ H a = some (.ins R dx (rqFs (askL r.1 r.2.1) (decide (r.1 = "put")) (.ref l) r.2.2.2 r.1 r.2.1)) ∧ FsAt H l r.2.2.1
def RqAt (R : Addr) (H : Hp) (v : V) (r : RqT) : Prop := ∃ l, RqOf R l H v r
theorem RqOf.ex {R l : Addr} {H H' : Hp} {v : V} {r : RqT} (h : RqOf R l H v r) (e : Ex H H') : RqOf R l H' v r := by
  obtain ⟨a, dx, rfl, ha, hf⟩ := h
  exact ⟨a, dx, rfl, e _ _ ha, hf.ex e⟩
theorem RqAt.ex {R : Addr} {H H' : Hp} {v : V} {r : RqT} (h : RqAt R H v r) (e : Ex H H') : RqAt R H' v r := h.imp fun _ m => m.ex e
theorem RqOf.keep {R l p : Addr} {H H' : Hp} {v : V} {r : RqT} (h : RqOf R l H v r) (k : Keep p H H') (hp : ∃ xs, H p = some (.lst xs)) (n : l ≠ p) : RqOf R l H' v r := by
  obtain ⟨a, dx, rfl, ha, hf⟩ := h
  refine ⟨a, dx, rfl, k _ _ (fun e => ?_) ha, hf.keep k hp n⟩
  obtain ⟨xs, hp⟩ := hp
  rw [e, hp] at ha
  cases ha
section
variable {R q : Addr} {H : Hp} {m p b : Str} {fs : Fs} {vs dvs : List V} {Q : VK} {E : XK}
theorem ri_rq (hv : vs ++ dvs = [.str m, .str p, .ref q, .str b]) (hf : FsAt H q fs) (hok : okRq m p fs b) (k : ∀ v l H', H l = none → Ex H H' → RqOf R l H' v (m, p, fs, b) → Q v H') :
    ∀ x dx, H x = none → H dx = none → dx ≠ x → spRi R (.ref x :: (vs ++ dvs)) (upd (upd H dx (.own x)) x (.ins R dx [])) (fun v H2 => v = .non ∧ Q (.ref x) H2) E := fun x dx hx hd hne => by
  have e0 : Ex H (upd (upd H dx (.own x)) x (.ins R dx [])) := fun c o hc => by
    rw [upd_ne (ne_of_none hc hx), upd_ne (ne_of_none hc hd)]
    exact hc
  exact ⟨x, dx, q, m, p, b, fs, by rw [hv], upd_same, hf.ex e0, hok, fun l H' nl kp h1 h2 => ⟨rfl, k _ l H' (fresh_back e0 nl) (fun c o hc => kp c o (ne_of_none hc hx) (e0 c o hc)) ⟨x, dx, rfl, h1, h2⟩⟩⟩
end
section
variable {K : PySem.W.Frag} {R a dx l B : Addr} {σ : L2.St} {H : Hp} {te : TE} {r : RqT} {mg : Str → Option Value} {v : V} {f : Str}
theorem ev_rfld (c : Cls K R) (n : NoAttr K R f) (h : Ev te σ H (.ref a)) (ha : H a = some (.ins R dx (rqFs (askL r.1 r.2.1) (decide (r.1 = "put")) (.ref l) r.2.2.2 r.1 r.2.1))) (hl : (rqFs (askL r.1 r.2.1) (decide (r.1 = "put")) (.ref l) r.2.2.2 r.1 r.2.1).lookup f = some v) : Ev (tFld K te f) σ H v := fun H1 e Q q =>
  h H1 e _ fun H2 e2 => ⟨a, R, dx, _, _, rfl, e2 _ _ (e _ _ ha), c, n, hl, q H2 e2⟩
end
def valsF (fs : Fs) (n : Str) : List Str := (fs.filter fun x => decide (x.1 = n)).map Prod.snd
def joinF (fs : Fs) (n : Str) : Option Str := if valsF fs n = [] then none else some (Txt.join ", " (valsF fs n))
def withF (fs : Fs) (n x : Str) : Fs := (fs.filter fun y => !decide (y.1 = n)) ++ [(n, x)]
def outF (fs : Fs) (ns : List Str) : Fs := fs.filter fun y => !decide (y.1 ∈ ns)
theorem sc_Mv : FnScope ["self", "name", "own", "value"] ["self", "name"] (L2.defScope s_Mv) := ⟨rfl, rfl, rfl, by decide +kernel, rfl, by decide +kernel, by decide +kernel⟩
theorem sc_Mj : FnScope ["self", "name", "found"] ["self", "name"] (L2.defScope s_Mj) := ⟨rfl, rfl, rfl, by decide +kernel, rfl, by decide +kernel, by decide +kernel⟩
theorem sc_Mw : FnScope ["self", "name", "value", "others", "field"] ["self", "name", "value"] (L2.defScope s_Mw) := ⟨rfl, rfl, rfl, by decide +kernel, rfl, by decide +kernel, by decide +kernel⟩
theorem sc_Mo : FnScope ["self", "names", "field"] ["self", "names"] (L2.defScope s_Mo) := ⟨rfl, rfl, rfl, by decide +kernel, rfl, by decide +kernel, by decide +kernel⟩
theorem sc_Me : FnScope ["self", "other"] ["self", "other"] (L2.defScope s_Me) := ⟨rfl, rfl, rfl, by decide +kernel, rfl, by decide +kernel, by decide +kernel⟩
theorem sc_Rr : FnScope ["self", "fields", "body"] ["self", "fields", "body"] (L2.defScope s_Rr) := ⟨rfl, rfl, rfl, by decide +kernel, rfl, by decide +kernel, by decide +kernel⟩
def spAv (R : Addr) : Sp := fun vs H Q _ => ∃ v n r, vs = [v, .str n] ∧ RqAt R H v r ∧ r.2.2.1.length ≤ 40 ∧ RetL ((valsF r.2.2.1 n).map V.str) H Q
def optV : Option Str → V
  | none => .non
  | some z => .str z
def spJn (R : Addr) : Sp := fun vs H Q _ => ∃ v n r, vs = [v, .str n] ∧ RqAt R H v r ∧ okR r ∧ RetV (optV (joinF r.2.2.1 n)) H Q
def spRr (R : Addr) : Sp := fun vs H Q _ => ∃ v q fs b r, vs = [v, .ref q, .str b] ∧ RqAt R H v r ∧ FsAt H q fs ∧ okRq r.1 r.2.1 fs b ∧ ∀ v' l H', H l = none → Ex H H' → RqOf R l H' v' (r.1, r.2.1, fs, b) → Q v' H'
def spWf (R : Addr) : Sp := fun vs H Q _ => ∃ v n x r, vs = [v, .str n, .str x] ∧ RqAt R H v r ∧ okRq r.1 r.2.1 (withF r.2.2.1 n x) r.2.2.2 ∧ r.2.2.1.length ≤ 40 ∧ ∀ v' l H', H l = none → Ex H H' → RqOf R l H' v' (r.1, r.2.1, withF r.2.2.1 n x, r.2.2.2) → Q v' H'
structure Ri (P : Program) (w : World) (K : PySem.W.Frag) (mg : Str → Option Value) (base : Heap) (R : Addr) : Prop where
  ex : ∃ fi fd, Mk K R fi ∧ FnOk P w K mg base (L2N.CX P w) 6 fi fd ["self", "method", "path", "fields", "body"] (spRi R) ∧ Binds K fd ["self", "method", "path", "fields", "body"] []
structure Rm1 (P : Program) (w : World) (K : PySem.W.Frag) (mg : Str → Option Value) (base : Heap) (R : Addr) : Prop where
  ex : ∃ fv dv fr dr, Meth K R "all_values" fv ∧ FnOk P w K mg base CX0 1 fv dv ["self", "name"] (spAv R) ∧ Binds K dv ["self", "name"] [] ∧ Meth K R "remade" fr ∧ FnOk P w K mg base CX0 8 fr dr ["self", "fields", "body"] (spRr R) ∧ Binds K dr ["self", "fields", "body"] []
theorem rq_nolook {fl b m p : Str} {hb : Bool} {v : V} : (rqFs fl hb v b m p).lookup ("all_values" : Str) = none ∧ (rqFs fl hb v b m p).lookup ("remade" : Str) = none ∧ (rqFs fl hb v b m p).lookup ("joined" : Str) = none ∧ (rqFs fl hb v b m p).lookup ("with_field" : Str) = none ∧ (rqFs fl hb v b m p).lookup ("without" : Str) = none := ⟨rfl, rfl, rfl, rfl, rfl⟩
section
variable {P : Program} {w : World} {K : PySem.W.Frag} {mg : Str → Option Value} {base : Heap} {f B R C L DV DM DH : Addr} {fd : FuncData} {k : Nat} {CX : CXT}
theorem ok_Mv (WR : Wr K mg B R) (F : FdP K "all_values" "Message.all_values" s_Mv [] f fd) : FnOk P w K mg base CX 1 f fd ["self", "name"] (spAv R) := by
  refine FunD.ok F sc_Mv (fun vs H Q E h => ?_) (fun cdv A outer s H vs Q E hr h => ?_)
  · obtain ⟨v, n, r, rfl, _⟩ := h
    rfl
  · obtain ⟨v, n, r, rfl, ⟨l, a, dx, rfl, ha, xs, hx, hr1⟩, hz, q⟩ := h
    refine ⟨_, pss_one (ps_ret (pe_lc (own := [("own", 2), ("value", 3)]) (g := gTup K 2 (gCons (gName 2) (gCons (gName 3) gNil))) rfl sc_Mv.nd (pi_list (pe_fld (pv 0) rfl)) (blkOk_by (N := ["self", "name", "own", "value"]) (sc := L2.defScope s_Mv) (by decide +kernel)) (fun _ _ _ _ _ => pg_tup rfl (pgs_cons (pg_name (i := 2) sc_Mv.nd rfl (Or.inl rfl)) (pgs_cons (pg_name (i := 3) sc_Mv.nd rfl (Or.inl rfl)) pgs_nil))) (fun _ _ _ _ _ => pts_one (pt_cmpR op_eq (pv 2) (pv 1) (nomark _))) (fun _ _ _ _ _ => pv 3))), ?_⟩
    refine g_ret ?_
    refine ⟨.ref a, rfl, a, R, dx, _, .ref l, rfl, ha, WR.cls, WR.n3, rfl, l, rfl, ⟨_, sq_of hx⟩, fun D hD => ?_⟩
    refine lc_rel (α := Str) (fun i => valsF (r.2.2.1.take i) n) (fun _ v s => v = .str s) (fun _ _ _ _ _ _ h => h) (sq_of hx) hD rfl (by rw [hr1.1]; omega) (fun i x H3 hi e3 k k0 hk hk0 => ?_) (fun H3 ys e3 hy hrel => ?_)
    · obtain ⟨o, ho, t, rfl, ht⟩ := hr1.get hi
      have ht3 := e3 _ _ ht
      have hacc : valsF (r.2.2.1.take (i + 1)) n = valsF (r.2.2.1.take i) n ++ (if decide (o.1 = n) = true then [o.2] else []) := by
        unfold valsF
        rw [List.take_add_one, ho, List.filter_append, List.map_append]
        show _ ++ List.map Prod.snd (List.filter _ [o]) = _
        rw [List.filter_cons]
        by_cases h : o.1 = n
        · rw [decide_eq_true h]; rfl
        · rw [decide_eq_false h]; rfl
      refine ⟨t, _, rfl, st_of ht3, rfl, _, _, rfl, _, _, rfl, rfl, rfl, ?_⟩
      refine (et_test (ev_op (ev_var rfl) (ev_var rfl) rv_eqS)) H3 (Ex.refl H3) _ fun H4 e4 => ?_
      cases hb : decide (o.1 = n) with
      | true =>
        rw [if_pos rfl]
        exact (ev_var rfl) H4 (Ex.refl H4) _ fun H5 e5 => hk _ H5 o.2 (e4.trans e5) (by rw [hacc, hb]; rfl) rfl
      | false =>
        rw [if_neg Bool.false_ne_true]
        exact hk0 H4 e4 (by rw [hacc, hb]; exact List.append_nil _)
    · rw [hr1.1, List.take_length] at hrel
      have ey : ys = (valsF r.2.2.1 n).map V.str := by
        refine List.ext_getElem (by rw [hrel.1, List.length_map]) fun i h1 h2 => ?_
        rw [List.getElem_map]
        rw [List.length_map] at h2
        exact hrel.2 i _ _ (List.getElem?_eq_getElem h1) (List.getElem?_eq_getElem h2)
      exact q D H3 hD e3 (by rw [hy, ey])
end
end Z
set_option maxHeartbeats 4000000
namespace Z
open PySem PySem.Spec PyProof.Rows L2 TL Evl NdefX
theorem areB_val {fs : Fs} (h : areB fs = true) : fs.length ≤ 40 ∧ ∀ x ∈ fs, x.1.length ≤ 30 ∧ x.2.length ≤ 200 := by
  unfold areB at h
  rw [Bool.and_eq_true, decide_eq_true_eq, List.all_eq_true] at h
  refine ⟨h.1, fun x hx => ?_⟩
  obtain ⟨h1, h2⟩ := Bool.and_eq_true_iff.mp (h.2 x hx)
  constructor
  · unfold nameB wordB at h1
    simp only [Bool.and_eq_true, decide_eq_true_eq] at h1
    omega
  · unfold valueB at h2
    simp only [Bool.and_eq_true, decide_eq_true_eq] at h2
    omega
theorem vals_len {fs : Fs} {n : Str} (h : areB fs = true) : (valsF fs n).length ≤ 40 ∧ ∀ y ∈ valsF fs n, y.length ≤ 200 := by
  obtain ⟨h1, h2⟩ := areB_val h
  unfold valsF
  refine ⟨by rw [List.length_map]; exact Nat.le_trans (List.length_filter_le _ _) h1, fun y hy => ?_⟩
  obtain ⟨x, hx, rfl⟩ := List.mem_map.mp hy
  exact (h2 x (List.mem_filter.mp hx).1).2
theorem joinF_len {fs : Fs} {n z : Str} (h : areB fs = true) (hz : joinF fs n = some z) : z.length ≤ 10000 := by
  unfold joinF at hz
  split at hz
  · cases hz
  · cases hz
    obtain ⟨h1, h2⟩ := vals_len (n := n) h
    have h3 := sum_most (valsF fs n) 200 h2
    have h4 := join_len ", " (valsF fs n)
    have h5 : (", " : Str).length = 2 := by decide +kernel
    rw [h5] at h4
    have h6 := Nat.mul_le_mul_right 200 h1
    omega
theorem rd_consLst {σ : L2.St} {H : Hp} {ta tr : TA} {S : List V → Hp → Prop} (h : ta σ H fun xs H1 => xs.length ≤ sizeLine ∧ ∀ p, H1 p = none → tr σ (upd H1 p (.lst xs)) fun ys H2 => S (.ref p :: ys) H2) : tCons (tLst ta) tr σ H S := h
theorem rd_star {K : PySem.W.Frag} {σ : L2.St} {H : Hp} {te : TE} {tr : TA} {l : Addr} {xs : List V} {S : List V → Hp → Prop} (h : Ev te σ H (.ref l)) (hl : H l = some (.lst xs)) (k : ∀ H1, Ex H H1 → tr σ H1 fun ys H2 => S (xs ++ ys) H2) : StX.tStar K te tr σ H S :=
  h H (Ex.refl H) _ fun H1 e1 => ⟨l, xs, rfl, .inr (sq_of (e1 _ _ hl)), k H1 e1⟩
theorem rd_consU {σ : L2.St} {H : Hp} {te : TE} {tr : TA} {xs : List V} {Q : List V → Hp → Prop} (h : EvU te σ H xs) (k : ∀ p H1, H p = none → Ex H H1 → H1 p = some (.tup xs) → tr σ H1 fun vs H2 => Q (.ref p :: vs) H2) : tCons te tr σ H Q := h H (Ex.refl H) _ k
section
variable {P : Program} {w : World} {K : PySem.W.Frag} {mg : Str → Option Value} {base : Heap} {f B R C L DV DM DH : Addr} {fd : FuncData} {k : Nat} {CX : CXT}
theorem ok_Mj (WR : Wr K mg B R) (RM : Rm1 P w K mg base R) (F : FdP K "joined" "Message.joined" s_Mj [] f fd) : FnOk P w K mg base CX 2 f fd ["self", "name"] (spJn R) := by
  obtain ⟨fv, dv, fr, dr, mv, Fv, bv, mr, Fr, br⟩ := RM.ex
  refine FunD.ok F sc_Mj (fun vs H Q E h => ?_) (fun cdv A outer s H vs Q E hr h => ?_)
  · obtain ⟨v, n, r, rfl, _⟩ := h
    rfl
  · obtain ⟨v, n, r, rfl, ⟨l, a, dx, rfl, ha, hf⟩, ⟨hm, hp, hok, hbl, hbb, hbm⟩, q⟩ := h
    obtain ⟨hn, hv⟩ := vals_len (n := n) hok
    refine ⟨_, pss_cons (ps_set (i := 2) sc_Mj.nd rfl (Or.inl rfl) (pe_meth (pv 0) WR.cls mv Fv (hr.mono (by decide)) bv .nil pass0 (pa_cons (pv 1) pa_nil)))
      (pss_cons (ps_if (pt_not (pt_truth (pv 2) (by intro _; rfl))) (pss_one (ps_ret pe_non)) pss_nil)
      (pss_one (ps_ret (pe_bm PySem.F.plainAttrs_str PySem.F.slot_str_join PySem.F.type_str_join mz_join pe_str (pa_cons (pv 2) pa_nil))))), ?_⟩
    refine q_in ?_; dsimp only
    refine g_asg ?_
    refine ⟨.ref a, rfl, a, dx, _, rfl, ha, rfl, .str n, rfl, .ref a, n, r, rfl, ⟨l, a, dx, rfl, ha, hf⟩, (areB_val hok).1, fun p H2 np e2 hpl => ?_⟩
    refine g_name ?_; dsimp only
    have hemp : ((valsF r.2.2.1 n).map V.str).isEmpty = decide (valsF r.2.2.1 n = []) := by
      cases valsF r.2.2.1 n <;> rfl
    refine q_when (b := decide (valsF r.2.2.1 n = [])) (et_is (et_not (et_truL (ev_var rfl) (sq_of hpl))) (by rw [Bool.not_not, hemp])) (fun hb H3 e3 => ?_) (fun hb H3 e3 => ?_)
    · refine s_ret ev_c fun H4 e4 => ?_
      have g := q H4 ((e2.trans e3).trans e4)
      unfold joinF at g
      rw [if_pos (of_decide_eq_true hb)] at g
      exact g
    · have h3 := sum_most (valsF r.2.2.1 n) 200 hv
      have h5 : (", " : Str).length = 2 := by decide +kernel
      have h6 := Nat.mul_le_mul_right 200 hn
      refine g_ret ⟨rfl, .ref p, rfl, ", ", p, valsF r.2.2.1 n, rfl, rfl, .inl (sq_of (e3 _ _ hpl)), by rw [h5]; omega, ?_⟩
      have g := q H3 (e2.trans e3)
      unfold joinF at g
      rw [if_neg (of_decide_eq_false hb)] at g
      exact g
theorem ok_Rr (WR : Wr K mg B R) (RI : Ri P w K mg base R) (F : FdP K "remade" "Request.remade" s_Rr [] f fd) : FnOk P w K mg base CX 8 f fd ["self", "fields", "body"] (spRr R) := by
  obtain ⟨fi, fdi, M, Fi, hb0⟩ := RI.ex
  refine FunD.ok F sc_Rr (fun vs H Q E h => ?_) (fun cdv A outer s H vs Q E hr h => ?_)
  · obtain ⟨v, q, fs, b, r, rfl, _⟩ := h
    rfl
  · obtain ⟨v, q, fs, b, r, rfl, ⟨l, a, dx, rfl, ha, hf⟩, hq, hok, k⟩ := h
    refine ⟨_, pss_one (ps_ret (pe_make M Fi (hr.mono (by decide)) rfl WR.m hb0 .nil ZX.passN (pa_cons (pe_fld (pv 0) rfl) (pa_cons (pe_fld (pv 0) rfl) (pa_cons (pv 1) (pa_cons (pv 2) pa_nil)))))), ?_⟩
    refine g_ret (rd_mk ?_)
    refine (ea_cons (ev_rfld (f := "method") (v := .str r.1) (l := l) WR.cls WR.n5 (ev_var rfl) ha rfl) (ea_cons (ev_rfld (f := "path") (v := .str r.2.1) (l := l) WR.cls WR.n6 (ev_var rfl) ha rfl) (ea_cons (ev_var rfl) (ea_cons (ev_var rfl) ea_nil)))) H (Ex.refl H) _ fun H1 e1 => ?_
    exact ri_rq (vs := [.str r.1, .str r.2.1, .ref q, .str b]) (dvs := []) rfl (hq.ex e1) hok fun v' l' H' nl e hv => k v' l' H' (fresh_back e1 nl) (e1.trans e) hv
theorem ok_Mw (WR : Wr K mg B R) (RM : Rm1 P w K mg base R) (F : FdP K "with_field" "Message.with_field" s_Mw [] f fd) : FnOk P w K mg base CX 9 f fd ["self", "name", "value"] (spWf R) := by
  obtain ⟨fv, dv, fr, dr, mv, Fv, bv, mr, Fr, br⟩ := RM.ex
  refine FunD.ok F sc_Mw (fun vs H Q E h => ?_) (fun cdv A outer s H vs Q E hr h => ?_)
  · obtain ⟨v, n, x, r, rfl, _⟩ := h
    rfl
  · obtain ⟨v, n, x, r, rfl, ⟨l, a, dx, rfl, ha, hf⟩, hok, hz, k⟩ := h
    obtain ⟨xs, hx, hr1⟩ := id hf
    refine ⟨_, pss_cons (ps_setLc (i := 3) (own := [("field", 4)]) (g := gName 4) rfl sc_Mw.nd rfl rfl (sw_true rfl rfl rfl (by decide +kernel)) (pi_list (pe_fld (pv 0) rfl)) (blkOk_by (N := ["self", "name", "value", "others", "field"]) (sc := L2.defScope s_Mw) (by decide +kernel)) (fun _ _ _ _ _ => pg_name (i := 4) sc_Mw.nd rfl (Or.inl rfl)) (fun _ _ _ _ _ => pts_one (pt_cmpR op_ne (inK (K := K) (t := fun K => tOp (rIxT K) _ _) rfl (pe_ix ix_tup (pv 4) pe_int (fun _ _ => rfl))) (pv 1) (nomark _))) (fun _ _ _ _ _ => pv 4))
      (pss_one (ps_ret (pe_meth (pv 0) WR.cls mr Fr (hr.mono (by decide)) br .nil pass0 (pa_cons (pe_lst (StX.pa_star (pv 3) (pa_cons (pe_tup (pa_cons (pv 1) (pa_cons (pv 2) pa_nil))) pa_nil))) (pa_cons (pe_fld (pv 0) rfl) pa_nil))))), ?_⟩
    refine q_in ?_; dsimp only
    refine g_asg ?_
    refine ⟨.ref a, rfl, a, R, dx, _, .ref l, rfl, ha, WR.cls, WR.n3, rfl, l, rfl, ⟨_, sq_of hx⟩, fun D hD => ?_⟩
    refine lc_rel (α := Str × Str) (fun i => (r.2.2.1.take i).filter fun y => !decide (y.1 = n)) PfAt (fun _ _ _ _ k hD r => TupAt.keep r k hD) (sq_of hx) hD rfl (by rw [hr1.1]; omega) (fun i y H3 hi e3 k k0 hk hk0 => ?_) (fun H3 ys e3 hy hrel => ?_)
    · obtain ⟨o, ho, t, rfl, ht⟩ := hr1.get hi
      have ht3 := e3 _ _ ht
      have hacc : (r.2.2.1.take (i + 1)).filter (fun y => !decide (y.1 = n)) = (r.2.2.1.take i).filter (fun y => !decide (y.1 = n)) ++ (if (!decide (o.1 = n)) = true then [o] else []) := by
        rw [List.take_add_one, ho, List.filter_append]
        show _ ++ List.filter _ [o] = _
        rw [List.filter_cons]
        by_cases h : o.1 = n
        · rw [decide_eq_true h]; rfl
        · rw [decide_eq_false h]; rfl
      refine ⟨rfl, ?_⟩
      refine (et_test (ev_op (ev_ixT (ev_var rfl) ev_c ht3 (atI_nat (j := 0) rfl)) (ev_var rfl) rv_neS)) H3 (Ex.refl H3) _ fun H4 e4 => ?_
      cases hb : !decide (o.1 = n) with
      | true =>
        rw [if_pos rfl]
        exact (ev_var rfl) H4 (Ex.refl H4) _ fun H5 e5 => hk _ H5 o (e4.trans e5) (by rw [hacc, hb]; rfl) ⟨t, rfl, (e4.trans e5) _ _ ht3⟩
      | false =>
        rw [if_neg Bool.false_ne_true]
        exact hk0 H4 e4 (by rw [hacc, hb]; exact List.append_nil _)
    · rw [hr1.1, List.take_length] at hrel
      refine g_name ?_; dsimp only
      refine g_ret ?_
      refine ⟨.ref a, rfl, a, dx, _, rfl, e3 _ _ ha, rfl, ?_⟩
      refine rd_consLst (rd_star (ev_var rfl) hy fun H4 e4 => rd_consU (eu_tup (ea_cons (ev_var rfl) (ea_cons (ev_var rfl) ea_nil)) (by show 2 ≤ _; decide)) fun t H5 nt e5 ht => rd_nil ⟨by rw [List.length_append, hrel.1]; exact sz_of (by have := List.length_filter_le (fun y => !decide (y.1 = n)) r.2.2.1; show _ + 1 ≤ _; omega), fun p np => ?_⟩)
      have e35 := e4.trans e5
      have enp := Ex.new (o := .lst (ys ++ [.ref t])) np
      refine rd_consE (ev_rfld (f := "body") (v := .str r.2.2.2) (l := l) WR.cls WR.n4 (ev_var rfl) ((e3.trans (e35.trans enp)) _ _ ha) rfl) fun H6 e6 => rd_nil ?_
      have e6' := enp.trans e6
      refine ⟨.ref a, p, withF r.2.2.1 n x, r.2.2.2, r, rfl, ⟨l, RqOf.ex (H := H) (r := r) ⟨a, dx, rfl, ha, hf⟩ (e3.trans (e35.trans e6'))⟩, ⟨_, e6 _ _ upd_same, ?_⟩, hok, fun v' l' H' nl e hv => k v' l' H' (fresh_back (e3.trans (e35.trans e6')) nl) ((e3.trans (e35.trans e6')).trans e) hv⟩
      refine Rel.snoc (hrel.mono fun _ _ m => TupAt.ex m (e35.trans e6')) ⟨t, rfl, e6' _ _ ht⟩
end
end Z
set_option maxHeartbeats 4000000
namespace Z
open PySem PySem.Spec PyProof.Rows L2 TL Evl NdefX
theorem inO {X : Cx} {K : PySem.W.Frag} {op : Value → Value → Sem Value} {r : PySem.W.Frag → R2} (same : X.K = K) (h : OpR X op (r X.K)) : OpR X op (r K) := same ▸ h
def spWo0 (R : Addr) : Sp := fun vs H Q _ => ∃ v p ns r, vs = [v, .ref p] ∧ H p = some (.tup (ns.map V.str)) ∧ RqAt R H v r ∧ okRq r.1 r.2.1 (outF r.2.2.1 ns) r.2.2.2 ∧ r.2.2.1.length ≤ 40 ∧ ∀ v' l H', H l = none → Ex H H' → RqOf R l H' v' (r.1, r.2.1, outF r.2.2.1 ns, r.2.2.2) → Q v' H'
def spWoR (R : Addr) : Sp := fun vs H Q E => ∃ v rest, vs = v :: rest ∧ rest.length ≤ 5 ∧ ∀ p, H p = none → spWo0 R [v, .ref p] (upd H p (.tup rest)) Q E
theorem inV_str (z : Str) : ∀ ns : List Str, inV (.str z) (ns.map V.str) = decide (z ∈ ns)
  | [] => rfl
  | n :: r => by
    have ih := inV_str z r
    unfold inV at ih ⊢
    rw [List.map_cons, List.any_cons, ih]
    by_cases h : z = n
    · subst h
      rw [decide_eq_true (List.mem_cons_self)]
      have : eqV (.str z) (.str z) = true := by simp [eqV]
      first
        | rw [this]; rfl
        | simp
    · by_cases h2 : z ∈ r
      · rw [decide_eq_true h2, decide_eq_true (List.mem_cons_of_mem _ h2), Bool.or_true]
      · rw [decide_eq_false h2, decide_eq_false (fun h3 => (List.mem_cons.mp h3).elim h h2), Bool.or_false]
        have : eqV (.str n) (.str z) = false := by
          show (n == z) = false
          exact beq_eq_false_iff_ne.mpr fun e => h e.symm
        exact this
theorem flat_strs : ∀ ns : List Str, (ns.map V.str).all flatV = true
  | [] => rfl
  | _ :: r => by rw [List.map_cons, List.all_cons, flat_strs r]; rfl
section
variable {P : Program} {w : World} {K : PySem.W.Frag} {mg : Str → Option Value} {base : Heap} {f B R C L DV DM DH : Addr} {fd : FuncData} {k : Nat} {CX : CXT}
theorem ok_Mo (WR : Wr K mg B R) (RM : Rm1 P w K mg base R) (F : FdP K "without" "Message.without" s_Mo [] f fd) : FnR P w K mg base CX0 10 f (spWoR R) := by
  obtain ⟨fv, dv, fr, dr, mv, Fv, bv, mr, Fr, br⟩ := RM.ex
  obtain ⟨oc, od, dflt, kwd, doc, mod, ann, code, tp, osl, isFd, lk, hcd, none_given, _⟩ := F.ex
  rw [isFd] at lk
  have nd : dflt = .none := none_given.elim (fun q => q.2) fun q => absurd rfl q.1
  subst nd
  refine fn_ofV (pa := "self") (pv := "names") (nmax := 5) (sp := spWo0 R) lk hcd sc_Mo (by decide) (bindV_of (fun _ => rfl) (fun _ _ => rfl) (fun _ _ _ => rfl) (fun _ _ _ _ => rfl) (fun _ _ _ _ _ => rfl) (fun _ _ _ _ _ _ => rfl)) (fun _ _ _ _ _ _ _ _ _ _ _ _ z => z) fun A outer s H vs Q E hr h => ?_
  obtain ⟨v, p, ns, r, rfl, hp, ⟨l, a, dx, rfl, ha, hf⟩, hok, hz, k⟩ := h
  obtain ⟨xs, hx, hr1⟩ := id hf
  refine ⟨_, pss_one (ps_ret (pe_meth (pv 0) WR.cls mr Fr (hr.mono (by decide)) br .nil pass0 (pa_cons (pe_lc (own := [("field", 2)]) (g := gName 2) rfl sc_Mo.nd (pi_list (pe_fld (pv 0) rfl)) (blkOk_by (N := ["self", "names", "field"]) (sc := L2.defScope s_Mo) (by decide +kernel)) (fun _ _ _ _ _ => pg_name (i := 2) sc_Mo.nd rfl (Or.inl rfl)) (fun _ _ _ _ _ => pts_one (pt_cmpR (inO (K := K) (r := fun K => rIn K true) rfl op_notIn_seq) (inK (K := K) (t := fun K => tOp (rIxT K) _ _) rfl (pe_ix ix_tup (pv 2) pe_int (fun _ _ => rfl))) (pv 1) rfl)) (fun _ _ _ _ _ => pv 2)) (pa_cons (pe_fld (pv 0) rfl) pa_nil)))), ?_⟩
  refine g_ret ?_
  refine ⟨.ref a, rfl, a, dx, _, rfl, ha, rfl, ?_⟩
  refine ⟨.ref a, rfl, a, R, dx, _, .ref l, rfl, ha, WR.cls, WR.n3, rfl, l, rfl, ⟨_, sq_of hx⟩, fun D hD => ?_⟩
  refine lc_rel (α := Str × Str) (fun i => outF (r.2.2.1.take i) ns) PfAt (fun _ _ _ _ k hD r => TupAt.keep r k hD) (sq_of hx) hD rfl (by rw [hr1.1]; omega) (fun i y H3 hi e3 k k0 hk hk0 => ?_) (fun H3 ys e3 hy hrel => ?_)
  · obtain ⟨o, ho, t, rfl, ht⟩ := hr1.get hi
    have ht3 := e3 _ _ ht
    have hacc : outF (r.2.2.1.take (i + 1)) ns = outF (r.2.2.1.take i) ns ++ (if (!decide (o.1 ∈ ns)) = true then [o] else []) := by
      unfold outF
      rw [List.take_add_one, ho, List.filter_append]
      show _ ++ List.filter _ [o] = _
      rw [List.filter_cons]
      by_cases h : o.1 ∈ ns
      · rw [decide_eq_true h]; rfl
      · rw [decide_eq_false h]; rfl
    refine ⟨rfl, ?_⟩
    refine (et_is (b := !decide (o.1 ∈ ns)) (et_test (ev_op (ev_ixT (ev_var rfl) ev_c ht3 (atI_nat (j := 0) rfl)) (ev_var rfl) (rv_niT (st_of (e3 _ _ hp)) rfl (flat_strs ns)))) (by rw [inV_str])) H3 (Ex.refl H3) _ fun H4 e4 => ?_
    cases hb : !decide (o.1 ∈ ns) with
    | true =>
      rw [if_pos rfl]
      exact (ev_var rfl) H4 (Ex.refl H4) _ fun H5 e5 => hk _ H5 o (e4.trans e5) (by rw [hacc, hb]; rfl) ⟨t, rfl, (e4.trans e5) _ _ ht3⟩
    | false =>
      rw [if_neg Bool.false_ne_true]
      exact hk0 H4 e4 (by rw [hacc, hb]; exact List.append_nil _)
  · rw [hr1.1, List.take_length] at hrel
    refine rd_consE (ev_rfld (f := "body") (v := .str r.2.2.2) (l := l) WR.cls WR.n4 (ev_var rfl) (e3 _ _ ha) rfl) fun H6 e6 => rd_nil ?_
    have e36 := e3.trans e6
    exact ⟨.ref a, D, outF r.2.2.1 ns, r.2.2.2, r, rfl, ⟨l, RqOf.ex (H := H) (r := r) ⟨a, dx, rfl, ha, hf⟩ e36⟩, ⟨ys, e6 _ _ hy, hrel.mono fun _ _ m => TupAt.ex m e6⟩, hok, fun v' l' H' nl e hv => k v' l' H' (fresh_back e36 nl) (e36.trans e) hv⟩
/-! ### request == request -/
def toF (x : Str × Str) : PyData := .tuple [.str x.1, .str x.2]
theorem sign_ok {z : Str} (h : allIn z signs = true) : PyData.strOk z = true := ok_text fun c hc => signs_lt c (of_decide_eq_true (List.all_eq_true.mp h c hc))
theorem name_ok {z : Str} (h : nameB z = true) : PyData.strOk z = true := by
  unfold nameB wordB at h
  simp only [Bool.and_eq_true] at h
  have h2 := h.1.2.2
  refine ok_text fun c hc => ?_
  have h4 : c ∈ tl "abcdefghijklmnopqrstuvwxyz0123456789-" := of_decide_eq_true (List.all_eq_true.mp h2 c hc)
  have : ∀ c ∈ tl "abcdefghijklmnopqrstuvwxyz0123456789-", c < 128 := by decide +kernel
  exact this c h4
theorem value_ok {z : Str} (h : valueB z = true) : PyData.strOk z = true := by
  unfold valueB at h
  simp only [Bool.and_eq_true] at h
  exact sign_ok h.2.1
def okF (fs : Fs) : Prop := ∀ x ∈ fs, fieldB x = true
theorem areB_ok {fs : Fs} (h : areB fs = true) : okF fs := by
  unfold areB at h
  rw [Bool.and_eq_true, List.all_eq_true] at h
  exact h.2
theorem lay_toF : ∀ fs : Fs, okF fs → PyData.canLayAll0 (fs.map toF) = true
  | [], _ => by simp [PyData.canLayAll0]
  | x :: r, h => by
    have h2 := lay_toF r fun y hy => h y (List.mem_cons_of_mem _ hy)
    obtain ⟨h3, h4⟩ := Bool.and_eq_true_iff.mp (h x List.mem_cons_self)
    simp [PyData.canLayAll0, PyData.canLay0, toF, name_ok h3, value_ok h4, h2]
theorem depth_toF : ∀ fs : Fs, PyData.depthAll (fs.map toF) ≤ 2
  | [] => by simp [PyData.depthAll]
  | x :: r => by
    have := depth_toF r
    simp only [List.map_cons, PyData.depthAll, PyData.depth, toF]
    omega
theorem shaped_toF (fs : Fs) (h : okF fs) : SeqAt.shaped (.list (fs.map toF)) = true := by
  have h1 := depth_toF fs
  have h2 : PyData.depth (.list (fs.map toF)) ≤ 64 := by simp only [PyData.depth]; omega
  show (PyData.canLay0 (.list (fs.map toF)) && decide (PyData.depth (.list (fs.map toF)) ≤ 64)) = true
  rw [Bool.and_eq_true]
  exact ⟨by simp only [PyData.canLay0]; exact lay_toF fs h, decide_eq_true h2⟩
theorem eqv_toF (a b : Str × Str) : PyData.eqv (toF a) (toF b) = decide (a = b) := by
  obtain ⟨x, y⟩ := a
  obtain ⟨z, u⟩ := b
  show PyData.eqv (.tuple [.str x, .str y]) (.tuple [.str z, .str u]) = _
  simp only [PyData.eqv, PyData.eqvAll, Bool.and_true]
  rw [Bool.eq_iff_iff, Bool.and_eq_true, beq_iff_eq, beq_iff_eq, decide_eq_true_eq]
  exact ⟨fun h => by rw [h.1, h.2], fun h => ⟨congrArg Prod.fst h, congrArg Prod.snd h⟩⟩
theorem eqvAll_toF : ∀ fs gs : Fs, PyData.eqvAll (fs.map toF) (gs.map toF) = decide (fs = gs)
  | [], [] => by simp [PyData.eqvAll]
  | [], _ :: _ => by simp [PyData.eqvAll]
  | _ :: _, [] => by simp [PyData.eqvAll]
  | x :: r, y :: s => by
    show (PyData.eqv (toF x) (toF y) && PyData.eqvAll (r.map toF) (s.map toF)) = _
    rw [eqv_toF, eqvAll_toF r s, Bool.eq_iff_iff, Bool.and_eq_true, decide_eq_true_eq, decide_eq_true_eq, decide_eq_true_eq]
    exact ⟨fun h => by rw [h.1, h.2], fun h => by
      injection h with h1 h2
      exact ⟨h1, h2⟩⟩
theorem dpf_all {K : PySem.W.Frag} {H : Hp} : ∀ {xs : List V} {os : Fs}, Rel (PfAt H) xs os → DpAll K H xs (os.map toF)
  | [], [], _ => .nil
  | [], o :: os, h => by have := h.1; cases this
  | x :: xs, [], h => by have := h.1; cases this
  | x :: xs, o :: os, h => by
    obtain ⟨p, rfl, hp⟩ := h.2 0 x o rfl rfl
    exact .cons (.tup (st_of hp) (.cons (.str _) (.cons (.str _) .nil))) (dpf_all ⟨Nat.succ.inj h.1, fun i y u a b => h.2 (i + 1) y u a b⟩)
theorem dpf {K : PySem.W.Frag} {H : Hp} {q : Addr} {fs : Fs} (h : FsAt H q fs) : Dp K H (.ref q) (.list (fs.map toF)) := by
  obtain ⟨xs, h1, h2⟩ := h
  exact .lst (sq_of h1) (dpf_all h2)
theorem rv_eqF {K : PySem.W.Frag} {H : Hp} {p q : Addr} {fs gs : Fs} (h1 : FsAt H p fs) (h2 : FsAt H q gs) (k1 : okF fs) (k2 : okF gs) : RV (rEqD K) (.ref p) (.ref q) H (.bl (decide (fs = gs))) := fun H1 e Q k => by
  refine ⟨_, _, dpf (h1.ex e), dpf (h2.ex e), shaped_toF fs k1, shaped_toF gs k2, ?_⟩
  have e1 : PyData.eqv (.list (fs.map toF)) (.list (gs.map toF)) = decide (fs = gs) := by
    simp only [PyData.eqv]
    exact eqvAll_toF fs gs
  rw [e1]
  exact k H1 (Ex.refl H1)
theorem rv_neF {K : PySem.W.Frag} {H : Hp} {p q : Addr} {fs gs : Fs} (h1 : FsAt H p fs) (h2 : FsAt H q gs) (k1 : okF fs) (k2 : okF gs) : RV (rNeD K) (.ref p) (.ref q) H (.bl (!decide (fs = gs))) := fun H1 e Q k => by
  refine ⟨_, _, dpf (h1.ex e), dpf (h2.ex e), shaped_toF fs k1, shaped_toF gs k2, ?_⟩
  have e1 : PyData.eqv (.list (fs.map toF)) (.list (gs.map toF)) = decide (fs = gs) := by
    simp only [PyData.eqv]
    exact eqvAll_toF fs gs
  rw [e1]
  exact k H1 (Ex.refl H1)
theorem ev_isiR {P : Program} {w : World} {K : PySem.W.Frag} {mg : Str → Option Value} {σ : L2.St} {H : Hp} {B R D a dx : Addr} {ta tc : TE} {fs : List (Str × V)} (WR : Wr K mg B R) (hD : PySem.W.kitOne K (.ref R) (.ref D) = some true) (h : Ev ta σ H (.ref a)) (hc : Ev tc σ H (.ref D)) (ha : H a = some (.ins R dx fs)) : Ev (tCB (rIsi K) (tCons ta (tCons tc tNil))) σ H (.bl true) := fun H1 e Q q =>
  h H1 e _ fun H2 e2 => hc H2 (e.trans e2) _ fun H3 e3 => ⟨.ref a, .ref D, .ref R, .ref D, true, rfl, .own D, .base (.ins (((e.trans e2).trans e3) _ _ ha) WR.cls WR.ins.ha WR.ins.hn WR.ins.htk WR.ins.hm), hD, q H3 (e2.trans e3)⟩
def spEqR (R : Addr) : Sp := fun vs H Q _ => ∃ v u r, vs = [v, u] ∧ RqAt R H v r ∧ RqAt R H u r ∧ okR r ∧ RetV (.bl true) H Q
theorem ok_Me (T : Mg mg) (MB : Wb K mg B) (WR : Wr K mg B R) (F : FdP K "__eq__" "Message.__eq__" s_Me [] f fd) : FnOk P w K mg base CX 1 f fd ["self", "other"] (spEqR R) := by
  refine FunD.ok F sc_Me (fun vs H Q E h => ?_) (fun cdv A outer s H vs Q E hr h => ?_)
  · obtain ⟨v, u, r, rfl, _⟩ := h
    rfl
  · obtain ⟨v, u, r, rfl, ⟨l, a, dx, rfl, ha, hf⟩, ⟨l', a', dx', rfl, ha', hf'⟩, hok, q⟩ := h
    have hF := areB_ok hok.2.2.1
    refine ⟨_, pss_one (ps_ret (pe_and (pe_callB call_isi (by rfl) T.isinstance (by decide +kernel) (pa_cons (pv 1) (pa_cons (pe_gc (v := .ref B) rfl ⟨_, MB.m, rfl⟩) pa_nil))) (pe_and (pe_cmpR op_eq (pe_fld (pv 0) rfl) (pe_fld (pv 1) rfl) (nomark _)) (pe_and (pe_cmpR (op_eqD hr.units) (pe_fld (pv 0) rfl) (pe_fld (pv 1) rfl) (nomark _)) (pe_one (pe_cmpR op_eq (pe_fld (pv 0) rfl) (pe_fld (pv 1) rfl) (nomark _))))))), ?_⟩
    have ev : ∀ {te : TE} {σ : L2.St} {l a dx : Addr} {f : Str} {v : V}, NoAttr K R f → Ev te σ H (.ref a) → H a = some (.ins R dx (rqFs (askL r.1 r.2.1) (decide (r.1 = "put")) (.ref l) r.2.2.2 r.1 r.2.1)) → (rqFs (askL r.1 r.2.1) (decide (r.1 = "put")) (.ref l) r.2.2.2 r.1 r.2.1).lookup f = some v → Ev (tFld K te f) σ H v := fun n h ha hl => ev_rfld WR.cls n h ha hl
    refine s_ret (v := .bl true) (ev_andV (a := true) (b := true) (ev_isiR (P := P) (w := w) WR WR.iRB (ev_var rfl) ev_c ha') fun _ => ev_andV (a := true) (b := true) (ev_is (ev_op (ev WR.n1 (ev_var rfl) ha rfl) (ev WR.n1 (ev_var rfl) ha' rfl) rv_eqS) (by rw [decide_eq_true rfl])) fun _ => ev_andV (a := true) (b := true) (ev_is (ev_op (ev WR.n3 (ev_var rfl) ha rfl) (ev WR.n3 (ev_var rfl) ha' rfl) (rv_eqF hf hf' hF hF)) (by rw [decide_eq_true rfl])) fun _ => ev_is (ev_op (ev WR.n4 (ev_var rfl) ha rfl) (ev WR.n4 (ev_var rfl) ha' rfl) rv_eqS) (by rw [decide_eq_true rfl])) q
end
end Z
set_option maxHeartbeats 2000000
namespace ZX
open PySem PySem.Spec PyProof.Rows L2
/-! ### C(e, ..) in an except suite; a statement that is never reached -/
theorem ps_never {X : Cx} {st : Stmt} : PS X st (fun _ _ _ => False) := ⟨fun pins s σ H D I h => h.elim⟩
section
variable {X : Cx} {CX : CXT} {k : Nat} {C f : Addr} {fd : FuncData} {ps : List Str} {sp : Sp} {E : XK} {e : Expr} {es : List Expr} {x : Str} {pos p : Pos} {t : TA} {dvs : List V} {ds : List Value}
theorem run_makeH {pins : List (Addr × Obj)} {σ : L2.St} {H : Hp} {s : Shared} {Q : VK} {us : List Value} {vs : List V} (M : Mk X.K C f) (F : L2H.FnH X.prog X.w X.K X.mg X.base CX k f fd ps sp) (hr : L2H.RoomH (k + 1) X.A) (hc : L2H.HotC X) (hb : Binds X.K fd ps ds) (hd : Vals dvs ds)
    (hx : Passes CX X E) (I : Inv X pins σ H s) (r : Vals vs us)
    (h : ∀ x dx, H x = none → H dx = none → dx ≠ x → sp (.ref x :: (vs ++ dvs)) (upd (upd H dx (.own x)) x (.ins C dx [])) (fun v H2 => v = .non ∧ Q (.ref x) H2) E) :
    wpAny (model X.prog X.w) X.A (call (.ref C) us) (EP X pins σ Q) X.xe s := by
  have hq := h (s.heap.objs.size + 1) s.heap.objs.size (I.hok.fresh (Nat.le_succ _)) (I.hok.fresh (Nat.le_refl _)) (Nat.ne_of_lt (Nat.lt_succ_self _))
  have I2 := Inv.made (C := C) I
  obtain ⟨pn, hot, hp⟩ := hc
  have P1 := I2.pin pn (List.mem_append_left _ hp)
  have r2 : Vals (V.ref (s.heap.objs.size + 1) :: (vs ++ dvs)) (Value.ref (s.heap.objs.size + 1) :: (us ++ ds)) := .cons rfl (r.append hd)
  have hl : (Value.ref (s.heap.objs.size + 1) :: us ++ ds).length = ps.length := by
    have e := r2.length
    rw [F.len _ _ _ _ hq] at e
    exact e.symm
  refine wpAny_call (make_map (f := f) I.kIn M.makes M.init (beq_iff_eq.mp M.fn) (codeAny_mono (F.run _ X.stack _ _ ⟨Value.ref (s.heap.objs.size + 1) :: us, []⟩ (Value.ref (s.heap.objs.size + 1) :: (us ++ ds)) _ _ E pn
    ⟨by have := hr.dp; rw [make_depth]; omega, by have := hr.un; rw [make_units]; omega⟩ hot ⟨P1.1, P1.2.1, fun hm => (List.mem_cons.mp (I2.stkSub pn.1 hm)).elim P1.2.2.1 P1.2.2.2.1, P1.2.2.2.2⟩
    (I2.env0.make C us []) (hb _ (Value.ref (s.heap.objs.size + 1) :: us) I2.kIn hl) r2 hq) fun r s' hq' => ?_))
  cases r with
  | error e => exact hx pins σ _ _ e s' I2 hq'
  | ok fl =>
    cases fl with
    | ret u =>
      obtain ⟨v, H', I3, rv, ev, q3⟩ := I2.after hq'
      subst ev
      exact ⟨rv, ⟨V.ref (s.heap.objs.size + 1), H', I3, rfl, q3⟩⟩
    | next => exact False.elim hq'
    | brk => exact False.elim hq'
    | cont => exact False.elim hq'
theorem pe_makeH (M : Mk X.K C f) (F : L2H.FnH X.prog X.w X.K X.mg X.base CX k f fd ps sp) (hr : L2H.RoomH (k + 1) X.A) (hc : L2H.HotC X) (hg : Gl X x) (hm : X.mg x = some (.ref C)) (hb : Binds X.K fd ps ds) (hd : Vals dvs ds) (hx : Passes CX X E)
    (ha : PA X (e :: es) t) (hdb : (x == ("__debug__" : Str)) = false := by decide) (he : starEach (e :: es) X.env = (false, eval e X.env) :: starEach es X.env := by rfl) (hpl : (backTo pos (starEach es X.env)).any (·.1) = false := by rfl) :
    PE X (.Call (.Name x p) (e :: es) [] pos) (tMake C sp dvs E t) := by
  refine ⟨fun pins s σ H Q I h => ?_⟩
  refine wpAny_Call_Name_kw (ld_glob I hg hm ?_ hdb)
  refine PySem.W.callWith_K (h₀ := X.base) I.ok.mod.kin M.kp (thn (ha.run pos pins s σ H _ I h) fun us s1 ⟨vs, H1, I1, r, q⟩ => ⟨I1.kIn, ?_⟩) he hpl
  exact run_makeH M F hr hc hb hd hx I1 r q
end
end ZX
set_option maxHeartbeats 4000000
namespace Z
open PySem PySem.Spec PyProof.Rows L2 TL Evl NdefX
/-! ### conditions -/
def spLi0 (L : Addr) : Sp := fun vs H Q _ => ∃ (a dx q : Addr) (xs : List V) (b : Bool), vs = [.ref a, .ref q, .bl b] ∧ H q = some (.lst xs) ∧ xs.length ≤ 40000 ∧ H a = some (.ins L dx []) ∧ badL b xs.length = false ∧
  ∀ l H', H l = none → Keep a H H' → H' a = some (.ins L dx (mlFs (.ref l) b)) → H' l = some (.lst xs) → Q .non H'
structure LiH (P : Program) (w : World) (K : PySem.W.Frag) (mg : Str → Option Value) (base : Heap) (L : Addr) : Prop where
  ex : ∃ fi fd ds, Mk K L fi ∧ L2H.FnH P w K mg base CX0 3 fi fd ["self", "marks", "star"] (spLi0 L) ∧ Vals [.bl false] ds ∧ Binds K fd ["self", "marks", "star"] ds
structure Lr (P : Program) (w : World) (K : PySem.W.Frag) (mg : Str → Option Value) (base : Heap) (C L DM : Addr) : Prop where
  ex : ∃ mc p g fd, ZX.Stat K L mc "read" p g ∧ FnOk P w K mg base (L2N.CX P w) 6 g fd ["text"] (spLr C L DM) ∧ Binds K fd ["text"] []
theorem q_statL {C L DM : Addr} {W : WX} {σ : L2.St} {H : Hp} {t : TA} {z : Str} {Q : VK} (h : EvA t σ H [.str z]) (hz : z.length ≤ 10000) (kn : readL z = none → ∀ d H', H d = none → Ex H H' → H' d = some (.xd [("text", .str z)]) → W (.ref DM) (some d) σ H')
    (ks : ∀ o, readL z = some o → ∀ v l H', H l = none → Ex H H' → MlOf C L l H' v o → Q v H') : ZX.tStatS L (spLr C L DM) (WE W) (tC (.ref L)) t σ H Q :=
  ⟨rfl, h H (Ex.refl H) _ fun H1 e1 => ⟨z, rfl, hz, fun hn d H' hd e hx => kn hn d H' (fresh_back e1 hd) (e1.trans e) hx, fun o hs v l H' hl e hv => ks o hs v l H' (fresh_back e1 hl) (e1.trans e) hv⟩⟩
structure Rj (P : Program) (w : World) (K : PySem.W.Frag) (mg : Str → Option Value) (base : Heap) (R : Addr) : Prop where
  ex : ∃ f fd, Meth K R "joined" f ∧ FnOk P w K mg base CX0 2 f fd ["self", "name"] (spJn R) ∧ Binds K fd ["self", "name"] []
def markL (z : Str) : Bool × Mks := (readL z).getD (false, [])
def spRmf (C L R : Addr) : Sp := fun vs H Q _ => ∃ v n r, vs = [v, .str n] ∧ RqAt R H v r ∧ okR r ∧ (joinF r.2.2.1 n = none → RetV .non H Q) ∧ ∀ z, joinF r.2.2.1 n = some z → ∀ v' l H', H l = none → Ex H H' → MlOf C L l H' v' (markL z) → Q v' H'
def readF (fs : Fs) (n : Str) : V := match joinF fs n with
  | none => .non
  | some z => readV z
def spRrf (R : Addr) : Sp := fun vs H Q _ => ∃ v n r, vs = [v, .str n] ∧ RqAt R H v r ∧ okR r ∧ RetV (readF r.2.2.1 n) H Q
theorem ev_jn {R : Addr} {σ : L2.St} {H : Hp} {ta tb : TE} {v : V} {n : Str} {r : RqT} {E : XK} (h : Ev ta σ H v) (hb : Ev tb σ H (.str n)) (h1 : RqAt R H v r) (hok : okR r) : Ev (tMeth R "joined" (spJn R) [] E ta (tCons tb tNil)) σ H (optV (joinF r.2.2.1 n)) := fun H1 e Q q => by
  refine h H1 e _ fun H2 e2 => ?_
  have h2 := h1.ex (e.trans e2)
  obtain ⟨l, a, dx, rfl, ha, hf⟩ := h2
  exact ⟨a, dx, _, rfl, ha, rfl, hb H2 (e.trans e2) _ fun H3 e3 => ⟨.ref a, n, r, rfl, RqAt.ex ⟨l, a, dx, rfl, ha, hf⟩ e3, hok, fun H4 e4 => q H4 ((e2.trans e3).trans e4)⟩⟩
section
variable {P : Program} {w : World} {K : PySem.W.Frag} {mg : Str → Option Value} {base : Heap} {f B R C L DV DM DH : Addr} {fd : FuncData} {k : Nat} {CX : CXT}
theorem ok_liH (T : Mg mg) (WL : Wl K mg L) (F : FdP K "__init__" "MarkList.__init__" s_li [.bl false] f fd) : L2H.FnH P w K mg base CX0 3 f fd ["self", "marks", "star"] (spLi0 L) := by
  obtain ⟨oc, od, dV, kV, doc, pm, an, cdv, ct, osl, rfl, lk, hcd, _, _⟩ := F.ex
  refine L2H.fn_ofH lk hcd sc_li (fun vs H Q E h => ?_) fun A outer s H vs Q E p hot hr h => ?_
  · obtain ⟨a, dx, q, xs, b, rfl, _⟩ := h
    rfl
  · obtain ⟨a, dx, q, xs, b, rfl, hq, hz, ha, hbad, qt⟩ := h
    refine ⟨_, pss_cons (ps_if (PW.pt (pw_and (pt_truth (pv 2) (by intro _; rfl)) (pw_and1 (pt_cmpR op_gt (pe_callB call_len_seq (by rfl) T.len (by decide +kernel) (pa_cons (pv 1) pa_nil)) pe_int (nomark _))))) (pss_one ZX.ps_never) pss_nil)
      (pss_cons (ps_fld (pv 0) (pe_callTy call_list_of (by rfl) T.list (by decide +kernel) (pa_cons (pv 1) pa_nil)) rfl) (pss_one (ps_fld (pv 0) (pv 2) rfl))), ?_⟩
    refine q_when (b := badL b xs.length) (et_is (et_and (et_truB (ev_var rfl)) fun _ => et_test (ev_op (ev_len (ev_var rfl) (sq_of hq)) ev_c rv_I0)) (by unfold badL; congr 1; exact decide_eq_decide.mpr (by omega))) (fun hb H1 e1 => by rw [hbad] at hb; cases hb) (fun hb H1 e1 => ?_)
    refine q_in ?_; dsimp only
    refine (el_list (ev_var rfl) (sq_of (e1 _ _ hq))) H1 (Ex.refl H1) _ fun l H2 nl e2 hl => ?_
    have ha2 := e2 _ _ (e1 _ _ ha)
    have hla : l ≠ a := fun e => by
      rw [e, e1 _ _ ha] at nl
      cases nl
    refine ⟨.ref a, rfl, a, L, dx, [], rfl, ha2, WL.cls, WL.nM, by decide, ?_⟩
    refine ⟨.bl b, rfl, .ref a, rfl, a, L, dx, _, rfl, upd_same, WL.cls, WL.nS, by show 1 < 1000; decide, ?_⟩
    refine qt l _ (fresh_back e1 nl) (fun c o hc h => ?_) ?_ ?_
    · rw [upd_ne hc, upd_ne hc]
      exact e2 _ _ (e1 _ _ h)
    · rw [upd_same, mlFs_put]
    · rw [upd_ne hla, upd_ne hla]
      exact hl
theorem ok_read_reading_field (T : Mg mg) (WR : Wr K mg B R) (RJ : Rj P w K mg base R) (c_read_reading : C1 P w K mg base 3 "read_reading" readV) (F : FnP K "read_reading_field" s_read_reading_field f fd) (gm : mg "read_reading_field" = some (.ref f)) : Call P w K mg base 4 "read_reading_field" ["message", "name"] (spRrf R) := by
  obtain ⟨fj, dj, mj, Fj, bj⟩ := RJ.ex
  refine mk F gm (fun _ _ _ _ _ _ us hl => match us, hl with | [_, _], _ => rfl) (fun _ _ _ _ _ _ us hl => match us, hl with | [_, _], _ => rfl) sc_read_reading_field (fun vs H Q E h => ?_) (fun cdv A outer s H vs Q E hr h => ?_)
  · obtain ⟨v, n, r, rfl, _⟩ := h
    rfl
  · obtain ⟨v, n, r, rfl, hq, hok, q⟩ := h
    refine ⟨_, (pss_cons (ps_set (i := 2) sc_read_reading_field.nd rfl (Or.inl rfl) (pe_meth (pv 0) WR.cls mj Fj (hr.mono (by decide)) bj .nil pass0 (pa_cons (pv 1) pa_nil)))
    (pss_cons (ps_if (pt_cmpR op_isN1 (pv 2) pe_non (nomark _))
      (pss_one (ps_ret pe_non))
      pss_nil)
    (pss_one (ps_ret (pe_f c_read_reading hr (by decide) rfl (pa_cons (pv 2) pa_nil)))))), ?_⟩
    refine q_asg (ev_jn (ev_var rfl) (ev_var rfl) hq hok) fun H1 e1 => ?_
    cases hj : joinF r.2.2.1 n with
    | none =>
      refine q_when (b := true) (et_is (et_test (ev_op (ev_var rfl) ev_c rv_isN)) rfl) (fun _ H2 e2 => ?_) (fun h => nomatch h)
      refine s_ret ev_c fun H3 e3 => ?_
      have g := q H3 ((e1.trans e2).trans e3)
      unfold readF at g
      rw [hj] at g
      exact g
    | some z =>
      have hz := joinF_len hok.2.2.1 hj
      refine q_when (b := false) (et_is (et_test (ev_op (ev_var rfl) ev_c rv_isN)) rfl) (fun h => nomatch h) (fun _ H2 e2 => ?_)
      refine s_ret (v := readV z) (ev_call (ea_cons (ev_var rfl) ea_nil) (sv1 (f := readV) (by omega))) fun H3 e3 => ?_
      have g := q H3 ((e1.trans e2).trans e3)
      unfold readF at g
      rw [hj] at g
      exact g
theorem ok_read_marks_field (T : Mg mg) (W : Wd P w K mg C DV DM DH) (WL : Wl K mg L) (WR : Wr K mg B R) (RJ : Rj P w K mg base R) (LR : Lr P w K mg base C L DM) (LH : LiH P w K mg base L) (F : FnP K "read_marks_field" s_read_marks_field f fd) (gm : mg "read_marks_field" = some (.ref f)) :
    Call P w K mg base 7 "read_marks_field" ["request", "name"] (spRmf C L R) := by
  obtain ⟨fj, dj, mj, Fj, bj⟩ := RJ.ex
  obtain ⟨mc, pp, g, fdr, St, Fr, hbr⟩ := LR.ex
  obtain ⟨fl, fdl, dsl, ML, Fl, hdl, hbl⟩ := LH.ex
  refine mk F gm (fun _ _ _ _ _ _ us hl => match us, hl with | [_, _], _ => rfl) (fun _ _ _ _ _ _ us hl => match us, hl with | [_, _], _ => rfl) sc_read_marks_field (fun vs H Q E h => ?_) (fun cdv A outer s H vs Q E hr h => ?_)
  · obtain ⟨v, n, r, rfl, _⟩ := h
    rfl
  · obtain ⟨v, n, r, rfl, hq, hok, q0, q⟩ := h
    refine ⟨_, pss_cons (ps_set (i := 2) sc_read_marks_field.nd rfl (Or.inl rfl) (pe_meth (pv 0) WR.cls mj Fj (hr.mono (by decide)) bj .nil pass0 (pa_cons (pv 1) pa_nil)))
      (pss_cons (ps_if (pt_cmpR op_isN1 (pv 2) pe_non (nomark _)) (pss_one (ps_ret pe_non)) pss_nil)
      (pss_one (L2N.ps_try_many rfl rfl ZX.takesN
        (fun W' pn xe tk po => pss_one (ps_ret (ZX.pe_statS (E := WE W') (pe_gc (v := .ref L) rfl ⟨_, WL.mL, rfl⟩) St Fr hbr (hr.mono (by decide)) (fun σ => L2N.passAt tk σ) (pa_cons (pv 2) pa_nil))))
        (.cons (c := .ref DM) ⟨rfl, by decide, .inl W.mM⟩ (fun a oe cls d pn hz hf => pss_one (ps_ret (ZX.pe_makeH ML Fl ((L2H.roomH_mark hr _).mono (show 4 ≤ 6 by decide)) (by obtain ⟨vs, hvs⟩ := hf; exact ⟨(a, oe), ⟨rfl, vs, hvs, hz.2.2 vs hvs⟩, List.mem_cons_self⟩) rfl WL.mL hbl hdl pass0 (pa_cons (pe_lst pa_nil) pa_nil)))) .nil)))), ?_⟩
    refine q_asg (ev_jn (ev_var rfl) (ev_var rfl) hq hok) fun H1 e1 => ?_
    cases hj : joinF r.2.2.1 n with
    | none =>
      refine q_when (b := true) (et_is (et_test (ev_op (ev_var rfl) ev_c rv_isN)) rfl) (fun _ H2 e2 => ?_) (fun h => nomatch h)
      exact s_ret ev_c fun H3 e3 => q0 hj H3 ((e1.trans e2).trans e3)
    | some z =>
      have hz := joinF_len hok.2.2.1 hj
      refine q_when (b := false) (et_is (et_test (ev_op (ev_var rfl) ev_c rv_isN)) rfl) (fun h => nomatch h) (fun _ H2 e2 => ?_)
      have e12 := e1.trans e2
      refine g_ret (q_statL (ea_cons (ev_var rfl) ea_nil) hz (fun hn d H3 hd e3 hx => ⟨true, W.eMM, fun _ a ha => ?_, fun h => nomatch h⟩) fun o hs v' l H3 nl e3 hml => q z hj v' l H3 (fresh_back e12 nl) (e12.trans e3) (by unfold markL; rw [hs]; exact hml))
      refine g_ret (rd_mk (rd_consLs (el_lst ea_nil (by decide)) fun p H4 np e4 hp => rd_nil ?_))
      have e14 := (e12.trans e3).trans e4
      refine fun x dx hx hdx hne => ?_
      have e0 : Ex H4 (upd (upd H4 dx (.own x)) x (.ins L dx [])) := fun c o hc => by
        rw [upd_ne (ne_of_none hc hx), upd_ne (ne_of_none hc hdx)]
        exact hc
      refine ⟨x, dx, p, [], false, rfl, e0 _ _ hp, by show 0 ≤ _; decide, upd_same, rfl, fun l H' nl kp h1 h2 => ⟨rfl, ?_⟩⟩
      have nl4 := fresh_back e0 nl
      refine q z hj (.ref x) l H' (fresh_back e14 nl4) (fun c o hc => ?_) ?_
      · have h4 := e14 _ _ hc
        exact kp c o (ne_of_none h4 hx) (e0 c o h4)
      · unfold markL
        rw [hn]
        exact ⟨x, dx, [], rfl, h1, h2, Rel.nil⟩
end
end Z
set_option maxHeartbeats 4000000
namespace Z
open PySem PySem.Spec PyProof.Rows L2 TL Evl NdefX
/-- a value with what holds of it -/
def EvX (te : TE) (σ : L2.St) (H : Hp) (P : V → Hp → Prop) : Prop := ∀ H1, Ex H H1 → ∀ Q : VK, (∀ v H2, Ex H1 H2 → P v H2 → Q v H2) → te σ H1 Q
theorem ex_ev {te : TE} {σ : L2.St} {H : Hp} {P : V → Hp → Prop} {v : V} (h : Ev te σ H v) (p : ∀ H1, Ex H H1 → P v H1) : EvX te σ H P := fun H1 e Q q => h H1 e _ fun H2 e2 => q v H2 e2 (p H2 (e.trans e2))
def OMl (C L : Addr) (H : Hp) (v : V) : Option (Bool × Mks) → Prop
  | none => v = .non
  | some o => MlAt C L H v o
theorem OMl.ex {C L : Addr} {H H' : Hp} {v : V} {o : Option (Bool × Mks)} (h : OMl C L H v o) (e : Ex H H') : OMl C L H' v o := by
  cases o with
  | none => exact h
  | some q => exact MlAt.ex h e
/-- the same, its list new to H0 -/
def OMlN (H0 : Hp) (C L : Addr) (H : Hp) (v : V) : Option (Bool × Mks) → Prop
  | none => v = .non
  | some o => ∃ l, H0 l = none ∧ MlOf C L l H v o
theorem OMlN.at {H0 : Hp} {C L : Addr} {H : Hp} {v : V} {o : Option (Bool × Mks)} (h : OMlN H0 C L H v o) : OMl C L H v o := by
  cases o with
  | none => exact h
  | some q =>
    obtain ⟨l, _, h⟩ := h
    exact ⟨l, h⟩
theorem OMlN.ex {H0 : Hp} {C L : Addr} {H H' : Hp} {v : V} {o : Option (Bool × Mks)} (h : OMlN H0 C L H v o) (e : Ex H H') : OMlN H0 C L H' v o := by
  cases o with
  | none => exact h
  | some q =>
    obtain ⟨l, n, h⟩ := h
    exact ⟨l, n, h.ex e⟩
theorem OMlN.back {H0 H1 : Hp} {C L : Addr} {H : Hp} {v : V} {o : Option (Bool × Mks)} (h : OMlN H1 C L H v o) (f : ∀ l, H1 l = none → H0 l = none) : OMlN H0 C L H v o := by
  cases o with
  | none => exact h
  | some q =>
    obtain ⟨l, n, h⟩ := h
    exact ⟨l, f l n, h⟩
def marksO (fs : Fs) (n : Str) : Option (Bool × Mks) := (joinF fs n).map markL
theorem ex_rmf {C L R : Addr} {σ : L2.St} {H : Hp} {ta tb : TE} {v : V} {n : Str} {r : RqT} {E : XK} (h : Ev ta σ H v) (hb : Ev tb σ H (.str n)) (h1 : RqAt R H v r) (hok : okR r) : EvX (tCall (spRmf C L R) [] E (tCons ta (tCons tb tNil))) σ H (fun v H' => OMlN H C L H' v (marksO r.2.2.1 n)) := fun H1 e Q q =>
  h H1 e _ fun H2 e2 => hb H2 (e.trans e2) _ fun H3 e3 => ⟨v, n, r, rfl, h1.ex ((e.trans e2).trans e3), hok, fun hj H4 e4 => q .non H4 ((e2.trans e3).trans e4) (by unfold marksO; rw [hj]; rfl), fun z hj v' l H4 nl e4 hm => q v' H4 ((e2.trans e3).trans e4) (by unfold marksO; rw [hj]; exact ⟨l, fresh_back ((e.trans e2).trans e3) nl, hm⟩)⟩
theorem ev_rrf {R : Addr} {σ : L2.St} {H : Hp} {ta tb : TE} {v : V} {n : Str} {r : RqT} {E : XK} (h : Ev ta σ H v) (hb : Ev tb σ H (.str n)) (h1 : RqAt R H v r) (hok : okR r) : Ev (tCall (spRrf R) [] E (tCons ta (tCons tb tNil))) σ H (readF r.2.2.1 n) := fun H1 e Q q =>
  h H1 e _ fun H2 e2 => hb H2 (e.trans e2) _ fun H3 e3 => ⟨v, n, r, rfl, h1.ex ((e.trans e2).trans e3), hok, fun H4 e4 => q H4 ((e2.trans e3).trans e4)⟩
/-! ### an own object that is being made -/
def clean (gs : List (Str × V)) : Prop := gs = [] ∨ ∃ v r, gs = (("_method" : Str), v) :: r
theorem clean_ne {gs : List (Str × V)} (h : clean gs) : (∀ v b, mlFs v b ≠ gs) ∧ (∀ z b, mkFs z b ≠ gs) ∧ ∀ fl hb v b m p, rqFs fl hb v b m p ≠ gs := by
  rcases h with rfl | ⟨v, r, rfl⟩
  · exact ⟨(fun _ _ h => by cases h), (fun _ _ h => by cases h), (fun _ _ _ _ _ _ h => by cases h)⟩
  · refine ⟨fun _ _ h => ?_, fun _ _ h => ?_, fun _ _ _ _ _ _ h => ?_⟩
    · injection h with h1 h2
      injection h1 with h3
      exact absurd h3 (by decide +kernel)
    · injection h with h1 h2
      injection h1 with h3
      exact absurd h3 (by decide +kernel)
    · injection h with h1 h2
      injection h1 with h3
      exact absurd h3 (by decide +kernel)
section
variable {C L R D a dx : Addr} {H H' : Hp} {v : V} {gs : List (Str × V)}
theorem MkAt.keepI {o : Str × Bool} (h : MkAt C H v o) (k : Keep a H H') (ha : H a = some (.ins D dx gs)) (hc : clean gs) : MkAt C H' v o := by
  obtain ⟨b, dy, rfl, hb⟩ := h
  refine ⟨b, dy, rfl, k _ _ (fun e => ?_) hb⟩
  rw [e, ha] at hb
  have h2 := Option.some.inj hb
  injection h2 with _ _ h3
  exact (clean_ne hc).2.1 _ _ h3.symm
theorem MlAt.keepI {o : Bool × Mks} (h : MlAt C L H v o) (k : Keep a H H') (ha : H a = some (.ins D dx gs)) (hc : clean gs) : MlAt C L H' v o := by
  obtain ⟨l, b, dy, vs, rfl, hb, hl, hr⟩ := h
  refine ⟨l, b, dy, vs, rfl, k _ _ (fun e => ?_) hb, k _ _ (fun e => ?_) hl, hr.mono fun _ _ m => m.keepI k ha hc⟩
  · rw [e, ha] at hb
    have h2 := Option.some.inj hb
    injection h2 with _ _ h3
    exact (clean_ne hc).1 _ _ h3.symm
  · rw [e, ha] at hl
    cases hl
theorem MlOf.keepI {l : Addr} {o : Bool × Mks} (h : MlOf C L l H v o) (k : Keep a H H') (ha : H a = some (.ins D dx gs)) (hc : clean gs) : MlOf C L l H' v o := by
  obtain ⟨b, dy, vs, rfl, hb, hl, hr⟩ := h
  refine ⟨b, dy, vs, rfl, k _ _ (fun e => ?_) hb, k _ _ (fun e => ?_) hl, hr.mono fun _ _ m => m.keepI k ha hc⟩
  · rw [e, ha] at hb
    have h2 := Option.some.inj hb
    injection h2 with _ _ h3
    exact (clean_ne hc).1 _ _ h3.symm
  · rw [e, ha] at hl
    cases hl
theorem OMlN.keepI {H0 : Hp} {o : Option (Bool × Mks)} (h : OMlN H0 C L H v o) (k : Keep a H H') (ha : H a = some (.ins D dx gs)) (hc : clean gs) : OMlN H0 C L H' v o := by
  cases o with
  | none => exact h
  | some q =>
    obtain ⟨l, n, h⟩ := h
    exact ⟨l, n, MlOf.keepI h k ha hc⟩
theorem OMl.keepI {o : Option (Bool × Mks)} (h : OMl C L H v o) (k : Keep a H H') (ha : H a = some (.ins D dx gs)) (hc : clean gs) : OMl C L H' v o := by
  cases o with
  | none => exact h
  | some q => exact MlAt.keepI h k ha hc
theorem RqAt.keepI {r : RqT} (h : RqAt R H v r) (k : Keep a H H') (ha : H a = some (.ins D dx gs)) (hc : clean gs) : RqAt R H' v r := by
  obtain ⟨l, b, dy, rfl, hb, xs, hx, hr⟩ := h
  refine ⟨l, b, dy, rfl, k _ _ (fun e => ?_) hb, xs, k _ _ (fun e => ?_) hx, hr.mono fun _ _ m => ?_⟩
  · rw [e, ha] at hb
    have h2 := Option.some.inj hb
    injection h2 with _ _ h3
    exact (clean_ne hc).2.2 _ _ _ _ _ _ h3.symm
  · rw [e, ha] at hx
    cases hx
  · obtain ⟨t, rfl, ht⟩ := m
    refine ⟨t, rfl, k _ _ (fun e => ?_) ht⟩
    rw [e, ha] at ht
    cases ht
end
structure CdI (C L R D a dx : Addr) (gs : List (Str × V)) (u : V) (r : RqT) (ms : List (V × Option (Bool × Mks))) (H0 H : Hp) : Prop where
  kp : Keep a H0 H
  ha : H a = some (.ins D dx gs)
  rq : RqAt R H u r
  ms : ∀ x ∈ ms, OMlN H0 C L H x.1 x.2
theorem CdI.fresh {C L R D a dx : Addr} {gs : List (Str × V)} {u : V} {r : RqT} {ms : List (V × Option (Bool × Mks))} {H0 H : Hp} (h : CdI C L R D a dx gs u r ms H0 H) (l : Addr) (hl : H l = none) : H0 l = none := by
  cases e : H0 l with
  | none => rfl
  | some o =>
    by_cases ha : l = a
    · rw [ha, h.ha] at hl; cases hl
    · rw [h.kp l o ha e] at hl; cases hl
theorem CdI.e {C L R D a dx : Addr} {gs : List (Str × V)} {u : V} {r : RqT} {ms : List (V × Option (Bool × Mks))} {H0 H H' : Hp} (h : CdI C L R D a dx gs u r ms H0 H) (e : Ex H H') : CdI C L R D a dx gs u r ms H0 H' := ⟨h.kp.trans (Keep.of e), e _ _ h.ha, h.rq.ex e, fun x hx => (h.ms x hx).ex e⟩
theorem CdI.put {C L R D a dx : Addr} {gs gs' : List (Str × V)} {u : V} {r : RqT} {ms : List (V × Option (Bool × Mks))} {H0 H : Hp} (h : CdI C L R D a dx gs u r ms H0 H) (hc : clean gs) : CdI C L R D a dx gs' u r ms H0 (upd H a (.ins D dx gs')) := by
  have k : Keep a H (upd H a (.ins D dx gs')) := (Keep.of (Ex.refl H)).upd
  exact ⟨h.kp.trans k, upd_same, h.rq.keepI k h.ha hc, fun x hx => (h.ms x hx).keepI k h.ha hc⟩
theorem CdI.more {C L R D a dx : Addr} {gs : List (Str × V)} {u v : V} {r : RqT} {o : Option (Bool × Mks)} {ms : List (V × Option (Bool × Mks))} {H0 H : Hp} (h : CdI C L R D a dx gs u r ms H0 H) (m : OMlN H0 C L H v o) : CdI C L R D a dx gs u r ((v, o) :: ms) H0 H :=
  ⟨h.kp, h.ha, h.rq, fun x hx => by
    rcases List.mem_cons.mp hx with rfl | hx
    · exact m
    · exact h.ms x hx⟩
def cdFs (m : Str) (v1 v2 v3 v4 v5 : V) : List (Str × V) := [("_method", .str m), ("_if_mark", v1), ("_if_no_mark", v2), ("_if_unchanged", v3), ("_if_changed", v4), ("_if_part", v5)]
/-- the class of conditions -/
structure Wc (K : PySem.W.Frag) (mg : Str → Option Value) (D : Addr) : Prop where
  m : mg "Conditions" = some (.ref D)
  cls : Cls K D
  n0 : NoAttr K D "_method"
  n1 : NoAttr K D "_if_mark"
  n2 : NoAttr K D "_if_no_mark"
  n3 : NoAttr K D "_if_unchanged"
  n4 : NoAttr K D "_if_changed"
  n5 : NoAttr K D "_if_part"
  rd : ClX.CRead K D (.type "type")
theorem sc_Ci : FnScope ["self", "request"] ["self", "request"] (L2.defScope s_Ci) := ⟨rfl, rfl, rfl, by decide +kernel, rfl, by decide +kernel, by decide +kernel⟩
theorem sc_Co : FnScope ["cls", "request"] ["cls", "request"] (L2.defScope s_Co) := ⟨rfl, rfl, rfl, by decide +kernel, rfl, by decide +kernel, by decide +kernel⟩
theorem sc_Cn : FnScope ["self"] ["self"] (L2.defScope s_Cn) := ⟨rfl, rfl, rfl, by decide +kernel, rfl, by decide +kernel, by decide +kernel⟩
/-- conditions of a request -/
def CdAt (C L D : Addr) (H : Hp) (v : V) (r : RqT) : Prop := ∃ a dx v1 v2, v = .ref a ∧ H a = some (.ins D dx (cdFs r.1 v1 v2 (readF r.2.2.1 "if-unchanged") (readF r.2.2.1 "if-changed") (optV (joinF r.2.2.1 "if-part")))) ∧ OMl C L H v1 (marksO r.2.2.1 "if-mark") ∧ OMl C L H v2 (marksO r.2.2.1 "if-no-mark")
theorem CdAt.ex {C L D : Addr} {H H' : Hp} {v : V} {r : RqT} (h : CdAt C L D H v r) (e : Ex H H') : CdAt C L D H' v r := by
  obtain ⟨a, dx, v1, v2, rfl, ha, h1, h2⟩ := h
  exact ⟨a, dx, v1, v2, rfl, e _ _ ha, h1.ex e, h2.ex e⟩
/-- the same, the lists of its marks new to H0 -/
def CdN (H0 : Hp) (C L D : Addr) (H : Hp) (v : V) (r : RqT) : Prop := ∃ a dx v1 v2, v = .ref a ∧ H a = some (.ins D dx (cdFs r.1 v1 v2 (readF r.2.2.1 "if-unchanged") (readF r.2.2.1 "if-changed") (optV (joinF r.2.2.1 "if-part")))) ∧ OMlN H0 C L H v1 (marksO r.2.2.1 "if-mark") ∧ OMlN H0 C L H v2 (marksO r.2.2.1 "if-no-mark")
theorem CdN.at {H0 : Hp} {C L D : Addr} {H : Hp} {v : V} {r : RqT} (h : CdN H0 C L D H v r) : CdAt C L D H v r := by
  obtain ⟨a, dx, v1, v2, e, ha, h1, h2⟩ := h
  exact ⟨a, dx, v1, v2, e, ha, h1.at, h2.at⟩
def spCi (C L R D : Addr) : Sp := fun vs H Q _ => ∃ (a dx : Addr) (u : V) (r : RqT), vs = [.ref a, u] ∧ H a = some (.ins D dx []) ∧ RqAt R H u r ∧ okR r ∧ ∀ H', Keep a H H' → CdN H C L D H' (.ref a) r → Q .non H'
def spOf (C L R D : Addr) : Sp := fun vs H Q _ => ∃ u r, vs = [.ref D, u] ∧ RqAt R H u r ∧ okR r ∧ ∀ v H', Ex H H' → CdN H C L D H' v r → Q v H'
def spNone (C L D : Addr) : Sp := fun vs H Q _ => ∃ v r, vs = [v] ∧ CdAt C L D H v r ∧ RetV (.bl (((marksO r.2.2.1 "if-mark").isNone && (marksO r.2.2.1 "if-no-mark").isNone) && (decide (readF r.2.2.1 "if-unchanged" = .non) && decide (readF r.2.2.1 "if-changed" = .non)))) H Q
def spTake0 (C L D : Addr) : Sp := fun vs H Q _ => ∃ v r, vs = [v, .non] ∧ CdAt C L D H v r ∧ joinF r.2.2.1 "if-part" = none ∧ RetV (.bl true) H Q
structure Ci (P : Program) (w : World) (K : PySem.W.Frag) (mg : Str → Option Value) (base : Heap) (C L R D : Addr) : Prop where
  ex : ∃ fi fd, Mk K D fi ∧ FnOk P w K mg base CX0 8 fi fd ["self", "request"] (spCi C L R D) ∧ Binds K fd ["self", "request"] []
theorem oml_non {C L : Addr} {H : Hp} {v : V} {o : Option (Bool × Mks)} (h : OMl C L H v o) : decide (v = .non) = o.isNone := by
  cases o with
  | none =>
    have h : v = .non := h
    rw [h]
    rfl
  | some q =>
    obtain ⟨_, _, _, _, rfl, _⟩ := h
    rfl
section
variable {P : Program} {w : World} {K : PySem.W.Frag} {mg : Str → Option Value} {base : Heap} {f B R C L D DV DM DH : Addr} {fd : FuncData} {k : Nat} {CX : CXT}
theorem ok_Ci (WR : Wr K mg B R) (WC : Wc K mg D) (RJ : Rj P w K mg base R) (c_rm : Call P w K mg base 7 "read_marks_field" ["request", "name"] (spRmf C L R)) (c_rr : Call P w K mg base 4 "read_reading_field" ["message", "name"] (spRrf R)) (F : FdP K "__init__" "Conditions.__init__" s_Ci [] f fd) : FnOk P w K mg base CX 8 f fd ["self", "request"] (spCi C L R D) := by
  obtain ⟨fj, dj, mj, Fj, bj⟩ := RJ.ex
  refine FunD.ok F sc_Ci (fun vs H Q E h => ?_) (fun cdv A outer s H vs Q E hr h => ?_)
  · obtain ⟨a, dx, u, r, rfl, _⟩ := h
    rfl
  · obtain ⟨a, dx, u, r, rfl, ha, hq, hok, k⟩ := h
    refine ⟨_, pss_cons (ps_fld (pv 0) (pe_fld (pv 1) rfl) rfl)
      (pss_cons (ps_fld (pv 0) (pe_f c_rm hr (by decide) rfl (pa_cons (pv 1) (pa_cons pe_str pa_nil))) rfl)
      (pss_cons (ps_fld (pv 0) (pe_f c_rm hr (by decide) rfl (pa_cons (pv 1) (pa_cons pe_str pa_nil))) rfl)
      (pss_cons (ps_fld (pv 0) (pe_f c_rr hr (by decide) rfl (pa_cons (pv 1) (pa_cons pe_str pa_nil))) rfl)
      (pss_cons (ps_fld (pv 0) (pe_f c_rr hr (by decide) rfl (pa_cons (pv 1) (pa_cons pe_str pa_nil))) rfl)
      (pss_one (ps_fld (pv 0) (pe_meth (pv 1) WR.cls mj Fj (hr.mono (by decide)) bj .nil pass0 (pa_cons pe_str pa_nil)) rfl)))))), ?_⟩
    have c0 : CdI C L R D a dx [] u r [] H H := ⟨Keep.of (Ex.refl H), ha, hq, fun x hx => by cases hx⟩
    obtain ⟨l, b, dy, rfl, hb, hf⟩ := id hq
    refine q_in ?_; dsimp only
    refine g_fld ((ev_rfld (f := "method") (v := .str r.1) (l := l) WR.cls WR.n5 (ev_var rfl) hb rfl) H (Ex.refl H) _ fun H1 e1 => ?_)
    refine ⟨.ref a, rfl, a, D, dx, [], rfl, (c0.e e1).ha, WC.cls, WC.n0, by decide, ?_⟩
    have c1 := (c0.e e1).put (gs' := putF "_method" (.str r.1) []) (.inl rfl)
    refine q_in ?_; dsimp only
    refine g_fld ((ex_rmf (ev_var rfl) ev_c c1.rq hok) _ (Ex.refl _) _ fun v1 H2 e2 m1 => ?_)
    refine ⟨.ref a, rfl, a, D, dx, _, rfl, (c1.e e2).ha, WC.cls, WC.n1, by show 1 < 1000; decide, ?_⟩
    have c2 := ((c1.e e2).more (m1.back c1.fresh)).put (gs' := putF "_if_mark" v1 (putF "_method" (.str r.1) [])) (.inr ⟨_, _, rfl⟩)
    refine q_in ?_; dsimp only
    refine g_fld ((ex_rmf (ev_var rfl) ev_c c2.rq hok) _ (Ex.refl _) _ fun v2 H3 e3 m2 => ?_)
    refine ⟨.ref a, rfl, a, D, dx, _, rfl, (c2.e e3).ha, WC.cls, WC.n2, by show 2 < 1000; decide, ?_⟩
    have c3 := ((c2.e e3).more (m2.back c2.fresh)).put (gs' := putF "_if_no_mark" v2 (putF "_if_mark" v1 (putF "_method" (.str r.1) []))) (.inr ⟨_, _, rfl⟩)
    refine q_in ?_; dsimp only
    refine g_fld ((ev_rrf (ev_var rfl) ev_c c3.rq hok) _ (Ex.refl _) _ fun H4 e4 => ?_)
    refine ⟨.ref a, rfl, a, D, dx, _, rfl, (c3.e e4).ha, WC.cls, WC.n3, by show 3 < 1000; decide, ?_⟩
    have c4 := (c3.e e4).put (gs' := putF "_if_unchanged" (readF r.2.2.1 "if-unchanged") (putF "_if_no_mark" v2 (putF "_if_mark" v1 (putF "_method" (.str r.1) [])))) (.inr ⟨_, _, rfl⟩)
    refine q_in ?_; dsimp only
    refine g_fld ((ev_rrf (ev_var rfl) ev_c c4.rq hok) _ (Ex.refl _) _ fun H5 e5 => ?_)
    refine ⟨.ref a, rfl, a, D, dx, _, rfl, (c4.e e5).ha, WC.cls, WC.n4, by show 4 < 1000; decide, ?_⟩
    have c5 := (c4.e e5).put (gs' := putF "_if_changed" (readF r.2.2.1 "if-changed") (putF "_if_unchanged" (readF r.2.2.1 "if-unchanged") (putF "_if_no_mark" v2 (putF "_if_mark" v1 (putF "_method" (.str r.1) []))))) (.inr ⟨_, _, rfl⟩)
    refine g_fld ((ev_jn (ev_var rfl) ev_c c5.rq hok) _ (Ex.refl _) _ fun H6 e6 => ?_)
    refine ⟨.ref a, rfl, a, D, dx, _, rfl, (c5.e e6).ha, WC.cls, WC.n5, by show 5 < 1000; decide, ?_⟩
    have c6 := (c5.e e6).put (gs' := putF "_if_part" (optV (joinF r.2.2.1 "if-part")) (putF "_if_changed" (readF r.2.2.1 "if-changed") (putF "_if_unchanged" (readF r.2.2.1 "if-unchanged") (putF "_if_no_mark" v2 (putF "_if_mark" v1 (putF "_method" (.str r.1) [])))))) (.inr ⟨_, _, rfl⟩)
    exact k _ c6.kp ⟨a, dx, v1, v2, rfl, by rw [c6.ha]; rfl, c6.ms (v1, _) (List.mem_cons_of_mem _ List.mem_cons_self), c6.ms (v2, _) List.mem_cons_self⟩
theorem ok_Co (CI : Ci P w K mg base C L R D) (F : FdP K "of" "Conditions.of" s_Co [] f fd) : FnOk P w K mg base CX0 10 f fd ["cls", "request"] (spOf C L R D) := by
  obtain ⟨fi, fdi, M, Fi, bi⟩ := CI.ex
  refine FunD.ok F sc_Co (fun vs H Q E h => ?_) (fun cdv A outer s H vs Q E hr h => ?_)
  · obtain ⟨u, r, rfl, _⟩ := h
    rfl
  · obtain ⟨u, r, rfl, hq, hok, k⟩ := h
    refine ⟨_, pss_one (ps_ret (ZX.pe_makeV (i := 0) M Fi (hr.mono (by decide)) rfl (.inl rfl) bi .nil pass0 (pa_cons (pv 1) pa_nil))), ?_⟩
    refine g_ret ⟨rfl, rd_mk (rd_consE (ev_var rfl) fun H1 e1 => rd_nil fun x dx hx hd hne => ?_)⟩
    have e0 : Ex H1 (upd (upd H1 dx (.own x)) x (.ins D dx [])) := fun c o hc => by
      rw [upd_ne (ne_of_none hc hx), upd_ne (ne_of_none hc hd)]
      exact hc
    refine ⟨x, dx, u, r, rfl, upd_same, hq.ex (e1.trans e0), hok, fun H' kp hc => ⟨rfl, k _ H' (fun c o h => ?_) (by obtain ⟨a, dx, v1, v2, e, ha, h1, h2⟩ := hc; exact ⟨a, dx, v1, v2, e, ha, h1.back fun l hl => fresh_back (e1.trans e0) hl, h2.back fun l hl => fresh_back (e1.trans e0) hl⟩)⟩⟩
    have h1 := e1 _ _ h
    exact kp c o (ne_of_none h1 hx) (e0 c o h1)
theorem ok_Cn (WC : Wc K mg D) (F : FdP K "none" "Conditions.none" s_Cn [] f fd) : FnOk P w K mg base CX 1 f fd ["self"] (spNone C L D) := by
  refine FunD.ok F sc_Cn (fun vs H Q E h => ?_) (fun cdv A outer s H vs Q E hr h => ?_)
  · obtain ⟨v, r, rfl, _⟩ := h
    rfl
  · obtain ⟨v, r, rfl, ⟨a, dx, v1, v2, rfl, ha, h1, h2⟩, q⟩ := h
    have ev : ∀ {te : TE} {σ : L2.St} {f : Str} {v : V}, NoAttr K D f → Ev te σ H (.ref a) → (cdFs r.1 v1 v2 (readF r.2.2.1 "if-unchanged") (readF r.2.2.1 "if-changed") (optV (joinF r.2.2.1 "if-part"))).lookup f = some v → Ev (tFld K te f) σ H v := fun n h hl H1 e Q q => h H1 e _ fun H2 e2 => ⟨a, D, dx, _, _, rfl, e2 _ _ (e _ _ ha), WC.cls, n, hl, q H2 e2⟩
    refine ⟨_, pss_one (ps_ret (pe_and (pe_cmpR op_isN1 (pe_fld (pv 0) rfl) pe_non (nomark _)) (pe_and (pe_cmpR op_isN1 (pe_fld (pv 0) rfl) pe_non (nomark _)) (pe_and (pe_cmpR op_isN1 (pe_fld (pv 0) rfl) pe_non (nomark _)) (pe_one (pe_cmpR op_isN1 (pe_fld (pv 0) rfl) pe_non (nomark _))))))), ?_⟩
    refine s_ret (ev_is (ev_andV (ev_op (ev WC.n1 (ev_var rfl) rfl) ev_c rv_isN) fun _ => ev_andV (ev_op (ev WC.n2 (ev_var rfl) rfl) ev_c rv_isN) fun _ => ev_andV (ev_op (ev WC.n3 (ev_var rfl) rfl) ev_c rv_isN) fun _ => ev_op (ev WC.n4 (ev_var rfl) rfl) ev_c rv_isN) (by rw [oml_non h1, oml_non h2, Bool.and_assoc])) q
end
end Z
set_option maxHeartbeats 4000000
namespace Z
open PySem PySem.Spec PyProof.Rows L2 TL Evl NdefX
/-! ### what is there -/
abbrev Pm := Option (Str × Bool) × Option Int
def optI : Option Int → V
  | none => .non
  | some i => .int i
def cuFs (u n : V) : List (Str × V) := [("mark", u), ("changed", n)]
theorem cu_put (u n : V) : putF "changed" n (putF "mark" u []) = cuFs u n := by rfl
/-- the class of what is there -/
structure Wk (K : PySem.W.Frag) (mg : Str → Option Value) (U : Addr) : Prop where
  m : mg "Current" = some (.ref U)
  cls : Cls K U
  ins : ZX.InsC K U
  n1 : NoAttr K U "mark"
  n2 : NoAttr K U "changed"
  iUU : PySem.W.kitOne K (.ref U) (.ref U) = some true
def OMa (C : Addr) (H : Hp) (u : V) : Option (Str × Bool) → Prop
  | none => u = .non
  | some o => MkAt C H u o
theorem OMa.ex {C : Addr} {H H' : Hp} {u : V} {m : Option (Str × Bool)} (h : OMa C H u m) (e : Ex H H') : OMa C H' u m := by
  cases m with
  | none => exact h
  | some o => exact MkAt.ex h e
def CuAt (C U : Addr) (H : Hp) (v : V) : Option Pm → Prop
  | none => v = .non
  | some p => ∃ a dx u, v = .ref a ∧ H a = some (.ins U dx (cuFs u (optI p.2))) ∧ OMa C H u p.1
theorem CuAt.ex {C U : Addr} {H H' : Hp} {v : V} {p : Option Pm} (h : CuAt C U H v p) (e : Ex H H') : CuAt C U H' v p := by
  cases p with
  | none => exact h
  | some p =>
    obtain ⟨a, dx, u, rfl, ha, hm⟩ := h
    exact ⟨a, dx, u, rfl, e _ _ ha, hm.ex e⟩
theorem sc_Cu : FnScope ["self", "mark", "changed"] ["self", "mark", "changed"] (L2.defScope s_Cu) := ⟨rfl, rfl, rfl, by decide +kernel, rfl, by decide +kernel, by decide +kernel⟩
theorem sc_Cb : FnScope ["self"] ["self"] (L2.defScope s_Cb) := ⟨rfl, rfl, rfl, by decide +kernel, rfl, by decide +kernel, by decide +kernel⟩
def spCu (U : Addr) : Sp := fun vs H Q _ => ∃ (a dx : Addr) (u n : V), vs = [.ref a, u, n] ∧ H a = some (.ins U dx []) ∧ ∀ H', Keep a H H' → H' a = some (.ins U dx (cuFs u n)) → Q .non H'
def CdW (D : Addr) (H : Hp) (v : V) (r : RqT) : Prop := ∃ a dx v1 v2, v = .ref a ∧ H a = some (.ins D dx (cdFs r.1 v1 v2 (readF r.2.2.1 "if-unchanged") (readF r.2.2.1 "if-changed") (optV (joinF r.2.2.1 "if-part")))) ∧ decide (v1 = .non) = (marksO r.2.2.1 "if-mark").isNone ∧ decide (v2 = .non) = (marksO r.2.2.1 "if-no-mark").isNone
theorem CdW.ex {D : Addr} {H H' : Hp} {v : V} {r : RqT} (h : CdW D H v r) (e : Ex H H') : CdW D H' v r := by
  obtain ⟨a, dx, v1, v2, rfl, ha, h⟩ := h
  exact ⟨a, dx, v1, v2, rfl, e _ _ ha, h⟩
theorem CdW.keep {D p : Addr} {H H' : Hp} {v : V} {r : RqT} (h : CdW D H v r) (k : Keep p H H') (hp : ∃ xs, H p = some (.lst xs)) : CdW D H' v r := by
  obtain ⟨a, dx, v1, v2, rfl, ha, h⟩ := h
  obtain ⟨xs, hp⟩ := hp
  exact ⟨a, dx, v1, v2, rfl, k _ _ (fun e => by rw [e, hp] at ha; cases ha) ha, h⟩
theorem CdAt.w {C L D : Addr} {H : Hp} {v : V} {r : RqT} (h : CdAt C L D H v r) : CdW D H v r := by
  obtain ⟨a, dx, v1, v2, rfl, ha, h1, h2⟩ := h
  exact ⟨a, dx, v1, v2, rfl, ha, oml_non h1, oml_non h2⟩
def spNoneW (D : Addr) : Sp := fun vs H Q _ => ∃ v r, vs = [v] ∧ CdW D H v r ∧ RetV (.bl (((marksO r.2.2.1 "if-mark").isNone && (marksO r.2.2.1 "if-no-mark").isNone) && (decide (readF r.2.2.1 "if-unchanged" = .non) && decide (readF r.2.2.1 "if-changed" = .non)))) H Q
def bindB (r : RqT) : Bool := (marksO r.2.2.1 "if-mark").isSome || !decide (readF r.2.2.1 "if-unchanged" = .non)
def spBind (C L D : Addr) : Sp := fun vs H Q _ => ∃ v r, vs = [v] ∧ CdW D H v r ∧ RetV (.bl (bindB r)) H Q
theorem sc_Cc : FnScope ["self", "current"] ["self", "current"] (L2.defScope s_Cc) := ⟨rfl, rfl, rfl, by decide +kernel, rfl, by decide +kernel, by decide +kernel⟩
theorem sc_Ch : FnScope ["self", "current"] ["self", "current"] (L2.defScope s_Ch) := ⟨rfl, rfl, rfl, by decide +kernel, rfl, by decide +kernel, by decide +kernel⟩
theorem sc_Cv : FnScope ["self", "current"] ["self", "current"] (L2.defScope s_Cv) := ⟨rfl, rfl, rfl, by decide +kernel, rfl, by decide +kernel, by decide +kernel⟩
def hasB (g : Str × Bool → Str × Bool → Bool) (o : Bool × Mks) : Option (Str × Bool) → Bool
  | none => o.1
  | some q => o.1 || o.2.any fun x => g x q
def holdsB (r : RqT) (p : Option Pm) : Bool := match marksO r.2.2.1 "if-mark" with
  | some o => (match p with | none => false | some pm => hasB stB o pm.1)
  | none => match readF r.2.2.1 "if-unchanged" with
    | .int i => (match p with | none => false | some pm => match pm.2 with | none => true | some n => decide (n ≤ i))
    | _ => true
def unchB (r : RqT) (p : Option Pm) : Bool := match readF r.2.2.1 "if-changed" with
  | .int i => (match p with | none => false | some pm => match pm.2 with | none => false | some n => decide (n ≤ i))
  | _ => false
def callS (r : RqT) (p : Option Pm) : Str := if holdsB r p = true then (match marksO r.2.2.1 "if-no-mark" with
  | some o => (match p with | none => ("go" : Str) | some pm => if hasB wkB o pm.1 = true then (if r.1 = "get" then ("same" : Str) else ("failed" : Str)) else ("go" : Str))
  | none => if (decide (r.1 = "get") && unchB r p) = true then ("same" : Str) else ("go" : Str)) else ("failed" : Str)
def okL (r : RqT) : Prop := ∀ n o, marksO r.2.2.1 n = some o → o.2.length ≤ 40000
def spHo (C L U D : Addr) : Sp := fun vs H Q _ => ∃ v u r p, vs = [v, u] ∧ CdAt C L D H v r ∧ CuAt C U H u p ∧ okL r ∧ RetV (.bl (holdsB r p)) H Q
def spUn (C L U D : Addr) : Sp := fun vs H Q _ => ∃ v u r p, vs = [v, u] ∧ CdAt C L D H v r ∧ CuAt C U H u p ∧ RetV (.bl (unchB r p)) H Q
def spCa (C L U D : Addr) : Sp := fun vs H Q _ => ∃ v u r p, vs = [v, u] ∧ CdAt C L D H v r ∧ CuAt C U H u p ∧ okL r ∧ RetV (.str (callS r p)) H Q
/-- the lists' two methods -/
structure Lmm (P : Program) (w : World) (K : PySem.W.Frag) (mg : Str → Option Value) (base : Heap) (C L : Addr) : Prop where
  ex : ∃ fs ds fw dw, Meth K L "strongly" fs ∧ FnOk P w K mg base CX0 2 fs ds ["self", "mark"] (spLm C L stB) ∧ Binds K ds ["self", "mark"] [] ∧
    Meth K L "weakly" fw ∧ FnOk P w K mg base CX0 2 fw dw ["self", "mark"] (spLm C L wkB) ∧ Binds K dw ["self", "mark"] []
/-- the conditions' two own methods -/
structure Cmm (P : Program) (w : World) (K : PySem.W.Frag) (mg : Str → Option Value) (base : Heap) (C L U D : Addr) : Prop where
  ex : ∃ fh dh fu du, Meth K D "_holds" fh ∧ FnOk P w K mg base CX0 3 fh dh ["self", "current"] (spHo C L U D) ∧ Binds K dh ["self", "current"] [] ∧
    Meth K D "_is_unchanged" fu ∧ FnOk P w K mg base CX0 3 fu du ["self", "current"] (spUn C L U D) ∧ Binds K du ["self", "current"] []
theorem ev_lm {C L : Addr} {σ : L2.St} {H : Hp} {te tb : TE} {v um : V} {o : Bool × Mks} {q : Option (Str × Bool)} {g : Str × Bool → Str × Bool → Bool} {m : Str} {E : XK} (h : Ev te σ H v) (hb : Ev tb σ H um) (hv : MlAt C L H v o) (hq : OMa C H um q) (hz : o.2.length ≤ 40000) (hm : ∀ v b, (mlFs v b).lookup m = none) : Ev (tMeth L m (spLm C L g) [] E te (tCons tb tNil)) σ H (.bl (hasB g o q)) := fun H1 e Q k => h H1 e _ fun H2 e2 => by
  obtain ⟨l, a, dx, vs, rfl, ha, hl, hr⟩ := id hv
  refine ⟨a, dx, _, rfl, (e.trans e2) _ _ ha, hm _ _, (ea_cons hb ea_nil) H2 (e.trans e2) _ fun H3 e3 => ⟨_, um, o, rfl, hv.ex ((e.trans e2).trans e3), hz, ?_⟩⟩
  cases q with
  | none => exact .inl ⟨hq, fun H4 e4 => k H4 ((e2.trans e3).trans e4)⟩
  | some q => exact .inr ⟨q, MkAt.ex hq ((e.trans e2).trans e3), fun H4 e4 => k H4 ((e2.trans e3).trans e4)⟩
theorem readF_kind (fs : Fs) (n : Str) : readF fs n = .non ∨ ∃ i, readF fs n = .int i := by
  unfold readF
  cases joinF fs n with
  | none => exact .inl rfl
  | some z => exact readV_kind z
section
variable {P : Program} {w : World} {K : PySem.W.Frag} {mg : Str → Option Value} {base : Heap} {f B R C L U D DV DM DH : Addr} {fd : FuncData} {k : Nat} {CX : CXT}
theorem ok_Cu (WK : Wk K mg U) (F : FdP K "__init__" "Current.__init__" s_Cu [] f fd) : FnOk P w K mg base CX 1 f fd ["self", "mark", "changed"] (spCu U) := by
  refine FunD.ok F sc_Cu (fun vs H Q E h => ?_) (fun cdv A outer s H vs Q E hr h => ?_)
  · obtain ⟨a, dx, u, n, rfl, _⟩ := h
    rfl
  · obtain ⟨a, dx, u, n, rfl, ha, k⟩ := h
    refine ⟨_, pss_cons (ps_fld (pv 0) (pv 1) rfl) (pss_one (ps_fld (pv 0) (pv 2) rfl)), ?_⟩
    refine q_in ?_; dsimp only
    refine ⟨u, rfl, .ref a, rfl, a, U, dx, _, rfl, ha, WK.cls, WK.n1, by decide, ?_⟩
    refine ⟨n, rfl, .ref a, rfl, a, U, dx, _, rfl, upd_same, WK.cls, WK.n2, by show 1 < 1000; decide, ?_⟩
    exact k _ ((Keep.of (Ex.refl H)).upd.upd) (by rw [upd_same, cu_put])
theorem ok_Cb (WC : Wc K mg D) (F : FdP K "binding" "Conditions.binding" s_Cb [] f fd) : FnOk P w K mg base CX 1 f fd ["self"] (spBind C L D) := by
  refine FunD.ok F sc_Cb (fun vs H Q E h => ?_) (fun cdv A outer s H vs Q E hr h => ?_)
  · obtain ⟨v, r, rfl, _⟩ := h
    rfl
  · obtain ⟨v, r, rfl, ⟨a, dx, v1, v2, rfl, ha, h1, h2⟩, q⟩ := h
    have ev : ∀ {te : TE} {σ : L2.St} {f : Str} {v : V}, NoAttr K D f → Ev te σ H (.ref a) → (cdFs r.1 v1 v2 (readF r.2.2.1 "if-unchanged") (readF r.2.2.1 "if-changed") (optV (joinF r.2.2.1 "if-part"))).lookup f = some v → Ev (tFld K te f) σ H v := fun n h hl H1 e Q q => h H1 e _ fun H2 e2 => ⟨a, D, dx, _, _, rfl, e2 _ _ (e _ _ ha), WC.cls, n, hl, q H2 e2⟩
    refine ⟨_, pss_one (ps_ret (pe_or (pe_cmpR op_notN1 (pe_fld (pv 0) rfl) pe_non (nomark _)) (pe_one (pe_cmpR op_notN1 (pe_fld (pv 0) rfl) pe_non (nomark _))))), ?_⟩
    have e1 : (!decide (v1 = .non)) = (marksO r.2.2.1 "if-mark").isSome := by
      rw [h1]
      cases marksO r.2.2.1 "if-mark" <;> rfl
    exact s_ret (ev_is (ev_orV (ev_op (ev WC.n1 (ev_var rfl) rfl) ev_c rv_notN) fun _ => ev_op (ev WC.n3 (ev_var rfl) rfl) ev_c rv_notN) (by rw [e1]; rfl)) q
theorem ok_CnW (WC : Wc K mg D) (F : FdP K "none" "Conditions.none" s_Cn [] f fd) : FnOk P w K mg base CX 1 f fd ["self"] (spNoneW D) := by
  refine FunD.ok F sc_Cn (fun vs H Q E h => ?_) (fun cdv A outer s H vs Q E hr h => ?_)
  · obtain ⟨v, r, rfl, _⟩ := h
    rfl
  · obtain ⟨v, r, rfl, ⟨a, dx, v1, v2, rfl, ha, h1, h2⟩, q⟩ := h
    have ev : ∀ {te : TE} {σ : L2.St} {f : Str} {v : V}, NoAttr K D f → Ev te σ H (.ref a) → (cdFs r.1 v1 v2 (readF r.2.2.1 "if-unchanged") (readF r.2.2.1 "if-changed") (optV (joinF r.2.2.1 "if-part"))).lookup f = some v → Ev (tFld K te f) σ H v := fun n h hl H1 e Q q => h H1 e _ fun H2 e2 => ⟨a, D, dx, _, _, rfl, e2 _ _ (e _ _ ha), WC.cls, n, hl, q H2 e2⟩
    refine ⟨_, pss_one (ps_ret (pe_and (pe_cmpR op_isN1 (pe_fld (pv 0) rfl) pe_non (nomark _)) (pe_and (pe_cmpR op_isN1 (pe_fld (pv 0) rfl) pe_non (nomark _)) (pe_and (pe_cmpR op_isN1 (pe_fld (pv 0) rfl) pe_non (nomark _)) (pe_one (pe_cmpR op_isN1 (pe_fld (pv 0) rfl) pe_non (nomark _))))))), ?_⟩
    refine s_ret (ev_is (ev_andV (ev_op (ev WC.n1 (ev_var rfl) rfl) ev_c rv_isN) fun _ => ev_andV (ev_op (ev WC.n2 (ev_var rfl) rfl) ev_c rv_isN) fun _ => ev_andV (ev_op (ev WC.n3 (ev_var rfl) rfl) ev_c rv_isN) fun _ => ev_op (ev WC.n4 (ev_var rfl) rfl) ev_c rv_isN) (by rw [h1, h2, Bool.and_assoc])) q
theorem ok_Ch (WC : Wc K mg D) (WK : Wk K mg U) (WL : Wl K mg L) (LM : Lmm P w K mg base C L) (F : FdP K "_holds" "Conditions._holds" s_Ch [] f fd) : FnOk P w K mg base CX0 3 f fd ["self", "current"] (spHo C L U D) := by
  obtain ⟨fs, ds, fw, dw, ms, Fs, bs, mw, Fw, bw⟩ := LM.ex
  refine FunD.ok F sc_Ch (fun vs H Q E h => ?_) (fun cdv A outer s H vs Q E hr h => ?_)
  · obtain ⟨v, u, r, p, rfl, _⟩ := h
    rfl
  · obtain ⟨v, u, r, p, rfl, ⟨a, dx, v1, v2, rfl, ha, h1, h2⟩, hcu, hok, q⟩ := h
    have ev : ∀ {te : TE} {σ : L2.St} {f : Str} {v : V} {H' : Hp}, Ex H H' → NoAttr K D f → Ev te σ H' (.ref a) → (cdFs r.1 v1 v2 (readF r.2.2.1 "if-unchanged") (readF r.2.2.1 "if-changed") (optV (joinF r.2.2.1 "if-part"))).lookup f = some v → Ev (tFld K te f) σ H' v := fun e0 n h hl H1 e Q q => h H1 e _ fun H2 e2 => ⟨a, D, dx, _, _, rfl, e2 _ _ (e _ _ (e0 _ _ ha)), WC.cls, n, hl, q H2 e2⟩
    refine ⟨_, pss_cons (ps_if (pt_cmpR op_notN1 (pe_fld (pv 0) rfl) pe_non (nomark _)) (pss_one (ps_ret (pe_and (pe_cmpR op_notN1 (pv 1) pe_non (nomark _)) (pe_one (pe_meth (pe_fld (pv 0) rfl) WL.cls ms Fs (hr.mono (by decide)) bs .nil pass0 (pa_cons (pe_fld (pv 1) rfl) pa_nil)))))) pss_nil)
      (pss_cons (ps_if (pt_cmpR op_isN1 (pe_fld (pv 0) rfl) pe_non (nomark _)) (pss_one (ps_ret pe_bl)) pss_nil)
      (pss_cons (ps_if (pt_cmpR op_isN1 (pv 1) pe_non (nomark _)) (pss_one (ps_ret pe_bl)) pss_nil)
      (pss_one (ps_ret (pe_or (pe_cmpR op_isN1 (pe_fld (pv 1) rfl) pe_non (nomark _)) (pe_one (pe_cmpR op_le (pe_fld (pv 1) rfl) (pe_fld (pv 0) rfl) (nomark _)))))))), ?_⟩
    have fin : ∀ {H1 : Hp} {z : Bool}, Ex H H1 → holdsB r p = z → Q (.bl z) H1 := fun e h => by rw [← h]; exact q _ e
    have hv1 := oml_non h1
    cases hmk : marksO r.2.2.1 "if-mark" with
    | some o =>
      rw [hmk] at h1 hv1
      have hz := hok _ _ hmk
      have h1 : MlAt C L H v1 o := h1
      refine q_when (b := true) (et_is (et_test (ev_op (ev (Ex.refl H) WC.n1 (ev_var rfl) rfl) ev_c rv_notN)) (by rw [hv1]; rfl)) (fun _ H1 e1 => ?_) (fun h => nomatch h)
      cases p with
      | none =>
        have hcu : u = .non := hcu
        subst hcu
        exact s_ret (v := .bl false) (ev_andV (a := false) (b := true) (ev_is (ev_op (ev_var rfl) ev_c rv_notN) rfl) fun h => nomatch h) fun H2 e2 => fin (e1.trans e2) (by unfold holdsB; rw [hmk])
      | some pm =>
        obtain ⟨b, dy, um, rfl, hb, hm⟩ := hcu
        have evu : ∀ {te : TE} {σ : L2.St} {f : Str} {v : V} {H' : Hp}, Ex H H' → NoAttr K U f → Ev te σ H' (.ref b) → (cuFs um (optI pm.2)).lookup f = some v → Ev (tFld K te f) σ H' v := fun e0 n h hl H1 e Q q => h H1 e _ fun H2 e2 => ⟨b, U, dy, _, _, rfl, e2 _ _ (e _ _ (e0 _ _ hb)), WK.cls, n, hl, q H2 e2⟩
        refine s_ret (v := .bl (hasB stB o pm.1)) (ev_is (ev_andV (a := true) (ev_is (ev_op (ev_var rfl) ev_c rv_notN) rfl) fun _ => ev_lm (ev e1 WC.n1 (ev_var rfl) rfl) (evu e1 WK.n1 (ev_var rfl) rfl) (h1.ex e1) (hm.ex e1) hz (fun _ _ => by rfl)) (by rw [Bool.true_and])) fun H2 e2 => fin (e1.trans e2) (by unfold holdsB; rw [hmk])
    | none =>
      rw [hmk] at hv1
      refine q_when (b := false) (et_is (et_test (ev_op (ev (Ex.refl H) WC.n1 (ev_var rfl) rfl) ev_c rv_notN)) (by rw [hv1]; rfl)) (fun h => nomatch h) (fun _ H1 e1 => ?_)
      rcases readF_kind r.2.2.1 "if-unchanged" with hu | ⟨i, hu⟩
      · refine q_when (b := true) (et_is (et_test (ev_op (ev e1 WC.n3 (ev_var rfl) (v := .non) (by rw [← hu]; rfl)) ev_c rv_isN)) rfl) (fun _ H2 e2 => ?_) (fun h => nomatch h)
        exact s_ret ev_c fun H3 e3 => fin ((e1.trans e2).trans e3) (by unfold holdsB; rw [hmk, hu])
      · refine q_when (b := false) (et_is (et_test (ev_op (ev e1 WC.n3 (ev_var rfl) (v := .int i) (by rw [← hu]; rfl)) ev_c rv_isN)) (decide_eq_false fun h => nomatch h)) (fun h => nomatch h) (fun _ H2 e2 => ?_)
        have e12 := e1.trans e2
        cases p with
        | none =>
          have hcu : u = .non := hcu
          subst hcu
          refine q_when (b := true) (et_is (et_test (ev_op (ev_var rfl) ev_c rv_isN)) rfl) (fun _ H3 e3 => ?_) (fun h => nomatch h)
          exact s_ret ev_c fun H4 e4 => fin ((e12.trans e3).trans e4) (by unfold holdsB; rw [hmk, hu])
        | some pm =>
          obtain ⟨b, dy, um, rfl, hb, hm⟩ := hcu
          have evu : ∀ {te : TE} {σ : L2.St} {f : Str} {v : V} {H' : Hp}, Ex H H' → NoAttr K U f → Ev te σ H' (.ref b) → (cuFs um (optI pm.2)).lookup f = some v → Ev (tFld K te f) σ H' v := fun e0 n h hl H1 e Q q => h H1 e _ fun H2 e2 => ⟨b, U, dy, _, _, rfl, e2 _ _ (e _ _ (e0 _ _ hb)), WK.cls, n, hl, q H2 e2⟩
          refine q_when (b := false) (et_is (et_test (ev_op (ev_var rfl) ev_c rv_isN)) rfl) (fun h => nomatch h) (fun _ H3 e3 => ?_)
          have e13 := e12.trans e3
          cases hn : pm.2 with
          | none => exact s_ret (v := .bl true) (ev_orV (a := true) (b := true) (ev_is (ev_op (evu e13 WK.n2 (ev_var rfl) (v := .non) (by rw [← show optI pm.2 = V.non by rw [hn]; rfl]; rfl)) ev_c rv_isN) rfl) fun h => nomatch h) fun H4 e4 => fin (e13.trans e4) (by unfold holdsB; rw [hmk, hu]; dsimp only; rw [hn])
          | some n => exact s_ret (v := .bl (decide (n ≤ i))) (ev_is (ev_orV (a := false) (ev_is (ev_op (evu e13 WK.n2 (ev_var rfl) (v := .int n) (by rw [← show optI pm.2 = V.int n by rw [hn]; rfl]; rfl)) ev_c rv_isN) (by rfl)) fun _ => ev_op (evu e13 WK.n2 (ev_var rfl) (v := .int n) (by rw [← show optI pm.2 = V.int n by rw [hn]; rfl]; rfl)) (ev e13 WC.n3 (ev_var rfl) (v := .int i) (by rw [← hu]; rfl)) rv_I0) (by rw [Bool.false_or])) fun H4 e4 => fin (e13.trans e4) (by unfold holdsB; rw [hmk, hu]; dsimp only; rw [hn])
theorem ok_Cv (WC : Wc K mg D) (WK : Wk K mg U) (F : FdP K "_is_unchanged" "Conditions._is_unchanged" s_Cv [] f fd) : FnOk P w K mg base CX0 3 f fd ["self", "current"] (spUn C L U D) := by
  refine FunD.ok F sc_Cv (fun vs H Q E h => ?_) (fun cdv A outer s H vs Q E hr h => ?_)
  · obtain ⟨v, u, r, p, rfl, _⟩ := h
    rfl
  · obtain ⟨v, u, r, p, rfl, ⟨a, dx, v1, v2, rfl, ha, h1, h2⟩, hcu, q⟩ := h
    have ev : ∀ {te : TE} {σ : L2.St} {f : Str} {v : V} {H' : Hp}, Ex H H' → NoAttr K D f → Ev te σ H' (.ref a) → (cdFs r.1 v1 v2 (readF r.2.2.1 "if-unchanged") (readF r.2.2.1 "if-changed") (optV (joinF r.2.2.1 "if-part"))).lookup f = some v → Ev (tFld K te f) σ H' v := fun e0 n h hl H1 e Q q => h H1 e _ fun H2 e2 => ⟨a, D, dx, _, _, rfl, e2 _ _ (e _ _ (e0 _ _ ha)), WC.cls, n, hl, q H2 e2⟩
    refine ⟨_, pss_cons (ps_if (PW.pt (pw_or (pt_cmpR op_isN1 (pe_fld (pv 0) rfl) pe_non (nomark _)) (pw_or (pt_cmpR op_isN1 (pv 1) pe_non (nomark _)) (pw_or1 (pt_cmpR op_isN1 (pe_fld (pv 1) rfl) pe_non (nomark _)))))) (pss_one (ps_ret pe_bl)) pss_nil)
      (pss_one (ps_ret (pe_cmpR op_le (pe_fld (pv 1) rfl) (pe_fld (pv 0) rfl) (nomark _)))), ?_⟩
    have fin : ∀ {H1 : Hp} {z : Bool}, Ex H H1 → unchB r p = z → Q (.bl z) H1 := fun e h => by rw [← h]; exact q _ e
    rcases readF_kind r.2.2.1 "if-changed" with hu | ⟨i, hu⟩
    · refine q_when (b := true) (et_is (et_or (a := true) (b := true) (et_is (et_test (ev_op (ev (Ex.refl H) WC.n4 (ev_var rfl) (v := .non) (by rw [← hu]; rfl)) ev_c rv_isN)) rfl) fun h => nomatch h) rfl) (fun _ H1 e1 => ?_) (fun h => nomatch h)
      exact s_ret ev_c fun H2 e2 => fin (e1.trans e2) (by unfold unchB; rw [hu])
    · have f0 : EvT (tTest (tOp rIsN (tFld K (tVar 0) "_if_changed") (tC .non))) [some (.ref a), some u] H false := et_is (et_test (ev_op (ev (Ex.refl H) WC.n4 (ev_var rfl) (v := .int i) (by rw [← hu]; rfl)) ev_c rv_isN)) (decide_eq_false fun h => nomatch h)
      cases p with
      | none =>
        have hcu : u = .non := hcu
        subst hcu
        refine q_when (b := true) (et_is (et_or (a := false) f0 fun _ => et_or (a := true) (b := true) (et_is (et_test (ev_op (ev_var rfl) ev_c rv_isN)) rfl) fun h => nomatch h) rfl) (fun _ H1 e1 => ?_) (fun h => nomatch h)
        exact s_ret ev_c fun H2 e2 => fin (e1.trans e2) (by unfold unchB; rw [hu])
      | some pm =>
        obtain ⟨b, dy, um, rfl, hb, hm⟩ := hcu
        have evu : ∀ {te : TE} {σ : L2.St} {f : Str} {v : V} {H' : Hp}, Ex H H' → NoAttr K U f → Ev te σ H' (.ref b) → (cuFs um (optI pm.2)).lookup f = some v → Ev (tFld K te f) σ H' v := fun e0 n h hl H1 e Q q => h H1 e _ fun H2 e2 => ⟨b, U, dy, _, _, rfl, e2 _ _ (e _ _ (e0 _ _ hb)), WK.cls, n, hl, q H2 e2⟩
        have f1 : EvT (tTest (tOp rIsN (tVar 1) (tC .non))) [some (.ref a), some (.ref b)] H false := et_is (et_test (ev_op (ev_var rfl) ev_c rv_isN)) rfl
        cases hn : pm.2 with
        | none =>
          refine q_when (b := true) (et_is (et_or (a := false) f0 fun _ => et_or (a := false) f1 fun _ => et_is (b := true) (et_test (ev_op (evu (Ex.refl H) WK.n2 (ev_var rfl) (v := .non) (by rw [← show optI pm.2 = V.non by rw [hn]; rfl]; rfl)) ev_c rv_isN)) rfl) rfl) (fun _ H1 e1 => ?_) (fun h => nomatch h)
          exact s_ret ev_c fun H2 e2 => fin (e1.trans e2) (by unfold unchB; rw [hu]; dsimp only; rw [hn])
        | some n =>
          have hc : ∀ {σ : L2.St} {H' : Hp}, Ex H H' → σ[1]? = some (some (.ref b)) → Ev (tFld K (tVar 1) "changed") σ H' (.int n) := fun e h => evu e WK.n2 (ev_var h) (by rw [← show optI pm.2 = V.int n by rw [hn]; rfl]; rfl)
          refine q_when (b := false) (et_is (et_or (a := false) f0 fun _ => et_or (a := false) f1 fun _ => et_is (b := false) (et_test (ev_op (hc (Ex.refl H) rfl) ev_c rv_isN)) (decide_eq_false fun h => nomatch h)) rfl) (fun h => nomatch h) (fun _ H1 e1 => ?_)
          exact s_ret (v := .bl (decide (n ≤ i))) (ev_op (hc e1 rfl) (ev e1 WC.n4 (ev_var rfl) (v := .int i) (by rw [← hu]; rfl)) rv_I0) fun H2 e2 => fin (e1.trans e2) (by unfold unchB; rw [hu]; dsimp only; rw [hn])
theorem ok_Cc (WC : Wc K mg D) (WK : Wk K mg U) (WL : Wl K mg L) (LM : Lmm P w K mg base C L) (CM : Cmm P w K mg base C L U D) (F : FdP K "__call__" "Conditions.__call__" s_Cc [] f fd) : FnOk P w K mg base CX0 4 f fd ["self", "current"] (spCa C L U D) := by
  obtain ⟨fs, ds, fw, dw, ms, Fs, bs, mw, Fw, bw⟩ := LM.ex
  obtain ⟨fh, dh, fu, du, mh, Fh, bh, mu, Fu, bu⟩ := CM.ex
  refine FunD.ok F sc_Cc (fun vs H Q E h => ?_) (fun cdv A outer s H vs Q E hr h => ?_)
  · obtain ⟨v, u, r, p, rfl, _⟩ := h
    rfl
  · obtain ⟨v, u, r, p, rfl, hcd, hcu, hok, q⟩ := h
    obtain ⟨a, dx, v1, v2, rfl, ha, h1, h2⟩ := id hcd
    have ev : ∀ {te : TE} {σ : L2.St} {f : Str} {v : V} {H' : Hp}, Ex H H' → NoAttr K D f → Ev te σ H' (.ref a) → (cdFs r.1 v1 v2 (readF r.2.2.1 "if-unchanged") (readF r.2.2.1 "if-changed") (optV (joinF r.2.2.1 "if-part"))).lookup f = some v → Ev (tFld K te f) σ H' v := fun e0 n h hl H1 e Q q => h H1 e _ fun H2 e2 => ⟨a, D, dx, _, _, rfl, e2 _ _ (e _ _ (e0 _ _ ha)), WC.cls, n, hl, q H2 e2⟩
    refine ⟨_, pss_cons (ps_if (pt_not (pt_val (pe_meth (pv 0) WC.cls mh Fh (hr.mono (by decide)) bh .nil pass0 (pa_cons (pv 1) pa_nil)))) (pss_one (ps_ret pe_str)) pss_nil)
      (pss_cons (ps_if (pt_cmpR op_notN1 (pe_fld (pv 0) rfl) pe_non (nomark _)) (pss_cons (ps_if (PW.pt (pw_or (pt_cmpR op_isN1 (pv 1) pe_non (nomark _)) (pw_or1 (pt_not (pt_val (pe_meth (pe_fld (pv 0) rfl) WL.cls mw Fw (hr.mono (by decide)) bw .nil pass0 (pa_cons (pe_fld (pv 1) rfl) pa_nil))))))) (pss_one (ps_ret pe_str)) pss_nil)
        (pss_one (ps_ret (pe_ifExp (pt_cmpR op_eq (pe_fld (pv 0) rfl) pe_str (nomark _)) pe_str pe_str)))) pss_nil)
      (pss_cons (ps_if (PW.pt (pw_and (pt_cmpR op_eq (pe_fld (pv 0) rfl) pe_str (nomark _)) (pw_and1 (pt_val (pe_meth (pv 0) WC.cls mu Fu (hr.mono (by decide)) bu .nil pass0 (pa_cons (pv 1) pa_nil)))))) (pss_one (ps_ret pe_str)) pss_nil)
      (pss_one (ps_ret pe_str)))), ?_⟩
    have fin : ∀ {H1 : Hp} {z : Str}, Ex H H1 → callS r p = z → Q (.str z) H1 := fun e h => by rw [← h]; exact q _ e
    have mth : ∀ {σ : L2.St} {H' : Hp} {m : Str} {sp : Sp} {z : V}, Ex H H' → σ[0]? = some (some (.ref a)) → σ[1]? = some (some u) → (cdFs r.1 v1 v2 (readF r.2.2.1 "if-unchanged") (readF r.2.2.1 "if-changed") (optV (joinF r.2.2.1 "if-part"))).lookup m = none → (∀ H2, Ex H' H2 → ∀ Q', (∀ H3, Ex H2 H3 → Q' z H3) → sp [.ref a, u] H2 Q' E0) → Ev (tMeth D m sp [] E0 (tVar 0) (tCons (tVar 1) tNil)) σ H' z := fun {σ H' m sp z} e h0 hc hl hs H1 e1 Q' q' =>
      ⟨.ref a, h0, a, dx, _, rfl, e1 _ _ (e _ _ ha), hl, (ea_cons (ev_var hc) ea_nil) H1 (Ex.refl H1) _ fun H2 e2 => hs H2 (e1.trans e2) Q' fun H3 e3 => q' H3 (e2.trans e3)⟩
    refine q_when (b := !holdsB r p) (et_not (et_B (mth (z := .bl (holdsB r p)) (Ex.refl H) rfl rfl (by rfl) fun H2 e2 Q' q' => ⟨.ref a, u, r, p, rfl, hcd.ex e2, hcu.ex e2, hok, q'⟩))) (fun hb H1 e1 => ?_) (fun hb H1 e1 => ?_)
    · have hb : holdsB r p = false := by cases h : holdsB r p <;> rw [h] at hb <;> first | rfl | cases hb
      exact s_ret ev_c fun H2 e2 => fin (e1.trans e2) (by unfold callS; rw [hb, if_neg Bool.false_ne_true])
    · have hb : holdsB r p = true := by cases h : holdsB r p <;> rw [h] at hb <;> first | rfl | cases hb
      have hv2 := oml_non h2
      cases hmk : marksO r.2.2.1 "if-no-mark" with
      | some o =>
        rw [hmk] at h2 hv2
        have hz := hok _ _ hmk
        have h2 : MlAt C L H v2 o := h2
        refine q_when (b := true) (et_is (et_test (ev_op (ev e1 WC.n2 (ev_var rfl) rfl) ev_c rv_notN)) (by rw [hv2]; rfl)) (fun _ H2 e2 => ?_) (fun h => nomatch h)
        have e12 := e1.trans e2
        cases p with
        | none =>
          have hcu : u = .non := hcu
          subst hcu
          refine q_when (b := true) (et_is (et_or (a := true) (b := true) (et_is (et_test (ev_op (ev_var rfl) ev_c rv_isN)) rfl) fun h => nomatch h) rfl) (fun _ H3 e3 => ?_) (fun h => nomatch h)
          exact s_ret ev_c fun H4 e4 => fin ((e12.trans e3).trans e4) (by unfold callS; rw [if_pos hb, hmk])
        | some pm =>
          obtain ⟨b, dy, um, rfl, hb2, hm⟩ := id hcu
          have evu : ∀ {te : TE} {σ : L2.St} {f : Str} {v : V} {H' : Hp}, Ex H H' → NoAttr K U f → Ev te σ H' (.ref b) → (cuFs um (optI pm.2)).lookup f = some v → Ev (tFld K te f) σ H' v := fun e0 n h hl H1 e Q q => h H1 e _ fun H2 e2 => ⟨b, U, dy, _, _, rfl, e2 _ _ (e _ _ (e0 _ _ hb2)), WK.cls, n, hl, q H2 e2⟩
          refine q_when (b := !hasB wkB o pm.1) (et_is (et_or (a := false) (et_is (et_test (ev_op (ev_var rfl) ev_c rv_isN)) rfl) fun _ => et_not (et_B (ev_lm (ev e12 WC.n2 (ev_var rfl) rfl) (evu e12 WK.n1 (ev_var rfl) rfl) (h2.ex e12) (hm.ex e12) hz (fun _ _ => by rfl)))) (Bool.false_or _)) (fun hw H3 e3 => ?_) (fun hw H3 e3 => ?_)
          · have hw : hasB wkB o pm.1 = false := by cases h : hasB wkB o pm.1 <;> rw [h] at hw <;> first | rfl | cases hw
            exact s_ret ev_c fun H4 e4 => fin ((e12.trans e3).trans e4) (by unfold callS; rw [if_pos hb, hmk]; dsimp only; rw [hw, if_neg Bool.false_ne_true])
          · have hw : hasB wkB o pm.1 = true := by cases h : hasB wkB o pm.1 <;> rw [h] at hw <;> first | rfl | cases hw
            have e13 := e12.trans e3
            refine s_ret (v := .str (if r.1 = "get" then ("same" : Str) else ("failed" : Str))) (ev_if (b := decide (r.1 = "get")) (et_test (ev_op (ev e13 WC.n0 (ev_var rfl) rfl) ev_c rv_eqS)) (fun h => ?_) fun h => ?_) fun H4 e4 => fin (e13.trans e4) (by unfold callS; rw [if_pos hb, hmk]; dsimp only; rw [if_pos hw])
            · rw [if_pos (of_decide_eq_true h)]; exact ev_c
            · rw [if_neg (of_decide_eq_false h)]; exact ev_c
      | none =>
        rw [hmk] at hv2
        refine q_when (b := false) (et_is (et_test (ev_op (ev e1 WC.n2 (ev_var rfl) rfl) ev_c rv_notN)) (by rw [hv2]; rfl)) (fun h => nomatch h) (fun _ H2 e2 => ?_)
        have e12 := e1.trans e2
        refine q_when (b := decide (r.1 = "get") && unchB r p) (et_and (et_test (ev_op (ev e12 WC.n0 (ev_var rfl) rfl) ev_c rv_eqS)) fun _ => et_B (mth (z := .bl (unchB r p)) e12 rfl rfl (by rfl) fun H3 e3 Q' q' => ⟨.ref a, u, r, p, rfl, hcd.ex (e12.trans e3), hcu.ex (e12.trans e3), q'⟩)) (fun hw H3 e3 => ?_) (fun hw H3 e3 => ?_)
        · exact s_ret ev_c fun H4 e4 => fin ((e12.trans e3).trans e4) (by unfold callS; rw [if_pos hb, hmk]; dsimp only; rw [if_pos hw])
        · exact s_ret ev_c fun H4 e4 => fin ((e12.trans e3).trans e4) (by unfold callS; rw [if_pos hb, hmk]; dsimp only; rw [hw, if_neg Bool.false_ne_true])
end
end Z
set_option maxHeartbeats 2000000
namespace Z
open PySem PySem.Spec PyProof.Rows L2 TL Evl PySem.Builtin.Str
/-! ### stripped texts -/
theorem getD_tl {z : Str} {k : Nat} (hk : k < z.length) : (tl z)[k]? = some (z.cps.getD k 0) := by
  have hl : k < (tl z).length := by rw [len_tl']; exact hk
  rw [List.getElem?_eq_getElem hl, ← getD_list, List.getD_eq_getElem?_getD]
  show some (z.cps.toList[k]'hl) = some (z.cps.toList[k]?.getD 0)
  rw [List.getElem?_eq_getElem hl]
  rfl
theorem strip_self {w s : Str} (h0 : ∀ c, (tl w)[0]? = some c → c ∉ tl s) (h1 : ∀ c, (tl w)[w.length - 1]? = some c → c ∉ tl s) : Txt.stripChars w s = w := by
  have e0 : Txt.stripChars w s = strSub w (stripLo s.cps.contains true w) (stripHi s.cps.contains true w (stripLo s.cps.contains true w)) := stripBy_eq _ _ _ _
  obtain ⟨l1, l2, l3⟩ := lo_facts s.cps.contains w
  obtain ⟨a1, a2, a3, a4⟩ := hi_facts s.cps.contains w _ l1
  generalize hlo : stripLo s.cps.contains true w = lo at *
  generalize hhi : stripHi s.cps.contains true w lo = hi at *
  have hlen : (tl w).length = w.length := len_tl' w
  have no : ∀ k, k < w.length → s.cps.contains (w.cps.getD k 0) = true → ¬ (w.cps.getD k 0 ∉ tl s) := fun k hk h h2 => by
    rw [contains_mem] at h
    exact h2 (of_decide_eq_true h)
  have z1 : lo = 0 := by
    by_cases h : lo = 0
    · exact h
    · exact absurd (h0 _ (getD_tl (by omega))) (no 0 (by omega) (l2 0 (by omega)))
  have z2 : hi = w.length := by
    by_cases h : hi = w.length
    · exact h
    · exact absurd (h1 _ (getD_tl (by omega))) (no (w.length - 1) (by omega) (a3 (w.length - 1) (by omega) (by omega)))
  refine ext_tl ?_
  rw [e0, tl_strSub, z1, z2, List.drop_zero, Nat.sub_zero, ← hlen, List.take_length]
theorem strip_ends (z s : Str) : (∀ c, (tl (Txt.stripChars z s))[0]? = some c → c ∉ tl s) ∧ ∀ c, (tl (Txt.stripChars z s))[(Txt.stripChars z s).length - 1]? = some c → c ∉ tl s := by
  have e0 : Txt.stripChars z s = strSub z (stripLo s.cps.contains true z) (stripHi s.cps.contains true z (stripLo s.cps.contains true z)) := stripBy_eq _ _ _ _
  obtain ⟨l1, l2, l3⟩ := lo_facts s.cps.contains z
  obtain ⟨h1, h2, h3, h4⟩ := hi_facts s.cps.contains z _ l1
  generalize hlo : stripLo s.cps.contains true z = lo at *
  generalize hhi : stripHi s.cps.contains true z lo = hi at *
  have hlen : (tl z).length = z.length := len_tl' z
  have e1 : tl (Txt.stripChars z s) = ((tl z).drop lo).take (hi - lo) := by rw [e0]; exact tl_strSub _ _ _
  have el : (Txt.stripChars z s).length = hi - lo := by
    rw [← len_tl', e1, List.length_take, List.length_drop, hlen]
    omega
  have gt : ∀ k c, k < hi - lo → (tl (Txt.stripChars z s))[k]? = some c → c = z.cps.getD (lo + k) 0 := fun k c hk h => by
    rw [e1, List.getElem?_take, if_pos hk, List.getElem?_drop, getD_tl (by omega)] at h
    exact (Option.some.inj h).symm
  constructor
  · intro c hc
    have hk : 0 < hi - lo := by
      have := (List.getElem?_eq_some_iff.mp hc).1
      rw [len_tl', el] at this
      exact this
    have := gt 0 c hk hc
    rw [Nat.add_zero] at this
    rcases l3 with h | h
    · omega
    · intro hm
      rw [this] at hm
      rw [contains_mem, decide_eq_true hm] at h
      cases h
  · intro c hc
    rw [el] at hc
    have hk : 0 < hi - lo := by
      have := (List.getElem?_eq_some_iff.mp hc).1
      rw [len_tl', el] at this
      omega
    have := gt (hi - lo - 1) c (by omega) hc
    rw [show lo + (hi - lo - 1) = hi - 1 by omega] at this
    rcases h4 with h | h
    · omega
    · intro hm
      rw [this] at hm
      rw [contains_mem, decide_eq_true hm] at h
      cases h
theorem strip_idem (z s : Str) : Txt.stripChars (Txt.stripChars z s) s = Txt.stripChars z s := strip_self (strip_ends z s).1 (strip_ends z s).2
end Z
set_option maxHeartbeats 4000000
namespace Z
open PySem PySem.Spec PyProof.Rows L2 TL Evl NdefX
/-! ### what is drawn is allowed -/
def nsp : Str := "!\"#$&'()*+,-./0123456789:;<=>?@ABCDEFGHIJKLMNOPQRSTUVWXYZ[\\]^_`abcdefghijklmnopqrstuvwxyz{|}~"
theorem nsp_ok : ∀ c ∈ tl nsp, c ∈ tl signs ∧ c ∉ tl (" " : Str) := by decide +kernel
theorem allIn_mono {z s t : Str} (h : allIn z s = true) (k : ∀ c ∈ tl s, c ∈ tl t) : allIn z t = true :=
  List.all_eq_true.mpr fun c hc => decide_eq_true (k c (of_decide_eq_true (List.all_eq_true.mp h c hc)))
theorem value_ns {z : Str} (hl : z.length ≤ 200) (h : allIn z nsp = true) : valueB z = true := by
  have hm : ∀ c ∈ tl z, c ∈ tl nsp := fun c hc => of_decide_eq_true (List.all_eq_true.mp h c hc)
  unfold valueB
  rw [decide_eq_true (by omega), Bool.true_and, Bool.and_eq_true, decide_eq_true_eq]
  exact ⟨List.all_eq_true.mpr fun c hc => decide_eq_true (nsp_ok c (hm c hc)).1, strip_self (fun c hc => (nsp_ok c (hm c (List.mem_of_getElem? hc))).2) (fun c hc => (nsp_ok c (hm c (List.mem_of_getElem? hc))).2)⟩
theorem mk_nsp : ∀ c ∈ tl mkS, c ∈ tl nsp := by decide +kernel
theorem wrZ_value {z : Str} {b : Bool} (h : markB z = true) : valueB (wrZ z b) = true := by
  obtain ⟨h1, h2⟩ := markB_iff.mp h
  have h3 := wrZ_len z b
  refine value_ns (by omega) ?_
  have q : allIn ("\"" : Str) nsp = true := by decide +kernel
  have e : allIn (cond b ("w" : Str) "") nsp = true := by cases b <;> decide +kernel
  unfold wrZ
  rw [allIn_app, allIn_app, allIn_app, q, e, allIn_mono h2 mk_nsp]
  rfl
theorem strip_value {z : Str} (h : allIn z signs = true) (hl : z.length ≤ 200) : valueB (Txt.stripChars z " ") = true := by
  have := strip_len z " "
  unfold valueB
  rw [decide_eq_true (by omega), strip_idem, decide_eq_true rfl, Bool.and_true, Bool.true_and]
  exact allIn_sub h fun c hc => strip_mem hc
theorem value_parts {z : Str} (h : valueB z = true) : z.length ≤ 200 ∧ allIn z signs = true := by
  unfold valueB at h
  simp only [Bool.and_eq_true, decide_eq_true_eq] at h
  exact ⟨by omega, h.2.1⟩
theorem value_empty : valueB ("" : Str) = true := by decide +kernel
theorem value_star : valueB ("*" : Str) = true := by decide +kernel
/-! numbers' texts -/
theorem neg_tl (n : Nat) : tl (PySem.Str.ofString (toString (Int.negSucc n))) = 45 :: numL (n + 1) := by
  have e : toString (Int.negSucc n) = "-" ++ toString (n + 1) := rfl
  rw [e, PySem.Str.ofString_eq_toList]
  show (String.toList ("-" ++ toString (n + 1))).map Char.toNat = _
  rw [String.toList_append, List.map_append]
  have h2 := tl_num (n + 1)
  rw [PySem.Str.ofString_eq_toList] at h2
  have h2 : (String.toList (toString (n + 1))).map Char.toNat = numL (n + 1) := h2
  rw [h2]
  rfl
theorem num_head : ∀ n : Nat, 1 ≤ n → ∃ c r, numL n = c :: r ∧ c ≠ 48 := by
  intro n
  induction n using Nat.strongRecOn with
  | _ n ih =>
    intro h
    by_cases h1 : n < 10
    · exact ⟨48 + n, [], numL_lt h1, by omega⟩
    · obtain ⟨c, r, h2, h3⟩ := ih (n / 10) (by omega) (by omega)
      exact ⟨c, r ++ [48 + n % 10], by rw [numL_step (by omega), h2]; rfl, h3⟩
theorem dig_mem {c : Nat} (h1 : 48 ≤ c) (h2 : c ≤ 57) : c ∈ tl ("0123456789" : Str) := by
  have k : ∀ i < 10, 48 + i ∈ tl ("0123456789" : Str) := by decide +kernel
  have := k (c - 48) (by omega)
  rwa [show 48 + (c - 48) = c by omega] at this
theorem num_dig {n : Nat} (h : n < 10 ^ 6) {z : Str} (hz : tl z = numL n) : digB z = true := by
  have hl : z.length ≤ 6 := by rw [len_tl, hz]; exact numL_len (by decide) h
  have hp : 1 ≤ z.length := by rw [len_tl, hz]; exact List.length_pos_iff.mpr (numL_ne n)
  unfold digB
  rw [decide_eq_true (by omega), decide_eq_true (by omega), Bool.true_and, Bool.true_and, Bool.and_eq_true]
  refine ⟨List.all_eq_true.mpr fun c hc => decide_eq_true ?_, ?_⟩
  · rw [hz] at hc
    have := numL_digits n c hc
    exact dig_mem this.1 this.2
  · rw [Bool.or_eq_true, decide_eq_true_eq, Bool.not_eq_true', decide_eq_false_iff_not]
    by_cases h1 : n < 10
    · left
      rw [len_tl, hz, numL_lt h1]
      rfl
    · right
      obtain ⟨c, r, h2, h3⟩ := num_head n (by omega)
      unfold hd
      rw [hz, h2]
      intro e
      exact h3 (Option.some.inj e)
theorem num_kinds (i : Int) (h1 : -999999 ≤ i) (h2 : i ≤ 999999) : (∃ n : Nat, n < 10 ^ 6 ∧ tl (PySem.Str.ofString (toString i)) = numL n) ∨ ∃ n : Nat, 1 ≤ n ∧ n < 10 ^ 6 ∧ tl (PySem.Str.ofString (toString i)) = 45 :: numL n := by
  cases i with
  | ofNat n =>
    have h2 : (n : Int) ≤ 999999 := h2
    exact .inl ⟨n, by omega, tl_num n⟩
  | negSucc n => exact .inr ⟨n + 1, by omega, by omega, neg_tl n⟩
theorem num_read (i : Int) (h1 : -999999 ≤ i) (h2 : i ≤ 999999) : readV (PySem.Str.ofString (toString i)) ≠ .non := by
  rcases num_kinds i h1 h2 with ⟨n, hn, hz⟩ | ⟨n, h0, hn, hz⟩
  · generalize PySem.Str.ofString (toString i) = z at hz
    have hh : hd z ≠ some 45 := by
      unfold hd
      rw [hz]
      intro e
      have := List.mem_of_mem_head? e
      have := numL_digits n _ this
      omega
    unfold readV numV
    rw [if_neg hh, if_pos (num_dig hn hz)]
    exact fun h => nomatch h
  · generalize PySem.Str.ofString (toString i) = z at hz
    have hh : hd z = some 45 := by
      unfold hd
      rw [hz]
      rfl
    have hr : tl (rest z) = numL n := by
      unfold rest
      rw [cutFrom1_tl, hz]
      rfl
    unfold readV
    rw [if_pos hh, if_pos]
    · exact fun h => nomatch h
    · refine ⟨num_dig hn hr, fun e => ?_⟩
      have e2 := numL_val n
      rw [← hr, e, val_zero] at e2
      omega
theorem num_value (i : Int) (h1 : -999999 ≤ i) (h2 : i ≤ 999999) : valueB (PySem.Str.ofString (toString i)) = true := by
  have key : ∀ z : Str, z.length ≤ 7 → (∀ c ∈ tl z, c = 45 ∨ (48 ≤ c ∧ c ≤ 57)) → valueB z = true := fun z hl hc => by
    refine value_ns (by omega) (List.all_eq_true.mpr fun c h => decide_eq_true ?_)
    have d : ∀ c ∈ tl ("0123456789" : Str), c ∈ tl nsp := by decide +kernel
    rcases hc c h with rfl | ⟨g1, g2⟩
    · decide +kernel
    · exact d c (dig_mem g1 g2)
  rcases num_kinds i h1 h2 with ⟨n, hn, hz⟩ | ⟨n, h0, hn, hz⟩
  · refine key _ ?_ fun c hc => ?_
    · rw [len_tl, hz]
      have := numL_len (k := 6) (by decide) hn
      omega
    · rw [hz] at hc
      exact .inr (numL_digits n c hc)
  · refine key _ ?_ fun c hc => ?_
    · rw [len_tl, hz]
      have := numL_len (k := 6) (by decide) hn
      rw [List.length_cons]
      omega
    · rw [hz] at hc
      rcases List.mem_cons.mp hc with rfl | hc
      · exact .inl rfl
      · exact .inr (numL_digits n c hc)
/-! names -/
def snB (z : Str) (n : Nat) : Prop := 1 ≤ z.length ∧ z.length ≤ n ∧ hdIn z "abcdefghijklmnopqrstuvwxyz" = true ∧ allIn z "abcdefghijklmnopqrstuvwxyz0123456789-" = true
theorem sn_name {z : Str} (h : snB z 3) : nameB z = true := by
  obtain ⟨h1, h2, h3, h4⟩ := h
  unfold nameB wordB
  rw [h3, h4, decide_eq_true (by omega), decide_eq_true (by omega)]
  have : z ≠ ("length" : Str) := fun e => by
    have : ("length" : Str).length = 6 := by decide +kernel
    rw [e, this] at h2
    omega
  rw [decide_eq_false this]
  rfl
theorem sn_one {c : Nat} (h : c ∈ tl ("abcdefghijklmnopqrstuvwxyz" : Str)) : snB (one c) 1 := by
  have k : ∀ c ∈ tl ("abcdefghijklmnopqrstuvwxyz" : Str), c ∈ tl ("abcdefghijklmnopqrstuvwxyz0123456789-" : Str) := by decide +kernel
  refine ⟨Nat.le_refl _, Nat.le_refl _, ?_, allIn_one (k c h)⟩
  show (match hd (one c) with | some c => decide (c ∈ tl ("abcdefghijklmnopqrstuvwxyz" : Str)) | none => false) = true
  exact decide_eq_true h
theorem sn_app {z : Str} {n c : Nat} (h : snB z n) (hc : c ∈ tl ("abcdefghijklmnopqrstuvwxyz0123456789-" : Str)) : snB (z ++ one c) (n + 1) := by
  obtain ⟨h1, h2, h3, h4⟩ := h
  refine ⟨by rw [Str.length_append]; omega, by rw [Str.length_append, one_len]; omega, ?_, by rw [allIn_app, h4, allIn_one hc]; rfl⟩
  unfold hdIn at h3 ⊢
  have : hd (z ++ one c) = hd z := by
    unfold hd
    rw [tl_append]
    cases e : tl z with
    | nil =>
      rw [len_tl, e] at h1
      exact absurd h1 (by decide)
    | cons a r => rfl
  rw [this]
  exact h3
theorem path_mark {z : Str} (h : markB z = true) : pathB (("/" : Str) ++ z) = true := by
  obtain ⟨h1, h2⟩ := markB_iff.mp h
  have l1 : ("/" : Str).length = 1 := by decide +kernel
  have k : ∀ c ∈ tl mkS, c ∈ tl ("abcdefghijklmnopqrstuvwxyz0123456789/-." : Str) := by decide +kernel
  have e : hd (("/" : Str) ++ z) = some 47 := by
    unfold hd
    rw [tl_append]
    rfl
  have a : allIn ("/" : Str) "abcdefghijklmnopqrstuvwxyz0123456789/-." = true := by decide +kernel
  unfold pathB
  rw [e, allIn_app, a, allIn_mono h2 k, Str.length_append, l1, decide_eq_true (by omega), decide_eq_true (by omega)]
  rfl
theorem body_two {a b : Str} (ha : valueB a = true) (hb : valueB b = true) : bodyB (a ++ ("\n" : Str) ++ b) = true ∧ (a ++ ("\n" : Str) ++ b).length ≤ 100000 := by
  obtain ⟨a1, a2⟩ := value_parts ha
  obtain ⟨b1, b2⟩ := value_parts hb
  have l1 : ("\n" : Str).length = 1 := by decide +kernel
  have hl : (a ++ ("\n" : Str) ++ b).length ≤ 100000 := by
    rw [Str.length_append, Str.length_append, l1]
    omega
  refine ⟨?_, hl⟩
  unfold bodyB
  rw [decide_eq_true (by omega), Bool.true_and]
  unfold linesB
  rw [tl_append, tl_append, List.all_append, List.all_append, nl_tl]
  have g : ∀ {z : Str}, allIn z signs = true → (tl z).all (fun c => decide (c = 10) || decide (c ∈ tl signs)) = true := fun {z} h => List.all_eq_true.mpr fun c hc => by
    rw [List.all_eq_true.mp h c hc, Bool.or_true]
  rw [g a2, g b2]
  rfl
theorem body_empty : bodyB ("" : Str) = true := by decide +kernel
/-! fields -/
def own : List Str := ["if-no-mark", "if-changed", "range", "if-part"]
theorem areB_out {fs : Fs} (ns : List Str) (h : areB fs = true) : areB (outF fs ns) = true := by
  unfold areB at h ⊢
  rw [Bool.and_eq_true, decide_eq_true_eq, List.all_eq_true] at h ⊢
  exact ⟨Nat.le_trans (List.length_filter_le _ _) h.1, fun x hx => h.2 x (List.mem_filter.mp hx).1⟩
theorem out_out (fs : Fs) (ns : List Str) : outF (outF fs ns) ns = outF fs ns := by
  unfold outF
  rw [List.filter_filter]
  congr 1
  funext x
  rw [Bool.and_self]
theorem out_app (fs : Fs) (n x : Str) (h : n ∈ own) : outF (outF fs own ++ [(n, x)]) own = outF fs own := by
  have e : outF (outF fs own ++ [(n, x)]) own = outF (outF fs own) own ++ outF [(n, x)] own := by
    unfold outF
    rw [List.filter_append]
  rw [e, out_out]
  have : outF [(n, x)] own = [] := by
    unfold outF
    rw [List.filter_cons, decide_eq_true h]
    rfl
  rw [this, List.append_nil]
theorem with_out (fs : Fs) (n x : Str) (h : n ∈ own) : withF (outF fs own) n x = outF fs own ++ [(n, x)] := by
  unfold withF
  congr 1
  refine List.filter_eq_self.mpr fun y hy => ?_
  have := (List.mem_filter.mp hy).2
  rw [Bool.not_eq_true', decide_eq_false_iff_not] at this ⊢
  exact fun e => this (e ▸ h)
theorem areB_app {fs : Fs} {n x : Str} (h : areB fs = true) (hl : fs.length ≤ 39) (hn : nameB n = true) (hx : valueB x = true) : areB (fs ++ [(n, x)]) = true := by
  unfold areB at h ⊢
  rw [Bool.and_eq_true, decide_eq_true_eq, List.all_eq_true] at h ⊢
  refine ⟨by rw [List.length_append]; show fs.length + 1 ≤ 40; omega, fun y hy => ?_⟩
  rcases List.mem_append.mp hy with hy | hy
  · exact h.2 y hy
  · rw [List.mem_singleton.mp hy]
    unfold fieldB
    rw [hn, hx]
    rfl
theorem vals_app (fs : Fs) (n x : Str) (k : Str) : valsF (fs ++ [(n, x)]) k = valsF fs k ++ if n = k then [x] else [] := by
  unfold valsF
  rw [List.filter_append, List.map_append, List.filter_cons]
  by_cases h : n = k
  · rw [if_pos h, decide_eq_true h]
    rfl
  · rw [if_neg h, decide_eq_false h]
    rfl
theorem vals_out (fs : Fs) {k : Str} (h : k ∈ own) : valsF (outF fs own) k = [] := by
  unfold valsF outF
  rw [List.filter_filter, List.map_eq_nil_iff, List.filter_eq_nil_iff]
  intro x _ hx
  rw [Bool.and_eq_true, decide_eq_true_eq, Bool.not_eq_true', decide_eq_false_iff_not] at hx
  exact hx.2 (hx.1 ▸ h)
theorem join_none {fs : Fs} {k : Str} (h : valsF fs k = []) : joinF fs k = none := by
  unfold joinF
  rw [if_pos h]
theorem join_one (x : Str) : Txt.join ", " [x] = x := by
  show Builtin.Str.glued ", " [x] = x
  rfl
theorem joinF_one {fs : Fs} {k x : Str} (h : valsF fs k = [x]) : joinF fs k = some x := by
  unfold joinF
  rw [if_neg (by rw [h]; exact List.cons_ne_nil _ _), h, join_one]
end Z
set_option maxHeartbeats 4000000
namespace Z
open PySem PySem.Spec PyProof.Rows L2 TL Evl NdefX
def RngR (n : Nat) (g : TG) (tb : TS) (D : Ends) (σ : L2.St) (H : Hp) : Prop := ∃ W : Nat → Nat → L2.St → Hp → Prop, (∃ m, W 0 m σ H) ∧ ∀ i m σ H, W i m σ H →
  ((Itr 0 n).stop i H ∧ D.nx σ H) ∨ ((Itr 0 n).go i H ∧ ∃ N : L2.St → Hp → Prop, (∀ σ' H', N σ' H' → ∃ m', m' < m ∧ W (i + 1) m' σ' H') ∧ ∀ x H', (Itr 0 n).yld i H x H' → g x σ H' fun σ2 H2 => tb { D with nx := N, ct := N, bk := D.nx } σ2 H2)
section
variable {σ : L2.St} {H : Hp} {ta tv : TA} {te tb : TE} {p l0 : Addr} {lim : Int} {Q : VK} {E : XK} {D : Ends} {tz tu : TS} {i j : Nat} {K : PySem.W.Frag}
theorem q_rng (h : te σ H fun x H1 => ∃ n : Int, [x] = [V.int n] ∧ -(2 ^ 62) ≤ n ∧ n < 2 ^ 62 ∧ RngR n.toNat (gName j) tu { D with nx := tz D } σ H1) : tSeq (tFor (iRng1 (tCons te tNil)) (gName j) tu) tz D σ H := h
theorem rng_go {n : Int} {m : Nat} (h1 : 0 ≤ n) (h2 : n ≤ (m : Int)) (hm : m ≤ 100000) (Pv : Nat → L2.St → Hp → Prop) (h0 : Pv 0 σ H)
    (hs : ∀ i σ' H', i < m → Pv i σ' H' → tu { D with nx := Pv (i + 1), ct := Pv (i + 1), bk := D.nx } (σ'.set j (some (.int (i : Int)))) H') (hd : ∀ n σ' H', n ≤ m → Pv n σ' H' → D.nx σ' H') : ∃ n' : Int, [V.int n] = [V.int n'] ∧ -(2 ^ 62) ≤ n' ∧ n' < 2 ^ 62 ∧ RngR n'.toNat (gName j) tu D σ H :=
  ⟨n, rfl, by omega, by omega, for_range (lo := 0) (n := n.toNat) Pv h0 (fun i σ' H' hi p => by
    have e0 : (0 : Int) + (i : Int) = (i : Int) := Int.zero_add _
    show tu { D with nx := Pv (i + 1), ct := Pv (i + 1), bk := D.nx } (σ'.set j (some (.int ((0 : Int) + (i : Int))))) H'
    rw [e0]
    exact hs i σ' H' (by omega) p) fun σ' H' => hd n.toNat σ' H' (by omega)⟩
/-- one of whole numbers, by a draw -/
theorem rd_pickI {ns : List Int} (hl : EvA tv σ H (ns.map V.int)) (hm : ns.length ≤ 1000) (h : ∀ H1, Ex H H1 → EvA ta σ H1 [.ref p, .int (ns.length : Int)]) (b : DwAt H p l0) (h1 : 1 ≤ ns.length) (k : ∀ (x : Int) (H' : Hp), x ∈ ns → DwAt H' p l0 → Keep p H H' → Q (.int x) H') :
    tOp (rIxL K) (tLst tv) (tCall spTake [] E ta) σ H Q := by
  have g : tLst tv σ H (fun x H1 => tCall spTake [] E ta σ H1 fun y H2 => rIxL K x y H2 Q) := ?_
  · exact g
  refine (el_lst hl (by rw [List.length_map]; omega)) H (Ex.refl H) _ fun l H1 nl e1 hl1 => ?_
  refine rd_take (h H1 e1) (b.ex e1) (by omega) (by omega) fun d H2 d0 d1 b2 k2 => ?_
  obtain ⟨t, ht, htm⟩ := at_int (xs := ns.map V.int) (d := d) d0 (by rw [List.length_map]; exact d1)
  obtain ⟨x, rfl, hx⟩ := ints_in htm
  exact ⟨l, _, d, _, rfl, rfl, sq_of (k2 _ _ (b.ne nl).1 hl1), ht, k x H2 hx b2 ((Keep.of e1).trans k2)⟩
/-- one of a text's signs, by a draw -/
theorem rd_pickC {z : Str} {n : Nat} (hz : z.length = n) (hn : n ≤ 1000) (h : EvA ta σ H [.ref p, .int (n : Int)]) (b : DwAt H p l0) (h1 : 1 ≤ n) (k : ∀ (c : Nat) (H' : Hp), c ∈ tl z → DwAt H' p l0 → Keep p H H' → Q (.str (one c)) H') :
    tOp rIxS (tC (.str z)) (tCall spTake [] E ta) σ H Q := by
  have g : tCall spTake [] E ta σ H fun y H2 => rIxS (.str z) y H2 Q := ?_
  · exact g
  refine rd_take h b (by omega) (by omega) fun d H2 d0 d1 b2 k2 => ?_
  obtain ⟨c, hc, hcm⟩ := at_int (xs := tl z) (d := d) d0 (by rw [← len_tl, hz]; exact d1)
  exact ⟨z, d, c, rfl, rfl, sz_of (by omega), hc, k c H2 hcm b2 k2⟩
theorem el_catN {l : Addr} {xs zs : List V} (ha : Ev te σ H (.ref l)) (hb : EvL tb σ H zs) (hl : H l = some (.lst xs)) (hz : xs.length + zs.length ≤ 100000) : EvL (tOp rCat te tb) σ H (xs ++ zs) := fun H1 e Q q =>
  ha H1 e _ fun H2 e2 => hb H2 (e.trans e2) _ fun b H3 nb e3 h3 => ⟨l, b, xs, zs, rfl, rfl, ((e.trans e2).trans e3) _ _ hl, h3, sz_of hz, fun p np => q p _ (fresh_back (e2.trans e3) np) ((e2.trans e3).trans (Ex.new np)) upd_same⟩
theorem rd_arg2 {sp : Sp} (h : te σ H fun x H1 => tb σ H1 fun y H2 => sp [x, y] H2 Q E) : tCall sp [] E (tCons te (tCons tb tNil)) σ H Q := h
theorem q_asgR (h : te σ H fun v H1 => tz D (σ.set i (some v)) H1) : tSeq (tAsg te (gName i)) tz D σ H := h
theorem s_asgR (h : te σ H fun v H1 => D.nx (σ.set i (some v)) H1) : tAsg te (gName i) D σ H := h
end
theorem rd_tup {σ : L2.St} {H : Hp} {ta : TA} {Q : VK} (h : ta σ H fun vs H1 => vs.length ≤ sizeLine ∧ ∀ p, H1 p = none → Q (.ref p) (upd H1 p (.tup vs))) : tTup ta σ H Q := h
theorem FsAt.app {H : Hp} {q t : Addr} {xs : List V} {fs : Fs} {n x : Str} (h : H q = some (.lst xs)) (hr : Rel (PfAt H) xs fs) (ht : H t = some (.tup [.str n, .str x])) : FsAt (upd H q (.lst (xs ++ [.ref t]))) q (fs ++ [(n, x)]) := by
  have kp : Keep q H (upd H q (.lst (xs ++ [.ref t]))) := (Keep.of (Ex.refl H)).upd
  exact ⟨_, upd_same, (hr.mono fun _ _ m => TupAt.keep m kp ⟨_, h⟩).snoc (TupAt.keep (⟨t, rfl, ht⟩ : TupAt H (.ref t) [.str n, .str x]) kp ⟨_, h⟩)⟩
def bareR (r : RqT) : RqT := (r.1, r.2.1, outF r.2.2.1 own, r.2.2.2)
def ckO : Option (Str × Bool) → Option Int → Option (Str × Str)
  | some o, _ => some ("if-no-mark", wrZ o.1 o.2)
  | none, some i => some ("if-changed", PySem.Str.ofString (toString i))
  | none, none => none
def chkR (r : RqT) (o : Option (Str × Str)) : RqT := (r.1, r.2.1, outF r.2.2.1 own ++ o.toList, r.2.2.2)
def okI : Option Int → Prop
  | none => True
  | some i => -999999 ≤ i ∧ i ≤ 999999
def OMk (C : Addr) (H : Hp) (u : V) : Option (Str × Bool) → Prop
  | none => u = .non
  | some o => MkAt C H u o ∧ markB o.1 = true
theorem OMk.ex {C : Addr} {H H' : Hp} {u : V} {m : Option (Str × Bool)} (h : OMk C H u m) (e : Ex H H') : OMk C H' u m := by
  cases m with
  | none => exact h
  | some o => exact ⟨h.1.ex e, h.2⟩
theorem ok_bare {r : RqT} (h : okR r) : okR (bareR r) := ⟨h.1, h.2.1, areB_out own h.2.2.1, h.2.2.2⟩
theorem ok_chk {r : RqT} {n x : Str} (h : okR r) (hl : (outF r.2.2.1 own).length ≤ 39) (hn : nameB n = true) (hx : valueB x = true) : okRq r.1 r.2.1 (outF r.2.2.1 own ++ [(n, x)]) r.2.2.2 := ⟨h.1, h.2.1, areB_app (areB_out own h.2.2.1) hl hn hx, h.2.2.2⟩
def spWO (R : Addr) : Sp := fun vs H Q _ => ∃ v r, vs = [v] ∧ RqAt R H v r ∧ okR r ∧ ∀ v' l H', H l = none → Ex H H' → RqOf R l H' v' (bareR r) → Q v' H'
def spCk (C R : Addr) : Sp := fun vs H Q _ => ∃ v u1 u2 r m n, vs = [v, u1, u2] ∧ RqAt R H v r ∧ okR r ∧ (outF r.2.2.1 own).length ≤ 39 ∧ OMk C H u1 m ∧ u2 = optI n ∧ okI n ∧ ∀ v' l H', H l = none → Ex H H' → RqOf R l H' v' (chkR r (ckO m n)) → Q v' H'
structure Rw (P : Program) (w : World) (K : PySem.W.Frag) (mg : Str → Option Value) (base : Heap) (R : Addr) : Prop where
  ex : ∃ fo fw dw, Meth K R "without" fo ∧ FnR P w K mg base CX0 10 fo (spWoR R) ∧ Meth K R "with_field" fw ∧ FnOk P w K mg base CX0 9 fw dw ["self", "name", "value"] (spWf R) ∧ Binds K dw ["self", "name", "value"] []
theorem kbn1 {K : PySem.W.Frag} {x : Str} {st : Stmt} {f : Addr} {fd : FuncData} {ps ks : List Str} (F : FnP K x st f fd) (h : ∀ (kV doc pm : Value) (an : Option Addr) (cdv ct : Value) (us ws : List Value), us.length = 1 → ws.length = ks.length → bindArgs (PySem.W.fnOf x x (L2.defArgs st) (L2.defBody st) (L2.defScope st) .none kV doc pm an cdv ct) ⟨us, ks.zip ws⟩ = pure (ps.zip (us ++ ws))) :
    KBn K fd ps 1 ks (fun us ws => us ++ ws) (fun vs zs => vs ++ zs) := by
  obtain ⟨_, _, dflt, kwd, doc, mod, ann, code, tp, _, isFd, _, _, none_given, _⟩ := F.ex
  have no : dflt = .none := none_given.elim (fun q => q.2) fun q => absurd rfl q.1
  rw [isFd, no]
  exact ⟨fun st0 us ws _ nu nw => .of_eq (h kwd doc mod ann code tp us ws nu nw), fun r1 r2 => r1.append r2⟩
section
variable {P : Program} {w : World} {K : PySem.W.Frag} {mg : Str → Option Value} {base : Heap} {f B R C L DV DM DH : Addr} {fd : FuncData} {k : Nat}
theorem ok_without_own (WR : Wr K mg B R) (RW : Rw P w K mg base R) (F : FnP K "without_own" s_without_own f fd) (gm : mg "without_own" = some (.ref f)) : Call P w K mg base 11 "without_own" ["request"] (spWO R) := by
  obtain ⟨fo, fw, dw, mo, Fo, mw, Fw, bw⟩ := RW.ex
  refine mk F gm (fun _ _ _ _ _ _ us hl => match us, hl with | [_], _ => rfl) (fun _ _ _ _ _ _ us hl => match us, hl with | [_], _ => rfl) sc_without_own (fun vs H Q E h => ?_) (fun cdv A outer s H vs Q E hr h => ?_)
  · obtain ⟨v, r, rfl, _⟩ := h
    rfl
  · obtain ⟨v, r, rfl, ⟨l, a, dx, rfl, ha, hf⟩, hok, k⟩ := h
    refine ⟨_, (pss_one (ps_ret (pe_methR (pv 0) WR.cls mo Fo (hr.mono (by decide)) pass0 (pa_cons pe_str (pa_cons pe_str (pa_cons pe_str (pa_cons pe_str pa_nil))))))), ?_⟩
    refine g_ret ⟨.ref a, rfl, a, dx, _, rfl, ha, rfl, ?_⟩
    refine ⟨.ref a, own.map V.str, rfl, by decide, fun p np => ?_⟩
    have en := Ex.new (o := .tup (own.map V.str)) np
    exact ⟨.ref a, p, own, r, rfl, upd_same, RqAt.ex (H := H) (r := r) ⟨l, a, dx, rfl, ha, hf⟩ en, ok_bare hok, (areB_val hok.2.2.1).1, fun v' l' H' nl e h => k v' l' H' (fresh_back en nl) (en.trans e) h⟩
theorem ok_checkF (T : Mg mg) (WR : Wr K mg B R) (RW : Rw P w K mg base R) (MM : Mm P w K mg base C) (c_without_own : Call P w K mg base 11 "without_own" ["request"] (spWO R)) (F : FnP K "checking" s_checking f fd) : FnOk P w K mg base CX0 12 f fd ["request", "mark", "changed"] (spCk C R) := by
  obtain ⟨fo, fw, dw, mo, Fo, mw, Fw, bw⟩ := RW.ex
  obtain ⟨fs, dss, fwk, dwk, fe, ft, ms, Fs, hbs, mwk, Fwk, hbw, he1, he2, Fe, ht1, ht2, Ft⟩ := MM.ex
  refine mkF F sc_checking (fun vs H Q E h => ?_) (fun cdv A outer s H vs Q E hr h => ?_)
  · obtain ⟨v, u1, u2, r, m, n, rfl, _⟩ := h
    rfl
  · obtain ⟨v, u1, u2, r, m, n, rfl, hq, hok, hl, hm, rfl, hn, k⟩ := h
    refine ⟨_, (pss_cons (ps_set (i := 3) sc_checking.nd rfl (Or.inl rfl) (pe_f c_without_own hr (by decide) rfl (pa_cons (pv 0) pa_nil)))
    (pss_cons (ps_if (pt_cmpR op_notN1 (pv 1) pe_non (nomark _))
      (pss_one (ps_ret (pe_meth (pv 3) WR.cls mw Fw (hr.mono (by decide)) bw .nil pass0 (pa_cons pe_str (pa_cons (pe_callTy (ZX.call_strOwn (E := E0) ht1 ht2 Ft (hr.mono (by decide)) (fun _ _ _ _ h => h.elim)) (by rfl) T.str (by decide +kernel) (pa_cons (pv 1) pa_nil)) pa_nil)))))
      pss_nil)
    (pss_cons (ps_if (pt_cmpR op_notN1 (pv 2) pe_non (nomark _))
      (pss_one (ps_ret (pe_meth (pv 3) WR.cls mw Fw (hr.mono (by decide)) bw .nil pass0 (pa_cons pe_str (pa_cons (pe_callTy cz_str (by rfl) T.str (by decide +kernel) (pa_cons (pv 2) pa_nil)) pa_nil)))))
      pss_nil)
    (pss_one (ps_ret (pv 3)))))), ?_⟩
    refine rd_call (ea_cons (ev_var rfl) ea_nil) fun H1 e1 => ⟨v, r, rfl, hq.ex e1, hok, fun v' l H2 nl e2 hb => ?_⟩
    refine g_name ?_; dsimp only
    have e12 := e1.trans e2
    have hbok := ok_bare hok
    have inm : ("if-no-mark" : Str) ∈ own := List.mem_cons_self
    have inc : ("if-changed" : Str) ∈ own := List.mem_cons_of_mem _ List.mem_cons_self
    have step : ∀ {nm x : Str} {H3 : Hp}, nm ∈ own → nameB nm = true → valueB x = true → Ex H2 H3 → (∀ v2 l2 H4, H3 l2 = none → Ex H3 H4 → RqOf R l2 H4 v2 (r.1, r.2.1, outF r.2.2.1 own ++ [(nm, x)], r.2.2.2) → Q v2 H4) → spWf R [v', .str nm, .str x] H3 Q E0 := fun {nm x H3} h1 h2 h3 e3 kk =>
      ⟨v', nm, x, bareR r, rfl, RqAt.ex (H := H2) ⟨l, hb⟩ e3, by
        show okRq r.1 r.2.1 (withF (outF r.2.2.1 own) nm x) r.2.2.2
        rw [with_out _ _ _ h1]
        exact ok_chk hok hl h2 h3, (areB_val hbok.2.2.1).1, fun v2 l2 H4 n2 e4 hr2 => kk v2 l2 H4 n2 e4 (by
        have hr2 : RqOf R l2 H4 v2 (r.1, r.2.1, withF (outF r.2.2.1 own) nm x, r.2.2.2) := hr2
        rw [with_out _ _ _ h1] at hr2
        exact hr2)⟩
    obtain ⟨a, dx, rfl, ha, hf⟩ := id hb
    cases m with
    | some o =>
      obtain ⟨hmk, hmb⟩ := hm
      obtain ⟨am, dm, rfl, ham⟩ := id hmk
      refine q_when (b := true) (et_is (et_test (ev_op (ev_var rfl) ev_c rv_notN)) rfl) (fun _ H3 e3 => ?_) (fun h => nomatch h)
      refine g_ret ⟨.ref a, rfl, a, dx, _, rfl, e3 _ _ ha, rfl, ?_⟩
      refine rd_consE ev_c fun H4 e4 => rd_consE (ev_strO (o := o) (ev_var rfl) (hmk.ex ((e12.trans e3).trans e4)) (by have := (markB_iff.mp hmb).1; omega)) fun H5 e5 => rd_nil ?_
      have e35 := (e3.trans e4).trans e5
      exact step inm (by decide +kernel) (wrZ_value hmb) e35 fun v2 l2 H6 n2 e6 hr2 => k v2 l2 H6 (fresh_back (e12.trans e35) n2) ((e12.trans e35).trans e6) hr2
    | none =>
      have hm : u1 = .non := hm
      subst hm
      refine q_when (b := false) (et_is (et_test (ev_op (ev_var rfl) ev_c rv_notN)) rfl) (fun h => nomatch h) (fun _ H3 e3 => ?_)
      cases n with
      | some i =>
        refine q_when (b := true) (et_is (et_test (ev_op (ev_var rfl) ev_c rv_notN)) rfl) (fun _ H4 e4 => ?_) (fun h => nomatch h)
        refine g_ret ⟨.ref a, rfl, a, dx, _, rfl, (e3.trans e4) _ _ ha, rfl, ?_⟩
        refine rd_consE ev_c fun H5 e5 => rd_consE (ev_strI (ev_var rfl) (Nat.lt_of_lt_of_le (show i.natAbs < 2 ^ 20 by have := hn.1; have := hn.2; omega) (Nat.pow_le_pow_right (by decide) (by decide)))) fun H6 e6 => rd_nil ?_
        have e36 := ((e3.trans e4).trans e5).trans e6
        exact step inc (by decide +kernel) (num_value i hn.1 hn.2) e36 fun v2 l2 H7 n2 e7 hr2 => k v2 l2 H7 (fresh_back (e12.trans e36) n2) ((e12.trans e36).trans e7) hr2
      | none =>
        refine q_when (b := false) (et_is (et_test (ev_op (ev_var rfl) ev_c rv_notN)) rfl) (fun h => nomatch h) (fun _ H4 e4 => ?_)
        refine s_ret (ev_var rfl) fun H5 e5 => ?_
        have e25 := (e3.trans e4).trans e5
        have hb5 := hb.ex e25
        refine k _ l H5 (fresh_back e1 nl) (e12.trans e25) ?_
        have : chkR r (ckO none none) = bareR r := by
          unfold chkR bareR ckO
          rw [Option.toList_none, List.append_nil]
        rw [this]
        exact hb5
theorem ok_checking (F : FnP K "checking" s_checking f fd) (gm : mg "checking" = some (.ref f)) (h : FnOk P w K mg base CX0 12 f fd ["request", "mark", "changed"] (spCk C R)) : Call P w K mg base 12 "checking" ["request", "mark", "changed"] (spCk C R) :=
  ⟨f, fd, h, gm, F.kp, F.bindsN (fun _ _ _ _ _ _ us hl => match us, hl with | [_, _, _], _ => rfl), kbn F (fun _ _ _ _ _ _ us hl => match us, hl with | [_, _, _], _ => rfl)⟩
end
end Z
set_option maxHeartbeats 4000000
namespace Z
open PySem PySem.Spec PyProof.Rows L2 TL Evl NdefX
/-! ### the law's world -/
structure Wo where
  mode : Str
  behind : Int
  span : Int
  gap : Int
  clock : Int
  offset : Int
  version : Int
  epoch : Int
  there : Bool
  reading : Int
  head : Str
  tail : Str
def woK (W : Wo) : List (Key × V) := [(.inr "mode", .str W.mode), (.inr "behind", .int W.behind), (.inr "span", .int W.span), (.inr "gap", .int W.gap), (.inr "clock", .int W.clock), (.inr "offset", .int W.offset), (.inr "version", .int W.version), (.inr "epoch", .int W.epoch), (.inr "there", .bl W.there), (.inr "reading", .int W.reading), (.inr "head", .str W.head), (.inr "tail", .str W.tail)]
def WoAt (H : Hp) (a : Addr) (W : Wo) : Prop := H a = some (.dK (woK W))
theorem WoAt.ex {H H' : Hp} {a : Addr} {W : Wo} (h : WoAt H a W) (e : Ex H H') : WoAt H' a W := e _ _ h
theorem WoAt.keep {H H' : Hp} {a p : Addr} {W : Wo} (h : WoAt H a W) (k : Keep p H H') (n : a ≠ p) : WoAt H' a W := k _ _ n h
section
variable {σ : L2.St} {H : Hp} {a : Addr} {W W' : Wo} {te : TE} {v : V} {key : Str} {D : Ends} {i : Nat} {tz : TS}
theorem ev_wo (h : Ev te σ H (.ref a)) (ha : WoAt H a W) (hv : valV (woK W) (.inr key) = some v) : Ev (tDGet te (tC (.str key))) σ H v := fun H1 e Q q => h H1 e _ fun H2 e2 => ⟨a, v, rfl, by rw [← hv]; exact DGet.k (k := .inr key) ((e.trans e2) _ _ ha), q H2 e2⟩
theorem s_dp (hi : σ[i]? = some (some (.ref a))) (hv : Ev te σ H v) (ha : WoAt H a W) (hW : putK (woK W) (.inr key) v = woK W') (k : ∀ H1, Ex H H1 → D.nx σ (upd H1 a (.dK (woK W')))) : sDPut (tVar i) (tC (.str key)) te D σ H :=
  hv H (Ex.refl H) _ fun H1 e1 => ⟨_, hi, a, _, rfl, DPut.k (k := .inr key) (e1 _ _ ha) (sz_lt (by show 12 < 100000; decide)), by rw [hW]; exact k H1 e1⟩
theorem q_dp (hi : σ[i]? = some (some (.ref a))) (hv : Ev te σ H v) (ha : WoAt H a W) (hW : putK (woK W) (.inr key) v = woK W') (k : ∀ H1, Ex H H1 → tz D σ (upd H1 a (.dK (woK W')))) : tSeq (sDPut (tVar i) (tC (.str key)) te) tz D σ H := s_dp (D := { D with nx := tz D }) hi hv ha hW k
theorem dp_end (hi : σ[i]? = some (some (.ref a))) (ha : WoAt H a W) (hW : putK (woK W) (.inr key) v = woK W') (k : D.nx σ (upd H a (.dK (woK W')))) : (tVar i) σ H fun x H2 => (tC (.str key)) σ H2 fun y H3 => ∃ a H4, x = .ref a ∧ DPut H3 a y v H4 ∧ D.nx σ H4 :=
  ⟨_, hi, a, _, rfl, DPut.k (k := .inr key) ha (sz_lt (by show 12 < 100000; decide)), by rw [hW]; exact k⟩
theorem rd_opR {ta tb : TE} {r : R2} {Q : VK} (h : ta σ H fun x H1 => tb σ H1 fun y H2 => r x y H2 Q) : tOp r ta tb σ H Q := h
end
def shownW (W : Wo) : Int := W.clock + W.offset
def stlW (W : Wo) : Bool := decide (shownW W - W.reading ≥ W.gap)
def growW (e : Int) (W : Wo) : Wo := { W with version := W.version + 1, epoch := W.epoch + e, reading := shownW W, there := true }
def mdsL : List Str := ["strong", "weak", "none"]
structure OkW (i : Nat) (W : Wo) : Prop where
  mode : W.mode ∈ mdsL
  b0 : 0 ≤ W.behind
  b1 : W.behind ≤ 1000
  s0 : W.behind ≤ W.span
  s1 : W.span ≤ 2000
  g0 : 0 ≤ W.gap
  g1 : W.gap ≤ W.span + 3
  c0 : 0 ≤ W.clock
  c1 : W.clock ≤ 30010 * (i : Int)
  o0 : -W.behind ≤ W.offset
  o1 : W.offset ≤ W.span - W.behind
  v0 : 1 ≤ W.version
  v1 : W.version ≤ (i : Int) + 1
  e0 : 1 ≤ W.epoch
  e1 : W.epoch ≤ (i : Int) + 1
  r0 : -W.behind ≤ W.reading
  r1 : W.reading ≤ W.clock + (W.span - W.behind)
  h0 : 1 ≤ W.head.length
  h1 : W.head.length ≤ 12
  h2 : allIn W.head mkS = true
  t0 : 1 ≤ W.tail.length
  t1 : W.tail.length ≤ 12
  t2 : allIn W.tail mkS = true
/-- one step of the world -/
structure StepR (W W' : Wo) : Prop where
  mode : W'.mode = W.mode
  behind : W'.behind = W.behind
  span : W'.span = W.span
  gap : W'.gap = W.gap
  head : W'.head = W.head
  tail : W'.tail = W.tail
  clk : W.clock ≤ W'.clock
  ver : W.version ≤ W'.version
  same : W'.version = W.version → W'.reading = W.reading
  more : W'.version ≠ W.version → W'.reading ≥ W'.clock - W'.behind
def optB (c d : Option Int) (m : Int) : Bool := match c, d with
  | some c, some d => decide (d - c ≥ m)
  | _, _ => false
def spSettled : Sp := fun vs H Q _ => ∃ c d m, vs = [optI c, optI d, .int m] ∧ RetV (.bl (optB c d m)) H Q
def spWoV (f : Wo → V) : Sp := fun vs H Q _ => ∃ a W, vs = [.ref a] ∧ WoAt H a W ∧ RetV (f W) H Q
def spGrow : Sp := fun vs H Q _ => ∃ (a : Addr) (e : Int) (W : Wo), vs = [.ref a, .int e] ∧ WoAt H a W ∧ ∀ H', Keep a H H' → WoAt H' a (growW e W) → Q .non H'
theorem OkW.tick {i : Nat} {W : Wo} (h : OkW i W) {t : Int} (t0 : 0 ≤ t) (t1 : t ≤ 30010) : OkW (i + 1) { W with clock := W.clock + t } ∧ StepR W { W with clock := W.clock + t } :=
  ⟨⟨h.mode, h.b0, h.b1, h.s0, h.s1, h.g0, h.g1, by have := h.c0; show 0 ≤ W.clock + t; omega, by have := h.c1; show W.clock + t ≤ 30010 * ((i + 1 : Nat) : Int); omega, h.o0, h.o1, h.v0, by have := h.v1; show W.version ≤ ((i + 1 : Nat) : Int) + 1; omega, h.e0, by have := h.e1; show W.epoch ≤ ((i + 1 : Nat) : Int) + 1; omega, h.r0, by have := h.r1; show W.reading ≤ W.clock + t + (W.span - W.behind); omega, h.h0, h.h1, h.h2, h.t0, h.t1, h.t2⟩,
    ⟨rfl, rfl, rfl, rfl, rfl, rfl, by show W.clock ≤ W.clock + t; omega, Int.le_refl _, fun _ => rfl, fun h => absurd rfl h⟩⟩
theorem OkW.turn {i : Nat} {W : Wo} (h : OkW i W) {o : Int} (o0 : -W.behind ≤ o) (o1 : o ≤ W.span - W.behind) : OkW (i + 1) { W with offset := o } ∧ StepR W { W with offset := o } :=
  ⟨⟨h.mode, h.b0, h.b1, h.s0, h.s1, h.g0, h.g1, h.c0, by have := h.c1; show W.clock ≤ 30010 * ((i + 1 : Nat) : Int); omega, o0, o1, h.v0, by have := h.v1; show W.version ≤ ((i + 1 : Nat) : Int) + 1; omega, h.e0, by have := h.e1; show W.epoch ≤ ((i + 1 : Nat) : Int) + 1; omega, h.r0, h.r1, h.h0, h.h1, h.h2, h.t0, h.t1, h.t2⟩,
    ⟨rfl, rfl, rfl, rfl, rfl, rfl, Int.le_refl _, Int.le_refl _, fun _ => rfl, fun h => absurd rfl h⟩⟩
theorem OkW.grow {i : Nat} {W : Wo} (h : OkW i W) {e : Int} (e0 : 0 ≤ e) (e1 : e ≤ 1) : OkW (i + 1) (growW e W) ∧ StepR W (growW e W) := by
  have a1 := h.o0
  have a2 := h.o1
  have a3 := h.c0
  refine ⟨⟨h.mode, h.b0, h.b1, h.s0, h.s1, h.g0, h.g1, h.c0, by have := h.c1; show W.clock ≤ 30010 * ((i + 1 : Nat) : Int); omega, h.o0, h.o1, by have := h.v0; show 1 ≤ W.version + 1; omega, by have := h.v1; show W.version + 1 ≤ ((i + 1 : Nat) : Int) + 1; omega, by have := h.e0; show 1 ≤ W.epoch + e; omega, by have := h.e1; show W.epoch + e ≤ ((i + 1 : Nat) : Int) + 1; omega, ?_, ?_, h.h0, h.h1, h.h2, h.t0, h.t1, h.t2⟩, ⟨rfl, rfl, rfl, rfl, rfl, rfl, Int.le_refl _, by show W.version ≤ W.version + 1; omega, fun h => absurd h (by show ¬ W.version + 1 = W.version; omega), fun _ => ?_⟩⟩
  · show -W.behind ≤ W.clock + W.offset
    omega
  · show W.clock + W.offset ≤ W.clock + (W.span - W.behind)
    omega
  · show W.clock + W.offset ≥ W.clock - W.behind
    omega
theorem OkW.gone {i : Nat} {W : Wo} (h : OkW i W) (b : Bool) : OkW (i + 1) { W with there := b } ∧ StepR W { W with there := b } :=
  ⟨⟨h.mode, h.b0, h.b1, h.s0, h.s1, h.g0, h.g1, h.c0, by have := h.c1; show W.clock ≤ 30010 * ((i + 1 : Nat) : Int); omega, h.o0, h.o1, h.v0, by have := h.v1; show W.version ≤ ((i + 1 : Nat) : Int) + 1; omega, h.e0, by have := h.e1; show W.epoch ≤ ((i + 1 : Nat) : Int) + 1; omega, h.r0, h.r1, h.h0, h.h1, h.h2, h.t0, h.t1, h.t2⟩,
    ⟨rfl, rfl, rfl, rfl, rfl, rfl, Int.le_refl _, Int.le_refl _, fun _ => rfl, fun h => absurd rfl h⟩⟩
theorem OkW.stay {i : Nat} {W : Wo} (h : OkW i W) : OkW (i + 1) W ∧ StepR W W := h.gone W.there
theorem DwAt.keepA {H H' : Hp} {p l0 a : Addr} (b : DwAt H p l0) (k : Keep a H H') (n : a ≠ p) (n0 : a ≠ l0) : DwAt H' p l0 := by
  obtain ⟨cs, c1, c2, c3, h1, h2, r⟩ := b
  exact ⟨cs, c1, c2, c3, k _ _ (Ne.symm n) h1, k _ _ (Ne.symm n0) h2, r⟩
def Keep3 (p a : Addr) (H H' : Hp) : Prop := ∀ c o, c ≠ p → c ≠ a → H c = some o → H' c = some o
def cdL : List Str := ["wait", "change", "alike", "clock", "erase"]
def spStep : Sp := fun vs H Q _ => ∃ (p l0 a : Addr) (code : Str) (W : Wo) (i : Nat), vs = [.ref p, .ref a, .str code] ∧ DwAt H p l0 ∧ a ≠ p ∧ a ≠ l0 ∧ WoAt H a W ∧ OkW i W ∧ code ∈ cdL ∧
  ∀ W' H', OkW (i + 1) W' → StepR W W' → WoAt H' a W' → DwAt H' p l0 → Keep3 p a H H' → Q .non H'
theorem rv_eqS1 {K : PySem.W.Frag} {σ : L2.St} {H : Hp} {i : Nat} {c d : Str} (h : σ[i]? = some (some (.str c))) (hn : ¬ c = d) : EvT (tTest (tOp rEq (tVar i) (tC (.str d)))) σ H false := et_is (et_test (ev_op (ev_var h) ev_c rv_eqS)) (decide_eq_false hn)
theorem rv_eqS2 {K : PySem.W.Frag} {σ : L2.St} {H : Hp} {i : Nat} {c d : Str} (h : σ[i]? = some (some (.str c))) (hn : c = d) : EvT (tTest (tOp rEq (tVar i) (tC (.str d)))) σ H true := et_is (et_test (ev_op (ev_var h) ev_c rv_eqS)) (decide_eq_true hn)
section
variable {P : Program} {w : World} {K : PySem.W.Frag} {mg : Str → Option Value} {base : Heap} {f : Addr} {fd : FuncData} {k : Nat}
theorem ok_settled (F : FnP K "settled" s_settled f fd) (gm : mg "settled" = some (.ref f)) : Call P w K mg base 1 "settled" ["changed", "date", "margin"] spSettled := by
  refine mk F gm (fun _ _ _ _ _ _ us hl => match us, hl with | [_, _, _], _ => rfl) (fun _ _ _ _ _ _ us hl => match us, hl with | [_, _, _], _ => rfl) sc_settled (fun vs H Q E h => ?_) (fun cdv A outer s H vs Q E hr h => ?_)
  · obtain ⟨c, d, m, rfl, _⟩ := h
    rfl
  · obtain ⟨c, d, m, rfl, q⟩ := h
    refine ⟨_, (pss_one (ps_ret (pe_and (pe_cmpR op_notN1 (pv 0) pe_non (nomark _)) (pe_and (pe_cmpR op_notN1 (pv 1) pe_non (nomark _)) (pe_one (pe_cmpR op_ge (pe_op op_sub (pv 1) (pv 0)) (pv 2) (nomark _))))))), ?_⟩
    cases c with
    | none => exact s_ret (v := .bl false) (ev_is (ev_andV (a := false) (b := false) (ev_is (ev_op (ev_var rfl) ev_c rv_notN) rfl) (fun h => nomatch h)) rfl) q
    | some c =>
      cases d with
      | none => exact s_ret (v := .bl false) (ev_is (ev_andV (a := true) (b := false) (ev_is (ev_op (ev_var rfl) ev_c rv_notN) rfl) fun _ => ev_is (ev_andV (a := false) (b := false) (ev_is (ev_op (ev_var rfl) ev_c rv_notN) rfl) (fun h => nomatch h)) rfl) rfl) q
      | some d => exact s_ret (v := .bl (decide (d - c ≥ m))) (ev_is (ev_andV (a := true) (ev_is (ev_op (ev_var rfl) ev_c rv_notN) rfl) fun _ => ev_andV (a := true) (ev_is (ev_op (ev_var rfl) ev_c rv_notN) rfl) fun _ => ev_op (ev_op (ev_var rfl) (ev_var rfl) rv_I0) (ev_var rfl) rv_I0) rfl) q
theorem ok_law_shown (F : FnP K "_law_shown" s_law_shown f fd) (gm : mg "_law_shown" = some (.ref f)) : Call P w K mg base 1 "_law_shown" ["world"] (spWoV fun W => .int (shownW W)) := by
  refine mk F gm (fun _ _ _ _ _ _ us hl => match us, hl with | [_], _ => rfl) (fun _ _ _ _ _ _ us hl => match us, hl with | [_], _ => rfl) sc_law_shown (fun vs H Q E h => ?_) (fun cdv A outer s H vs Q E hr h => ?_)
  · obtain ⟨a, W, rfl, _⟩ := h
    rfl
  · obtain ⟨a, W, rfl, ha, q⟩ := h
    refine ⟨_, (pss_one (ps_ret (pe_op op_add (pe_dget hr.units1 (pv 0) pe_str (fun _ _ => rfl)) (pe_dget hr.units1 (pv 0) pe_str (fun _ _ => rfl))))), ?_⟩
    exact s_ret (v := .int (shownW W)) (ev_op (ev_wo (ev_var rfl) ha rfl) (ev_wo (ev_var rfl) ha rfl) rv_I0) q
theorem ok_law_is_settled (c_law_shown : Call P w K mg base 1 "_law_shown" ["world"] (spWoV fun W => .int (shownW W))) (F : FnP K "_law_is_settled" s_law_is_settled f fd) (gm : mg "_law_is_settled" = some (.ref f)) : Call P w K mg base 2 "_law_is_settled" ["world"] (spWoV fun W => .bl (stlW W)) := by
  refine mk F gm (fun _ _ _ _ _ _ us hl => match us, hl with | [_], _ => rfl) (fun _ _ _ _ _ _ us hl => match us, hl with | [_], _ => rfl) sc_law_is_settled (fun vs H Q E h => ?_) (fun cdv A outer s H vs Q E hr h => ?_)
  · obtain ⟨a, W, rfl, _⟩ := h
    rfl
  · obtain ⟨a, W, rfl, ha, q⟩ := h
    refine ⟨_, (pss_one (ps_ret (pe_cmpR op_ge (pe_op op_sub (pe_f c_law_shown hr (by decide) rfl (pa_cons (pv 0) pa_nil)) (pe_dget hr.units1 (pv 0) pe_str (fun _ _ => rfl))) (pe_dget hr.units1 (pv 0) pe_str (fun _ _ => rfl)) (nomark _)))), ?_⟩
    exact s_ret (v := .bl (stlW W)) (ev_op (ev_op (ev_call (z := .int (shownW W)) (ea_cons (ev_var rfl) ea_nil) fun H1 e1 Q' q' E' => ⟨a, W, rfl, ha.ex e1, q'⟩) (ev_wo (ev_var rfl) ha rfl) rv_I0) (ev_wo (ev_var rfl) ha rfl) rv_I0) q
theorem ok_law_grow (c_law_shown : Call P w K mg base 1 "_law_shown" ["world"] (spWoV fun W => .int (shownW W))) (F : FnP K "_law_grow" s_law_grow f fd) (gm : mg "_law_grow" = some (.ref f)) : Call P w K mg base 2 "_law_grow" ["world", "epoch"] spGrow := by
  refine mk F gm (fun _ _ _ _ _ _ us hl => match us, hl with | [_, _], _ => rfl) (fun _ _ _ _ _ _ us hl => match us, hl with | [_, _], _ => rfl) sc_law_grow (fun vs H Q E h => ?_) (fun cdv A outer s H vs Q E hr h => ?_)
  · obtain ⟨a, e, W, rfl, _⟩ := h
    rfl
  · obtain ⟨a, e, W, rfl, ha, q⟩ := h
    refine ⟨_, (pss_cons (ps_dput hr.units1 (pv 0) pe_str (pe_op op_add (pe_dget hr.units1 (pv 0) pe_str (fun _ _ => rfl)) pe_int) rfl)
    (pss_cons (ps_dput hr.units1 (pv 0) pe_str (pe_op op_add (pe_dget hr.units1 (pv 0) pe_str (fun _ _ => rfl)) (pv 1)) rfl)
    (pss_cons (ps_dput hr.units1 (pv 0) pe_str (pe_f c_law_shown hr (by decide) rfl (pa_cons (pv 0) pa_nil)) rfl)
    (pss_one (ps_dput hr.units1 (pv 0) pe_str pe_bl rfl))))), ?_⟩
    refine q_dp (W' := { W with version := W.version + 1 }) rfl (ev_op (ev_wo (ev_var rfl) ha rfl) ev_c rv_I0) ha rfl fun H1 e1 => ?_
    have a1 : WoAt (upd H1 a (.dK (woK { W with version := W.version + 1 }))) a { W with version := W.version + 1 } := upd_same
    have k1 : Keep a H (upd H1 a (.dK (woK { W with version := W.version + 1 }))) := (Keep.of e1).upd
    generalize upd H1 a (.dK (woK { W with version := W.version + 1 })) = H2 at a1 k1
    refine q_dp (W' := { W with version := W.version + 1, epoch := W.epoch + e }) rfl (ev_op (ev_wo (ev_var rfl) a1 rfl) (ev_var rfl) rv_I0) a1 rfl fun H3 e3 => ?_
    have a3 : WoAt (upd H3 a (.dK (woK { W with version := W.version + 1, epoch := W.epoch + e }))) a { W with version := W.version + 1, epoch := W.epoch + e } := upd_same
    have k3 : Keep a H (upd H3 a (.dK (woK { W with version := W.version + 1, epoch := W.epoch + e }))) := (k1.trans (Keep.of e3)).upd
    generalize upd H3 a (.dK (woK { W with version := W.version + 1, epoch := W.epoch + e })) = H4 at a3 k3
    refine q_dp (W' := { W with version := W.version + 1, epoch := W.epoch + e, reading := shownW W }) rfl (ev_call (z := .int (shownW W)) (ea_cons (ev_var rfl) ea_nil) fun H1 e1 Q' q' E' => ⟨a, _, rfl, a3.ex e1, q'⟩) a3 rfl fun H5 e5 => ?_
    have a5 : WoAt (upd H5 a (.dK (woK { W with version := W.version + 1, epoch := W.epoch + e, reading := shownW W }))) a { W with version := W.version + 1, epoch := W.epoch + e, reading := shownW W } := upd_same
    have k5 : Keep a H (upd H5 a (.dK (woK { W with version := W.version + 1, epoch := W.epoch + e, reading := shownW W }))) := (k3.trans (Keep.of e5)).upd
    generalize upd H5 a (.dK (woK { W with version := W.version + 1, epoch := W.epoch + e, reading := shownW W })) = H6 at a5 k5
    exact s_dp (W' := growW e W) rfl ev_c a5 rfl fun H7 e7 => q _ ((k5.trans (Keep.of e7)).upd) upd_same
theorem ok_law_step (T : Mg mg) (c_law_take : CTake P w K mg base) (c_law_grow : Call P w K mg base 2 "_law_grow" ["world", "epoch"] spGrow) (F : FnP K "_law_step" s_law_step f fd) (gm : mg "_law_step" = some (.ref f)) : Call P w K mg base 3 "_law_step" ["bag", "world", "code"] spStep := by
  refine mk F gm (fun _ _ _ _ _ _ us hl => match us, hl with | [_, _, _], _ => rfl) (fun _ _ _ _ _ _ us hl => match us, hl with | [_, _, _], _ => rfl) sc_law_step (fun vs H Q E h => ?_) (fun cdv A outer s H vs Q E hr h => ?_)
  · obtain ⟨p, l0, a, code, W, i, rfl, _⟩ := h
    rfl
  · obtain ⟨p, l0, a, code, W, i, rfl, b, nap, na0, ha, hW, hc, q⟩ := h
    refine ⟨_, (pss_cons (ps_set (i := 3) sc_law_step.nd rfl (Or.inl rfl) (pe_f c_law_take hr (by decide) rfl (pa_cons (pv 0) (pa_cons pe_int pa_nil))))
    (pss_cons (ps_set (i := 4) sc_law_step.nd rfl (Or.inl rfl) (pe_dget hr.units1 (pv 1) pe_str (fun _ _ => rfl)))
    (pss_cons (ps_set (i := 5) sc_law_step.nd rfl (Or.inl rfl) (pe_dget hr.units1 (pv 1) pe_str (fun _ _ => rfl)))
    (pss_cons (ps_if (pt_cmpR op_eq (pv 2) pe_str (nomark _))
      (pss_cons (ps_set (i := 6) sc_law_step.nd rfl (Or.inl rfl) (pe_ix ix_list (pe_lst (pa_cons (pe_op op_add (pv 5) (pv 4)) (pa_cons pe_int (pa_cons (pv 5) (pa_cons (pv 4) (pa_cons pe_int (pa_cons (pe_op op_add pe_int (pv 3)) pa_nil))))))) (pe_f c_law_take hr (by decide) rfl (pa_cons (pv 0) (pa_cons pe_int pa_nil))) (fun _ _ => rfl)))
      (pss_one (ps_dput hr.units1 (pv 1) pe_str (pe_op op_add (pe_dget hr.units1 (pv 1) pe_str (fun _ _ => rfl)) (pv 6)) rfl)))
      pss_nil)
    (pss_cons (ps_if (pt_cmpR op_eq (pv 2) pe_str (nomark _))
      (pss_one (ps_dput hr.units1 (pv 1) pe_str (pe_op op_sub (pe_f c_law_take hr (by decide) rfl (pa_cons (pv 0) (pa_cons (pe_op op_add (pv 4) pe_int) pa_nil))) (pe_dget hr.units1 (pv 1) pe_str (fun _ _ => rfl))) rfl))
      pss_nil)
    (pss_cons (ps_if (pt_cmpR op_eq (pv 2) pe_str (nomark _))
      (pss_one (ps_expr (pe_f c_law_grow hr (by decide) rfl (pa_cons (pv 1) (pa_cons pe_int pa_nil)))))
      pss_nil)
    (pss_cons (ps_if (PW.pt (pw_and (pt_cmpR op_eq (pv 2) pe_str (nomark _)) (pw_and1 (pt_val (pe_dget hr.units1 (pv 1) pe_str (fun _ _ => rfl))))))
      (pss_one (ps_expr (pe_f c_law_grow hr (by decide) rfl (pa_cons (pv 1) (pa_cons pe_int pa_nil)))))
      pss_nil)
    (pss_one (ps_if (pt_cmpR op_eq (pv 2) pe_str (nomark _))
      (pss_one (ps_dput hr.units1 (pv 1) pe_str pe_bl rfl))
      pss_nil))))))))), ?_⟩
    refine q_take (ea_cons (ev_var rfl) (ea_cons ev_c ea_nil)) b (by decide) (by decide) fun fr H1 f0 f1 b1 k1 => ?_
    try dsimp only
    have a1 := ha.keep k1 nap
    refine q_asg (ev_wo (ev_var rfl) a1 rfl) fun H2 e2 => ?_
    try dsimp only
    refine q_asg (ev_wo (ev_var rfl) (a1.ex e2) rfl) fun H3 e3 => ?_
    try dsimp only
    have b3 := b1.ex (e2.trans e3)
    have a3 := a1.ex (e2.trans e3)
    have k3 := k1.trans (Keep.of (e2.trans e3))
    clear b b1 a1 k1 e2 e3 ha
    have fin : ∀ {W' : Wo} {H' : Hp}, OkW (i + 1) W' ∧ StepR W W' → WoAt H' a W' → DwAt H' p l0 → Keep3 p a H H' → Q .non H' := fun h => q _ _ h.1 h.2
    have d1 : ("wait" : Str) ≠ "clock" ∧ ("wait" : Str) ≠ "change" ∧ ("wait" : Str) ≠ "alike" ∧ ("wait" : Str) ≠ "erase" := by decide +kernel
    have d2 : ("clock" : Str) ≠ "wait" ∧ ("clock" : Str) ≠ "change" ∧ ("clock" : Str) ≠ "alike" ∧ ("clock" : Str) ≠ "erase" := by decide +kernel
    have d3 : ("change" : Str) ≠ "wait" ∧ ("change" : Str) ≠ "clock" ∧ ("change" : Str) ≠ "alike" ∧ ("change" : Str) ≠ "erase" := by decide +kernel
    have d4 : ("alike" : Str) ≠ "wait" ∧ ("alike" : Str) ≠ "clock" ∧ ("alike" : Str) ≠ "change" ∧ ("alike" : Str) ≠ "erase" := by decide +kernel
    have d5 : ("erase" : Str) ≠ "wait" ∧ ("erase" : Str) ≠ "clock" ∧ ("erase" : Str) ≠ "change" ∧ ("erase" : Str) ≠ "alike" := by decide +kernel
    have kk : ∀ {H' : Hp}, Ex H3 H' → Keep3 p a H H' := fun e c o n1 _ hc => e _ _ (k3 _ _ n1 hc)
    simp only [cdL, List.mem_cons, List.not_mem_nil, or_false] at hc
    have nof : ∀ {σ : L2.St} {H : Hp} {i : Nat} {c d : Str} {tt : TT}, σ[i]? = some (some (.str c)) → ¬ c = d → EvT (tAnd (tTest (tOp rEq (tVar i) (tC (.str d)))) tt) σ H false := fun h hn => et_is (et_and (a := false) (b := false) (rv_eqS1 (K := K) h hn) (fun h => nomatch h)) rfl
    rcases hc with rfl | rfl | rfl | rfl | rfl
    · refine q_tailIf (fun σ1 Hx => ∃ v6, σ1 = [some (.ref p), some (.ref a), some (.str "wait"), some (.int fr), some (.int W.span), some (.int W.gap), v6] ∧ ∃ t, 0 ≤ t ∧ t ≤ 30010 ∧ WoAt Hx a { W with clock := W.clock + t } ∧ DwAt Hx p l0 ∧ Keep3 p a H Hx) (fun σ1 H4 hR => ?_) (fun tail => ?_)
      · obtain ⟨v6, rfl, t, t0, t1, a4, b4, k4⟩ := hR
        refine q_when (b := false) (rv_eqS1 (K := K) rfl d1.1) (fun h => nomatch h) (fun _ H5 e5 => ?_)
        refine q_when (b := false) (rv_eqS1 (K := K) rfl d1.2.1) (fun h => nomatch h) (fun _ H6 e6 => ?_)
        refine q_when (b := false) (nof rfl d1.2.2.1) (fun h => nomatch h) (fun _ H7 e7 => ?_)
        refine s_when (b := false) (rv_eqS1 (K := K) rfl d1.2.2.2) (fun h => nomatch h) (fun _ H8 e8 => ?_)
        have e := ((e5.trans e6).trans e7).trans e8
        exact fin (hW.tick t0 t1) (a4.ex e) (b4.ex e) fun c o n1 n2 hc => e _ _ (k4 c o n1 n2 hc)
      · refine q_if (rv_eqS2 (K := K) rfl rfl) (fun _ H4 e4 => ?_) (fun h => nomatch h)
        refine q_in ?_; dsimp only
        refine g_asg (rd_pickI (ns := [W.gap + W.span, 1, W.gap, W.span, 2, 1 + fr]) (ea_cons (ev_op (ev_var rfl) (ev_var rfl) rv_I0) (ea_cons ev_c (ea_cons (ev_var rfl) (ea_cons (ev_var rfl) (ea_cons ev_c (ea_cons (ev_op ev_c (ev_var rfl) rv_I0) ea_nil)))))) (by show 6 ≤ 1000; decide) (fun _ _ => ea_cons (ev_var rfl) (ea_cons ev_c ea_nil)) (b3.ex e4) (by show 1 ≤ 6; decide) fun t H5 ht b5 k5 => ?_)
        refine g_name ?_; dsimp only
        have tb : 0 ≤ t ∧ t ≤ 30010 := by
          have x1 := hW.g0
          have x2 := hW.g1
          have x3 := hW.s1
          have x4 := hW.s0
          have x5 := hW.b0
          simp only [List.mem_cons, List.not_mem_nil, or_false] at ht
          rcases ht with rfl | rfl | rfl | rfl | rfl | rfl <;> omega
        have a5 := (a3.ex e4).keep k5 nap
        refine s_dp (W' := { W with clock := W.clock + t }) rfl (ev_op (ev_wo (ev_var rfl) a5 rfl) (ev_var rfl) rv_I0) a5 rfl fun H6 e6 => tail _ _ ⟨_, rfl, t, tb.1, tb.2, upd_same, (b5.ex e6).upd ⟨nap, na0⟩, fun c o n1 n2 hc => ?_⟩
        rw [upd_ne n2]
        exact e6 _ _ (k5 _ _ n1 (e4 _ _ (k3 _ _ n1 hc)))
    · refine q_when (b := false) (rv_eqS1 (K := K) rfl d3.1) (fun h => nomatch h) (fun _ H4 e4 => ?_)
      refine q_when (b := false) (rv_eqS1 (K := K) rfl d3.2.1) (fun h => nomatch h) (fun _ H5 e5 => ?_)
      have e45 := e4.trans e5
      refine q_if (rv_eqS2 (K := K) rfl rfl) (fun _ H6 e6 => ?_) (fun h => nomatch h)
      refine g_drop (rd_call (ea_cons (ev_var rfl) (ea_cons ev_c ea_nil)) fun H7 e7 => ⟨a, 1, W, rfl, a3.ex ((e45.trans e6).trans e7), fun H8 k8 a8 => ?_⟩)
      have e37 := (e45.trans e6).trans e7
      have b8 : DwAt H8 p l0 := (b3.ex e37).keepA k8 nap na0
      refine q_when (b := false) (nof rfl d3.2.2.1) (fun h => nomatch h) (fun _ H9 e9 => ?_)
      refine s_when (b := false) (rv_eqS1 (K := K) rfl d3.2.2.2) (fun h => nomatch h) (fun _ HA eA => ?_)
      exact fin (hW.grow (by decide) (by decide)) (a8.ex (e9.trans eA)) (b8.ex (e9.trans eA)) fun c o n1 n2 hc => (e9.trans eA) _ _ (k8 _ _ n2 (e37 _ _ (k3 _ _ n1 hc)))
    · refine q_when (b := false) (rv_eqS1 (K := K) rfl d4.1) (fun h => nomatch h) (fun _ H4 e4 => ?_)
      refine q_when (b := false) (rv_eqS1 (K := K) rfl d4.2.1) (fun h => nomatch h) (fun _ H5 e5 => ?_)
      refine q_when (b := false) (rv_eqS1 (K := K) rfl d4.2.2.1) (fun h => nomatch h) (fun _ H6 e6 => ?_)
      have e46 := (e4.trans e5).trans e6
      refine q_tailIf (fun σ1 Hx => σ1 = [some (.ref p), some (.ref a), some (.str "alike"), some (.int fr), some (.int W.span), some (.int W.gap), none] ∧ ∃ W', (OkW (i + 1) W' ∧ StepR W W') ∧ WoAt Hx a W' ∧ DwAt Hx p l0 ∧ Keep3 p a H Hx) (fun σ1 H7 hR => ?_) (fun tail => ?_)
      · obtain ⟨rfl, W', hW', a7, b7, k7⟩ := hR
        refine s_when (b := false) (rv_eqS1 (K := K) rfl d4.2.2.2) (fun h => nomatch h) (fun _ H8 e8 => ?_)
        exact fin hW' (a7.ex e8) (b7.ex e8) fun c o n1 n2 hc => e8 _ _ (k7 c o n1 n2 hc)
      · refine q_when (b := true && W.there) (et_and (rv_eqS2 (K := K) rfl rfl) fun _ => et_B (ev_wo (ev_var rfl) (a3.ex e46) rfl)) (fun _ H7 e7 => ?_) (fun _ H7 e7 => ?_)
        · refine g_drop (rd_call (ea_cons (ev_var rfl) (ea_cons ev_c ea_nil)) fun H8 e8 => ⟨a, 0, W, rfl, a3.ex ((e46.trans e7).trans e8), fun H9 k9 a9 => tail _ _ ⟨rfl, growW 0 W, hW.grow (by decide) (by decide), a9, (b3.ex ((e46.trans e7).trans e8)).keepA k9 nap na0, fun c o n1 n2 hc => k9 _ _ n2 (((e46.trans e7).trans e8) _ _ (k3 _ _ n1 hc))⟩⟩)
        · exact tail _ _ ⟨rfl, W, hW.stay, a3.ex (e46.trans e7), b3.ex (e46.trans e7), kk (e46.trans e7)⟩
    · refine q_when (b := false) (rv_eqS1 (K := K) rfl d2.1) (fun h => nomatch h) (fun _ H4 e4 => ?_)
      refine q_tailIf (fun σ1 Hx => σ1 = [some (.ref p), some (.ref a), some (.str "clock"), some (.int fr), some (.int W.span), some (.int W.gap), none] ∧ ∃ W', (OkW (i + 1) W' ∧ StepR W W') ∧ WoAt Hx a W' ∧ DwAt Hx p l0 ∧ Keep3 p a H Hx) (fun σ1 H7 hR => ?_) (fun tail => ?_)
      · obtain ⟨rfl, W', hW', a7, b7, k7⟩ := hR
        refine q_when (b := false) (rv_eqS1 (K := K) rfl d2.2.1) (fun h => nomatch h) (fun _ H8 e8 => ?_)
        refine q_when (b := false) (nof rfl d2.2.2.1) (fun h => nomatch h) (fun _ H9 e9 => ?_)
        refine s_when (b := false) (rv_eqS1 (K := K) rfl d2.2.2.2) (fun h => nomatch h) (fun _ HA eA => ?_)
        have e := (e8.trans e9).trans eA
        exact fin hW' (a7.ex e) (b7.ex e) fun c o n1 n2 hc => e _ _ (k7 c o n1 n2 hc)
      · refine q_if (rv_eqS2 (K := K) rfl rfl) (fun _ H5 e5 => ?_) (fun h => nomatch h)
        have x1 := hW.s0
        have x2 := hW.b0
        have x3 := hW.s1
        have e45 := e4.trans e5
        refine rd_opR (rd_take (ea_cons (ev_var rfl) (ea_cons (ev_op (ev_var rfl) ev_c rv_I0) ea_nil)) (b3.ex e45) (by omega) (by omega) fun d H6 d0 d1 b6 k6 => (ev_wo (ev_var rfl) ((a3.ex e45).keep k6 nap) rfl) H6 (Ex.refl H6) _ fun H7 e7 => rv_I0 H7 (Ex.refl H7) _ fun H8 e8 => ?_)
        have e78 := e7.trans e8
        refine dp_end (W' := { W with offset := d - W.behind }) rfl (((a3.ex e45).keep k6 nap).ex e78) rfl (tail _ _ ⟨rfl, _, hW.turn (by omega) (by omega), upd_same, (b6.ex e78).upd ⟨nap, na0⟩, fun c o n1 n2 hc => ?_⟩)
        rw [upd_ne n2]
        exact e78 _ _ (k6 _ _ n1 (e45 _ _ (k3 _ _ n1 hc)))
    · refine q_when (b := false) (rv_eqS1 (K := K) rfl d5.1) (fun h => nomatch h) (fun _ H4 e4 => ?_)
      refine q_when (b := false) (rv_eqS1 (K := K) rfl d5.2.1) (fun h => nomatch h) (fun _ H5 e5 => ?_)
      refine q_when (b := false) (rv_eqS1 (K := K) rfl d5.2.2.1) (fun h => nomatch h) (fun _ H6 e6 => ?_)
      refine q_when (b := false) (nof rfl d5.2.2.2) (fun h => nomatch h) (fun _ H7 e7 => ?_)
      refine s_if (rv_eqS2 (K := K) rfl rfl) (fun _ H8 e8 => ?_) (fun h => nomatch h)
      have e := (((e4.trans e5).trans e6).trans e7).trans e8
      refine s_dp (W' := { W with there := false }) rfl ev_c (a3.ex e) rfl fun H9 e9 => fin (hW.gone false) upd_same ((b3.ex (e.trans e9)).upd ⟨nap, na0⟩) fun c o n1 n2 hc => ?_
      rw [upd_ne n2]
      exact (e.trans e9) _ _ (k3 _ _ n1 hc)
end
end Z
set_option maxHeartbeats 4000000
namespace Z
open PySem PySem.Spec PyProof.Rows L2 TL Evl NdefX
/-! ### numbers' texts, marks of versions -/
def numS (i : Int) : Str := PySem.Str.ofString (toString i)
theorem num_readV (i : Int) (h1 : -999999 ≤ i) (h2 : i ≤ 999999) : readV (numS i) = .int i := by
  unfold numS
  cases i with
  | ofNat n =>
    have hz : tl (PySem.Str.ofString (toString (Int.ofNat n))) = numL n := tl_num n
    have hn : n < 10 ^ 6 := by
      have h2 : (n : Int) ≤ 999999 := h2
      omega
    generalize PySem.Str.ofString (toString (Int.ofNat n)) = z at hz
    have hh : hd z ≠ some 45 := by
      unfold hd
      rw [hz]
      intro e
      have := List.mem_of_mem_head? e
      have := numL_digits n _ this
      omega
    unfold readV numV
    rw [if_neg hh, if_pos (num_dig hn hz), hz, numL_val]
    rfl
  | negSucc n =>
    have hz := neg_tl n
    have hn : n + 1 < 10 ^ 6 := by omega
    generalize PySem.Str.ofString (toString (Int.negSucc n)) = z at hz
    have hh : hd z = some 45 := by
      unfold hd
      rw [hz]
      rfl
    have hr : tl (rest z) = numL (n + 1) := by
      unfold rest
      rw [cutFrom1_tl, hz]
      rfl
    unfold readV
    rw [if_pos hh, if_pos]
    · rw [hr, numL_val]
      rfl
    · refine ⟨num_dig hn hr, fun e => ?_⟩
      have e2 := numL_val (n + 1)
      rw [← hr, e, val_zero] at e2
      omega
theorem num_inj {i j : Int} (i0 : -999999 ≤ i) (i1 : i ≤ 999999) (j0 : -999999 ≤ j) (j1 : j ≤ 999999) (h : tl (numS i) = tl (numS j)) : i = j := by
  have e := num_readV i i0 i1
  rw [ext_tl h, num_readV j j0 j1] at e
  exact (V.int.inj e).symm
def vTxt (h : Str) (v : Int) (t : Str) : Str := h ++ numS v ++ t
theorem dig_mk : ∀ c ∈ tl ("0123456789" : Str), c ∈ tl mkS := by decide +kernel
theorem num_mk {i : Int} (h0 : 0 ≤ i) (h1 : i ≤ 999999) : allIn (numS i) mkS = true ∧ (numS i).length ≤ 7 := by
  unfold numS
  refine ⟨?_, strI_len h0 (by omega)⟩
  cases i with
  | negSucc n => exact absurd h0 (by omega)
  | ofNat n =>
    have hz : tl (PySem.Str.ofString (toString (Int.ofNat n))) = numL n := tl_num n
    refine List.all_eq_true.mpr fun c hc => decide_eq_true ?_
    have hc : c ∈ tl (PySem.Str.ofString (toString (Int.ofNat n))) := hc
    rw [hz] at hc
    have := numL_digits n c hc
    exact dig_mk c (dig_mem this.1 this.2)
theorem vTxt_mark {h t : Str} {v : Int} (h0 : 1 ≤ h.length) (h1 : h.length ≤ 12) (h2 : allIn h mkS = true) (t1 : t.length ≤ 12) (t2 : allIn t mkS = true) (v0 : 0 ≤ v) (v1 : v ≤ 999999) : markB (vTxt h v t) = true := by
  obtain ⟨n1, n2⟩ := num_mk v0 v1
  refine markB_iff.mpr ⟨?_, ?_⟩
  · unfold vTxt
    rw [Str.length_append, Str.length_append]
    omega
  · unfold vTxt
    rw [allIn_app, allIn_app, h2, n1, t2]
    rfl
theorem vTxt_inj {h t : Str} {v w : Int} (v0 : 0 ≤ v) (v1 : v ≤ 999999) (w0 : 0 ≤ w) (w1 : w ≤ 999999) : vTxt h v t = vTxt h w t ↔ v = w := by
  refine ⟨fun e => ?_, fun e => by rw [e]⟩
  have e2 := congrArg tl e
  unfold vTxt at e2
  rw [tl_append, tl_append, tl_append, tl_append] at e2
  exact num_inj (by omega) v1 (by omega) w1 (List.append_cancel_left (List.append_cancel_right e2))
def tagO (W : Wo) : Option (Str × Bool) := if W.mode = ("strong" : Str) then some (vTxt W.head W.version W.tail, false) else if W.mode = ("weak" : Str) then some (vTxt W.head W.epoch W.tail, true) else none
theorem OkW.mark {i : Nat} {W : Wo} (h : OkW i W) (hi : i ≤ 100) {v : Int} (v0 : 1 ≤ v) (v1 : v ≤ (i : Int) + 1) : markB (vTxt W.head v W.tail) = true := vTxt_mark h.h0 h.h1 h.h2 h.t1 h.t2 (by omega) (by omega)
/-! ### what the fields of a checking request say -/
theorem splC_none : ∀ (a acc : List Nat), 44 ∉ a → splC acc a = [acc ++ a]
  | [], acc, _ => by rw [List.append_nil]; rfl
  | c :: r, acc, h => by
    have hc : c ≠ 44 := fun e => h (by rw [e]; exact List.mem_cons_self)
    show (if c = 44 then acc :: splC [] r else splC (acc ++ [c]) r) = _
    rw [if_neg hc, splC_none r (acc ++ [c]) fun q => h (List.mem_cons_of_mem _ q), List.append_assoc]
    rfl
theorem elems_one {z : Str} (h1 : 44 ∉ tl z) (h2 : Txt.stripChars z " " = z) (h3 : z ≠ "") : elems z = [z] := by
  unfold elems stripped
  rw [split_eq, splC_none _ _ h1, List.nil_append]
  have e : S' (tl z) = z := ext_tl rfl
  show List.filter _ [Txt.stripChars (S' (tl z)) " "] = _
  rw [e, h2, List.filter_cons, if_pos (by rw [decide_eq_false h3]; rfl)]
  rfl
theorem wr_tl (z : Str) (b : Bool) : tl (wrZ z b) = tl (cond b ("w" : Str) "" ++ ("\"" : Str)) ++ tl z ++ tl ("\"" : Str) := by
  unfold wrZ
  rw [tl_append, tl_append]
theorem mk_no : ∀ c ∈ tl mkS, c ≠ 44 := by decide +kernel
theorem markL_wr {z : Str} {b : Bool} (h : markB z = true) : markL (wrZ z b) = (false, [(z, b)]) := by
  have hv := wrZ_value (b := b) h
  have hs : Txt.stripChars (wrZ z b) " " = wrZ z b := by
    unfold valueB at hv
    simp only [Bool.and_eq_true] at hv
    exact of_decide_eq_true hv.2.2
  have hn : 44 ∉ tl (wrZ z b) := by
    rw [wr_tl]
    intro hc
    rcases List.mem_append.mp hc with hc | hc
    · rcases List.mem_append.mp hc with hc | hc
      · cases b
        · exact absurd hc (by decide +kernel)
        · exact absurd hc (by decide +kernel)
      · exact mk_no 44 (of_decide_eq_true (List.all_eq_true.mp (markB_iff.mp h).2 44 hc)) rfl
    · exact absurd hc (by decide +kernel)
  have h0 : 2 ≤ (wrZ z b).length := by
    have := (markB_iff.mp h).1.1
    have q : ("\"" : Str).length = 1 := by decide +kernel
    unfold wrZ
    rw [Str.length_append, Str.length_append, Str.length_append, q]
    omega
  have he : wrZ z b ≠ ("" : Str) := fun e => by
    have q : ("" : Str).length = 0 := by decide +kernel
    rw [e, q] at h0
    omega
  have hst : wrZ z b ≠ ("*" : Str) := fun e => by
    have q : ("*" : Str).length = 1 := by decide +kernel
    rw [e, q] at h0
    omega
  have e1 := elems_one hn hs he
  unfold markL
  rw [readL_some (by rw [e1]; exact fun e => hst (List.cons.inj e).1) (by rw [e1, List.map_cons, List.map_nil, read_wr h]; exact fun e => e.elim (fun e => nomatch e) fun e => by cases e), e1, List.filterMap_cons, read_wr h]
  rfl
theorem markL_star : markL ("*" : Str) = (true, []) := by decide +kernel
theorem put_lenV {t : Str} {j c : Nat} (h : j < t.length) : (cutS t none (some (j : Int)) ++ one c ++ cutS t (some ((j : Int) + 1)) none).length = t.length := by
  have e : (j : Int) + 1 = ((j + 1 : Nat) : Int) := by omega
  rw [e, cutTo, cutFrom, Str.length_append, Str.length_append, one_len]
  have h1 : (preT t j).length = j := by
    show ((tl t).take j).toArray.size = j
    rw [List.size_toArray, List.length_take, len_tl']
    omega
  have h2 : (sufT t (j + 1)).length = t.length - (j + 1) := by
    show ((tl t).drop (j + 1)).toArray.size = _
    rw [List.size_toArray, List.length_drop, len_tl']
  omega
def spTx12 : Sp := fun vs H Q _ => ∃ (p l0 : Addr), vs = [.ref p] ∧ DwAt H p l0 ∧ ∀ (z : Str) (H' : Hp), z.length ≤ 12 → markB z = true → DwAt H' p l0 → Keep p H H' → Q (.str z) H'
def spWorld : Sp := fun vs H Q _ => ∃ (p l0 : Addr), vs = [.ref p] ∧ DwAt H p l0 ∧ ∀ (a : Addr) (W : Wo) (H' : Hp), H a = none → WoAt H' a W → OkW 0 W → DwAt H' p l0 → Keep p H H' → Q (.ref a) H'
def spTag (C : Addr) : Sp := fun vs H Q _ => ∃ (a : Addr) (W : Wo) (i : Nat), vs = [.ref a] ∧ WoAt H a W ∧ OkW i W ∧ i ≤ 100 ∧ ∀ u H', Ex H H' → OMk C H' u (tagO W) → Q u H'
section
variable {σ : L2.St} {H : Hp} {ta tv : TA} {te : TE} {p l0 a : Addr} {Q : VK} {E : XK} {D : Ends} {tz : TS} {i : Nat} {K : PySem.W.Frag} {kvs kvs' : List (Key × V)} {key : Str} {v : V}
theorem rd_pickV {xs : List V} {n : Int} (hl : EvA tv σ H xs) (hm : xs.length ≤ 1000) (h : ∀ H1, Ex H H1 → EvA ta σ H1 [.ref p, .int n]) (b : DwAt H p l0) (hn : n = (xs.length : Int)) (h1 : 1 ≤ n) (k : ∀ (x : V) (H' : Hp), x ∈ xs → DwAt H' p l0 → Keep p H H' → Q x H') : tOp (rIxL K) (tLst tv) (tCall spTake [] E ta) σ H Q := by
  refine rd_opR ((el_lst hl (by omega)) H (Ex.refl H) _ fun l H1 nl e1 hl1 => ?_)
  refine rd_take (h H1 e1) (b.ex e1) h1 (by omega) fun d H2 d0 d1 b2 k2 => ?_
  obtain ⟨t, ht, htm⟩ := at_int (xs := xs) (d := d) d0 (by omega)
  exact ⟨l, _, d, _, rfl, rfl, sq_of (k2 _ _ (b.ne nl).1 hl1), ht, k t H2 htm b2 ((Keep.of e1).trans k2)⟩
theorem dG_end (hi : σ[i]? = some (some (.ref a))) (ha : H a = some (.dK kvs)) (hl : kvs.length < 100000) (hW : putK kvs (.inr key) v = kvs') (k : D.nx σ (upd H a (.dK kvs'))) : (tVar i) σ H fun x H2 => (tC (.str key)) σ H2 fun y H3 => ∃ a H4, x = .ref a ∧ DPut H3 a y v H4 ∧ D.nx σ H4 :=
  ⟨_, hi, a, _, rfl, DPut.k (k := .inr key) ha (sz_lt hl), by rw [hW]; exact k⟩
theorem q_dG (hi : σ[i]? = some (some (.ref a))) (hv : Ev te σ H v) (ha : H a = some (.dK kvs)) (hl : kvs.length < 100000) (hW : putK kvs (.inr key) v = kvs') (k : ∀ H1, Ex H H1 → tz D σ (upd H1 a (.dK kvs'))) : tSeq (sDPut (tVar i) (tC (.str key)) te) tz D σ H :=
  hv H (Ex.refl H) _ fun H1 e1 => dG_end (D := { D with nx := tz D }) hi (e1 _ _ ha) hl hW (k H1 e1)
end
section
variable {P : Program} {w : World} {K : PySem.W.Frag} {mg : Str → Option Value} {base : Heap} {f C DV DM DH : Addr} {fd : FuncData} {k : Nat}
theorem ok_law_textV (T : Mg mg) (c_law_take : CTake P w K mg base) (c_law_letter : Call P w K mg base 1 "_law_letter" ["number"] spLetter) (F : FnP K "_law_text" s_law_text f fd) (gm : mg "_law_text" = some (.ref f)) : Call P w K mg base 2 "_law_text" ["bag"] spTx12 := by
  refine mk F gm (fun _ _ _ _ _ _ us hl => match us, hl with | [_], _ => rfl) (fun _ _ _ _ _ _ us hl => match us, hl with | [_], _ => rfl) sc_law_text (fun vs H Q E h => ?_) (fun cdv A outer s H vs Q E hr h => ?_)
  · obtain ⟨p, l0, rfl, _⟩ := h
    rfl
  · obtain ⟨p, l0, rfl, hb, q⟩ := h
    refine ⟨_, (pss_cons (ps_set (i := 1) sc_law_text.nd rfl (Or.inl rfl) (pe_f c_law_take hr (by decide) rfl (pa_cons (pv 0) (pa_cons pe_int pa_nil))))
    (pss_cons (ps_set (i := 2) sc_law_text.nd rfl (Or.inl rfl) (pe_f c_law_take hr (by decide) rfl (pa_cons (pv 0) (pa_cons pe_int pa_nil))))
    (pss_cons (ps_set (i := 3) sc_law_text.nd rfl (Or.inl rfl) (pe_ix ix_list (pe_lst (pa_cons pe_int (pa_cons pe_int (pa_cons pe_int (pa_cons (pe_op op_add pe_int (pv 2)) pa_nil))))) (pv 1) (fun _ _ => rfl)))
    (pss_cons (ps_set (i := 4) sc_law_text.nd rfl (Or.inl rfl) (pe_op oz_rep (pe_f c_law_letter hr (by decide) rfl (pa_cons (pe_f c_law_take hr (by decide) rfl (pa_cons (pv 0) (pa_cons pe_int pa_nil))) pa_nil)) (pv 3)))
    (pss_cons (ps_set (i := 5) sc_law_text.nd rfl (Or.inl rfl) (pe_f c_law_take hr (by decide) rfl (pa_cons (pv 0) (pa_cons (pv 3) pa_nil))))
    (pss_one (ps_ret (pe_op oz_add (pe_op oz_add (pe_slice sl_str (pv 4) po_none (po_some (pv 5))) (pe_f c_law_letter hr (by decide) rfl (pa_cons (pe_f c_law_take hr (by decide) rfl (pa_cons (pv 0) (pa_cons pe_int pa_nil))) pa_nil))) (pe_slice sl_str (pv 4) (po_some (pe_op op_add (pv 5) pe_int)) po_none))))))))), ?_⟩
    refine q_take (ea_cons (ev_var rfl) (ea_cons ev_c ea_nil)) hb (by decide) (by decide) fun pk H1 p0 p1 b1 k1 => ?_
    refine q_take (ea_cons (ev_var rfl) (ea_cons ev_c ea_nil)) b1 (by decide) (by decide) fun fr H2 f0 f1 b2 k2 => ?_
    obtain ⟨v, hv, hvm⟩ := at_int (xs := [V.int 2, .int 1, .int 12, .int (1 + fr)]) p0 p1
    obtain ⟨len, rfl, hl0, hl1⟩ : ∃ len : Int, v = .int len ∧ 1 ≤ len ∧ len ≤ 12 := by
      simp only [List.mem_cons, List.not_mem_nil, or_false] at hvm
      rcases hvm with rfl | rfl | rfl | rfl
      all_goals exact ⟨_, rfl, by omega, by omega⟩
    refine q_asg (v := .int len) (ev_opL1 (el_lst (ea_cons ev_c (ea_cons ev_c (ea_cons ev_c (ea_cons (ev_op ev_c (ev_var rfl) rv_I0) ea_nil)))) (by show 4 ≤ _; decide)) (fun H3 e3 => ev_var rfl) (fun l H3 hl e3 => rv_ixL (sq_of hl) hv)) fun H3 e3 => ?_
    refine q_in ?_; dsimp only
    refine g_asg ?_
    refine rd_arg1 (rd_take (ea_cons (ev_var rfl) (ea_cons ev_c ea_nil)) (b2.ex e3) (by decide) (by decide) fun bs H4 s0 s1 b4 k4 => ⟨bs, rfl, fun H5 e5 => ?_⟩)
    refine ⟨.int len, rfl, one (letC bs), len, rfl, rfl, by omega, by omega, by rw [one_len]; decide, ?_⟩
    refine g_name ?_; dsimp only
    have hmark := rep_mark (letC_ok bs).2 hl0 (by omega)
    have hlen : (repS (one (letC bs)) len.toNat).length = len.toNat := by rw [repS_len, one_len, Nat.mul_one]
    generalize repS (one (letC bs)) len.toNat = t at hmark hlen ⊢
    refine q_take (ea_cons (ev_var rfl) (ea_cons (ev_var rfl) ea_nil)) (b4.ex e5) (by omega) (by omega) fun sp2 H8 u0 u1 b8 k8 => ?_
    obtain ⟨j, rfl⟩ := Int.eq_ofNat_of_zero_le u0
    have hj : j < t.length := by omega
    have hz : t.length ≤ 100000 := by omega
    refine (ev_slS (ev_var rfl) eo_none (eo_some (ev_var rfl)) hz) H8 (Ex.refl H8) _ fun H9 e9 => ?_
    have c1 := cut_len t none (some (j : Int))
    have c2 := cut_len t (some ((j : Int) + 1)) none
    refine rd_arg1 (rd_take (ea_cons (ev_var rfl) (ea_cons ev_c ea_nil)) (b8.ex e9) (by decide) (by decide) fun d H10 d0 d1 b10 k10 => ⟨d, rfl, fun H11 e11 => ⟨_, _, rfl, rfl, sz_of (by rw [one_len]; omega), ?_⟩⟩)
    refine (ev_slS (ev_var rfl) (eo_some (ev_op (ev_var rfl) ev_c rv_I0)) eo_none hz) H11 (Ex.refl H11) _ fun H12 e12 => ⟨_, _, rfl, rfl, sz_of (by rw [Str.length_append, one_len]; omega), ?_⟩
    exact q _ H12 (by rw [put_lenV hj]; omega) (put_mark hmark hj (letC_ok d).2) (b10.ex (e11.trans e12)) ((((((((k1.trans k2).trans (Keep.of e3)).trans k4).trans (Keep.of e5)).trans k8).trans (Keep.of e9)).trans k10).trans (Keep.of (e11.trans e12)))
theorem ok_law_world (T : Mg mg) (c_law_take : CTake P w K mg base) (c_law_text : Call P w K mg base 2 "_law_text" ["bag"] spTx12) (F : FnP K "_law_world" s_law_world f fd) (gm : mg "_law_world" = some (.ref f)) : Call P w K mg base 3 "_law_world" ["bag"] spWorld := by
  refine mk F gm (fun _ _ _ _ _ _ us hl => match us, hl with | [_], _ => rfl) (fun _ _ _ _ _ _ us hl => match us, hl with | [_], _ => rfl) sc_law_world (fun vs H Q E h => ?_) (fun cdv A outer s H vs Q E hr h => ?_)
  · obtain ⟨p, l0, rfl, _⟩ := h
    rfl
  · obtain ⟨p, l0, rfl, b, q⟩ := h
    refine ⟨_, (pss_cons (ps_set (i := 1) sc_law_world.nd rfl (Or.inl rfl) (pe_ix ix_list (pe_lst (pa_cons pe_int (pa_cons pe_int (pa_cons pe_int (pa_cons pe_int pa_nil))))) (pe_f c_law_take hr (by decide) rfl (pa_cons (pv 0) (pa_cons pe_int pa_nil))) (fun _ _ => rfl)))
    (pss_cons (ps_set (i := 2) sc_law_world.nd rfl (Or.inl rfl) (pe_f c_law_take hr (by decide) rfl (pa_cons (pv 0) (pa_cons (pv 1) pa_nil))))
    (pss_cons (ps_set (i := 3) sc_law_world.nd rfl (Or.inl rfl) (pe_f c_law_take hr (by decide) rfl (pa_cons (pv 0) (pa_cons (pv 1) pa_nil))))
    (pss_cons (ps_set (i := 4) sc_law_world.nd rfl (Or.inl rfl) (pe_op op_add (pv 2) (pv 3)))
    (pss_cons (ps_set (i := 5) sc_law_world.nd rfl (Or.inl rfl) (pe_op op_add (pe_op op_add (pv 4) pe_int) (pe_f c_law_take hr (by decide) rfl (pa_cons (pv 0) (pa_cons pe_int pa_nil)))))
    (pss_cons (ps_if (pt_cmpR op_eq (pe_f c_law_take hr (by decide) rfl (pa_cons (pv 0) (pa_cons pe_int pa_nil))) pe_int (nomark _))
      (pss_one (ps_set (i := 5) sc_law_world.nd rfl (Or.inl rfl) (pe_f c_law_take hr (by decide) rfl (pa_cons (pv 0) (pa_cons (pe_op op_add (pv 4) pe_int) pa_nil)))))
      pss_nil)
    (pss_cons (ps_set (i := 6) sc_law_world.nd rfl (Or.inl rfl) (pe_ix ix_list (pe_lst (pa_cons pe_str (pa_cons pe_str (pa_cons pe_str pa_nil)))) (pe_f c_law_take hr (by decide) rfl (pa_cons (pv 0) (pa_cons pe_int pa_nil))) (fun _ _ => rfl)))
    (pss_cons (ps_set (i := 7) sc_law_world.nd rfl (Or.inl rfl) (pe_disp (pps_cons pe_str (pv 6) (pps_cons pe_str (pv 2) (pps_cons pe_str (pv 4) (pps_cons pe_str (pv 5) (pps_cons pe_str pe_int (pps_cons pe_str pe_int pps_nil)))))) (by rfl) (by rfl) (fun z => by cases z) (by decide)))
    (pss_cons (ps_dput hr.units1 (pv 7) pe_str pe_int rfl)
    (pss_cons (ps_dput hr.units1 (pv 7) pe_str pe_int rfl)
    (pss_cons (ps_dput hr.units1 (pv 7) pe_str pe_bl rfl)
    (pss_cons (ps_dput hr.units1 (pv 7) pe_str pe_int rfl)
    (pss_cons (ps_dput hr.units1 (pv 7) pe_str (pe_f c_law_text hr (by decide) rfl (pa_cons (pv 0) pa_nil)) rfl)
    (pss_cons (ps_dput hr.units1 (pv 7) pe_str (pe_f c_law_text hr (by decide) rfl (pa_cons (pv 0) pa_nil)) rfl)
    (pss_one (ps_ret (pv 7))))))))))))))))), ?_⟩
    refine q_asgR (rd_pickI (ns := [4, 4, 4, 1001]) (ea_cons ev_c (ea_cons ev_c (ea_cons ev_c (ea_cons ev_c ea_nil)))) (by decide) (fun _ _ => ea_cons (ev_var rfl) (ea_cons ev_c ea_nil)) b (by decide) fun lm H1 hlm b1 k1 => ?_)
    try dsimp only
    have lb : 4 ≤ lm ∧ lm ≤ 1001 := by
      simp only [List.mem_cons, List.not_mem_nil, or_false] at hlm
      omega
    refine q_take (ea_cons (ev_var rfl) (ea_cons (ev_var rfl) ea_nil)) b1 (by omega) (by omega) fun be H2 be0 be1 b2 k2 => ?_
    try dsimp only
    refine q_take (ea_cons (ev_var rfl) (ea_cons (ev_var rfl) ea_nil)) b2 (by omega) (by omega) fun ah H3 ah0 ah1 b3 k3 => ?_
    try dsimp only
    refine q_asg (ev_op (ev_var rfl) (ev_var rfl) rv_I0) fun H4 e4 => ?_
    try dsimp only
    have b4 := b3.ex e4
    have k4 := (((k1.trans k2).trans k3).trans (Keep.of e4))
    clear b b1 b2 b3 k1 k2 k3 e4
    refine q_asgR (rd_opR ((ev_op (ev_var rfl) ev_c rv_I0) H4 (Ex.refl H4) _ fun H5 e5 => rd_take (ea_cons (ev_var rfl) (ea_cons ev_c ea_nil)) (b4.ex e5) (by decide) (by decide) fun g H6 g0 g1 b6 k6 => rv_I0 H6 (Ex.refl H6) _ fun H7 e7 => ?_))
    try dsimp only
    have b7 := b6.ex e7
    have k7 := ((k4.trans (Keep.of e5)).trans k6).trans (Keep.of e7)
    clear b4 k4 e5 b6 k6 e7
    refine q_tail (fun σ1 Hx => ∃ gp : Int, σ1 = [some (.ref p), some (.int lm), some (.int be), some (.int ah), some (.int (be + ah)), some (.int gp), none, none] ∧ 0 ≤ gp ∧ gp ≤ be + ah + 3 ∧ DwAt Hx p l0 ∧ Keep p H Hx) (fun σ1 H8 hR => ?_) (fun tail => ?_)
    · obtain ⟨gp, rfl, gp0, gp1, b8, k8⟩ := hR
      refine q_asgR (rd_pickV (xs := mdsL.map V.str) (ea_cons ev_c (ea_cons ev_c (ea_cons ev_c ea_nil))) (by decide) (fun _ _ => ea_cons (ev_var rfl) (ea_cons ev_c ea_nil)) b8 rfl (by decide) fun x H9 hx b9 k9 => ?_)
      obtain ⟨md, hmd, rfl⟩ := List.mem_map.mp hx
      try dsimp only
      have k9 := k8.trans k9
      clear b7 k7 b8 k8 hx
      refine q_asgR (fun a na => ⟨_, rfl, _, rfl, _, rfl, _, rfl, upd_same, [(.inr "mode", .str md), (.inr "behind", .int be), (.inr "span", .int (be + ah)), (.inr "gap", .int gp), (.inr "clock", .int 0), (.inr "offset", .int 0)], rfl, by show 6 ≤ 15; decide, ?_⟩)
      try dsimp only
      have nap := (b9.ne na).1
      have na0 := (b9.ne na).2
      have naH : H a = none := Keep.freeB k9 b9 na
      have bA : DwAt (upd (upd H9 a (.dK [])) a (.dK (mergeK [] [(.inr "mode", .str md), (.inr "behind", .int be), (.inr "span", .int (be + ah)), (.inr "gap", .int gp), (.inr "clock", .int 0), (.inr "offset", .int 0)]))) p l0 := (b9.upd ⟨nap, na0⟩).upd ⟨nap, na0⟩
      have kA : Keep p H (upd (upd H9 a (.dK [])) a (.dK (mergeK [] [(.inr "mode", .str md), (.inr "behind", .int be), (.inr "span", .int (be + ah)), (.inr "gap", .int gp), (.inr "clock", .int 0), (.inr "offset", .int 0)]))) := (k9.mut naH).mut naH
      have hA : (upd (upd H9 a (.dK [])) a (.dK (mergeK [] [(.inr "mode", .str md), (.inr "behind", .int be), (.inr "span", .int (be + ah)), (.inr "gap", .int gp), (.inr "clock", .int 0), (.inr "offset", .int 0)]))) a = some (.dK [(.inr "mode", .str md), (.inr "behind", .int be), (.inr "span", .int (be + ah)), (.inr "gap", .int gp), (.inr "clock", .int 0), (.inr "offset", .int 0)]) := upd_same
      generalize upd (upd H9 a (.dK [])) a (.dK (mergeK [] [(.inr "mode", .str md), (.inr "behind", .int be), (.inr "span", .int (be + ah)), (.inr "gap", .int gp), (.inr "clock", .int 0), (.inr "offset", .int 0)])) = HA at bA kA hA
      clear b9 k9
      have step : ∀ {H1 H2 : Hp} {o : HO}, DwAt H1 p l0 → Keep p H H1 → Ex H1 H2 → DwAt (upd H2 a o) p l0 ∧ Keep p H (upd H2 a o) := fun b k e => ⟨(b.ex e).upd ⟨nap, na0⟩, (k.trans (Keep.of e)).mut naH⟩
      refine q_dG rfl ev_c hA (by show 6 < 100000; decide) rfl fun HB eB => ?_
      obtain ⟨bB, kB⟩ := step (o := .dK [(.inr "mode", .str md), (.inr "behind", .int be), (.inr "span", .int (be + ah)), (.inr "gap", .int gp), (.inr "clock", .int 0), (.inr "offset", .int 0), (.inr "version", .int 1)]) bA kA eB
      refine q_dG (kvs' := [(.inr "mode", .str md), (.inr "behind", .int be), (.inr "span", .int (be + ah)), (.inr "gap", .int gp), (.inr "clock", .int 0), (.inr "offset", .int 0), (.inr "version", .int 1), (.inr "epoch", .int 1)]) rfl ev_c upd_same (by show 7 < 100000; decide) rfl fun HC eC => ?_
      obtain ⟨bC, kC⟩ := step (o := .dK [(.inr "mode", .str md), (.inr "behind", .int be), (.inr "span", .int (be + ah)), (.inr "gap", .int gp), (.inr "clock", .int 0), (.inr "offset", .int 0), (.inr "version", .int 1), (.inr "epoch", .int 1)]) bB kB eC
      refine q_dG (kvs' := [(.inr "mode", .str md), (.inr "behind", .int be), (.inr "span", .int (be + ah)), (.inr "gap", .int gp), (.inr "clock", .int 0), (.inr "offset", .int 0), (.inr "version", .int 1), (.inr "epoch", .int 1), (.inr "there", .bl true)]) rfl ev_c upd_same (by show 8 < 100000; decide) rfl fun HD eD => ?_
      obtain ⟨bD, kD⟩ := step (o := .dK [(.inr "mode", .str md), (.inr "behind", .int be), (.inr "span", .int (be + ah)), (.inr "gap", .int gp), (.inr "clock", .int 0), (.inr "offset", .int 0), (.inr "version", .int 1), (.inr "epoch", .int 1), (.inr "there", .bl true)]) bC kC eD
      refine q_dG (kvs' := [(.inr "mode", .str md), (.inr "behind", .int be), (.inr "span", .int (be + ah)), (.inr "gap", .int gp), (.inr "clock", .int 0), (.inr "offset", .int 0), (.inr "version", .int 1), (.inr "epoch", .int 1), (.inr "there", .bl true), (.inr "reading", .int 0)]) rfl ev_c upd_same (by show 9 < 100000; decide) rfl fun HE eE => ?_
      obtain ⟨bE, kE⟩ := step (o := .dK [(.inr "mode", .str md), (.inr "behind", .int be), (.inr "span", .int (be + ah)), (.inr "gap", .int gp), (.inr "clock", .int 0), (.inr "offset", .int 0), (.inr "version", .int 1), (.inr "epoch", .int 1), (.inr "there", .bl true), (.inr "reading", .int 0)]) bD kD eE
      refine q_in ?_
      refine rd_call (ea_cons (ev_var rfl) ea_nil) fun HF eF => ⟨p, l0, rfl, bE.ex eF, fun hz HG hz1 hz2 bG kG => ?_⟩
      have hG := kG _ _ nap (eF _ _ upd_same)
      have kG := (kE.trans (Keep.of eF)).trans kG
      refine dG_end (kvs' := [(.inr "mode", .str md), (.inr "behind", .int be), (.inr "span", .int (be + ah)), (.inr "gap", .int gp), (.inr "clock", .int 0), (.inr "offset", .int 0), (.inr "version", .int 1), (.inr "epoch", .int 1), (.inr "there", .bl true), (.inr "reading", .int 0), (.inr "head", .str hz)]) rfl hG (by show 10 < 100000; decide) rfl ?_
      dsimp only
      have bH : DwAt (upd HG a (.dK [(.inr "mode", .str md), (.inr "behind", .int be), (.inr "span", .int (be + ah)), (.inr "gap", .int gp), (.inr "clock", .int 0), (.inr "offset", .int 0), (.inr "version", .int 1), (.inr "epoch", .int 1), (.inr "there", .bl true), (.inr "reading", .int 0), (.inr "head", .str hz)])) p l0 := bG.upd ⟨nap, na0⟩
      have kH := kG.mut (o := .dK [(.inr "mode", .str md), (.inr "behind", .int be), (.inr "span", .int (be + ah)), (.inr "gap", .int gp), (.inr "clock", .int 0), (.inr "offset", .int 0), (.inr "version", .int 1), (.inr "epoch", .int 1), (.inr "there", .bl true), (.inr "reading", .int 0), (.inr "head", .str hz)]) naH
      refine q_in ?_
      refine rd_call (ea_cons (ev_var rfl) ea_nil) fun HI eI => ⟨p, l0, rfl, bH.ex eI, fun tz HJ tz1 tz2 bJ kJ => ?_⟩
      have hJ := kJ _ _ nap (eI _ _ upd_same)
      have kJ := (kH.trans (Keep.of eI)).trans kJ
      refine dG_end (kvs' := woK ⟨md, be, be + ah, gp, 0, 0, 1, 1, true, 0, hz, tz⟩) rfl hJ (by show 11 < 100000; decide) rfl ?_
      dsimp only
      refine s_ret (ev_var rfl) fun HK eK => ?_
      have mh := markB_iff.mp hz2
      have mt := markB_iff.mp tz2
      refine q a ⟨md, be, be + ah, gp, 0, 0, 1, 1, true, 0, hz, tz⟩ HK naH (eK _ _ upd_same) ⟨hmd, be0, by show be ≤ 1000; omega, by show be ≤ be + ah; omega, by show be + ah ≤ 2000; omega, gp0, gp1, Int.le_refl _, by show (0 : Int) ≤ 30010 * ((0 : Nat) : Int); decide, by show -be ≤ 0; omega, by show 0 ≤ be + ah - be; omega, by show (1 : Int) ≤ 1; decide, by show (1 : Int) ≤ ((0 : Nat) : Int) + 1; decide, by show (1 : Int) ≤ 1; decide, by show (1 : Int) ≤ ((0 : Nat) : Int) + 1; decide, by show -be ≤ 0; omega, by show 0 ≤ 0 + (be + ah - be); omega, mh.1.1, hz1, mh.2, mt.1.1, tz1, mt.2⟩ ((bJ.upd ⟨nap, na0⟩).ex eK) ((kJ.mut naH).trans (Keep.of eK))
    · refine rd_opR (rd_take (ea_cons (ev_var rfl) (ea_cons ev_c ea_nil)) b7 (by decide) (by decide) fun d H8 d0 d1 b8 k8 => ev_c H8 (Ex.refl H8) _ fun H9 e9 => rv_eqI H9 (Ex.refl H9) _ fun HA eA => ⟨_, rfl, ?_⟩)
      have bA := b8.ex (e9.trans eA)
      have kA := (k7.trans k8).trans (Keep.of (e9.trans eA))
      dsimp only
      by_cases hd : d = 3
      · rw [if_pos (decide_eq_true hd)]
        refine g_asg (rd_take (ea_cons (ev_var rfl) (ea_cons (ev_op (ev_var rfl) ev_c rv_I0) ea_nil)) bA (by omega) (by omega) fun g2 HB g20 g21 bB kB => ?_)
        exact tail _ _ ⟨g2, rfl, g20, by omega, bB, kA.trans kB⟩
      · rw [if_neg (by rw [decide_eq_true_eq]; exact hd)]
        exact tail _ _ ⟨_, rfl, by omega, by omega, bA, kA⟩
theorem ok_law_tag (T : Mg mg) (W0 : Wd P w K mg C DV DM DH) (MI : Mi P w K mg base C DV) (F : FnP K "_law_tag" s_law_tag f fd) (gm : mg "_law_tag" = some (.ref f)) : Call P w K mg base 5 "_law_tag" ["world"] (spTag C) := by
  obtain ⟨fi, fdi, dsi, its, M, Fi, hb0, hds, hbd, hkb⟩ := MI.ex
  refine mk F gm (fun _ _ _ _ _ _ us hl => match us, hl with | [_], _ => rfl) (fun _ _ _ _ _ _ us hl => match us, hl with | [_], _ => rfl) sc_law_tag (fun vs H Q E h => ?_) (fun cdv A outer s H vs Q E hr h => ?_)
  · obtain ⟨a, W, i, rfl, _⟩ := h
    rfl
  · obtain ⟨a, W, i, rfl, ha, hW, hi, q⟩ := h
    refine ⟨_, (pss_cons (ps_if (pt_cmpR op_eq (pe_dget hr.units1 (pv 0) pe_str (fun _ _ => rfl)) pe_str (nomark _))
      (pss_one (ps_ret (pe_make M Fi (hr.mono (by decide)) rfl W0.mC hbd hds ZX.passN (pa_cons (pe_op oz_add (pe_op oz_add (pe_dget hr.units1 (pv 0) pe_str (fun _ _ => rfl)) (pe_callTy cz_str (by rfl) T.str (by decide +kernel) (pa_cons (pe_dget hr.units1 (pv 0) pe_str (fun _ _ => rfl)) pa_nil))) (pe_dget hr.units1 (pv 0) pe_str (fun _ _ => rfl))) pa_nil))))
      pss_nil)
    (pss_cons (ps_if (pt_cmpR op_eq (pe_dget hr.units1 (pv 0) pe_str (fun _ _ => rfl)) pe_str (nomark _))
      (pss_one (ps_ret (pe_make M Fi (hr.mono (by decide)) rfl W0.mC hb0 .nil ZX.passN (pa_cons (pe_op oz_add (pe_op oz_add (pe_dget hr.units1 (pv 0) pe_str (fun _ _ => rfl)) (pe_callTy cz_str (by rfl) T.str (by decide +kernel) (pa_cons (pe_dget hr.units1 (pv 0) pe_str (fun _ _ => rfl)) pa_nil))) (pe_dget hr.units1 (pv 0) pe_str (fun _ _ => rfl))) (pa_cons pe_bl pa_nil)))))
      pss_nil)
    (pss_one (ps_ret pe_non)))), ?_⟩
    have v1 := hW.v1
    have w1 := hW.e1
    have v0 := hW.v0
    have w0 := hW.e0
    have h1 := hW.h1
    have t1 := hW.t1
    have nv := num_mk (i := W.version) (by omega) (by omega)
    have ne := num_mk (i := W.epoch) (by omega) (by omega)
    have tx : ∀ {v : Int} {key : Str} {H' : Hp}, Ex H H' → 0 ≤ v → v ≤ 999999 → valV (woK W) (.inr key) = some (.int v) → Ev (tOp rAddS2 (tOp rAddS2 (tDGet (tVar 0) (tC (.str "head"))) (tCB rStrI (tCons (tDGet (tVar 0) (tC (.str key))) tNil))) (tDGet (tVar 0) (tC (.str "tail")))) [some (.ref a)] H' (.str (vTxt W.head v W.tail)) := fun {v key H'} e v0 v1 hv => by
      have := (num_mk v0 v1).2
      unfold numS at this
      exact ev_op (ev_op (ev_wo (ev_var rfl) (ha.ex e) rfl) (ev_strI (ev_wo (ev_var rfl) (ha.ex e) hv) (Nat.lt_of_lt_of_le (show v.natAbs < 2 ^ 20 by omega) (Nat.pow_le_pow_right (by decide) (by decide)))) (rv_addS (by omega))) (ev_wo (ev_var rfl) (ha.ex e) rfl) (rv_addS (by rw [Str.length_append]; omega))
    unfold tagO at q
    by_cases c1 : W.mode = ("strong" : Str)
    · rw [if_pos c1] at q
      refine q_when (b := true) (et_is (et_test (ev_op (ev_wo (ev_var rfl) ha rfl) ev_c rv_eqS)) (decide_eq_true c1)) (fun _ H1 e1 => ?_) (fun h => nomatch h)
      have hm := hW.mark hi hW.v0 hW.v1
      refine g_ret (rd_make (ea_cons (tx e1 (by omega) (by omega) rfl) ea_nil) rfl (by have := (markB_iff.mp hm).1.2; omega) hm fun m dx H2 nm e2 h2 => ?_)
      exact q _ H2 (e1.trans e2) ⟨⟨m, dx, rfl, h2⟩, hm⟩
    · rw [if_neg c1] at q
      refine q_when (b := false) (et_is (et_test (ev_op (ev_wo (ev_var rfl) ha rfl) ev_c rv_eqS)) (decide_eq_false c1)) (fun h => nomatch h) (fun _ H1 e1 => ?_)
      by_cases c2 : W.mode = ("weak" : Str)
      · rw [if_pos c2] at q
        refine q_when (b := true) (et_is (et_test (ev_op (ev_wo (ev_var rfl) (ha.ex e1) rfl) ev_c rv_eqS)) (decide_eq_true c2)) (fun _ H2 e2 => ?_) (fun h => nomatch h)
        have hm := hW.mark hi hW.e0 hW.e1
        refine g_ret (rd_make (ea_cons (tx (e1.trans e2) (by omega) (by omega) rfl) (ea_cons ev_c ea_nil)) rfl (by have := (markB_iff.mp hm).1.2; omega) hm fun m dx H3 nm e3 h3 => ?_)
        exact q _ H3 ((e1.trans e2).trans e3) ⟨⟨m, dx, rfl, h3⟩, hm⟩
      · rw [if_neg c2] at q
        refine q_when (b := false) (et_is (et_test (ev_op (ev_wo (ev_var rfl) (ha.ex e1) rfl) ev_c rv_eqS)) (decide_eq_false c2)) (fun h => nomatch h) (fun _ H2 e2 => ?_)
        exact s_ret ev_c fun H3 e3 => q _ H3 ((e1.trans e2).trans e3) rfl
end
end Z
set_option maxHeartbeats 4000000
namespace Z
open PySem PySem.Spec PyProof.Rows L2 TL Evl NdefX
theorem rel_consV {α : Type} {R : V → α → Prop} {x : V} {o : α} {xs : List V} {os : List α} (r : R x o) (h : Rel R xs os) : Rel R (x :: xs) (o :: os) := ⟨by rw [List.length_cons, List.length_cons, h.1], fun i y u a b => by
  cases i with
  | zero =>
    cases a
    cases b
    exact r
  | succ n => exact h.2 n y u a b⟩
/-! ### lists of fields -/
def EvFs (ta : TA) (σ : L2.St) (H : Hp) (fs : Fs) : Prop := ∀ H1, Ex H H1 → ∀ R : List V → Hp → Prop, (∀ xs H2, Ex H1 H2 → Rel (PfAt H2) xs fs → R xs H2) → ta σ H1 R
section
variable {σ : L2.St} {H : Hp} {ta tr : TA} {fs : Fs} {a b : Str} {Q : VK}
theorem efs_nil : EvFs tNil σ H [] := fun H1 _ R q => q [] H1 (Ex.refl H1) Rel.nil
theorem efs_cons (h : EvA ta σ H [.str a, .str b]) (r : EvFs tr σ H fs) : EvFs (tCons (tTup ta) tr) σ H ((a, b) :: fs) := fun H1 e R q =>
  (eu_tup h (by show 2 ≤ 100000; decide)) H1 e _ fun t H2 nt e2 ht => r H2 (e.trans e2) _ fun xs H3 e3 hr => q _ H3 (e2.trans e3) (rel_consV ⟨t, rfl, e3 _ _ ht⟩ hr)
theorem rd_lstF (h : EvFs ta σ H fs) (hl : fs.length ≤ 100000) (k : ∀ p H', H p = none → Ex H H' → FsAt H' p fs → Q (.ref p) H') : tLst ta σ H Q := h H (Ex.refl H) _ fun xs H1 e1 hr =>
  ⟨by rw [hr.1]; exact sz_of hl, fun p hp => k p _ (fresh_back e1 hp) (e1.trans (Ex.new hp)) ⟨xs, upd_same, hr.mono fun _ _ m => TupAt.ex m (Ex.new hp)⟩⟩
end
theorem Rel.appV {α : Type} {R : V → α → Prop} : ∀ {xs ys : List V} {os ps : List α}, Rel R xs os → Rel R ys ps → Rel R (xs ++ ys) (os ++ ps)
  | [], _, [], _, _, h => h
  | [], _, o :: os, _, h, _ => by have := h.1; cases this
  | x :: xs, _, [], _, h, _ => by have := h.1; cases this
  | x :: xs, ys, o :: os, ps, h, g => rel_consV (h.2 0 x o rfl rfl) (Rel.appV ⟨Nat.succ.inj h.1, fun i y u a b => h.2 (i + 1) y u a b⟩ g)
theorem Rel.takeV {α : Type} {R : V → α → Prop} {xs : List V} {os : List α} (h : Rel R xs os) (n : Nat) : Rel R (xs.take n) (os.take n) := ⟨by rw [List.length_take, List.length_take, h.1], fun i x o a b => by
  rw [List.getElem?_take] at a b
  split at a
  · rename_i hi
    rw [if_pos hi] at b
    exact h.2 i x o a b
  · cases a⟩
theorem Rel.dropV {α : Type} {R : V → α → Prop} {xs : List V} {os : List α} (h : Rel R xs os) (n : Nat) : Rel R (xs.drop n) (os.drop n) := ⟨by rw [List.length_drop, List.length_drop, h.1], fun i x o a b => by
  rw [List.getElem?_drop] at a b
  exact h.2 _ x o a b⟩
def menuL : Fs := ([("if-no-mark", "*"), ("range", "0-4"), ("keep", "age=3"), ("if-part", "\"a\"")] : Fs) ++ ([("if-changed", "999999"), ("x", "if-no-mark"), ("if-part", "0")] : Fs)
theorem rd_consR {te : TE} {tr : TA} {σ : L2.St} {H : Hp} {R : List V → Hp → Prop} (h : te σ H fun x H1 => tr σ H1 fun ys H2 => R (x :: ys) H2) : tCons te tr σ H R := h
theorem q_st {t : TS} {D : Ends} {σ σ' : L2.St} {H : Hp} (e : σ = σ') (h : t D σ' H) : t D σ H := by
  rw [e]
  exact h
theorem menu_ok : ∀ x ∈ menuL, fieldB x = true ∧ x.1 ≠ "if-mark" ∧ x.1 ≠ "if-unchanged" := by decide +kernel
def spFields : Sp := fun vs H Q _ => ∃ (p l0 : Addr), vs = [.ref p] ∧ DwAt H p l0 ∧ ∀ (q : Addr) (fs : Fs) (H' : Hp), H q = none → FsAt H' q fs → (∀ x ∈ fs, x ∈ menuL) → fs.length ≤ 7 → DwAt H' p l0 → Keep p H H' → Q (.ref q) H'
structure FldI (p l0 lm lf : Addr) (H H' : Hp) (i : Nat) : Prop where
  bag : DwAt H' p l0
  kp : Keep p H H'
  mn : FsAt H' lm menuL
  fs : ∃ fs, FsAt H' lf fs ∧ (∀ x ∈ fs, x ∈ menuL) ∧ fs.length ≤ i
theorem FldI.keep {p l0 lm lf : Addr} {i : Nat} {H H1 H2 : Hp} (h : FldI p l0 lm lf H H1 i) (k : Keep p H1 H2) (b : DwAt H2 p l0) (n1 : lm ≠ p) (n2 : lf ≠ p) : FldI p l0 lm lf H H2 i := by
  obtain ⟨fs, g1, g2, g3⟩ := h.fs
  exact ⟨b, h.kp.trans k, h.mn.keep k h.bag.has n1, fs, g1.keep k h.bag.has n2, g2, g3⟩
theorem FldI.ex {p l0 lm lf : Addr} {i : Nat} {H H1 H2 : Hp} (h : FldI p l0 lm lf H H1 i) (e : Ex H1 H2) : FldI p l0 lm lf H H2 i := by
  obtain ⟨fs, g1, g2, g3⟩ := h.fs
  exact ⟨h.bag.ex e, h.kp.trans (Keep.of e), h.mn.ex e, fs, g1.ex e, g2, g3⟩
theorem FldI.mono {p l0 lm lf : Addr} {i j : Nat} {H H1 : Hp} (h : FldI p l0 lm lf H H1 i) (k : i ≤ j) : FldI p l0 lm lf H H1 j := by
  obtain ⟨fs, g1, g2, g3⟩ := h.fs
  exact ⟨h.bag, h.kp, h.mn, fs, g1, g2, Nat.le_trans g3 k⟩
/-! ### what is due -/
def unchW (W : Wo) (v e : Int) (n nm : Option Int) : Bool := if W.mode = ("strong" : Str) then decide (v = W.version) else if W.mode = ("weak" : Str) then decide (e = W.epoch) else match n, nm with
  | some n, some m => if W.gap > W.span then decide (v = W.version) else decide (m ≤ n)
  | _, _ => false
def dueS (W : Wo) (v e : Int) (n nm : Option Int) (k : Int) : Str := if W.there = true then (if unchW W v e n nm = true then "same" else "go") else (if k = 0 then "go" else "failed")
def ntT (v e : Int) (u : V) (n : Option Int) (x : V) : List V := [.int v, .int e, u, optI n, x]
def spUnch : Sp := fun vs H Q _ => ∃ (a t : Addr) (W : Wo) (v e : Int) (u x : V) (n nm : Option Int), vs = [.ref a, .ref t, optI nm] ∧ WoAt H a W ∧ H t = some (.tup (ntT v e u n x)) ∧ RetV (.bl (unchW W v e n nm)) H Q
def spDueW : Sp := fun vs H Q _ => ∃ (a t : Addr) (W : Wo) (v e : Int) (u x : V) (n nm : Option Int) (k : Int), vs = [.ref a, .ref t, optI nm, .int k] ∧ WoAt H a W ∧ H t = some (.tup (ntT v e u n x)) ∧ (k = 0 ∨ k = 1) ∧ RetV (.str (dueS W v e n nm k)) H Q
def spWoT : Sp := fun vs H Q _ => ∃ a W, vs = [.ref a] ∧ WoAt H a W ∧ RetV (.bl true) H Q
section
variable {P : Program} {w : World} {K : PySem.W.Frag} {mg : Str → Option Value} {base : Heap} {f C DV DM DH : Addr} {fd : FuncData} {k : Nat}
theorem ok_law_fieldsV (T : Mg mg) (c_law_take : CTake P w K mg base) (F : FnP K "_law_fields" s_law_fields f fd) (gm : mg "_law_fields" = some (.ref f)) : Call P w K mg base 2 "_law_fields" ["bag"] spFields := by
  refine mk F gm (fun _ _ _ _ _ _ us hl => match us, hl with | [_], _ => rfl) (fun _ _ _ _ _ _ us hl => match us, hl with | [_], _ => rfl) sc_law_fields (fun vs H Q E h => ?_) (fun cdv A outer s H vs Q E hr h => ?_)
  · obtain ⟨p, l0, rfl, _⟩ := h
    rfl
  · obtain ⟨p, l0, rfl, b, q⟩ := h
    refine ⟨_, (pss_cons (ps_set (i := 1) sc_law_fields.nd rfl (Or.inl rfl) (pe_lst (pa_cons (pe_tup (pa_cons pe_str (pa_cons pe_str pa_nil))) (pa_cons (pe_tup (pa_cons pe_str (pa_cons pe_str pa_nil))) (pa_cons (pe_tup (pa_cons pe_str (pa_cons pe_str pa_nil))) (pa_cons (pe_tup (pa_cons pe_str (pa_cons pe_str pa_nil))) pa_nil))))))
    (pss_cons (ps_set (i := 1) sc_law_fields.nd rfl (Or.inl rfl) (pe_op op_cat (pv 1) (pe_lst (pa_cons (pe_tup (pa_cons pe_str (pa_cons pe_str pa_nil))) (pa_cons (pe_tup (pa_cons pe_str (pa_cons pe_str pa_nil))) (pa_cons (pe_tup (pa_cons pe_str (pa_cons pe_str pa_nil))) pa_nil))))))
    (pss_cons (ps_set (i := 2) sc_law_fields.nd rfl (Or.inl rfl) (pe_lst pa_nil))
    (pss_cons (ps_for PassesOwn.never rfl (pi_list (pv 1)) (pg_name (i := 3) sc_law_fields.nd rfl (Or.inl rfl))
      (pss_one (ps_if (pt_cmpR op_eq (pe_f c_law_take hr (by decide) rfl (pa_cons (pv 0) (pa_cons pe_int pa_nil))) pe_int (nomark _))
        (pss_one (ps_expr (pe_bm PySem.F.plainAttrs_list PySem.F.slot_list_insert PySem.F.type_list_insert mt_insert (pv 2) (pa_cons (pe_f c_law_take hr (by decide) rfl (pa_cons (pv 0) (pa_cons (pe_op op_add (pe_callB call_len_seq (by rfl) T.len (by decide +kernel) (pa_cons (pv 2) pa_nil)) pe_int) pa_nil))) (pa_cons (pv 3) pa_nil)))))
        pss_nil)))
    (pss_one (ps_ret (pv 2))))))), ?_⟩
    have s2 : ∀ {σ : L2.St} {H' : Hp} {a z : Str}, EvA (tCons (tC (.str a)) (tCons (tC (.str z)) tNil)) σ H' [.str a, .str z] := ea_cons ev_c (ea_cons ev_c ea_nil)
    refine q_asgR (rd_lstF (fs := [("if-no-mark", "*"), ("range", "0-4"), ("keep", "age=3"), ("if-part", "\"a\"")]) (efs_cons s2 (efs_cons s2 (efs_cons s2 (efs_cons s2 efs_nil)))) (by decide) fun l1 H1 n1 e1 h1 => ?_)
    try dsimp only
    refine q_asgR (rd_opR ⟨_, rfl, rd_lstF (fs := [("if-changed", "999999"), ("x", "if-no-mark"), ("if-part", "0")]) (efs_cons s2 (efs_cons s2 (efs_cons s2 efs_nil))) (by decide) fun l2 H2 n2 e2 h2 => ?_⟩)
    obtain ⟨xs, hx, hxr⟩ := h1.ex e2
    obtain ⟨ys, hy, hyr⟩ := h2
    refine ⟨l1, l2, xs, ys, rfl, rfl, hx, hy, sz_of (by rw [hxr.1, hyr.1]; decide), fun lm nm => ?_⟩
    try dsimp only
    have eM := Ex.new (o := .lst (xs ++ ys)) nm
    have hm : FsAt (upd H2 lm (.lst (xs ++ ys))) lm menuL := ⟨_, upd_same, (hxr.appV hyr).mono fun _ _ m => TupAt.ex m eM⟩
    have e02 := (e1.trans e2).trans eM
    have nm0 : lm ≠ p := ((b.ex (e1.trans e2)).ne nm).1
    generalize upd H2 lm (.lst (xs ++ ys)) = H3 at hm e02
    clear eM h1 hx hy hxr hyr
    refine q_asgL (xs := []) (el_lst ea_nil (by decide)) fun lf H4 nf e4 hf => ?_
    try dsimp only
    have e04 := e02.trans e4
    have nf0 : lf ≠ p := ((b.ex e02).ne nf).1
    have nmf : lm ≠ lf := by
      obtain ⟨zs, hz, _⟩ := hm
      exact ne_of_none hz nf
    have nfH : H lf = none := fresh_back e02 nf
    have i0 : FldI p l0 lm lf H H4 0 := ⟨b.ex e04, Keep.of e04, hm.ex e4, [], ⟨[], hf, Rel.nil⟩, (fun x h => nomatch h), Nat.le_refl _⟩
    obtain ⟨zs, hz, hzr⟩ := id i0.mn
    have hlen : zs.length = 7 := hzr.1
    refine q_forLn (xs := zs) (ev_var rfl) (sq_of hz) (fun i σ' H' => (∃ v, σ' = [some (.ref p), some (.ref lm), some (.ref lf), v]) ∧ FldI p l0 lm lf H H' i ∧ H' lm = some (.lst zs)) (fun H5 e5 => ⟨⟨none, rfl⟩, i0.ex e5, e5 _ _ hz⟩) (fun i σ' H' _ pv => sq_of pv.2.2) (fun i x σ' H5 hx pv => ?_) (fun σ' H5 pv => ?_)
    · obtain ⟨⟨v, rfl⟩, I5, hz5⟩ := pv
      obtain ⟨zs5, hz5', hzr5⟩ := id I5.mn
      have ez : zs5 = zs := by rw [hz5] at hz5'; cases hz5'; rfl
      subst ez
      obtain ⟨o, ho, t, rfl, ht⟩ := hzr5.get hx
      have hom := List.mem_of_getElem? ho
      refine rd_take (ea_cons (ev_var rfl) (ea_cons ev_c ea_nil)) I5.bag (by decide) (by decide) fun d H6 d0 d1 b6 k6 => ev_c H6 (Ex.refl H6) _ fun H7 e7 => rv_eqI H7 (Ex.refl H7) _ fun H8 e8 => ⟨_, rfl, ?_⟩
      have e78 := e7.trans e8
      have I8 := (I5.keep k6 b6 nm0 nf0).ex e78
      have hz8 := e78 _ _ (k6 _ _ nm0 hz5)
      have ht8 := e78 _ _ (k6 _ _ (fun e => by obtain ⟨ws, hw⟩ := I5.bag.has; rw [e, hw] at ht; cases ht) ht)
      dsimp only
      by_cases hd : d = 0
      · rw [if_pos (decide_eq_true hd)]
        obtain ⟨fs, ⟨ws, hws, hwr⟩, hfm, hfl⟩ := id I8.fs
        have hwl : ws.length ≤ 7 := by
          have := (List.getElem?_eq_some_iff.mp hx).1
          rw [hwr.1]
          omega
        refine g_drop ⟨_, rfl, Or.inl ⟨rfl, ws, sq_of hws⟩, rd_consR (rd_take (lim := (ws.length : Int) + 1) (ea_cons (ev_var rfl) (ea_cons (ev_op (ev_len (ev_var rfl) (sq_of hws)) ev_c rv_I0) ea_nil)) I8.bag (by omega) (by omega) fun s H9 s0 s1 b9 k9 => rd_consE (ev_var rfl) fun HA eA => rd_nil ?_)⟩
        have hwA := eA _ _ (k9 _ _ nf0 hws)
        have htA := eA _ _ (k9 _ _ (fun e => by obtain ⟨ws, hw⟩ := I8.bag.has; rw [e, hw] at ht8; cases ht8) ht8)
        have IA := (I8.keep k9 b9 nm0 nf0).ex eA
        obtain ⟨fs2, ⟨ws2, hws2, hwr2⟩, hfm2, hfl2⟩ := id IA.fs
        have ew : ws2 = ws := by rw [hwA] at hws2; cases hws2; rfl
        subst ew
        refine ⟨lf, ws2, s, .ref t, rfl, rfl, hwA, sz_lt (by omega), s0, by omega, ⟨_, rfl⟩, ?_, ?_⟩
        · have kU : Keep lf HA (upd HA lf (.lst (ws2.take s.toNat ++ [.ref t] ++ ws2.drop s.toNat))) := (Keep.of (Ex.refl HA)).upd
          refine ⟨(IA.bag.upd ⟨nf0, fun e => ?_⟩), IA.kp.mut nfH, IA.mn.keep kU ⟨_, hwA⟩ nmf, fs2.take s.toNat ++ [o] ++ fs2.drop s.toNat, ⟨_, upd_same, ?_⟩, fun y hy => ?_, ?_⟩
          · obtain ⟨cs, c1, c2, c3, g1, g2, _⟩ := b
            rw [← e, nfH] at g2
            cases g2
          · exact (((hwr2.takeV s.toNat).appV (rel_consV ⟨t, rfl, htA⟩ Rel.nil)).appV (hwr2.dropV s.toNat)).mono fun _ _ m => TupAt.keep m kU ⟨_, hwA⟩
          · rcases List.mem_append.mp hy with hy | hy
            · rcases List.mem_append.mp hy with hy | hy
              · exact hfm2 y (List.mem_of_mem_take hy)
              · rw [List.mem_singleton.mp hy]; exact hom
            · exact hfm2 y (List.mem_of_mem_drop hy)
          · rw [List.length_append, List.length_append, List.length_take, List.length_drop]
            show min s.toNat fs2.length + 1 + (fs2.length - s.toNat) ≤ i + 1
            omega
        · rw [upd_ne nmf]
          exact eA _ _ (k9 _ _ nm0 hz8)
      · rw [if_neg (by rw [decide_eq_true_eq]; exact hd)]
        exact ⟨⟨_, rfl⟩, I8.mono (by omega), hz8⟩
    · obtain ⟨⟨v, rfl⟩, I5, hz5⟩ := pv
      rw [hlen] at I5
      refine s_ret (ev_var rfl) fun H6 e6 => ?_
      have I6 := I5.ex e6
      obtain ⟨fs, g1, g2, g3⟩ := I6.fs
      exact q lf fs H6 nfH g1 g2 g3 I6.bag I6.kp
theorem ok_law_truth_of_settled (c_settled : Call P w K mg base 1 "settled" ["changed", "date", "margin"] spSettled) (c_law_truth : Call P w K mg base 1 "_law_truth" ["actual", "due"] spTruth) (c_law_shown : Call P w K mg base 1 "_law_shown" ["world"] (spWoV fun W => .int (shownW W))) (c_law_is_settled : Call P w K mg base 2 "_law_is_settled" ["world"] (spWoV fun W => .bl (stlW W)))
    (F : FnP K "_law_truth_of_settled" s_law_truth_of_settled f fd) (gm : mg "_law_truth_of_settled" = some (.ref f)) : Call P w K mg base 3 "_law_truth_of_settled" ["world"] spWoT := by
  refine mk F gm (fun _ _ _ _ _ _ us hl => match us, hl with | [_], _ => rfl) (fun _ _ _ _ _ _ us hl => match us, hl with | [_], _ => rfl) sc_law_truth_of_settled (fun vs H Q E h => ?_) (fun cdv A outer s H vs Q E hr h => ?_)
  · obtain ⟨a, W, rfl, _⟩ := h
    rfl
  · obtain ⟨a, W, rfl, ha, q⟩ := h
    refine ⟨_, (pss_cons (ps_set (i := 1) sc_law_truth_of_settled.nd rfl (Or.inl rfl) (pe_dget hr.units1 (pv 0) pe_str (fun _ _ => rfl)))
    (pss_cons (ps_set (i := 2) sc_law_truth_of_settled.nd rfl (Or.inl rfl) (pe_dget hr.units1 (pv 0) pe_str (fun _ _ => rfl)))
    (pss_cons (ps_set (i := 3) sc_law_truth_of_settled.nd rfl (Or.inl rfl) (pe_f c_law_shown hr (by decide) rfl (pa_cons (pv 0) pa_nil)))
    (pss_cons (ps_if (pt_not (pt_val (pe_f c_law_truth hr (by decide) rfl (pa_cons (pe_f c_settled hr (by decide) rfl (pa_cons (pv 1) (pa_cons (pv 3) (pa_cons (pv 2) pa_nil)))) (pa_cons (pe_f c_law_is_settled hr (by decide) rfl (pa_cons (pv 0) pa_nil)) pa_nil)))))
      (pss_one (ps_ret pe_bl))
      pss_nil)
    (pss_cons (ps_if (pt_not (pt_val (pe_f c_law_truth hr (by decide) rfl (pa_cons (pe_f c_settled hr (by decide) rfl (pa_cons pe_non (pa_cons (pv 3) (pa_cons (pv 2) pa_nil)))) (pa_cons pe_bl pa_nil)))))
      (pss_one (ps_ret pe_bl))
      pss_nil)
    (pss_cons (ps_if (pt_not (pt_val (pe_f c_law_truth hr (by decide) rfl (pa_cons (pe_f c_settled hr (by decide) rfl (pa_cons (pv 1) (pa_cons pe_non (pa_cons (pv 2) pa_nil)))) (pa_cons pe_bl pa_nil)))))
      (pss_one (ps_ret pe_bl))
      pss_nil)
    (pss_cons (ps_if (pt_not (pt_val (pe_f c_law_truth hr (by decide) rfl (pa_cons (pe_fk c_settled hr (by decide) rfl (pk_cons (pv 1) (pk_cons (pe_op op_add (pv 1) (pv 2)) (pk_cons (pv 2) pk_nil)))) (pa_cons pe_bl pa_nil)))))
      (pss_one (ps_ret pe_bl))
      pss_nil)
    (pss_one (ps_ret (pe_f c_law_truth hr (by decide) rfl (pa_cons (pe_f c_settled hr (by decide) rfl (pa_cons (pv 1) (pa_cons (pe_op op_sub (pe_op op_add (pv 1) (pv 2)) pe_int) (pa_cons (pv 2) pa_nil)))) (pa_cons pe_bl pa_nil)))))))))))), ?_⟩
    refine q_asg (ev_wo (ev_var rfl) ha rfl) fun H1 e1 => ?_
    try dsimp only
    refine q_asg (ev_wo (ev_var rfl) (ha.ex e1) rfl) fun H2 e2 => ?_
    try dsimp only
    refine q_asg (ev_call (z := .int (shownW W)) (ea_cons (ev_var rfl) ea_nil) fun H3 e3 Q' q' E' => ⟨a, W, rfl, ha.ex ((e1.trans e2).trans e3), q'⟩) fun H3 e3 => ?_
    try dsimp only
    have e03 := (e1.trans e2).trans e3
    refine q_st (σ' := [some (.ref a), some (.int W.reading), some (.int W.gap), some (.int (shownW W))]) rfl ?_
    have st : ∀ {ta tb tc : TE} {σ : L2.St} {H : Hp} {c d : Option Int} {m : Int}, Ev ta σ H (optI c) → Ev tb σ H (optI d) → Ev tc σ H (.int m) → Ev (tCall spSettled [] E0 (tCons ta (tCons tb (tCons tc tNil)))) σ H (.bl (optB c d m)) := fun {ta tb tc σ H c d m} h1 h2 h3 => ev_call (ea_cons h1 (ea_cons h2 (ea_cons h3 ea_nil))) fun H1 e1 Q' q' E' => ⟨c, d, m, rfl, q'⟩
    have tr : ∀ {ta tb : TE} {σ : L2.St} {H : Hp} {x y : Bool}, Ev ta σ H (.bl x) → Ev tb σ H (.bl y) → x = y → Ev (tCall spTruth [] E0 (tCons ta (tCons tb tNil))) σ H (.bl true) := fun {ta tb σ H x y} h1 h2 h => ev_call (ea_cons h1 (ea_cons h2 ea_nil)) fun H1 e1 Q' q' E' => ⟨x, y, rfl, by rw [decide_eq_true h]; exact q'⟩
    have tn : ∀ {te : TE} {σ : L2.St} {H : Hp}, Ev te σ H (.bl true) → EvT (tNot (tB te)) σ H false := fun h => et_is (et_not (et_B h)) rfl
    refine q_when (b := false) (tn (tr (st (c := some W.reading) (d := some (shownW W)) (ev_var rfl) (ev_var rfl) (ev_var rfl)) (ev_call (z := .bl (stlW W)) (ea_cons (ev_var rfl) ea_nil) fun H4 e4 Q' q' E' => ⟨a, W, rfl, ha.ex (e03.trans e4), q'⟩) rfl)) (fun h => nomatch h) (fun _ H4 e4 => ?_)
    refine q_when (b := false) (tn (tr (st (c := none) (d := some (shownW W)) ev_c (ev_var rfl) (ev_var rfl)) ev_c rfl)) (fun h => nomatch h) (fun _ H5 e5 => ?_)
    refine q_when (b := false) (tn (tr (st (c := some W.reading) (d := none) (ev_var rfl) ev_c (ev_var rfl)) ev_c rfl)) (fun h => nomatch h) (fun _ H6 e6 => ?_)
    refine q_when (b := false) (tn (tr (ev_callN (z := .bl (optB (some W.reading) (some (W.reading + W.gap)) W.gap)) (ea_cons (ev_var rfl) (ea_cons (ev_op (ev_var rfl) (ev_var rfl) rv_I0) (ea_cons (ev_var rfl) ea_nil))) rfl fun H7 e7 Q' q' E' => ⟨some W.reading, some (W.reading + W.gap), W.gap, rfl, q'⟩) ev_c (decide_eq_true (by omega)))) (fun h => nomatch h) (fun _ H7 e7 => ?_)
    exact s_ret (v := .bl true) (tr (st (c := some W.reading) (d := some (W.reading + W.gap - 1)) (ev_var rfl) (ev_op (ev_op (ev_var rfl) (ev_var rfl) rv_I0) ev_c rv_I0) (ev_var rfl)) ev_c (decide_eq_false (by omega))) fun H8 e8 => q H8 (((((e03.trans e4).trans e5).trans e6).trans e7).trans e8)
theorem ok_law_unchanged (F : FnP K "_law_unchanged" s_law_unchanged f fd) (gm : mg "_law_unchanged" = some (.ref f)) : Call P w K mg base 1 "_law_unchanged" ["world", "note", "number"] spUnch := by
  refine mk F gm (fun _ _ _ _ _ _ us hl => match us, hl with | [_, _, _], _ => rfl) (fun _ _ _ _ _ _ us hl => match us, hl with | [_, _, _], _ => rfl) sc_law_unchanged (fun vs H Q E h => ?_) (fun cdv A outer s H vs Q E hr h => ?_)
  · obtain ⟨a, t, W, v, e, u, x, n, nm, rfl, _⟩ := h
    rfl
  · obtain ⟨a, t, W, v, e, u, x, n, nm, rfl, ha, ht, q⟩ := h
    refine ⟨_, (pss_cons (ps_if (pt_cmpR op_eq (pe_dget hr.units1 (pv 0) pe_str (fun _ _ => rfl)) pe_str (nomark _))
      (pss_one (ps_ret (pe_cmpR op_eq (pe_ix ix_tup (pv 1) pe_int (fun _ _ => rfl)) (pe_dget hr.units1 (pv 0) pe_str (fun _ _ => rfl)) (nomark _))))
      pss_nil)
    (pss_cons (ps_if (pt_cmpR op_eq (pe_dget hr.units1 (pv 0) pe_str (fun _ _ => rfl)) pe_str (nomark _))
      (pss_one (ps_ret (pe_cmpR op_eq (pe_ix ix_tup (pv 1) pe_int (fun _ _ => rfl)) (pe_dget hr.units1 (pv 0) pe_str (fun _ _ => rfl)) (nomark _))))
      pss_nil)
    (pss_cons (ps_if (PW.pt (pw_or (pt_cmpR op_isN1 (pe_ix ix_tup (pv 1) pe_int (fun _ _ => rfl)) pe_non (nomark _)) (pw_or1 (pt_cmpR op_isN1 (pv 2) pe_non (nomark _)))))
      (pss_one (ps_ret pe_bl))
      pss_nil)
    (pss_cons (ps_if (pt_cmpR op_gt (pe_dget hr.units1 (pv 0) pe_str (fun _ _ => rfl)) (pe_dget hr.units1 (pv 0) pe_str (fun _ _ => rfl)) (nomark _))
      (pss_one (ps_ret (pe_cmpR op_eq (pe_ix ix_tup (pv 1) pe_int (fun _ _ => rfl)) (pe_dget hr.units1 (pv 0) pe_str (fun _ _ => rfl)) (nomark _))))
      pss_nil)
    (pss_one (ps_ret (pe_cmpR op_le (pv 2) (pe_ix ix_tup (pv 1) pe_int (fun _ _ => rfl)) (nomark _)))))))), ?_⟩
    unfold unchW at q
    have it : ∀ {σ : L2.St} {H' : Hp} (j : Nat) {y : V}, Ex H H' → σ[1]? = some (some (.ref t)) → (ntT v e u n x)[j]? = some y → Ev (tOp (rIxT K) (tVar 1) (tC (.int (j : Int)))) σ H' y := fun j y e h0 hv => ev_ixT (ev_var h0) ev_c (e _ _ ht) (atI_nat hv)
    by_cases c1 : W.mode = ("strong" : Str)
    · rw [if_pos c1] at q
      refine q_when (b := true) (et_is (et_test (ev_op (ev_wo (ev_var rfl) ha rfl) ev_c rv_eqS)) (decide_eq_true c1)) (fun _ H1 e1 => ?_) (fun h => nomatch h)
      exact s_ret (ev_op (it 0 e1 rfl rfl) (ev_wo (ev_var rfl) (ha.ex e1) rfl) rv_eqI) fun H2 e2 => q H2 (e1.trans e2)
    rw [if_neg c1] at q
    refine q_when (b := false) (et_is (et_test (ev_op (ev_wo (ev_var rfl) ha rfl) ev_c rv_eqS)) (decide_eq_false c1)) (fun h => nomatch h) (fun _ H1 e1 => ?_)
    by_cases c2 : W.mode = ("weak" : Str)
    · rw [if_pos c2] at q
      refine q_when (b := true) (et_is (et_test (ev_op (ev_wo (ev_var rfl) (ha.ex e1) rfl) ev_c rv_eqS)) (decide_eq_true c2)) (fun _ H2 e2 => ?_) (fun h => nomatch h)
      have e12 := e1.trans e2
      exact s_ret (ev_op (it 1 e12 rfl rfl) (ev_wo (ev_var rfl) (ha.ex e12) rfl) rv_eqI) fun H3 e3 => q H3 (e12.trans e3)
    rw [if_neg c2] at q
    refine q_when (b := false) (et_is (et_test (ev_op (ev_wo (ev_var rfl) (ha.ex e1) rfl) ev_c rv_eqS)) (decide_eq_false c2)) (fun h => nomatch h) (fun _ H2 e2 => ?_)
    have e12 := e1.trans e2
    cases n with
    | none =>
      refine q_when (b := true) (et_is (et_or (a := true) (b := true) (et_is (et_test (ev_op (it 3 e12 rfl rfl) ev_c rv_isN)) rfl) (fun h => nomatch h)) rfl) (fun _ H3 e3 => ?_) (fun h => nomatch h)
      exact s_ret ev_c fun H4 e4 => q H4 ((e12.trans e3).trans e4)
    | some n =>
      cases nm with
      | none =>
        refine q_when (b := true) (et_is (et_or (a := false) (b := true) (et_is (et_test (ev_op (it 3 e12 rfl rfl) ev_c rv_isN)) rfl) (fun _ => et_is (et_test (ev_op (ev_var rfl) ev_c rv_isN)) rfl)) rfl) (fun _ H3 e3 => ?_) (fun h => nomatch h)
        exact s_ret ev_c fun H4 e4 => q H4 ((e12.trans e3).trans e4)
      | some m =>
        refine q_when (b := false) (et_is (et_or (a := false) (b := false) (et_is (et_test (ev_op (it 3 e12 rfl rfl) ev_c rv_isN)) rfl) (fun _ => et_is (et_test (ev_op (ev_var rfl) ev_c rv_isN)) rfl)) rfl) (fun h => nomatch h) (fun _ H3 e3 => ?_)
        have e13 := e12.trans e3
        dsimp only at q
        refine q_when (b := decide (W.gap > W.span)) (et_test (ev_op (ev_wo (ev_var rfl) (ha.ex e13) rfl) (ev_wo (ev_var rfl) (ha.ex e13) rfl) rv_I0)) (fun hb H4 e4 => ?_) (fun hb H4 e4 => ?_)
        · rw [if_pos (of_decide_eq_true hb)] at q
          have e14 := e13.trans e4
          exact s_ret (ev_op (it 0 e14 rfl rfl) (ev_wo (ev_var rfl) (ha.ex e14) rfl) rv_eqI) fun H5 e5 => q H5 (e14.trans e5)
        · rw [if_neg (of_decide_eq_false hb)] at q
          have e14 := e13.trans e4
          exact s_ret (ev_op (ev_var rfl) (it 3 e14 rfl rfl) rv_I0) fun H5 e5 => q H5 (e14.trans e5)
theorem ok_law_dueV (c_law_unchanged : Call P w K mg base 1 "_law_unchanged" ["world", "note", "number"] spUnch) (F : FnP K "_law_due" s_law_due f fd) (gm : mg "_law_due" = some (.ref f)) : Call P w K mg base 2 "_law_due" ["world", "note", "number", "starred"] spDueW := by
  refine mk F gm (fun _ _ _ _ _ _ us hl => match us, hl with | [_, _, _, _], _ => rfl) (fun _ _ _ _ _ _ us hl => match us, hl with | [_, _, _, _], _ => rfl) sc_law_due (fun vs H Q E h => ?_) (fun cdv A outer s H vs Q E hr h => ?_)
  · obtain ⟨a, t, W, v, e, u, x, n, nm, k, rfl, _⟩ := h
    rfl
  · obtain ⟨a, t, W, v, e, u, x, n, nm, k, rfl, ha, ht, hk, q⟩ := h
    refine ⟨_, (pss_cons (ps_if (pt_not (pt_val (pe_dget hr.units1 (pv 0) pe_str (fun _ _ => rfl))))
      (pss_one (ps_ret (pe_ix ix_list (pe_lst (pa_cons pe_str (pa_cons pe_str pa_nil))) (pv 3) (fun _ _ => rfl))))
      pss_nil)
    (pss_cons (ps_if (pt_val (pe_f c_law_unchanged hr (by decide) rfl (pa_cons (pv 0) (pa_cons (pv 1) (pa_cons (pv 2) pa_nil)))))
      (pss_one (ps_ret pe_str))
      pss_nil)
    (pss_one (ps_ret pe_str)))), ?_⟩
    unfold dueS at q
    refine q_when (b := !W.there) (et_not (et_B (ev_wo (ev_var rfl) ha rfl))) (fun hb H1 e1 => ?_) (fun hb H1 e1 => ?_)
    · rw [if_neg (by rw [Bool.not_eq_true'] at hb; rw [hb]; exact Bool.noConfusion)] at q
      refine s_ret (ev_opL1 (xs := [.str "go", .str "failed"]) (el_lst (ea_cons ev_c (ea_cons ev_c ea_nil)) (by show 2 ≤ 100000; decide)) (fun H2 e2 => ev_var rfl) fun p H2 hp e2 => rv_ixL (sq_of hp) ?_) fun H3 e3 => q H3 (e1.trans e3)
      rcases hk with rfl | rfl
      · exact atI_nat (j := 0) rfl
      · exact atI_nat (j := 1) rfl
    · rw [if_pos (by rw [Bool.not_eq_false'] at hb; exact hb)] at q
      refine q_when (b := unchW W v e n nm) (et_B (ev_call (ea_cons (ev_var rfl) (ea_cons (ev_var rfl) (ea_cons (ev_var rfl) ea_nil))) fun H2 e2 Q' q' E' => ⟨a, t, W, v, e, u, x, n, nm, rfl, (ha.ex e1).ex e2, (e1.trans e2) _ _ ht, q'⟩)) (fun hb H2 e2 => ?_) (fun hb H2 e2 => ?_)
      · rw [if_pos hb] at q
        exact s_ret ev_c fun H3 e3 => q H3 ((e1.trans e2).trans e3)
      · rw [if_neg (by rw [hb]; exact Bool.noConfusion)] at q
        exact s_ret ev_c fun H3 e3 => q H3 ((e1.trans e2).trans e3)
end
end Z
set_option maxHeartbeats 4000000
namespace Z
open PySem PySem.Spec PyProof.Rows L2 TL Evl NdefX
/-! ### what a checking request's conditions say -/
theorem valsF_app (fs gs : Fs) (n : Str) : valsF (fs ++ gs) n = valsF fs n ++ valsF gs n := by
  unfold valsF
  rw [List.filter_append, List.map_append]
theorem outF_app (fs gs : Fs) (ns : List Str) : outF (fs ++ gs) ns = outF fs ns ++ outF gs ns := List.filter_append ..
theorem valsF_no {fs : Fs} {n : Str} (h : ∀ x ∈ fs, x.1 ≠ n) : valsF fs n = [] := by
  unfold valsF
  rw [List.filter_eq_nil_iff.mpr fun x hx => by rw [decide_eq_true_eq]; exact h x hx]
  rfl
theorem outF_mem {fs : Fs} {ns : List Str} {x : Str × Str} (h : x ∈ outF fs ns) : x ∈ fs := (List.mem_filter.mp h).1
def starF (st : Bool) : List Str := if st = true then [("*" : Str)] else []
def okS (st : Bool) (fs : Fs) : Prop := valsF (outF fs own) "if-mark" = starF st ∧ valsF (outF fs own) "if-unchanged" = []
theorem okS_plain {fs : Fs} (h : ∀ x ∈ fs, x ∈ menuL) : okS false fs := ⟨valsF_no fun x hx => (menu_ok x (h x (outF_mem hx))).2.1, valsF_no fun x hx => (menu_ok x (h x (outF_mem hx))).2.2⟩
theorem okS_star {fs gs : Fs} (h : ∀ x ∈ fs, x ∈ menuL) (k : ∀ x ∈ gs, x ∈ menuL) : okS true (fs ++ [(("if-mark" : Str), ("*" : Str))] ++ gs) := by
  have d1 : outF [(("if-mark" : Str), ("*" : Str))] own = [(("if-mark" : Str), ("*" : Str))] := by decide +kernel
  have d2 : valsF [(("if-mark" : Str), ("*" : Str))] "if-mark" = [("*" : Str)] := by decide +kernel
  have d3 : valsF [(("if-mark" : Str), ("*" : Str))] "if-unchanged" = [] := by decide +kernel
  obtain ⟨a1, a2⟩ := okS_plain h
  obtain ⟨b1, b2⟩ := okS_plain k
  constructor
  · rw [outF_app, outF_app, valsF_app, valsF_app, a1, b1, d1, d2]; rfl
  · rw [outF_app, outF_app, valsF_app, valsF_app, a2, b2, d1, d3]; rfl
def sameC (m : Option (Str × Bool)) (n : Option Int) (pm : Pm) : Bool := match m with
  | some o => (match pm.1 with | some q => decide (o.1 = q.1) | none => false)
  | none => match n, pm.2 with
    | some n, some i => decide (i ≤ n)
    | _, _ => false
def dueC (st : Bool) (m : Option (Str × Bool)) (n : Option Int) (p : Option Pm) : Str := match p with
  | none => if st = true then ("failed" : Str) else ("go" : Str)
  | some pm => if sameC m n pm = true then ("same" : Str) else ("go" : Str)
theorem own_ne : ("if-no-mark" : Str) ≠ "if-mark" ∧ ("if-changed" : Str) ≠ "if-mark" ∧ ("if-no-mark" : Str) ≠ "if-unchanged" ∧ ("if-changed" : Str) ≠ "if-unchanged" ∧ ("if-no-mark" : Str) ≠ "if-changed" ∧ ("if-changed" : Str) ≠ "if-no-mark" := by decide +kernel
theorem own_in : ("if-no-mark" : Str) ∈ own ∧ ("if-changed" : Str) ∈ own := by decide +kernel
theorem valsF_one (n x k : Str) : valsF [(n, x)] k = if n = k then [x] else [] := by
  have := vals_app [] n x k
  rw [List.nil_append] at this
  rw [this]
  rfl
def noM : Option (Str × Bool) → List Str
  | some o => [wrZ o.1 o.2]
  | none => []
def chI : Option Int → List Str
  | some i => [numS i]
  | none => []
theorem callS_eq {st : Bool} {r : RqT} {m : Option (Str × Bool)} {n : Option Int} {p : Option Pm} (hget : r.1 = "get") (h : okS st r.2.2.1) (hm : ∀ o, m = some o → markB o.1 = true) (hn : okI n) : callS (chkR r (ckO m n)) p = dueC st m n p := by
  obtain ⟨h1, h2⟩ := h
  obtain ⟨n1, n2, n3, n4, n5, n6⟩ := own_ne
  have v1 : valsF (chkR r (ckO m n)).2.2.1 "if-mark" = starF st := by
    show valsF (outF r.2.2.1 own ++ (ckO m n).toList) _ = _
    rw [valsF_app, h1]
    cases m with
    | some o =>
      show _ ++ valsF [(("if-no-mark" : Str), wrZ o.1 o.2)] _ = _
      rw [valsF_one, if_neg n1, List.append_nil]
    | none =>
      cases n with
      | some i =>
        show _ ++ valsF [(("if-changed" : Str), numS i)] _ = _
        rw [valsF_one, if_neg n2, List.append_nil]
      | none => exact List.append_nil _
  have v2 : valsF (chkR r (ckO m n)).2.2.1 "if-unchanged" = [] := by
    show valsF (outF r.2.2.1 own ++ (ckO m n).toList) _ = _
    rw [valsF_app, h2]
    cases m with
    | some o =>
      show _ ++ valsF [(("if-no-mark" : Str), wrZ o.1 o.2)] _ = _
      rw [valsF_one, if_neg n3]; rfl
    | none =>
      cases n with
      | some i =>
        show _ ++ valsF [(("if-changed" : Str), numS i)] _ = _
        rw [valsF_one, if_neg n4]; rfl
      | none => rfl
  have v3 : valsF (chkR r (ckO m n)).2.2.1 "if-no-mark" = noM m := by
    show valsF (outF r.2.2.1 own ++ (ckO m n).toList) _ = _
    rw [valsF_app, vals_out _ own_in.1]
    cases m with
    | some o =>
      show [] ++ valsF [(("if-no-mark" : Str), wrZ o.1 o.2)] _ = _
      rw [valsF_one, if_pos rfl]; rfl
    | none =>
      cases n with
      | some i =>
        show [] ++ valsF [(("if-changed" : Str), numS i)] _ = _
        rw [valsF_one, if_neg n6]; rfl
      | none => rfl
  have v4 : m = none → valsF (chkR r (ckO m n)).2.2.1 "if-changed" = chI n := fun hm0 => by
    show valsF (outF r.2.2.1 own ++ (ckO m n).toList) _ = _
    rw [valsF_app, vals_out _ own_in.2, hm0]
    cases n with
    | some i =>
      show [] ++ valsF [(("if-changed" : Str), numS i)] _ = _
      rw [valsF_one, if_pos rfl]; rfl
    | none => rfl
  have w1 : marksO (chkR r (ckO m n)).2.2.1 "if-mark" = if st = true then some (true, []) else none := by
    unfold marksO
    cases st with
    | true => rw [joinF_one v1]; exact congrArg some markL_star
    | false => rw [join_none v1]; rfl
  have w2 : readF (chkR r (ckO m n)).2.2.1 "if-unchanged" = .non := by
    unfold readF
    rw [join_none v2]
  have hh : holdsB (chkR r (ckO m n)) p = (p.isSome || !st) := by
    unfold holdsB
    rw [w1, w2]
    cases st with
    | true =>
      cases p with
      | none => rfl
      | some pm =>
        show hasB stB (true, []) pm.1 = true
        cases pm.1 with
        | none => rfl
        | some q => rfl
    | false => cases p <;> rfl
  have g1 : (chkR r (ckO m n)).1 = "get" := hget
  unfold callS
  rw [hh, g1]
  cases p with
  | none =>
    cases st with
    | true => rfl
    | false =>
      show _ = ("go" : Str)
      cases m with
      | some o =>
        have w3 : marksO (chkR r (ckO (some o) n)).2.2.1 "if-no-mark" = some (markL (wrZ o.1 o.2)) := by
          unfold marksO
          rw [joinF_one v3]
          rfl
        rw [w3]
        rfl
      | none =>
        have w3 : marksO (chkR r (ckO none n)).2.2.1 "if-no-mark" = none := by
          unfold marksO
          rw [join_none v3]
          rfl
        rw [w3]
        show (if (decide (("get" : Str) = "get") && unchB (chkR r (ckO none n)) none) = true then _ else _) = _
        have : unchB (chkR r (ckO none n)) none = false := by
          unfold unchB
          rcases readF_kind (chkR r (ckO none n)).2.2.1 "if-changed" with e | ⟨i, e⟩ <;> rw [e]
        rw [this, Bool.and_false, if_neg Bool.false_ne_true]
  | some pm =>
    show _ = (if sameC m n pm = true then ("same" : Str) else ("go" : Str))
    cases m with
    | some o =>
      have w3 : marksO (chkR r (ckO (some o) n)).2.2.1 "if-no-mark" = some (false, [o]) := by
        unfold marksO
        rw [joinF_one v3]
        exact congrArg some (markL_wr (hm o rfl))
      rw [w3]
      show (if hasB wkB (false, [o]) pm.1 = true then (if ("get" : Str) = "get" then ("same" : Str) else ("failed" : Str)) else ("go" : Str)) = _
      rw [if_pos (rfl : ("get" : Str) = "get")]
      have e : hasB wkB (false, [o]) pm.1 = sameC (some o) n pm := by
        unfold hasB sameC
        cases pm.1 with
        | none => rfl
        | some q =>
          show (false || (wkB o q || false)) = _
          rw [Bool.or_false, Bool.false_or]
          rfl
      rw [e]
    | none =>
      have w3 : marksO (chkR r (ckO none n)).2.2.1 "if-no-mark" = none := by
        unfold marksO
        rw [join_none v3]
        rfl
      rw [w3]
      show (if (decide (("get" : Str) = "get") && unchB (chkR r (ckO none n)) (some pm)) = true then _ else _) = _
      rw [decide_eq_true rfl, Bool.true_and]
      have e : unchB (chkR r (ckO none n)) (some pm) = sameC none n pm := by
        unfold unchB sameC readF
        cases n with
        | none => rw [join_none (v4 rfl)]
        | some i =>
          rw [joinF_one (v4 rfl)]
          dsimp only
          rw [num_readV i hn.1 hn.2]
          cases pm.2 <;> rfl
      rw [e]
/-! ### the world goes on, a note stays -/
structure Nt where
  v : Int
  e : Int
  m : Option (Str × Bool)
  n : Option Int
def tagV (W : Wo) (v e : Int) : Option (Str × Bool) := if W.mode = ("strong" : Str) then some (vTxt W.head v W.tail, false) else if W.mode = ("weak" : Str) then some (vTxt W.head e W.tail, true) else none
theorem tag_V (W : Wo) : tagO W = tagV W W.version W.epoch := rfl
structure NtOk (W : Wo) (t : Nt) : Prop where
  m : t.m = tagV W t.v t.e
  v0 : 0 ≤ t.v
  v1 : t.v ≤ W.version
  e0 : 0 ≤ t.e
  e1 : t.e ≤ 999999
  nI : okI t.n
  same : ∀ r, t.n = some r → W.version = t.v → W.reading = r
  more : ∀ r, t.n = some r → W.version ≠ t.v → W.gap > W.span → W.reading > r
  clk : ∀ r, t.n = some r → W.clock ≥ r + W.gap - W.span + W.behind
theorem NtOk.step {W W' : Wo} {t : Nt} (h : NtOk W t) (s : StepR W W') : NtOk W' t := by
  have hv := s.ver
  have hc := s.clk
  refine ⟨?_, h.v0, Int.le_trans h.v1 hv, h.e0, h.e1, h.nI, fun r hr e => ?_, fun r hr e g => ?_, fun r hr => ?_⟩
  · rw [h.m]
    unfold tagV
    rw [s.mode, s.head, s.tail]
  · have v1 := h.v1
    have e1 : W'.version = W.version := by omega
    rw [s.same e1]
    exact h.same r hr (by omega)
  · rw [s.gap, s.span] at g
    by_cases e1 : W'.version = W.version
    · rw [s.same e1]
      exact h.more r hr (by omega) g
    · have m := s.more e1
      have c := h.clk r hr
      rw [s.behind] at m
      omega
  · have c := h.clk r hr
    rw [s.gap, s.span, s.behind]
    omega
def ntW (W : Wo) : Nt := ⟨W.version, W.epoch, tagO W, if stlW W = true then some W.reading else none⟩
theorem ntW_ok {i : Nat} {W : Wo} (h : OkW i W) (hi : i ≤ 14) : NtOk W (ntW W) := by
  have v0 := h.v0
  have e0 := h.e0
  have e1 := h.e1
  have b0 := h.b0
  have b1 := h.b1
  have s1 := h.s1
  have c1 := h.c1
  have r0 := h.r0
  have r1 := h.r1
  have o1 := h.o1
  refine ⟨rfl, by show 0 ≤ W.version; omega, Int.le_refl _, by show 0 ≤ W.epoch; omega, by show W.epoch ≤ 999999; omega, ?_, fun r hr _ => ?_, fun r hr e => absurd rfl e, fun r hr => ?_⟩
  · show okI (if stlW W = true then some W.reading else none)
    split
    · exact ⟨by omega, by omega⟩
    · exact trivial
  · have hr : (if stlW W = true then some W.reading else none) = some r := hr
    split at hr
    · exact Option.some.inj hr
    · cases hr
  · have hr : (if stlW W = true then some W.reading else none) = some r := hr
    split at hr
    · rename_i hs
      have hr := Option.some.inj hr
      have hs : W.clock + W.offset - W.reading ≥ W.gap := of_decide_eq_true hs
      omega
    · cases hr
theorem NtOk.marks {i : Nat} {W : Wo} {t : Nt} (h : NtOk W t) (hW : OkW i W) (hi : i ≤ 100) : ∀ o, t.m = some o → markB o.1 = true := fun o ho => by
  have v1 := h.v1
  have w1 := hW.v1
  rw [h.m] at ho
  unfold tagV at ho
  split at ho
  · rw [← Option.some.inj ho]
    exact vTxt_mark hW.h0 hW.h1 hW.h2 hW.t1 hW.t2 h.v0 (by omega)
  · split at ho
    · rw [← Option.some.inj ho]
      exact vTxt_mark hW.h0 hW.h1 hW.h2 hW.t1 hW.t2 h.e0 h.e1
    · cases ho
theorem sameC_eq {i : Nat} {W : Wo} {t : Nt} {nm : Option Int} (h : NtOk W t) (hW : OkW i W) (hi : i ≤ 100) (hn : nm = none ∨ nm = some W.reading) : sameC t.m t.n (tagO W, nm) = unchW W t.v t.e t.n nm := by
  have v0 := h.v0
  have v1 := h.v1
  have w0 := hW.v0
  have w1 := hW.v1
  have x0 := hW.e0
  have x1 := hW.e1
  have e0 := h.e0
  have e1 := h.e1
  rw [h.m]
  unfold sameC unchW tagO tagV
  by_cases c1 : W.mode = ("strong" : Str)
  · rw [if_pos c1, if_pos c1, if_pos c1]
    exact decide_eq_decide.mpr (vTxt_inj v0 (by omega) (by omega) (by omega))
  · rw [if_neg c1, if_neg c1, if_neg c1]
    by_cases c2 : W.mode = ("weak" : Str)
    · rw [if_pos c2, if_pos c2, if_pos c2]
      exact decide_eq_decide.mpr (vTxt_inj e0 e1 (by omega) (by omega))
    · rw [if_neg c2, if_neg c2, if_neg c2]
      cases htn : t.n with
      | none => rfl
      | some r =>
        rcases hn with rfl | rfl
        · rfl
        · show decide (W.reading ≤ r) = if W.gap > W.span then decide (t.v = W.version) else decide (W.reading ≤ r)
          by_cases g : W.gap > W.span
          · rw [if_pos g]
            refine decide_eq_decide.mpr ⟨fun hle => ?_, fun he => ?_⟩
            · refine Decidable.byContradiction fun hne => ?_
              have := h.more r htn (fun e => hne e.symm) g
              omega
            · have := h.same r htn he.symm
              omega
          · rw [if_neg g]
theorem due_eq {i : Nat} {W : Wo} {t : Nt} {nm : Option Int} {st : Bool} (h : NtOk W t) (hW : OkW i W) (hi : i ≤ 100) (hn : nm = none ∨ nm = some W.reading) : dueC st t.m t.n (if W.there = true then some (tagO W, nm) else none) = dueS W t.v t.e t.n nm (if st = true then 1 else 0) := by
  unfold dueC dueS
  cases W.there with
  | true =>
    rw [if_pos rfl, if_pos rfl, ← sameC_eq h hW hi hn]
  | false =>
    rw [if_neg Bool.false_ne_true, if_neg Bool.false_ne_true]
    cases st with
    | true => rfl
    | false => rfl
end Z
set_option maxHeartbeats 2000000
namespace ZX
open PySem PySem.Spec PySem.Calls PyProof.Rows L2
/-! ### o(e, ..), o an own instance whose class has a def `__call__` -/
theorem cwInst {M : Model} {A : Around} {E : Value → Shared → Prop} {s : Shared} {K : PySem.W.Frag} {env : Env} {pos : Pos} {y D : Addr} {Qv : Value → Shared → Prop} {e0 : Expr} {er : List Expr}
    (h : wpAny M A (spliced (backTo pos (starEach (e0 :: er) env))) (fun us t => (∃ ob dct, PySem.W.InstAt t.heap y ob D dct ∧ ob.data = .plain) ∧ wpAny M A (call (.ref y) us) Qv E t) E s)
    (he : starEach (e0 :: er) env = (false, eval e0 env) :: starEach er env) (hp : (backTo pos (starEach er env)).any (·.1) = false) :
    wpAny M A (callWith pos (.ref y) [] (backTo pos (starEach (e0 :: er) env)) []) Qv E s := by
  rw [he] at h ⊢
  have ha : wpAny M A (evalArgs (.ref y) true (backTo pos ((false, eval e0 env) :: starEach er env)) []) (fun a t => (∃ ob dct, PySem.W.InstAt t.heap y ob D dct ∧ ob.data = .plain) ∧ wpAny M A (call (.ref y) a.pos a.kw) Qv E t) E s :=
    evalArgs_plain (Q := fun a t => (∃ ob dct, PySem.W.InstAt t.heap y ob D dct ∧ ob.data = .plain) ∧ wpAny M A (call (.ref y) a.pos a.kw) Qv E t) h
  have hpl2 : ((backTo pos ((false, eval e0 env) :: starEach er env)).any (·.1) || ([] : List (Option Str × Sem Value)).any (·.1.isNone)) = false := by
    show ((false || (backTo pos (starEach er env)).any (·.1)) || false) = false
    rw [hp]
    rfl
  unfold callWith
  refine wpAny_bind (wpAny_holding (wpAny_mono ha (fun a t ht => wpAny_bind (wpAny_standAt ?_)) fun _ _ z => z))
  obtain ⟨⟨ob, dct, I, hd⟩, hc⟩ := ht
  have L := PySem.W.kco_keeper (M := M) I hd
  simp only [hpl2]
  refine wpAny_bind (L.here ?_)
  exact wpAny_bind (wpAny_mono (wpAny_operateT hc) (fun r t2 hr => wpAny_bind (wpAny_holding (wpAny_point (wpAny_pure hr)))) fun _ _ z => z)
def tInst (C : Addr) (sp : Sp) (dvs : List V) (E : XK) (ta : TE) (t : TA) : TE := fun σ H Q => ta σ H fun x H1 => ∃ a, x = .ref a ∧ t σ H1 fun vs H2 => (∃ dx fs, H2 a = some (.ins C dx fs)) ∧ sp (x :: (vs ++ dvs)) H2 Q E
section
variable {X : Cx} {CX : CXT} {k : Nat} {C g : Addr} {fd : FuncData} {ps : List Str} {sp : Sp} {dvs : List V} {ds : List Value} {E : XK} {p pos apos : Pos} {e o : Expr} {es : List Expr} {ta : TE} {t : TA}
theorem pe_callI (he : PE X o ta) (hs : PySem.W.findIn X.K (.ref C) "__call__" = some (some (.ref g))) (hf : PySem.W.isFn X.K (.ref g) = true) (hfn : PySem.W.fnIn X.K g = true) (F : FnOk X.prog X.w X.K X.mg X.base CX k g fd ps sp) (hr : Room k X.A) (hb : Binds X.K fd ps ds) (hd : Vals dvs ds) (hx : Passes CX X E) (ha : PA X (e :: es) t)
    (hst : starEach (e :: es) X.env = (false, eval e X.env) :: starEach es X.env := by rfl) (hpl : (backTo pos (starEach es X.env)).any (·.1) = false := by rfl)
    (ht : eval (.Call o (e :: es) [] pos) X.env = (do callWith pos (← eval o X.env) [] (backTo pos (starEach (e :: es) X.env)) []) := by rfl) :
    PE X (.Call o (e :: es) [] pos) (tInst C sp dvs E ta t) := by
  refine ⟨fun pins s σ H Q I h => ?_⟩
  rw [ht]
  refine wpAny_bind (thn (he.run pins s σ H _ I h) fun u s1 ⟨x, H1, I1, rx, a, ex, q⟩ => ?_)
  subst ex
  obtain rfl : u = Value.ref a := rx
  refine cwInst (D := C) (K := X.K) (thn (ha.run pos pins s1 σ H1 _ I1 q) fun us s2 ⟨vs, H2, I2, r, ⟨dx, fs, ea⟩, q2⟩ => ?_) hst hpl
  obtain ⟨mA, J, _⟩ := ins_get I2.hok ea
  obtain ⟨od, J, _⟩ := J.look
  refine ⟨⟨_, some od, J, rfl⟩, ?_⟩
  have r2 : Vals (V.ref a :: (vs ++ dvs)) (Value.ref a :: (us ++ ds)) := .cons rfl (r.append hd)
  have hl : (Value.ref a :: us ++ ds).length = ps.length := by
    have := F.len _ _ _ _ q2
    rw [← this]
    exact (r2.length).symm
  refine wpAny_call (PySem.W.kco_code I2.kIn J rfl hs hf hfn ?_)
  refine codeAny_mono (F.run X.A X.stack s2 H2 ⟨Value.ref a :: us, []⟩ (Value.ref a :: us ++ ds) (V.ref a :: (vs ++ dvs)) Q E hr I2.env0 (hb s2 (Value.ref a :: us) I2.kIn hl) r2 q2) fun r s' hq => ?_
  cases r with
  | error e => exact hx pins σ H2 s2 e s' I2 hq
  | ok fl =>
    cases fl with
    | ret u => exact I2.after hq
    | next => exact False.elim hq
    | brk => exact False.elim hq
    | cont => exact False.elim hq
end
end ZX
set_option maxHeartbeats 8000000
namespace Z
open PySem PySem.Spec PyProof.Rows L2 TL Evl NdefX
theorem marks_len {r : RqT} (h : okR r) : okL r := fun n o ho => by
  have hf := h.2.2.1
  unfold marksO at ho
  cases hj : joinF r.2.2.1 n with
  | none => rw [hj] at ho; cases ho
  | some z =>
    rw [hj] at ho
    cases ho
    have hz := joinF_len hf hj
    unfold markL
    cases hr : readL z with
    | none => exact Nat.zero_le _
    | some o =>
      show o.2.length ≤ 40000
      have hle := elems_le z
      unfold readL at hr
      split at hr
      · cases hr
        exact Nat.zero_le _
      · split at hr
        · cases hr
        · cases hr
          exact Nat.le_trans (List.length_filterMap_le _ _) (by omega)
theorem lc_relD {K : PySem.W.Frag} {a : Addr} {xs : List V} {g : TG} {tt : TT} {te : TE} {vs : List Nat} {σ : L2.St} {H0 : Hp} {D : Addr} {Qd : Hp → Prop} {α : Type} (acc : Nat → List α) (R : Hp → V → α → Prop)
    (mono : ∀ H1 H2 x o, (∀ b ob, b ≠ D → H1 b = some ob → H2 b = some ob) → (∃ ys, H1 D = some (.lst ys)) → R H1 x o → R H2 x o)
    (hx : SqL K H0 a xs) (hD : H0 D = none) (h00 : acc 0 = []) (hz : xs.length ≤ 50000)
    (hs : ∀ i x H, xs[i]? = some x → Ex H0 H → (∃ ys, H D = some (.lst ys)) → ∀ (k : VK) (k0 : Hp → Prop), (∀ y H4 o, Ex H H4 → acc (i + 1) = acc i ++ [o] → R H4 y o → k y H4) → (∀ H3, Ex H H3 → acc (i + 1) = acc i → k0 H3) →
      g x (wipe σ vs) H fun σ2 H2 => wipe σ2 vs = wipe σ vs ∧ tt σ2 H2 fun b H3 => if b = true then te σ2 H3 k else k0 H3)
    (hd : ∀ H ys, Ex H0 H → H D = some (.lst ys) → Rel (R H) ys (acc xs.length) → Qd H) :
    ∃ W : Nat → Nat → Hp → Prop, (∃ m, W 0 m (upd H0 D (.lst []))) ∧ ∀ i m H, W i m H →
      ((Itl K a).stop i H ∧ Qd H) ∨ ((Itl K a).go i H ∧ ∃ Nx : Hp → Prop, (∀ H', Nx H' → ∃ m', m' < m ∧ W (i + 1) m' H') ∧ ∀ x H', (Itl K a).yld i H x H' → g x (wipe σ vs) H' fun σ2 H2 => wipe σ2 vs = wipe σ vs ∧ tt σ2 H2 fun b H3 =>
        if b = true then te σ2 H3 fun y H4 => ∃ acc, H4 D = some (.lst acc) ∧ acc.length < sizeLine ∧ Nx (upd H4 D (.lst (acc ++ [y]))) else Nx H3) := by
  refine lc_list (xs := xs) (fun i H => Ex H0 H ∧ ∃ ys, H D = some (.lst ys) ∧ ys.length ≤ i ∧ Rel (R H) ys (acc i)) ⟨Ex.new hD, [], upd_same, Nat.le_refl _, by rw [h00]; exact Rel.nil⟩ (fun i H _ p => ex_l p.1 hx) (fun i x H hi p => ?_) (fun H p => ?_)
  · obtain ⟨e0, ys, hy, hl, hr⟩ := p
    have hi2 : i < xs.length := (List.getElem?_eq_some_iff.mp hi).1
    refine hs i x H hi e0 ⟨ys, hy⟩ _ _ (fun y H4 o e4 ea r => ?_) (fun H3 e3 ea => ?_)
    · refine ⟨ys, e4 _ _ hy, sz_lt (by omega), Ex.mut (e0.trans e4) hD, ys ++ [y], upd_same, by rw [List.length_append]; exact Nat.add_le_add_right hl 1, ?_⟩
      rw [ea]
      refine Rel.snoc (hr.mono fun x o q => ?_) ?_
      · exact mono _ _ x o (fun b ob hb h => by rw [upd_ne hb]; exact h) ⟨ys, e4 _ _ hy⟩ (mono _ _ x o (fun b ob _ h => e4 b ob h) ⟨ys, hy⟩ q)
      · exact mono _ _ y o (fun b ob hb h => by rw [upd_ne hb]; exact h) ⟨ys, e4 _ _ hy⟩ r
    · refine ⟨e0.trans e3, ys, e3 _ _ hy, by omega, ?_⟩
      rw [ea]
      exact hr.mono fun x o q => mono _ _ x o (fun b ob _ h => e3 b ob h) ⟨ys, hy⟩ q
  · obtain ⟨e0, ys, hy, hl, hr⟩ := p
    exact hd H ys e0 hy hr
section
variable {σ : L2.St} {H : Hp} {ta tv : TA} {te tl : TE} {tt : TT} {g : TG} {tu tz : TS} {D : Ends} {p l0 l : Addr} {Q : VK} {E : XK} {K : PySem.W.Frag} {ws : List Nat}
theorem rd_lcL (h : Ev tl σ H (.ref l)) (hl : ∃ xs, SqL K H l xs) (k : ∀ H1, Ex H H1 → ∀ Dl, H1 Dl = none → ∃ W : Nat → Nat → Hp → Prop, (∃ m, W 0 m (upd H1 Dl (.lst []))) ∧ ∀ i' m H, W i' m H →
      ((Itl K l).stop i' H ∧ Q (.ref Dl) H) ∨ ((Itl K l).go i' H ∧ ∃ Nx : Hp → Prop, (∀ H', Nx H' → ∃ m', m' < m ∧ W (i' + 1) m' H') ∧ ∀ x H', (Itl K l).yld i' H x H' → g x (wipe σ ws) H' fun σ2 H2 => wipe σ2 ws = wipe σ ws ∧ tt σ2 H2 fun b H3 =>
        if b = true then te σ2 H3 fun y H4 => ∃ acc, H4 Dl = some (.lst acc) ∧ acc.length < sizeLine ∧ Nx (upd H4 Dl (.lst (acc ++ [y]))) else Nx H3)) : tLc (iList K tl) g tt te ws σ H Q :=
  h H (Ex.refl H) _ fun H1 e1 => ⟨l, rfl, by obtain ⟨xs, hx⟩ := hl; exact ⟨xs, ex_l e1 hx⟩, fun Dl hD => k H1 e1 Dl hD⟩
theorem rd_tupV {Q : VK} (h : ta σ H fun vs H1 => vs.length ≤ sizeLine ∧ ∀ p, H1 p = none → Q (.ref p) (upd H1 p (.tup vs))) : tTup ta σ H Q := h
theorem rd_mkV {C : Addr} {sp : Sp} {dvs : List V} (h : ta σ H fun vs H1 => ∀ x dx, H1 x = none → H1 dx = none → dx ≠ x → sp (.ref x :: (vs ++ dvs)) (upd (upd H1 dx (.own x)) x (.ins C dx [])) (fun v H2 => v = .non ∧ Q (.ref x) H2) E) : tMake C sp dvs E ta σ H Q := h
end
/-! ### what stays while some places change -/
def KM (M : Addr → Prop) (H H' : Hp) : Prop := ∀ c o, ¬ M c → H c = some o → H' c = some o
def MO (M : Addr → Prop) (H : Hp) : Prop := ∀ c, M c → (∃ xs, H c = some (.lst xs)) ∨ ∃ ks, H c = some (.dK ks)
def OMlM (M : Addr → Prop) (C L : Addr) (H : Hp) (v : V) : Option (Bool × Mks) → Prop
  | none => v = .non
  | some o => ∃ l, ¬ M l ∧ MlOf C L l H v o
def CdM (M : Addr → Prop) (C L D : Addr) (H : Hp) (v : V) (r : RqT) : Prop := ∃ a dx v1 v2, v = .ref a ∧ H a = some (.ins D dx (cdFs r.1 v1 v2 (readF r.2.2.1 "if-unchanged") (readF r.2.2.1 "if-changed") (optV (joinF r.2.2.1 "if-part")))) ∧ OMlM M C L H v1 (marksO r.2.2.1 "if-mark") ∧ OMlM M C L H v2 (marksO r.2.2.1 "if-no-mark")
section
variable {M M2 : Addr → Prop} {H H' H0 : Hp} {C L D R a : Addr} {v : V} {o : Option (Bool × Mks)} {r : RqT}
theorem MO.ins {dx : Addr} {fs : List (Str × V)} (h : MO M H) (ha : H a = some (.ins C dx fs)) : ¬ M a := fun hm => by
  rcases h a hm with ⟨xs, e⟩ | ⟨ks, e⟩
  · rw [ha] at e; cases e
  · rw [ha] at e; cases e
theorem MO.tup {xs : List V} (h : MO M H) (ha : H a = some (.tup xs)) : ¬ M a := fun hm => by
  rcases h a hm with ⟨xs, e⟩ | ⟨ks, e⟩
  · rw [ha] at e; cases e
  · rw [ha] at e; cases e
theorem MkAt.km {q : Str × Bool} (h : MkAt C H v q) (k : KM M H H') (m : MO M H) : MkAt C H' v q := by
  obtain ⟨a, dx, rfl, ha⟩ := h
  exact ⟨a, dx, rfl, k _ _ (m.ins ha) ha⟩
theorem OMk.km {q : Option (Str × Bool)} (h : OMk C H v q) (k : KM M H H') (m : MO M H) : OMk C H' v q := by
  cases q with
  | none => exact h
  | some q => exact ⟨h.1.km k m, h.2⟩
theorem OMlM.at (h : OMlM M C L H v o) : OMl C L H v o := by
  cases o with
  | none => exact h
  | some q =>
    obtain ⟨l, _, h⟩ := h
    exact ⟨l, h⟩
theorem OMlM.ex (h : OMlM M C L H v o) (e : Ex H H') : OMlM M C L H' v o := by
  cases o with
  | none => exact h
  | some q =>
    obtain ⟨l, n, h⟩ := h
    exact ⟨l, n, h.ex e⟩
theorem OMlM.km (h : OMlM M C L H v o) (s : ∀ c, M2 c → M c) (k : KM M2 H H') (m : MO M2 H) : OMlM M C L H' v o := by
  cases o with
  | none => exact h
  | some q =>
    obtain ⟨l, n, a, dx, vs, rfl, ha, hl, hr⟩ := h
    exact ⟨l, n, a, dx, vs, rfl, k _ _ (m.ins ha) ha, k _ _ (fun e => n (s l e)) hl, hr.mono fun _ _ q => q.km k m⟩
theorem OMlM.mono (h : OMlM M C L H v o) (s : ∀ c, M2 c → M c) : OMlM M2 C L H v o := by
  cases o with
  | none => exact h
  | some q =>
    obtain ⟨l, n, h⟩ := h
    exact ⟨l, fun e => n (s l e), h⟩
theorem OMlN.m (h : OMlN H0 C L H v o) (s : ∀ c, M c → ∃ u, H0 c = some u) : OMlM M C L H v o := by
  cases o with
  | none => exact h
  | some q =>
    obtain ⟨l, n, h⟩ := h
    refine ⟨l, fun e => ?_, h⟩
    obtain ⟨u, hu⟩ := s l e
    rw [n] at hu
    cases hu
theorem CdM.at (h : CdM M C L D H v r) : CdAt C L D H v r := by
  obtain ⟨a, dx, v1, v2, e, ha, h1, h2⟩ := h
  exact ⟨a, dx, v1, v2, e, ha, h1.at, h2.at⟩
theorem CdM.ex (h : CdM M C L D H v r) (e : Ex H H') : CdM M C L D H' v r := by
  obtain ⟨a, dx, v1, v2, rfl, ha, h1, h2⟩ := h
  exact ⟨a, dx, v1, v2, rfl, e _ _ ha, h1.ex e, h2.ex e⟩
theorem CdM.km (h : CdM M C L D H v r) (s : ∀ c, M2 c → M c) (k : KM M2 H H') (m : MO M2 H) : CdM M C L D H' v r := by
  obtain ⟨a, dx, v1, v2, rfl, ha, h1, h2⟩ := h
  exact ⟨a, dx, v1, v2, rfl, k _ _ (m.ins ha) ha, h1.km s k m, h2.km s k m⟩
theorem CdM.mono (h : CdM M C L D H v r) (s : ∀ c, M2 c → M c) : CdM M2 C L D H v r := by
  obtain ⟨a, dx, v1, v2, rfl, ha, h1, h2⟩ := h
  exact ⟨a, dx, v1, v2, rfl, ha, h1.mono s, h2.mono s⟩
theorem CdN.m (h : CdN H0 C L D H v r) (s : ∀ c, M c → ∃ u, H0 c = some u) : CdM M C L D H v r := by
  obtain ⟨a, dx, v1, v2, e, ha, h1, h2⟩ := h
  exact ⟨a, dx, v1, v2, e, ha, h1.m s, h2.m s⟩
theorem FsAt.km {q : Addr} {fs : Fs} (h : FsAt H q fs) (n : ¬ M q) (k : KM M H H') (m : MO M H) : FsAt H' q fs := by
  obtain ⟨xs, hx, hr⟩ := h
  refine ⟨xs, k _ _ n hx, hr.mono fun v x q => ?_⟩
  obtain ⟨t, e, ht⟩ := q
  exact ⟨t, e, k _ _ (m.tup ht) ht⟩
theorem RqOf.km {l : Addr} (h : RqOf R l H v r) (n : ¬ M l) (k : KM M H H') (m : MO M H) : RqOf R l H' v r := by
  obtain ⟨a, dx, rfl, ha, hf⟩ := h
  exact ⟨a, dx, rfl, k _ _ (m.ins ha) ha, hf.km n k m⟩
end
/-- a note -/
def NtAt (M : Addr → Prop) (C L D : Addr) (r0 r1 : RqT) (H : Hp) (v : V) (t : Nt) : Prop := ∃ tt u hl c0 c1, v = .ref tt ∧ H tt = some (.tup (ntT t.v t.e u t.n (.ref hl))) ∧ OMk C H u t.m ∧ ¬ M hl ∧ H hl = some (.lst [c0, c1]) ∧ CdM M C L D H c0 (chkR r0 (ckO t.m t.n)) ∧ CdM M C L D H c1 (chkR r1 (ckO t.m t.n))
theorem NtAt.ex {M : Addr → Prop} {C L D : Addr} {r0 r1 : RqT} {H H' : Hp} {v : V} {t : Nt} (h : NtAt M C L D r0 r1 H v t) (e : Ex H H') : NtAt M C L D r0 r1 H' v t := by
  obtain ⟨tt, u, hl, c0, c1, rfl, h1, h2, h3, h4, h5, h6⟩ := h
  exact ⟨tt, u, hl, c0, c1, rfl, e _ _ h1, h2.ex e, h3, e _ _ h4, h5.ex e, h6.ex e⟩
theorem NtAt.km {M : Addr → Prop} {C L D : Addr} {r0 r1 : RqT} {H H' : Hp} {v : V} {t : Nt} (h : NtAt M C L D r0 r1 H v t) (k : KM M H H') (m : MO M H) : NtAt M C L D r0 r1 H' v t := by
  obtain ⟨tt, u, hl, c0, c1, rfl, h1, h2, h3, h4, h5, h6⟩ := h
  exact ⟨tt, u, hl, c0, c1, rfl, k _ _ (m.tup h1) h1, h2.km k m, h3, k _ _ h3 h4, h5.km (fun _ z => z) k m, h6.km (fun _ z => z) k m⟩
theorem okR_chk {r : RqT} {m : Option (Str × Bool)} {n : Option Int} (h : okR r) (hl : (outF r.2.2.1 own).length ≤ 39) (hm : ∀ o, m = some o → markB o.1 = true) (hn : okI n) : okR (chkR r (ckO m n)) := by
  cases m with
  | some o => exact ok_chk h hl (by decide +kernel) (wrZ_value (hm o rfl))
  | none =>
    cases n with
    | some i => exact ok_chk h hl (by decide +kernel) (num_value i hn.1 hn.2)
    | none =>
      have : chkR r (ckO none none) = bareR r := by
        unfold chkR bareR ckO
        rw [Option.toList_none, List.append_nil]
      rw [this]
      exact ok_bare h
/-- the two requests' list -/
structure RqL (R : Addr) (H : Hp) (q : Addr) (v0 v1 : V) (r0 r1 : RqT) : Prop where
  at_ : H q = some (.lst [v0, v1])
  q0 : RqAt R H v0 r0
  q1 : RqAt R H v1 r1
  k0 : okR r0
  k1 : okR r1
  l0 : (outF r0.2.2.1 own).length ≤ 39
  l1 : (outF r1.2.2.1 own).length ≤ 39
  g0 : r0.1 = "get"
  g1 : r1.1 = "get"
  s0 : okS false r0.2.2.1
  s1 : okS true r1.2.2.1
theorem RqL.ex {R : Addr} {H H' : Hp} {q : Addr} {v0 v1 : V} {r0 r1 : RqT} (h : RqL R H q v0 v1 r0 r1) (e : Ex H H') : RqL R H' q v0 v1 r0 r1 := ⟨e _ _ h.at_, h.q0.ex e, h.q1.ex e, h.k0, h.k1, h.l0, h.l1, h.g0, h.g1, h.s0, h.s1⟩
def spNote (C L R D : Addr) : Sp := fun vs H Q _ => ∃ (a q : Addr) (W : Wo) (i : Nat) (v0 v1 : V) (r0 r1 : RqT) (M : Addr → Prop), vs = [.ref a, .ref q] ∧ WoAt H a W ∧ OkW i W ∧ i ≤ 14 ∧ RqL R H q v0 v1 r0 r1 ∧ (∀ c, M c → ∃ u, H c = some u) ∧ ∀ v H', Ex H H' → NtAt M C L D r0 r1 H' v (ntW W) → Q v H'
def spChecks (C L R D : Addr) : Sp := fun vs H Q _ => ∃ (a q : Addr) (u : V) (W : Wo) (i : Nat) (v0 v1 : V) (r0 r1 : RqT) (M : Addr → Prop) (t : Nt), vs = [.ref a, u, .ref q] ∧ WoAt H a W ∧ OkW i W ∧ i ≤ 14 ∧ RqL R H q v0 v1 r0 r1 ∧ NtAt M C L D r0 r1 H u t ∧ NtOk W t ∧ RetV (.bl true) H Q
structure CoM (P : Program) (w : World) (K : PySem.W.Frag) (mg : Str → Option Value) (base : Heap) (C L R D : Addr) : Prop where
  ex : ∃ po fo, ClX.CMet K D (.type "type") "of" po fo ∧ FnR P w K mg base CX0 10 fo (spOf C L R D)
structure CiM (P : Program) (w : World) (K : PySem.W.Frag) (mg : Str → Option Value) (base : Heap) (C L U D : Addr) : Prop where
  ex : ∃ g dg, PySem.W.findIn K (.ref D) "__call__" = some (some (.ref g)) ∧ PySem.W.isFn K (.ref g) = true ∧ PySem.W.fnIn K g = true ∧ FnOk P w K mg base CX0 4 g dg ["self", "current"] (spCa C L U D) ∧ Binds K dg ["self", "current"] []
structure Cu1 (P : Program) (w : World) (K : PySem.W.Frag) (mg : Str → Option Value) (base : Heap) (U : Addr) : Prop where
  ex : ∃ fu fd, Mk K U fu ∧ FnOk P w K mg base CX0 1 fu fd ["self", "mark", "changed"] (spCu U) ∧ Binds K fd ["self", "mark", "changed"] []
section
variable {K : PySem.W.Frag} {C L R D U : Addr} {σ : L2.St} {H : Hp} {ta tb tc : TE} {v u u2 : V} {r : RqT} {p : Option Pm} {Q : VK} {E E2 : XK} {m : Option (Str × Bool)} {n : Option Int}
theorem ev_inst (h : Ev ta σ H v) (hc : CdAt C L D H v r) (hu : Ev tb σ H u) (hp : CuAt C U H u p) (hl : okL r) : Ev (ZX.tInst D (spCa C L U D) [] E ta (tCons tb tNil)) σ H (.str (callS r p)) := fun H1 e Q q => h H1 e _ fun H2 e2 => by
  obtain ⟨a, dx, v1, v2, rfl, ha, _⟩ := id hc
  exact ⟨a, rfl, hu H2 (e.trans e2) _ fun H3 e3 => ⟨⟨dx, _, ((e.trans e2).trans e3) _ _ ha⟩, _, u, r, p, rfl, hc.ex ((e.trans e2).trans e3), hp.ex ((e.trans e2).trans e3), hl, fun H4 e4 => q H4 ((e2.trans e3).trans e4)⟩⟩
/-- Conditions.of(checking(request, mark, reading)) -/
theorem rd_cond (h : Ev ta σ H v) (h1 : Ev tb σ H u) (h2 : Ev tc σ H (optI n)) (hq : RqAt R H v r) (hok : okR r) (hl : (outF r.2.2.1 own).length ≤ 39) (hm : OMk C H u m) (hn : okI n) (k : ∀ c H1 H', Ex H H1 → Ex H1 H' → CdN H1 C L D H' c (chkR r (ckO m n)) → Q c H') :
    ClX.tCMeth D (spOf C L R D) E (tC (.ref D)) (tCons (tCall (spCk C R) [] E2 (tCons ta (tCons tb (tCons tc tNil)))) tNil) σ H Q := by
  have hm2 : ∀ o, m = some o → markB o.1 = true := fun o e => by
    subst e
    exact hm.2
  refine ⟨rfl, rd_consR (rd_call (ea_cons h (ea_cons h1 (ea_cons h2 ea_nil))) fun H1 e1 => ⟨v, u, _, r, m, n, rfl, hq.ex e1, hok, hl, hm.ex e1, rfl, hn, fun v' l' H2 nl e2 hq2 => rd_nil ⟨v', chkR r (ckO m n), rfl, ⟨l', hq2⟩, okR_chk hok hl hm2 hn, fun c H3 e3 hc => k c H2 H3 (e1.trans e2) e3 hc⟩⟩)⟩
end
section
variable {P : Program} {w : World} {K : PySem.W.Frag} {mg : Str → Option Value} {base : Heap} {f B R C L U D DV DM DH : Addr} {fd : FuncData} {k : Nat}
theorem ok_law_note (T : Mg mg) (WC : Wc K mg D) (CO : CoM P w K mg base C L R D) (c_checking : Call P w K mg base 12 "checking" ["request", "mark", "changed"] (spCk C R)) (c_law_tag : Call P w K mg base 5 "_law_tag" ["world"] (spTag C)) (c_law_is_settled : Call P w K mg base 2 "_law_is_settled" ["world"] (spWoV fun W => .bl (stlW W))) (F : FnP K "_law_note" s_law_note f fd) (gm : mg "_law_note" = some (.ref f)) : Call P w K mg base 13 "_law_note" ["world", "requests"] (spNote C L R D) := by
  obtain ⟨po, fo, mo, Fo⟩ := CO.ex
  refine mk F gm (fun _ _ _ _ _ _ us hl => match us, hl with | [_, _], _ => rfl) (fun _ _ _ _ _ _ us hl => match us, hl with | [_, _], _ => rfl) sc_law_note (fun vs H Q E h => ?_) (fun cdv A outer s H vs Q E hr h => ?_)
  · obtain ⟨a, q, W, i, v0, v1, r0, r1, M, rfl, _⟩ := h
    rfl
  · obtain ⟨a, q, W, i, v0, v1, r0, r1, M, rfl, ha, hW, hi, hq, hM, kq⟩ := h
    refine ⟨_, (pss_cons (ps_set (i := 2) sc_law_note.nd rfl (Or.inr rfl) (pe_f c_law_tag hr (by decide) rfl (pa_cons (pv 0) pa_nil)))
    (pss_cons (ps_set (i := 3) sc_law_note.nd rfl (Or.inr rfl) pe_non)
    (pss_cons (ps_if (pt_val (pe_f c_law_is_settled hr (by decide) rfl (pa_cons (pv 0) pa_nil)))
      (pss_one (ps_set (i := 3) sc_law_note.nd rfl (Or.inr rfl) (pe_dget hr.units1 (pv 0) pe_str (fun _ _ => rfl))))
      pss_nil)
    (pss_cons (ps_setLc (i := 4) (own := [("request", 5)]) (g := gName 5) (tt := tYes) rfl sc_law_note.nd rfl rfl (sw_true rfl rfl rfl (by decide +kernel)) (pi_list (pv 1)) (blkOk_by (N := ["world", "requests", "tag", "known", "held", "request"]) (sc := L2.defScope s_law_note) (by decide +kernel)) (fun _ _ _ _ _ => pg_name (i := 5) sc_law_note.nd rfl (Or.inl rfl)) (fun _ _ _ _ _ => pts_nil) (fun _ _ _ _ _ => (ClX.pe_cmeth (pe_gc (v := .ref D) rfl ⟨_, WC.m, rfl⟩) WC.rd mo Fo (hr.mono (by decide)) pass0 (pa_cons (pe_f c_checking hr (by decide) rfl (pa_cons (pv 5) (pa_cons (pv 2) (pa_cons (pv 3) pa_nil)))) pa_nil))))
    (pss_one (ps_ret (pe_tup (pa_cons (pe_dget hr.units1 (pv 0) pe_str (fun _ _ => rfl)) (pa_cons (pe_dget hr.units1 (pv 0) pe_str (fun _ _ => rfl)) (pa_cons (pv 2) (pa_cons (pv 3) (pa_cons (pv 4) pa_nil)))))))))))), ?_⟩
    refine q_asgR (rd_call (ea_cons (ev_var rfl) ea_nil) fun H1 e1 => ⟨a, W, i, rfl, ha.ex e1, hW, by omega, fun u H2 e2 hu => ?_⟩)
    try dsimp only
    have e12 := e1.trans e2
    refine q_asg ev_c fun H3 e3 => ?_
    try dsimp only
    have e13 := e12.trans e3
    have hu3 := hu.ex e3
    have nok : okI (ntW W).n := (ntW_ok hW hi).nI
    refine q_tail (fun σ1 Hx => σ1 = [some (.ref a), some (.ref q), some u, some (optI (ntW W).n), none, none] ∧ Ex H3 Hx) (fun σ1 H4 hR => ?_) (fun tail => ?_)
    · obtain ⟨rfl, e34⟩ := hR
      have e14 := e13.trans e34
      have q4 := hq.ex e14
      have hu4 := hu3.ex e34
      refine q_asgR (rd_lcL (ev_var rfl) ⟨_, sq_of q4.at_⟩ fun H5 e5 Dl hDl => ?_)
      have e15 := e14.trans e5
      refine lc_relD (α := RqT) (fun i => [chkR r0 (ckO (ntW W).m (ntW W).n), chkR r1 (ckO (ntW W).m (ntW W).n)].take i) (fun Hx v r => CdM (fun c => M c ∨ c = Dl) C L D Hx v r) (fun H1 H2 x o kk hD r => CdM.km (M2 := fun c => c = Dl) r (fun c z => .inr z) (fun c o n hc => kk c o n hc) (fun c z => .inl (by rw [z]; exact hD))) (sq_of (e5 _ _ q4.at_)) hDl rfl (by show 2 ≤ 50000; decide) (fun j y H6 hj e6 hD6 kk k0 hk hk0 => ?_) (fun H6 ys e6 hy hro => ?_)
      · have e16 := e15.trans e6
        refine ⟨rfl, ?_⟩
        unfold tYes
        dsimp only
        rw [if_pos rfl]
        have hMx : ∀ {H7 : Hp}, Ex H6 H7 → ∀ c, (M c ∨ c = Dl) → ∃ u, H7 c = some u := fun e c hc => by
          rcases hc with hc | rfl
          · obtain ⟨u, hu⟩ := hM c hc
            exact ⟨u, (e16.trans e) _ _ hu⟩
          · obtain ⟨ys, hy⟩ := hD6
            exact ⟨_, e _ _ hy⟩
        match j, hj with
        | 0, hj =>
          cases hj
          exact rd_cond (ev_var rfl) (ev_var rfl) (ev_var rfl) (hq.q0.ex e16) hq.k0 hq.l0 (hu4.ex (e5.trans e6)) nok fun c H7 H8 e7 e8 hc => hk c H8 _ (e7.trans e8) rfl (hc.m (hMx e7))
        | 1, hj =>
          cases hj
          exact rd_cond (ev_var rfl) (ev_var rfl) (ev_var rfl) (hq.q1.ex e16) hq.k1 hq.l1 (hu4.ex (e5.trans e6)) nok fun c H7 H8 e7 e8 hc => hk c H8 _ (e7.trans e8) rfl (hc.m (hMx e7))
        | n + 2, hj => cases hj
      · try dsimp only
        have e16 := e15.trans e6
        have nM : ¬ M Dl := fun hm => by
          obtain ⟨u, hu⟩ := hM Dl hm
          rw [e15 _ _ hu] at hDl
          cases hDl
        obtain ⟨c0, c1, rfl, g0, g1⟩ : ∃ c0 c1, ys = [c0, c1] ∧ CdM M C L D H6 c0 (chkR r0 (ckO (ntW W).m (ntW W).n)) ∧ CdM M C L D H6 c1 (chkR r1 (ckO (ntW W).m (ntW W).n)) := by
          have hl : ys.length = 2 := hro.1
          match ys, hl with
          | [c0, c1], _ => exact ⟨c0, c1, rfl, (hro.2 0 c0 _ rfl rfl).mono fun c z => .inl z, (hro.2 1 c1 _ rfl rfl).mono fun c z => .inl z⟩
        refine g_ret (rd_tupV (rd_consE (ev_wo (ev_var rfl) (ha.ex e16) rfl) fun H7 e7 => rd_consE (ev_wo (ev_var rfl) (ha.ex (e16.trans e7)) rfl) fun H8 e8 => rd_consE (ev_var rfl) fun H9 e9 => rd_consE (ev_var rfl) fun HA eA => rd_consE (ev_var rfl) fun HB eB => rd_nil ⟨by show 5 ≤ sizeLine; decide, fun tt nt => ?_⟩))
        have e6B := (((e7.trans e8).trans e9).trans eA).trans eB
        have eT := Ex.new (o := .tup (ntT W.version W.epoch u (ntW W).n (.ref Dl))) nt
        have e6T := e6B.trans eT
        exact kq (.ref tt) _ (e16.trans e6T) ⟨tt, u, Dl, c0, c1, rfl, upd_same, hu4.ex ((e5.trans e6).trans e6T), nM, e6T _ _ hy, g0.ex e6T, g1.ex e6T⟩
    · refine q_when (b := stlW W) (et_B (ev_call (ea_cons (ev_var rfl) ea_nil) fun H4 e4 Q' q' E' => ⟨a, W, rfl, ha.ex (e13.trans e4), q'⟩)) (fun hb H4 e4 => ?_) (fun hb H4 e4 => ?_)
      · refine s_asg (ev_wo (ev_var rfl) (ha.ex (e13.trans e4)) rfl) fun H5 e5 => tail _ _ ⟨?_, e4.trans e5⟩
        show _ = [some (.ref a), some (.ref q), some u, some (optI (if stlW W = true then some W.reading else none)), none, none]
        rw [if_pos hb]
        rfl
      · refine tail _ _ ⟨?_, e4⟩
        show _ = [some (.ref a), some (.ref q), some u, some (optI (if stlW W = true then some W.reading else none)), none, none]
        rw [if_neg (by rw [hb]; exact Bool.noConfusion)]
        rfl
theorem ok_law_checks (T : Mg mg) (WC : Wc K mg D) (WK : Wk K mg U) (CU : Cu1 P w K mg base U) (CO : CoM P w K mg base C L R D) (CI : CiM P w K mg base C L U D) (c_checking : Call P w K mg base 12 "checking" ["request", "mark", "changed"] (spCk C R)) (c_law_tag : Call P w K mg base 5 "_law_tag" ["world"] (spTag C)) (c_law_is_settled : Call P w K mg base 2 "_law_is_settled" ["world"] (spWoV fun W => .bl (stlW W)))
    (c_law_due : Call P w K mg base 2 "_law_due" ["world", "note", "number", "starred"] spDueW) (F : FnP K "_law_checks" s_law_checks f fd) (gm : mg "_law_checks" = some (.ref f)) : Call P w K mg base 13 "_law_checks" ["world", "note", "requests"] (spChecks C L R D) := by
  obtain ⟨po, fo, mo, Fo⟩ := CO.ex
  obtain ⟨fg, dg, ci1, ci2, ci3, Fg, bg⟩ := CI.ex
  obtain ⟨fu, fdu, MU, Fu, bu⟩ := CU.ex
  refine mk F gm (fun _ _ _ _ _ _ us hl => match us, hl with | [_, _, _], _ => rfl) (fun _ _ _ _ _ _ us hl => match us, hl with | [_, _, _], _ => rfl) sc_law_checks (fun vs H Q E h => ?_) (fun cdv A outer s H vs Q E hr h => ?_)
  · obtain ⟨a, q, u, W, i, v0, v1, r0, r1, M, t, rfl, _⟩ := h
    rfl
  · obtain ⟨a, q, u, W, i, v0, v1, r0, r1, M, t, rfl, ha, hW, hi, hq, ⟨tt, um, hl, c0, c1, rfl, ht, hum, _, hhl, hc0, hc1⟩, htW, kq⟩ := h
    refine ⟨_, (pss_cons (ps_set (i := 3) sc_law_checks.nd rfl (Or.inl rfl) (pe_dget hr.units1 (pv 0) pe_str (fun _ _ => rfl)))
    (pss_cons (ps_for PassesOwn.never rfl (pi_range1 rfl T.range (pa_cons pe_int pa_nil)) (pg_name (i := 4) sc_law_checks.nd rfl (Or.inl rfl))
      (pss_cons (ps_if (PW.pt (pw_and (pt_cmpR op_eq (pv 4) pe_int (nomark _)) (pw_and1 (pt_not (pt_val (pe_f c_law_is_settled hr (by decide) rfl (pa_cons (pv 0) pa_nil)))))))
        (pss_one (ps_set (i := 3) sc_law_checks.nd rfl (Or.inl rfl) pe_non))
        pss_nil)
      (pss_cons (ps_set (i := 5) sc_law_checks.nd rfl (Or.inl rfl) pe_non)
      (pss_cons (ps_if (pt_val (pe_dget hr.units1 (pv 0) pe_str (fun _ _ => rfl)))
        (pss_one (ps_set (i := 5) sc_law_checks.nd rfl (Or.inl rfl) (pe_make MU Fu (hr.mono (by decide)) rfl WK.m bu .nil pass0 (pa_cons (pe_f c_law_tag hr (by decide) rfl (pa_cons (pv 0) pa_nil)) (pa_cons (pv 3) pa_nil)))))
        pss_nil)
      (pss_one (ps_for PassesOwn.never rfl (pi_range1 rfl T.range (pa_cons pe_int pa_nil)) (pg_name (i := 6) sc_law_checks.nd rfl (Or.inl rfl))
        (pss_cons (ps_set (i := 7) sc_law_checks.nd rfl (Or.inl rfl) (pe_f c_law_due hr (by decide) rfl (pa_cons (pv 0) (pa_cons (pv 1) (pa_cons (pv 3) (pa_cons (pv 6) pa_nil))))))
        (pss_cons (ps_if (pt_cmpR op_ne (ZX.pe_callI (pe_ix ix_list (pe_ix ix_tup (pv 1) pe_int (fun _ _ => rfl)) (pv 6) (fun _ _ => rfl)) ci1 ci2 ci3 Fg (hr.mono (by decide)) bg .nil pass0 (pa_cons (pv 5) pa_nil)) (pv 7) (nomark _))
          (pss_one (ps_ret pe_bl))
          pss_nil)
        (pss_cons (ps_set (i := 8) sc_law_checks.nd rfl (Or.inl rfl) (ClX.pe_cmeth (pe_gc (v := .ref D) rfl ⟨_, WC.m, rfl⟩) WC.rd mo Fo (hr.mono (by decide)) pass0 (pa_cons (pe_f c_checking hr (by decide) rfl (pa_cons (pe_ix ix_list (pv 2) (pv 6) (fun _ _ => rfl)) (pa_cons (pe_ix ix_tup (pv 1) pe_int (fun _ _ => rfl)) (pa_cons (pe_ix ix_tup (pv 1) pe_int (fun _ _ => rfl)) pa_nil)))) pa_nil)))
        (pss_one (ps_if (pt_cmpR op_ne (ZX.pe_callI (pv 8) ci1 ci2 ci3 Fg (hr.mono (by decide)) bg .nil pass0 (pa_cons (pv 5) pa_nil)) (pv 7) (nomark _))
          (pss_one (ps_ret pe_bl))
          pss_nil)))))))))))
    (pss_one (ps_ret pe_bl)))), ?_⟩
    have hmk := htW.marks hW (by omega)
    refine q_asg (ev_wo (ev_var rfl) ha rfl) fun H1 e1 => ?_
    try dsimp only
    refine q_forR1 (n := 2) (ea_cons ev_c ea_nil) (by decide) (fun j σ' H' => (∃ nm x4 x5 x6 x7 x8, (nm = none ∨ nm = some W.reading) ∧ σ' = [some (.ref a), some (.ref tt), some (.ref q), some (optI nm), x4, x5, x6, x7, x8]) ∧ Ex H H') (fun H2 e2 => ⟨⟨some W.reading, none, none, none, none, none, .inr rfl, rfl⟩, e1.trans e2⟩) (fun j σ' H2 hj pv => ?_) (fun σ' H2 pv => ?_)
    · obtain ⟨⟨nm0, x4, x5, x6, x7, x8, hnm0, rfl⟩, e2⟩ := pv
      try dsimp only
      refine q_tailIf (fun σ1 Hx => ∃ nm, (nm = none ∨ nm = some W.reading) ∧ σ1 = [some (.ref a), some (.ref tt), some (.ref q), some (optI nm), some (.int (j : Int)), x5, x6, x7, x8] ∧ Ex H Hx) (fun σ1 H3 hR => ?_) (fun tail => ?_)
      · obtain ⟨nm, hnm, rfl, e3⟩ := hR
        refine q_asg ev_c fun H4 e4 => ?_
        try dsimp only
        have e4 := e3.trans e4
        refine q_tailIf (fun σ1 Hx => ∃ cu, σ1 = [some (.ref a), some (.ref tt), some (.ref q), some (optI nm), some (.int (j : Int)), some cu, x6, x7, x8] ∧ Ex H Hx ∧ CuAt C U Hx cu (if W.there = true then some (tagO W, nm) else none)) (fun σ1 H5 hR => ?_) (fun tail => ?_)
        · obtain ⟨cu, rfl, e5, hcu⟩ := hR
          refine s_forR1 (n := 2) (ea_cons ev_c ea_nil) (by decide) (fun k σ' H' => (∃ x6 x7 x8, σ' = [some (.ref a), some (.ref tt), some (.ref q), some (optI nm), some (.int (j : Int)), some cu, x6, x7, x8]) ∧ Ex H5 H') (fun H6 e6 => ⟨⟨_, _, _, rfl⟩, e6⟩) (fun k σ' H6 hk pv => ?_) (fun σ' H6 pv => ?_)
          · obtain ⟨⟨y6, y7, y8, rfl⟩, e6⟩ := pv
            try dsimp only
            have e06 := e5.trans e6
            obtain ⟨st, ck, vk, rk, hkst, hck, hckc, hvk, hvq, hok, hln, hget, hS⟩ : ∃ (st : Bool) (ck vk : V) (rk : RqT), (k : Int) = (if st = true then 1 else 0) ∧ [c0, c1][k]? = some ck ∧ CdM M C L D H ck (chkR rk (ckO t.m t.n)) ∧ [v0, v1][k]? = some vk ∧ RqAt R H vk rk ∧ okR rk ∧ (outF rk.2.2.1 own).length ≤ 39 ∧ rk.1 = "get" ∧ okS st rk.2.2.1 := by
              match k, hk with
              | 0, _ => exact ⟨false, c0, v0, r0, rfl, rfl, hc0, rfl, hq.q0, hq.k0, hq.l0, hq.g0, hq.s0⟩
              | 1, _ => exact ⟨true, c1, v1, r1, rfl, rfl, hc1, rfl, hq.q1, hq.k1, hq.l1, hq.g1, hq.s1⟩
              | n + 2, h => exact absurd h (by omega)
            have hle := marks_len (okR_chk hok hln hmk htW.nI)
            have cs : callS (chkR rk (ckO t.m t.n)) (if W.there = true then some (tagO W, nm) else none) = dueS W t.v t.e t.n nm (k : Int) := by
              rw [callS_eq hget hS hmk htW.nI, hkst]
              exact due_eq htW hW (by omega) hnm
            have hk01 : (k : Int) = 0 ∨ (k : Int) = 1 := by omega
            refine q_asg (v := .str (dueS W t.v t.e t.n nm (k : Int))) (ev_call (ea_cons (ev_var rfl) (ea_cons (ev_var rfl) (ea_cons (ev_var rfl) (ea_cons (ev_var rfl) ea_nil)))) fun H7 e7 Q' q' E' => ⟨a, tt, W, t.v, t.e, um, .ref hl, t.n, nm, (k : Int), rfl, ha.ex (e06.trans e7), (e06.trans e7) _ _ ht, hk01, q'⟩) fun H7 e7 => ?_
            try dsimp only
            have e07 := e06.trans e7
            refine q_when (b := false) (et_is (et_test (ev_op (ev_inst (ev_ixL (ev_ixT (ev_var rfl) ev_c (e07 _ _ ht) (atI_nat (j := 4) rfl)) (ev_var rfl) (e07 _ _ hhl) (atI_nat hck)) (hckc.at.ex e07) (ev_var rfl) (hcu.ex (e6.trans e7)) hle) (ev_var rfl) rv_neS)) (by rw [cs, decide_eq_true rfl]; rfl)) (fun h => nomatch h) (fun _ H8 e8 => ?_)
            have e08 := e07.trans e8
            refine q_asgR (rd_cond (ev_ixL (ev_var rfl) (ev_var rfl) (e08 _ _ hq.at_) (atI_nat hvk)) (ev_ixT (ev_var rfl) ev_c (e08 _ _ ht) (atI_nat (j := 2) rfl)) (ev_ixT (ev_var rfl) ev_c (e08 _ _ ht) (atI_nat (j := 3) rfl)) (hvq.ex e08) hok hln (hum.ex e08) htW.nI fun c H9 HA e9 eA hc => ?_)
            try dsimp only
            have e8A := e9.trans eA
            refine s_when (b := false) (et_is (et_test (ev_op (ev_inst (ev_var rfl) hc.at (ev_var rfl) (hcu.ex (((e6.trans e7).trans e8).trans e8A)) hle) (ev_var rfl) rv_neS)) (by rw [cs, decide_eq_true rfl]; rfl)) (fun h => nomatch h) (fun _ HB eB => ?_)
            exact ⟨⟨_, _, _, rfl⟩, (((e6.trans e7).trans e8).trans e8A).trans eB⟩
          · obtain ⟨⟨y6, y7, y8, rfl⟩, e6⟩ := pv
            exact ⟨⟨nm, _, _, _, _, _, hnm, rfl⟩, e5.trans e6⟩
        · refine q_when (b := W.there) (et_B (ev_wo (ev_var rfl) (ha.ex e4) rfl)) (fun hb H5 e5 => ?_) (fun hb H5 e5 => ?_)
          · refine s_asgR (rd_mkV (rd_consR (rd_call (ea_cons (ev_var rfl) ea_nil) fun H6 e6 => ⟨a, W, i, rfl, ha.ex ((e4.trans e5).trans e6), hW, by omega, fun ut H7 e7 hut => rd_consE (ev_var rfl) fun H8 e8 => rd_nil ?_⟩)))
            intro x dx hx hd hne
            have e0 : Ex H8 (upd (upd H8 dx (.own x)) x (.ins U dx [])) := fun c o hc => by
              rw [upd_ne (ne_of_none hc hx), upd_ne (ne_of_none hc hd)]
              exact hc
            refine ⟨x, dx, ut, optI nm, rfl, upd_same, fun H9 kp h9 => ⟨rfl, ?_⟩⟩
            have e89 : Ex H8 H9 := fun c o hc => kp c o (ne_of_none hc hx) (e0 c o hc)
            refine tail _ _ ⟨.ref x, rfl, ((((e4.trans e5).trans e6).trans e7).trans e8).trans e89, ?_⟩
            rw [if_pos hb]
            refine ⟨x, dx, ut, rfl, h9, ?_⟩
            have hut := hut.ex (e8.trans e89)
            cases hto : tagO W with
            | none =>
              rw [hto] at hut
              exact hut
            | some o =>
              rw [hto] at hut
              exact hut.1
          · refine tail _ _ ⟨.non, rfl, e4.trans e5, ?_⟩
            rw [if_neg (by rw [hb]; exact Bool.noConfusion)]
            exact rfl
      · refine q_when (b := decide ((j : Int) = 1) && !stlW W) (et_and (et_test (ev_op (ev_var rfl) ev_c rv_eqI)) fun _ => et_not (et_B (ev_call (ea_cons (ev_var rfl) ea_nil) fun H3 e3 Q' q' E' => ⟨a, W, rfl, ha.ex (e2.trans e3), q'⟩))) (fun hb H3 e3 => ?_) (fun hb H3 e3 => ?_)
        · exact s_asg ev_c fun H4 e4 => tail _ _ ⟨none, .inl rfl, rfl, (e2.trans e3).trans e4⟩
        · exact tail _ _ ⟨nm0, hnm0, rfl, e2.trans e3⟩
    · obtain ⟨⟨nm0, x4, x5, x6, x7, x8, hnm0, rfl⟩, e2⟩ := pv
      exact s_ret ev_c fun H3 e3 => kq H3 (e2.trans e3)
end
end Z
set_option maxHeartbeats 8000000
namespace Z
open PySem PySem.Spec PyProof.Rows L2 TL Evl NdefX
def rqG (fs : Fs) : RqT := ("get", "/a", fs, "")
theorem path_av : pathB ("/a" : Str) = true ∧ bodyB ("" : Str) = true ∧ ("" : Str).length ≤ 100000 := by decide +kernel
theorem ok_rqG {fs : Fs} (h : areB fs = true) : okR (rqG fs) := ⟨List.mem_cons_self, path_av.1, h, path_av.2.2, path_av.2.1, .inl rfl⟩
theorem menu_are {fs : Fs} (h : ∀ x ∈ fs, x ∈ menuL) (hl : fs.length ≤ 7) : areB fs = true := by
  unfold areB
  rw [Bool.and_eq_true, decide_eq_true_eq, List.all_eq_true]
  exact ⟨by omega, fun x hx => (menu_ok x (h x hx)).1⟩
def starFs (fs : Fs) (s : Nat) : Fs := fs.take s ++ [(("if-mark" : Str), ("*" : Str))] ++ fs.drop s
theorem star_ok : fieldB (("if-mark" : Str), ("*" : Str)) = true := by decide +kernel
theorem star_are {fs : Fs} {s : Nat} (h : ∀ x ∈ fs, x ∈ menuL) (hl : fs.length ≤ 7) : areB (starFs fs s) = true ∧ (starFs fs s).length ≤ 8 ∧ okS true (starFs fs s) := by
  have l : (starFs fs s).length ≤ 8 := by
    unfold starFs
    rw [List.length_append, List.length_append, List.length_take, List.length_drop]
    show min s fs.length + 1 + (fs.length - s) ≤ 8
    omega
  refine ⟨?_, l, okS_star (fun x hx => h x (List.mem_of_mem_take hx)) fun x hx => h x (List.mem_of_mem_drop hx)⟩
  unfold areB
  rw [Bool.and_eq_true, decide_eq_true_eq, List.all_eq_true]
  refine ⟨by omega, fun x hx => ?_⟩
  rcases List.mem_append.mp hx with hx | hx
  · rcases List.mem_append.mp hx with hx | hx
    · exact (menu_ok x (h x (List.mem_of_mem_take hx))).1
    · rw [List.mem_singleton.mp hx]; exact star_ok
  · exact (menu_ok x (h x (List.mem_of_mem_drop hx))).1
theorem cutV_takeV {xs : List V} {n : Nat} : cutV xs none (some (n : Int)) = xs.take n := by
  unfold cutV
  rw [HT.sIx_none, List.drop_zero, Nat.sub_zero, HT.sIx_nat]
  rcases Nat.le_total n xs.length with h | h
  · rw [Nat.min_eq_left h]
  · rw [Nat.min_eq_right h, List.take_length, List.take_of_length_le h]
theorem cutV_dropV {xs : List V} {n : Nat} : cutV xs (some (n : Int)) none = xs.drop n := by
  unfold cutV
  rw [HT.sIx_none, HT.sIx_nat]
  rcases Nat.le_total n xs.length with h | h
  · rw [Nat.min_eq_left h, List.take_of_length_le (by rw [List.length_drop]; exact Nat.le_refl _)]
  · rw [Nat.min_eq_right h, List.drop_length, List.drop_of_length_le h, List.take_nil]
theorem rd_req {K : PySem.W.Frag} {R l : Addr} {σ : L2.St} {H : Hp} {i : Nat} {fs : Fs} {Q : VK} {E : XK} (hi : σ[i]? = some (some (.ref l))) (hf : FsAt H l fs) (hok : areB fs = true) (k : ∀ v l' H', H l' = none → Ex H H' → RqOf R l' H' v (rqG fs) → Q v H') :
    tMake R (spRi R) [.str ""] E (tCons (tC (.str "get")) (tCons (tC (.str "/a")) (tCons (tCB (rListS K) (tCons (tVar i) tNil)) tNil))) σ H Q := by
  obtain ⟨xs, hx, hxr⟩ := hf
  refine rd_mkV (rd_consE ev_c fun H1 e1 => rd_consE ev_c fun H2 e2 => rd_consLs (el_list (ev_var hi) (sq_of ((e1.trans e2) _ _ hx))) fun c H3 nc e3 hc => rd_nil ?_)
  have e13 := (e1.trans e2).trans e3
  exact ri_rq (vs := [.str "get", .str "/a", .ref c]) (dvs := [.str ""]) rfl (⟨xs, hc, hxr.mono fun _ _ m => TupAt.ex m e13⟩ : FsAt H3 c fs) (ok_rqG hok) fun v' l' H4 nl e4 hq => k v' l' H4 (fresh_back e13 nl) (e13.trans e4) hq
def codeL : List Str := ["wait", "note", "change", "wait", "note", "alike", "clock", "erase"]
theorem code_ok : ∀ z ∈ codeL, z ≠ ("note" : Str) → z ∈ cdL := by decide +kernel
def spStay (R : Addr) : Sp := fun vs H Q _ => ∃ (q f0 f1 : Addr) (v0 v1 : V) (fs0 fs1 : Fs), vs = [.ref q, .ref f0, .ref f1] ∧ H q = some (.lst [v0, v1]) ∧ RqAt R H v0 (rqG fs0) ∧ RqAt R H v1 (rqG fs1) ∧ FsAt H f0 fs0 ∧ FsAt H f1 fs1 ∧ areB fs0 = true ∧ areB fs1 = true ∧ RetV (.bl true) H Q
def spLaw13 (K : PySem.W.Frag) : Sp := fun vs H Q _ => ∃ (a : Addr) (ns : List Int), vs = [.ref a] ∧ SqL K H a (ns.map V.int) ∧ ns.length ≤ 63 ∧ (∀ z ∈ ns, z.natAbs < 2 ^ cap) ∧ ∀ H', Q (.bl true) H'
def mutM (p a n : Addr) : Addr → Prop := fun c => c = p ∨ c = a ∨ c = n
theorem nmM {p a n q : Addr} (h1 : q ≠ p) (h2 : q ≠ a) (h3 : q ≠ n) : ¬ mutM p a n q := fun h => by
  rcases h with h | h | h
  · exact h1 h
  · exact h2 h
  · exact h3 h
/-- all that stands in the law's loop -/
structure LwS (p l0 a n q lf ls cd la lb : Addr) (C L R D : Addr) (v0 v1 : V) (fs0 fs1 : Fs) (H : Hp) (i : Nat) (W : Wo) : Prop where
  bag : DwAt H p l0
  wo : WoAt H a W
  ok : OkW i W
  nts : ∃ xs ts, H n = some (.lst xs) ∧ Rel (NtAt (mutM p a n) C L D (rqG fs0) (rqG fs1) H) xs ts ∧ xs.length ≤ i ∧ ∀ t ∈ ts, NtOk W t
  q : H q = some (.lst [v0, v1])
  q0 : RqOf R la H v0 (rqG fs0)
  q1 : RqOf R lb H v1 (rqG fs1)
  f0 : FsAt H lf fs0
  f1 : FsAt H ls fs1
  cd : H cd = some (.lst (codeL.map V.str))
/-- what lies apart -/
structure Aps (p l0 a n q lf ls cd la lb : Addr) : Prop where
  ap : a ≠ p
  a0 : a ≠ l0
  np : n ≠ p
  n0 : n ≠ l0
  na : n ≠ a
  q : ¬ mutM p a n q
  lf : ¬ mutM p a n lf
  ls : ¬ mutM p a n ls
  cd : ¬ mutM p a n cd
  la : ¬ mutM p a n la
  lb : ¬ mutM p a n lb
section
variable {p l0 a n q lf ls cd la lb C L R D : Addr} {v0 v1 : V} {fs0 fs1 : Fs} {H H' : Hp} {i : Nat} {W W' : Wo}
theorem LwS.mo (h : LwS p l0 a n q lf ls cd la lb C L R D v0 v1 fs0 fs1 H i W) : MO (mutM p a n) H := fun c hc => by
  rcases hc with rfl | rfl | rfl
  · exact .inl h.bag.has
  · exact .inr ⟨_, h.wo⟩
  · obtain ⟨xs, ts, hx, _⟩ := h.nts
    exact .inl ⟨xs, hx⟩
theorem LwS.km {xs : List V} {ts : List Nt} {j : Nat} (h : LwS p l0 a n q lf ls cd la lb C L R D v0 v1 fs0 fs1 H i W) (x : Aps p l0 a n q lf ls cd la lb) (k : KM (mutM p a n) H H') (b : DwAt H' p l0) (w : WoAt H' a W') (o : OkW j W') (hx : H' n = some (.lst xs)) (hr : Rel (NtAt (mutM p a n) C L D (rqG fs0) (rqG fs1) H') xs ts) (hl : xs.length ≤ j) (ht : ∀ t ∈ ts, NtOk W' t) : LwS p l0 a n q lf ls cd la lb C L R D v0 v1 fs0 fs1 H' j W' :=
  ⟨b, w, o, ⟨xs, ts, hx, hr, hl, ht⟩, k _ _ x.q h.q, h.q0.km x.la k h.mo, h.q1.km x.lb k h.mo, h.f0.km x.lf k h.mo, h.f1.km x.ls k h.mo, k _ _ x.cd h.cd⟩
theorem LwS.ex (h : LwS p l0 a n q lf ls cd la lb C L R D v0 v1 fs0 fs1 H i W) (x : Aps p l0 a n q lf ls cd la lb) (e : Ex H H') : LwS p l0 a n q lf ls cd la lb C L R D v0 v1 fs0 fs1 H' i W := by
  obtain ⟨xs, ts, h1, h2, h3, h4⟩ := h.nts
  exact h.km x (fun c o _ hc => e _ _ hc) (h.bag.ex e) (h.wo.ex e) h.ok (e _ _ h1) (h2.mono fun _ _ m => m.ex e) h3 h4
theorem LwS.draw (h : LwS p l0 a n q lf ls cd la lb C L R D v0 v1 fs0 fs1 H i W) (x : Aps p l0 a n q lf ls cd la lb) (k : Keep p H H') (b : DwAt H' p l0) : LwS p l0 a n q lf ls cd la lb C L R D v0 v1 fs0 fs1 H' i W := by
  obtain ⟨xs, ts, h1, h2, h3, h4⟩ := h.nts
  have km : KM (mutM p a n) H H' := fun c o hn hc => k _ _ (fun e => hn (.inl e)) hc
  exact h.km x km b (h.wo.keep k x.ap) h.ok (k _ _ x.np h1) (h2.mono fun _ _ m => m.km km h.mo) h3 h4
theorem LwS.step (h : LwS p l0 a n q lf ls cd la lb C L R D v0 v1 fs0 fs1 H i W) (x : Aps p l0 a n q lf ls cd la lb) (k : Keep3 p a H H') (b : DwAt H' p l0) (w : WoAt H' a W') (o : OkW (i + 1) W') (s : StepR W W') : LwS p l0 a n q lf ls cd la lb C L R D v0 v1 fs0 fs1 H' (i + 1) W' := by
  obtain ⟨xs, ts, h1, h2, h3, h4⟩ := h.nts
  have km : KM (mutM p a n) H H' := fun c o hn hc => k _ _ (fun e => hn (.inl e)) (fun e => hn (.inr (.inl e))) hc
  exact h.km x km b w o (k _ _ x.np x.na h1) (h2.mono fun _ _ m => m.km km h.mo) (by omega) fun t ht => (h4 t ht).step s
theorem LwS.stay (h : LwS p l0 a n q lf ls cd la lb C L R D v0 v1 fs0 fs1 H i W) : LwS p l0 a n q lf ls cd la lb C L R D v0 v1 fs0 fs1 H (i + 1) W := by
  obtain ⟨xs, ts, h1, h2, h3, h4⟩ := h.nts
  exact ⟨h.bag, h.wo, h.ok.stay.1, ⟨xs, ts, h1, h2, by omega, h4⟩, h.q, h.q0, h.q1, h.f0, h.f1, h.cd⟩
theorem LwS.note {v : V} {t : Nt} {xs : List V} (h : LwS p l0 a n q lf ls cd la lb C L R D v0 v1 fs0 fs1 H i W) (x : Aps p l0 a n q lf ls cd la lb) (hx : H n = some (.lst xs)) (hv : NtAt (mutM p a n) C L D (rqG fs0) (rqG fs1) H v t) (ht : NtOk W t) : LwS p l0 a n q lf ls cd la lb C L R D v0 v1 fs0 fs1 (upd H n (.lst (xs ++ [v]))) (i + 1) W := by
  obtain ⟨ys, ts, h1, h2, h3, h4⟩ := h.nts
  have e : ys = xs := by rw [h1] at hx; cases hx; rfl
  subst e
  have km : KM (mutM p a n) H (upd H n (.lst (ys ++ [v]))) := fun c o hn hc => by
    rw [upd_ne fun e => hn (.inr (.inr e))]
    exact hc
  refine h.km x km (h.bag.upd ⟨x.np, x.n0⟩) (by show (upd H n _) a = _; rw [upd_ne (Ne.symm x.na)]; exact h.wo) h.ok.stay.1 upd_same (Rel.snoc (h2.mono fun _ _ m => m.km km h.mo) (hv.km km h.mo)) (by rw [List.length_append]; show ys.length + 1 ≤ i + 1; omega) fun u hu => ?_
  rcases List.mem_append.mp hu with hu | hu
  · exact h4 u hu
  · rw [List.mem_singleton.mp hu]; exact ht
theorem LwS.rql (h : LwS p l0 a n q lf ls cd la lb C L R D v0 v1 fs0 fs1 H i W) (k0 : areB fs0 = true) (k1 : areB fs1 = true) (n0 : fs0.length ≤ 8) (n1 : fs1.length ≤ 8) (s0 : okS false fs0) (s1 : okS true fs1) : RqL R H q v0 v1 (rqG fs0) (rqG fs1) := by
  have l0 : (outF fs0 own).length ≤ fs0.length := List.length_filter_le _ _
  have l1 : (outF fs1 own).length ≤ fs1.length := List.length_filter_le _ _
  exact ⟨h.q, ⟨la, h.q0⟩, ⟨lb, h.q1⟩, ok_rqG k0, ok_rqG k1, by show (outF fs0 own).length ≤ 39; omega, by show (outF fs1 own).length ≤ 39; omega, rfl, rfl, s0, s1⟩
end
section
variable {P : Program} {w : World} {K : PySem.W.Frag} {mg : Str → Option Value} {base : Heap} {f B R C L U D DV DM DH : Addr} {fd : FuncData} {k : Nat}
theorem ok_law_stay (WR : Wr K mg B R) (F : FnP K "_law_stay" s_law_stay f fd) (gm : mg "_law_stay" = some (.ref f)) (T : Mg mg) : Call P w K mg base 1 "_law_stay" ["requests", "fields", "starred"] (spStay R) := by
  refine mk F gm (fun _ _ _ _ _ _ us hl => match us, hl with | [_, _, _], _ => rfl) (fun _ _ _ _ _ _ us hl => match us, hl with | [_, _, _], _ => rfl) sc_law_stay (fun vs H Q E h => ?_) (fun cdv A outer s H vs Q E hr h => ?_)
  · obtain ⟨q, f0, f1, v0, v1, fs0, fs1, rfl, _⟩ := h
    rfl
  · obtain ⟨q, f0, f1, v0, v1, fs0, fs1, rfl, hq, h0, h1, g0, g1, k0, k1, kq⟩ := h
    refine ⟨_, (pss_cons (ps_for PassesOwn.never rfl (pi_range1 rfl T.range (pa_cons pe_int pa_nil)) (pg_name (i := 3) sc_law_stay.nd rfl (Or.inl rfl))
      (pss_cons (ps_if (PW.pt (pw_or (pt_cmpR op_ne (pe_fld (pe_ix ix_list (pv 0) (pv 3) (fun _ _ => rfl)) rfl) pe_str (nomark _)) (pw_or1 (pt_cmpR op_ne (pe_fld (pe_ix ix_list (pv 0) (pv 3) (fun _ _ => rfl)) rfl) pe_str (nomark _)))))
        (pss_one (ps_ret pe_bl))
        pss_nil)
      (pss_one (ps_if (pt_cmpR (op_neD hr.units) (pe_fld (pe_ix ix_list (pv 0) (pv 3) (fun _ _ => rfl)) rfl) (pe_ix ix_list (pe_lst (pa_cons (pv 1) (pa_cons (pv 2) pa_nil))) (pv 3) (fun _ _ => rfl)) (nomark _))
        (pss_one (ps_ret pe_bl))
        pss_nil))))
    (pss_one (ps_ret pe_bl))), ?_⟩
    refine q_forR1 (n := 2) (ea_cons ev_c ea_nil) (by decide) (fun j σ' H' => (∃ x, σ' = [some (.ref q), some (.ref f0), some (.ref f1), x]) ∧ Ex H H') (fun H2 e2 => ⟨⟨none, rfl⟩, e2⟩) (fun j σ' H2 hj pv => ?_) (fun σ' H2 pv => ?_)
    · obtain ⟨⟨x, rfl⟩, e2⟩ := pv
      try dsimp only
      obtain ⟨vk, fk, fsk, hvk, hfk, hrk, hgk, hkk⟩ : ∃ (vk : V) (fk : Addr) (fsk : Fs), [v0, v1][j]? = some vk ∧ [V.ref f0, .ref f1][j]? = some (.ref fk) ∧ RqAt R H vk (rqG fsk) ∧ FsAt H fk fsk ∧ areB fsk = true := by
        match j, hj with
        | 0, _ => exact ⟨v0, f0, fs0, rfl, rfl, h0, g0, k0⟩
        | 1, _ => exact ⟨v1, f1, fs1, rfl, rfl, h1, g1, k1⟩
        | n + 2, h => exact absurd h (by omega)
      obtain ⟨l, a, dx, rfl, ha, hf⟩ := hrk
      have rk : ∀ {σ : L2.St} {H' : Hp}, Ex H H' → σ[0]? = some (some (.ref q)) → σ[3]? = some (some (.int (j : Int))) → Ev (tOp (rIxL K) (tVar 0) (tVar 3)) σ H' (.ref a) := fun e h0 h3 => ev_ixL (ev_var h0) (ev_var h3) (e _ _ hq) (atI_nat hvk)
      refine q_when (b := false) (et_is (et_or (a := false) (b := false) (et_is (et_test (ev_op (ev_rfld (f := "method") (v := .str "get") (l := l) (r := rqG fsk) WR.cls WR.n5 (rk e2 rfl rfl) (e2 _ _ ha) rfl) ev_c rv_neS)) (by rw [decide_eq_true rfl]; rfl)) fun _ => et_is (et_test (ev_op (ev_rfld (f := "path") (v := .str "/a") (l := l) (r := rqG fsk) WR.cls WR.n6 (rk e2 rfl rfl) (e2 _ _ ha) rfl) ev_c rv_neS)) (by rw [decide_eq_true rfl]; rfl)) rfl) (fun h => nomatch h) (fun _ H3 e3 => ?_)
      have e23 := e2.trans e3
      refine s_when (b := false) (et_is (et_test (ev_op (ev_rfld (f := "fields") (v := .ref l) (l := l) (r := rqG fsk) WR.cls WR.n3 (rk e23 rfl rfl) (e23 _ _ ha) rfl) (ev_opL1 (xs := [V.ref f0, .ref f1]) (el_lst (ea_cons (ev_var rfl) (ea_cons (ev_var rfl) ea_nil)) (by show 2 ≤ 100000; decide)) (fun H4 e4 => ev_var rfl) fun p H4 hp e4 => rv_ixL (sq_of hp) (atI_nat hfk)) (rv_neF (hf.ex e23) (hgk.ex e23) (areB_ok hkk) (areB_ok hkk)))) (by show (!decide (fsk = fsk)) = false; rw [decide_eq_true rfl]; rfl)) (fun h => nomatch h) (fun _ H4 e4 => ⟨⟨_, rfl⟩, e23.trans e4⟩)
    · obtain ⟨⟨x, rfl⟩, e2⟩ := pv
      exact s_ret ev_c fun H3 e3 => kq H3 (e2.trans e3)
structure Ri3 (P : Program) (w : World) (K : PySem.W.Frag) (mg : Str → Option Value) (base : Heap) (R : Addr) : Prop where
  ex : ∃ fi fd ds, Mk K R fi ∧ FnOk P w K mg base (L2N.CX P w) 6 fi fd ["self", "method", "path", "fields", "body"] (spRi R) ∧ Binds K fd ["self", "method", "path", "fields", "body"] ds ∧ Vals [.str ""] ds
theorem ok_law13 (T : Mg mg) (WR : Wr K mg B R) (RI : Ri3 P w K mg base R) (c_law_bag : Call P w K mg base 1 "_law_bag" ["script"] (spBagS K)) (c_law_take : CTake P w K mg base) (c_law_world : Call P w K mg base 3 "_law_world" ["bag"] spWorld) (c_law_fields : Call P w K mg base 2 "_law_fields" ["bag"] spFields)
    (c_law_step : Call P w K mg base 3 "_law_step" ["bag", "world", "code"] spStep) (c_law_note : Call P w K mg base 13 "_law_note" ["world", "requests"] (spNote C L R D)) (c_law_truth_of_settled : Call P w K mg base 3 "_law_truth_of_settled" ["world"] spWoT) (c_law_checks : Call P w K mg base 13 "_law_checks" ["world", "note", "requests"] (spChecks C L R D))
    (c_law_stay : Call P w K mg base 1 "_law_stay" ["requests", "fields", "starred"] (spStay R)) (F : FnP K "law" s_law f fd) : FnOk P w K mg base CX0 14 f fd ["script"] (spLaw13 K) := by
  obtain ⟨fi, fdi, dsq, MQ, Fi, hbq, hdq⟩ := RI.ex
  refine mkF F sc_law (fun vs H Q E h => ?_) (fun cdv A outer s H vs Q E hr h => ?_)
  · obtain ⟨a, ns, rfl, _⟩ := h
    rfl
  · obtain ⟨sa, ns, rfl, hS, hl, hbits, qq⟩ := h
    refine ⟨_, (pss_cons (ps_set (i := 1) sc_law.nd rfl (Or.inl rfl) (pe_f c_law_bag hr (by decide) rfl (pa_cons (pv 0) pa_nil)))
    (pss_cons (ps_set (i := 2) sc_law.nd rfl (Or.inl rfl) (pe_f c_law_world hr (by decide) rfl (pa_cons (pv 1) pa_nil)))
    (pss_cons (ps_set (i := 3) sc_law.nd rfl (Or.inl rfl) (pe_f c_law_fields hr (by decide) rfl (pa_cons (pv 1) pa_nil)))
    (pss_cons (ps_set (i := 4) sc_law.nd rfl (Or.inl rfl) (pe_f c_law_take hr (by decide) rfl (pa_cons (pv 1) (pa_cons (pe_op op_add (pe_callB call_len_seq (by rfl) T.len (by decide +kernel) (pa_cons (pv 3) pa_nil)) pe_int) pa_nil))))
    (pss_cons (ps_set (i := 5) sc_law.nd rfl (Or.inl rfl) (pe_op op_cat (pe_op op_cat (pe_slice sl_list (pv 3) po_none (po_some (pv 4))) (pe_lst (pa_cons (pe_tup (pa_cons pe_str (pa_cons pe_str pa_nil))) pa_nil))) (pe_slice sl_list (pv 3) (po_some (pv 4)) po_none)))
    (pss_cons (ps_set (i := 6) sc_law.nd rfl (Or.inl rfl) (pe_lst (pa_cons (pe_make MQ Fi (hr.mono (by decide)) rfl WR.m hbq hdq ZX.passN (pa_cons pe_str (pa_cons pe_str (pa_cons (pe_callTy call_list_of (by rfl) T.list (by decide +kernel) (pa_cons (pv 3) pa_nil)) pa_nil)))) (pa_cons (pe_make MQ Fi (hr.mono (by decide)) rfl WR.m hbq hdq ZX.passN (pa_cons pe_str (pa_cons pe_str (pa_cons (pe_callTy call_list_of (by rfl) T.list (by decide +kernel) (pa_cons (pv 5) pa_nil)) pa_nil)))) pa_nil))))
    (pss_cons (ps_set (i := 7) sc_law.nd rfl (Or.inl rfl) (pe_lst (pa_cons pe_str (pa_cons pe_str (pa_cons pe_str (pa_cons pe_str (pa_cons pe_str (pa_cons pe_str (pa_cons pe_str (pa_cons pe_str pa_nil))))))))))
    (pss_cons (ps_set (i := 8) sc_law.nd rfl (Or.inl rfl) (pe_lst pa_nil))
    (pss_cons (ps_for PassesOwn.never rfl (pi_range1 rfl T.range (pa_cons (pe_ix ix_list (pe_lst (pa_cons pe_int (pa_cons pe_int (pa_cons pe_int (pa_cons pe_int (pa_cons pe_int (pa_cons pe_int pa_nil))))))) (pe_f c_law_take hr (by decide) rfl (pa_cons (pv 1) (pa_cons pe_int pa_nil))) (fun _ _ => rfl)) pa_nil)) (pg_name (i := 9) sc_law.nd rfl (Or.inl rfl))
      (pss_cons (ps_set (i := 10) sc_law.nd rfl (Or.inl rfl) (pe_ix ix_list (pv 7) (pe_op op_mod (pe_callTy cz_int1 (by rfl) T.int (by decide +kernel) (pa_cons (pe_op op_add (pe_f c_law_take hr (by decide) rfl (pa_cons (pv 1) (pa_cons pe_int pa_nil))) (pv 9)) pa_nil)) pe_int) (fun _ _ => rfl)))
      (pss_cons (ps_if (pt_cmpR op_ne (pv 10) pe_str (nomark _))
        (pss_one (ps_expr (pe_f c_law_step hr (by decide) rfl (pa_cons (pv 1) (pa_cons (pv 2) (pa_cons (pv 10) pa_nil))))))
        (pss_one (ps_if (pt_val (pe_dget hr.units1 (pv 2) pe_str (fun _ _ => rfl)))
          (pss_one (ps_expr (pe_bm PySem.F.plainAttrs_list PySem.F.slot_list_append PySem.F.type_list_append mt_append (pv 8) (pa_cons (pe_f c_law_note hr (by decide) rfl (pa_cons (pv 2) (pa_cons (pv 6) pa_nil))) pa_nil))))
          pss_nil)))
      (pss_cons (ps_if (pt_not (pt_val (pe_f c_law_truth_of_settled hr (by decide) rfl (pa_cons (pv 2) pa_nil))))
        (pss_one (ps_ret pe_bl))
        pss_nil)
      (pss_one (ps_if (pt_cmpR op_gt (pe_callB call_len_seq (by rfl) T.len (by decide +kernel) (pa_cons (pv 8) pa_nil)) pe_int (nomark _))
        (pss_cons (ps_set (i := 11) sc_law.nd rfl (Or.inl rfl) (pe_ix ix_list (pv 8) (pe_f c_law_take hr (by decide) rfl (pa_cons (pv 1) (pa_cons (pe_callB call_len_seq (by rfl) T.len (by decide +kernel) (pa_cons (pv 8) pa_nil)) pa_nil))) (fun _ _ => rfl)))
        (pss_one (ps_if (pt_not (pt_val (pe_f c_law_checks hr (by decide) rfl (pa_cons (pv 2) (pa_cons (pv 11) (pa_cons (pv 6) pa_nil))))))
          (pss_one (ps_ret pe_bl))
          pss_nil)))
        pss_nil))))))
    (pss_cons (ps_for PassesOwn.never rfl (pi_list (pv 8)) (pg_name (i := 11) sc_law.nd rfl (Or.inl rfl))
      (pss_one (ps_if (pt_not (pt_val (pe_f c_law_checks hr (by decide) rfl (pa_cons (pv 2) (pa_cons (pv 11) (pa_cons (pv 6) pa_nil))))))
        (pss_one (ps_ret pe_bl))
        pss_nil)))
    (pss_one (ps_ret (pe_f c_law_stay hr (by decide) rfl (pa_cons (pv 6) (pa_cons (pv 3) (pa_cons (pv 5) pa_nil)))))))))))))))), ?_⟩
    refine q_asgR (rd_call (ea_cons (ev_var rfl) ea_nil) fun H1 e1 => ⟨sa, ns, rfl, ex_l e1 hS, hl, hbits, fun p l0 H2 np e2 b2 => ?_⟩)
    try dsimp only
    clear hS e1 e2 np
    refine q_asgR (rd_call (ea_cons (ev_var rfl) ea_nil) fun H3 e3 => ⟨p, l0, rfl, b2.ex e3, fun a W H4 na ha hW b4 k4 => ?_⟩)
    try dsimp only
    have ap := ((b2.ex e3).ne na).1
    have a0 := ((b2.ex e3).ne na).2
    clear b2 e3 k4 na
    refine q_asgR (rd_call (ea_cons (ev_var rfl) ea_nil) fun H5 e5 => ⟨p, l0, rfl, b4.ex e5, fun lf fs0 H6 nf hf0 hfm hfl b6 k6 => ?_⟩)
    try dsimp only
    have fp := ((b4.ex e5).ne nf).1
    have fa : lf ≠ a := fun e => by rw [e, e5 _ _ ha] at nf; cases nf
    have ha := (ha.ex e5).keep k6 ap
    clear b4 e5 k6 nf
    obtain ⟨xs, hx, hxr⟩ := id hf0
    refine q_take (lim := (xs.length : Int) + 1) (ea_cons (ev_var rfl) (ea_cons (ev_op (ev_len (ev_var rfl) (sq_of hx)) ev_c rv_I0) ea_nil)) b6 (by omega) (by rw [hxr.1]; omega) fun s H7 s0 s1 b7 k7 => ?_
    try dsimp only
    have ha := ha.keep k7 ap
    have hf0 := hf0.keep k7 b6.has fp
    clear s1 b6 k7 hx hxr xs
    obtain ⟨s, rfl⟩ := Int.eq_ofNat_of_zero_le s0
    obtain ⟨xs, hx, hxr⟩ := id hf0
    refine q_asgR (rd_opR (rd_opR ((el_sl (ev_var rfl) eo_none (eo_some (ev_var rfl)) (sq_of hx)) H7 (Ex.refl H7) _ fun l1 H8 n8 e8 h8 => rd_lstF (fs := [(("if-mark" : Str), ("*" : Str))]) (efs_cons (ea_cons ev_c (ea_cons ev_c ea_nil)) efs_nil) (by decide) fun l2 H9 n9 e9 h9 => ?_)))
    obtain ⟨ys, hy, hyr⟩ := h9
    have e79 := e8.trans e9
    refine ⟨l1, l2, _, ys, rfl, rfl, e9 _ _ h8, hy, sz_of (by rw [cutV_takeV, List.length_take, hyr.1, hxr.1]; show min s fs0.length + 1 ≤ 100000; omega), fun l3 n3 => ?_⟩
    have eA := Ex.new (o := .lst (cutV xs none (some (s : Int)) ++ ys)) n3
    have h3 : (upd H9 l3 (.lst (cutV xs none (some (s : Int)) ++ ys))) l3 = some (.lst (cutV xs none (some (s : Int)) ++ ys)) := upd_same
    generalize upd H9 l3 (.lst (cutV xs none (some (s : Int)) ++ ys)) = HA at eA h3
    have e7A := e79.trans eA
    refine (el_sl (ev_var rfl) (eo_some (ev_var rfl)) eo_none (sq_of (e7A _ _ hx))) HA (Ex.refl HA) _ fun l4 HB n4 eB h4 => ⟨l3, l4, _, _, rfl, rfl, eB _ _ h3, h4, sz_of (by rw [List.length_append, cutV_takeV, cutV_dropV, List.length_take, List.length_drop, hyr.1, hxr.1]; show min s fs0.length + 1 + (fs0.length - s) ≤ 100000; omega), fun ls nls => ?_⟩
    try dsimp only
    have eC := Ex.new (o := .lst (cutV xs none (some (s : Int)) ++ ys ++ cutV xs (some (s : Int)) none)) nls
    have e7B := e7A.trans eB
    have e7C := e7B.trans eC
    have hf1 : FsAt (upd HB ls (.lst (cutV xs none (some (s : Int)) ++ ys ++ cutV xs (some (s : Int)) none))) ls (starFs fs0 s) := by
      refine ⟨_, upd_same, ?_⟩
      rw [cutV_takeV, cutV_dropV]
      have hx7 : Rel (PfAt (upd HB ls (.lst (xs.take s ++ ys ++ xs.drop s)))) xs fs0 := hxr.mono fun _ _ m => TupAt.ex m (by rw [cutV_takeV, cutV_dropV] at e7C; exact e7C)
      have hy7 : Rel (PfAt (upd HB ls (.lst (xs.take s ++ ys ++ xs.drop s)))) ys [(("if-mark" : Str), ("*" : Str))] := hyr.mono fun _ _ m => TupAt.ex m (by rw [cutV_takeV, cutV_dropV] at eC; exact (eA.trans eB).trans eC)
      exact ((hx7.takeV s).appV hy7).appV (hx7.dropV s)
    have b8 := b7.ex e7C
    have hsp : ls ≠ p := ((b7.ex e7B).ne nls).1
    have hsa : ls ≠ a := fun e => by rw [e, (ha.ex e7B)] at nls; cases nls
    have ha := ha.ex e7C
    have hf0 := hf0.ex e7C
    generalize upd HB ls (.lst (cutV xs none (some (s : Int)) ++ ys ++ cutV xs (some (s : Int)) none)) = HC at hf1 b8 ha hf0
    clear e7C eC e7B e7A e79 n3 n4 n8 n9 h3 h4 h8 hy hyr hx hxr b7 nls
    have r0 := menu_are hfm hfl
    obtain ⟨r1, t1, s1'⟩ := star_are (s := s) hfm hfl
    have s0' := okS_plain hfm
    generalize starFs fs0 s = fs1 at hf1 r1 t1 s1'
    refine q_st (σ' := [some (.ref sa), some (.ref p), some (.ref a), some (.ref lf), some (.int (s : Int)), some (.ref ls), none, none, none, none, none, none]) rfl ?_
    refine q_asgR (rd_consR (rd_req rfl hf0 r0 fun v0 la HD nla eD hq0 => rd_consR (rd_req rfl (hf1.ex eD) r1 fun v1 lb HE nlb eE hq1 => rd_nil ⟨by show 2 ≤ sizeLine; decide, fun q nq => ?_⟩)))
    try dsimp only
    have eDE := eD.trans eE
    have eF := Ex.new (o := .lst [v0, v1]) nq
    have eCF := eDE.trans eF
    have hlap : la ≠ p := (b8.ne nla).1
    have hlaa : la ≠ a := fun e => by rw [e, ha] at nla; cases nla
    have hlbp : lb ≠ p := ((b8.ex eD).ne nlb).1
    have hlba : lb ≠ a := fun e => by rw [e, (ha.ex eD)] at nlb; cases nlb
    have hqp : q ≠ p := ((b8.ex eDE).ne nq).1
    have hqa : q ≠ a := fun e => by rw [e, (ha.ex eDE)] at nq; cases nq
    have hq : (upd HE q (.lst [v0, v1])) q = some (.lst [v0, v1]) := upd_same
    have hq0 := hq0.ex (eE.trans eF)
    have hq1 := hq1.ex eF
    have b9 := b8.ex eCF
    have ha := ha.ex eCF
    have hf0 := hf0.ex eCF
    have hf1 := hf1.ex eCF
    generalize upd HE q (.lst [v0, v1]) = HF at hq hq0 hq1 b9 ha hf0 hf1
    clear eCF eF eDE nla nlb nq b8
    refine q_asgL (xs := codeL.map V.str) (el_lst (ea_cons ev_c (ea_cons ev_c (ea_cons ev_c (ea_cons ev_c (ea_cons ev_c (ea_cons ev_c (ea_cons ev_c (ea_cons ev_c ea_nil)))))))) (by show 8 ≤ 100000; decide)) fun cd HG ncd eG hcd => ?_
    try dsimp only
    have hcp : cd ≠ p := (b9.ne ncd).1
    have hca : cd ≠ a := fun e => by rw [e, ha] at ncd; cases ncd
    refine q_asgL (xs := []) (el_lst ea_nil (by decide)) fun n HH nn eH hn => ?_
    try dsimp only
    have eGH := eG.trans eH
    have ncn : cd ≠ n := ne_of_none hcd nn
    have nHF : HF n = none := fresh_back eG nn
    have X : Aps p l0 a n q lf ls cd la lb := by
      have lane : la ≠ n := by
        obtain ⟨_, _, _, _, ⟨xs, hx, _⟩⟩ := hq0
        exact ne_of_none hx nHF
      have lbne : lb ≠ n := by
        obtain ⟨_, _, _, _, ⟨xs, hx, _⟩⟩ := hq1
        exact ne_of_none hx nHF
      have lfne : lf ≠ n := by
        obtain ⟨xs, hx, _⟩ := hf0
        exact ne_of_none hx nHF
      have lsne : ls ≠ n := by
        obtain ⟨xs, hx, _⟩ := hf1
        exact ne_of_none hx nHF
      have bn := (b9.ex eG).ne nn
      exact ⟨ap, a0, bn.1, bn.2, (fun e => by rw [e, (ha.ex eG)] at nn; cases nn), nmM hqp hqa (ne_of_none hq nHF), nmM fp fa lfne, nmM hsp hsa lsne, nmM hcp hca ncn, nmM hlap hlaa lane, nmM hlbp hlba lbne⟩
    have S0 : LwS p l0 a n q lf ls cd la lb C L R D v0 v1 fs0 fs1 HH 0 W := ⟨b9.ex eGH, ha.ex eGH, hW, ⟨[], [], hn, Rel.nil, Nat.le_refl _, fun t h => nomatch h⟩, eGH _ _ hq, hq0.ex eGH, hq1.ex eGH, hf0.ex eGH, hf1.ex eGH, eH _ _ hcd⟩
    clear b9 ha hq hq0 hq1 hf0 hf1 hcd hn eG eH eGH ncd nn nHF hW hlap hlaa hlbp hlba hqp hqa hcp hca ncn ap a0 fp fa hsp hsa
    refine q_st (σ' := [some (.ref sa), some (.ref p), some (.ref a), some (.ref lf), some (.int (s : Int)), some (.ref ls), some (.ref q), some (.ref cd), some (.ref n), none, none, none]) rfl ?_
    have chk : ∀ {σ : L2.St} {H : Hp} {i j : Nat} {W : Wo} {u : V} {t : Nt}, LwS p l0 a n q lf ls cd la lb C L R D v0 v1 fs0 fs1 H i W → i ≤ 14 → NtAt (mutM p a n) C L D (rqG fs0) (rqG fs1) H u t → NtOk W t → σ[2]? = some (some (.ref a)) → σ[11]? = some (some u) → σ[6]? = some (some (.ref q)) → EvT (tNot (tB (tCall (spChecks C L R D) [] E0 (tCons (tVar 2) (tCons (tVar 11) (tCons (tVar 6) tNil)))))) σ H false := fun {σ H i j W u t} S hi hu ht h2 hb h6 => et_is (et_not (et_B (ev_call (ea_cons (ev_var h2) (ea_cons (ev_var hb) (ea_cons (ev_var h6) ea_nil))) fun H1 e1 Q' q' E' => ⟨a, q, u, W, i, v0, v1, rqG fs0, rqG fs1, mutM p a n, t, rfl, S.wo.ex e1, S.ok, hi, (S.ex X e1).rql r0 r1 (by omega) t1 s0' s1', hu.ex e1, ht, q'⟩))) rfl
    refine q_rng (rd_pickI (ns := [8, 4, 12, 14, 2, 6]) (ea_cons ev_c (ea_cons ev_c (ea_cons ev_c (ea_cons ev_c (ea_cons ev_c (ea_cons ev_c ea_nil)))))) (by decide) (fun _ _ => ea_cons (ev_var rfl) (ea_cons ev_c ea_nil)) S0.bag (by decide) fun nr HI hnr bI kI => ?_)
    have S1 := S0.draw X kI bI
    have hnb : 0 ≤ nr ∧ nr ≤ 14 := by
      simp only [List.mem_cons, List.not_mem_nil, or_false] at hnr
      omega
    refine rng_go (m := 14) hnb.1 hnb.2 (by decide) (fun i σ' H' => (∃ x9 x10 x11, σ' = [some (.ref sa), some (.ref p), some (.ref a), some (.ref lf), some (.int (s : Int)), some (.ref ls), some (.ref q), some (.ref cd), some (.ref n), x9, x10, x11]) ∧ ∃ W, LwS p l0 a n q lf ls cd la lb C L R D v0 v1 fs0 fs1 H' i W) ⟨⟨none, none, none, rfl⟩, W, S1⟩ (fun i σ' H1 hi pv => ?_) (fun m σ' H1 hm pv => ?_)
    · obtain ⟨⟨x9, x10, x11, rfl⟩, W, S1⟩ := pv
      try dsimp only
      refine q_asgR (rd_opR ⟨_, rfl, rd_opR ?_⟩)
      refine rd_opR (rd_take (ea_cons (ev_var rfl) (ea_cons ev_c ea_nil)) S1.bag (by decide) (by decide) fun d H2 d0 d1 b2 k2 => (ev_var rfl) H2 (Ex.refl H2) _ fun H3 e3 => rv_I0 H3 (Ex.refl H3) _ fun H4 e4 => .inl ⟨_, rfl, ev_c H4 (Ex.refl H4) _ fun H5 e5 => ⟨_, _, rfl, rfl, by show (0 : Int) < 8; decide, ?_⟩⟩)
      have S5 := (S1.draw X k2 b2).ex X ((e3.trans e4).trans e5)
      have m0 := Int.emod_nonneg (d + (i : Int)) (show (8 : Int) ≠ 0 by decide)
      have m1 := Int.emod_lt_of_pos (d + (i : Int)) (show (0 : Int) < 8 by decide)
      obtain ⟨v, hv, hvm⟩ := at_int (xs := codeL.map V.str) (d := (d + (i : Int)) % 8) m0 (by show (d + (i : Int)) % 8 < 8; exact m1)
      obtain ⟨z, hz, rfl⟩ := List.mem_map.mp hvm
      refine ⟨cd, _, _, _, rfl, rfl, sq_of S5.cd, hv, ?_⟩
      try dsimp only
      clear S1 k2 b2 e3 e4 e5 m0 m1 hv hvm
      refine q_tailIf (fun σ1 Hx => σ1 = [some (.ref sa), some (.ref p), some (.ref a), some (.ref lf), some (.int (s : Int)), some (.ref ls), some (.ref q), some (.ref cd), some (.ref n), some (.int (i : Int)), some (.str z), x11] ∧ ∃ W, LwS p l0 a n q lf ls cd la lb C L R D v0 v1 fs0 fs1 Hx (i + 1) W) (fun σ1 H6 hR => ?_) (fun tail => ?_)
      · obtain ⟨rfl, W6, S6⟩ := hR
        refine q_when (b := false) (et_is (et_not (et_B (ev_call (z := .bl true) (ea_cons (ev_var rfl) ea_nil) fun H7 e7 Q' q' E' => ⟨a, W6, rfl, S6.wo.ex e7, q'⟩))) rfl) (fun h => nomatch h) (fun _ H7 e7 => ?_)
        have S7 := S6.ex X e7
        obtain ⟨xs, ts, hx, hxr, hxl, hxt⟩ := id S7.nts
        refine s_when (b := decide (xs.length > 0)) (et_is (et_test (ev_op (ev_len (ev_var rfl) (sq_of hx)) ev_c rv_I0)) (decide_eq_decide.mpr (by omega))) (fun hb H8 e8 => ?_) (fun hb H8 e8 => ⟨⟨_, _, _, rfl⟩, W6, S7.ex X e8⟩)
        have hb := of_decide_eq_true hb
        have S8 := S7.ex X e8
        have hx8 := e8 _ _ hx
        refine q_asgR (rd_opR ⟨_, rfl, rd_take (lim := (xs.length : Int)) (ea_cons (ev_var rfl) (ea_cons (ev_len (ev_var rfl) (sq_of hx8)) ea_nil)) S8.bag (by omega) (by omega) fun d H9 d0 d1 b9 k9 => ?_⟩)
        have S9 := S8.draw X k9 b9
        obtain ⟨xs9, ts9, hx9, hxr9, hxl9, hxt9⟩ := id S9.nts
        have ex9 : xs9 = xs := by rw [k9 _ _ X.np hx8] at hx9; cases hx9; rfl
        subst ex9
        obtain ⟨u, hu, hum⟩ := at_int (xs := xs9) (d := d) d0 d1
        obtain ⟨ju, hju⟩ := List.mem_iff_getElem?.mp hum
        obtain ⟨t, hto, hut⟩ := hxr9.get hju
        refine ⟨n, xs9, d, u, rfl, rfl, sq_of hx9, hu, ?_⟩
        try dsimp only
        refine s_when (b := false) (chk (j := 0) S9 (by omega) hut (hxt9 t (List.mem_of_getElem? hto)) rfl rfl rfl) (fun h => nomatch h) (fun _ HA eA => ⟨⟨_, _, _, rfl⟩, W6, S9.ex X eA⟩)
      · refine q_if (b := !decide (z = "note")) (et_test (ev_op (ev_var rfl) ev_c rv_neS)) (fun hb H6 e6 => ?_) (fun hb H6 e6 => ?_)
        · have hzn : z ≠ ("note" : Str) := fun e => by rw [e, decide_eq_true rfl] at hb; cases hb
          have S6 := S5.ex X e6
          refine g_drop (rd_call (ea_cons (ev_var rfl) (ea_cons (ev_var rfl) (ea_cons (ev_var rfl) ea_nil))) fun H7 e7 => ⟨p, l0, a, z, W, i, rfl, (S6.ex X e7).bag, X.ap, X.a0, (S6.ex X e7).wo, S6.ok, code_ok z hz hzn, fun W' H8 o8 s8 a8 b8 k8 => tail _ _ ⟨rfl, W', (S6.ex X e7).step X k8 b8 a8 o8 s8⟩⟩)
        · have S6 := S5.ex X e6
          refine s_when (b := W.there) (et_B (ev_wo (ev_var rfl) S6.wo rfl)) (fun hb2 H7 e7 => ?_) (fun hb2 H7 e7 => tail _ _ ⟨rfl, W, (S6.ex X e7).stay⟩)
          have S7 := S6.ex X e7
          obtain ⟨xs, ts, hx, hxr, hxl, hxt⟩ := id S7.nts
          refine g_drop ⟨_, rfl, Or.inl ⟨rfl, xs, sq_of hx⟩, rd_consR (rd_call (ea_cons (ev_var rfl) (ea_cons (ev_var rfl) ea_nil)) fun H8 e8 => ⟨a, q, W, i, v0, v1, rqG fs0, rqG fs1, mutM p a n, rfl, (S7.ex X e8).wo, S7.ok, by omega, (S7.ex X e8).rql r0 r1 (by omega) t1 s0' s1', fun c hc => ?_, fun u H9 e9 hu => rd_nil ?_⟩)⟩
          · rcases (S7.ex X e8).mo c hc with ⟨ys, hy⟩ | ⟨ks, hk⟩
            · exact ⟨_, hy⟩
            · exact ⟨_, hk⟩
          · have e79 := e8.trans e9
            exact ⟨n, xs, u, rfl, rfl, e79 _ _ hx, sz_lt (by omega), tail _ _ ⟨rfl, W, (S7.ex X e79).note X (e79 _ _ hx) hu (ntW_ok S7.ok (by omega))⟩⟩
    · obtain ⟨⟨x9, x10, x11, rfl⟩, W2, S2⟩ := pv
      try dsimp only
      obtain ⟨xs, ts, hx, hxr, hxl, hxt⟩ := id S2.nts
      refine q_forLn (xs := xs) (ev_var rfl) (sq_of hx) (fun j σ' H' => (∃ x11, σ' = [some (.ref sa), some (.ref p), some (.ref a), some (.ref lf), some (.int (s : Int)), some (.ref ls), some (.ref q), some (.ref cd), some (.ref n), x9, x10, x11]) ∧ Ex H1 H') (fun H2 e2 => ⟨⟨_, rfl⟩, e2⟩) (fun j σ' H' _ pv => sq_of (pv.2 _ _ hx)) (fun j u σ' H2 hu pv => ?_) (fun σ' H2 pv => ?_)
      · obtain ⟨⟨y, rfl⟩, e2⟩ := pv
        try dsimp only
        obtain ⟨t, hto, hut⟩ := hxr.get hu
        refine s_when (b := false) (chk (j := 0) (S2.ex X e2) hm (hut.ex e2) (hxt t (List.mem_of_getElem? hto)) rfl rfl rfl) (fun h => nomatch h) (fun _ H3 e3 => ⟨⟨_, rfl⟩, e2.trans e3⟩)
      · obtain ⟨⟨y, rfl⟩, e2⟩ := pv
        have S3 := S2.ex X e2
        exact s_ret (v := .bl true) (ev_call (ea_cons (ev_var rfl) (ea_cons (ev_var rfl) (ea_cons (ev_var rfl) ea_nil))) fun H4 e4 Q' q' E' => by
          have S4 := S3.ex X e4
          exact ⟨q, lf, ls, v0, v1, fs0, fs1, rfl, S4.q, ⟨la, S4.q0⟩, ⟨lb, S4.q1⟩, S4.f0, S4.f1, r0, r1, q'⟩) fun H5 _ => qq H5
end
end Z
set_option maxHeartbeats 2000000
namespace ZX
open PySem PySem.Spec PyProof.Rows L2 He
/-! ### the Hook, what is looked at often standing first -/
end ZX
set_option maxHeartbeats 2000000
namespace ZX
open PySem PySem.Spec PyProof.Rows L2 He
/-! ### the run looked at in parts: what one look makes the kernel hold is let go before the next -/
end ZX
set_option maxHeartbeats 0
namespace Z
open PySem PySem.Spec PyProof.Rows L2
theorem rawO {P : Program} {w : World} {K : PySem.W.Frag} {mg : Str → Option Value} {base : Heap} {C L R D f : Addr} (h : FnR P w K mg base CX0 10 f (fun vs H Q E => spOf C L R D (vs ++ []) H Q E)) : FnR P w K mg base CX0 10 f (spOf C L R D) := by
  have e : (fun vs H Q E => spOf C L R D (vs ++ []) H Q E) = spOf C L R D := by
    funext vs H Q E
    rw [List.append_nil]
  rw [e] at h
  exact h
theorem facts {P : Program} {w : World} {K : PySem.W.Frag} {h : Heap} {mg : Str → Option Value} {f : Addr} (hfl : ((P.main.file : Str) == flS) = true) (htop : (P.main.scope.names.lookup ("super" : Str)).isSome = false)
    (X : K.In h) (G : h.Ns mainGlobals mg) (hfa : mg ("law" : Str) = some (.ref f)) (c : ZX.SaysA fas exK fns K) :
    ∃ fd : FuncData, (∀ (s : Shared) (v : Value), BindsTo s fd ⟨[v], []⟩ [("script", v)]) ∧ ∀ base : Heap, K.In base → base.Ns mainGlobals mg → FnOk P w K mg base CX0 14 f fd ["script"] (spLaw13 K) := by
  have x := c.more
  obtain ⟨fd0, F0⟩ := ZX.DefA.funD (c.def_ 0 (d := d_wall) rfl).1 (c.def_ 0 (d := d_wall) rfl).2 rfl
  obtain ⟨fd1, F1⟩ := ZX.DefA.funD (c.def_ 1 (d := d_consists_of) rfl).1 (c.def_ 1 (d := d_consists_of) rfl).2 rfl
  obtain ⟨fd2, F2⟩ := ZX.DefA.funD (c.def_ 2 (d := d_is_plain) rfl).1 (c.def_ 2 (d := d_is_plain) rfl).2 rfl
  obtain ⟨fd3, F3⟩ := ZX.DefA.funD (c.def_ 3 (d := d_is_plain_lines) rfl).1 (c.def_ 3 (d := d_is_plain_lines) rfl).2 rfl
  obtain ⟨fd4, F4⟩ := ZX.DefA.funD (c.def_ 4 (d := d_is_path) rfl).1 (c.def_ 4 (d := d_is_path) rfl).2 rfl
  obtain ⟨fd5, F5⟩ := ZX.DefA.funD (c.def_ 5 (d := d_is_word) rfl).1 (c.def_ 5 (d := d_is_word) rfl).2 rfl
  obtain ⟨fd6, F6⟩ := ZX.DefA.funD (c.def_ 6 (d := d_is_field_name) rfl).1 (c.def_ 6 (d := d_is_field_name) rfl).2 rfl
  obtain ⟨fd7, F7⟩ := ZX.DefA.funD (c.def_ 7 (d := d_is_value) rfl).1 (c.def_ 7 (d := d_is_value) rfl).2 rfl
  obtain ⟨fd8, F8⟩ := ZX.DefA.funD (c.def_ 8 (d := d_list_elements) rfl).1 (c.def_ 8 (d := d_list_elements) rfl).2 rfl
  obtain ⟨fd9, F9⟩ := ZX.DefA.funD (c.def_ 9 (d := d_read_number) rfl).1 (c.def_ 9 (d := d_read_number) rfl).2 rfl
  obtain ⟨fd10, F10⟩ := ZX.DefA.funD (c.def_ 10 (d := d_read_reading) rfl).1 (c.def_ 10 (d := d_read_reading) rfl).2 rfl
  obtain ⟨fd11, F11⟩ := ZX.DefA.funD (c.def_ 11 (d := d_is_mark_text) rfl).1 (c.def_ 11 (d := d_is_mark_text) rfl).2 rfl
  obtain ⟨fd12, F12⟩ := ZX.DefA.funD (c.def_ 12 (d := d_read_mark) rfl).1 (c.def_ 12 (d := d_read_mark) rfl).2 rfl
  obtain ⟨fd13, F13⟩ := ZX.DefA.funD (c.def_ 13 (d := d_settled) rfl).1 (c.def_ 13 (d := d_settled) rfl).2 rfl
  obtain ⟨fd14, F14⟩ := ZX.DefA.funD (c.def_ 14 (d := d_read_marks_field) rfl).1 (c.def_ 14 (d := d_read_marks_field) rfl).2 rfl
  obtain ⟨fd15, F15⟩ := ZX.DefA.funD (c.def_ 15 (d := d_read_reading_field) rfl).1 (c.def_ 15 (d := d_read_reading_field) rfl).2 rfl
  obtain ⟨fd16, F16⟩ := ZX.DefA.funD (c.def_ 16 (d := d_without_own) rfl).1 (c.def_ 16 (d := d_without_own) rfl).2 rfl
  obtain ⟨fd17, F17⟩ := ZX.DefA.funD (c.def_ 17 (d := d_checking) rfl).1 (c.def_ 17 (d := d_checking) rfl).2 rfl
  obtain ⟨fd18, F18⟩ := ZX.DefA.funD (c.def_ 18 (d := d_are_fields) rfl).1 (c.def_ 18 (d := d_are_fields) rfl).2 rfl
  obtain ⟨fd19, F19⟩ := ZX.DefA.funD (c.def_ 19 (d := d_is_body) rfl).1 (c.def_ 19 (d := d_is_body) rfl).2 rfl
  obtain ⟨fd20, F20⟩ := ZX.DefA.funD (c.def_ 20 (d := d_law_bag) rfl).1 (c.def_ 20 (d := d_law_bag) rfl).2 rfl
  obtain ⟨fd21, F21⟩ := ZX.DefA.funD (c.def_ 21 (d := d_law_take) rfl).1 (c.def_ 21 (d := d_law_take) rfl).2 rfl
  obtain ⟨fd22, F22⟩ := ZX.DefA.funD (c.def_ 22 (d := d_law_letter) rfl).1 (c.def_ 22 (d := d_law_letter) rfl).2 rfl
  obtain ⟨fd23, F23⟩ := ZX.DefA.funD (c.def_ 23 (d := d_law_truth) rfl).1 (c.def_ 23 (d := d_law_truth) rfl).2 rfl
  obtain ⟨fd24, F24⟩ := ZX.DefA.funD (c.def_ 24 (d := d_law_text) rfl).1 (c.def_ 24 (d := d_law_text) rfl).2 rfl
  obtain ⟨fd25, F25⟩ := ZX.DefA.funD (c.def_ 25 (d := d_law_world) rfl).1 (c.def_ 25 (d := d_law_world) rfl).2 rfl
  obtain ⟨fd26, F26⟩ := ZX.DefA.funD (c.def_ 26 (d := d_law_shown) rfl).1 (c.def_ 26 (d := d_law_shown) rfl).2 rfl
  obtain ⟨fd27, F27⟩ := ZX.DefA.funD (c.def_ 27 (d := d_law_is_settled) rfl).1 (c.def_ 27 (d := d_law_is_settled) rfl).2 rfl
  obtain ⟨fd28, F28⟩ := ZX.DefA.funD (c.def_ 28 (d := d_law_grow) rfl).1 (c.def_ 28 (d := d_law_grow) rfl).2 rfl
  obtain ⟨fd29, F29⟩ := ZX.DefA.funD (c.def_ 29 (d := d_law_step) rfl).1 (c.def_ 29 (d := d_law_step) rfl).2 rfl
  obtain ⟨fd30, F30⟩ := ZX.DefA.funD (c.def_ 30 (d := d_law_tag) rfl).1 (c.def_ 30 (d := d_law_tag) rfl).2 rfl
  obtain ⟨fd31, F31⟩ := ZX.DefA.funD (c.def_ 31 (d := d_law_note) rfl).1 (c.def_ 31 (d := d_law_note) rfl).2 rfl
  obtain ⟨fd32, F32⟩ := ZX.DefA.funD (c.def_ 32 (d := d_law_unchanged) rfl).1 (c.def_ 32 (d := d_law_unchanged) rfl).2 rfl
  obtain ⟨fd33, F33⟩ := ZX.DefA.funD (c.def_ 33 (d := d_law_due) rfl).1 (c.def_ 33 (d := d_law_due) rfl).2 rfl
  obtain ⟨fd34, F34⟩ := ZX.DefA.funD (c.def_ 34 (d := d_law_checks) rfl).1 (c.def_ 34 (d := d_law_checks) rfl).2 rfl
  obtain ⟨fd35, F35⟩ := ZX.DefA.funD (c.def_ 35 (d := d_law_truth_of_settled) rfl).1 (c.def_ 35 (d := d_law_truth_of_settled) rfl).2 rfl
  obtain ⟨fd36, F36⟩ := ZX.DefA.funD (c.def_ 36 (d := d_law_fields) rfl).1 (c.def_ 36 (d := d_law_fields) rfl).2 rfl
  obtain ⟨fd37, F37⟩ := ZX.DefA.funD (c.def_ 37 (d := d_law_stay) rfl).1 (c.def_ 37 (d := d_law_stay) rfl).2 rfl
  obtain ⟨fd38, F38⟩ := ZX.DefA.funD (c.def_ 38 (d := d_law) rfl).1 (c.def_ 38 (d := d_law) rfl).2 rfl
  obtain ⟨fd_mi, F_mi⟩ := ZX.DefA.funD (c.def_ 41 (d := d_mi) rfl).1 (c.def_ 41 (d := d_mi) rfl).2 rfl
  obtain ⟨fd_mr, F_mr⟩ := ZX.DefA.funD (c.def_ 42 (d := d_mr) rfl).1 (c.def_ 42 (d := d_mr) rfl).2 rfl
  obtain ⟨fd_ms, F_ms⟩ := ZX.DefA.funD (c.def_ 43 (d := d_ms) rfl).1 (c.def_ 43 (d := d_ms) rfl).2 rfl
  obtain ⟨fd_mw, F_mw⟩ := ZX.DefA.funD (c.def_ 44 (d := d_mw) rfl).1 (c.def_ 44 (d := d_mw) rfl).2 rfl
  obtain ⟨fd_me, F_me⟩ := ZX.DefA.funD (c.def_ 45 (d := d_me) rfl).1 (c.def_ 45 (d := d_me) rfl).2 rfl
  obtain ⟨fd_mt, F_mt⟩ := ZX.DefA.funD (c.def_ 46 (d := d_mt) rfl).1 (c.def_ 46 (d := d_mt) rfl).2 rfl
  obtain ⟨fd_li, F_li⟩ := ZX.DefA.funD (c.def_ 47 (d := d_li) rfl).1 (c.def_ 47 (d := d_li) rfl).2 rfl
  obtain ⟨fd_lr, F_lr⟩ := ZX.DefA.funD (c.def_ 48 (d := d_lr) rfl).1 (c.def_ 48 (d := d_lr) rfl).2 rfl
  obtain ⟨fd_ls, F_ls⟩ := ZX.DefA.funD (c.def_ 49 (d := d_ls) rfl).1 (c.def_ 49 (d := d_ls) rfl).2 rfl
  obtain ⟨fd_lw, F_lw⟩ := ZX.DefA.funD (c.def_ 50 (d := d_lw) rfl).1 (c.def_ 50 (d := d_lw) rfl).2 rfl
  obtain ⟨fd_la, F_la⟩ := ZX.DefA.funD (c.def_ 51 (d := d_la) rfl).1 (c.def_ 51 (d := d_la) rfl).2 rfl
  obtain ⟨fd_ll, F_ll⟩ := ZX.DefA.funD (c.def_ 52 (d := d_ll) rfl).1 (c.def_ 52 (d := d_ll) rfl).2 rfl
  obtain ⟨fd_Mi, F_Mi⟩ := ZX.DefA.funD (c.def_ 53 (d := d_Mi) rfl).1 (c.def_ 53 (d := d_Mi) rfl).2 rfl
  obtain ⟨fd_Mv, F_Mv⟩ := ZX.DefA.funD (c.def_ 54 (d := d_Mv) rfl).1 (c.def_ 54 (d := d_Mv) rfl).2 rfl
  obtain ⟨fd_Mj, F_Mj⟩ := ZX.DefA.funD (c.def_ 55 (d := d_Mj) rfl).1 (c.def_ 55 (d := d_Mj) rfl).2 rfl
  obtain ⟨fd_Mw, F_Mw⟩ := ZX.DefA.funD (c.def_ 56 (d := d_Mw) rfl).1 (c.def_ 56 (d := d_Mw) rfl).2 rfl
  obtain ⟨fd_Mo, F_Mo⟩ := ZX.DefA.funD (c.def_ 57 (d := d_Mo) rfl).1 (c.def_ 57 (d := d_Mo) rfl).2 rfl
  obtain ⟨fd_Rr, F_Rr⟩ := ZX.DefA.funD (c.def_ 58 (d := d_Rr) rfl).1 (c.def_ 58 (d := d_Rr) rfl).2 rfl
  obtain ⟨fd_Ri, F_Ri⟩ := ZX.DefA.funD (c.def_ 59 (d := d_Ri) rfl).1 (c.def_ 59 (d := d_Ri) rfl).2 rfl
  obtain ⟨fd_Ci, F_Ci⟩ := ZX.DefA.funD (c.def_ 60 (d := d_Ci) rfl).1 (c.def_ 60 (d := d_Ci) rfl).2 rfl
  obtain ⟨fd_Co, F_Co⟩ := ZX.DefA.funD (c.def_ 61 (d := d_Co) rfl).1 (c.def_ 61 (d := d_Co) rfl).2 rfl
  obtain ⟨fd_Cc, F_Cc⟩ := ZX.DefA.funD (c.def_ 62 (d := d_Cc) rfl).1 (c.def_ 62 (d := d_Cc) rfl).2 rfl
  obtain ⟨fd_Ch, F_Ch⟩ := ZX.DefA.funD (c.def_ 63 (d := d_Ch) rfl).1 (c.def_ 63 (d := d_Ch) rfl).2 rfl
  obtain ⟨fd_Cv, F_Cv⟩ := ZX.DefA.funD (c.def_ 64 (d := d_Cv) rfl).1 (c.def_ 64 (d := d_Cv) rfl).2 rfl
  obtain ⟨fd_Cu, F_Cu⟩ := ZX.DefA.funD (c.def_ 65 (d := d_Cu) rfl).1 (c.def_ 65 (d := d_Cu) rfl).2 rfl
  have g0 := He.glo_ok X G (c.fact 0 (f := .glo "_wall") rfl)
  have g1 := He.glo_ok X G (c.fact 1 (f := .glo "consists_of") rfl)
  have g2 := He.glo_ok X G (c.fact 2 (f := .glo "is_plain") rfl)
  have g3 := He.glo_ok X G (c.fact 3 (f := .glo "is_plain_lines") rfl)
  have g4 := He.glo_ok X G (c.fact 4 (f := .glo "is_path") rfl)
  have g5 := He.glo_ok X G (c.fact 5 (f := .glo "is_word") rfl)
  have g6 := He.glo_ok X G (c.fact 6 (f := .glo "is_field_name") rfl)
  have g7 := He.glo_ok X G (c.fact 7 (f := .glo "is_value") rfl)
  have g8 := He.glo_ok X G (c.fact 8 (f := .glo "list_elements") rfl)
  have g9 := He.glo_ok X G (c.fact 9 (f := .glo "read_number") rfl)
  have g10 := He.glo_ok X G (c.fact 10 (f := .glo "read_reading") rfl)
  have g11 := He.glo_ok X G (c.fact 11 (f := .glo "is_mark_text") rfl)
  have g12 := He.glo_ok X G (c.fact 12 (f := .glo "read_mark") rfl)
  have g13 := He.glo_ok X G (c.fact 13 (f := .glo "settled") rfl)
  have g14 := He.glo_ok X G (c.fact 14 (f := .glo "read_marks_field") rfl)
  have g15 := He.glo_ok X G (c.fact 15 (f := .glo "read_reading_field") rfl)
  have g16 := He.glo_ok X G (c.fact 16 (f := .glo "without_own") rfl)
  have g17 := He.glo_ok X G (c.fact 17 (f := .glo "checking") rfl)
  have g18 := He.glo_ok X G (c.fact 18 (f := .glo "are_fields") rfl)
  have g19 := He.glo_ok X G (c.fact 19 (f := .glo "is_body") rfl)
  have g20 := He.glo_ok X G (c.fact 20 (f := .glo "_law_bag") rfl)
  have g21 := He.glo_ok X G (c.fact 21 (f := .glo "_law_take") rfl)
  have g22 := He.glo_ok X G (c.fact 22 (f := .glo "_law_letter") rfl)
  have g23 := He.glo_ok X G (c.fact 23 (f := .glo "_law_truth") rfl)
  have g24 := He.glo_ok X G (c.fact 24 (f := .glo "_law_text") rfl)
  have g25 := He.glo_ok X G (c.fact 25 (f := .glo "_law_world") rfl)
  have g26 := He.glo_ok X G (c.fact 26 (f := .glo "_law_shown") rfl)
  have g27 := He.glo_ok X G (c.fact 27 (f := .glo "_law_is_settled") rfl)
  have g28 := He.glo_ok X G (c.fact 28 (f := .glo "_law_grow") rfl)
  have g29 := He.glo_ok X G (c.fact 29 (f := .glo "_law_step") rfl)
  have g30 := He.glo_ok X G (c.fact 30 (f := .glo "_law_tag") rfl)
  have g31 := He.glo_ok X G (c.fact 31 (f := .glo "_law_note") rfl)
  have g32 := He.glo_ok X G (c.fact 32 (f := .glo "_law_unchanged") rfl)
  have g33 := He.glo_ok X G (c.fact 33 (f := .glo "_law_due") rfl)
  have g34 := He.glo_ok X G (c.fact 34 (f := .glo "_law_checks") rfl)
  have g35 := He.glo_ok X G (c.fact 35 (f := .glo "_law_truth_of_settled") rfl)
  have g36 := He.glo_ok X G (c.fact 36 (f := .glo "_law_fields") rfl)
  have g37 := He.glo_ok X G (c.fact 37 (f := .glo "_law_stay") rfl)
  have g38 := He.glo_ok X G (c.fact 38 (f := .glo "law") rfl)
  have g39 := He.glo_ok X G (c.fact 39 (f := .glo "HopError") rfl)
  have g40 := He.glo_ok X G (c.fact 40 (f := .glo "InvalidValue") rfl)
  have g41 := He.glo_ok X G (c.fact 41 (f := .glo "InvalidMark") rfl)
  have g42 := He.glo_ok X G (c.fact 42 (f := .glo "Mark") rfl)
  have g43 := He.glo_ok X G (c.fact 43 (f := .glo "MarkList") rfl)
  have g44 := He.glo_ok X G (c.fact 44 (f := .glo "Current") rfl)
  have g45 := He.glo_ok X G (c.fact 45 (f := .glo "Conditions") rfl)
  have g46 := He.glo_ok X G (c.fact 46 (f := .glo "Message") rfl)
  have g47 := He.glo_ok X G (c.fact 47 (f := .glo "Request") rfl)
  have T : Mg mg := ⟨He.free_ok X G (c.fact 48 (f := .free "len") rfl),
    He.free_ok X G (c.fact 49 (f := .free "all") rfl),
    He.free_ok X G (c.fact 50 (f := .free "any") rfl),
    He.free_ok X G (c.fact 51 (f := .free "isinstance") rfl),
    He.free_ok X G (c.fact 52 (f := .free "range") rfl),
    He.free_ok X G (c.fact 53 (f := .free "int") rfl),
    He.free_ok X G (c.fact 54 (f := .free "bool") rfl),
    He.free_ok X G (c.fact 55 (f := .free "list") rfl),
    He.free_ok X G (c.fact 56 (f := .free "str") rfl),
    (by obtain ⟨t, e⟩ := He.str_ok X G (c.fact 58 (f := .str "LOWER" "abcdefghijklmnopqrstuvwxyz") rfl); exact ⟨_, e, t, rfl⟩),
    (by obtain ⟨t, e⟩ := He.str_ok X G (c.fact 59 (f := .str "DIGITS" "0123456789") rfl); exact ⟨_, e, t, rfl⟩),
    (by obtain ⟨t, e⟩ := He.str_ok X G (c.fact 60 (f := .str "WORD_SIGNS" "abcdefghijklmnopqrstuvwxyz0123456789-") rfl); exact ⟨_, e, t, rfl⟩),
    (by obtain ⟨t, e⟩ := He.str_ok X G (c.fact 61 (f := .str "PATH_SIGNS" "abcdefghijklmnopqrstuvwxyz0123456789/-.") rfl); exact ⟨_, e, t, rfl⟩),
    (by obtain ⟨t, e⟩ := He.int_ok X G (c.fact 62 (f := .int "MOST_PATH" 60) rfl); exact ⟨_, e, t, rfl⟩),
    (by obtain ⟨t, e⟩ := He.int_ok X G (c.fact 63 (f := .int "MOST_NAME" 30) rfl); exact ⟨_, e, t, rfl⟩),
    (by obtain ⟨t, e⟩ := He.int_ok X G (c.fact 64 (f := .int "MOST_VALUE" 200) rfl); exact ⟨_, e, t, rfl⟩),
    (by obtain ⟨t, e⟩ := He.int_ok X G (c.fact 65 (f := .int "MOST_DIGITS" 6) rfl); exact ⟨_, e, t, rfl⟩),
    (by obtain ⟨t, e⟩ := He.str_ok X G (c.fact 66 (f := .str "MARK_SIGNS" "abcdefghijklmnopqrstuvwxyz0123456789-.") rfl); exact ⟨_, e, t, rfl⟩),
    (by obtain ⟨t, e⟩ := He.int_ok X G (c.fact 67 (f := .int "MOST_MARK" 40) rfl); exact ⟨_, e, t, rfl⟩)⟩
  have W : Wd P w K mg (He.ga K "Mark") (He.ga K "InvalidValue") (He.ga K "InvalidMark") (He.ga K "HopError") := ⟨g42, g40, g41, g39, He.cls_ok (c.fact 74 (f := .cls "Mark") rfl), ZX.insC_ok (exK_at x 2), He.noat_ok (c.fact 75 (f := .noat "Mark" "text") rfl), He.noat_ok (c.fact 76 (f := .noat "Mark" "weak") rfl), ZX.excC_ok (exK_at x 3), ZX.excC_ok (exK_at x 4), xfB_ok (exK_at x 5), xfB_ok (exK_at x 6), He.eqO_ok (exK_at x 7), He.eqO_ok (exK_at x 8), of_decide_eq_true (exK_at x 9), of_decide_eq_true (exK_at x 10), of_decide_eq_true (exK_at x 11), of_decide_eq_true (exK_at x 12), of_decide_eq_true (exK_at x 13), of_decide_eq_true (exK_at x 14), of_decide_eq_true (exK_at x 15), of_decide_eq_true (exK_at x 16), He.exm_ok (c.fact 80 (f := .exm "InvalidMark" "InvalidMark" true) rfl), He.exm_ok (c.fact 81 (f := .exm "InvalidMark" "HopError" true) rfl), He.exm_ok (c.fact 82 (f := .exm "InvalidValue" "InvalidValue" true) rfl)⟩
  obtain ⟨fd_iv, E_iv⟩ := ZX.err_ok (P := P) (x := "InvalidValue") (exK_at x 0) hfl htop (He.eqO_ok (c.fact 57 (f := .free "super") rfl)) (He.eqO_ok (exK_at x 22)) rfl (c.def_ 39 (d := d_iv) rfl).1 (c.def_ 39 (d := d_iv) rfl).2 rfl
  have b_iv := err_binds (ps := ["self", "name"]) E_iv rfl (c.def_ 39 (d := d_iv) rfl).1 (c.def_ 39 (d := d_iv) rfl).2 rfl fun _ _ _ _ _ _ _ us hl => match us, hl with | [_, _], _ => rfl
  obtain ⟨fd_im, E_im⟩ := ZX.err_ok (P := P) (x := "InvalidMark") (exK_at x 1) hfl htop (He.eqO_ok (c.fact 57 (f := .free "super") rfl)) (He.eqO_ok (exK_at x 22)) rfl (c.def_ 40 (d := d_im) rfl).1 (c.def_ 40 (d := d_im) rfl).2 rfl
  have b_im := err_binds (ps := ["self", "text"]) E_im rfl (c.def_ 40 (d := d_im) rfl).1 (c.def_ 40 (d := d_im) rfl).2 rfl fun _ _ _ _ _ _ _ us hl => match us, hl with | [_, _], _ => rfl
  obtain ⟨ds0, v0, bi0⟩ := FunD.binds1 (ps := ["self", "text", "weak"]) F_mi 3 1 (by simp [d_mi, ZX.DefA.dvs]) rfl fun T kV doc pm an cdv ct us its h1 h2 => match us, its, h1, h2 with | [_, _, _], [_], _, _ => ⟨_, rfl, rfl⟩
  obtain ⟨ds1, v1, bi1⟩ := FunD.binds1 (ps := ["self", "text", "weak"]) F_mi 2 0 (by simp [d_mi, ZX.DefA.dvs]) rfl fun T kV doc pm an cdv ct us its h1 h2 => match us, its, h1, h2 with | [_, _], [_], _, _ => ⟨_, rfl, rfl⟩
  obtain ⟨its, bi2⟩ := FunD.kbindsD (ps := ["self", "text", "weak"]) F_mi 2 ["weak"] (fun us _ ws => us ++ ws) (by simp [d_mi, ZX.DefA.dvs]) (fun r1 _ r3 => r1.append r3) fun T kV doc pm an cdv ct us its ws h1 h2 h3 => match us, its, ws, h1, h2, h3 with | [_, _], [_], [_], _, _, _ => ⟨_, rfl, rfl⟩
  have ed : ds0 = [] := by cases v0; rfl
  subst ed
  obtain ⟨dl0, vl0, bl0⟩ := FunD.binds1 (ps := ["self", "marks", "star"]) F_li 3 1 (by simp [d_li, ZX.DefA.dvs]) rfl fun T kV doc pm an cdv ct us its h1 h2 => match us, its, h1, h2 with | [_, _, _], [_], _, _ => ⟨_, rfl, rfl⟩
  obtain ⟨dl1, vl1, bl1⟩ := FunD.binds1 (ps := ["self", "marks", "star"]) F_li 2 0 (by simp [d_li, ZX.DefA.dvs]) rfl fun T kV doc pm an cdv ct us its h1 h2 => match us, its, h1, h2 with | [_, _], [_], _, _ => ⟨_, rfl, rfl⟩
  obtain ⟨itl, bl2⟩ := FunD.kbindsD (ps := ["self", "marks", "star"]) F_li 2 ["star"] (fun us _ ws => us ++ ws) (by simp [d_li, ZX.DefA.dvs]) (fun r1 _ r3 => r1.append r3) fun T kV doc pm an cdv ct us its ws h1 h2 h3 => match us, its, ws, h1, h2, h3 with | [_, _], [_], [_], _, _, _ => ⟨_, rfl, rfl⟩
  have edl : dl0 = [] := by cases vl0; rfl
  subst edl
  obtain ⟨dr0, vr0, br0⟩ := FunD.binds1 (ps := ["self", "method", "path", "fields", "body"]) F_Ri 5 2 (by simp [d_Ri, ZX.DefA.dvs]) rfl fun T kV doc pm an cdv ct us its h1 h2 => match us, its, h1, h2 with | [_, _, _, _, _], [_, _], _, _ => ⟨_, rfl, rfl⟩
  have edr : dr0 = [] := by cases vr0; rfl
  subst edr
  obtain ⟨dr1, vr1, br1⟩ := FunD.binds1 (ps := ["self", "method", "path", "fields", "body"]) F_Ri 4 1 (by simp [d_Ri, ZX.DefA.dvs]) rfl fun T kV doc pm an cdv ct us its h1 h2 => match us, its, h1, h2 with | [_, _, _, _], [_, _], _, _ => ⟨_, rfl, rfl⟩
  have bd_Mi := FunD.bindsN (ps := ["self", "first_line", "has_body", "fields", "body"]) F_Mi fun _ _ _ _ _ _ us hl => match us, hl with | [_, _, _, _, _], _ => rfl
  have bd_Mv := FunD.bindsN (ps := ["self", "name"]) F_Mv fun _ _ _ _ _ _ us hl => match us, hl with | [_, _], _ => rfl
  have bd_Mj := FunD.bindsN (ps := ["self", "name"]) F_Mj fun _ _ _ _ _ _ us hl => match us, hl with | [_, _], _ => rfl
  have bd_Mw := FunD.bindsN (ps := ["self", "name", "value"]) F_Mw fun _ _ _ _ _ _ us hl => match us, hl with | [_, _, _], _ => rfl
  have bd_Rr := FunD.bindsN (ps := ["self", "fields", "body"]) F_Rr fun _ _ _ _ _ _ us hl => match us, hl with | [_, _, _], _ => rfl
  have bd_Ci := FunD.bindsN (ps := ["self", "request"]) F_Ci fun _ _ _ _ _ _ us hl => match us, hl with | [_, _], _ => rfl
  have bd_Co := FunD.bindsN (ps := ["cls", "request"]) F_Co fun _ _ _ _ _ _ us hl => match us, hl with | [_, _], _ => rfl
  have bd_Cc := FunD.bindsN (ps := ["self", "current"]) F_Cc fun _ _ _ _ _ _ us hl => match us, hl with | [_, _], _ => rfl
  have bd_Ch := FunD.bindsN (ps := ["self", "current"]) F_Ch fun _ _ _ _ _ _ us hl => match us, hl with | [_, _], _ => rfl
  have bd_Cv := FunD.bindsN (ps := ["self", "current"]) F_Cv fun _ _ _ _ _ _ us hl => match us, hl with | [_, _], _ => rfl
  have bd_Cu := FunD.bindsN (ps := ["self", "mark", "changed"]) F_Cu fun _ _ _ _ _ _ us hl => match us, hl with | [_, _, _], _ => rfl
  have bd_mr := FunD.bindsN (ps := ["text"]) F_mr fun _ _ _ _ _ _ us hl => match us, hl with | [_], _ => rfl
  have bd_ms := FunD.bindsN (ps := ["self", "other"]) F_ms fun _ _ _ _ _ _ us hl => match us, hl with | [_, _], _ => rfl
  have bd_mw := FunD.bindsN (ps := ["self", "other"]) F_mw fun _ _ _ _ _ _ us hl => match us, hl with | [_, _], _ => rfl
  have bd_me := FunD.bindsN (ps := ["self", "other"]) F_me fun _ _ _ _ _ _ us hl => match us, hl with | [_, _], _ => rfl
  have bd_mt := FunD.bindsN (ps := ["self"]) F_mt fun _ _ _ _ _ _ us hl => match us, hl with | [_], _ => rfl
  have bd_lr := FunD.bindsN (ps := ["text"]) F_lr fun _ _ _ _ _ _ us hl => match us, hl with | [_], _ => rfl
  have bd_ls := FunD.bindsN (ps := ["self", "mark"]) F_ls fun _ _ _ _ _ _ us hl => match us, hl with | [_, _], _ => rfl
  have bd_lw := FunD.bindsN (ps := ["self", "mark"]) F_lw fun _ _ _ _ _ _ us hl => match us, hl with | [_, _], _ => rfl
  have bd_la := FunD.bindsN (ps := ["self", "other"]) F_la fun _ _ _ _ _ _ us hl => match us, hl with | [_, _], _ => rfl
  have bd_ll := FunD.bindsN (ps := ["self"]) F_ll fun _ _ _ _ _ _ us hl => match us, hl with | [_], _ => rfl
  have e := hfa.symm.trans g38
  cases e
  refine ⟨fd38, fun s v => (FunD.bindsA (ps := ["script"]) F38 fun _ _ _ _ _ _ us hl => match us, hl with | [_], _ => rfl) s [v] rfl, fun base _ _ => ?_⟩
  have c_consists_of := ok_consists_of (P := P) (w := w) (base := base) T  F1 g1
  have c_is_mark_text := ok_is_mark_text (P := P) (w := w) (base := base) T c_consists_of F11 g11
  have EV : Ef P w K mg base (He.ga K "InvalidValue") ["self", "name"] "name" := ⟨_, fd_iv, E_iv.sup.oex, E_iv.init, E_iv.ty, ok_iv E_iv.sup W.nV, b_iv⟩
  have EM : Ef P w K mg base (He.ga K "InvalidMark") ["self", "text"] "text" := ⟨_, fd_im, E_im.sup.oex, E_im.init, E_im.ty, ok_im E_im.sup W.nM, b_im⟩
  have MI : Mi P w K mg base (He.ga K "Mark") (He.ga K "InvalidValue") := ⟨_, fd_mi, ds1, its, He.mkr_ok (c.fact 79 (f := .mkr "Mark") rfl), ok_mi T W c_is_mark_text EV F_mi, bi0, v1, bi1, bi2⟩
  have c_read_mark := ok_read_mark (P := P) (w := w) (base := base) T W c_is_mark_text MI F12 g12
  have MM : Mm P w K mg base (He.ga K "Mark") := ⟨_, fd_ms, _, fd_mw, _, _, He.meth_ok (c.fact 77 (f := .meth "Mark" "strongly") rfl), ok_ms W F_ms, bd_ms, He.meth_ok (c.fact 78 (f := .meth "Mark" "weakly") rfl), ok_mw W F_mw, bd_mw, He.eqO_ok (exK_at x 17), (exK_at x 18), FnOk.raw (ok_me T W F_me) bd_me .nil, He.eqO_ok (exK_at x 19), (exK_at x 20), FnOk.raw (ok_mt W F_mt) bd_mt .nil⟩
  have WL : Wl K mg (He.ga K "MarkList") := ⟨g43, He.cls_ok (c.fact 68 (f := .cls "MarkList") rfl), ZX.insC_ok (exK_at x 23), He.noat_ok (c.fact 69 (f := .noat "MarkList" "marks") rfl), He.noat_ok (c.fact 70 (f := .noat "MarkList" "star") rfl), of_decide_eq_true (exK_at x 24)⟩
  have c_list_elements := ok_list_elements (P := P) (w := w) (base := base) T  F8 g8
  have LI : Li P w K mg base (He.ga K "MarkList") (He.ga K "InvalidValue") := ⟨_, fd_li, dl1, itl, He.mkr_ok (c.fact 73 (f := .mkr "MarkList") rfl), ok_li T W WL EV F_li, bl0, vl1, bl1, bl2⟩
  have LR : Lr P w K mg base (He.ga K "Mark") (He.ga K "MarkList") (He.ga K "InvalidMark") := ⟨_, _, _, fd_lr, ZX.stat_ok (exK_at x 30), ok_lr T W WL LI c_list_elements c_read_mark EM F_lr, bd_lr⟩
  have LH : LiH P w K mg base (He.ga K "MarkList") := ⟨_, fd_li, dl1, He.mkr_ok (c.fact 73 (f := .mkr "MarkList") rfl), ok_liH T WL F_li, vl1, bl1⟩
  have WB : Wb K mg (He.ga K "Message") := ⟨g46, ZX.read_ok (exK_at x 31), ZX.cint_ok (exK_at x 32), ZX.cint_ok (exK_at x 33)⟩
  have WR : Wr K mg (He.ga K "Message") (He.ga K "Request") := ⟨g47, He.cls_ok (c.fact 83 (f := .cls "Request") rfl), ZX.insC_ok (exK_at x 34), He.noat_ok (c.fact 89 (f := .noat "Request" "_first_line") rfl), He.noat_ok (c.fact 90 (f := .noat "Request" "_has_body") rfl), He.noat_ok (c.fact 91 (f := .noat "Request" "fields") rfl), He.noat_ok (c.fact 92 (f := .noat "Request" "body") rfl), He.noat_ok (c.fact 93 (f := .noat "Request" "method") rfl), He.noat_ok (c.fact 94 (f := .noat "Request" "path") rfl), ZX.read_ok (exK_at x 35), ⟨_, ZX.ctup_ok (exK_at x 36)⟩, of_decide_eq_true (exK_at x 37), of_decide_eq_true (exK_at x 38)⟩
  have c_is_plain := ok_is_plain (P := P) (w := w) (base := base) T  F2 g2
  have c_is_plain_lines := ok_is_plain_lines (P := P) (w := w) (base := base) T c_is_plain F3 g3
  have c_is_body := ok_is_body (P := P) (w := w) (base := base) T WB c_is_plain_lines F19 g19
  have c_is_path := ok_is_path (P := P) (w := w) (base := base) T c_consists_of F4 g4
  have c_is_word := ok_is_word (P := P) (w := w) (base := base) T c_consists_of F5 g5
  have c_is_field_name := ok_is_field_name (P := P) (w := w) (base := base) T c_is_word F6 g6
  have c_is_value := ok_is_value (P := P) (w := w) (base := base) T c_is_plain F7 g7
  have c_are_fields := ok_are_fields (P := P) (w := w) (base := base) T WB c_is_field_name c_is_value F18 g18
  have c_read_number := ok_read_number (P := P) (w := w) (base := base) T c_consists_of F9 g9
  have c_read_reading := ok_read_reading (P := P) (w := w) (base := base) T c_read_number F10 g10
  have MB : Mb P w K mg base (He.ga K "Message") (He.ga K "Request") := ⟨_, fd_Mi, ZX.cfn_ok (exK_at x 39), ok_Mi T W WR EV c_are_fields c_is_body F_Mi, bd_Mi⟩
  have RI0 : Ri P w K mg base (He.ga K "Request") := ⟨_, fd_Ri, He.mkr_ok (c.fact 84 (f := .mkr "Request") rfl), ok_Ri T W WB WR MB EV c_is_path F_Ri, br0⟩
  have RI : Ri3 P w K mg base (He.ga K "Request") := ⟨_, fd_Ri, dr1, He.mkr_ok (c.fact 84 (f := .mkr "Request") rfl), ok_Ri T W WB WR MB EV c_is_path F_Ri, br1, vr1⟩
  have RM : Rm1 P w K mg base (He.ga K "Request") := ⟨_, fd_Mv, _, fd_Rr, He.meth_ok (c.fact 95 (f := .meth "Request" "all_values") rfl), ok_Mv WR F_Mv, bd_Mv, He.meth_ok (c.fact 99 (f := .meth "Request" "remade") rfl), ok_Rr WR RI0 F_Rr, bd_Rr⟩
  have RW : Rw P w K mg base (He.ga K "Request") := ⟨_, _, fd_Mw, He.meth_ok (c.fact 98 (f := .meth "Request" "without") rfl), ok_Mo WR RM F_Mo, He.meth_ok (c.fact 97 (f := .meth "Request" "with_field") rfl), ok_Mw WR RM F_Mw, bd_Mw⟩
  have RJ : Rj P w K mg base (He.ga K "Request") := ⟨_, fd_Mj, He.meth_ok (c.fact 96 (f := .meth "Request" "joined") rfl), ok_Mj WR RM F_Mj, bd_Mj⟩
  have WC : Wc K mg (He.ga K "Conditions") := ⟨g45, He.cls_ok (c.fact 85 (f := .cls "Conditions") rfl), He.noat_ok (c.fact 100 (f := .noat "Conditions" "_method") rfl), He.noat_ok (c.fact 101 (f := .noat "Conditions" "_if_mark") rfl), He.noat_ok (c.fact 102 (f := .noat "Conditions" "_if_no_mark") rfl), He.noat_ok (c.fact 103 (f := .noat "Conditions" "_if_unchanged") rfl), He.noat_ok (c.fact 104 (f := .noat "Conditions" "_if_changed") rfl), He.noat_ok (c.fact 105 (f := .noat "Conditions" "_if_part") rfl), ZX.read_ok (exK_at x 40)⟩
  have c_rr := ok_read_reading_field (P := P) (w := w) (base := base) T WR RJ c_read_reading F15 g15
  have c_rm := ok_read_marks_field (P := P) (w := w) (base := base) T W WL WR RJ LR LH F14 g14
  have CI : Ci P w K mg base (He.ga K "Mark") (He.ga K "MarkList") (He.ga K "Request") (He.ga K "Conditions") := ⟨_, fd_Ci, He.mkr_ok (c.fact 86 (f := .mkr "Conditions") rfl), ok_Ci WR WC RJ c_rm c_rr F_Ci, bd_Ci⟩
  have CO := rawO (FnOk.raw (ok_Co CI F_Co) bd_Co .nil)
  have WK : Wk K mg (He.ga K "Current") := ⟨g44, He.cls_ok (c.fact 106 (f := .cls "Current") rfl), ZX.insC_ok (exK_at x 45), He.noat_ok (c.fact 108 (f := .noat "Current" "mark") rfl), He.noat_ok (c.fact 109 (f := .noat "Current" "changed") rfl), of_decide_eq_true (exK_at x 46)⟩
  have CU : Cu1 P w K mg base (He.ga K "Current") := ⟨_, fd_Cu, He.mkr_ok (c.fact 107 (f := .mkr "Current") rfl), ok_Cu WK F_Cu, bd_Cu⟩
  have LM : Lmm P w K mg base (He.ga K "Mark") (He.ga K "MarkList") := ⟨_, fd_ls, _, fd_lw, He.meth_ok (c.fact 71 (f := .meth "MarkList" "strongly") rfl), ok_ls T W WL MM F_ls, bd_ls, He.meth_ok (c.fact 72 (f := .meth "MarkList" "weakly") rfl), ok_lw T W WL MM F_lw, bd_lw⟩
  have CM : Cmm P w K mg base (He.ga K "Mark") (He.ga K "MarkList") (He.ga K "Current") (He.ga K "Conditions") := ⟨_, fd_Ch, _, fd_Cv, He.meth_ok (c.fact 87 (f := .meth "Conditions" "_holds") rfl), ok_Ch WC WK WL LM F_Ch, bd_Ch, He.meth_ok (c.fact 88 (f := .meth "Conditions" "_is_unchanged") rfl), ok_Cv WC WK F_Cv, bd_Cv⟩
  have CX : CiM P w K mg base (He.ga K "Mark") (He.ga K "MarkList") (He.ga K "Current") (He.ga K "Conditions") := ⟨_, fd_Cc, He.eqO_ok (exK_at x 42), (exK_at x 43), (exK_at x 44), ok_Cc WC WK WL LM CM F_Cc, bd_Cc⟩
  have CS : CoM P w K mg base (He.ga K "Mark") (He.ga K "MarkList") (He.ga K "Request") (He.ga K "Conditions") := ⟨_, _, ZX.cmet_ok (exK_at x 41), CO⟩
  have c_law_bag := ok_law_bag1 (P := P) (w := w) (base := base) T  F20 g20
  have c_law_take := ok_law_take (P := P) (w := w) (base := base) T  F21 g21
  have c_law_letter := ok_law_letter (P := P) (w := w) (base := base) T  F22 g22
  have c_law_truth := ok_law_truth1 (P := P) (w := w) (base := base) T  F23 g23
  have c_without_own := ok_without_own (P := P) (w := w) (base := base) WR RW F16 g16
  have c_checking := ok_checking F17 g17 (ok_checkF T WR RW MM c_without_own F17)
  have c_settled := ok_settled (P := P) (w := w) (base := base)  F13 g13
  have c_law_shown := ok_law_shown (P := P) (w := w) (base := base)  F26 g26
  have c_law_is_settled := ok_law_is_settled (P := P) (w := w) (base := base) c_law_shown F27 g27
  have c_law_grow := ok_law_grow (P := P) (w := w) (base := base) c_law_shown F28 g28
  have c_law_step := ok_law_step (P := P) (w := w) (base := base) T c_law_take c_law_grow F29 g29
  have c_law_text := ok_law_textV (P := P) (w := w) (base := base) T c_law_take c_law_letter F24 g24
  have c_law_world := ok_law_world (P := P) (w := w) (base := base) T c_law_take c_law_text F25 g25
  have c_law_tag := ok_law_tag (P := P) (w := w) (base := base) T W MI F30 g30
  have c_law_fields := ok_law_fieldsV (P := P) (w := w) (base := base) T c_law_take F36 g36
  have c_law_tos := ok_law_truth_of_settled (P := P) (w := w) (base := base) c_settled c_law_truth c_law_shown c_law_is_settled F35 g35
  have c_law_unchanged := ok_law_unchanged (P := P) (w := w) (base := base)  F32 g32
  have c_law_due := ok_law_dueV (P := P) (w := w) (base := base) c_law_unchanged F33 g33
  have c_law_note := ok_law_note (P := P) (w := w) (base := base) T WC CS c_checking c_law_tag c_law_is_settled F31 g31
  have c_law_checks := ok_law_checks (P := P) (w := w) (base := base) T WC WK CU CS CX c_checking c_law_tag c_law_is_settled c_law_due F34 g34
  have c_law_stay := ok_law_stay (P := P) (w := w) (base := base) WR F37 g37 T
  exact ok_law13 T WR RI c_law_bag c_law_take c_law_world c_law_fields c_law_step c_law_note c_law_tos c_law_checks c_law_stay F38
end Z
open PySem PySem.W PySem.Calls PyProof.Rows
set_option maxRecDepth 100000 in
set_option maxHeartbeats 0 in
theorem PySem.Challenge.cw_hopkeep_k13_whole_checks_tell_versions_holds : PySem.Challenge.rw_hopkeep_k13_whole_checks_tell_versions.Holds := by
  w_on; o_law
  refine HandSHeadRun.head_any (r := Z.R) (q := view Z.R.prog [63]) (H := Z.hk) (ob := Z.ob) (M := 16000) (loose := Z.others) (d := HandSHeadRun.topDef Z.R.prog 63) (kwd := []) Z.ob_eq (by kernel_rfl) (fun s => by kernel_rfl) Z.run
    (by kernel_rfl) (by kernel_rfl) (by kernel_rfl) (by rfl) (by first | assumption | decide +kernel) (by decide +kernel) ⟨rfl, rfl, rfl, rfl, rfl, by decide +kernel⟩ ?hw ?hc
  case hw => w_witness2
  case hc =>
    refine LamX.walk_ofTsE (l := PySem.Challenge.rw_hopkeep_k13_whole_checks_tell_versions) (n := 63) (k := 14) (x := "script") (CX := fun _ => L2.CX0) rfl (by decide) (by kernel_rfl) ⟨rfl, by decide, by decide⟩ ?F (fun _ _ _ _ _ z => z)
    intro w mg fa h Y G hmg0
    obtain ⟨K, KX, c⟩ := Y
    have hmg : mg ("law" : PySem.Str) = some (.ref fa) := by
      have e : (HandSHeadRun.topDef Z.R.prog 63).name = ("law" : PySem.Str) := by kernel_rfl
      rw [← e]
      exact hmg0
    obtain ⟨fd, hb, hF⟩ := Z.facts (P := Z.R.prog) (w := w) (by kernel_rfl) (by kernel_rfl) KX G hmg c
    exact ⟨K, KX, fd, [], Z.spLaw13 K, (fun p hp => nomatch hp), (fun p hp => nomatch hp), (fun p hp => nomatch hp), hb, fun H a ns hl hz _ hS => ⟨a, ns, rfl, hS, hl, fun z hm => Z.bits_lt (n := Z.cap) (hz z hm), fun _ => rfl⟩, fun base h1 h2 _ => hF base h1 h2⟩
