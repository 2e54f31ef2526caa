import PyProof.Rows.All
import Wide.All
import OpenK.AllK
import Wide.FinOn
import HandS.ForMost
import HandS.StrMore
import KE.IntTextLaws
import PyProof.MeetsSeq2
import PyProof.DictTable
import HandS.Codes
import HandS.Translate
import HandS.Defaults
import HandS.IsInst
import HandS.Wide
import HandS.WideBits
import HandS.EndBits
import HandS.HeadEnd
import HandS.Flow
import HandS.Steps
import HandS.Evl
import HandS.Walk
import KE.KStateDown
import HandS.Head0
import HandS.Head1
import HandS.Head2
import HandS.HeadHook1
import HandS.HeadHook2
import HandS.HeadWalk
import PySem.Challenge.RW_hopkeep_k00_fields_read
set_option Elab.async false
set_option linter.all false
set_option maxRecDepth 100000
namespace Z
open PySem PySem.Spec PyProof.Rows L2 TL PySem.Builtin.Str
/-! ### strings -/
def allIn (z s : Str) : Bool := (tl z).all fun c => decide (c ∈ tl s)
theorem len_tl' (x : Str) : (tl x).length = x.length := (len_tl x).symm
theorem tl_empty : tl ("" : Str) = [] := by decide +kernel
theorem eq_empty {x : Str} : x = ("" : Str) ↔ tl x = [] := by
  constructor
  · intro h; rw [h]; exact tl_empty
  · intro h; exact ext_tl (h.trans tl_empty.symm)
theorem contains_mem (y : Str) (c : Nat) : y.cps.contains c = decide (c ∈ tl y) := by
  have : y.cps.contains c = y.cps.toList.contains c := by
    cases y with | mk a => simp
  rw [this]
  by_cases h : c ∈ tl y
  · rw [decide_eq_true h]; exact List.contains_iff_mem.mpr h
  · rw [decide_eq_false h]
    cases e : y.cps.toList.contains c with
    | false => rfl
    | true => exact absurd (List.contains_iff_mem.mp e) h
/-- strip(signs) leaves nothing exactly if all are among the signs -/
theorem strip_all (z s : Str) : decide (Txt.stripChars z s = ("" : Str)) = allIn z s := by
  have hg : s.cps.contains = fun c => decide (c ∈ tl s) := funext (contains_mem s)
  have e0 : Txt.stripChars z s = strSub z (stripLo s.cps.contains true z) (stripHi s.cps.contains true z (stripLo s.cps.contains true z)) := stripBy_eq _ _ _ _
  obtain ⟨l1, l2, l3⟩ := lo_facts s.cps.contains z
  obtain ⟨h1, h2, h3, h4⟩ := hi_facts s.cps.contains z _ l1
  generalize hlo : stripLo s.cps.contains true z = lo at *
  generalize hhi : stripHi s.cps.contains true z lo = hi at *
  have hlen : (tl z).length = z.length := len_tl' z
  have e1 : tl (Txt.stripChars z s) = ((tl z).drop lo).take (hi - lo) := by rw [e0]; exact tl_strSub _ _ _
  have key : tl (Txt.stripChars z s) = [] ↔ hi = lo := by
    rw [e1]
    constructor
    · intro h
      have := congrArg List.length h
      rw [List.length_take, List.length_drop, hlen] at this
      simp only [List.length_nil] at this
      omega
    · intro h; rw [h]; simp
  have gd : ∀ k, k < z.length → s.cps.contains (z.cps.getD k 0) = true → z.cps.getD k 0 ∈ tl s := fun k _ h => by
    rw [contains_mem] at h; exact of_decide_eq_true h
  have gt : ∀ k (hk : k < z.length), z.cps.getD k 0 = (tl z)[k]'(by rw [hlen]; exact hk) := fun k hk => by
    rw [← getD_list]
    have : k < z.cps.toList.length := by rw [← hlen] at hk; exact hk
    show z.cps.toList.getD k 0 = z.cps.toList[k]
    rw [List.getD_eq_getElem?_getD, List.getElem?_eq_getElem this]
    rfl
  by_cases hh : hi = lo
  · rw [decide_eq_true (eq_empty.mpr (key.mpr hh))]
    symm
    refine List.all_eq_true.mpr fun c hc => decide_eq_true ?_
    obtain ⟨k, hk, e⟩ := List.mem_iff_getElem.mp hc
    have hk' : k < z.length := by rw [← hlen]; exact hk
    have : z.cps.getD k 0 ∈ tl s := by
      by_cases hkl : k < lo
      · exact gd k hk' (l2 k hkl)
      · exact gd k hk' (h3 k (by omega) hk')
    rw [gt k hk', e] at this
    exact this
  · have hne : ¬ Txt.stripChars z s = ("" : Str) := fun h => hh (key.mp (eq_empty.mp h))
    rw [decide_eq_false hne]
    symm
    cases e : allIn z s with
    | false => rfl
    | true =>
      exfalso
      have ha := List.all_eq_true.mp e
      have hlt : lo < z.length := by omega
      rcases l3 with h | h
      · omega
      · have hm : z.cps.getD lo 0 ∈ tl s := by
          rw [gt lo hlt]
          exact of_decide_eq_true (ha _ (List.getElem_mem _))
        rw [contains_mem, decide_eq_true hm] at h
        cases h
theorem strip_len (z s : Str) : (Txt.stripChars z s).length ≤ z.length := by
  have e0 : Txt.stripChars z s = strSub z (stripLo s.cps.contains true z) (stripHi s.cps.contains true z (stripLo s.cps.contains true z)) := stripBy_eq _ _ _ _
  rw [e0, len_tl, tl_strSub, List.length_take, List.length_drop, len_tl]
  omega
/-! ### plain -/
def signs : Str := (" !\"#$&'()*+,-./0123456789:;<=>?@ABCDEFGHIJKLMNOPQRSTUVWXYZ[\\]^_`" : Str) ++ ("abcdefghijklmnopqrstuvwxyz{|}~" : Str)
theorem signs_lt : ∀ c ∈ tl signs, c < 128 := by decide +kernel
theorem signs_128 : ∀ c, c < 128 → (Unicode.isPrintable c && decide (c ≠ 37)) = decide (c ∈ tl signs) := by decide +kernel
theorem filter_eq {l : List Nat} {p : Nat → Bool} : (l.filter p = l) ↔ l.all p = true := by
  rw [List.filter_eq_self, List.all_eq_true]
theorem plain_all (l : List Nat) : (l.all (fun c => decide (c < 128)) && (l.all Unicode.isPrintable && l.all fun c => decide (c ≠ 37))) = l.all fun c => decide (c ∈ tl signs) := by
  induction l with
  | nil => rfl
  | cons a r ih =>
    rw [List.all_cons, List.all_cons, List.all_cons, List.all_cons, ← ih]
    by_cases h : a < 128
    · rw [← signs_128 a h, decide_eq_true h]
      cases Unicode.isPrintable a <;> cases decide (a ≠ 37) <;> cases r.all (fun c => decide (c < 128)) <;> cases r.all Unicode.isPrintable <;> rfl
    · have h2 : ¬ a ∈ tl signs := fun hm => h (signs_lt a hm)
      rw [decide_eq_false h, decide_eq_false h2]
      cases r.all (fun c => decide (c < 128)) <;> cases r.all Unicode.isPrintable <;> rfl
theorem isascii_tl (z : Str) : Txt.isascii z = (tl z).all fun c => decide (c < 128) := by
  unfold Txt.isascii
  rw [← Array.all_toList]
theorem isprintable_tl (z : Str) : Txt.isprintable z = (tl z).all Unicode.isPrintable := by
  unfold Txt.isprintable
  rw [← Array.all_toList]
/-- the text without its percent signs -/
def no37 (z : Str) : Str := ⟨((tl z).filter fun c => decide (c ≠ 37)).toArray⟩
theorem no37_tl (z : Str) : tl (no37 z) = (tl z).filter fun c => decide (c ≠ 37) := rfl
theorem no37_eq (z : Str) : decide (no37 z = z) = (tl z).all fun c => decide (c ≠ 37) := by
  cases e : (tl z).all fun c => decide (c ≠ 37) with
  | true => exact decide_eq_true (ext_tl ((no37_tl z).trans (filter_eq.mpr e)))
  | false =>
    refine decide_eq_false fun h => ?_
    have : (tl z).filter (fun c => decide (c ≠ 37)) = tl z := by rw [← no37_tl, h]
    rw [filter_eq.mp this] at e
    cases e
theorem plain_eq (z : Str) : (Txt.isascii z && (Txt.isprintable z && decide (no37 z = z))) = allIn z signs := by
  rw [isascii_tl, isprintable_tl, no37_eq]
  exact plain_all (tl z)
/-! ### the first sign -/
def hd (z : Str) : Option Nat := (tl z).head?
theorem hd_some {z : Str} (h : 1 ≤ z.length) : ∃ c, hd z = some c ∧ z.cps[0]? = some c := by
  rw [len_tl] at h
  cases e : tl z with
  | nil => rw [e] at h; exact absurd h (by decide)
  | cons c r =>
    refine ⟨c, by unfold hd; rw [e]; rfl, ?_⟩
    have : z.cps.toList[0]? = some c := by show (tl z)[0]? = _; rw [e]; rfl
    simpa using this
theorem cut1_tl (z : Str) : tl (cutS z none (some 1)) = (tl z).take 1 := by
  show ((tl z).drop (HT.sIx z.length 0 none)).take (HT.sIx z.length z.length (some 1) - HT.sIx z.length 0 none) = _
  rw [HT.sIx_none, show HT.sIx z.length z.length (some 1) = min 1 z.length from HT.sIx_nat _ _ 1, List.drop_zero, Nat.sub_zero]
  rw [len_tl]
  cases tl z with
  | nil => rfl
  | cons c r =>
    rw [List.length_cons, show min 1 (r.length + 1) = 1 by omega]
theorem cutFrom1_tl (z : Str) : tl (cutS z (some 1) none) = (tl z).drop 1 := by
  show ((tl z).drop (HT.sIx z.length 0 (some 1))).take (HT.sIx z.length z.length none - HT.sIx z.length 0 (some 1)) = _
  rw [HT.sIx_none, show HT.sIx z.length 0 (some 1) = min 1 z.length from HT.sIx_nat _ _ 1]
  rw [len_tl]
  cases tl z with
  | nil => rfl
  | cons c r =>
    rw [List.length_cons, show min 1 (r.length + 1) = 1 by omega]
    exact List.take_of_length_le (by simp)
theorem cut1_one {z : Str} {c : Nat} (h : hd z = some c) : cutS z none (some 1) = ⟨#[c]⟩ := by
  refine ext_tl ?_
  rw [cut1_tl]
  unfold hd at h
  cases e : tl z with
  | nil => rw [e] at h; cases h
  | cons a r =>
    rw [e] at h
    cases h
    rfl
theorem cut1_nil {z : Str} (h : hd z = none) : cutS z none (some 1) = ("" : Str) := by
  refine eq_empty.mpr ?_
  rw [cut1_tl]
  unfold hd at h
  cases e : tl z with
  | nil => rfl
  | cons a r => rw [e] at h; cases h
theorem one_eq (c d : Nat) : ((⟨#[c]⟩ : Str) = ⟨#[d]⟩) ↔ c = d := by
  constructor
  · intro h
    have := congrArg tl h
    have h2 : ([c] : List Nat) = [d] := this
    cases h2
    rfl
  · intro h; rw [h]
end Z
set_option maxHeartbeats 2000000
namespace Z
open PySem PySem.Spec PyProof.Rows L2 TL PySem.Builtin PySem.Builtin.Str
/-! ### text.translate({37: None}) for a text of ASCII signs: the percent signs go, all others stay -/
/-- nothing that stood in the heap has changed -/
abbrev Old (h h' : Heap) : Prop := ∀ b o, h.get? b = some o → h'.get? b = some o
/-- what the table holds: the key 37 with None, and no other key -/
structure Drops (f : Key → Option Value) : Prop where
  here : f (Sum.inl 37) = some .none
  away : ∀ c : Nat, c ≠ 37 → f (Sum.inl (c : Int)) = none
theorem drops_one : Drops (valueAt [((Sum.inl 37 : Key), Value.none)]) where
  here := rfl
  away := fun c hc => by
    have e : decide ((Sum.inl 37 : Key) = Sum.inl (c : Int)) = false := by
      rw [key_ll]
      exact beq_eq_false_iff_ne.mpr (by omega)
    show ((List.find? _ [((Sum.inl 37 : Key), Value.none)]).map (·.2)) = none
    rw [List.find?_cons, e]
    rfl
section
variable {prog : Program} {w : World} {A : Around} {E : Value → Shared → Prop} {s : Shared} {d : Addr}
/-- the sign 37 is found, with None -/
theorem look_here {f : Key → Option Value} {Q : Mapped → Shared → Prop} (T : Drops f) (hm : s.heap.MapOf (mixKind prog w) d f)
    (q : ∀ k, Q .drop { s with toks := k }) : wpAny (model prog w) A (tableLookup (.ref d) 37) Q E s := by
  unfold tableLookup
  refine wpAny_bind (wpAny_attempt (wpAny_bind (wpAny_mkInt ?_)))
  exact wpAny_getItem_of (knd := mixKind prog w) (k := Sum.inl ((37 : Nat) : Int)) (mixKind_int _ _ _ _) hm T.here (wpAny_pure (q _))
/-- any other sign is not: the KeyError of the look is taken for «keep» -/
theorem look_away {f : Key → Option Value} {Q : Mapped → Shared → Prop} {c : Nat} (hc : c ≠ 37) (calm : A.handled = none) (low : (d == sysModules) = false) (T : Drops f) (hm : s.heap.MapOf (mixKind prog w) d f)
    (q : ∀ h' k, Old s.heap h' → Q .keep { s with heap := h', toks := k }) : wpAny (model prog w) A (tableLookup (.ref d) c) Q E s := by
  unfold tableLookup
  refine wpAny_bind (wpAny_attempt (wpAny_bind (wpAny_mkInt ?_)))
  refine wpAny_getItem_missing_of (knd := mixKind prog w) (k := Sum.inl (c : Int)) (mixKind_int _ _ _ _) low calm hm (T.away c hc) ?_
  intro h' e new
  obtain ⟨eo, _, get, isKey, _⟩ := new.there
  have kin : isSubtype (.type "KeyError") (.type "LookupError") = pure true := key_is_lookup
  refine wpAny_bind (wpAny_isInstance (T := "KeyError") (b := true) ⟨eo, get, isKey⟩ kin ?_)
  exact wpAny_bind (wpAny_rule (wpAny_pure (q h' _ new.keeps)))
end
def left37 (l : List Nat) : List Nat := l.filter fun c => decide (c ≠ 37)
theorem left_nil : left37 [] = [] := rfl
theorem left_here (l : List Nat) : left37 (l ++ [37]) = left37 l := by
  unfold left37
  rw [List.filter_append]
  simp
theorem left_away {c : Nat} (h : c ≠ 37) (l : List Nat) : left37 (l ++ [c]) = left37 l ++ [c] := by
  unfold left37
  rw [List.filter_append]
  simp [h]
theorem left_len (l : List Nat) : (left37 l).length ≤ l.length := List.length_filter_le _ _
def sign (c : Nat) : Str := ⟨#[c]⟩
theorem glue_signs (l : List Nat) : ∀ a : Array Nat, (l.map sign).foldl (fun acc (p : Str) => acc ++ p.cps) a = a ++ l.toArray := by
  induction l with
  | nil => intro a; simp
  | cons c r ih =>
    intro a
    show (r.map sign).foldl (fun acc (p : Str) => acc ++ p.cps) (a ++ #[c]) = _
    rw [ih]
    refine Array.toList_inj.mp ?_
    simp
/-- where a sign of the fast road goes -/
def goes37 (c : Nat) : Option Nat := if c = 37 then none else some c
/-- the memo of the signs asked before -/
def Memo (known : List (Nat × Option Nat)) : Prop := ∀ c a, known.lookup c = some a → a = goes37 c
theorem memo_nil : Memo [] := fun _ _ h => nomatch h
theorem Memo.more {known : List (Nat × Option Nat)} (m : Memo known) (c : Nat) : Memo ((c, goes37 c) :: known) := fun c' a h => by
  rcases lookup_new h with ⟨rfl, e⟩ | h
  · exact e
  · exact m c' a h
abbrev Walk37 : Type := List Str × Nat × Bool × List (Nat × Option Nat) × Bool
/-- the state behind the signs `past`, ahead of `rest` -/
structure Mid37 (x : List Nat) (s : Shared) (rest : List Nat) (past : List Nat) (pieces : List Str) (known : List (Nat × Option Nat)) (h' : Heap) : Prop where
  cut : x = past ++ rest
  made : pieces.reverse = (left37 past).map sign
  memo : Memo known
  old : Old s.heap h'
def At37 (x : List Nat) (s : Shared) (rest : List Nat) (st : Walk37) (s' : Shared) : Prop :=
  ∃ past pieces known h' k, Mid37 x s rest past pieces known h' ∧ st = (pieces, (left37 past).length, true, known, false) ∧ s' = { s with heap := h', toks := k }
section
variable {x rest past : List Nat} {s : Shared} {c : Nat} {pieces : List Str} {known : List (Nat × Option Nat)} {h' : Heap} {k : Nat}
theorem Mid37.away (m : Mid37 x s (c :: rest) past pieces known h') (hc : c ≠ 37) {known' : List (Nat × Option Nat)} (hk : Memo known') {h2 : Heap} (old : Old s.heap h2) :
    At37 x s rest (sign c :: pieces, (left37 past).length + 1, true, known', false) { s with heap := h2, toks := k } := by
  refine ⟨past ++ [c], sign c :: pieces, known', h2, k, ⟨?_, ?_, hk, old⟩, ?_, rfl⟩
  · rw [m.cut, List.append_assoc, List.singleton_append]
  · rw [left_away hc, List.map_append, List.reverse_cons, m.made]
    rfl
  · rw [left_away hc, List.length_append, List.length_singleton]
theorem Mid37.here (m : Mid37 x s (37 :: rest) past pieces known h') {known' : List (Nat × Option Nat)} (hk : Memo known') {h2 : Heap} (old : Old s.heap h2) :
    At37 x s rest (pieces, (left37 past).length, true, known', false) { s with heap := h2, toks := k } := by
  refine ⟨past ++ [37], pieces, known', h2, k, ⟨?_, ?_, hk, old⟩, ?_, rfl⟩
  · rw [m.cut, List.append_assoc, List.singleton_append]
  · rw [left_here, m.made]
  · rw [left_here]
end
theorem meets37 {prog : Program} {w : World} {x : List Nat} {t : Tok} {d : Addr} {f : Key → Option Value} (T : Drops f) (low : (d == sysModules) = false) (few : x.length ≤ 16000000) (ascii : ∀ c ∈ x, c < 128) :
    MeetsIn prog w («str.translate» ⟨[.str (SX.S x) t, .ref d], []⟩) (fun A R s => A.handled = none ∧ s.heap.MapOf (mixKind prog w) d f ∧
      ∀ (v : Value) (h' : Heap) (k : Nat), Old s.heap h' → (∃ t', v = .str (SX.S (left37 x)) t') → R (.ok (.ret v)) { s with heap := h', toks := k }) := by
  refine .of_wp fun A R s hyp => ?_
  obtain ⟨calm, tab, done⟩ := hyp
  have calm1 : A.in1.handled = none := calm
  show wpAny _ _ (if ((SX.S x).length == 0) = true then _ else (do
    let st ← forIn (SX.S x).cps (([], 0, (SX.S x).cps.all fun y => decide (y < 128), [], false) : Walk37) _
    _)) _ _ s
  by_cases empty : x = []
  · rw [if_pos (show ((SX.S x).length == 0) = true by rw [SX.S_len, empty]; rfl)]
    subst empty
    exact wpAny_bind (wpAny_rule (wpAny_pure ⟨_, rfl, done _ s.heap s.toks (fun _ _ e => e) ⟨t, rfl⟩⟩))
  · have full : ¬ ((SX.S x).length == 0) = true := fun h => by
      rw [SX.S_len, beq_iff_eq] at h
      exact empty (List.eq_nil_of_length_eq_zero h)
    have fast : ((SX.S x).cps.all fun y => decide (y < 128)) = true := by
      rw [← Array.all_toList]
      exact List.all_eq_true.mpr fun c hc => decide_eq_true (ascii c hc)
    rw [if_neg full, fast]
    refine wpAny_bind (MeetsSeq2.wpAny_forIn_array _ (At37 x s) _ (fun c rest st s' at_ => ?_) (fun st s' at_ => ?_) (SX.S x).cps ([], 0, true, [], false) ?_)
    · obtain ⟨past, pieces, known, h', k, m, rfl, rfl⟩ := at_
      have short : tooLong (left37 past).length = false := by
        have q := congrArg List.length m.cut
        rw [List.length_append] at q
        have := left_len past
        exact PyProof.Rows.short24 (by omega)
      have tab' : h'.MapOf (mixKind prog w) d f := by
        obtain ⟨o, es, ep, get, r⟩ := tab
        exact ⟨o, es, ep, m.old _ _ get, r⟩
      show wpAny _ _ (if tooLong (left37 past).length = true then _ else (if true = true then _ else _)) _ _ _
      rw [short, if_neg Bool.false_ne_true, if_pos rfl]
      by_cases hc : c = 37
      · subst hc
        cases ask : known.lookup 37 with
        | some a =>
          have ea : a = none := m.memo _ _ ask
          subst ea
          exact wpAny_bind (wpAny_pure (wpAny_pure (m.here m.memo m.old)))
        | none =>
          exact wpAny_bind (look_here T tab' fun k2 => wpAny_bind (wpAny_pure (wpAny_pure (m.here (m.memo.more 37) m.old))))
      · have ego : goes37 c = some c := if_neg hc
        have more := m.memo.more c
        rw [ego] at more
        cases ask : known.lookup c with
        | some a =>
          have ea : a = some c := (m.memo _ _ ask).trans ego
          subst ea
          exact wpAny_bind (wpAny_pure (wpAny_pure (m.away hc m.memo m.old)))
        | none =>
          exact wpAny_bind (look_away hc calm1 low T tab' fun h2 k2 old => wpAny_bind (wpAny_pure (wpAny_pure (m.away hc more fun b o e => old b o (m.old b o e)))))
    · obtain ⟨past, pieces, known, h', k, m, rfl, rfl⟩ := at_
      have ex : past = x := by rw [m.cut, List.append_nil]
      have made := m.made
      rw [ex] at made ⊢
      have := left_len x
      have text : (⟨#[] ++ (left37 x).toArray⟩ : Str) = SX.S (left37 x) := by simp
      show wpAny _ _ (if tooLong (left37 x).length = true then _ else retStr ⟨List.foldl (fun acc (p : Str) => acc ++ p.cps) #[] pieces.reverse⟩) _ _ _
      rw [PyProof.Rows.short24 (n := (left37 x).length) (by omega), if_neg Bool.false_ne_true, made, glue_signs, text]
      exact wpAny_bind (wpAny_mkStr (wpAny_pure ⟨_, rfl, done _ h' _ m.old ⟨_, rfl⟩⟩) (by rw [SX.S_len, sizeLine_eq]; omega))
    · refine ⟨[], [], [], s.heap, s.toks, ⟨?_, rfl, memo_nil, fun _ _ e => e⟩, rfl, rfl⟩
      show x = [] ++ x.toArray.toList
      simp
/-- the rule, over the layer: the table a dict that the call has made -/
theorem mt_translate37 {X : Cx} (hc : X.calm = true) : MtR X "str.translate" (fun x xs H Q => ∃ (z : Str) (d : Addr), x = .str z ∧ xs = [.ref d] ∧ H d = some (.dK [(Sum.inl 37, .non)]) ∧ (∀ c ∈ tl z, c < 128) ∧ z.length ≤ 16000000 ∧ Q (.str (no37 z)) H) := by
  intro pins s σ H x xs v us Q I rx rs ⟨z, d, ex, exs, hd, ascii, few, q⟩
  rw [ex] at rx
  rw [exs] at rs
  obtain ⟨t, ev⟩ := rx
  rw [ev]
  cases rs with
  | cons r1 none_left =>
    cases none_left
    have eu := r1
    rw [show _ = Value.ref d from eu]
    obtain ⟨_, low, vs, kv, is⟩ := I.hok d _ hd
    have evs : vs = [((Sum.inl 37 : Key), Value.none)] := by
      cases kv with
      | cons pq none_left =>
        cases none_left
        exact congrArg (fun p => [p]) (Prod.ext (Eq.symm pq.1) pq.2)
    rw [evs] at is
    have ez : z = SX.S (tl z) := (SX.S_tl z).symm
    rw [ez]
    refine call_meetsIn F.slot_str_translate (typeIs_str _ _ _) F.entry_str_translate (F.args_str_translate_2 _ _) (meets37 (t := t) drops_one low (by rw [len_tl']; exact few) ascii) ⟨I.ok.hd hc, is.mapOf, ?_⟩
    intro v2 h' k old ⟨t', e2⟩
    rw [e2]
    exact ⟨.str _, H, I.kept (t' := k) old, ⟨t', rfl⟩, q⟩
end Z
set_option maxHeartbeats 2000000
namespace Z
open PySem PySem.Spec PyProof.Rows L2 TL
/-! ### defs of the module, called by place or by keywords -/
abbrev FnP (K : PySem.W.Frag) (x : Str) (st : Stmt) (f : Addr) (fd : FuncData) : Prop := FunD K x x (L2.defArgs st) (L2.defBody st) (L2.defScope st) [] [] f fd
structure Call (P : Program) (w : World) (K : PySem.W.Frag) (mg : Str → Option Value) (base : Heap) (k : Nat) (x : Str) (ps : List Str) (sp : Sp) : Prop where
  ex : ∃ (f : Addr) (fd : FuncData), FnOk P w K mg base CX0 k f fd ps sp ∧ mg x = some (.ref f) ∧ PySem.W.keepIn K (.ref f) = true ∧ Binds K fd ps [] ∧ KBn K fd ps 0 ps (fun _ ws => ws) (fun _ zs => zs)
section
variable {P : Program} {w : World} {K : PySem.W.Frag} {mg : Str → Option Value} {base : Heap} {x : Str} {st : Stmt} {f : Addr} {fd : FuncData} {N ps : List Str} {k : Nat} {sp : Sp}
theorem kbn (F : FnP K x st f fd) (h : ∀ (kV doc pm : Value) (an : Option Addr) (cdv ct : Value) (ws : List Value), ws.length = ps.length → bindArgs (PySem.W.fnOf x x (L2.defArgs st) (L2.defBody st) (L2.defScope st) .none kV doc pm an cdv ct) ⟨[], ps.zip ws⟩ = pure (ps.zip ws)) :
    KBn K fd ps 0 ps (fun _ ws => ws) (fun _ zs => zs) := by
  obtain ⟨_, _, dflt, kwd, doc, mod, ann, code, tp, _, isFd, _, _, none_given, _⟩ := F.ex
  have no : dflt = .none := none_given.elim (fun q => q.2) fun q => absurd rfl q.1
  rw [isFd, no]
  refine ⟨fun st0 us ws _ nu nw => ?_, fun _ r => r⟩
  rw [List.eq_nil_of_length_eq_zero nu]
  exact .of_eq (h kwd doc mod ann code tp ws nw)
/-- a def's promise, by its body -/
theorem mkF (F : FnP K x st f fd) (S : FnScope N ps (L2.defScope st)) (len : ∀ vs H Q E, sp vs H Q E → vs.length = ps.length)
    (hbody : ∀ (cdv : Value) (A : Around) (outer : List Env) (s : Shared) (H : Hp) (vs : List V) (Q : VK) (E : XK), Room k (A.deeper (envOfC x (L2.defScope st) s.heap.objs.size f cdv)) → sp vs H Q E →
      ∃ t, PSs (cxOf CX0 P w K mg base N x (L2.defScope st) f cdv A outer s H E).nox (L2.defBody st) t ∧ t { nx := fun _ H' => Q .non H', rt := Q } (start N vs) H) : FnOk P w K mg base CX0 (k + 1) f fd ps sp :=
  F.ok S len fun cdv A outer s H vs Q E hr h => by
    obtain ⟨t, h1, h2⟩ := hbody cdv A outer s H vs Q E hr h
    exact ⟨t, h1.nox, h2⟩
theorem mk (F : FnP K x st f fd) (gm : mg x = some (.ref f))
    (hb : ∀ (kV doc pm : Value) (an : Option Addr) (cdv ct : Value) (us : List Value), us.length = ps.length → bindArgs (PySem.W.fnOf x x (L2.defArgs st) (L2.defBody st) (L2.defScope st) .none kV doc pm an cdv ct) ⟨us, []⟩ = pure (ps.zip us))
    (hk : ∀ (kV doc pm : Value) (an : Option Addr) (cdv ct : Value) (ws : List Value), ws.length = ps.length → bindArgs (PySem.W.fnOf x x (L2.defArgs st) (L2.defBody st) (L2.defScope st) .none kV doc pm an cdv ct) ⟨[], ps.zip ws⟩ = pure (ps.zip ws))
    (S : FnScope N ps (L2.defScope st)) (len : ∀ vs H Q E, sp vs H Q E → vs.length = ps.length)
    (hbody : ∀ (cdv : Value) (A : Around) (outer : List Env) (s : Shared) (H : Hp) (vs : List V) (Q : VK) (E : XK), Room k (A.deeper (envOfC x (L2.defScope st) s.heap.objs.size f cdv)) → sp vs H Q E →
      ∃ t, PSs (cxOf CX0 P w K mg base N x (L2.defScope st) f cdv A outer s H E).nox (L2.defBody st) t ∧ t { nx := fun _ H' => Q .non H', rt := Q } (start N vs) H) : Call P w K mg base (k + 1) x ps sp := by
  exact ⟨f, fd, mkF F S len hbody, gm, F.kp, F.bindsN hb, kbn F hk⟩
end
section
variable {X : Cx} {k j : Nat} {x : Str} {ps : List Str} {sp : Sp} {p pos : Pos} {e : Expr} {es : List Expr} {kws : List Keyword} {t tk : TA}
theorem pe_f (c : Call X.prog X.w X.K X.mg X.base k x ps sp) (hr : Room j X.A) (hk : k ≤ j) (hg : Gl X x) (ha : PA X (e :: es) t)
    (hdb : (x == ("__debug__" : Str)) = false := by decide) (he : starEach (e :: es) X.env = (false, eval e X.env) :: starEach es X.env := by rfl) (hpl : (backTo pos (starEach es X.env)).any (·.1) = false := by rfl) :
    PE X (.Call (.Name x p) (e :: es) [] pos) (tCall sp [] E0 t) := by
  obtain ⟨f, fd, F, hm, kp, b, _⟩ := c.ex
  exact pe_call F (hr.mono hk) hg hm kp b .nil pass0 ha hdb he hpl
theorem pe_f0 (c : Call X.prog X.w X.K X.mg X.base k x ps sp) (hr : Room j X.A) (hk : k ≤ j) (hg : Gl X x) (hdb : (x == ("__debug__" : Str)) = false := by decide) : PE X (.Call (.Name x p) [] [] pos) (tCall sp [] E0 tNil) := by
  obtain ⟨f, fd, F, hm, kp, b, _⟩ := c.ex
  exact pe_call0 F (hr.mono hk) hg hm kp b .nil pass0 hdb
/-- f(k = v, ..), all parameters by keywords, in their order -/
theorem pe_fk (c : Call X.prog X.w X.K X.mg X.base k x ps sp) (hr : Room j X.A) (hj : k ≤ j) (hg : Gl X x) (hkw : PK X kws tk)
    (hks : (backToKw pos (keywordEach kws X.env)).filterMap (·.1) = ps := by rfl) (hall : (backToKw pos (keywordEach kws X.env)).all (·.1.isSome) = true := by rfl)
    (hdb : (x == ("__debug__" : Str)) = false := by decide)
    (hpl : ((backTo pos (starEach [] X.env)).any (·.1) || (backToKw pos (keywordEach kws X.env)).any (·.1.isNone)) = false := by rfl) :
    PE X (.Call (.Name x p) [] kws pos) (tCallN 0 ps.length sp (fun _ zs => zs) E0 tNil tk) where
  run := fun pins s σ H Q I asks => by
    obtain ⟨f, fd, F, named, kept, _, binds⟩ := c.ex
    refine wpAny_Call_Name_kw (ld_glob I hg named (PySem.W.callWith_KW0 (h₀ := X.base) I.ok.mod.kin kept hall ?_ hpl) hdb)
    refine thn (hkw.run pos pins s σ H _ I asks) fun ws s2 told => ?_
    obtain ⟨zs, H2, I2, rz, _, many, wish⟩ := told
    refine ⟨I2.kIn, ?_⟩
    rw [hks]
    exact run_fnN (us := []) (vs := []) F (hr.mono hj) binds pass0 I2 .nil rz rfl many wish
end
section
variable {X : Cx} {x : Str} {pos : Pos}
/-- a module's constant -/
theorem pe_gc {v : V} (hg : Gl X x) (h : ∃ u, X.mg x = some u ∧ RelV v u) (hd : (x == ("__debug__" : Str)) = false := by decide) : PE X (.Name x pos) (tC v) := by
  obtain ⟨u, hm, r⟩ := h
  exact pe_glob hg hm r hd
end
/-- where the context is a comprehension's, its written part is the def's -/
theorem inK {X : Cx} {K : PySem.W.Frag} {e : Expr} {t : PySem.W.Frag → TE} (same : X.K = K) (h : PE X e (t X.K)) : PE X e (t K) := same ▸ h
/-! ### a text times a number -/
def repS (z : Str) (n : Nat) : Str := if n = 0 then Str.empty else if (n == 1 || z.length == 0) = true then z else ⟨(List.replicate n z.cps).foldl (· ++ ·) #[]⟩
theorem rep_size (a : Array Nat) : ∀ (n : Nat) (acc : Array Nat), ((List.replicate n a).foldl (· ++ ·) acc).size = acc.size + n * a.size
  | 0, acc => by simp
  | n + 1, acc => by
    rw [List.replicate_succ, List.foldl_cons, rep_size a n, Array.size_append, Nat.succ_mul]
    omega
theorem repS_len (z : Str) (n : Nat) : (repS z n).length = n * z.length := by
  unfold repS
  split
  · rename_i h
    rw [h, Nat.zero_mul]
    rfl
  · split
    · rename_i h
      simp only [Bool.or_eq_true, beq_iff_eq] at h
      rcases h with h | h
      · rw [h, Nat.one_mul]
      · rw [h, Nat.mul_zero]
    · show ((List.replicate n z.cps).foldl (· ++ ·) #[]).size = n * z.cps.size
      rw [rep_size]
      simp
section
variable {X : Cx}
theorem op_rep_str : OpR X (binaryOp .Mult) (fun x y H Q => ∃ (z : Str) (i : Int), x = .str z ∧ y = .int i ∧ 0 ≤ i ∧ i ≤ 1000 ∧ z.length ≤ 1000 ∧ Q (.str (repS z i.toNat)) H) := by
  intro pins s σ H x y v u Q I rx ry h
  obtain ⟨z, i, rfl, rfl, h0, h1, hz, q⟩ := h
  obtain ⟨t, rfl⟩ := rx
  obtain ⟨t', rfl⟩ := ry
  have hle : z.length * i.toNat ≤ 1000000 := Nat.le_trans (Nat.mul_le_mul hz (show i.toNat ≤ 1000 by omega)) (by decide)
  refine PySem.P.mul_str ?_ (fun hn _ hgt => ?_) (fun _ _ => PyProof.Rows.short24 (by omega)) ?_
  · rw [decide_eq_false (show ¬ i < -(2 ^ 63) by omega), decide_eq_false (show ¬ i ≥ 2 ^ 63 by omega)]
    rfl
  · have h2 : i ∣ i := Int.dvd_refl i
    have h3 : (2 ^ 63 - 1) / (1000 : Int) ≤ (2 ^ 63 - 1) / i := by
      have : (2 ^ 63 - 1) / (1000 : Int) * i ≤ 2 ^ 63 - 1 := by
        have e : (2 ^ 63 - 1) / (1000 : Int) = 9223372036854775 := by decide
        rw [e]
        omega
      exact (Int.le_ediv_iff_mul_le (by omega)).mpr this
    have e : (2 ^ 63 - 1) / (1000 : Int) = 9223372036854775 := by decide
    rw [e] at h3
    omega
  · by_cases hn : i < 1
    · rw [if_pos hn]
      have : repS z i.toNat = Str.empty := by unfold repS; rw [if_pos (show i.toNat = 0 by omega)]
      rw [this] at q
      exact ⟨by decide, ⟨.str Str.empty, H, I.tok _, ⟨_, rfl⟩, q⟩⟩
    · rw [if_neg hn]
      have e1 : (i == 1) = (i.toNat == 1) := by
        by_cases h : i = 1
        · subst h; rfl
        · rw [beq_eq_false_iff_ne.mpr h, beq_eq_false_iff_ne.mpr (show i.toNat ≠ 1 by omega)]
      have e2 : repS z i.toNat = if (i.toNat == 1 || z.length == 0) = true then z else ⟨(List.replicate i.toNat z.cps).foldl (· ++ ·) #[]⟩ := by
        unfold repS
        rw [if_neg (show ¬ i.toNat = 0 by omega)]
      have hl := repS_len z i.toNat
      rw [e2] at q hl
      rw [e1]
      by_cases hc : (i.toNat == 1 || z.length == 0) = true
      · rw [if_pos hc] at q ⊢
        exact ⟨.str z, H, I, ⟨t, rfl⟩, q⟩
      · rw [if_neg hc] at q hl ⊢
        refine ⟨?_, ⟨.str _, H, I.tok _, ⟨_, rfl⟩, q⟩⟩
        rw [hl, sizeLine_eq]
        rw [Nat.mul_comm] at hle
        omega
end
/-! ### the size of a cell -/
theorem bits_lt {z : Int} {n : Nat} (h : Builtin.Int.intBits z ≤ n) : z.natAbs < 2 ^ n := by
  unfold Builtin.Int.intBits at h
  by_cases hz : z = 0
  · rw [hz]
    exact Nat.two_pow_pos n
  · have e : (z == 0) = false := beq_eq_false_iff_ne.mpr hz
    rw [e, if_neg Bool.false_ne_true] at h
    exact Nat.lt_of_lt_of_le (Nat.lt_log2_self) (Nat.pow_le_pow_right (by decide) h)
end Z
set_option maxHeartbeats 2000000
namespace Z
open PySem PySem.Spec PyProof.Rows L2 TL Evl
/-! ### named readings of values -/
def rStrip : V → List V → Hp → VK → Prop := fun x xs H Q => ∃ a b, x = .str a ∧ xs = [.str b] ∧ a.length ≤ sizeLine ∧ Q (.str (Txt.stripChars a b)) H
def rIsascii : V → List V → Hp → VK → Prop := fun x xs H Q => ∃ a, x = .str a ∧ xs = [] ∧ True ∧ Q (.bl (Txt.isascii a)) H
def rIsprint : V → List V → Hp → VK → Prop := fun x xs H Q => ∃ a, x = .str a ∧ xs = [] ∧ True ∧ Q (.bl (Txt.isprintable a)) H
def rTrans : V → List V → Hp → VK → Prop := fun x xs H Q => ∃ (z : Str) (d : Addr), x = .str z ∧ xs = [.ref d] ∧ H d = some (.dK [(Sum.inl 37, .non)]) ∧ (∀ c ∈ tl z, c < 128) ∧ z.length ≤ 16000000 ∧ Q (.str (no37 z)) H
def rAddS2 : R2 := fun x y H Q => ∃ i j, x = .str i ∧ y = .str j ∧ i.length + j.length ≤ sizeLine ∧ Q (.str (i ++ j)) H
def rLenStr : List V → Hp → VK → Prop := fun xs H Q => ∃ z, xs = [.str z] ∧ z.length ≤ sizeLine ∧ Q (.int z.length) H
def rIntStr : List V → Hp → VK → Prop := fun xs H Q => ∃ a n, xs = [.str a] ∧ PySem.intText? a = some n ∧ a.length ≤ 640 ∧ Q (.int n) H
def rStarts : V → List V → Hp → VK → Prop := fun x xs H Q => ∃ a b, x = .str a ∧ xs = [.str b] ∧ Q (.bl (Txt.startswith a b)) H
section
variable {X : Cx}
theorem mz_strip : MtR X "str.strip" rStrip := mt_stripChars
theorem mz_isascii : MtR X "str.isascii" rIsascii := mt_isascii
theorem mz_isprint : MtR X "str.isprintable" rIsprint := mt_isprintable
theorem mz_trans (hc : X.calm = true) : MtR X "str.translate" rTrans := mt_translate37 hc
theorem oz_add : OpR X (binaryOp .Add) rAddS2 := op_add_str
theorem cz_len : CallR X (.builtin "len") rLenStr := call_len_str
theorem cz_int : CallR X (.type "int") rIntStr := call_int_str
theorem mz_starts : MtR X "str.startswith" rStarts := mt_startswith
end
/-! ### what evaluates to what, for texts -/
section
variable {K : PySem.W.Frag} {σ : L2.St} {H H' : Hp} {ta tb tc te to ts : TE} {t u : TT} {x y z v : V} {r : R2} {a b s : Str} {c : Nat}
theorem rv_in {w : Str} : RV rInS (.str ⟨#[c]⟩) (.str w) H (.bl (decide (c ∈ tl w))) := fun H1 _ _ q => ⟨c, w, rfl, rfl, q H1 (Ex.refl H1)⟩
theorem rv_notin {w : Str} : RV rNotInS (.str ⟨#[c]⟩) (.str w) H (.bl (!decide (c ∈ tl w))) := fun H1 _ _ q => ⟨c, w, rfl, rfl, q H1 (Ex.refl H1)⟩
theorem rv_isN : RV rIsN x .non H (.bl (decide (x = .non))) := fun H1 _ _ q => ⟨rfl, q H1 (Ex.refl H1)⟩
theorem rv_notN : RV rNotN x .non H (.bl (!decide (x = .non))) := fun H1 _ _ q => ⟨rfl, q H1 (Ex.refl H1)⟩
theorem rv_addS (h : a.length + b.length ≤ 200000) : RV rAddS2 (.str a) (.str b) H (.str (a ++ b)) := fun H1 _ _ q => ⟨a, b, rfl, rfl, Nat.le_trans h (by decide), q H1 (Ex.refl H1)⟩
theorem decS {a b : Str} : decide (V.str a = V.str b) = decide (a = b) := by
  by_cases h : a = b
  · rw [decide_eq_true h, decide_eq_true (congrArg V.str h)]
  · rw [decide_eq_false h, decide_eq_false fun e => h (V.str.inj e)]
theorem decI {a b : Int} : decide (V.int a = V.int b) = decide (a = b) := by
  by_cases h : a = b
  · rw [decide_eq_true h, decide_eq_true (congrArg V.int h)]
  · rw [decide_eq_false h, decide_eq_false fun e => h (V.int.inj e)]
theorem rv_eqS : RV rEq (.str a) (.str b) H (.bl (decide (a = b))) := by
  rw [← decS]; exact rv_eq rfl
theorem rv_neS : RV rNe (.str a) (.str b) H (.bl (!decide (a = b))) := by
  rw [← decS]; exact rv_ne rfl
theorem rv_eqI {i j : Int} : RV rEq (.int i) (.int j) H (.bl (decide (i = j))) := by
  rw [← decI]; exact rv_eq rfl
theorem rv_neI {i j : Int} : RV rNe (.int i) (.int j) H (.bl (!decide (i = j))) := by
  rw [← decI]; exact rv_ne rfl
theorem ev_strip (h : Ev to σ H (.str a)) (hs : Ev ts σ H (.str s)) (hz : a.length ≤ 100000) : Ev (tBM K "str" rStrip to (tCons ts tNil)) σ H (.str (Txt.stripChars a s)) := fun H1 e Q q =>
  h H1 e _ fun H2 e2 => ⟨rfl, hs H2 (e.trans e2) _ fun H3 e3 => ⟨a, s, rfl, rfl, sz_of hz, q H3 (e2.trans e3)⟩⟩
theorem ev_isascii (h : Ev to σ H (.str a)) : Ev (tBM0 K "str" rIsascii to) σ H (.bl (Txt.isascii a)) := fun H1 e Q q => h H1 e _ fun H2 e2 => ⟨rfl, a, rfl, rfl, trivial, q H2 e2⟩
theorem ev_isprint (h : Ev to σ H (.str a)) : Ev (tBM0 K "str" rIsprint to) σ H (.bl (Txt.isprintable a)) := fun H1 e Q q => h H1 e _ fun H2 e2 => ⟨rfl, a, rfl, rfl, trivial, q H2 e2⟩
theorem ev_starts (h : Ev to σ H (.str a)) (hs : Ev ts σ H (.str s)) : Ev (tBM K "str" rStarts to (tCons ts tNil)) σ H (.bl (Txt.startswith a s)) := fun H1 e Q q =>
  h H1 e _ fun H2 e2 => ⟨rfl, hs H2 (e.trans e2) _ fun H3 e3 => ⟨a, s, rfl, rfl, q H3 (e2.trans e3)⟩⟩
/-- text.translate({37: None}) -/
theorem ev_trans (h : Ev to σ H (.str a)) (ha : ∀ c ∈ tl a, c < 128) (hz : a.length ≤ 100000) : Ev (tBM K "str" rTrans to (tCons (tDisp [(tC (.int 37), tC .non)]) tNil)) σ H (.str (no37 a)) := fun H1 e Q q =>
  h H1 e _ fun H2 e2 => ⟨rfl, fun p hp => ⟨upd_same, [(Sum.inl 37, .non)], rfl, (by decide), ⟨a, p, rfl, rfl, (by rw [upd_same]; rfl), ha, Nat.le_trans hz (by decide), q _ (e2.trans (fun b o hb => by
    rw [upd_ne (ne_of_none hb hp), upd_ne (ne_of_none hb hp)]
    exact hb))⟩⟩⟩
theorem ev_lenStr (h : Ev te σ H (.str a)) (hz : a.length ≤ 100000) : Ev (tCB rLenStr (tCons te tNil)) σ H (.int (a.length : Int)) := fun H1 e Q q => h H1 e _ fun H2 e2 => ⟨a, rfl, sz_of hz, q H2 e2⟩
theorem ev_intStr {n : Int} (h : Ev te σ H (.str a)) (hn : PySem.intText? a = some n) (hl : a.length ≤ 640) : Ev (tCB rIntStr (tCons te tNil)) σ H (.int n) := fun H1 e Q q => h H1 e _ fun H2 e2 => ⟨a, n, rfl, hn, hl, q H2 e2⟩
theorem ev_slS {tl' th : TO} {lo hi : Option Int} (h : Ev te σ H (.str a)) (h1 : EvO tl' σ H lo) (h2 : EvO th σ H hi) (hz : a.length ≤ 100000) : Ev (tSl rSlS te tl' th) σ H (.str (cutS a lo hi)) := fun H1 e Q q =>
  h H1 e _ fun H2 e2 => h1 H2 (e.trans e2) _ fun H3 e3 => h2 H3 ((e.trans e2).trans e3) _ fun H4 e4 => ⟨a, rfl, sz_of hz, q H4 ((e2.trans e3).trans e4)⟩
theorem ev_ixS {i : Int} (h : Ev te σ H (.str a)) (h1 : Ev tb σ H (.int i)) (hz : a.length ≤ 100000) (ha : atI (tl a) i = some c) : Ev (tOp rIxS te tb) σ H (.str ⟨#[c]⟩) := ev_op h h1 (rv_ixS hz ha)
/-- a <= b <= c -/
theorem ev_chain {i j k : Int} (ha : Ev ta σ H (.int i)) (hb : Ev tb σ H (.int j)) (hc : Ev tc σ H (.int k)) :
    Ev (tChain (rI0 fun i j => .bl (decide (i ≤ j))) (rI0 fun i j => .bl (decide (i ≤ j))) ta tb tc) σ H (.bl (decide (i ≤ j) && decide (j ≤ k))) := fun H1 e Q q =>
  ha H1 e _ fun H2 e2 => hb H2 (e.trans e2) _ fun H3 e3 => ⟨i, j, rfl, rfl, _, rfl, by
    cases h : decide (i ≤ j) with
    | true =>
      refine iteT ?_
      refine hc H3 ((e.trans e2).trans e3) _ fun H4 e4 => ⟨j, k, rfl, rfl, ?_⟩
      have g := q H4 ((e2.trans e3).trans e4)
      rw [h] at g
      exact g
    | false =>
      refine iteF ?_
      have g := q H3 (e2.trans e3)
      rw [h] at g
      exact g⟩
/-- the same, where the last part is asked only if the first holds -/
theorem ev_callN {sp : Sp} {vs : List V} {n : Nat} {E : XK} {tk : TA} (h : EvA tk σ H vs) (hl : vs.length = n) (hs : SpV sp vs H z) : Ev (tCallN 0 n sp (fun _ zs => zs) E tNil tk) σ H z := fun H1 e Q q =>
  h H1 e _ fun H2 e2 => ⟨rfl, hl, hs H2 (e.trans e2) Q (fun H3 e3 => q H3 (e2.trans e3)) E⟩
theorem el_callN {sp : Sp} {vs xs : List V} {n : Nat} {E : XK} {tk : TA} (h : EvA tk σ H vs) (hl : vs.length = n) (hs : SpL sp vs H xs) : EvL (tCallN 0 n sp (fun _ zs => zs) E tNil tk) σ H xs := fun H1 e Q q =>
  h H1 e _ fun H2 e2 => ⟨rfl, hl, hs H2 (e.trans e2) Q (fun p H3 hp e3 h3 => q p H3 (fresh_back e2 hp) (e2.trans e3) h3) E⟩
end
/-! ### promises of plain functions of texts -/
def sp1 (f : Str → V) : Sp := fun vs H Q _ => ∃ z : Str, vs = [.str z] ∧ z.length ≤ 100000 ∧ RetV (f z) H Q
def sp2 (f : Str → Str → V) : Sp := fun vs H Q _ => ∃ z s : Str, vs = [.str z, .str s] ∧ z.length ≤ 100000 ∧ RetV (f z s) H Q
def sp0 (v : V) : Sp := fun vs H Q _ => vs = [] ∧ RetV v H Q
def sp1L (f : Str → List V) : Sp := fun vs H Q _ => ∃ z : Str, vs = [.str z] ∧ z.length ≤ 10000 ∧ RetL (f z) H Q
theorem sv1 {f : Str → V} {z : Str} {H : Hp} (h : z.length ≤ 100000) : SpV (sp1 f) [.str z] H (f z) := fun H1 e Q q E => ⟨z, rfl, h, q⟩
theorem sv2 {f : Str → Str → V} {z s : Str} {H : Hp} (h : z.length ≤ 100000) : SpV (sp2 f) [.str z, .str s] H (f z s) := fun H1 e Q q E => ⟨z, s, rfl, h, q⟩
theorem sv0 {v : V} {H : Hp} : SpV (sp0 v) [] H v := fun H1 e Q q E => ⟨rfl, q⟩
theorem sl1 {f : Str → List V} {z : Str} {H : Hp} (h : z.length ≤ 10000) : SpL (sp1L f) [.str z] H (f z) := fun H1 e Q q E => ⟨z, rfl, h, q⟩
end Z
set_option maxHeartbeats 2000000
namespace Z
open PySem PySem.Spec PyProof.Rows L2 TL Evl
/-! ### cut at commas -/
def splC : List Nat → List Nat → List (List Nat)
  | acc, [] => [acc]
  | acc, c :: r => if c = 44 then acc :: splC [] r else splC (acc ++ [c]) r
theorem spl_splC : ∀ (l acc : List Nat), spl [44] 0 acc l = splC acc l
  | [], acc => spl_nil _ _ _
  | c :: r, acc => by
    have hp : pre [44] (c :: r) = decide (c = 44) := by
      show ([c] == [44]) = decide (c = 44)
      by_cases h : c = 44
      · rw [h]; rfl
      · rw [decide_eq_false h]
        exact beq_eq_false_iff_ne.mpr fun e => h (by cases e; rfl)
    show spl [44] 0 acc (c :: r) = if c = 44 then acc :: splC [] r else splC (acc ++ [c]) r
    by_cases h : c = 44
    · rw [spl_hit (by rw [hp, decide_eq_true h]), if_pos h]
      show acc :: spl [44] 0 [] r = _
      rw [spl_splC r []]
    · rw [spl_miss (by rw [hp, decide_eq_false h]), if_neg h]
      exact spl_splC r (acc ++ [c])
theorem splC_len : ∀ (l acc : List Nat), (splC acc l).length ≤ l.length + 1
  | [], acc => Nat.le_refl _
  | c :: r, acc => by
    show (if c = 44 then acc :: splC [] r else splC (acc ++ [c]) r).length ≤ r.length + 1 + 1
    by_cases h : c = 44
    · rw [if_pos h, List.length_cons]; have := splC_len r []; omega
    · rw [if_neg h]; have := splC_len r (acc ++ [c]); omega
theorem splC_each : ∀ (l acc p : List Nat), p ∈ splC acc l → p.length ≤ acc.length + l.length
  | [], acc, p, h => by
    rw [List.mem_singleton.mp h]
    exact Nat.le_add_right _ _
  | c :: r, acc, p, h => by
    have h : p ∈ (if c = 44 then acc :: splC [] r else splC (acc ++ [c]) r) := h
    rw [List.length_cons]
    by_cases hc : c = 44
    · rw [if_pos hc] at h
      rcases List.mem_cons.mp h with e | h
      · rw [e]; omega
      · have := splC_each r [] p h
        rw [List.length_nil] at this
        omega
    · rw [if_neg hc] at h
      have := splC_each r (acc ++ [c]) p h
      rw [List.length_append, List.length_singleton] at this
      omega
theorem comma : tl ("," : Str) = [44] := by decide +kernel
theorem comma_kind {x : Str} : ¬ Builtin.Str.strKind x < Builtin.Str.strKind ("," : Str) := kind_ok (by decide +kernel)
theorem split_tl (z : Str) : (Txt.split z ",").map tl = splC [] (tl z) := by
  rw [split_spl z "," (by rw [comma]; simp) comma_kind, comma]
  exact spl_splC _ _
def S' (l : List Nat) : Str := ⟨l.toArray⟩
theorem S'_tl (x : Str) : S' (tl x) = x := mk_tl x
theorem tl_S' (l : List Nat) : tl (S' l) = l := rfl
theorem split_eq (z : Str) : Txt.split z "," = (splC [] (tl z)).map S' := by
  rw [← split_tl, List.map_map]
  have : (S' ∘ tl) = id := funext S'_tl
  rw [this, List.map_id]
theorem split_len (z : Str) : (Txt.split z ",").length ≤ z.length + 1 := by
  rw [split_eq, List.length_map, len_tl]
  exact splC_len _ _
theorem split_each {z p : Str} (h : p ∈ Txt.split z ",") : p.length ≤ z.length := by
  rw [split_eq] at h
  obtain ⟨l, hl, rfl⟩ := List.mem_map.mp h
  have := splC_each _ _ _ hl
  rw [List.length_nil, Nat.zero_add] at this
  rw [len_tl, len_tl]
  exact this
/-- the elements of a list in a field -/
def stripped (z : Str) : List Str := (Txt.split z ",").map fun p => Txt.stripChars p " "
def elems (z : Str) : List Str := (stripped z).filter fun p => !decide (p = ("" : Str))
/-! ### the same, sign by sign -/
def wstep (st : List Str × Str) (c : Nat) : List Str × Str :=
  if c = 44 then (if Txt.stripChars st.2 " " = ("" : Str) then st.1 else st.1 ++ [Txt.stripChars st.2 " "], "") else (st.1, st.2 ++ ⟨#[c]⟩)
def keepW (p : Str) : List Str := if Txt.stripChars p " " = ("" : Str) then [] else [Txt.stripChars p " "]
theorem keepW_eq (l : List Str) : (l.map fun p => Txt.stripChars p " ").filter (fun p => !decide (p = ("" : Str))) = l.flatMap keepW := by
  induction l with
  | nil => rfl
  | cons p r ih =>
    rw [List.map_cons, List.filter_cons, List.flatMap_cons, ih]
    unfold keepW
    by_cases h : Txt.stripChars p " " = ("" : Str)
    · rw [decide_eq_true h, if_pos h]; rfl
    · rw [decide_eq_false h, if_neg h]; rfl
theorem snoc_S' (l : List Nat) (c : Nat) : S' l ++ (⟨#[c]⟩ : Str) = S' (l ++ [c]) := ext_tl (by rw [tl_append]; rfl)
theorem wfold : ∀ (l : List Nat) (fs : List Str) (w : List Nat), (l ++ [44]).foldl wstep (fs, S' w) = (fs ++ ((splC w l).map S').flatMap keepW, ("" : Str))
  | [], fs, w => by
    show wstep (fs, S' w) 44 = _
    unfold wstep
    rw [if_pos rfl]
    show (if Txt.stripChars (S' w) " " = ("" : Str) then fs else fs ++ [Txt.stripChars (S' w) " "], ("" : Str)) = (fs ++ ([w].map S').flatMap keepW, ("" : Str))
    have : ([w].map S').flatMap keepW = keepW (S' w) := by simp
    rw [this]
    unfold keepW
    by_cases h : Txt.stripChars (S' w) " " = ("" : Str)
    · rw [if_pos h, if_pos h, List.append_nil]
    · rw [if_neg h, if_neg h]
  | c :: r, fs, w => by
    rw [List.cons_append, List.foldl_cons]
    show List.foldl wstep (wstep (fs, S' w) c) (r ++ [44]) = (fs ++ ((if c = 44 then w :: splC [] r else splC (w ++ [c]) r).map S').flatMap keepW, ("" : Str))
    unfold wstep
    by_cases h : c = 44
    · rw [if_pos h, if_pos h]
      have e : ("" : Str) = S' [] := eq_comm.mp (eq_empty.mpr rfl)
      show List.foldl wstep (if Txt.stripChars (S' w) " " = ("" : Str) then fs else fs ++ [Txt.stripChars (S' w) " "], ("" : Str)) (r ++ [44]) = _
      rw [e, wfold r _ [], List.map_cons, List.flatMap_cons, ← e]
      unfold keepW
      by_cases h2 : Txt.stripChars (S' w) " " = ("" : Str)
      · rw [if_pos h2, if_pos h2, List.nil_append]
      · rw [if_neg h2, if_neg h2, List.append_assoc]
    · rw [if_neg h, if_neg h]
      show List.foldl wstep (fs, S' w ++ ⟨#[c]⟩) (r ++ [44]) = _
      rw [snoc_S', wfold r fs (w ++ [c])]
theorem words_elems (z : Str) : ((tl z ++ [44]).foldl wstep ([], ("" : Str))).1 = elems z := by
  have e : ("" : Str) = S' [] := eq_comm.mp (eq_empty.mpr rfl)
  have h := wfold (tl z) [] []
  rw [← e] at h
  rw [h]
  show [] ++ ((splC [] (tl z)).map S').flatMap keepW = elems z
  rw [List.nil_append, ← split_eq]
  unfold elems stripped
  rw [keepW_eq]
/-! ### what a comprehension gives -/
theorem given_take {α : Type} (xs : List α) (d : α) (p : α → Bool) (g : α → V) : ∀ n, n ≤ xs.length → given n (fun i => p (xs.getD i d)) (fun i => g (xs.getD i d)) = ((xs.take n).filter p).map g
  | 0, _ => rfl
  | n + 1, h => by
    have hn : n < xs.length := h
    have e : xs.getD n d = xs[n] := by rw [List.getD_eq_getElem?_getD, List.getElem?_eq_getElem hn]; rfl
    have et : xs.take (n + 1) = xs.take n ++ [xs[n]] := by rw [List.take_add_one, List.getElem?_eq_getElem hn]; rfl
    rw [et, List.filter_append, List.map_append, ← given_take xs d p g n (by omega)]
    by_cases hp : p (xs.getD n d) = true
    · rw [given_yes (f := fun i => p (xs.getD i d)) hp]
      rw [e] at hp ⊢
      rw [List.filter_cons, if_pos hp]
      rfl
    · have hp' : p (xs.getD n d) = false := by
        cases h : p (xs.getD n d) with
        | true => exact absurd h hp
        | false => rfl
      rw [given_no (f := fun i => p (xs.getD i d)) hp']
      rw [e] at hp
      rw [List.filter_cons, if_neg hp]
      show _ = _ ++ []
      rw [List.append_nil]
theorem given_all {α : Type} (xs : List α) (d : α) (p : α → Bool) (g : α → V) : given xs.length (fun i => p (xs.getD i d)) (fun i => g (xs.getD i d)) = (xs.filter p).map g := by
  rw [given_take xs d p g xs.length (Nat.le_refl _), List.take_length]
theorem at_str {xs : List Str} {i : Nat} {x : V} (h : (xs.map V.str)[i]? = some x) (d : Str) : i < xs.length ∧ x = .str (xs.getD i d) ∧ xs.getD i d ∈ xs := by
  rw [List.getElem?_map] at h
  cases e : xs[i]? with
  | none => rw [e] at h; cases h
  | some a =>
    rw [e] at h
    cases h
    have : xs.getD i d = a := by rw [List.getD_eq_getElem?_getD, e]; rfl
    exact ⟨(List.getElem?_eq_some_iff.mp e).1, by rw [this], by rw [this]; exact List.mem_of_getElem? e⟩
/-! ### loops over a text; a text split -/
def rSplit : V → List V → Hp → VK → Prop := fun x xs H Q => ∃ a b, x = .str a ∧ xs = [.str b] ∧ (b.length == 0) = false ∧ a.length + 2 ≤ sizeLine ∧ rNewStrs (Txt.split a b) H Q
theorem mz_split {X : Cx} : MtR X "str.split" rSplit := mt_split
section
variable {K : PySem.W.Frag} {σ : L2.St} {H H' : Hp} {ta tb tc te to ts : TE} {t u : TT} {x y z v : V} {r : R2} {a b s : Str} {c : Nat} {D : Ends} {tu tz : TS}
theorem el_split (h : Ev to σ H (.str a)) (hs : Ev ts σ H (.str s)) (h0 : (s.length == 0) = false) (hz : a.length ≤ 100000) : EvL (tBM K "str" rSplit to (tCons ts tNil)) σ H ((Txt.split a s).map V.str) := fun H1 e Q q =>
  h H1 e _ fun H2 e2 => ⟨rfl, hs H2 (e.trans e2) _ fun H3 e3 => ⟨a, s, rfl, rfl, h0, Nat.le_trans (Nat.add_le_add_right hz 2) (by decide), fun p hp => q p _ (fresh_back (e2.trans e3) hp) ((e2.trans e3).trans (Ex.new hp)) upd_same⟩⟩
theorem s_forS {w : Str} {j : Nat} (h : Ev te σ H (.str w)) (Pv : Nat → L2.St → Hp → Prop) (h0 : ∀ H1, Ex H H1 → Pv 0 σ H1)
    (hs : ∀ i c σ' H', (tl w)[i]? = some c → Pv i σ' H' → tu { D with nx := Pv (i + 1), ct := Pv (i + 1), bk := D.nx } (σ'.set j (some (.str ⟨#[c]⟩))) H') (hd : ∀ σ' H', Pv (tl w).length σ' H' → D.nx σ' H') : tFor (iStr te) (gName j) tu D σ H :=
  h H (Ex.refl H) _ fun H1 e => ⟨w, rfl, for_it (walk_str (z := w)) Pv (h0 H1 e) (fun _ _ _ _ _ => trivial) (fun i x σ' H' H'' hi p y => by
    obtain ⟨rfl, c, hc, rfl⟩ := y
    exact hs i c σ' H'' (by show w.cps.toList[i]? = some c; simpa using hc) p) (fun σ' H' p => hd σ' H' (by
      have : (tl w).length = w.cps.size := by rw [len_tl']; rfl
      rw [this]; exact p))⟩
theorem q_forS {w : Str} {j : Nat} (h : Ev te σ H (.str w)) (Pv : Nat → L2.St → Hp → Prop) (h0 : ∀ H1, Ex H H1 → Pv 0 σ H1)
    (hs : ∀ i c σ' H', (tl w)[i]? = some c → Pv i σ' H' → tu { D with nx := Pv (i + 1), ct := Pv (i + 1), bk := tz D } (σ'.set j (some (.str ⟨#[c]⟩))) H') (hd : ∀ σ' H', Pv (tl w).length σ' H' → tz D σ' H') : tSeq (tFor (iStr te) (gName j) tu) tz D σ H :=
  s_forS (D := { D with nx := tz D }) h Pv h0 hs hd
end
/-! ### numbers -/
open NumText in
theorem digits_all {z : Str} (h : allIn z "0123456789" = true) : AllDigits (tl z) := fun c hc => by
  have h1 := of_decide_eq_true (List.all_eq_true.mp h c hc)
  have e : tl ("0123456789" : Str) = [48, 49, 50, 51, 52, 53, 54, 55, 56, 57] := by decide +kernel
  rw [e] at h1
  simp only [List.mem_cons, List.not_mem_nil, or_false] at h1
  omega
theorem int_digits {z : Str} (h : allIn z "0123456789" = true) (h1 : 1 ≤ z.length) (h2 : z.length ≤ 640) : PySem.intText? z = some ((NumText.digitsVal (tl z) : Nat) : Int) :=
  intText_digits (digits_all h) (fun e => by
    rw [len_tl] at h1
    have : tl z = [] := e
    rw [this] at h1
    exact absurd h1 (by decide)) (by omega)
end Z
set_option maxHeartbeats 2000000
namespace Z
open PySem PySem.Spec PyProof.Rows L2 TL Evl
def top (i : Nat) : Stmt := PySem.Challenge.pw_hopkeep_k00_fields_read.main.body.getD i (.Pass ⟨0, 0, 0, 0⟩)
abbrev s_consists_of : Stmt := top 9
theorem sc_consists_of : FnScope ["text", "signs"] ["text", "signs"] (L2.defScope s_consists_of) := ⟨rfl, rfl, rfl, by decide +kernel, rfl, by decide +kernel, by decide +kernel⟩
abbrev s_is_plain : Stmt := top 10
theorem sc_is_plain : FnScope ["text"] ["text"] (L2.defScope s_is_plain) := ⟨rfl, rfl, rfl, by decide +kernel, rfl, by decide +kernel, by decide +kernel⟩
abbrev s_is_path : Stmt := top 11
theorem sc_is_path : FnScope ["text"] ["text"] (L2.defScope s_is_path) := ⟨rfl, rfl, rfl, by decide +kernel, rfl, by decide +kernel, by decide +kernel⟩
abbrev s_is_word : Stmt := top 12
theorem sc_is_word : FnScope ["text", "most"] ["text", "most"] (L2.defScope s_is_word) := ⟨rfl, rfl, rfl, by decide +kernel, rfl, by decide +kernel, by decide +kernel⟩
abbrev s_is_field_name : Stmt := top 13
theorem sc_is_field_name : FnScope ["text"] ["text"] (L2.defScope s_is_field_name) := ⟨rfl, rfl, rfl, by decide +kernel, rfl, by decide +kernel, by decide +kernel⟩
abbrev s_is_value : Stmt := top 14
theorem sc_is_value : FnScope ["text"] ["text"] (L2.defScope s_is_value) := ⟨rfl, rfl, rfl, by decide +kernel, rfl, by decide +kernel, by decide +kernel⟩
abbrev s_list_elements : Stmt := top 15
theorem sc_list_elements : FnScope ["text", "parts", "part"] ["text"] (L2.defScope s_list_elements) := ⟨rfl, rfl, rfl, by decide +kernel, rfl, by decide +kernel, by decide +kernel⟩
abbrev s_read_number : Stmt := top 16
theorem sc_read_number : FnScope ["text"] ["text"] (L2.defScope s_read_number) := ⟨rfl, rfl, rfl, by decide +kernel, rfl, by decide +kernel, by decide +kernel⟩
abbrev s_read_reading : Stmt := top 17
theorem sc_read_reading : FnScope ["text", "number"] ["text"] (L2.defScope s_read_reading) := ⟨rfl, rfl, rfl, by decide +kernel, rfl, by decide +kernel, by decide +kernel⟩
abbrev s_law_bag : Stmt := top 19
theorem sc_law_bag : FnScope ["script", "k", "cell"] ["script", "k"] (L2.defScope s_law_bag) := ⟨rfl, rfl, rfl, by decide +kernel, rfl, by decide +kernel, by decide +kernel⟩
abbrev s_law_draw : Stmt := top 20
theorem sc_law_draw : FnScope ["bag", "size", "digit", "one", "two", "three"] ["bag", "size"] (L2.defScope s_law_draw) := ⟨rfl, rfl, rfl, by decide +kernel, rfl, by decide +kernel, by decide +kernel⟩
abbrev s_law_pick : Stmt := top 21
theorem sc_law_pick : FnScope ["bag", "things"] ["bag", "things"] (L2.defScope s_law_pick) := ⟨rfl, rfl, rfl, by decide +kernel, rfl, by decide +kernel, by decide +kernel⟩
abbrev s_law_most : Stmt := top 22
theorem sc_law_most : FnScope ["bag", "small", "large"] ["bag", "small", "large"] (L2.defScope s_law_most) := ⟨rfl, rfl, rfl, by decide +kernel, rfl, by decide +kernel, by decide +kernel⟩
abbrev s_law_word : Stmt := top 23
theorem sc_law_word : FnScope ["bag", "signs", "least", "most", "size", "k"] ["bag", "signs", "least", "most"] (L2.defScope s_law_word) := ⟨rfl, rfl, rfl, by decide +kernel, rfl, by decide +kernel, by decide +kernel⟩
abbrev s_law_letters : Stmt := top 24
theorem sc_law_letters : FnScope [] [] (L2.defScope s_law_letters) := ⟨rfl, rfl, rfl, by decide +kernel, rfl, by decide +kernel, by decide +kernel⟩
abbrev s_law_signs : Stmt := top 25
theorem sc_law_signs : FnScope ["low"] [] (L2.defScope s_law_signs) := ⟨rfl, rfl, rfl, by decide +kernel, rfl, by decide +kernel, by decide +kernel⟩
abbrev s_law_all_in : Stmt := top 26
theorem sc_law_all_in : FnScope ["text", "signs", "sign"] ["text", "signs"] (L2.defScope s_law_all_in) := ⟨rfl, rfl, rfl, by decide +kernel, rfl, by decide +kernel, by decide +kernel⟩
abbrev s_law_is_path : Stmt := top 27
theorem sc_law_is_path : FnScope ["text", "signs"] ["text"] (L2.defScope s_law_is_path) := ⟨rfl, rfl, rfl, by decide +kernel, rfl, by decide +kernel, by decide +kernel⟩
abbrev s_law_is_name : Stmt := top 28
theorem sc_law_is_name : FnScope ["text"] ["text"] (L2.defScope s_law_is_name) := ⟨rfl, rfl, rfl, by decide +kernel, rfl, by decide +kernel, by decide +kernel⟩
abbrev s_law_is_value : Stmt := top 29
theorem sc_law_is_value : FnScope ["text"] ["text"] (L2.defScope s_law_is_value) := ⟨rfl, rfl, rfl, by decide +kernel, rfl, by decide +kernel, by decide +kernel⟩
abbrev s_law_digits : Stmt := top 30
theorem sc_law_digits : FnScope ["text"] ["text"] (L2.defScope s_law_digits) := ⟨rfl, rfl, rfl, by decide +kernel, rfl, by decide +kernel, by decide +kernel⟩
abbrev s_law_list : Stmt := top 31
theorem sc_law_list : FnScope ["bag", "parts", "k", "before", "word"] ["bag"] (L2.defScope s_law_list) := ⟨rfl, rfl, rfl, by decide +kernel, rfl, by decide +kernel, by decide +kernel⟩
abbrev s_law_text : Stmt := top 32
theorem sc_law_text : FnScope ["bag", "digits", "low", "way", "sizes", "words"] ["bag"] (L2.defScope s_law_text) := ⟨rfl, rfl, rfl, by decide +kernel, rfl, by decide +kernel, by decide +kernel⟩
abbrev s_law_spoilt : Stmt := top 33
theorem sc_law_spoilt : FnScope ["bag", "text", "way", "place", "sign"] ["bag", "text"] (L2.defScope s_law_spoilt) := ⟨rfl, rfl, rfl, by decide +kernel, rfl, by decide +kernel, by decide +kernel⟩
abbrev s_law_words : Stmt := top 34
theorem sc_law_words : FnScope ["text", "found", "word", "sign"] ["text"] (L2.defScope s_law_words) := ⟨rfl, rfl, rfl, by decide +kernel, rfl, by decide +kernel, by decide +kernel⟩
abbrev s_law_number : Stmt := top 35
theorem sc_law_number : FnScope ["text"] ["text"] (L2.defScope s_law_number) := ⟨rfl, rfl, rfl, by decide +kernel, rfl, by decide +kernel, by decide +kernel⟩
abbrev s_law_signed : Stmt := top 36
theorem sc_law_signed : FnScope ["text"] ["text"] (L2.defScope s_law_signed) := ⟨rfl, rfl, rfl, by decide +kernel, rfl, by decide +kernel, by decide +kernel⟩
abbrev s_law_truth : Stmt := top 37
theorem sc_law_truth : FnScope ["told", "due"] ["told", "due"] (L2.defScope s_law_truth) := ⟨rfl, rfl, rfl, by decide +kernel, rfl, by decide +kernel, by decide +kernel⟩
abbrev s_law_integer : Stmt := top 38
theorem sc_law_integer : FnScope ["told", "due"] ["told", "due"] (L2.defScope s_law_integer) := ⟨rfl, rfl, rfl, by decide +kernel, rfl, by decide +kernel, by decide +kernel⟩
abbrev s_law_right : Stmt := top 39
theorem sc_law_right : FnScope ["text", "plain", "told"] ["text"] (L2.defScope s_law_right) := ⟨rfl, rfl, rfl, by decide +kernel, rfl, by decide +kernel, by decide +kernel⟩
abbrev s_law : Stmt := top 40
theorem sc_law : FnScope ["script", "k", "bag"] ["script"] (L2.defScope s_law) := ⟨rfl, rfl, rfl, by decide +kernel, rfl, by decide +kernel, by decide +kernel⟩
/-- what the module's names stand for -/
structure Mg (mg : Str → Option Value) : Prop where
  len : mg "len" = none
  abs : mg "abs" = none
  max : mg "max" = none
  min : mg "min" = none
  sum : mg "sum" = none
  isinstance : mg "isinstance" = none
  range : mg "range" = none
  int : mg "int" = none
  bool : mg "bool" = none
  list : mg "list" = none
  LOWER : ∃ u, mg "LOWER" = some u ∧ RelV (.str "abcdefghijklmnopqrstuvwxyz") u
  DIGITS : ∃ u, mg "DIGITS" = some u ∧ RelV (.str "0123456789") u
  WORD_SIGNS : ∃ u, mg "WORD_SIGNS" = some u ∧ RelV (.str "abcdefghijklmnopqrstuvwxyz0123456789-") u
  PATH_SIGNS : ∃ u, mg "PATH_SIGNS" = some u ∧ RelV (.str "abcdefghijklmnopqrstuvwxyz0123456789/-.") u
  MOST_PATH : ∃ u, mg "MOST_PATH" = some u ∧ RelV (.int 60) u
  MOST_NAME : ∃ u, mg "MOST_NAME" = some u ∧ RelV (.int 30) u
  MOST_VALUE : ∃ u, mg "MOST_VALUE" = some u ∧ RelV (.int 200) u
  MOST_DIGITS : ∃ u, mg "MOST_DIGITS" = some u ∧ RelV (.int 6) u
/-! ### what the functions give -/
def pathB (z : Str) : Bool := (decide ((1 : Int) ≤ z.length) && decide ((z.length : Int) ≤ 60)) && (decide (hd z = some 47) && allIn z "abcdefghijklmnopqrstuvwxyz0123456789/-.")
def hdIn (z s : Str) : Bool := match hd z with | some c => decide (c ∈ tl s) | none => false
def wordB (z : Str) (m : Int) : Bool := (decide ((1 : Int) ≤ z.length) && decide ((z.length : Int) ≤ m)) && (hdIn z "abcdefghijklmnopqrstuvwxyz" && allIn z "abcdefghijklmnopqrstuvwxyz0123456789-")
def nameB (z : Str) : Bool := wordB z 30 && !decide (z = ("length" : Str))
def valueB (z : Str) : Bool := decide ((z.length : Int) ≤ 200) && (allIn z signs && decide (Txt.stripChars z " " = z))
def digB (z : Str) : Bool := (decide ((1 : Int) ≤ z.length) && decide ((z.length : Int) ≤ 6)) && (allIn z "0123456789" && (decide ((z.length : Int) = 1) || !decide (hd z = some 48)))
def numV (z : Str) : V := if digB z = true then .int (((NumText.digitsVal (tl z) : Nat)) : Int) else .non
theorem item0 {z : Str} (h : 1 ≤ z.length) : ∃ c, hd z = some c ∧ atI (tl z) 0 = some c := by
  obtain ⟨c, h1, h2⟩ := hd_some h
  refine ⟨c, h1, ?_⟩
  have : (tl z)[0]? = some c := by
    show z.cps.toList[0]? = some c
    simpa using h2
  exact atI_nat (j := 0) this
theorem pl {a b c : Int} (h : (decide (a ≤ b) && decide (b ≤ c)) = true) : a ≤ b ∧ b ≤ c := by
  rw [Bool.and_eq_true, decide_eq_true_eq, decide_eq_true_eq] at h
  exact h
section
variable {P : Program} {w : World} {K : PySem.W.Frag} {mg : Str → Option Value} {base : Heap} {f : Addr} {fd : FuncData} {k : Nat}
theorem ok_consists_of (T : Mg mg) (F : FnP K "consists_of" s_consists_of f fd) (gm : mg "consists_of" = some (.ref f)) : Call P w K mg base 1 "consists_of" ["text", "signs"] (sp2 fun z s => .bl (allIn z s)) := by
  refine mk F gm (fun _ _ _ _ _ _ us hl => match us, hl with | [_, _], _ => rfl) (fun _ _ _ _ _ _ us hl => match us, hl with | [_, _], _ => rfl) sc_consists_of (fun vs H Q E h => ?_) (fun cdv A outer s H vs Q E hr h => ?_)
  · obtain ⟨z, s, rfl, _⟩ := h
    rfl
  · obtain ⟨z, s, rfl, hz, q⟩ := h
    refine ⟨_, (pss_one (ps_ret (pe_cmpR op_eq (pe_bm PySem.F.plainAttrs_str PySem.F.slot_str_strip PySem.F.type_str_strip mz_strip (pv 0) (pa_cons (pv 1) pa_nil)) pe_str (nomark _)))), ?_⟩
    refine s_ret (v := .bl (allIn z s)) (ev_is (ev_op (ev_strip (ev_var rfl) (ev_var rfl) hz) ev_c rv_eqS) ?_) q
    rw [strip_all]
theorem ok_is_plain (T : Mg mg) (F : FnP K "is_plain" s_is_plain f fd) (gm : mg "is_plain" = some (.ref f)) : Call P w K mg base 1 "is_plain" ["text"] (sp1 fun z => .bl (allIn z signs)) := by
  refine mk F gm (fun _ _ _ _ _ _ us hl => match us, hl with | [_], _ => rfl) (fun _ _ _ _ _ _ us hl => match us, hl with | [_], _ => rfl) sc_is_plain (fun vs H Q E h => ?_) (fun cdv A outer s H vs Q E hr h => ?_)
  · obtain ⟨z, rfl, _⟩ := h
    rfl
  · obtain ⟨z, rfl, hz, q⟩ := h
    refine ⟨_, (pss_one (ps_ret (pe_and (pe_bm0 PySem.F.plainAttrs_str PySem.F.slot_str_isascii PySem.F.type_str_isascii mz_isascii (pv 0)) (pe_and (pe_bm0 PySem.F.plainAttrs_str PySem.F.slot_str_isprintable PySem.F.type_str_isprintable mz_isprint (pv 0)) (pe_one (pe_cmpR op_eq (pe_bm PySem.F.plainAttrs_str PySem.F.slot_str_translate PySem.F.type_str_translate (mz_trans rfl) (pv 0) (pa_cons (pe_disp (pps_cons pe_int pe_non pps_nil) (by rfl) (by rfl) (fun z => by cases z) (by decide)) pa_nil)) (pv 0) (nomark _))))))), ?_⟩
    refine s_ret (v := .bl (allIn z signs)) (ev_is (ev_andV (ev_isascii (ev_var rfl)) fun h1 => ev_andV (ev_isprint (ev_var rfl)) fun h2 => ev_op (ev_trans (ev_var rfl) ?_ hz) (ev_var rfl) rv_eqS) ?_) q
    · rw [isascii_tl] at h1
      exact fun c hc => of_decide_eq_true (List.all_eq_true.mp h1 c hc)
    · rw [plain_eq]
theorem ok_is_path (T : Mg mg) (c_consists_of : Call P w K mg base 1 "consists_of" ["text", "signs"] (sp2 fun z s => .bl (allIn z s))) (F : FnP K "is_path" s_is_path f fd) (gm : mg "is_path" = some (.ref f)) :
    Call P w K mg base 2 "is_path" ["text"] (sp1 fun z => .bl (pathB z)) := by
  refine mk F gm (fun _ _ _ _ _ _ us hl => match us, hl with | [_], _ => rfl) (fun _ _ _ _ _ _ us hl => match us, hl with | [_], _ => rfl) sc_is_path (fun vs H Q E h => ?_) (fun cdv A outer s H vs Q E hr h => ?_)
  · obtain ⟨z, rfl, _⟩ := h
    rfl
  · obtain ⟨z, rfl, hz, q⟩ := h
    refine ⟨_, (pss_one (ps_ret (pe_and (pe_chain op_le op_le pe_int (pe_callB cz_len (by rfl) T.len (by decide +kernel) (pa_cons (pv 0) pa_nil)) (pe_gc rfl T.MOST_PATH)) (pe_and (pe_cmpR op_eq (pe_ix ix_str (pv 0) pe_int (fun _ _ => rfl)) pe_str (nomark _)) (pe_one (pe_f c_consists_of hr (by decide) rfl (pa_cons (pv 0) (pa_cons (pe_gc rfl T.PATH_SIGNS) pa_nil)))))))), ?_⟩
    refine s_ret (v := .bl (pathB z)) (ev_andV (ev_chain ev_c (ev_lenStr (ev_var rfl) hz) ev_c) fun h1 => ?_) q
    obtain ⟨c, e1, e2⟩ := item0 (z := z) (by have := (pl h1).1; omega)
    have e3 : decide ((⟨#[c]⟩ : Str) = ("/" : Str)) = decide (hd z = some 47) := by
      rw [e1, show ("/" : Str) = ⟨#[47]⟩ by decide +kernel]
      by_cases h : c = 47
      · rw [h]; rfl
      · rw [decide_eq_false fun e => h ((one_eq _ _).mp e), decide_eq_false fun e => h (Option.some.inj e)]
    refine ev_andV (a := decide (hd z = some 47)) (ev_is (ev_op (ev_ixS (ev_var rfl) ev_c hz e2) ev_c rv_eqS) (congrArg V.bl e3)) fun h2 => ev_call (ea_cons (ev_var rfl) (ea_cons ev_c ea_nil)) (sv2 hz)
theorem ok_is_word (T : Mg mg) (c_consists_of : Call P w K mg base 1 "consists_of" ["text", "signs"] (sp2 fun z s => .bl (allIn z s))) (F : FnP K "is_word" s_is_word f fd) (gm : mg "is_word" = some (.ref f)) :
    Call P w K mg base 2 "is_word" ["text", "most"] (fun vs H Q _ => ∃ (z : Str) (m : Int), vs = [.str z, .int m] ∧ z.length ≤ 100000 ∧ RetV (.bl (wordB z m)) H Q) := by
  refine mk F gm (fun _ _ _ _ _ _ us hl => match us, hl with | [_, _], _ => rfl) (fun _ _ _ _ _ _ us hl => match us, hl with | [_, _], _ => rfl) sc_is_word (fun vs H Q E h => ?_) (fun cdv A outer s H vs Q E hr h => ?_)
  · obtain ⟨z, m, rfl, _⟩ := h
    rfl
  · obtain ⟨z, m, rfl, hz, q⟩ := h
    refine ⟨_, (pss_one (ps_ret (pe_and (pe_chain op_le op_le pe_int (pe_callB cz_len (by rfl) T.len (by decide +kernel) (pa_cons (pv 0) pa_nil)) (pv 1)) (pe_and (pe_cmpR op_inS (pe_ix ix_str (pv 0) pe_int (fun _ _ => rfl)) (pe_gc rfl T.LOWER) rfl) (pe_one (pe_f c_consists_of hr (by decide) rfl (pa_cons (pv 0) (pa_cons (pe_gc rfl T.WORD_SIGNS) pa_nil)))))))), ?_⟩
    refine s_ret (v := .bl (wordB z m)) (ev_andV (ev_chain ev_c (ev_lenStr (ev_var rfl) hz) (ev_var rfl)) fun h1 => ?_) q
    obtain ⟨c, e1, e2⟩ := item0 (z := z) (by have := (pl h1).1; omega)
    refine ev_andV (ev_is (ev_op (ev_ixS (ev_var rfl) ev_c hz e2) ev_c rv_in) ?_) fun h2 => ev_call (ea_cons (ev_var rfl) (ea_cons ev_c ea_nil)) (sv2 hz)
    unfold hdIn
    rw [e1]
theorem ok_is_field_name (T : Mg mg) (c_is_word : Call P w K mg base 2 "is_word" ["text", "most"] (fun vs H Q _ => ∃ (z : Str) (m : Int), vs = [.str z, .int m] ∧ z.length ≤ 100000 ∧ RetV (.bl (wordB z m)) H Q)) (F : FnP K "is_field_name" s_is_field_name f fd) (gm : mg "is_field_name" = some (.ref f)) :
    Call P w K mg base 3 "is_field_name" ["text"] (sp1 fun z => .bl (nameB z)) := by
  refine mk F gm (fun _ _ _ _ _ _ us hl => match us, hl with | [_], _ => rfl) (fun _ _ _ _ _ _ us hl => match us, hl with | [_], _ => rfl) sc_is_field_name (fun vs H Q E h => ?_) (fun cdv A outer s H vs Q E hr h => ?_)
  · obtain ⟨z, rfl, _⟩ := h
    rfl
  · obtain ⟨z, rfl, hz, q⟩ := h
    refine ⟨_, (pss_one (ps_ret (pe_and (pe_f c_is_word hr (by decide) rfl (pa_cons (pv 0) (pa_cons (pe_gc rfl T.MOST_NAME) pa_nil))) (pe_one (pe_cmpR op_ne (pv 0) pe_str (nomark _)))))), ?_⟩
    exact s_ret (v := .bl (nameB z)) (ev_andV (ev_call (ea_cons (ev_var rfl) (ea_cons ev_c ea_nil)) fun H1 e Q q E => ⟨z, 30, rfl, hz, q⟩) fun h1 => ev_op (ev_var rfl) ev_c rv_neS) q
theorem ok_is_value (T : Mg mg) (c_is_plain : Call P w K mg base 1 "is_plain" ["text"] (sp1 fun z => .bl (allIn z signs))) (F : FnP K "is_value" s_is_value f fd) (gm : mg "is_value" = some (.ref f)) :
    Call P w K mg base 2 "is_value" ["text"] (sp1 fun z => .bl (valueB z)) := by
  refine mk F gm (fun _ _ _ _ _ _ us hl => match us, hl with | [_], _ => rfl) (fun _ _ _ _ _ _ us hl => match us, hl with | [_], _ => rfl) sc_is_value (fun vs H Q E h => ?_) (fun cdv A outer s H vs Q E hr h => ?_)
  · obtain ⟨z, rfl, _⟩ := h
    rfl
  · obtain ⟨z, rfl, hz, q⟩ := h
    refine ⟨_, (pss_one (ps_ret (pe_and (pe_cmpR op_le (pe_callB cz_len (by rfl) T.len (by decide +kernel) (pa_cons (pv 0) pa_nil)) (pe_gc rfl T.MOST_VALUE) (nomark _)) (pe_and (pe_f c_is_plain hr (by decide) rfl (pa_cons (pv 0) pa_nil)) (pe_one (pe_cmpR op_eq (pe_bm PySem.F.plainAttrs_str PySem.F.slot_str_strip PySem.F.type_str_strip mz_strip (pv 0) (pa_cons pe_str pa_nil)) (pv 0) (nomark _))))))), ?_⟩
    exact s_ret (v := .bl (valueB z)) (ev_andV (ev_op (ev_lenStr (ev_var rfl) hz) ev_c rv_I0) fun h1 => ev_andV (ev_call (ea_cons (ev_var rfl) ea_nil) (sv1 hz)) fun h2 => ev_op (ev_strip (ev_var rfl) ev_c hz) (ev_var rfl) rv_eqS) q
end
end Z
set_option maxHeartbeats 2000000
namespace Z
open PySem PySem.Spec PyProof.Rows L2 TL Evl
theorem et_yes {σ : L2.St} {H : Hp} : EvT tYes σ H true := fun H1 e Q q => q H1 (Ex.refl H1)
theorem cut1_eq (z : Str) (c : Nat) : decide (cutS z none (some 1) = (⟨#[c]⟩ : Str)) = decide (hd z = some c) := by
  cases e : hd z with
  | none =>
    rw [cut1_nil e, decide_eq_false (show ¬ (none : Option Nat) = some c from fun h => nomatch h)]
    refine decide_eq_false fun h => ?_
    have := congrArg tl h
    rw [tl_empty] at this
    exact absurd this.symm (by show ¬ [c] = []; simp)
  | some d =>
    rw [cut1_one e]
    by_cases h : d = c
    · rw [h, decide_eq_true rfl, decide_eq_true rfl]
    · rw [decide_eq_false fun x => h ((one_eq _ _).mp x), decide_eq_false fun x => h (Option.some.inj x)]
theorem cut_len (z : Str) (a b : Option Int) : (cutS z a b).length ≤ z.length := cutS_length z a b
def rest (z : Str) : Str := cutS z (some 1) none
def readV (z : Str) : V := if hd z = some 45 then (if digB (rest z) = true ∧ rest z ≠ ("0" : Str) then .int (-((NumText.digitsVal (tl (rest z)) : Nat) : Int)) else .non) else numV z
theorem starts_minus (z : Str) : Txt.startswith z "-" = decide (hd z = some 45) := by
  have e45 : ("-" : Str) = ⟨#[45]⟩ := by decide +kernel
  unfold Txt.startswith Builtin.Str.subAt
  rw [e45]
  show (decide (0 + 1 ≤ z.length) && (z.cps.extract 0 (0 + 1) == #[45])) = _
  have hx : (z.cps.extract 0 (0 + 1) == #[45]) = decide ((tl z).take 1 = [45]) := by
    have : (z.cps.extract 0 (0 + 1)).toList = (tl z).take 1 := by simp [tl]
    by_cases h : (tl z).take 1 = [45]
    · rw [decide_eq_true h]
      refine beq_iff_eq.mpr (Array.toList_inj.mp ?_)
      rw [this, h]
    · rw [decide_eq_false h]
      refine beq_eq_false_iff_ne.mpr fun e => h ?_
      rw [← this, e]
  rw [hx, len_tl]
  unfold hd
  cases e : tl z with
  | nil => rfl
  | cons a r =>
    have h1 : 0 + 1 ≤ (a :: r).length := by rw [List.length_cons]; omega
    rw [decide_eq_true h1, Bool.true_and]
    show decide ([a] = [45]) = decide (some a = some 45)
    by_cases h : a = 45
    · rw [h]; rfl
    · rw [decide_eq_false fun e => h (by cases e; rfl), decide_eq_false fun e => h (Option.some.inj e)]
theorem zero_text {z : Str} (h : z.length = 1) (h48 : hd z = some 48) : z = ("0" : Str) := by
  refine ext_tl ?_
  have e : tl ("0" : Str) = [48] := by decide +kernel
  rw [e]
  unfold hd at h48
  rw [len_tl] at h
  cases q : tl z with
  | nil => rw [q] at h48; cases h48
  | cons a r =>
    rw [q] at h48 h
    cases h48
    cases r with
    | nil => rfl
    | cons b t => rw [List.length_cons, List.length_cons] at h; omega
theorem zero_len {z : Str} (h : z = ("0" : Str)) : z.length = 1 := by rw [h]; decide +kernel
section
variable {P : Program} {w : World} {K : PySem.W.Frag} {mg : Str → Option Value} {base : Heap} {f : Addr} {fd : FuncData} {k : Nat}
abbrev cons_ (P : Program) (w : World) (K : PySem.W.Frag) (mg : Str → Option Value) (base : Heap) : Prop := Call P w K mg base 1 "consists_of" ["text", "signs"] (sp2 fun z s => .bl (allIn z s))
theorem ok_list_elements (T : Mg mg) (F : FnP K "list_elements" s_list_elements f fd) (gm : mg "list_elements" = some (.ref f)) : Call P w K mg base 1 "list_elements" ["text"] (sp1L fun z => (elems z).map V.str) := by
  refine mk F gm (fun _ _ _ _ _ _ us hl => match us, hl with | [_], _ => rfl) (fun _ _ _ _ _ _ us hl => match us, hl with | [_], _ => rfl) sc_list_elements (fun vs H Q E h => ?_) (fun cdv A outer s H vs Q E hr h => ?_)
  · obtain ⟨z, rfl, _⟩ := h
    rfl
  · obtain ⟨z, rfl, hz, q⟩ := h
    refine ⟨_, (pss_cons (ps_setLc (i := 1) (own := [("part", 2)]) (g := gName 2) (tt := tYes) rfl sc_list_elements.nd rfl rfl (sw_true rfl rfl rfl (by decide +kernel)) (pi_list (pe_bm PySem.F.plainAttrs_str PySem.F.slot_str_split PySem.F.type_str_split mz_split (pv 0) (pa_cons pe_str pa_nil))) (blkOk_by (N := ["text", "parts", "part"]) (sc := L2.defScope s_list_elements) (by decide +kernel)) (fun _ _ _ _ _ => pg_name (i := 2) sc_list_elements.nd rfl (Or.inl rfl)) (fun _ _ _ _ _ => pts_nil) (fun _ _ _ _ _ => (inK (K := K) (t := fun K => tBM K "str" rStrip _ _) rfl (pe_bm PySem.F.plainAttrs_str PySem.F.slot_str_strip PySem.F.type_str_strip mz_strip (pv 2) (pa_cons pe_str pa_nil)))))
    (pss_one (ps_ret (pe_lc (own := [("part", 2)]) (g := gName 2) rfl sc_list_elements.nd (pi_list (pv 1)) (blkOk_by (N := ["text", "parts", "part"]) (sc := L2.defScope s_list_elements) (by decide +kernel)) (fun _ _ _ _ _ => pg_name (i := 2) sc_list_elements.nd rfl (Or.inl rfl)) (fun _ _ _ _ _ => pts_one (pt_cmpR op_ne (pv 2) pe_str (nomark _))) (fun _ _ _ _ _ => (pv 2)))))), ?_⟩
    have hsl := split_len z
    refine q_asgL (xs := (stripped z).map V.str) ?_ fun p H1 np e1 h1 => ?_
    · have e : given ((Txt.split z ",").map V.str).length (fun _ => true) (fun i => .str (Txt.stripChars ((Txt.split z ",").getD i "") " ")) = (stripped z).map V.str := by
        rw [List.length_map]
        have := given_all (Txt.split z ",") ("" : Str) (fun _ => true) (fun p => .str (Txt.stripChars p " "))
        rw [this]
        unfold stripped
        rw [List.map_map]
        have : (Txt.split z ",").filter (fun _ => true) = Txt.split z "," := List.filter_eq_self.mpr fun _ _ => rfl
        rw [this]
        rfl
      rw [← e]
      refine el_lcNL (fun _ => true) (fun i => .str (Txt.stripChars ((Txt.split z ",").getD i "") " ")) (el_split (ev_var rfl) ev_c (by decide +kernel) (by omega)) (by rw [List.length_map]; omega) (fun _ => rfl) (fun i x H1 e hx => et_yes) (fun i x H1 e hx _ => ?_)
      obtain ⟨hi, ex, hm⟩ := at_str hx ("" : Str)
      subst ex
      exact ev_strip (ev_var rfl) ev_c (by have := split_each hm; omega)
    · have e : given ((stripped z).map V.str).length (fun i => !decide ((stripped z).getD i "" = ("" : Str))) (fun i => .str ((stripped z).getD i "")) = (elems z).map V.str := by
        rw [List.length_map]
        exact given_all (stripped z) ("" : Str) (fun p => !decide (p = ("" : Str))) V.str
      have hlen : (stripped z).length ≤ 20000 := by
        unfold stripped
        rw [List.length_map]
        omega
      refine s_retL (xs := (elems z).map V.str) ?_ fun p2 H2 np2 e2 h2 => q p2 H2 (fresh_back e1 np2) (e1.trans e2) h2
      rw [← e]
      refine el_lcL (fun i => !decide ((stripped z).getD i "" = ("" : Str))) (fun i => .str ((stripped z).getD i "")) (ev_var rfl) (sq_of h1) (by rw [List.length_map]; omega) (fun _ => rfl) (fun i x H1 e hx => ?_) (fun i x H1 e hx _ => ?_)
      · obtain ⟨hi, ex, hm⟩ := at_str hx ("" : Str)
        subst ex
        exact et_test (ev_op (ev_var rfl) ev_c rv_neS)
      · obtain ⟨hi, ex, hm⟩ := at_str hx ("" : Str)
        subst ex
        exact ev_var rfl
theorem ok_read_number (T : Mg mg) (c_consists_of : cons_ P w K mg base) (F : FnP K "read_number" s_read_number f fd) (gm : mg "read_number" = some (.ref f)) : Call P w K mg base 2 "read_number" ["text"] (sp1 numV) := by
  refine mk F gm (fun _ _ _ _ _ _ us hl => match us, hl with | [_], _ => rfl) (fun _ _ _ _ _ _ us hl => match us, hl with | [_], _ => rfl) sc_read_number (fun vs H Q E h => ?_) (fun cdv A outer s H vs Q E hr h => ?_)
  · obtain ⟨z, rfl, _⟩ := h
    rfl
  · obtain ⟨z, rfl, hz, q⟩ := h
    refine ⟨_, (pss_cons (ps_if (PW.pt (pw_or (pt_not (pt_chain op_le op_le pe_int (pe_callB cz_len (by rfl) T.len (by decide +kernel) (pa_cons (pv 0) pa_nil)) (pe_gc rfl T.MOST_DIGITS))) (pw_or1 (pt_not (pt_val (pe_f c_consists_of hr (by decide) rfl (pa_cons (pv 0) (pa_cons (pe_gc rfl T.DIGITS) pa_nil))))))))
      (pss_one (ps_ret pe_non))
      pss_nil)
    (pss_cons (ps_if (PW.pt (pw_and (pt_cmpR op_eq (pe_ix ix_str (pv 0) pe_int (fun _ _ => rfl)) pe_str (nomark _)) (pw_and1 (pt_cmpR op_ne (pv 0) pe_str (nomark _)))))
      (pss_one (ps_ret pe_non))
      pss_nil)
    (pss_one (ps_ret (pe_callTy cz_int (by rfl) T.int (by decide +kernel) (pa_cons (pv 0) pa_nil)))))), ?_⟩
    refine q_when (et_or (et_not (et_test (ev_chain ev_c (ev_lenStr (ev_var rfl) hz) ev_c))) fun _ => et_not (et_B (ev_call (ea_cons (ev_var rfl) (ea_cons ev_c ea_nil)) (sv2 hz)))) (fun hb H1 e1 => ?_) (fun hb H1 e1 => ?_)
    · refine s_ret ev_c fun H2 e2 => ?_
      have : numV z = .non := by
        unfold numV digB
        rw [if_neg]
        intro h
        rw [Bool.and_eq_true, Bool.and_eq_true] at h
        rw [show (decide ((1 : Int) ≤ z.length) && decide ((z.length : Int) ≤ 6)) = true by rw [Bool.and_eq_true]; exact h.1, (Bool.and_eq_true_iff.mp h.2).1] at hb
        cases hb
      have g := q H2 (e1.trans e2)
      rw [this] at g
      exact g
    · rw [Bool.or_eq_false_iff, Bool.not_eq_false', Bool.not_eq_false'] at hb
      obtain ⟨hc, ha⟩ := hb
      have hl := pl hc
      obtain ⟨c, g1, g2⟩ := item0 (z := z) (by omega)
      have e3 : decide ((⟨#[c]⟩ : Str) = ("0" : Str)) = decide (hd z = some 48) := by
        rw [g1, show ("0" : Str) = ⟨#[48]⟩ by decide +kernel]
        by_cases h : c = 48
        · rw [h]; rfl
        · rw [decide_eq_false fun e => h ((one_eq _ _).mp e), decide_eq_false fun e => h (Option.some.inj e)]
      refine q_when (b := decide (hd z = some 48) && !decide (z = ("0" : Str))) (et_and (et_is (et_test (ev_op (ev_ixS (ev_var rfl) ev_c hz g2) ev_c rv_eqS)) e3) fun _ => et_test (ev_op (ev_var rfl) ev_c rv_neS)) (fun hb H2 e2 => ?_) (fun hb H2 e2 => ?_)
      · rw [Bool.and_eq_true, decide_eq_true_eq, Bool.not_eq_true', decide_eq_false_iff_not] at hb
        refine s_ret ev_c fun H3 e3 => ?_
        have : numV z = .non := by
          unfold numV digB
          rw [if_neg]
          intro h
          have h := (Bool.and_eq_true_iff.mp (Bool.and_eq_true_iff.mp h).2).2
          rw [Bool.or_eq_true, decide_eq_true_eq, Bool.not_eq_true', decide_eq_false_iff_not] at h
          rcases h with h | h
          · exact hb.2 (zero_text (by omega) hb.1)
          · exact h hb.1
        have g := q H3 ((e1.trans e2).trans e3)
        rw [this] at g
        exact g
      · have hd1 : digB z = true := by
          unfold digB
          rw [hc, ha, Bool.true_and, Bool.true_and, Bool.or_eq_true, decide_eq_true_eq, Bool.not_eq_true', decide_eq_false_iff_not]
          rw [Bool.and_eq_false_iff, decide_eq_false_iff_not, Bool.not_eq_false', decide_eq_true_eq] at hb
          rcases hb with hb | hb
          · exact .inr hb
          · have := zero_len hb
            exact .inl (by omega)
        refine s_ret (v := numV z) (ev_is (ev_intStr (ev_var rfl) (int_digits ha (by omega) (by omega)) (by omega)) ?_) fun H3 e3 => q H3 ((e1.trans e2).trans e3)
        unfold numV
        rw [if_pos hd1]
end
end Z
set_option maxHeartbeats 2000000
namespace Z
open PySem PySem.Spec PyProof.Rows L2 TL Evl
open NumText in
theorem fold_mono : ∀ (l : List Nat) (a : Nat), 1 ≤ a → 1 ≤ l.foldl (fun acc c => acc * 10 + (c - 48)) a
  | [], a, h => h
  | c :: r, a, h => fold_mono r (a * 10 + (c - 48)) (by omega)
open NumText in
theorem val_pos {z : Str} (hb : digB z = true) (h0 : z ≠ ("0" : Str)) : 1 ≤ digitsVal (tl z) := by
  unfold digB at hb
  obtain ⟨h1, h2⟩ := Bool.and_eq_true_iff.mp hb
  obtain ⟨h3, h4⟩ := Bool.and_eq_true_iff.mp h2
  have hl := pl h1
  have hall := digits_all h3
  have hne : hd z ≠ some 48 := by
    intro h48
    rw [Bool.or_eq_true, decide_eq_true_eq, Bool.not_eq_true', decide_eq_false_iff_not] at h4
    rcases h4 with h | h
    · exact h0 (zero_text (by omega) h48)
    · exact h h48
  unfold hd at hne
  cases q : tl z with
  | nil =>
    have := len_tl z
    rw [q] at this
    have e : ([] : List Nat).length = 0 := rfl
    omega
  | cons c r =>
    rw [q] at hne hall
    have hc := hall c List.mem_cons_self
    have : c ≠ 48 := fun e => hne (by rw [e]; rfl)
    show 1 ≤ (c :: r).foldl (fun acc c => acc * 10 + (c - 48)) 0
    rw [List.foldl_cons]
    exact fold_mono r _ (by omega)
theorem val_zero : NumText.digitsVal (tl ("0" : Str)) = 0 := by decide +kernel
theorem rest_len (z : Str) : (rest z).length ≤ z.length := cut_len z _ _
theorem minus_nodig {z : Str} (h : hd z = some 45) : digB z = false := by
  cases e : digB z with
  | false => rfl
  | true =>
    exfalso
    unfold digB at e
    obtain ⟨h1, h2⟩ := Bool.and_eq_true_iff.mp e
    obtain ⟨h3, h4⟩ := Bool.and_eq_true_iff.mp h2
    have hall := digits_all h3
    unfold hd at h
    cases q : tl z with
    | nil => rw [q] at h; cases h
    | cons c r =>
      rw [q] at h hall
      cases h
      have := hall 45 List.mem_cons_self
      omega
theorem minus_zero {z : Str} (h : hd z = some 45) : decide (z = ("-0" : Str)) = decide (rest z = ("0" : Str)) := by
  have e0 : tl ("-0" : Str) = [45, 48] := by decide +kernel
  have e1 : tl ("0" : Str) = [48] := by decide +kernel
  have er : tl (rest z) = (tl z).drop 1 := cutFrom1_tl z
  unfold hd at h
  by_cases hz : z = ("-0" : Str)
  · rw [decide_eq_true hz]
    symm
    refine decide_eq_true (ext_tl ?_)
    rw [er, e1, hz, e0]
    rfl
  · rw [decide_eq_false hz]
    symm
    refine decide_eq_false fun hr => hz (ext_tl ?_)
    rw [hr, e1] at er
    cases q : tl z with
    | nil => rw [q] at h; cases h
    | cons c r =>
      rw [q] at h er
      cases h
      have er : [48] = r := er
      rw [← er, e0]
theorem numV_form (z : Str) : (digB z = true ∧ numV z = .int ((NumText.digitsVal (tl z) : Nat) : Int)) ∨ (digB z = false ∧ numV z = .non) := by
  unfold numV
  cases h : digB z with
  | true => exact .inl ⟨rfl, if_pos rfl⟩
  | false => exact .inr ⟨rfl, if_neg (by decide)⟩
section
variable {P : Program} {w : World} {K : PySem.W.Frag} {mg : Str → Option Value} {base : Heap} {f : Addr} {fd : FuncData} {k : Nat}
abbrev C1 (P : Program) (w : World) (K : PySem.W.Frag) (mg : Str → Option Value) (base : Heap) (k : Nat) (x : Str) (f : Str → V) : Prop := Call P w K mg base k x ["text"] (sp1 f)
theorem ok_read_reading (T : Mg mg) (c_read_number : C1 P w K mg base 2 "read_number" numV) (F : FnP K "read_reading" s_read_reading f fd) (gm : mg "read_reading" = some (.ref f)) : C1 P w K mg base 3 "read_reading" readV := by
  refine mk F gm (fun _ _ _ _ _ _ us hl => match us, hl with | [_], _ => rfl) (fun _ _ _ _ _ _ us hl => match us, hl with | [_], _ => rfl) sc_read_reading (fun vs H Q E h => ?_) (fun cdv A outer s H vs Q E hr h => ?_)
  · obtain ⟨z, rfl, _⟩ := h
    rfl
  · obtain ⟨z, rfl, hz, q⟩ := h
    refine ⟨_, (pss_cons (ps_if (pt_not (pt_val (pe_bm PySem.F.plainAttrs_str PySem.F.slot_str_startswith PySem.F.type_str_startswith mz_starts (pv 0) (pa_cons pe_str pa_nil))))
      (pss_one (ps_ret (pe_f c_read_number hr (by decide) rfl (pa_cons (pv 0) pa_nil))))
      pss_nil)
    (pss_cons (ps_set (i := 1) sc_read_reading.nd rfl (Or.inl rfl) (pe_f c_read_number hr (by decide) rfl (pa_cons (pe_slice sl_str (pv 0) (po_some pe_int) po_none) pa_nil)))
    (pss_cons (ps_if (PW.pt (pw_or (pt_cmpR op_isN1 (pv 1) pe_non (nomark _)) (pw_or1 (pt_cmpR op_eq (pv 1) pe_int (nomark _)))))
      (pss_one (ps_ret pe_non))
      pss_nil)
    (pss_one (ps_ret (pe_un un_neg (pv 1))))))), ?_⟩
    refine q_when (et_is (et_not (et_B (ev_starts (ev_var rfl) ev_c))) (congrArg (!·) (starts_minus z))) (fun hb H1 e1 => ?_) (fun hb H1 e1 => ?_)
    · rw [Bool.not_eq_true', decide_eq_false_iff_not] at hb
      refine s_ret (v := readV z) (ev_is (ev_call (ea_cons (ev_var rfl) ea_nil) (sv1 hz)) ?_) fun H2 e2 => q H2 (e1.trans e2)
      unfold readV
      rw [if_neg hb]
    · rw [Bool.not_eq_false', decide_eq_true_eq] at hb
      have hrl := rest_len z
      refine q_asg (v := numV (rest z)) (ev_call (ea_cons (ev_slS (ev_var rfl) (eo_some ev_c) eo_none hz) ea_nil) (sv1 (z := rest z) (by omega))) fun H2 e2 => ?_
      rcases numV_form (rest z) with ⟨g1, g2⟩ | ⟨g1, g2⟩
      · rw [g2]
        by_cases hv : NumText.digitsVal (tl (rest z)) = 0
        · refine q_when (b := true) (et_is (et_or (et_test (ev_op (ev_var rfl) ev_c rv_isN)) fun _ => et_test (ev_op (ev_var rfl) ev_c rv_eqI)) ?_) (fun _ H3 e3 => ?_) (fun h => nomatch h)
          · rw [hv]; rfl
          · refine s_ret (v := readV z) (ev_is ev_c ?_) fun H4 e4 => q H4 (((e1.trans e2).trans e3).trans e4)
            unfold readV
            rw [if_pos hb, if_neg]
            intro h
            have := val_pos h.1 h.2
            omega
        · refine q_when (b := false) (et_is (et_or (et_test (ev_op (ev_var rfl) ev_c rv_isN)) fun _ => et_test (ev_op (ev_var rfl) ev_c rv_eqI)) ?_) (fun h => nomatch h) (fun _ H3 e3 => ?_)
          · rw [decide_eq_false (show ¬ ((NumText.digitsVal (tl (rest z)) : Nat) : Int) = 0 by omega)]
            rfl
          · refine s_ret (v := readV z) (ev_is (ev_un (ev_var rfl) ru_neg) ?_) fun H4 e4 => q H4 (((e1.trans e2).trans e3).trans e4)
            unfold readV
            rw [if_pos hb, if_pos]
            exact ⟨g1, fun e => hv (by rw [e]; exact val_zero)⟩
      · rw [g2]
        refine q_when (b := true) (et_is (et_or (a := true) (et_is (et_test (ev_op (ev_var rfl) ev_c rv_isN)) rfl) fun h => nomatch h) (Bool.true_or false)) (fun _ H3 e3 => ?_) (fun h => nomatch h)
        refine s_ret (v := readV z) (ev_is ev_c ?_) fun H4 e4 => q H4 (((e1.trans e2).trans e3).trans e4)
        unfold readV
        rw [if_pos hb, if_neg]
        intro h
        rw [g1] at h
        exact nomatch h.1
/-! ### the law's own reading -/
def letters : Str := "abcdefghijklmnopqrstuvwxyz"
theorem ok_law_letters (T : Mg mg) (F : FnP K "_law_letters" s_law_letters f fd) (gm : mg "_law_letters" = some (.ref f)) : Call P w K mg base 1 "_law_letters" [] (sp0 (.str letters)) := by
  refine mk F gm (fun _ _ _ _ _ _ us hl => match us, hl with | [], _ => rfl) (fun _ _ _ _ _ _ us hl => match us, hl with | [], _ => rfl) sc_law_letters (fun vs H Q E h => ?_) (fun cdv A outer s H vs Q E hr h => ?_)
  · obtain ⟨rfl, _⟩ := h
    rfl
  · obtain ⟨rfl, q⟩ := h
    refine ⟨_, (pss_one (ps_ret pe_str)), ?_⟩
    exact s_ret (v := .str letters) ev_c q
theorem ok_law_signs (T : Mg mg) (F : FnP K "_law_signs" s_law_signs f fd) (gm : mg "_law_signs" = some (.ref f)) : Call P w K mg base 1 "_law_signs" [] (sp0 (.str signs)) := by
  refine mk F gm (fun _ _ _ _ _ _ us hl => match us, hl with | [], _ => rfl) (fun _ _ _ _ _ _ us hl => match us, hl with | [], _ => rfl) sc_law_signs (fun vs H Q E h => ?_) (fun cdv A outer s H vs Q E hr h => ?_)
  · obtain ⟨rfl, _⟩ := h
    rfl
  · obtain ⟨rfl, q⟩ := h
    refine ⟨_, (pss_cons (ps_set (i := 0) sc_law_signs.nd rfl (Or.inl rfl) pe_str)
    (pss_one (ps_ret (pe_op oz_add (pv 0) pe_str)))), ?_⟩
    exact q_asg ev_c fun H1 e1 => s_ret (v := .str signs) (ev_op (ev_var rfl) ev_c (rv_addS (by decide +kernel))) fun H2 e2 => q H2 (e1.trans e2)
theorem ok_law_all_in (T : Mg mg) (F : FnP K "_law_all_in" s_law_all_in f fd) (gm : mg "_law_all_in" = some (.ref f)) : Call P w K mg base 1 "_law_all_in" ["text", "signs"] (sp2 fun z s => .bl (allIn z s)) := by
  refine mk F gm (fun _ _ _ _ _ _ us hl => match us, hl with | [_, _], _ => rfl) (fun _ _ _ _ _ _ us hl => match us, hl with | [_, _], _ => rfl) sc_law_all_in (fun vs H Q E h => ?_) (fun cdv A outer s H vs Q E hr h => ?_)
  · obtain ⟨z, s, rfl, _⟩ := h
    rfl
  · obtain ⟨z, s, rfl, hz, q⟩ := h
    refine ⟨_, (pss_cons (ps_for PassesOwn.never rfl (pi_str (pv 0)) (pg_name (i := 2) sc_law_all_in.nd rfl (Or.inl rfl))
      (pss_one (ps_if (pt_cmpR op_notInS (pv 2) (pv 1) rfl)
        (pss_one (ps_ret pe_bl))
        pss_nil)))
    (pss_one (ps_ret pe_bl))), ?_⟩
    refine q_forS (w := z) (ev_var rfl) (fun i σ' H' => (∃ v, σ' = [some (.str z), some (.str s), v]) ∧ Ex H H' ∧ ((tl z).take i).all (fun c => decide (c ∈ tl s)) = true) (fun H1 e1 => ⟨⟨none, rfl⟩, e1, rfl⟩) (fun i c σ' H' hi p => ?_) (fun σ' H' p => ?_)
    · obtain ⟨⟨v, rfl⟩, e1, hp⟩ := p
      refine s_when (et_test (ev_op (ev_var rfl) (ev_var rfl) rv_notin)) (fun hb H1 e2 => ?_) (fun hb H1 e2 => ?_)
      · refine s_ret (v := .bl (allIn z s)) (ev_is ev_c ?_) fun H2 e3 => q H2 ((e1.trans e2).trans e3)
        rw [Bool.not_eq_true', decide_eq_false_iff_not] at hb
        cases e : allIn z s with
        | false => rfl
        | true => exact absurd (of_decide_eq_true (List.all_eq_true.mp e c (List.mem_of_getElem? hi))) hb
      · refine ⟨⟨_, rfl⟩, e1.trans e2, ?_⟩
        rw [Bool.not_eq_false'] at hb
        rw [List.take_add_one, hi, List.all_append, hp]
        show (true && (decide (c ∈ tl s) && true)) = true
        rw [hb]
        rfl
    · obtain ⟨⟨v, rfl⟩, e1, hp⟩ := p
      rw [List.take_length] at hp
      refine s_ret (v := .bl (allIn z s)) (ev_is ev_c ?_) fun H2 e3 => q H2 (e1.trans e3)
      unfold allIn
      rw [hp]
theorem ok_law_is_path (T : Mg mg) (c_law_letters : Call P w K mg base 1 "_law_letters" [] (sp0 (.str letters))) (c_law_all_in : Call P w K mg base 1 "_law_all_in" ["text", "signs"] (sp2 fun z s => .bl (allIn z s))) (F : FnP K "_law_is_path" s_law_is_path f fd) (gm : mg "_law_is_path" = some (.ref f)) : C1 P w K mg base 2 "_law_is_path" fun z => .bl (pathB z) := by
  refine mk F gm (fun _ _ _ _ _ _ us hl => match us, hl with | [_], _ => rfl) (fun _ _ _ _ _ _ us hl => match us, hl with | [_], _ => rfl) sc_law_is_path (fun vs H Q E h => ?_) (fun cdv A outer s H vs Q E hr h => ?_)
  · obtain ⟨z, rfl, _⟩ := h
    rfl
  · obtain ⟨z, rfl, hz, q⟩ := h
    refine ⟨_, (pss_cons (ps_set (i := 1) sc_law_is_path.nd rfl (Or.inl rfl) (pe_op oz_add (pe_f0 c_law_letters hr (by decide) rfl) pe_str))
    (pss_one (ps_ret (pe_and (pe_chain op_le op_le pe_int (pe_callB cz_len (by rfl) T.len (by decide +kernel) (pa_cons (pv 0) pa_nil)) pe_int) (pe_and (pe_cmpR op_eq (pe_slice sl_str (pv 0) po_none (po_some pe_int)) pe_str (nomark _)) (pe_one (pe_f c_law_all_in hr (by decide) rfl (pa_cons (pv 0) (pa_cons (pv 1) pa_nil))))))))), ?_⟩
    refine q_asg (ev_op (ev_call ea_nil sv0) ev_c (rv_addS (by decide +kernel))) fun H1 e1 => ?_
    refine s_ret (v := .bl (pathB z)) (ev_is (ev_andV (ev_chain ev_c (ev_lenStr (ev_var rfl) hz) ev_c) fun h1 => ev_andV (ev_op (ev_slS (ev_var rfl) eo_none (eo_some ev_c) hz) ev_c rv_eqS) fun h2 => ev_call (ea_cons (ev_var rfl) (ea_cons (ev_var rfl) ea_nil)) (sv2 hz)) ?_) fun H2 e2 => q H2 (e1.trans e2)
    have es : letters ++ ("0123456789/-." : Str) = ("abcdefghijklmnopqrstuvwxyz0123456789/-." : Str) := by decide +kernel
    rw [es, show ("/" : Str) = ⟨#[47]⟩ by decide +kernel, cut1_eq]
    rfl
theorem ok_law_is_name (T : Mg mg) (c_law_letters : Call P w K mg base 1 "_law_letters" [] (sp0 (.str letters))) (c_law_all_in : Call P w K mg base 1 "_law_all_in" ["text", "signs"] (sp2 fun z s => .bl (allIn z s))) (F : FnP K "_law_is_name" s_law_is_name f fd) (gm : mg "_law_is_name" = some (.ref f)) : C1 P w K mg base 2 "_law_is_name" fun z => .bl (nameB z) := by
  refine mk F gm (fun _ _ _ _ _ _ us hl => match us, hl with | [_], _ => rfl) (fun _ _ _ _ _ _ us hl => match us, hl with | [_], _ => rfl) sc_law_is_name (fun vs H Q E h => ?_) (fun cdv A outer s H vs Q E hr h => ?_)
  · obtain ⟨z, rfl, _⟩ := h
    rfl
  · obtain ⟨z, rfl, hz, q⟩ := h
    refine ⟨_, (pss_cons (ps_if (PW.pt (pw_or (pt_cmpR op_eq (pv 0) pe_str (nomark _)) (pw_or1 (pt_not (pt_chain op_le op_le pe_int (pe_callB cz_len (by rfl) T.len (by decide +kernel) (pa_cons (pv 0) pa_nil)) pe_int)))))
      (pss_one (ps_ret pe_bl))
      pss_nil)
    (pss_one (ps_ret (pe_and (pe_cmpR op_inS (pe_slice sl_str (pv 0) po_none (po_some pe_int)) (pe_f0 c_law_letters hr (by decide) rfl) rfl) (pe_one (pe_f c_law_all_in hr (by decide) rfl (pa_cons (pv 0) (pa_cons (pe_op oz_add (pe_f0 c_law_letters hr (by decide) rfl) pe_str) pa_nil)))))))), ?_⟩
    refine q_when (et_or (et_test (ev_op (ev_var rfl) ev_c rv_eqS)) fun _ => et_not (et_test (ev_chain ev_c (ev_lenStr (ev_var rfl) hz) ev_c))) (fun hb H1 e1 => ?_) (fun hb H1 e1 => ?_)
    · refine s_ret (v := .bl (nameB z)) (ev_is ev_c ?_) fun H2 e2 => q H2 (e1.trans e2)
      unfold nameB wordB
      rw [Bool.or_eq_true, Bool.not_eq_true'] at hb
      rcases hb with h | h
      · rw [h]
        cases (decide ((1 : Int) ≤ z.length) && decide ((z.length : Int) ≤ 30)) && (hdIn z "abcdefghijklmnopqrstuvwxyz" && allIn z "abcdefghijklmnopqrstuvwxyz0123456789-") <;> rfl
      · rw [h]
        rfl
    · rw [Bool.or_eq_false_iff, Bool.not_eq_false'] at hb
      obtain ⟨h0, h1⟩ := hb
      obtain ⟨c, g1, g2⟩ := hd_some (z := z) (by have := (pl h1).1; omega)
      have ec := cut1_one g1
      have es : letters ++ ("0123456789-" : Str) = ("abcdefghijklmnopqrstuvwxyz0123456789-" : Str) := by decide +kernel
      refine s_ret (v := .bl (nameB z)) (ev_is (ev_andV (ev_op (ev_is (ev_slS (ev_var rfl) eo_none (eo_some ev_c) hz) (congrArg V.str ec)) (ev_call ea_nil sv0) rv_in) fun h2 => ev_call (ea_cons (ev_var rfl) (ea_cons (ev_op (ev_call ea_nil sv0) ev_c (rv_addS (by decide +kernel))) ea_nil)) (sv2 hz)) ?_) fun H2 e2 => q H2 (e1.trans e2)
      unfold nameB wordB hdIn
      rw [h0, h1, g1, es]
      show V.bl (decide (c ∈ tl letters) && _) = V.bl ((true && (decide (c ∈ tl letters) && _)) && true)
      rw [Bool.true_and, Bool.and_true]
theorem ok_law_is_value (T : Mg mg) (c_law_signs : Call P w K mg base 1 "_law_signs" [] (sp0 (.str signs))) (c_law_all_in : Call P w K mg base 1 "_law_all_in" ["text", "signs"] (sp2 fun z s => .bl (allIn z s))) (F : FnP K "_law_is_value" s_law_is_value f fd) (gm : mg "_law_is_value" = some (.ref f)) : C1 P w K mg base 2 "_law_is_value" fun z => .bl (valueB z) := by
  refine mk F gm (fun _ _ _ _ _ _ us hl => match us, hl with | [_], _ => rfl) (fun _ _ _ _ _ _ us hl => match us, hl with | [_], _ => rfl) sc_law_is_value (fun vs H Q E h => ?_) (fun cdv A outer s H vs Q E hr h => ?_)
  · obtain ⟨z, rfl, _⟩ := h
    rfl
  · obtain ⟨z, rfl, hz, q⟩ := h
    refine ⟨_, (pss_one (ps_ret (pe_and (pe_cmpR op_le (pe_callB cz_len (by rfl) T.len (by decide +kernel) (pa_cons (pv 0) pa_nil)) pe_int (nomark _)) (pe_and (pe_cmpR op_eq (pv 0) (pe_bm PySem.F.plainAttrs_str PySem.F.slot_str_strip PySem.F.type_str_strip mz_strip (pv 0) (pa_cons pe_str pa_nil)) (nomark _)) (pe_one (pe_f c_law_all_in hr (by decide) rfl (pa_cons (pv 0) (pa_cons (pe_f0 c_law_signs hr (by decide) rfl) pa_nil)))))))), ?_⟩
    refine s_ret (v := .bl (valueB z)) (ev_is (ev_andV (ev_op (ev_lenStr (ev_var rfl) hz) ev_c rv_I0) fun h1 => ev_andV (ev_op (ev_var rfl) (ev_strip (ev_var rfl) ev_c hz) rv_eqS) fun h2 => ev_call (ea_cons (ev_var rfl) (ea_cons (ev_call ea_nil sv0) ea_nil)) (sv2 hz)) ?_) q
    unfold valueB
    have : decide (z = Txt.stripChars z " ") = decide (Txt.stripChars z " " = z) := by
      by_cases h : z = Txt.stripChars z " "
      · rw [decide_eq_true h, decide_eq_true h.symm]
      · rw [decide_eq_false h, decide_eq_false fun e => h e.symm]
    rw [this, Bool.and_comm (allIn z signs)]
theorem ok_law_digits (T : Mg mg) (c_law_all_in : Call P w K mg base 1 "_law_all_in" ["text", "signs"] (sp2 fun z s => .bl (allIn z s))) (F : FnP K "_law_digits" s_law_digits f fd) (gm : mg "_law_digits" = some (.ref f)) : C1 P w K mg base 2 "_law_digits" fun z => .bl (digB z) := by
  refine mk F gm (fun _ _ _ _ _ _ us hl => match us, hl with | [_], _ => rfl) (fun _ _ _ _ _ _ us hl => match us, hl with | [_], _ => rfl) sc_law_digits (fun vs H Q E h => ?_) (fun cdv A outer s H vs Q E hr h => ?_)
  · obtain ⟨z, rfl, _⟩ := h
    rfl
  · obtain ⟨z, rfl, hz, q⟩ := h
    refine ⟨_, (pss_cons (ps_if (PW.pt (pw_or (pt_not (pt_chain op_le op_le pe_int (pe_callB cz_len (by rfl) T.len (by decide +kernel) (pa_cons (pv 0) pa_nil)) pe_int)) (pw_or1 (pt_not (pt_val (pe_f c_law_all_in hr (by decide) rfl (pa_cons (pv 0) (pa_cons pe_str pa_nil))))))))
      (pss_one (ps_ret pe_bl))
      pss_nil)
    (pss_one (ps_ret (pe_or (pe_cmpR op_eq (pe_callB cz_len (by rfl) T.len (by decide +kernel) (pa_cons (pv 0) pa_nil)) pe_int (nomark _)) (pe_one (pe_cmpR op_ne (pe_slice sl_str (pv 0) po_none (po_some pe_int)) pe_str (nomark _))))))), ?_⟩
    refine q_when (et_or (et_not (et_test (ev_chain ev_c (ev_lenStr (ev_var rfl) hz) ev_c))) fun _ => et_not (et_B (ev_call (ea_cons (ev_var rfl) (ea_cons ev_c ea_nil)) (sv2 hz)))) (fun hb H1 e1 => ?_) (fun hb H1 e1 => ?_)
    · refine s_ret (v := .bl (digB z)) (ev_is ev_c ?_) fun H2 e2 => q H2 (e1.trans e2)
      unfold digB
      rw [Bool.or_eq_true, Bool.not_eq_true', Bool.not_eq_true'] at hb
      rcases hb with h | h
      · rw [h]; rfl
      · rw [h]
        cases (decide ((1 : Int) ≤ z.length) && decide ((z.length : Int) ≤ 6)) <;> rfl
    · rw [Bool.or_eq_false_iff, Bool.not_eq_false', Bool.not_eq_false'] at hb
      refine s_ret (v := .bl (digB z)) (ev_is (ev_orV (ev_op (ev_lenStr (ev_var rfl) hz) ev_c rv_eqI) fun h2 => ev_op (ev_slS (ev_var rfl) eo_none (eo_some ev_c) hz) ev_c rv_neS) ?_) fun H2 e2 => q H2 (e1.trans e2)
      unfold digB
      rw [hb.1, hb.2, show ("0" : Str) = ⟨#[48]⟩ by decide +kernel, cut1_eq]
      rfl
theorem ok_law_number (T : Mg mg) (c_law_digits : C1 P w K mg base 2 "_law_digits" fun z => .bl (digB z)) (F : FnP K "_law_number" s_law_number f fd) (gm : mg "_law_number" = some (.ref f)) : C1 P w K mg base 3 "_law_number" numV := by
  refine mk F gm (fun _ _ _ _ _ _ us hl => match us, hl with | [_], _ => rfl) (fun _ _ _ _ _ _ us hl => match us, hl with | [_], _ => rfl) sc_law_number (fun vs H Q E h => ?_) (fun cdv A outer s H vs Q E hr h => ?_)
  · obtain ⟨z, rfl, _⟩ := h
    rfl
  · obtain ⟨z, rfl, hz, q⟩ := h
    refine ⟨_, (pss_cons (ps_if (pt_val (pe_f c_law_digits hr (by decide) rfl (pa_cons (pv 0) pa_nil)))
      (pss_one (ps_ret (pe_callTy cz_int (by rfl) T.int (by decide +kernel) (pa_cons (pv 0) pa_nil))))
      pss_nil)
    (pss_one (ps_ret pe_non))), ?_⟩
    refine q_when (et_B (ev_call (ea_cons (ev_var rfl) ea_nil) (sv1 hz))) (fun hb H1 e1 => ?_) (fun hb H1 e1 => ?_)
    · obtain ⟨h1, h2⟩ := Bool.and_eq_true_iff.mp hb
      have hl := pl h1
      refine s_ret (v := numV z) (ev_is (ev_intStr (ev_var rfl) (int_digits (Bool.and_eq_true_iff.mp h2).1 (by omega) (by omega)) (by omega)) ?_) fun H2 e2 => q H2 (e1.trans e2)
      unfold numV
      rw [if_pos hb]
    · refine s_ret (v := numV z) (ev_is ev_c ?_) fun H2 e2 => q H2 (e1.trans e2)
      unfold numV
      rw [if_neg (by rw [hb]; decide)]
theorem ok_law_signed (T : Mg mg) (c_law_digits : C1 P w K mg base 2 "_law_digits" fun z => .bl (digB z)) (c_law_number : C1 P w K mg base 3 "_law_number" numV) (F : FnP K "_law_signed" s_law_signed f fd) (gm : mg "_law_signed" = some (.ref f)) : C1 P w K mg base 4 "_law_signed" readV := by
  refine mk F gm (fun _ _ _ _ _ _ us hl => match us, hl with | [_], _ => rfl) (fun _ _ _ _ _ _ us hl => match us, hl with | [_], _ => rfl) sc_law_signed (fun vs H Q E h => ?_) (fun cdv A outer s H vs Q E hr h => ?_)
  · obtain ⟨z, rfl, _⟩ := h
    rfl
  · obtain ⟨z, rfl, hz, q⟩ := h
    have hrl := rest_len z
    refine ⟨_, (pss_cons (ps_if (PW.pt (pw_and (pt_cmpR op_eq (pe_slice sl_str (pv 0) po_none (po_some pe_int)) pe_str (nomark _)) (pw_and (pt_cmpR op_ne (pv 0) pe_str (nomark _)) (pw_and1 (pt_val (pe_f c_law_digits hr (by decide) rfl (pa_cons (pe_slice sl_str (pv 0) (po_some pe_int) po_none) pa_nil)))))))
      (pss_one (ps_ret (pe_op op_sub pe_int (pe_callTy cz_int (by rfl) T.int (by decide +kernel) (pa_cons (pe_slice sl_str (pv 0) (po_some pe_int) po_none) pa_nil)))))
      pss_nil)
    (pss_one (ps_ret (pe_f c_law_number hr (by decide) rfl (pa_cons (pv 0) pa_nil))))), ?_⟩
    have e45 : decide (cutS z none (some 1) = ("-" : Str)) = decide (hd z = some 45) := by
      rw [show ("-" : Str) = ⟨#[45]⟩ by decide +kernel, cut1_eq]
    refine q_when (b := decide (hd z = some 45) && (!decide (z = ("-0" : Str)) && digB (rest z))) (et_and (et_is (et_test (ev_op (ev_slS (ev_var rfl) eo_none (eo_some ev_c) hz) ev_c rv_eqS)) e45) fun _ => et_and (et_test (ev_op (ev_var rfl) ev_c rv_neS)) fun _ => et_B (ev_call (ea_cons (ev_slS (ev_var rfl) (eo_some ev_c) eo_none hz) ea_nil) (sv1 (z := rest z) (by omega)))) (fun hb H1 e1 => ?_) (fun hb H1 e1 => ?_)
    · obtain ⟨h1, h2⟩ := Bool.and_eq_true_iff.mp hb
      have h1 := of_decide_eq_true h1
      obtain ⟨h3, h4⟩ := Bool.and_eq_true_iff.mp h2
      rw [minus_zero h1, Bool.not_eq_true', decide_eq_false_iff_not] at h3
      obtain ⟨g1, g2⟩ := Bool.and_eq_true_iff.mp h4
      have hl := pl g1
      refine s_ret (v := readV z) (ev_is (ev_op ev_c (ev_intStr (a := rest z) (ev_slS (ev_var rfl) (eo_some ev_c) eo_none hz) (int_digits (Bool.and_eq_true_iff.mp g2).1 (by omega) (by omega)) (by omega)) rv_I0) ?_) fun H2 e2 => q H2 (e1.trans e2)
      unfold readV
      rw [if_pos h1, if_pos ⟨h4, h3⟩]
      show V.int (0 - _) = _
      rw [Int.zero_sub]
    · refine s_ret (v := readV z) (ev_is (ev_call (ea_cons (ev_var rfl) ea_nil) (sv1 hz)) ?_) fun H2 e2 => q H2 (e1.trans e2)
      unfold readV
      by_cases h1 : hd z = some 45
      · rw [if_pos h1, if_neg]
        · unfold numV
          rw [minus_nodig h1]
          rfl
        · intro h
          rw [decide_eq_true h1, minus_zero h1, decide_eq_false h.2, h.1] at hb
          cases hb
      · rw [if_neg h1]
end
end Z
set_option maxHeartbeats 2000000
namespace Z
open PySem PySem.Spec PyProof.Rows L2 TL Evl
/-! ### texts in lists, compared -/
theorem lay_strs : ∀ xs : List Str, (∀ x ∈ xs, PyData.strOk x = true) → PyData.canLayAll0 (xs.map PyData.str) = true
  | [], _ => by simp [PyData.canLayAll0]
  | x :: r, h => by
    have h1 := h x List.mem_cons_self
    have h2 := lay_strs r fun y hy => h y (List.mem_cons_of_mem _ hy)
    simp [PyData.canLayAll0, PyData.canLay0, h1, h2]
theorem depth_strs : ∀ xs : List Str, PyData.depthAll (xs.map PyData.str) ≤ 1
  | [] => by simp [PyData.depthAll]
  | x :: r => by
    have := depth_strs r
    simp only [List.map_cons, PyData.depthAll, PyData.depth]
    omega
theorem shaped_strs (xs : List Str) (h : ∀ x ∈ xs, PyData.strOk x = true) : SeqAt.shaped (.list (xs.map PyData.str)) = true := by
  have h1 := depth_strs xs
  have h2 : PyData.depth (.list (xs.map PyData.str)) ≤ 64 := by simp only [PyData.depth]; omega
  show (PyData.canLay0 (.list (xs.map PyData.str)) && decide (PyData.depth (.list (xs.map PyData.str)) ≤ 64)) = true
  rw [Bool.and_eq_true]
  exact ⟨by simp only [PyData.canLay0]; exact lay_strs xs h, decide_eq_true h2⟩
theorem ok_text {x : Str} (h : ∀ c ∈ tl x, c < 128) : PyData.strOk x = true := by
  unfold PyData.strOk
  rw [← Array.all_toList]
  exact List.all_eq_true.mpr fun c hc => decide_eq_true (Nat.lt_trans (h c hc) (by decide))
theorem splC_mem : ∀ (l acc p : List Nat), p ∈ splC acc l → ∀ c ∈ p, c ∈ acc ∨ c ∈ l
  | [], acc, p, h, c, hc => by
    rw [List.mem_singleton.mp h] at hc
    exact .inl hc
  | a :: r, acc, p, h, c, hc => by
    have h : p ∈ (if a = 44 then acc :: splC [] r else splC (acc ++ [a]) r) := h
    by_cases ha : a = 44
    · rw [if_pos ha] at h
      rcases List.mem_cons.mp h with e | h
      · rw [e] at hc; exact .inl hc
      · rcases splC_mem r [] p h c hc with g | g
        · cases g
        · exact .inr (List.mem_cons_of_mem _ g)
    · rw [if_neg ha] at h
      rcases splC_mem r (acc ++ [a]) p h c hc with g | g
      · rcases List.mem_append.mp g with g | g
        · exact .inl g
        · rw [List.mem_singleton.mp g]; exact .inr List.mem_cons_self
      · exact .inr (List.mem_cons_of_mem _ g)
theorem strip_mem {p s : Str} {c : Nat} (h : c ∈ tl (Txt.stripChars p s)) : c ∈ tl p := by
  have e0 : Txt.stripChars p s = Builtin.Str.strSub p (stripLo s.cps.contains true p) (stripHi s.cps.contains true p (stripLo s.cps.contains true p)) := stripBy_eq _ _ _ _
  rw [e0, tl_strSub] at h
  exact List.mem_of_mem_drop (List.mem_of_mem_take h)
theorem elems_mem {z p : Str} (h : p ∈ elems z) {c : Nat} (hc : c ∈ tl p) : c ∈ tl z := by
  unfold elems stripped at h
  obtain ⟨h1, _⟩ := List.mem_filter.mp h
  obtain ⟨p0, h2, rfl⟩ := List.mem_map.mp h1
  have h3 := strip_mem hc
  rw [split_eq] at h2
  obtain ⟨l, hl, rfl⟩ := List.mem_map.mp h2
  rcases splC_mem _ _ _ hl c h3 with g | g
  · cases g
  · exact g
theorem elems_ok {z : Str} (h : allIn z signs = true) : ∀ p ∈ elems z, PyData.strOk p = true := fun p hp => ok_text fun c hc => signs_lt c (of_decide_eq_true (List.all_eq_true.mp h c (elems_mem hp hc)))
theorem dp_strs {K : PySem.W.Frag} {H : Hp} : ∀ xs : List Str, DpAll K H (xs.map V.str) (xs.map PyData.str)
  | [] => .nil
  | x :: r => .cons (.str x) (dp_strs r)
theorem rv_eqL {K : PySem.W.Frag} {H : Hp} {p p2 : Addr} {xs : List Str} (h1 : SqL K H p (xs.map V.str)) (h2 : SqL K H p2 (xs.map V.str)) (hx : ∀ x ∈ xs, PyData.strOk x = true) : RV (rEqD K) (.ref p) (.ref p2) H (.bl true) := fun H1 e Q q => by
  refine ⟨.list (xs.map .str), .list (xs.map .str), .lst (ex_l e h1) (dp_strs xs), .lst (ex_l e h2) (dp_strs xs), shaped_strs xs hx, shaped_strs xs hx, ?_⟩
  rw [SeqAt.eqv_refl _ (SeqAt.canLay_of_shaped (shaped_strs xs hx))]
  exact q H1 (Ex.refl H1)
section
variable {K : PySem.W.Frag} {σ : L2.St} {H H' : Hp} {ta tb te : TE} {x : V}
theorem ev_isi {n : String} {t : Value} {b : Bool} (h : Ev ta σ H x) (ht : ∀ H1, Ex H H1 → TyX K H1 x t) (hk : PySem.W.kitOne K t (.type n) = some b) : Ev (tCB (rIsi K) (tCons ta (tCons (tC (.ty n)) tNil))) σ H (.bl b) := fun H1 e Q q =>
  h H1 e _ fun H2 e2 => ⟨x, .ty n, t, .type n, b, rfl, .ty n, ht H2 (e.trans e2), hk, q H2 e2⟩
theorem et_truB {b : Bool} (h : Ev te σ H (.bl b)) : EvT (fun σ H Q => te σ H fun x H' => ∃ k, TruV K x H' k ∧ Q k H') σ H b := fun H1 e Q q => h H1 e _ fun H2 e2 => ⟨b, rfl, q H2 e2⟩
theorem rv_eqB {a b : Bool} : RV rEq (.bl a) (.bl b) H (.bl (decide (a = b))) := by
  have : decide (V.bl a = V.bl b) = decide (a = b) := by
    by_cases h : a = b
    · rw [decide_eq_true h, decide_eq_true (congrArg V.bl h)]
    · rw [decide_eq_false h, decide_eq_false fun e => h (V.bl.inj e)]
  rw [← this]
  exact rv_eq rfl
end
section
variable {P : Program} {w : World} {K : PySem.W.Frag} {mg : Str → Option Value} {base : Heap} {f : Addr} {fd : FuncData} {k : Nat}
theorem wd_len (l : List Nat) (fs : List Str) (wd : Str) : (l.foldl wstep (fs, wd)).2.length ≤ wd.length + l.length ∧ (l.foldl wstep (fs, wd)).1.length ≤ fs.length + l.length := by
  induction l generalizing fs wd with
  | nil => exact ⟨Nat.le_refl _, Nat.le_refl _⟩
  | cons c r ih =>
    rw [List.foldl_cons, List.length_cons]
    have e : wstep (fs, wd) c = ((wstep (fs, wd) c).1, (wstep (fs, wd) c).2) := rfl
    rw [e]
    obtain ⟨h1, h2⟩ := ih (wstep (fs, wd) c).1 (wstep (fs, wd) c).2
    have g : (wstep (fs, wd) c).2.length ≤ wd.length + 1 ∧ (wstep (fs, wd) c).1.length ≤ fs.length + 1 := by
      unfold wstep
      by_cases hc : c = 44
      · rw [if_pos hc]
        refine ⟨by show (("" : Str)).length ≤ _; rw [show (("" : Str)).length = 0 by decide +kernel]; omega, ?_⟩
        show (if Txt.stripChars wd " " = ("" : Str) then fs else fs ++ [Txt.stripChars wd " "]).length ≤ _
        by_cases h : Txt.stripChars wd " " = ("" : Str)
        · rw [if_pos h]; omega
        · rw [if_neg h, List.length_append]; exact Nat.le_refl _
      · rw [if_neg hc]
        refine ⟨?_, by show fs.length ≤ _; omega⟩
        show (wd ++ (⟨#[c]⟩ : Str)).length ≤ _
        rw [Str.length_append]
        exact Nat.le_refl _
    omega
theorem take_step {l : List Nat} {i c : Nat} (h : l[i]? = some c) (st : List Str × Str) : (l.take (i + 1)).foldl wstep st = wstep ((l.take i).foldl wstep st) c := by
  rw [List.take_add_one, h, List.foldl_append]
  rfl
theorem ok_law_words (T : Mg mg) (F : FnP K "_law_words" s_law_words f fd) (gm : mg "_law_words" = some (.ref f)) : Call P w K mg base 1 "_law_words" ["text"] (sp1L fun z => (elems z).map V.str) := by
  refine mk F gm (fun _ _ _ _ _ _ us hl => match us, hl with | [_], _ => rfl) (fun _ _ _ _ _ _ us hl => match us, hl with | [_], _ => rfl) sc_law_words (fun vs H Q E h => ?_) (fun cdv A outer s H vs Q E hr h => ?_)
  · obtain ⟨z, rfl, _⟩ := h
    rfl
  · obtain ⟨z, rfl, hz, q⟩ := h
    refine ⟨_, (pss_cons (ps_set (i := 1) sc_law_words.nd rfl (Or.inl rfl) (pe_lst pa_nil))
    (pss_cons (ps_set (i := 2) sc_law_words.nd rfl (Or.inl rfl) pe_str)
    (pss_cons (ps_for PassesOwn.never rfl (pi_str (pe_op oz_add (pv 0) pe_str)) (pg_name (i := 3) sc_law_words.nd rfl (Or.inl rfl))
      (pss_one (ps_if (pt_cmpR op_eq (pv 3) pe_str (nomark _))
        (pss_cons (ps_set (i := 2) sc_law_words.nd rfl (Or.inl rfl) (pe_bm PySem.F.plainAttrs_str PySem.F.slot_str_strip PySem.F.type_str_strip mz_strip (pv 2) (pa_cons pe_str pa_nil)))
        (pss_cons (ps_if (pt_cmpR op_ne (pv 2) pe_str (nomark _))
          (pss_one (ps_expr (pe_bm PySem.F.plainAttrs_list PySem.F.slot_list_append PySem.F.type_list_append mt_append (pv 1) (pa_cons (pv 2) pa_nil))))
          pss_nil)
        (pss_one (ps_set (i := 2) sc_law_words.nd rfl (Or.inl rfl) pe_str))))
        (pss_one (ps_set (i := 2) sc_law_words.nd rfl (Or.inl rfl) (pe_op oz_add (pv 2) (pv 3)))))))
    (pss_one (ps_ret (pv 1)))))), ?_⟩
    refine q_asgL (el_lst ea_nil (by decide)) fun p H1 np e1 h1 => q_asg ev_c fun H2 e2 => ?_
    have ec : ("," : Str) = ⟨#[44]⟩ := by decide +kernel
    have etl : tl (z ++ ("," : Str)) = tl z ++ [44] := by rw [tl_append, comma]
    have hl : (tl z ++ [44]).length ≤ 10001 := by rw [List.length_append, len_tl']; exact Nat.add_le_add_right hz 1
    refine q_forS (w := z ++ ("," : Str)) (ev_op (ev_var rfl) ev_c (rv_addS (by rw [show (("," : Str)).length = 1 by decide +kernel]; omega)))
      (fun i σ' H' => ∃ (v : Option V) (st : List Str × Str), st = ((tl z ++ [44]).take i).foldl wstep ([], ("" : Str)) ∧ σ' = [some (.str z), some (.ref p), some (.str st.2), v] ∧ Ex H H' ∧ H' p = some (.lst (st.1.map V.str)))
      (fun H3 e3 => ⟨none, (([] : List Str), ("" : Str)), rfl, rfl, (e1.trans e2).trans e3, e3 _ _ (e2 _ _ h1)⟩) (fun i c σ' H' hi pv => ?_) (fun σ' H' pv => ?_)
    · rw [etl] at hi
      obtain ⟨v, st, est, rfl, e3, h3⟩ := pv
      have hll := wd_len ((tl z ++ [44]).take i) [] ("" : Str)
      rw [← est, List.length_take] at hll
      have e0 : (("" : Str)).length = 0 := by decide +kernel
      have e0' : ([] : List Str).length = 0 := rfl
      have hstep := take_step hi ([], ("" : Str))
      rw [← est] at hstep
      refine s_if (b := decide (c = 44)) (et_is (et_test (ev_op (ev_var rfl) ev_c rv_eqS)) ?_) (fun hb H4 e4 => ?_) (fun hb H4 e4 => ?_)
      · rw [ec]
        by_cases h : c = 44
        · rw [h]; rfl
        · rw [decide_eq_false h, decide_eq_false fun e => h ((one_eq _ _).mp e)]
      · have hb := of_decide_eq_true hb
        refine q_asg (ev_strip (ev_var rfl) ev_c (by omega)) fun H5 e5 => ?_
        unfold wstep at hstep
        rw [if_pos hb] at hstep
        refine q_when (et_test (ev_op (ev_var rfl) ev_c rv_neS)) (fun hn H6 e6 => ?_) (fun hn H6 e6 => ?_)
        · rw [Bool.not_eq_true', decide_eq_false_iff_not] at hn
          rw [if_neg hn] at hstep
          refine s_app (xs := st.1.map V.str) (e6 _ _ (e5 _ _ (e4 _ _ h3))) (ev_var rfl) (ev_var rfl) (by rw [List.length_map]; omega) fun H7 e7 => ?_
          refine s_asg ev_c fun H8 e8 => ?_
          refine ⟨_, _, hstep.symm, rfl, (Ex.mut ((((e3.trans e4).trans e5).trans e6).trans e7) (fresh_back (Ex.refl H) np)).trans e8, e8 _ _ ?_⟩
          rw [upd_same, List.map_append]
          rfl
        · rw [Bool.not_eq_false', decide_eq_true_eq] at hn
          rw [if_pos hn] at hstep
          refine s_asg ev_c fun H8 e8 => ?_
          exact ⟨_, _, hstep.symm, rfl, (((e3.trans e4).trans e5).trans e6).trans e8, e8 _ _ (e6 _ _ (e5 _ _ (e4 _ _ h3)))⟩
      · have hb : ¬ c = 44 := of_decide_eq_false hb
        unfold wstep at hstep
        rw [if_neg hb] at hstep
        refine s_asg (ev_op (ev_var rfl) (ev_var rfl) (rv_addS (by show _ + 1 ≤ _; omega))) fun H5 e5 => ?_
        exact ⟨_, _, hstep.symm, rfl, (e3.trans e4).trans e5, e5 _ _ (e4 _ _ h3)⟩
    · rw [etl] at pv
      obtain ⟨v, st, est, rfl, e3, h3⟩ := pv
      rw [List.take_length] at est
      have ew : st.1 = elems z := by rw [est]; exact words_elems z
      rw [ew] at h3
      exact s_ret (ev_var rfl) fun H4 e4 => q p H4 np (e3.trans e4) (e4 _ _ h3)
def spTruth : Sp := fun vs H Q _ => ∃ a b : Bool, vs = [.bl a, .bl b] ∧ RetV (.bl (decide (a = b))) H Q
theorem svT {a b : Bool} {H : Hp} : SpV spTruth [.bl a, .bl b] H (.bl (decide (a = b))) := fun H1 e Q q E => ⟨a, b, rfl, q⟩
theorem ok_law_truth (T : Mg mg) (F : FnP K "_law_truth" s_law_truth f fd) (gm : mg "_law_truth" = some (.ref f)) : Call P w K mg base 1 "_law_truth" ["told", "due"] spTruth := by
  refine mk F gm (fun _ _ _ _ _ _ us hl => match us, hl with | [_, _], _ => rfl) (fun _ _ _ _ _ _ us hl => match us, hl with | [_, _], _ => rfl) sc_law_truth (fun vs H Q E h => ?_) (fun cdv A outer s H vs Q E hr h => ?_)
  · obtain ⟨a, b, rfl, _⟩ := h
    rfl
  · obtain ⟨a, b, rfl, q⟩ := h
    refine ⟨_, (pss_one (ps_ret (pe_and (pe_callB call_isi (by rfl) T.isinstance (by decide +kernel) (pa_cons (pv 0) (pa_cons (pe_bltn (v := .ty "bool") (u := .type "bool") (by rfl) T.bool (by decide +kernel) rfl) pa_nil))) (pe_one (pe_cmpR op_eq (pv 0) (pv 1) (nomark _)))))), ?_⟩
    exact s_ret (v := .bl (decide (a = b))) (ev_is (ev_andV (ev_isi (b := true) (ev_var rfl) (fun H1 _ => .base (.bl a)) (kit_ty (by decide +kernel))) fun _ => ev_op (ev_var rfl) (ev_var rfl) rv_eqB) (by rw [Bool.true_and])) q
def spInt : Sp := fun vs H Q _ => ∃ z : V, vs = [z, z] ∧ (z = .non ∨ ∃ i, z = .int i) ∧ RetV (.bl true) H Q
theorem ok_law_integer (T : Mg mg) (F : FnP K "_law_integer" s_law_integer f fd) (gm : mg "_law_integer" = some (.ref f)) : Call P w K mg base 1 "_law_integer" ["told", "due"] spInt := by
  refine mk F gm (fun _ _ _ _ _ _ us hl => match us, hl with | [_, _], _ => rfl) (fun _ _ _ _ _ _ us hl => match us, hl with | [_, _], _ => rfl) sc_law_integer (fun vs H Q E h => ?_) (fun cdv A outer s H vs Q E hr h => ?_)
  · obtain ⟨a, rfl, _⟩ := h
    rfl
  · obtain ⟨a, rfl, ha, q⟩ := h
    refine ⟨_, (pss_cons (ps_if (pt_cmpR op_isN1 (pv 1) pe_non (nomark _))
      (pss_one (ps_ret (pe_cmpR op_isN1 (pv 0) pe_non (nomark _))))
      pss_nil)
    (pss_one (ps_ret (pe_and (pe_callB call_isi (by rfl) T.isinstance (by decide +kernel) (pa_cons (pv 0) (pa_cons (pe_bltn (v := .ty "int") (u := .type "int") (by rfl) T.int (by decide +kernel) rfl) pa_nil))) (pe_and (pe_not (pe_callB call_isi (by rfl) T.isinstance (by decide +kernel) (pa_cons (pv 0) (pa_cons (pe_bltn (v := .ty "bool") (u := .type "bool") (by rfl) T.bool (by decide +kernel) rfl) pa_nil)))) (pe_one (pe_cmpR op_eq (pv 0) (pv 1) (nomark _)))))))), ?_⟩
    rcases ha with rfl | ⟨i, rfl⟩
    · refine q_when (b := true) (et_is (et_test (ev_op (ev_var rfl) ev_c rv_isN)) rfl) (fun _ H1 e1 => ?_) (fun h => nomatch h)
      exact s_ret (v := .bl true) (ev_is (ev_op (ev_var rfl) ev_c rv_isN) rfl) fun H2 e2 => q H2 (e1.trans e2)
    · refine q_when (b := false) (et_is (et_test (ev_op (ev_var rfl) ev_c rv_isN)) rfl) (fun h => nomatch h) (fun _ H1 e1 => ?_)
      exact s_ret (v := .bl true) (ev_is (ev_andV (ev_isi (b := true) (ev_var rfl) (fun H1 _ => .base (.int i)) (kit_ty (by decide +kernel))) fun _ => ev_andV (ev_notV (ev_isi (b := false) (ev_var rfl) (fun H1 _ => .base (.int i)) (kit_ty (by decide +kernel)))) fun _ => ev_op (ev_var rfl) (ev_var rfl) rv_eqI) (by rw [decide_eq_true rfl]; rfl)) fun H2 e2 => q H2 (e1.trans e2)
theorem numV_kind (z : Str) : numV z = .non ∨ ∃ i, numV z = .int i := by
  rcases numV_form z with ⟨_, h⟩ | ⟨_, h⟩
  · exact .inr ⟨_, h⟩
  · exact .inl h
theorem readV_kind (z : Str) : readV z = .non ∨ ∃ i, readV z = .int i := by
  unfold readV
  by_cases h : hd z = some 45
  · rw [if_pos h]
    by_cases h2 : digB (rest z) = true ∧ rest z ≠ ("0" : Str)
    · rw [if_pos h2]; exact .inr ⟨_, rfl⟩
    · rw [if_neg h2]; exact .inl rfl
  · rw [if_neg h]; exact numV_kind z
theorem svI {v : V} {H : Hp} (h : v = .non ∨ ∃ i, v = .int i) : SpV spInt [v, v] H (.bl true) := fun H1 e Q q E => ⟨v, rfl, h, q⟩
def spRight : Sp := fun vs H Q _ => ∃ z : Str, vs = [.str z] ∧ z.length ≤ 10000 ∧ RetV (.bl true) H Q
theorem dec_self (b : Bool) : decide (b = b) = true := decide_eq_true rfl
theorem ok_law_right (T : Mg mg) (c_is_plain : C1 P w K mg base 1 "is_plain" fun z => .bl (allIn z signs)) (c_is_path : C1 P w K mg base 2 "is_path" fun z => .bl (pathB z)) (c_is_field_name : C1 P w K mg base 3 "is_field_name" fun z => .bl (nameB z))
    (c_is_value : C1 P w K mg base 2 "is_value" fun z => .bl (valueB z)) (c_read_number : C1 P w K mg base 2 "read_number" numV) (c_read_reading : C1 P w K mg base 3 "read_reading" readV) (c_list_elements : Call P w K mg base 1 "list_elements" ["text"] (sp1L fun z => (elems z).map V.str))
    (c_law_signs : Call P w K mg base 1 "_law_signs" [] (sp0 (.str signs))) (c_law_all_in : Call P w K mg base 1 "_law_all_in" ["text", "signs"] (sp2 fun z s => .bl (allIn z s))) (c_law_truth : Call P w K mg base 1 "_law_truth" ["told", "due"] spTruth) (c_law_integer : Call P w K mg base 1 "_law_integer" ["told", "due"] spInt)
    (c_law_is_path : C1 P w K mg base 2 "_law_is_path" fun z => .bl (pathB z)) (c_law_is_name : C1 P w K mg base 2 "_law_is_name" fun z => .bl (nameB z)) (c_law_is_value : C1 P w K mg base 2 "_law_is_value" fun z => .bl (valueB z)) (c_law_number : C1 P w K mg base 3 "_law_number" numV) (c_law_signed : C1 P w K mg base 4 "_law_signed" readV)
    (c_law_words : Call P w K mg base 1 "_law_words" ["text"] (sp1L fun z => (elems z).map V.str)) (F : FnP K "_law_right" s_law_right f fd) (gm : mg "_law_right" = some (.ref f)) : Call P w K mg base 5 "_law_right" ["text"] spRight := by
  refine mk F gm (fun _ _ _ _ _ _ us hl => match us, hl with | [_], _ => rfl) (fun _ _ _ _ _ _ us hl => match us, hl with | [_], _ => rfl) sc_law_right (fun vs H Q E h => ?_) (fun cdv A outer s H vs Q E hr h => ?_)
  · obtain ⟨a, rfl, _⟩ := h
    rfl
  · obtain ⟨z, rfl, hz, q⟩ := h
    have hz1 : z.length ≤ 100000 := by omega
    refine ⟨_, (pss_cons (ps_set (i := 1) sc_law_right.nd rfl (Or.inl rfl) (pe_f c_law_all_in hr (by decide) rfl (pa_cons (pv 0) (pa_cons (pe_f0 c_law_signs hr (by decide) rfl) pa_nil))))
    (pss_cons (ps_if (PW.pt (pw_or (pt_not (pt_val (pe_f c_law_truth hr (by decide) rfl (pa_cons (pe_f c_is_plain hr (by decide) rfl (pa_cons (pv 0) pa_nil)) (pa_cons (pv 1) pa_nil))))) (pw_or1 (pt_not (pt_val (pe_f c_law_truth hr (by decide) rfl (pa_cons (pe_fk c_is_path hr (by decide) rfl (pk_cons (pv 0) pk_nil)) (pa_cons (pe_f c_law_is_path hr (by decide) rfl (pa_cons (pv 0) pa_nil)) pa_nil))))))))
      (pss_one (ps_ret pe_bl))
      pss_nil)
    (pss_cons (ps_if (PW.pt (pw_or (pt_not (pt_val (pe_f c_law_truth hr (by decide) rfl (pa_cons (pe_f c_is_field_name hr (by decide) rfl (pa_cons (pv 0) pa_nil)) (pa_cons (pe_f c_law_is_name hr (by decide) rfl (pa_cons (pv 0) pa_nil)) pa_nil))))) (pw_or1 (pt_not (pt_val (pe_f c_law_truth hr (by decide) rfl (pa_cons (pe_fk c_is_value hr (by decide) rfl (pk_cons (pv 0) pk_nil)) (pa_cons (pe_f c_law_is_value hr (by decide) rfl (pa_cons (pv 0) pa_nil)) pa_nil))))))))
      (pss_one (ps_ret pe_bl))
      pss_nil)
    (pss_cons (ps_if (pt_not (pt_val (pe_f c_law_integer hr (by decide) rfl (pa_cons (pe_f c_read_number hr (by decide) rfl (pa_cons (pv 0) pa_nil)) (pa_cons (pe_f c_law_number hr (by decide) rfl (pa_cons (pv 0) pa_nil)) pa_nil)))))
      (pss_one (ps_ret pe_bl))
      pss_nil)
    (pss_cons (ps_if (pt_not (pt_val (pe_f c_law_integer hr (by decide) rfl (pa_cons (pe_fk c_read_reading hr (by decide) rfl (pk_cons (pv 0) pk_nil)) (pa_cons (pe_f c_law_signed hr (by decide) rfl (pa_cons (pv 0) pa_nil)) pa_nil)))))
      (pss_one (ps_ret pe_bl))
      pss_nil)
    (pss_cons (ps_if (pt_not (pt_truth (pv 1) (by intro _; rfl)))
      (pss_one (ps_ret pe_bl))
      pss_nil)
    (pss_cons (ps_set (i := 2) sc_law_right.nd rfl (Or.inl rfl) (pe_fk c_list_elements hr (by decide) rfl (pk_cons (pv 0) pk_nil)))
    (pss_one (ps_ret (pe_and (pe_callB call_isi (by rfl) T.isinstance (by decide +kernel) (pa_cons (pv 2) (pa_cons (pe_bltn (v := .ty "list") (u := .type "list") (by rfl) T.list (by decide +kernel) rfl) pa_nil))) (pe_one (pe_cmpR (op_eqD hr.units) (pv 2) (pe_f c_law_words hr (by decide) rfl (pa_cons (pv 0) pa_nil)) (nomark _))))))))))))), ?_⟩
    refine q_asg (ev_call (ea_cons (ev_var rfl) (ea_cons (ev_call ea_nil sv0) ea_nil)) (sv2 hz1)) fun H1 e1 => ?_
    refine q_when (b := false) (et_is (et_or (et_not (et_B (ev_call (ea_cons (ev_call (ea_cons (ev_var rfl) ea_nil) (sv1 hz1)) (ea_cons (ev_var rfl) ea_nil)) svT))) fun _ => et_not (et_B (ev_call (ea_cons (ev_callN (ea_cons (ev_var rfl) ea_nil) rfl (sv1 hz1)) (ea_cons (ev_call (ea_cons (ev_var rfl) ea_nil) (sv1 hz1)) ea_nil)) svT))) (by rw [dec_self, dec_self]; rfl)) (fun h => nomatch h) (fun _ H2 e2 => ?_)
    refine q_when (b := false) (et_is (et_or (et_not (et_B (ev_call (ea_cons (ev_call (ea_cons (ev_var rfl) ea_nil) (sv1 hz1)) (ea_cons (ev_call (ea_cons (ev_var rfl) ea_nil) (sv1 hz1)) ea_nil)) svT))) fun _ => et_not (et_B (ev_call (ea_cons (ev_callN (ea_cons (ev_var rfl) ea_nil) rfl (sv1 hz1)) (ea_cons (ev_call (ea_cons (ev_var rfl) ea_nil) (sv1 hz1)) ea_nil)) svT))) (by rw [dec_self, dec_self]; rfl)) (fun h => nomatch h) (fun _ H3 e3 => ?_)
    refine q_when (b := false) (et_is (et_not (et_B (ev_call (ea_cons (ev_call (ea_cons (ev_var rfl) ea_nil) (sv1 hz1)) (ea_cons (ev_call (ea_cons (ev_var rfl) ea_nil) (sv1 hz1)) ea_nil)) (svI (numV_kind z))))) rfl) (fun h => nomatch h) (fun _ H4 e4 => ?_)
    refine q_when (b := false) (et_is (et_not (et_B (ev_call (ea_cons (ev_callN (ea_cons (ev_var rfl) ea_nil) rfl (sv1 hz1)) (ea_cons (ev_call (ea_cons (ev_var rfl) ea_nil) (sv1 hz1)) ea_nil)) (svI (readV_kind z))))) rfl) (fun h => nomatch h) (fun _ H5 e5 => ?_)
    refine q_when (et_not (et_truB (ev_var rfl))) (fun _ H6 e6 => ?_) (fun hpl H6 e6 => ?_)
    · exact s_ret ev_c fun H7 e7 => q H7 ((((((e1.trans e2).trans e3).trans e4).trans e5).trans e6).trans e7)
    · rw [Bool.not_eq_false'] at hpl
      refine q_asgL (el_callN (ea_cons (ev_var rfl) ea_nil) rfl (sl1 hz)) fun p H7 np e7 h7 => ?_
      refine s_ret (v := .bl true) (ev_is (ev_andV (ev_isi (b := true) (ev_var rfl) (fun H1 e => .base (.lst (e _ _ h7))) (kit_ty (by decide +kernel))) fun _ => ev_opL (ev_var rfl) (el_call (ea_cons (ev_var rfl) ea_nil) (sl1 hz)) fun p2 H8 h8 e8 => rv_eqL (sq_of (e8 _ _ h7)) (sq_of h8) (elems_ok hpl)) rfl) fun H8 e8 => q H8 (((((((e1.trans e2).trans e3).trans e4).trans e5).trans e6).trans e7).trans e8)
end
end Z
set_option maxHeartbeats 4000000
namespace Z
open PySem PySem.Spec PyProof.Rows L2 TL Evl
def rRepStr : R2 := fun x y H Q => ∃ (z : Str) (i : Int), x = .str z ∧ y = .int i ∧ 0 ≤ i ∧ i ≤ 1000 ∧ z.length ≤ 1000 ∧ Q (.str (repS z i.toNat)) H
theorem oz_rep {X : Cx} : OpR X (binaryOp .Mult) rRepStr := op_rep_str
def rInt1 : List V → Hp → VK → Prop := fun xs H Q => (∃ i, xs = [.int i] ∧ Q (.int i) H) ∨ ∃ k, xs = [.bl k] ∧ Q (.int (if k then 1 else 0)) H
theorem cz_int1 {X : Cx} : CallR X (.type "int") rInt1 := call_int1
def rJoin (K : PySem.W.Frag) : V → List V → Hp → VK → Prop := fun x xs H Q => ∃ a p, ∃ ys : List Str, x = .str a ∧ xs = [.ref p] ∧ (SqL K H p (ys.map V.str) ∨ SqT K H p (ys.map V.str)) ∧ (ys.map (·.length)).sum + ys.length * a.length ≤ 16777216 ∧ Q (.str (Txt.join a ys)) H
theorem mz_join {X : Cx} : MtR X "str.join" (rJoin X.K) := mt_join
section
variable {K : PySem.W.Frag} {σ : L2.St} {H H' : Hp} {ta tb te : TE} {x : V} {ti : TA}
theorem ev_int1 {i : Int} (h : Ev te σ H (.int i)) : Ev (tCB rInt1 (tCons te tNil)) σ H (.int i) := fun H1 e Q q => h H1 e _ fun H2 e2 => .inl ⟨i, rfl, q H2 e2⟩
theorem rd_call {sp : Sp} {vs : List V} {E : XK} {Q : VK} (h : EvA ti σ H vs) (k : ∀ H1, Ex H H1 → sp (vs ++ []) H1 Q E) : tCall sp [] E ti σ H Q := h H (Ex.refl H) _ k
end
/-! ### the bag of draws -/
def cap : Nat := 1048576
/-- a bag at p, of which at most n were drawn -/
def BagAt (H : Hp) (p : Addr) (n : Nat) : Prop := ∃ (c0 : Int) (cv : V) (c2 : Int), H p = some (.lst [.int c0, cv, .int c2]) ∧ 0 ≤ c2 ∧ c2 ≤ (n : Int) ∧ (cv = .non ∨ ∃ c : Int, cv = .int c ∧ c.natAbs < 2 ^ cap)
/-- all but what stands at p is as it was -/
def Keep (p : Addr) (H H' : Hp) : Prop := ∀ b o, b ≠ p → H b = some o → H' b = some o
theorem Keep.of {p : Addr} {H H' : Hp} (e : Ex H H') : Keep p H H' := fun b o _ h => e b o h
theorem Keep.trans {p : Addr} {H H1 H2 : Hp} (a : Keep p H H1) (b : Keep p H1 H2) : Keep p H H2 := fun c o hc h => b c o hc (a c o hc h)
theorem Keep.upd {p : Addr} {H H1 : Hp} {o : HO} (a : Keep p H H1) : Keep p H (upd H1 p o) := fun c u hc h => by rw [upd_ne hc]; exact a c u hc h
theorem BagAt.ex {H H' : Hp} {p : Addr} {n : Nat} (b : BagAt H p n) (e : Ex H H') : BagAt H' p n := by
  obtain ⟨c0, cv, c2, h, r⟩ := b
  exact ⟨c0, cv, c2, e _ _ h, r⟩
theorem BagAt.mono {H : Hp} {p : Addr} {n m : Nat} (b : BagAt H p n) (h : n ≤ m) : BagAt H p m := by
  obtain ⟨c0, cv, c2, h1, h2, h3, h4⟩ := b
  exact ⟨c0, cv, c2, h1, h2, by omega, h4⟩
theorem BagAt.some {H : Hp} {p : Addr} {n : Nat} (b : BagAt H p n) : ∃ xs, H p = some (.lst xs) := by
  obtain ⟨c0, cv, c2, h, r⟩ := b
  exact ⟨_, h⟩
theorem Keep.free {p : Addr} {H H' : Hp} (a : Keep p H H') {n : Nat} (b : BagAt H' p n) {l : Addr} (h : H' l = none) : H l = none := by
  cases q : H l with
  | none => rfl
  | some o =>
    by_cases e : l = p
    · obtain ⟨xs, g⟩ := b.some
      rw [e, g] at h
      cases h
    · rw [a l o e q] at h
      cases h
def spDraw : Sp := fun vs H Q _ => ∃ (p : Addr) (size : Int) (n : Nat), vs = [.ref p, .int size] ∧ BagAt H p n ∧ n ≤ 100000000 ∧ 1 ≤ size ∧ size ≤ 1000000 ∧
  ∀ (d : Int) (H' : Hp), 0 ≤ d → d < size → BagAt H' p (n + 1) → Keep p H H' → Q (.int d) H'
section
variable {P : Program} {w : World} {K : PySem.W.Frag} {mg : Str → Option Value} {base : Heap} {f : Addr} {fd : FuncData} {k : Nat}
theorem ok_law_draw (T : Mg mg) (F : FnP K "_law_draw" s_law_draw f fd) (gm : mg "_law_draw" = some (.ref f)) : Call P w K mg base 1 "_law_draw" ["bag", "size"] spDraw := by
  refine mk F gm (fun _ _ _ _ _ _ us hl => match us, hl with | [_, _], _ => rfl) (fun _ _ _ _ _ _ us hl => match us, hl with | [_, _], _ => rfl) sc_law_draw (fun vs H Q E h => ?_) (fun cdv A outer s H vs Q E hr h => ?_)
  · obtain ⟨p, size, n, rfl, _⟩ := h
    rfl
  · obtain ⟨p, size, n, rfl, ⟨c0, cv, c2, hp, h0, hn, hc⟩, hn2, hs1, hs2, q⟩ := h
    refine ⟨_, (pss_cons (ps_if (PW.pt (pw_or (pt_cmpR op_lt (pv 1) pe_int (nomark _)) (pw_or1 (pt_cmpR op_isN1 (pe_ix ix_list (pv 0) pe_int (fun _ _ => rfl)) pe_non (nomark _)))))
      (pss_one (ps_ret pe_int))
      pss_nil)
    (pss_cons (ps_asg (pe_op op_add (pe_ix ix_list (pv 0) pe_int (fun _ _ => rfl)) pe_int) (pg_sub (pv 0) pe_int set_list))
    (pss_cons (ps_if (pt_cmpR op_gt (pe_ix ix_list (pv 0) pe_int (fun _ _ => rfl)) pe_int (nomark _))
      (pss_cons (ps_set (i := 2) sc_law_draw.nd rfl (Or.inl rfl) (pe_op op_mod (pe_callTy cz_int1 (by rfl) T.int (by decide +kernel) (pa_cons (pe_ix ix_list (pv 0) pe_int (fun _ _ => rfl)) pa_nil)) (pv 1)))
      (pss_cons (ps_asg (pe_op op_fdivW (pe_ix ix_list (pv 0) pe_int (fun _ _ => rfl)) (pv 1)) (pg_sub (pv 0) pe_int set_list))
      (pss_one (ps_ret (pv 2)))))
      pss_nil)
    (pss_cons (ps_set (i := 3) sc_law_draw.nd rfl (Or.inl rfl) (pe_op op_mod (pe_callTy cz_int1 (by rfl) T.int (by decide +kernel) (pa_cons (pe_op op_add (pe_op op_add (pe_op op_mulX (pe_ix ix_list (pv 0) pe_int (fun _ _ => rfl)) pe_int) (pe_op op_mul (pe_ix ix_list (pv 0) pe_int (fun _ _ => rfl)) pe_int)) pe_int) pa_nil)) pe_int))
    (pss_cons (ps_set (i := 4) sc_law_draw.nd rfl (Or.inl rfl) (pe_op op_mod (pe_callTy cz_int1 (by rfl) T.int (by decide +kernel) (pa_cons (pe_op op_add (pe_op op_mul (pv 3) (pv 3)) (pe_op op_mul (pe_ix ix_list (pv 0) pe_int (fun _ _ => rfl)) pe_int)) pa_nil)) pe_int))
    (pss_cons (ps_set (i := 5) sc_law_draw.nd rfl (Or.inl rfl) (pe_op op_mod (pe_callTy cz_int1 (by rfl) T.int (by decide +kernel) (pa_cons (pe_op op_add (pe_op op_mul (pv 4) (pv 4)) (pe_op op_mul (pv 3) pe_int)) pa_nil)) pe_int))
    (pss_one (ps_ret (pe_op op_mod (pe_callTy cz_int1 (by rfl) T.int (by decide +kernel) (pa_cons (pe_op op_fdiv (pv 5) pe_int) pa_nil)) (pv 1)))))))))), ?_⟩
    by_cases h2 : size < 2
    · refine q_when (b := true) (et_is (et_or (a := true) (et_is (et_test (ev_op (ev_var rfl) ev_c rv_I0)) (decide_eq_true h2)) fun h => nomatch h) (Bool.true_or false)) (fun _ H1 e1 => ?_) (fun h => nomatch h)
      exact s_ret ev_c fun H2 e2 => q 0 H2 (Int.le_refl 0) (by omega) ⟨c0, cv, c2, e2 _ _ (e1 _ _ hp), h0, by omega, hc⟩ (Keep.of (e1.trans e2))
    · rcases hc with rfl | ⟨c, rfl, hc⟩
      · refine q_when (b := true) (et_is (et_or (et_test (ev_op (ev_var rfl) ev_c rv_I0)) fun _ => et_test (ev_op (ev_op (ev_var rfl) ev_c (rv_ixL (sq_of hp) (atI_nat (j := 1) rfl))) ev_c rv_isN)) (by rw [decide_eq_true (rfl : V.non = V.non), Bool.or_true])) (fun _ H1 e1 => ?_) (fun h => nomatch h)
        exact s_ret ev_c fun H2 e2 => q 0 H2 (Int.le_refl 0) (by omega) ⟨c0, _, c2, e2 _ _ (e1 _ _ hp), h0, by omega, .inl rfl⟩ (Keep.of (e1.trans e2))
      · refine q_when (b := false) (et_is (et_or (et_test (ev_op (ev_var rfl) ev_c rv_I0)) fun _ => et_test (ev_op (ev_op (ev_var rfl) ev_c (rv_ixL (sq_of hp) (atI_nat (j := 1) rfl))) ev_c rv_isN)) (by rw [decide_eq_false h2, decide_eq_false (show ¬ V.int c = V.non from fun h => nomatch h)]; rfl)) (fun h => nomatch h) (fun _ H1 e1 => ?_)
        refine q_setL (j := 2) (e1 _ _ hp) (ev_op (ev_op (ev_var rfl) ev_c (rv_ixL (sq_of (e1 _ _ hp)) (atI_nat (j := 2) rfl))) ev_c rv_I0) (ev_var rfl) ev_c (by show 2 < 3; decide) fun H2 e2 => ?_
        have hp2 : (upd H2 p (.lst ([V.int c0, .int c, .int c2].set 2 (.int (c2 + 1))))) p = some (.lst [.int c0, .int c, .int (c2 + 1)]) := upd_same
        have k2 : Keep p H (upd H2 p (.lst ([V.int c0, .int c, .int c2].set 2 (.int (c2 + 1))))) := (Keep.of (e1.trans e2)).upd
        generalize upd H2 p (.lst ([V.int c0, .int c, .int c2].set 2 (.int (c2 + 1)))) = H3 at hp2 k2 ⊢
        refine q_when (et_test (ev_op (ev_op (ev_var rfl) ev_c (rv_ixL (sq_of hp2) (atI_nat (j := 0) rfl))) ev_c rv_I0)) (fun hb H4 e4 => ?_) (fun hb H4 e4 => ?_)
        · refine q_asg (ev_op (ev_int1 (ev_op (ev_var rfl) ev_c (rv_ixL (sq_of (e4 _ _ hp2)) (atI_nat (j := 0) rfl)))) (ev_var rfl) (rv_I (by show 0 < size; omega))) fun H5 e5 => ?_
          refine q_setL (j := 0) (e5 _ _ (e4 _ _ hp2)) (ev_op (ev_op (ev_var rfl) ev_c (rv_ixL (sq_of (e5 _ _ (e4 _ _ hp2))) (atI_nat (j := 0) rfl))) (ev_var rfl) (rv_I (wide_div (b := 64) (by omega) (by omega) (by decide) (by decide)))) (ev_var rfl) ev_c (by show 0 < 3; decide) fun H6 e6 => ?_
          refine s_ret (ev_var rfl) fun H7 e7 => q _ H7 (Int.emod_nonneg _ (by omega)) (Int.emod_lt_of_pos _ (by omega)) ⟨_, _, _, e7 _ _ upd_same, by omega, by omega, .inr ⟨c, rfl, hc⟩⟩ ?_
          exact ((k2.trans (Keep.of (e4.trans (e5.trans e6)))).upd).trans (Keep.of e7)
        · have g := hc
          have hp4 := e4 _ _ hp2
          refine q_asg (ev_op (ev_int1 (ev_op (ev_op (ev_op (ev_op (ev_var rfl) ev_c (rv_ixL (sq_of hp4) (atI_nat (j := 1) rfl))) ev_c (rv_I (mulx_ok (a := cap) (b := 64) hc (by decide) (by unfold cap; decide)))) (ev_op (ev_op (ev_var rfl) ev_c (rv_ixL (sq_of hp4) (atI_nat (j := 2) rfl))) ev_c (rv_I (.inr ⟨by decide, by decide⟩))) rv_I0) ev_c rv_I0)) ev_c (rv_I (by show (0 : Int) < 2147483647; decide))) fun H5 e5 => ?_
          have b1 : 0 ≤ (c * 48271 + (c2 + 1) * 69621 + 11) % 2147483647 ∧ (c * 48271 + (c2 + 1) * 69621 + 11) % 2147483647 < 2147483647 := ⟨Int.emod_nonneg _ (by decide), Int.emod_lt_of_pos _ (by decide)⟩
          generalize (c * 48271 + (c2 + 1) * 69621 + 11) % 2147483647 = one at b1 ⊢
          have hp5 := e5 _ _ hp4
          refine q_asg (ev_op (ev_int1 (ev_op (ev_op (ev_var rfl) (ev_var rfl) (rv_I (.inl ⟨by omega, by omega⟩))) (ev_op (ev_op (ev_var rfl) ev_c (rv_ixL (sq_of hp5) (atI_nat (j := 2) rfl))) ev_c (rv_I (.inr ⟨by decide, by decide⟩))) rv_I0)) ev_c (rv_I (by show (0 : Int) < 2147483629; decide))) fun H6 e6 => ?_
          have b2 : 0 ≤ (one * one + (c2 + 1) * 7919) % 2147483629 ∧ (one * one + (c2 + 1) * 7919) % 2147483629 < 2147483629 := ⟨Int.emod_nonneg _ (by decide), Int.emod_lt_of_pos _ (by decide)⟩
          generalize (one * one + (c2 + 1) * 7919) % 2147483629 = two at b2 ⊢
          refine q_asg (ev_op (ev_int1 (ev_op (ev_op (ev_var rfl) (ev_var rfl) (rv_I (.inl ⟨by omega, by omega⟩))) (ev_op (ev_var rfl) ev_c (rv_I (.inr ⟨by decide, by decide⟩))) rv_I0)) ev_c (rv_I (by show (0 : Int) < 2147483587; decide))) fun H7 e7 => ?_
          refine s_ret (ev_op (ev_int1 (ev_op (ev_var rfl) ev_c (rv_I ⟨by decide, by decide⟩))) (ev_var rfl) (rv_I (by show 0 < size; omega))) fun H8 e8 => q _ H8 (Int.emod_nonneg _ (by omega)) (Int.emod_lt_of_pos _ (by omega)) ⟨_, _, _, e8 _ _ (e7 _ _ (e6 _ _ hp5)), by omega, by omega, .inr ⟨c, rfl, g⟩⟩ ?_
          exact k2.trans (Keep.of (e4.trans (e5.trans (e6.trans (e7.trans e8)))))
end
end Z
set_option maxHeartbeats 4000000
namespace Z
open PySem PySem.Spec PyProof.Rows L2 TL Evl
theorem at_int {α : Type} {xs : List α} {d : Int} (h0 : 0 ≤ d) (h1 : d < (xs.length : Int)) : ∃ v, atI xs d = some v ∧ v ∈ xs := by
  obtain ⟨j, rfl⟩ := Int.eq_ofNat_of_zero_le h0
  have hj : j < xs.length := by omega
  exact ⟨xs[j], atI_nat (List.getElem?_eq_getElem hj), List.getElem_mem hj⟩
abbrev CDraw (P : Program) (w : World) (K : PySem.W.Frag) (mg : Str → Option Value) (base : Heap) : Prop := Call P w K mg base 1 "_law_draw" ["bag", "size"] spDraw
def spPickS : Sp := fun vs H Q _ => ∃ (p : Addr) (n : Nat) (z : Str), vs = [.ref p, .str z] ∧ BagAt H p n ∧ n ≤ 100000000 ∧ 1 ≤ z.length ∧ z.length ≤ 1000 ∧ ∀ (c : Nat) (H' : Hp), BagAt H' p (n + 1) → Keep p H H' → Q (.str ⟨#[c]⟩) H'
def spPickL : Sp := fun vs H Q _ => ∃ (p : Addr) (n : Nat) (l : Addr) (xs : List V), vs = [.ref p, .ref l] ∧ BagAt H p n ∧ n ≤ 100000000 ∧ l ≠ p ∧ H l = some (.lst xs) ∧ 1 ≤ xs.length ∧ xs.length ≤ 1000 ∧ ∀ (v : V) (H' : Hp), v ∈ xs → BagAt H' p (n + 1) → Keep p H H' → Q v H'
def spMost : Sp := fun vs H Q _ => ∃ (p : Addr) (n : Nat) (a b : Int), vs = [.ref p, .int a, .int b] ∧ BagAt H p n ∧ n ≤ 100000000 ∧ ∀ (v : Int) (H' : Hp), v = a ∨ v = b → BagAt H' p (n + 1) → Keep p H H' → Q (.int v) H'
/-- a word of at most `most` signs; at most 1001 draws -/
def spWord : Sp := fun vs H Q _ => ∃ (p : Addr) (n : Nat) (z : Str) (least most : Int), vs = [.ref p, .str z, .int least, .int most] ∧ BagAt H p n ∧ n ≤ 90000000 ∧ 1 ≤ z.length ∧ z.length ≤ 1000 ∧ 0 ≤ least ∧ least ≤ most ∧ most ≤ 1000 ∧
  ∀ (t : Str) (H' : Hp), (t.length : Int) ≤ most → BagAt H' p (n + 1001) → Keep p H H' → Q (.str t) H'
def spBag (K : PySem.W.Frag) : Sp := fun vs H Q _ => ∃ (a : Addr) (ns : List Int) (i : Nat), vs = [.ref a, .int (i : Int)] ∧ SqL K H a (ns.map V.int) ∧ ns.length ≤ 63 ∧ i ≤ 63 ∧ (∀ z ∈ ns, z.natAbs < 2 ^ cap) ∧ ∀ (p : Addr) (H' : Hp), H p = none → Ex H H' → BagAt H' p 0 → Q (.ref p) H'
section
variable {P : Program} {w : World} {K : PySem.W.Frag} {mg : Str → Option Value} {base : Heap} {f : Addr} {fd : FuncData} {k : Nat}
theorem ok_law_pickS (T : Mg mg) (c_law_draw : CDraw P w K mg base) (F : FnP K "_law_pick" s_law_pick f fd) (gm : mg "_law_pick" = some (.ref f)) : Call P w K mg base 2 "_law_pick" ["bag", "things"] spPickS := by
  refine mk F gm (fun _ _ _ _ _ _ us hl => match us, hl with | [_, _], _ => rfl) (fun _ _ _ _ _ _ us hl => match us, hl with | [_, _], _ => rfl) sc_law_pick (fun vs H Q E h => ?_) (fun cdv A outer s H vs Q E hr h => ?_)
  · obtain ⟨p, n, z, rfl, _⟩ := h
    rfl
  · obtain ⟨p, n, z, rfl, hb, hn, h1, h2, q⟩ := h
    refine ⟨_, (pss_one (ps_ret (pe_ix ix_str (pv 1) (pe_f c_law_draw hr (by decide) rfl (pa_cons (pv 0) (pa_cons (pe_callB cz_len (by rfl) T.len (by decide +kernel) (pa_cons (pv 1) pa_nil)) pa_nil))) (fun _ _ => rfl)))), ?_⟩
    refine ⟨.str z, rfl, rd_call (ea_cons (ev_var rfl) (ea_cons (ev_lenStr (ev_var rfl) (by omega)) ea_nil)) fun H1 e1 => ⟨p, z.length, n, rfl, hb.ex e1, hn, by omega, by omega, fun d H' d0 d1 b' kp => ?_⟩⟩
    obtain ⟨c, g1, g2⟩ := at_int (xs := tl z) d0 (by rw [len_tl']; exact d1)
    exact ⟨z, d, c, rfl, rfl, sz_of (by omega), g1, q c H' b' ((Keep.of e1).trans kp)⟩
theorem ok_law_pickL (T : Mg mg) (c_law_draw : CDraw P w K mg base) (F : FnP K "_law_pick" s_law_pick f fd) (gm : mg "_law_pick" = some (.ref f)) : Call P w K mg base 2 "_law_pick" ["bag", "things"] spPickL := by
  refine mk F gm (fun _ _ _ _ _ _ us hl => match us, hl with | [_, _], _ => rfl) (fun _ _ _ _ _ _ us hl => match us, hl with | [_, _], _ => rfl) sc_law_pick (fun vs H Q E h => ?_) (fun cdv A outer s H vs Q E hr h => ?_)
  · obtain ⟨p, n, l, xs, rfl, _⟩ := h
    rfl
  · obtain ⟨p, n, l, xs, rfl, hb, hn, hlp, hl, h1, h2, q⟩ := h
    refine ⟨_, (pss_one (ps_ret (pe_ix ix_list (pv 1) (pe_f c_law_draw hr (by decide) rfl (pa_cons (pv 0) (pa_cons (pe_callB call_len_seq (by rfl) T.len (by decide +kernel) (pa_cons (pv 1) pa_nil)) pa_nil))) (fun _ _ => rfl)))), ?_⟩
    refine ⟨.ref l, rfl, .ref p, rfl, .ref l, rfl, l, xs, rfl, .inl (sq_of hl), p, xs.length, n, rfl, hb, hn, by omega, by omega, fun d H' d0 d1 b' kp => ?_⟩
    obtain ⟨c, g1, g2⟩ := at_int (xs := xs) d0 d1
    exact ⟨l, xs, d, c, rfl, rfl, sq_of (kp _ _ hlp hl), g1, q c H' g2 b' kp⟩
theorem ok_law_most (T : Mg mg) (c_law_draw : CDraw P w K mg base) (F : FnP K "_law_most" s_law_most f fd) (gm : mg "_law_most" = some (.ref f)) : Call P w K mg base 2 "_law_most" ["bag", "small", "large"] spMost := by
  refine mk F gm (fun _ _ _ _ _ _ us hl => match us, hl with | [_, _, _], _ => rfl) (fun _ _ _ _ _ _ us hl => match us, hl with | [_, _, _], _ => rfl) sc_law_most (fun vs H Q E h => ?_) (fun cdv A outer s H vs Q E hr h => ?_)
  · obtain ⟨p, n, a, b, rfl, _⟩ := h
    rfl
  · obtain ⟨p, n, a, b, rfl, hb, hn, q⟩ := h
    refine ⟨_, (pss_cons (ps_if (pt_cmpR op_eq (pe_f c_law_draw hr (by decide) rfl (pa_cons (pv 0) (pa_cons pe_int pa_nil))) pe_int (nomark _))
      (pss_one (ps_ret (pv 2)))
      pss_nil)
    (pss_one (ps_ret (pv 1)))), ?_⟩
    refine rd_call (ea_cons (ev_var rfl) (ea_cons ev_c ea_nil)) fun H1 e1 => ⟨p, 8, n, rfl, hb.ex e1, hn, by decide, by decide, fun d H' d0 d1 b' kp => ⟨rfl, _, rfl, ite2 (fun _ => ?_) (fun _ => ?_)⟩⟩
    · exact ⟨.int b, rfl, q b H' (.inr rfl) b' ((Keep.of e1).trans kp)⟩
    · exact ⟨.int a, rfl, q a H' (.inl rfl) b' ((Keep.of e1).trans kp)⟩
theorem sum_ones : ∀ ys : List Str, (∀ y ∈ ys, y.length = 1) → (ys.map (·.length)).sum = ys.length
  | [], _ => rfl
  | y :: r, h => by
    rw [List.map_cons, List.sum_cons, sum_ones r fun x hx => h x (List.mem_cons_of_mem _ hx), h y List.mem_cons_self, List.length_cons]
    omega
theorem join_len (sep : Str) (ys : List Str) : (Txt.join sep ys).length ≤ (ys.map (·.length)).sum + ys.length * sep.length := by
  rw [join_eq]
  exact StrLaws.join_length_le sep ys
theorem ok_law_word (T : Mg mg) (c_law_draw : CDraw P w K mg base) (F : FnP K "_law_word" s_law_word f fd) (gm : mg "_law_word" = some (.ref f)) : Call P w K mg base 2 "_law_word" ["bag", "signs", "least", "most"] spWord := by
  refine mk F gm (fun _ _ _ _ _ _ us hl => match us, hl with | [_, _, _, _], _ => rfl) (fun _ _ _ _ _ _ us hl => match us, hl with | [_, _, _, _], _ => rfl) sc_law_word (fun vs H Q E h => ?_) (fun cdv A outer s H vs Q E hr h => ?_)
  · obtain ⟨p, n, z, a, b, rfl, _⟩ := h
    rfl
  · obtain ⟨p, n, z, a, b, rfl, hb, hn, h1, h2, h3, h4, h5, q⟩ := h
    refine ⟨_, (pss_cons (ps_set (i := 4) sc_law_word.nd rfl (Or.inl rfl) (pe_op op_add (pv 2) (pe_f c_law_draw hr (by decide) rfl (pa_cons (pv 0) (pa_cons (pe_op op_add (pe_op op_sub (pv 3) (pv 2)) pe_int) pa_nil)))))
    (pss_one (ps_ret (pe_bm PySem.F.plainAttrs_str PySem.F.slot_str_join PySem.F.type_str_join mz_join pe_str (pa_cons (pe_lc (own := [("k", 5)]) (g := gName 5) (tt := tYes) rfl sc_law_word.nd (pi_range1 rfl T.range (pa_cons (pv 4) pa_nil)) (blkOk_by (N := ["bag", "signs", "least", "most", "size", "k"]) (sc := L2.defScope s_law_word) (by decide +kernel)) (fun _ _ _ _ _ => pg_name (i := 5) sc_law_word.nd rfl (Or.inl rfl)) (fun _ _ _ _ _ => pts_nil) (fun _ _ _ _ _ => (pe_ix ix_str (pv 1) (pe_f c_law_draw hr (by decide) rfl (pa_cons (pv 0) (pa_cons (pe_callB cz_len (by rfl) T.len (by decide +kernel) (pa_cons (pv 1) pa_nil)) pa_nil))) (fun _ _ => rfl)))) pa_nil))))), ?_⟩
    refine ⟨.int a, rfl, rd_call (ea_cons (ev_var rfl) (ea_cons (ev_op (ev_op (ev_var rfl) (ev_var rfl) rv_I0) ev_c rv_I0) ea_nil)) fun H1 e1 => ⟨p, b - a + 1, n, rfl, hb.ex e1, by omega, by omega, by omega, fun d H2 d0 d1 b2 kp => ⟨a, d, rfl, rfl, ?_⟩⟩⟩
    have kp2 := (Keep.of e1).trans kp
    refine ⟨rfl, .int (a + d), rfl, a + d, rfl, by omega, by omega, fun D hD => ?_⟩
    have hDp : D ≠ p := fun e => by
      obtain ⟨xs, g⟩ := b2.some
      rw [e, g] at hD
      cases hD
    have hD0 : H D = none := kp2.free b2 hD
    refine lc_range (lo := 0) (n := (a + d).toNat) (fun i H' => ∃ acc : List Str, H' D = some (.lst (acc.map V.str)) ∧ acc.length = i ∧ (∀ y ∈ acc, y.length = 1) ∧ BagAt H' p (n + 1 + i) ∧ Keep p H H') ⟨[], upd_same, rfl, (fun _ h => by cases h), ?_, ?_⟩ (fun i H' hi pv => ?_) (fun H' pv => ?_)
    · obtain ⟨c0, cv, c2, g, r⟩ := b2
      exact ⟨c0, cv, c2, by rw [upd_ne (Ne.symm hDp)]; exact g, r⟩
    · intro c o hc ho
      rw [upd_ne (ne_of_none ho hD0)]
      exact kp2 c o hc ho
    · obtain ⟨acc, hA, hl, hone, hbg, hk⟩ := pv
      refine ⟨rfl, ?_⟩
      unfold tYes
      dsimp only
      rw [if_pos rfl]
      refine ⟨.str z, rfl, rd_call (ea_cons (ev_var rfl) (ea_cons (ev_lenStr (ev_var rfl) (by omega)) ea_nil)) fun H3 e3 => ⟨p, z.length, n + 1 + i, rfl, hbg.ex e3, by omega, by omega, by omega, fun d' H4 d0' d1' b4 kp4 => ?_⟩⟩
      obtain ⟨c, g1, g2⟩ := at_int (xs := tl z) d0' (by rw [len_tl']; exact d1')
      have hA4 : H4 D = some (.lst (acc.map V.str)) := kp4 _ _ hDp (e3 _ _ hA)
      refine ⟨z, d', c, rfl, rfl, sz_of (by omega), g1, _, hA4, sz_lt (by rw [List.length_map]; omega), acc ++ [⟨#[c]⟩], ?_, ?_, ?_, ?_, ?_⟩
      · rw [upd_same, List.map_append]
        rfl
      · rw [List.length_append, hl]
        rfl
      · intro y hy
        rcases List.mem_append.mp hy with hy | hy
        · exact hone y hy
        · rw [List.mem_singleton.mp hy]
          rfl
      · obtain ⟨c0, cv, c2, g, r⟩ := b4
        exact ⟨c0, cv, c2, by rw [upd_ne (Ne.symm hDp)]; exact g, r⟩
      · intro b o hc ho
        rw [upd_ne (ne_of_none ho hD0)]
        exact kp4 _ _ hc (e3 _ _ (hk _ _ hc ho))
    · obtain ⟨acc, hA, hl, hone, hbg, hk⟩ := pv
      have hsum := sum_ones acc hone
      have e0 : (("" : Str)).length = 0 := by decide +kernel
      refine ⟨"", D, acc, rfl, rfl, .inl (sq_of hA), by rw [hsum, e0]; omega, q _ _ ?_ (hbg.mono (by omega)) hk⟩
      have := join_len "" acc
      rw [hsum, e0] at this
      omega
theorem ok_law_bag (T : Mg mg) (F : FnP K "_law_bag" s_law_bag f fd) (gm : mg "_law_bag" = some (.ref f)) : Call P w K mg base 1 "_law_bag" ["script", "k"] (spBag K) := by
  refine mk F gm (fun _ _ _ _ _ _ us hl => match us, hl with | [_, _], _ => rfl) (fun _ _ _ _ _ _ us hl => match us, hl with | [_, _], _ => rfl) sc_law_bag (fun vs H Q E h => ?_) (fun cdv A outer s H vs Q E hr h => ?_)
  · obtain ⟨a, ns, i, rfl, _⟩ := h
    rfl
  · obtain ⟨a, ns, i, rfl, hS, hl, hi, hb, q⟩ := h
    refine ⟨_, (pss_cons (ps_if (pt_not (pt_truth (pv 0) (by intro _; rfl)))
      (pss_one (ps_ret (pe_lst (pa_cons pe_int (pa_cons pe_non (pa_cons pe_int pa_nil))))))
      pss_nil)
    (pss_cons (ps_set (i := 2) sc_law_bag.nd rfl (Or.inl rfl) (pe_op op_add (pe_op op_mod (pe_callTy cz_int1 (by rfl) T.int (by decide +kernel) (pa_cons (pe_callB (cr_sum rfl) (by rfl) T.sum (by decide +kernel) (pa_cons (pv 0) pa_nil)) pa_nil)) pe_int) (pe_op op_mul pe_int (pv 1))))
    (pss_cons (ps_if (pt_cmpR op_lt (pv 1) (pe_callB call_len_seq (by rfl) T.len (by decide +kernel) (pa_cons (pv 0) pa_nil)) (nomark _))
      (pss_one (ps_set (i := 2) sc_law_bag.nd rfl (Or.inl rfl) (pe_ix ix_list (pv 0) (pv 1) (fun _ _ => rfl))))
      pss_nil)
    (pss_one (ps_ret (pe_lst (pa_cons (pe_op op_sub (pe_callB call_abs (by rfl) T.abs (by decide +kernel) (pa_cons (pv 2) pa_nil)) (pe_op op_pow pe_int pe_int)) (pa_cons (pv 2) (pa_cons pe_int pa_nil))))))))), ?_⟩
    have hbig : ∀ m : Int, m.natAbs ≤ 2000000 → m.natAbs < 2 ^ cap := fun m hm => Nat.lt_of_le_of_lt hm (Nat.lt_of_lt_of_le (show 2000000 < 2 ^ 64 by decide) (Nat.pow_le_pow_right (by decide) (by unfold cap; decide)))
    have last : ∀ (cell : Int) (H1 : Hp), Ex H H1 → cell.natAbs < 2 ^ cap → (tRet (tLst (tCons (tOp (rI0 fun i j => .int (i - j)) (tCB (fun xs H Q => ∃ i, xs = [.int i] ∧ Q (.int (if i < 0 then -i else i)) H) (tCons (tVar 2) tNil)) (tOp (rI CPow fun i j => .int (i ^ j.toNat)) (tC (.int 10)) (tC (.int 18)))) (tCons (tVar 2) (tCons (tC (.int 0)) tNil))))) { nx := fun _ H' => Q .non H', rt := Q } [some (.ref a), some (.int (i : Int)), some (.int cell)] H1 := fun cell H1 e1 hc => by
      refine ⟨.int cell, rfl, cell, rfl, 10, 18, rfl, rfl, ⟨by decide, by decide, by decide⟩, _, _, rfl, rfl, .int cell, rfl, by show 3 ≤ sizeLine; decide, fun p hp => q p _ (fresh_back e1 hp) (e1.trans (Ex.new hp)) ⟨_, _, 0, upd_same, Int.le_refl 0, Int.le_refl 0, .inr ⟨cell, rfl, hc⟩⟩⟩
    cases ns with
    | nil =>
      refine ⟨.ref a, rfl, false, .inl ⟨[], hS, rfl⟩, iteT ?_⟩
      exact ⟨by show 3 ≤ sizeLine; decide, fun p hp => q p _ hp (Ex.new hp) ⟨0, .non, 0, upd_same, Int.le_refl 0, Int.le_refl 0, .inl rfl⟩⟩
    | cons c0 r =>
      refine ⟨.ref a, rfl, true, .inl ⟨_, hS, rfl⟩, iteF ?_⟩
      refine ⟨.ref a, rfl, a, c0 :: r, rfl, hS, .inl ⟨_, rfl, _, _, rfl, rfl, (by show (0 : Int) < 1000003; decide), .int (i : Int), rfl, _, _, rfl, rfl, .inl ⟨by decide, by decide⟩, _, _, rfl, rfl, ?_⟩⟩
      have hm : 0 ≤ (c0 :: r).sum % 1000003 ∧ (c0 :: r).sum % 1000003 < 1000003 := ⟨Int.emod_nonneg _ (by decide), Int.emod_lt_of_pos _ (by decide)⟩
      generalize (c0 :: r).sum % 1000003 = m at hm ⊢
      refine ⟨.int (i : Int), rfl, .ref a, rfl, a, (c0 :: r).map V.int, rfl, .inl hS, _, _, rfl, rfl, _, rfl, ite2 (fun hlt => ?_) (fun hge => ?_)⟩
      · have hlt := of_decide_eq_true hlt
        rw [List.length_map] at hlt
        have hi2 : i < (c0 :: r).length := by omega
        refine ⟨.ref a, rfl, .int (i : Int), rfl, a, (c0 :: r).map V.int, _, .int (c0 :: r)[i], rfl, rfl, hS, atI_nat (by rw [List.getElem?_map, List.getElem?_eq_getElem hi2]; rfl), ?_⟩
        exact last _ H (Ex.refl H) (hb _ (List.getElem_mem hi2))
      · exact last _ H (Ex.refl H) (hbig _ (by omega))
end
end Z
set_option maxHeartbeats 4000000
namespace Z
open PySem PySem.Spec PyProof.Rows L2 TL Evl
def spList : Sp := fun vs H Q _ => ∃ (p : Addr) (n : Nat), vs = [.ref p] ∧ BagAt H p n ∧ n ≤ 80000000 ∧ ∀ (t : Str) (H' : Hp), t.length ≤ 100 → BagAt H' p (n + 10000) → Keep p H H' → Q (.str t) H'
def spText : Sp := fun vs H Q _ => ∃ (p : Addr) (n : Nat), vs = [.ref p] ∧ BagAt H p n ∧ n ≤ 1000 ∧ ∀ (t : Str) (H' : Hp), t.length ≤ 1500 → BagAt H' p (n + 100000) → Keep p H H' → Q (.str t) H'
def spSpoilt : Sp := fun vs H Q _ => ∃ (p : Addr) (n : Nat) (z : Str), vs = [.ref p, .str z] ∧ BagAt H p n ∧ n ≤ 1000000 ∧ z.length ≤ 1500 ∧ ∀ (t : Str) (H' : Hp), t.length ≤ 4000 → BagAt H' p (n + 3) → Keep p H H' → Q (.str t) H'
def spLaw (K : PySem.W.Frag) : Sp := fun vs H Q _ => ∃ (a : Addr) (ns : List Int), vs = [.ref a] ∧ SqL K H a (ns.map V.int) ∧ ns.length ≤ 63 ∧ (∀ z ∈ ns, z.natAbs < 2 ^ cap) ∧ ∀ H', Q (.bl true) H'
theorem BagAt.new {H : Hp} {p l : Addr} {n : Nat} {o : HO} (b : BagAt H p n) (h : H l = none) : BagAt (upd H l o) p n ∧ l ≠ p := by
  obtain ⟨xs, g⟩ := b.some
  exact ⟨b.ex (Ex.new h), fun e => by rw [e, g] at h; cases h⟩
theorem strs_in {ss : List Str} {v : V} (h : v ∈ ss.map V.str) : ∃ x, v = .str x ∧ x ∈ ss := by
  obtain ⟨x, hx, e⟩ := List.mem_map.mp h
  exact ⟨x, e.symm, hx⟩
theorem ints_in {ss : List Int} {v : V} (h : v ∈ ss.map V.int) : ∃ x, v = .int x ∧ x ∈ ss := by
  obtain ⟨x, hx, e⟩ := List.mem_map.mp h
  exact ⟨x, e.symm, hx⟩
theorem sum_most : ∀ (ys : List Str) (m : Nat), (∀ y ∈ ys, y.length ≤ m) → (ys.map (·.length)).sum ≤ ys.length * m
  | [], _, _ => Nat.zero_le _
  | y :: r, m, h => by
    have h1 := sum_most r m fun x hx => h x (List.mem_cons_of_mem _ hx)
    have h2 := h y List.mem_cons_self
    rw [List.map_cons, List.sum_cons, List.length_cons, Nat.succ_mul]
    omega
section
variable {P : Program} {w : World} {K : PySem.W.Frag} {mg : Str → Option Value} {base : Heap} {f : Addr} {fd : FuncData} {k : Nat}
abbrev CPickL (P : Program) (w : World) (K : PySem.W.Frag) (mg : Str → Option Value) (base : Heap) : Prop := Call P w K mg base 2 "_law_pick" ["bag", "things"] spPickL
abbrev CPickS (P : Program) (w : World) (K : PySem.W.Frag) (mg : Str → Option Value) (base : Heap) : Prop := Call P w K mg base 2 "_law_pick" ["bag", "things"] spPickS
abbrev CMost (P : Program) (w : World) (K : PySem.W.Frag) (mg : Str → Option Value) (base : Heap) : Prop := Call P w K mg base 2 "_law_most" ["bag", "small", "large"] spMost
abbrev CWord (P : Program) (w : World) (K : PySem.W.Frag) (mg : Str → Option Value) (base : Heap) : Prop := Call P w K mg base 2 "_law_word" ["bag", "signs", "least", "most"] spWord
theorem ok_law_list (T : Mg mg) (c_law_draw : CDraw P w K mg base) (c_law_pickL : CPickL P w K mg base) (c_law_word : CWord P w K mg base) (F : FnP K "_law_list" s_law_list f fd) (gm : mg "_law_list" = some (.ref f)) : Call P w K mg base 3 "_law_list" ["bag"] spList := by
  refine mk F gm (fun _ _ _ _ _ _ us hl => match us, hl with | [_], _ => rfl) (fun _ _ _ _ _ _ us hl => match us, hl with | [_], _ => rfl) sc_law_list (fun vs H Q E h => ?_) (fun cdv A outer s H vs Q E hr h => ?_)
  · obtain ⟨p, n, rfl, _⟩ := h
    rfl
  · obtain ⟨p, n, rfl, hb, hn, q⟩ := h
    refine ⟨_, (pss_cons (ps_set (i := 1) sc_law_list.nd rfl (Or.inl rfl) (pe_lst pa_nil))
    (pss_cons (ps_for PassesOwn.never rfl (pi_range1 rfl T.range (pa_cons (pe_f c_law_pickL hr (by decide) rfl (pa_cons (pv 0) (pa_cons (pe_lst (pa_cons pe_int (pa_cons pe_int (pa_cons pe_int (pa_cons pe_int (pa_cons pe_int (pa_cons pe_int pa_nil))))))) pa_nil))) pa_nil)) (pg_name (i := 2) sc_law_list.nd rfl (Or.inl rfl))
      (pss_cons (ps_set (i := 3) sc_law_list.nd rfl (Or.inl rfl) (pe_op oz_rep pe_str (pe_f c_law_draw hr (by decide) rfl (pa_cons (pv 0) (pa_cons pe_int pa_nil)))))
      (pss_cons (ps_set (i := 4) sc_law_list.nd rfl (Or.inl rfl) (pe_f c_law_word hr (by decide) rfl (pa_cons (pv 0) (pa_cons pe_str (pa_cons pe_int (pa_cons pe_int pa_nil))))))
      (pss_one (ps_expr (pe_bm PySem.F.plainAttrs_list PySem.F.slot_list_append PySem.F.type_list_append mt_append (pv 1) (pa_cons (pe_op oz_add (pe_op oz_add (pv 3) (pv 4)) (pe_op oz_rep pe_str (pe_f c_law_draw hr (by decide) rfl (pa_cons (pv 0) (pa_cons pe_int pa_nil))))) pa_nil)))))))
    (pss_one (ps_ret (pe_bm PySem.F.plainAttrs_str PySem.F.slot_str_join PySem.F.type_str_join mz_join pe_str (pa_cons (pv 1) pa_nil)))))), ?_⟩
    refine q_asgL (el_lst ea_nil (by decide)) fun l H1 nl e1 h1 => ?_
    have nlp : l ≠ p := (hb.new nl (o := .lst [])).2
    refine ⟨.ref p, rfl, by show 6 ≤ sizeLine; decide, fun m nm => ?_⟩
    obtain ⟨bm, nmp⟩ := (hb.ex e1).new nm (o := .lst ([3, 1, 2, 4, 5, 6].map V.int))
    refine ⟨p, n, m, [3, 1, 2, 4, 5, 6].map V.int, rfl, bm, by omega, nmp, upd_same, by decide, by decide, fun v H2 hv b2 k2 => ?_⟩
    obtain ⟨j, rfl, hj⟩ := ints_in hv
    have hj2 : 1 ≤ j ∧ j ≤ 6 := by
      simp only [List.mem_cons, List.not_mem_nil, or_false] at hj
      omega
    have kp2 : Keep p H H2 := (Keep.of (e1.trans (Ex.new nm))).trans k2
    have hl2 : H2 l = some (.lst []) := k2 _ _ nlp (by rw [upd_ne (ne_of_none h1 nm)]; exact h1)
    refine ⟨j, rfl, by omega, by omega, for_range (lo := 0) (n := j.toNat) (fun i σ' H' => (∃ v2 v3 v4, σ' = [some (.ref p), some (.ref l), v2, v3, v4]) ∧ (∃ acc : List Str, H' l = some (.lst (acc.map V.str)) ∧ acc.length = i ∧ ∀ y ∈ acc, y.length ≤ 10) ∧ BagAt H' p (n + 1 + 1100 * i) ∧ Keep p H H')
      ⟨⟨none, none, none, rfl⟩, ⟨[], hl2, rfl, fun y h => by cases h⟩, b2, kp2⟩ (fun i σ' H' hi pv => ?_) (fun σ' H' pv => ?_)⟩
    · obtain ⟨⟨v2, v3, v4, rfl⟩, ⟨acc, hA, hl, hm⟩, bg, kp⟩ := pv
      -- before
      refine rd_call (ea_cons (ev_var rfl) (ea_cons ev_c ea_nil)) fun H3 e3 => ⟨p, 3, _, rfl, bg.ex e3, by omega, by decide, by decide, fun d H4 d0 d1 b4 k4 => ⟨" ", d, rfl, rfl, d0, by omega, by decide +kernel, ?_⟩⟩
      have hA4 := k4 _ _ nlp (e3 _ _ hA)
      have kp4 := kp.trans ((Keep.of e3).trans k4)
      have lb : (repS " " d.toNat).length ≤ 2 := by
        rw [repS_len, show ((" " : Str)).length = 1 by decide +kernel]
        omega
      generalize repS " " d.toNat = before at lb ⊢
      -- word
      refine rd_call (ea_cons (ev_var rfl) (ea_cons ev_c (ea_cons ev_c (ea_cons ev_c ea_nil)))) fun H5 e5 => ⟨p, _, _, 0, 3, rfl, b4.ex e5, by omega, by decide +kernel, by decide +kernel, by decide, by decide, by decide, fun t H6 ht b6 k6 => ?_⟩
      have hA6 := k6 _ _ nlp (e5 _ _ hA4)
      have kp6 := kp4.trans ((Keep.of e5).trans k6)
      -- parts.append(before + word + ' ' * draw)
      refine ⟨.ref l, rfl, .inl ⟨rfl, _, sq_of hA6⟩, .str before, rfl, .str t, rfl, before, t, rfl, rfl, Nat.le_trans (show before.length + t.length ≤ 100 by omega) (by decide), ?_⟩
      refine rd_call (ea_cons (ev_var rfl) (ea_cons ev_c ea_nil)) fun H7 e7 => ⟨p, 3, _, rfl, b6.ex e7, by omega, by decide, by decide, fun d2 H8 d20 d21 b8 k8 => ⟨" ", d2, rfl, rfl, d20, by omega, by decide +kernel, ?_⟩⟩
      have lb2 : (repS " " d2.toNat).length ≤ 2 := by
        rw [repS_len, show ((" " : Str)).length = 1 by decide +kernel]
        omega
      generalize repS " " d2.toNat = after at lb2 ⊢
      have lbt : (before ++ t).length ≤ 5 := by
        rw [Str.length_append]
        omega
      refine ⟨before ++ t, after, rfl, rfl, Nat.le_trans (show (before ++ t).length + after.length ≤ 100 by omega) (by decide), l, _, _, rfl, rfl, k8 _ _ nlp (e7 _ _ hA6), sz_lt (by rw [List.length_map]; omega), ⟨_, _, _, rfl⟩, ⟨acc ++ [before ++ t ++ after], ?_, ?_, ?_⟩, ?_, ?_⟩
      · rw [upd_same, List.map_append]
        rfl
      · rw [List.length_append, hl]
        rfl
      · intro y hy
        rcases List.mem_append.mp hy with hy | hy
        · exact hm y hy
        · rw [List.mem_singleton.mp hy, Str.length_append]
          omega
      · obtain ⟨c0, cv, c2, g, r⟩ := b8
        exact BagAt.mono (n := n + 1 + 1100 * i + 1 + 1001 + 1) ⟨c0, cv, c2, by rw [upd_ne (Ne.symm nlp)]; exact g, r⟩ (by omega)
      · intro b o hc ho
        rw [upd_ne (ne_of_none ho nl)]
        exact k8 _ _ hc (e7 _ _ (kp6 _ _ hc ho))
    · obtain ⟨⟨v2, v3, v4, rfl⟩, ⟨acc, hA, hl, hm⟩, bg, kp⟩ := pv
      have hs := sum_most acc 10 hm
      have h1 : ((",") : Str).length = 1 := by decide +kernel
      refine ⟨rfl, .ref l, rfl, ",", l, acc, rfl, rfl, .inl (sq_of hA), by rw [h1]; omega, q _ _ ?_ (bg.mono (by omega)) kp⟩
      have := join_len "," acc
      rw [h1] at this
      omega
theorem ok_law_spoilt (T : Mg mg) (c_law_draw : CDraw P w K mg base) (c_law_pickS : CPickS P w K mg base) (c_law_signs : Call P w K mg base 1 "_law_signs" [] (sp0 (.str signs))) (F : FnP K "_law_spoilt" s_law_spoilt f fd) (gm : mg "_law_spoilt" = some (.ref f)) : Call P w K mg base 3 "_law_spoilt" ["bag", "text"] spSpoilt := by
  refine mk F gm (fun _ _ _ _ _ _ us hl => match us, hl with | [_, _], _ => rfl) (fun _ _ _ _ _ _ us hl => match us, hl with | [_, _], _ => rfl) sc_law_spoilt (fun vs H Q E h => ?_) (fun cdv A outer s H vs Q E hr h => ?_)
  · obtain ⟨p, n, z, rfl, _⟩ := h
    rfl
  · obtain ⟨p, n, z, rfl, hb, hn, hz, q⟩ := h
    refine ⟨_, (pss_cons (ps_set (i := 2) sc_law_spoilt.nd rfl (Or.inl rfl) (pe_f c_law_draw hr (by decide) rfl (pa_cons (pv 0) (pa_cons pe_int pa_nil))))
    (pss_cons (ps_set (i := 3) sc_law_spoilt.nd rfl (Or.inl rfl) (pe_f c_law_draw hr (by decide) rfl (pa_cons (pv 0) (pa_cons (pe_op op_add (pe_callB cz_len (by rfl) T.len (by decide +kernel) (pa_cons (pv 1) pa_nil)) pe_int) pa_nil))))
    (pss_cons (ps_set (i := 4) sc_law_spoilt.nd rfl (Or.inl rfl) (pe_f c_law_pickS hr (by decide) rfl (pa_cons (pv 0) (pa_cons (pe_op oz_add (pe_f0 c_law_signs hr (by decide) rfl) pe_str) pa_nil))))
    (pss_cons (ps_if (pt_cmpR op_eq (pv 2) pe_int (nomark _))
      (pss_one (ps_ret (pe_op oz_add (pe_op oz_add (pe_slice sl_str (pv 1) po_none (po_some (pv 3))) (pv 4)) (pe_slice sl_str (pv 1) (po_some (pv 3)) po_none))))
      pss_nil)
    (pss_cons (ps_if (pt_cmpR op_eq (pv 2) pe_int (nomark _))
      (pss_one (ps_ret (pe_op oz_add (pe_op oz_add (pe_slice sl_str (pv 1) po_none (po_some (pv 3))) (pv 4)) (pe_slice sl_str (pv 1) (po_some (pe_op op_add (pv 3) pe_int)) po_none))))
      pss_nil)
    (pss_one (ps_ret (pv 1)))))))), ?_⟩
    refine rd_call (ea_cons (ev_var rfl) (ea_cons ev_c ea_nil)) fun H1 e1 => ⟨p, 3, _, rfl, hb.ex e1, by omega, by decide, by decide, fun d1 H2 _ _ b2 k2 => ?_⟩
    refine rd_call (ea_cons (ev_var rfl) (ea_cons (ev_op (ev_lenStr (ev_var rfl) (by omega)) ev_c rv_I0) ea_nil)) fun H3 e3 => ⟨p, _, _, rfl, b2.ex e3, by omega, by omega, by omega, fun d2 H4 _ _ b4 k4 => ?_⟩
    refine rd_call (ea_cons (ev_var rfl) (ea_cons (ev_op (ev_call ea_nil sv0) ev_c (rv_addS (by decide +kernel))) ea_nil)) fun H5 e5 => ⟨p, _, _, rfl, b4.ex e5, by omega, by decide +kernel, by decide +kernel, fun c H6 b6 k6 => ?_⟩
    have kp : Keep p H H6 := (Keep.of e1).trans (k2.trans ((Keep.of e3).trans (k4.trans ((Keep.of e5).trans k6))))
    have one : ((⟨#[c]⟩ : Str)).length = 1 := rfl
    refine q_when (et_test (ev_op (ev_var rfl) ev_c rv_eqI)) (fun _ H7 e7 => ?_) (fun _ H7 e7 => ?_)
    · have l1 := cut_len z none (some d2)
      have l2 := cut_len z (some d2) none
      refine s_ret (ev_op (ev_op (ev_slS (ev_var rfl) eo_none (eo_some (ev_var rfl)) (by omega)) (ev_var rfl) (rv_addS (by omega))) (ev_slS (ev_var rfl) (eo_some (ev_var rfl)) eo_none (by omega)) (rv_addS (by rw [Str.length_append]; omega))) fun H8 e8 => q _ H8 (by rw [Str.length_append, Str.length_append]; omega) ((b6.ex e7).ex e8) (kp.trans (Keep.of (e7.trans e8)))
    · refine q_when (et_test (ev_op (ev_var rfl) ev_c rv_eqI)) (fun _ H8 e8 => ?_) (fun _ H8 e8 => ?_)
      · have l1 := cut_len z none (some d2)
        have l2 := cut_len z (some (d2 + 1)) none
        refine s_ret (ev_op (ev_op (ev_slS (ev_var rfl) eo_none (eo_some (ev_var rfl)) (by omega)) (ev_var rfl) (rv_addS (by omega))) (ev_slS (ev_var rfl) (eo_some (ev_op (ev_var rfl) ev_c rv_I0)) eo_none (by omega)) (rv_addS (by rw [Str.length_append]; omega))) fun H9 e9 => q _ H9 (by rw [Str.length_append, Str.length_append]; omega) (((b6.ex e7).ex e8).ex e9) (kp.trans (Keep.of (e7.trans (e8.trans e9))))
      · exact s_ret (ev_var rfl) fun H9 e9 => q _ H9 (by omega) (((b6.ex e7).ex e8).ex e9) (kp.trans (Keep.of (e7.trans (e8.trans e9))))
end
end Z
set_option maxHeartbeats 8000000
namespace Z
open PySem PySem.Spec PyProof.Rows L2 TL Evl
theorem short_in {ss : List Str} {m : Nat} (h : ss.all (fun x => decide (x.length ≤ m)) = true) {x : Str} (hx : x ∈ ss) : x.length ≤ m := of_decide_eq_true (List.all_eq_true.mp h x hx)
section
variable {P : Program} {w : World} {K : PySem.W.Frag} {mg : Str → Option Value} {base : Heap} {f : Addr} {fd : FuncData} {k : Nat}
theorem ok_law_text (T : Mg mg) (c_law_draw : CDraw P w K mg base) (c_law_pickL : CPickL P w K mg base) (c_law_most : CMost P w K mg base) (c_law_word : CWord P w K mg base) (c_law_list : Call P w K mg base 3 "_law_list" ["bag"] spList) (c_law_letters : Call P w K mg base 1 "_law_letters" [] (sp0 (.str letters))) (c_law_signs : Call P w K mg base 1 "_law_signs" [] (sp0 (.str signs)))
    (F : FnP K "_law_text" s_law_text f fd) (gm : mg "_law_text" = some (.ref f)) : Call P w K mg base 4 "_law_text" ["bag"] spText := by
  refine mk F gm (fun _ _ _ _ _ _ us hl => match us, hl with | [_], _ => rfl) (fun _ _ _ _ _ _ us hl => match us, hl with | [_], _ => rfl) sc_law_text (fun vs H Q E h => ?_) (fun cdv A outer s H vs Q E hr h => ?_)
  · obtain ⟨p, n, rfl, _⟩ := h
    rfl
  · obtain ⟨p, n, rfl, hb, hn, q⟩ := h
    refine ⟨_, (pss_cons (ps_set (i := 1) sc_law_text.nd rfl (Or.inl rfl) pe_str)
    (pss_cons (ps_set (i := 2) sc_law_text.nd rfl (Or.inl rfl) (pe_f0 c_law_letters hr (by decide) rfl))
    (pss_cons (ps_set (i := 3) sc_law_text.nd rfl (Or.inl rfl) (pe_f c_law_draw hr (by decide) rfl (pa_cons (pv 0) (pa_cons pe_int pa_nil))))
    (pss_cons (ps_if (pt_cmpR op_eq (pv 3) pe_int (nomark _))
      (pss_one (ps_ret (pe_f c_law_list hr (by decide) rfl (pa_cons (pv 0) pa_nil))))
      pss_nil)
    (pss_cons (ps_if (pt_cmpR op_eq (pv 3) pe_int (nomark _))
      (pss_one (ps_ret (pe_op oz_add (pe_f c_law_pickL hr (by decide) rfl (pa_cons (pv 0) (pa_cons (pe_lst (pa_cons pe_str (pa_cons pe_str (pa_cons pe_str (pa_cons pe_str (pa_cons pe_str (pa_cons pe_str pa_nil))))))) pa_nil))) (pe_f c_law_word hr (by decide) rfl (pa_cons (pv 0) (pa_cons (pv 1) (pa_cons pe_int (pa_cons pe_int pa_nil))))))))
      pss_nil)
    (pss_cons (ps_if (pt_cmpR op_eq (pv 3) pe_int (nomark _))
      (pss_one (ps_ret (pe_op oz_add pe_str (pe_f c_law_word hr (by decide) rfl (pa_cons (pv 0) (pa_cons (pe_op oz_add (pe_op oz_add (pv 2) (pv 1)) pe_str) (pa_cons pe_int (pa_cons (pe_f c_law_most hr (by decide) rfl (pa_cons (pv 0) (pa_cons pe_int (pa_cons pe_int pa_nil)))) pa_nil))))))))
      pss_nil)
    (pss_cons (ps_if (pt_cmpR op_eq (pv 3) pe_int (nomark _))
      (pss_one (ps_ret (pe_op oz_add (pe_f c_law_word hr (by decide) rfl (pa_cons (pv 0) (pa_cons (pv 2) (pa_cons pe_int (pa_cons pe_int pa_nil))))) (pe_f c_law_word hr (by decide) rfl (pa_cons (pv 0) (pa_cons (pe_op oz_add (pe_op oz_add (pv 2) (pv 1)) pe_str) (pa_cons pe_int (pa_cons (pe_f c_law_most hr (by decide) rfl (pa_cons (pv 0) (pa_cons pe_int (pa_cons pe_int pa_nil)))) pa_nil))))))))
      pss_nil)
    (pss_cons (ps_if (pt_cmpR op_eq (pv 3) pe_int (nomark _))
      (pss_cons (ps_set (i := 4) sc_law_text.nd rfl (Or.inl rfl) (pe_lst (pa_cons pe_int (pa_cons pe_int (pa_cons pe_int (pa_cons pe_int (pa_cons pe_int (pa_cons pe_int (pa_cons pe_int (pa_cons pe_int (pa_cons pe_int (pa_cons pe_int (pa_cons pe_int (pa_cons pe_int pa_nil))))))))))))))
      (pss_one (ps_ret (pe_op oz_rep (pe_f c_law_pickL hr (by decide) rfl (pa_cons (pv 0) (pa_cons (pe_lst (pa_cons pe_str (pa_cons pe_str (pa_cons pe_str (pa_cons pe_str (pa_cons pe_str (pa_cons pe_str (pa_cons pe_str pa_nil)))))))) pa_nil))) (pe_f c_law_pickL hr (by decide) rfl (pa_cons (pv 0) (pa_cons (pv 4) pa_nil)))))))
      pss_nil)
    (pss_cons (ps_if (pt_cmpR op_eq (pv 3) pe_int (nomark _))
      (pss_cons (ps_set (i := 5) sc_law_text.nd rfl (Or.inl rfl) (pe_lst (pa_cons pe_str (pa_cons pe_str (pa_cons pe_str (pa_cons pe_str (pa_cons pe_str (pa_cons pe_str (pa_cons pe_str (pa_cons pe_str (pa_cons pe_str (pa_cons pe_str (pa_cons pe_str (pa_cons pe_str pa_nil))))))))))))))
      (pss_one (ps_ret (pe_f c_law_pickL hr (by decide) rfl (pa_cons (pv 0) (pa_cons (pe_op op_cat (pv 5) (pe_lst (pa_cons pe_str (pa_cons pe_str (pa_cons pe_str (pa_cons pe_str (pa_cons pe_str (pa_cons pe_str (pa_cons pe_str (pa_cons pe_str (pa_cons pe_str (pa_cons pe_str (pa_cons pe_str (pa_cons pe_str pa_nil)))))))))))))) pa_nil))))))
      pss_nil)
    (pss_cons (ps_if (pt_cmpR op_eq (pv 3) pe_int (nomark _))
      (pss_one (ps_ret (pe_f c_law_word hr (by decide) rfl (pa_cons (pv 0) (pa_cons (pe_f0 c_law_signs hr (by decide) rfl) (pa_cons pe_int (pa_cons (pe_f c_law_most hr (by decide) rfl (pa_cons (pv 0) (pa_cons pe_int (pa_cons pe_int pa_nil)))) pa_nil)))))))
      pss_nil)
    (pss_one (ps_ret (pe_f c_law_word hr (by decide) rfl (pa_cons (pv 0) (pa_cons (pe_op oz_add (pe_f0 c_law_signs hr (by decide) rfl) pe_str) (pa_cons pe_int (pa_cons pe_int pa_nil))))))))))))))))), ?_⟩
    refine q_asg ev_c fun H1 e1 => q_asg (ev_call ea_nil sv0) fun H2 e2 => ?_
    refine rd_call (ea_cons (ev_var rfl) (ea_cons ev_c ea_nil)) fun H3 e3 => ⟨p, 8, _, rfl, ((hb.ex e1).ex e2).ex e3, by omega, by decide, by decide, fun way H4 _ _ b4 k4 => ?_⟩
    have kp : Keep p H H4 := (Keep.of (e1.trans (e2.trans e3))).trans k4
    -- way 0
    refine q_when (et_test (ev_op (ev_var rfl) ev_c rv_eqI)) (fun _ H5 e5 => ?_) (fun _ H5 e5 => ?_)
    · exact rd_call (ea_cons (ev_var rfl) ea_nil) fun H6 e6 => ⟨p, _, rfl, (b4.ex e5).ex e6, by omega, fun t H7 ht b7 k7 => q t H7 (by omega) (b7.mono (by omega)) (kp.trans ((Keep.of (e5.trans e6)).trans k7))⟩
    have b4 := b4.ex e5
    have kp := kp.trans (Keep.of e5)
    clear e5 k4 e1 e2 e3
    -- way 1
    refine q_when (et_test (ev_op (ev_var rfl) ev_c rv_eqI)) (fun _ H6 e6 => ?_) (fun _ H6 e6 => ?_)
    · refine ⟨.ref p, rfl, by show 6 ≤ sizeLine; decide, fun m nm => ?_⟩
      obtain ⟨bm, nmp⟩ := (b4.ex e6).new nm (o := .lst ([("" : Str), "-", "--", "+", " ", "-0"].map V.str))
      refine ⟨p, _, m, [("" : Str), "-", "--", "+", " ", "-0"].map V.str, rfl, bm, by omega, nmp, upd_same, by decide, by decide, fun v H7 hv b7 k7 => ?_⟩
      obtain ⟨x, rfl, hx⟩ := strs_in hv
      have lx := short_in (m := 5) (by decide +kernel) hx
      refine rd_call (ea_cons (ev_var rfl) (ea_cons (ev_var rfl) (ea_cons ev_c (ea_cons ev_c ea_nil)))) fun H8 e8 => ⟨p, _, _, 0, 8, rfl, b7.ex e8, by omega, by decide +kernel, by decide +kernel, by decide, by decide, by decide, fun t H9 ht b9 k9 => ?_⟩
      refine ⟨x, t, rfl, rfl, Nat.le_trans (show x.length + t.length ≤ 100 by omega) (by decide), q _ H9 (by rw [Str.length_append]; omega) (b9.mono (by omega)) ?_⟩
      exact kp.trans ((Keep.of (e6.trans (Ex.new nm))).trans (k7.trans ((Keep.of e8).trans k9)))
    have b4 := b4.ex e6
    have kp := kp.trans (Keep.of e6)
    clear e6
    -- way 2
    refine q_when (et_test (ev_op (ev_var rfl) ev_c rv_eqI)) (fun _ H7 e7 => ?_) (fun _ H7 e7 => ?_)
    · refine ⟨.ref p, rfl, .str letters, rfl, .str "0123456789", rfl, letters, "0123456789", rfl, rfl, by decide +kernel, _, "/-.", rfl, rfl, by decide +kernel, ?_⟩
      refine rd_call (ea_cons (ev_var rfl) (ea_cons ev_c (ea_cons ev_c ea_nil))) fun H8 e8 => ⟨p, _, 5, 63, rfl, (b4.ex e7).ex e8, by omega, fun v H9 hv b9 k9 => ?_⟩
      refine ⟨p, _, _, 0, v, rfl, b9, by omega, by decide +kernel, by decide +kernel, by decide, by omega, by omega, fun t H10 ht b10 k10 => ?_⟩
      refine ⟨"/", t, rfl, rfl, Nat.le_trans (show (("/" : Str)).length + t.length ≤ 100 by rw [show (("/" : Str)).length = 1 by decide +kernel]; omega) (by decide), q _ H10 (by rw [Str.length_append, show (("/" : Str)).length = 1 by decide +kernel]; omega) (b10.mono (by omega)) ?_⟩
      exact kp.trans ((Keep.of (e7.trans e8)).trans (k9.trans k10))
    have b4 := b4.ex e7
    have kp := kp.trans (Keep.of e7)
    clear e7
    -- way 3
    refine q_when (et_test (ev_op (ev_var rfl) ev_c rv_eqI)) (fun _ H8 e8 => ?_) (fun _ H8 e8 => ?_)
    · refine rd_call (ea_cons (ev_var rfl) (ea_cons (ev_var rfl) (ea_cons ev_c (ea_cons ev_c ea_nil)))) fun H9 e9 => ⟨p, _, _, 1, 1, rfl, (b4.ex e8).ex e9, by omega, by decide +kernel, by decide +kernel, by decide, by decide, by decide, fun t0 H10 ht0 b10 k10 => ?_⟩
      refine ⟨.ref p, rfl, .str letters, rfl, .str "0123456789", rfl, letters, "0123456789", rfl, rfl, by decide +kernel, _, "-", rfl, rfl, by decide +kernel, ?_⟩
      refine rd_call (ea_cons (ev_var rfl) (ea_cons ev_c (ea_cons ev_c ea_nil))) fun H11 e11 => ⟨p, _, 5, 32, rfl, b10.ex e11, by omega, fun v H12 hv b12 k12 => ?_⟩
      refine ⟨p, _, _, 0, v, rfl, b12, by omega, by decide +kernel, by decide +kernel, by decide, by omega, by omega, fun t H13 ht b13 k13 => ?_⟩
      refine ⟨t0, t, rfl, rfl, Nat.le_trans (show t0.length + t.length ≤ 100 by omega) (by decide), q _ H13 (by rw [Str.length_append]; omega) (b13.mono (by omega)) ?_⟩
      exact kp.trans ((Keep.of (e8.trans e9)).trans (k10.trans ((Keep.of e11).trans (k12.trans k13))))
    have b4 := b4.ex e8
    have kp := kp.trans (Keep.of e8)
    clear e8
    -- way 4
    refine q_when (et_test (ev_op (ev_var rfl) ev_c rv_eqI)) (fun _ H9 e9 => ?_) (fun _ H9 e9 => ?_)
    · refine ⟨by show 12 ≤ sizeLine; decide, fun l nl => ?_⟩
      obtain ⟨bl, nlp⟩ := (b4.ex e9).new nl (o := .lst ([1, 6, 7, 29, 30, 31, 59, 60, 61, 199, 200, 201].map V.int))
      have hl : (upd H9 l (.lst ([1, 6, 7, 29, 30, 31, 59, 60, 61, 199, 200, 201].map V.int))) l = some (.lst ([1, 6, 7, 29, 30, 31, 59, 60, 61, 199, 200, 201].map V.int)) := upd_same
      have kl : Keep p H (upd H9 l (.lst ([1, 6, 7, 29, 30, 31, 59, 60, 61, 199, 200, 201].map V.int))) := kp.trans (Keep.of (e9.trans (Ex.new nl)))
      generalize hH10 : upd H9 l (.lst ([1, 6, 7, 29, 30, 31, 59, 60, 61, 199, 200, 201].map V.int)) = H10 at bl hl kl
      have hH10' : upd H9 l (.lst [V.int 1, .int 6, .int 7, .int 29, .int 30, .int 31, .int 59, .int 60, .int 61, .int 199, .int 200, .int 201]) = H10 := hH10
      refine ⟨.ref p, rfl, by show 7 ≤ sizeLine; decide, fun m nm => ?_⟩
      rw [hH10'] at nm ⊢
      obtain ⟨bm, nmp⟩ := bl.new nm (o := .lst ([("a" : Str), "/", "9", "0", " ", "-", ","].map V.str))
      refine ⟨p, _, m, [("a" : Str), "/", "9", "0", " ", "-", ","].map V.str, rfl, bm, by omega, nmp, upd_same, by decide, by decide, fun v H11 hv b11 k11 => ?_⟩
      obtain ⟨x, rfl, hx⟩ := strs_in hv
      have lx := short_in (m := 1) (by decide +kernel) hx
      have hl11 := k11 _ _ nlp (by rw [upd_ne (ne_of_none hl nm)]; exact hl)
      refine ⟨.ref p, rfl, .ref l, rfl, p, _, l, [1, 6, 7, 29, 30, 31, 59, 60, 61, 199, 200, 201].map V.int, rfl, b11, by omega, nlp, hl11, by decide, by decide, fun v2 H12 hv2 b12 k12 => ?_⟩
      obtain ⟨j, rfl, hj⟩ := ints_in hv2
      have hj2 : 1 ≤ j ∧ j ≤ 201 := by
        simp only [List.mem_cons, List.not_mem_nil, or_false] at hj
        omega
      refine ⟨x, j, rfl, rfl, by omega, by omega, by omega, q _ H12 ?_ (b12.mono (by omega)) (kl.trans ((Keep.of (Ex.new nm)).trans (k11.trans k12)))⟩
      rw [repS_len]
      have : j.toNat * x.length ≤ 201 * 1 := Nat.mul_le_mul (by omega) lx
      omega
    have b4 := b4.ex e9
    have kp := kp.trans (Keep.of e9)
    clear e9
    -- way 5
    refine q_when (et_test (ev_op (ev_var rfl) ev_c rv_eqI)) (fun _ H10 e10 => ?_) (fun _ H10 e10 => ?_)
    · refine q_asgL (xs := [("" : Str), "length", "lengths", "Length", "-0", "0", "00", "000001", "999999", "1000000", "-999999", "-1000000"].map V.str) (el_lst (ea_cons ev_c (ea_cons ev_c (ea_cons ev_c (ea_cons ev_c (ea_cons ev_c (ea_cons ev_c (ea_cons ev_c (ea_cons ev_c (ea_cons ev_c (ea_cons ev_c (ea_cons ev_c (ea_cons ev_c ea_nil)))))))))))) (by decide)) fun l H11 nl e11 hl => ?_
      refine ⟨.ref p, rfl, .ref l, rfl, by show 12 ≤ sizeLine; decide, fun m nm => ?_⟩
      refine ⟨l, m, [("" : Str), "length", "lengths", "Length", "-0", "0", "00", "000001", "999999", "1000000", "-999999", "-1000000"].map V.str, [("/" : Str), "//", "/a.b-c/0", "/A", "a-", "-a", "1a", "a_b", " ,", "a , b", "1_0", "1.0"].map V.str, rfl, rfl, by rw [upd_ne (ne_of_none hl nm)]; exact hl, upd_same, by decide, fun c nc => ?_⟩
      obtain ⟨bc, ncp⟩ := (((b4.ex e10).ex e11).ex (Ex.new nm)).new nc (o := .lst (([("" : Str), "length", "lengths", "Length", "-0", "0", "00", "000001", "999999", "1000000", "-999999", "-1000000"] ++ [("/" : Str), "//", "/a.b-c/0", "/A", "a-", "-a", "1a", "a_b", " ,", "a , b", "1_0", "1.0"]).map V.str))
      refine ⟨p, _, c, ([("" : Str), "length", "lengths", "Length", "-0", "0", "00", "000001", "999999", "1000000", "-999999", "-1000000"] ++ [("/" : Str), "//", "/a.b-c/0", "/A", "a-", "-a", "1a", "a_b", " ,", "a , b", "1_0", "1.0"]).map V.str, rfl, bc, by omega, ncp, upd_same, by decide, by decide, fun v H12 hv b12 k12 => ?_⟩
      obtain ⟨x, rfl, hx⟩ := strs_in hv
      have lx := short_in (m := 100) (by decide +kernel) hx
      exact q _ H12 (by omega) (b12.mono (by omega)) (kp.trans ((Keep.of (e10.trans (e11.trans ((Ex.new nm).trans (Ex.new nc))))).trans k12))
    have b4 := b4.ex e10
    have kp := kp.trans (Keep.of e10)
    clear e10
    -- way 6
    refine q_when (et_test (ev_op (ev_var rfl) ev_c rv_eqI)) (fun _ H11 e11 => ?_) (fun _ H11 e11 => ?_)
    · refine ⟨.ref p, rfl, rd_call ea_nil fun H12 e12 => ⟨rfl, fun H13 e13 => ?_⟩⟩
      refine rd_call (ea_cons (ev_var rfl) (ea_cons ev_c (ea_cons ev_c ea_nil))) fun H14 e14 => ⟨p, _, 6, 204, rfl, (((b4.ex e11).ex e12).ex e13).ex e14, by omega, fun v H15 hv b15 k15 => ?_⟩
      refine ⟨p, _, _, 0, v, rfl, b15, by omega, by decide +kernel, by decide +kernel, by decide, by omega, by omega, fun t H16 ht b16 k16 => ?_⟩
      exact q _ H16 (by omega) (b16.mono (by omega)) (kp.trans ((Keep.of (e11.trans (e12.trans (e13.trans e14)))).trans (k15.trans k16)))
    have b4 := b4.ex e11
    have kp := kp.trans (Keep.of e11)
    clear e11
    refine rd_call (ea_cons (ev_var rfl) (ea_cons (ev_op (ev_call ea_nil sv0) ev_c (rv_addS (by decide +kernel))) (ea_cons ev_c (ea_cons ev_c ea_nil)))) fun H12 e12 => ⟨p, _, _, 0, 12, rfl, b4.ex e12, by omega, by decide +kernel, by decide +kernel, by decide, by decide, by decide, fun t H13 ht b13 k13 => ?_⟩
    exact q _ H13 (by omega) (b13.mono (by omega)) (kp.trans ((Keep.of e12).trans k13))
theorem ok_law (T : Mg mg) (c_law_bag : Call P w K mg base 1 "_law_bag" ["script", "k"] (spBag K)) (c_law_text : Call P w K mg base 4 "_law_text" ["bag"] spText) (c_law_spoilt : Call P w K mg base 3 "_law_spoilt" ["bag", "text"] spSpoilt) (c_law_right : Call P w K mg base 5 "_law_right" ["text"] spRight)
    (F : FnP K "law" s_law f fd) : FnOk P w K mg base CX0 6 f fd ["script"] (spLaw K) := by
  refine mkF F sc_law (fun vs H Q E h => ?_) (fun cdv A outer s H vs Q E hr h => ?_)
  · obtain ⟨a, ns, rfl, _⟩ := h
    rfl
  · obtain ⟨a, ns, rfl, hS, hl, hbits, q⟩ := h
    refine ⟨_, (pss_cons (ps_for PassesOwn.never rfl (pi_range1 rfl T.range (pa_cons (pe_callB (call_max2 rfl) (by rfl) T.max (by decide +kernel) (pa_cons pe_int (pa_cons (pe_callB (call_min2 rfl) (by rfl) T.min (by decide +kernel) (pa_cons pe_int (pa_cons (pe_callB call_len_seq (by rfl) T.len (by decide +kernel) (pa_cons (pv 0) pa_nil)) pa_nil))) pa_nil))) pa_nil)) (pg_name (i := 1) sc_law.nd rfl (Or.inl rfl))
      (pss_cons (ps_set (i := 2) sc_law.nd rfl (Or.inl rfl) (pe_f c_law_bag hr (by decide) rfl (pa_cons (pv 0) (pa_cons (pv 1) pa_nil))))
      (pss_one (ps_if (pt_not (pt_val (pe_f c_law_right hr (by decide) rfl (pa_cons (pe_f c_law_spoilt hr (by decide) rfl (pa_cons (pv 2) (pa_cons (pe_f c_law_text hr (by decide) rfl (pa_cons (pv 2) pa_nil)) pa_nil))) pa_nil))))
        (pss_one (ps_ret pe_bl))
        pss_nil))))
    (pss_one (ps_ret pe_bl))), ?_⟩
    have hmin : (if (ns.length : Int) < 63 then (ns.length : Int) else 63) = (ns.length : Int) ∨ (if (ns.length : Int) < 63 then (ns.length : Int) else 63) = 63 := by
      by_cases h : (ns.length : Int) < 63
      · exact .inl (if_pos h)
      · exact .inr (if_neg h)
    refine ⟨.ref a, rfl, a, ns.map V.int, rfl, .inl hS, 63, _, rfl, 1, _, rfl, ?_⟩
    rw [List.length_map]
    generalize (if (ns.length : Int) < 63 then (ns.length : Int) else 63) = m at hmin
    have hmax : 1 ≤ (if m > 1 then m else 1) ∧ (if m > 1 then m else 1) ≤ 63 := by
      by_cases h : m > 1
      · rw [if_pos h]; omega
      · rw [if_neg h]; omega
    generalize (if m > 1 then m else 1) = j at hmax
    refine ⟨j, rfl, by omega, by omega, for_range (lo := 0) (n := j.toNat) (fun i σ' H' => (∃ v1 v2, σ' = [some (.ref a), v1, v2]) ∧ SqL K H' a (ns.map V.int)) ⟨⟨none, none, rfl⟩, hS⟩ (fun i σ' H' hi pv => ?_) (fun σ' H' pv => ?_)⟩
    · obtain ⟨⟨v1, v2, rfl⟩, hS'⟩ := pv
      have e0 : (0 : Int) + (i : Int) = (i : Int) := Int.zero_add _
      rw [e0]
      refine ⟨.ref a, rfl, .int (i : Int), rfl, a, ns, i, rfl, hS', hl, by omega, hbits, fun p H1 np e1 b1 => ?_⟩
      have keepS : ∀ H2, Keep p H' H2 → SqL K H2 a (ns.map V.int) := fun H2 k => by
        have ex : Ex H' H2 := fun b o h => k b o (ne_of_none h np) h
        exact ex_l ex hS'
      refine ⟨.ref p, rfl, .ref p, rfl, p, 0, rfl, b1, by decide, fun t H2 ht b2 k2 => ?_⟩
      refine ⟨p, _, t, rfl, b2, by decide, ht, fun t2 H3 ht2 b3 k3 => ?_⟩
      refine ⟨t2, rfl, by omega, fun H4 e4 => ⟨true, rfl, iteF ?_⟩⟩
      exact ⟨⟨_, _, rfl⟩, keepS H4 ((Keep.of e1).trans (k2.trans (k3.trans (Keep.of e4))))⟩
    · obtain ⟨⟨v1, v2, rfl⟩, hS'⟩ := pv
      exact q H'
end
end Z
set_option maxHeartbeats 0
namespace Z
open PySem PySem.Spec PyProof.Rows L2
/-! ### the head: facts by names, the run -/
def d_consists_of : He.DefD := ⟨("consists_of", none), "consists_of", "consists_of", L2.defArgs s_consists_of, L2.defBody s_consists_of, L2.defScope s_consists_of, [], []⟩
def d_is_plain : He.DefD := ⟨("is_plain", none), "is_plain", "is_plain", L2.defArgs s_is_plain, L2.defBody s_is_plain, L2.defScope s_is_plain, [], []⟩
def d_is_path : He.DefD := ⟨("is_path", none), "is_path", "is_path", L2.defArgs s_is_path, L2.defBody s_is_path, L2.defScope s_is_path, [], []⟩
def d_is_word : He.DefD := ⟨("is_word", none), "is_word", "is_word", L2.defArgs s_is_word, L2.defBody s_is_word, L2.defScope s_is_word, [], []⟩
def d_is_field_name : He.DefD := ⟨("is_field_name", none), "is_field_name", "is_field_name", L2.defArgs s_is_field_name, L2.defBody s_is_field_name, L2.defScope s_is_field_name, [], []⟩
def d_is_value : He.DefD := ⟨("is_value", none), "is_value", "is_value", L2.defArgs s_is_value, L2.defBody s_is_value, L2.defScope s_is_value, [], []⟩
def d_list_elements : He.DefD := ⟨("list_elements", none), "list_elements", "list_elements", L2.defArgs s_list_elements, L2.defBody s_list_elements, L2.defScope s_list_elements, [], []⟩
def d_read_number : He.DefD := ⟨("read_number", none), "read_number", "read_number", L2.defArgs s_read_number, L2.defBody s_read_number, L2.defScope s_read_number, [], []⟩
def d_read_reading : He.DefD := ⟨("read_reading", none), "read_reading", "read_reading", L2.defArgs s_read_reading, L2.defBody s_read_reading, L2.defScope s_read_reading, [], []⟩
def d_law_bag : He.DefD := ⟨("_law_bag", none), "_law_bag", "_law_bag", L2.defArgs s_law_bag, L2.defBody s_law_bag, L2.defScope s_law_bag, [], []⟩
def d_law_draw : He.DefD := ⟨("_law_draw", none), "_law_draw", "_law_draw", L2.defArgs s_law_draw, L2.defBody s_law_draw, L2.defScope s_law_draw, [], []⟩
def d_law_pick : He.DefD := ⟨("_law_pick", none), "_law_pick", "_law_pick", L2.defArgs s_law_pick, L2.defBody s_law_pick, L2.defScope s_law_pick, [], []⟩
def d_law_most : He.DefD := ⟨("_law_most", none), "_law_most", "_law_most", L2.defArgs s_law_most, L2.defBody s_law_most, L2.defScope s_law_most, [], []⟩
def d_law_word : He.DefD := ⟨("_law_word", none), "_law_word", "_law_word", L2.defArgs s_law_word, L2.defBody s_law_word, L2.defScope s_law_word, [], []⟩
def d_law_letters : He.DefD := ⟨("_law_letters", none), "_law_letters", "_law_letters", L2.defArgs s_law_letters, L2.defBody s_law_letters, L2.defScope s_law_letters, [], []⟩
def d_law_signs : He.DefD := ⟨("_law_signs", none), "_law_signs", "_law_signs", L2.defArgs s_law_signs, L2.defBody s_law_signs, L2.defScope s_law_signs, [], []⟩
def d_law_all_in : He.DefD := ⟨("_law_all_in", none), "_law_all_in", "_law_all_in", L2.defArgs s_law_all_in, L2.defBody s_law_all_in, L2.defScope s_law_all_in, [], []⟩
def d_law_is_path : He.DefD := ⟨("_law_is_path", none), "_law_is_path", "_law_is_path", L2.defArgs s_law_is_path, L2.defBody s_law_is_path, L2.defScope s_law_is_path, [], []⟩
def d_law_is_name : He.DefD := ⟨("_law_is_name", none), "_law_is_name", "_law_is_name", L2.defArgs s_law_is_name, L2.defBody s_law_is_name, L2.defScope s_law_is_name, [], []⟩
def d_law_is_value : He.DefD := ⟨("_law_is_value", none), "_law_is_value", "_law_is_value", L2.defArgs s_law_is_value, L2.defBody s_law_is_value, L2.defScope s_law_is_value, [], []⟩
def d_law_digits : He.DefD := ⟨("_law_digits", none), "_law_digits", "_law_digits", L2.defArgs s_law_digits, L2.defBody s_law_digits, L2.defScope s_law_digits, [], []⟩
def d_law_list : He.DefD := ⟨("_law_list", none), "_law_list", "_law_list", L2.defArgs s_law_list, L2.defBody s_law_list, L2.defScope s_law_list, [], []⟩
def d_law_text : He.DefD := ⟨("_law_text", none), "_law_text", "_law_text", L2.defArgs s_law_text, L2.defBody s_law_text, L2.defScope s_law_text, [], []⟩
def d_law_spoilt : He.DefD := ⟨("_law_spoilt", none), "_law_spoilt", "_law_spoilt", L2.defArgs s_law_spoilt, L2.defBody s_law_spoilt, L2.defScope s_law_spoilt, [], []⟩
def d_law_words : He.DefD := ⟨("_law_words", none), "_law_words", "_law_words", L2.defArgs s_law_words, L2.defBody s_law_words, L2.defScope s_law_words, [], []⟩
def d_law_number : He.DefD := ⟨("_law_number", none), "_law_number", "_law_number", L2.defArgs s_law_number, L2.defBody s_law_number, L2.defScope s_law_number, [], []⟩
def d_law_signed : He.DefD := ⟨("_law_signed", none), "_law_signed", "_law_signed", L2.defArgs s_law_signed, L2.defBody s_law_signed, L2.defScope s_law_signed, [], []⟩
def d_law_truth : He.DefD := ⟨("_law_truth", none), "_law_truth", "_law_truth", L2.defArgs s_law_truth, L2.defBody s_law_truth, L2.defScope s_law_truth, [], []⟩
def d_law_integer : He.DefD := ⟨("_law_integer", none), "_law_integer", "_law_integer", L2.defArgs s_law_integer, L2.defBody s_law_integer, L2.defScope s_law_integer, [], []⟩
def d_law_right : He.DefD := ⟨("_law_right", none), "_law_right", "_law_right", L2.defArgs s_law_right, L2.defBody s_law_right, L2.defScope s_law_right, [], []⟩
def d_law : He.DefD := ⟨("law", none), "law", "law", L2.defArgs s_law, L2.defBody s_law, L2.defScope s_law, [], []⟩
def fns : List He.DefD := [d_consists_of, d_is_plain, d_is_path, d_is_word, d_is_field_name, d_is_value, d_list_elements, d_read_number, d_read_reading, d_law_bag, d_law_draw, d_law_pick, d_law_most, d_law_word, d_law_letters, d_law_signs, d_law_all_in, d_law_is_path, d_law_is_name, d_law_is_value, d_law_digits, d_law_list, d_law_text, d_law_spoilt, d_law_words, d_law_number, d_law_signed, d_law_truth, d_law_integer, d_law_right, d_law]
def fas : List He.Fa := [.glo "consists_of", .glo "is_plain", .glo "is_path", .glo "is_word", .glo "is_field_name", .glo "is_value", .glo "list_elements", .glo "read_number", .glo "read_reading", .glo "_law_bag", .glo "_law_draw", .glo "_law_pick", .glo "_law_most", .glo "_law_word", .glo "_law_letters", .glo "_law_signs", .glo "_law_all_in", .glo "_law_is_path", .glo "_law_is_name", .glo "_law_is_value", .glo "_law_digits", .glo "_law_list", .glo "_law_text", .glo "_law_spoilt", .glo "_law_words", .glo "_law_number", .glo "_law_signed", .glo "_law_truth", .glo "_law_integer", .glo "_law_right", .glo "law", .free "len", .free "abs", .free "max", .free "min", .free "sum", .free "isinstance", .free "range", .free "int", .free "bool", .free "list", .str "LOWER" "abcdefghijklmnopqrstuvwxyz", .str "DIGITS" "0123456789", .str "WORD_SIGNS" "abcdefghijklmnopqrstuvwxyz0123456789-", .str "PATH_SIGNS" "abcdefghijklmnopqrstuvwxyz0123456789/-.", .int "MOST_PATH" 60, .int "MOST_NAME" 30, .int "MOST_VALUE" 200, .int "MOST_DIGITS" 6]
abbrev R : PySem.W.OpenRow := PySem.W.OpenLaw.row PySem.Challenge.rw_hopkeep_k00_fields_read
abbrev hk : PySem.W.Hook := He.hookD 4 fas fns
def ob (s : PySem.W.SharedT) : He.AlD := He.obsDG 4 fas fns (HandSHeadRun.getT s)
theorem ob_eq (s : PySem.W.SharedT) : ob s = hk.obs s.abs := He.obsDG_eq (HandSHeadRun.getT_eq s)
def others : List Str := (["LOWER", "DIGITS", "WORD_SIGNS", "PATH_SIGNS", "MOST_PATH", "MOST_NAME", "MOST_VALUE", "MOST_DIGITS", "consists_of", "is_plain", "is_path", "is_word", "is_field_name", "is_value", "list_elements", "read_number", "read_reading", "_law_bag", "_law_draw", "_law_pick"] : List Str) ++ (["_law_most", "_law_word", "_law_letters", "_law_signs", "_law_all_in", "_law_is_path", "_law_is_name", "_law_is_value", "_law_digits", "_law_list", "_law_text", "_law_spoilt", "_law_words", "_law_number", "_law_signed", "_law_truth", "_law_integer", "_law_right"] : List Str)
theorem run (w : World) : HandSHeadRun.RunEq R (PySem.W.view R.prog [40]) hk ob 4000 others w := by
  intro os
  kernel_rfl
theorem facts {P : Program} {w : World} {K : PySem.W.Frag} {h : Heap} {mg : Str → Option Value} {f : Addr} (X : K.In h) (G : h.Ns mainGlobals mg) (hfa : mg ("law" : Str) = some (.ref f)) (c : He.SaysD fas fns K) :
    ∃ fd : FuncData, (∀ (s : Shared) (v : Value), BindsTo s fd ⟨[v], []⟩ [("script", v)]) ∧ ∀ base : Heap, K.In base → base.Ns mainGlobals mg → FnOk P w K mg base CX0 6 f fd ["script"] (spLaw K) := by
  obtain ⟨fd0, F0⟩ := c.def_ 0 (d := d_consists_of) rfl
  obtain ⟨fd1, F1⟩ := c.def_ 1 (d := d_is_plain) rfl
  obtain ⟨fd2, F2⟩ := c.def_ 2 (d := d_is_path) rfl
  obtain ⟨fd3, F3⟩ := c.def_ 3 (d := d_is_word) rfl
  obtain ⟨fd4, F4⟩ := c.def_ 4 (d := d_is_field_name) rfl
  obtain ⟨fd5, F5⟩ := c.def_ 5 (d := d_is_value) rfl
  obtain ⟨fd6, F6⟩ := c.def_ 6 (d := d_list_elements) rfl
  obtain ⟨fd7, F7⟩ := c.def_ 7 (d := d_read_number) rfl
  obtain ⟨fd8, F8⟩ := c.def_ 8 (d := d_read_reading) rfl
  obtain ⟨fd9, F9⟩ := c.def_ 9 (d := d_law_bag) rfl
  obtain ⟨fd10, F10⟩ := c.def_ 10 (d := d_law_draw) rfl
  obtain ⟨fd11, F11⟩ := c.def_ 11 (d := d_law_pick) rfl
  obtain ⟨fd12, F12⟩ := c.def_ 12 (d := d_law_most) rfl
  obtain ⟨fd13, F13⟩ := c.def_ 13 (d := d_law_word) rfl
  obtain ⟨fd14, F14⟩ := c.def_ 14 (d := d_law_letters) rfl
  obtain ⟨fd15, F15⟩ := c.def_ 15 (d := d_law_signs) rfl
  obtain ⟨fd16, F16⟩ := c.def_ 16 (d := d_law_all_in) rfl
  obtain ⟨fd17, F17⟩ := c.def_ 17 (d := d_law_is_path) rfl
  obtain ⟨fd18, F18⟩ := c.def_ 18 (d := d_law_is_name) rfl
  obtain ⟨fd19, F19⟩ := c.def_ 19 (d := d_law_is_value) rfl
  obtain ⟨fd20, F20⟩ := c.def_ 20 (d := d_law_digits) rfl
  obtain ⟨fd21, F21⟩ := c.def_ 21 (d := d_law_list) rfl
  obtain ⟨fd22, F22⟩ := c.def_ 22 (d := d_law_text) rfl
  obtain ⟨fd23, F23⟩ := c.def_ 23 (d := d_law_spoilt) rfl
  obtain ⟨fd24, F24⟩ := c.def_ 24 (d := d_law_words) rfl
  obtain ⟨fd25, F25⟩ := c.def_ 25 (d := d_law_number) rfl
  obtain ⟨fd26, F26⟩ := c.def_ 26 (d := d_law_signed) rfl
  obtain ⟨fd27, F27⟩ := c.def_ 27 (d := d_law_truth) rfl
  obtain ⟨fd28, F28⟩ := c.def_ 28 (d := d_law_integer) rfl
  obtain ⟨fd29, F29⟩ := c.def_ 29 (d := d_law_right) rfl
  obtain ⟨fd30, F30⟩ := c.def_ 30 (d := d_law) rfl
  have g0 := He.glo_ok X G (c.fact 0 (f := .glo "consists_of") rfl)
  have g1 := He.glo_ok X G (c.fact 1 (f := .glo "is_plain") rfl)
  have g2 := He.glo_ok X G (c.fact 2 (f := .glo "is_path") rfl)
  have g3 := He.glo_ok X G (c.fact 3 (f := .glo "is_word") rfl)
  have g4 := He.glo_ok X G (c.fact 4 (f := .glo "is_field_name") rfl)
  have g5 := He.glo_ok X G (c.fact 5 (f := .glo "is_value") rfl)
  have g6 := He.glo_ok X G (c.fact 6 (f := .glo "list_elements") rfl)
  have g7 := He.glo_ok X G (c.fact 7 (f := .glo "read_number") rfl)
  have g8 := He.glo_ok X G (c.fact 8 (f := .glo "read_reading") rfl)
  have g9 := He.glo_ok X G (c.fact 9 (f := .glo "_law_bag") rfl)
  have g10 := He.glo_ok X G (c.fact 10 (f := .glo "_law_draw") rfl)
  have g11 := He.glo_ok X G (c.fact 11 (f := .glo "_law_pick") rfl)
  have g12 := He.glo_ok X G (c.fact 12 (f := .glo "_law_most") rfl)
  have g13 := He.glo_ok X G (c.fact 13 (f := .glo "_law_word") rfl)
  have g14 := He.glo_ok X G (c.fact 14 (f := .glo "_law_letters") rfl)
  have g15 := He.glo_ok X G (c.fact 15 (f := .glo "_law_signs") rfl)
  have g16 := He.glo_ok X G (c.fact 16 (f := .glo "_law_all_in") rfl)
  have g17 := He.glo_ok X G (c.fact 17 (f := .glo "_law_is_path") rfl)
  have g18 := He.glo_ok X G (c.fact 18 (f := .glo "_law_is_name") rfl)
  have g19 := He.glo_ok X G (c.fact 19 (f := .glo "_law_is_value") rfl)
  have g20 := He.glo_ok X G (c.fact 20 (f := .glo "_law_digits") rfl)
  have g21 := He.glo_ok X G (c.fact 21 (f := .glo "_law_list") rfl)
  have g22 := He.glo_ok X G (c.fact 22 (f := .glo "_law_text") rfl)
  have g23 := He.glo_ok X G (c.fact 23 (f := .glo "_law_spoilt") rfl)
  have g24 := He.glo_ok X G (c.fact 24 (f := .glo "_law_words") rfl)
  have g25 := He.glo_ok X G (c.fact 25 (f := .glo "_law_number") rfl)
  have g26 := He.glo_ok X G (c.fact 26 (f := .glo "_law_signed") rfl)
  have g27 := He.glo_ok X G (c.fact 27 (f := .glo "_law_truth") rfl)
  have g28 := He.glo_ok X G (c.fact 28 (f := .glo "_law_integer") rfl)
  have g29 := He.glo_ok X G (c.fact 29 (f := .glo "_law_right") rfl)
  have g30 := He.glo_ok X G (c.fact 30 (f := .glo "law") rfl)
  have T : Mg mg := ⟨He.free_ok X G (c.fact 31 (f := .free "len") rfl),
    He.free_ok X G (c.fact 32 (f := .free "abs") rfl),
    He.free_ok X G (c.fact 33 (f := .free "max") rfl),
    He.free_ok X G (c.fact 34 (f := .free "min") rfl),
    He.free_ok X G (c.fact 35 (f := .free "sum") rfl),
    He.free_ok X G (c.fact 36 (f := .free "isinstance") rfl),
    He.free_ok X G (c.fact 37 (f := .free "range") rfl),
    He.free_ok X G (c.fact 38 (f := .free "int") rfl),
    He.free_ok X G (c.fact 39 (f := .free "bool") rfl),
    He.free_ok X G (c.fact 40 (f := .free "list") rfl),
    (by obtain ⟨t, e⟩ := He.str_ok X G (c.fact 41 (f := .str "LOWER" "abcdefghijklmnopqrstuvwxyz") rfl); exact ⟨_, e, t, rfl⟩),
    (by obtain ⟨t, e⟩ := He.str_ok X G (c.fact 42 (f := .str "DIGITS" "0123456789") rfl); exact ⟨_, e, t, rfl⟩),
    (by obtain ⟨t, e⟩ := He.str_ok X G (c.fact 43 (f := .str "WORD_SIGNS" "abcdefghijklmnopqrstuvwxyz0123456789-") rfl); exact ⟨_, e, t, rfl⟩),
    (by obtain ⟨t, e⟩ := He.str_ok X G (c.fact 44 (f := .str "PATH_SIGNS" "abcdefghijklmnopqrstuvwxyz0123456789/-.") rfl); exact ⟨_, e, t, rfl⟩),
    (by obtain ⟨t, e⟩ := He.int_ok X G (c.fact 45 (f := .int "MOST_PATH" 60) rfl); exact ⟨_, e, t, rfl⟩),
    (by obtain ⟨t, e⟩ := He.int_ok X G (c.fact 46 (f := .int "MOST_NAME" 30) rfl); exact ⟨_, e, t, rfl⟩),
    (by obtain ⟨t, e⟩ := He.int_ok X G (c.fact 47 (f := .int "MOST_VALUE" 200) rfl); exact ⟨_, e, t, rfl⟩),
    (by obtain ⟨t, e⟩ := He.int_ok X G (c.fact 48 (f := .int "MOST_DIGITS" 6) rfl); exact ⟨_, e, t, rfl⟩)⟩
  have e := hfa.symm.trans g30
  cases e
  refine ⟨fd30, fun s v => (FunD.bindsA (ps := ["script"]) F30 fun _ _ _ _ _ _ us hl => match us, hl with | [_], _ => rfl) s [v] rfl, fun base _ _ => ?_⟩
  have c_consists_of := ok_consists_of (P := P) (w := w) (base := base) T  F0 g0
  have c_is_plain := ok_is_plain (P := P) (w := w) (base := base) T  F1 g1
  have c_is_path := ok_is_path (P := P) (w := w) (base := base) T c_consists_of F2 g2
  have c_is_word := ok_is_word (P := P) (w := w) (base := base) T c_consists_of F3 g3
  have c_is_field_name := ok_is_field_name (P := P) (w := w) (base := base) T c_is_word F4 g4
  have c_is_value := ok_is_value (P := P) (w := w) (base := base) T c_is_plain F5 g5
  have c_list_elements := ok_list_elements (P := P) (w := w) (base := base) T  F6 g6
  have c_read_number := ok_read_number (P := P) (w := w) (base := base) T c_consists_of F7 g7
  have c_read_reading := ok_read_reading (P := P) (w := w) (base := base) T c_read_number F8 g8
  have c_law_letters := ok_law_letters (P := P) (w := w) (base := base) T  F14 g14
  have c_law_signs := ok_law_signs (P := P) (w := w) (base := base) T  F15 g15
  have c_law_all_in := ok_law_all_in (P := P) (w := w) (base := base) T  F16 g16
  have c_law_is_path := ok_law_is_path (P := P) (w := w) (base := base) T c_law_letters c_law_all_in F17 g17
  have c_law_is_name := ok_law_is_name (P := P) (w := w) (base := base) T c_law_letters c_law_all_in F18 g18
  have c_law_is_value := ok_law_is_value (P := P) (w := w) (base := base) T c_law_signs c_law_all_in F19 g19
  have c_law_digits := ok_law_digits (P := P) (w := w) (base := base) T c_law_all_in F20 g20
  have c_law_number := ok_law_number (P := P) (w := w) (base := base) T c_law_digits F25 g25
  have c_law_signed := ok_law_signed (P := P) (w := w) (base := base) T c_law_digits c_law_number F26 g26
  have c_law_words := ok_law_words (P := P) (w := w) (base := base) T  F24 g24
  have c_law_truth := ok_law_truth (P := P) (w := w) (base := base) T  F27 g27
  have c_law_integer := ok_law_integer (P := P) (w := w) (base := base) T  F28 g28
  have c_law_right := ok_law_right (P := P) (w := w) (base := base) T c_is_plain c_is_path c_is_field_name c_is_value c_read_number c_read_reading c_list_elements c_law_signs c_law_all_in c_law_truth c_law_integer c_law_is_path c_law_is_name c_law_is_value c_law_number c_law_signed c_law_words F29 g29
  have c_law_draw := ok_law_draw (P := P) (w := w) (base := base) T  F10 g10
  have c_law_pickS := ok_law_pickS (P := P) (w := w) (base := base) T c_law_draw F11 g11
  have c_law_pickL := ok_law_pickL (P := P) (w := w) (base := base) T c_law_draw F11 g11
  have c_law_most := ok_law_most (P := P) (w := w) (base := base) T c_law_draw F12 g12
  have c_law_word := ok_law_word (P := P) (w := w) (base := base) T c_law_draw F13 g13
  have c_law_bag := ok_law_bag (P := P) (w := w) (base := base) T  F9 g9
  have c_law_list := ok_law_list (P := P) (w := w) (base := base) T c_law_draw c_law_pickL c_law_word F21 g21
  have c_law_spoilt := ok_law_spoilt (P := P) (w := w) (base := base) T c_law_draw c_law_pickS c_law_signs F23 g23
  have c_law_text := ok_law_text (P := P) (w := w) (base := base) T c_law_draw c_law_pickL c_law_most c_law_word c_law_list c_law_letters c_law_signs F22 g22
  exact ok_law T c_law_bag c_law_text c_law_spoilt c_law_right F30
end Z
open PySem PySem.W PySem.Calls PyProof.Rows
set_option maxRecDepth 100000 in
set_option maxHeartbeats 0 in
theorem PySem.Challenge.cw_hopkeep_k00_fields_read_holds : PySem.Challenge.rw_hopkeep_k00_fields_read.Holds := by
  w_on; o_law
  refine HandSHeadRun.head_any (r := Z.R) (q := view Z.R.prog [40]) (H := Z.hk) (ob := Z.ob) (M := 4000) (loose := Z.others) (d := HandSHeadRun.topDef Z.R.prog 40) (kwd := []) Z.ob_eq (by kernel_rfl) (fun s => by kernel_rfl) Z.run
    (by kernel_rfl) (by kernel_rfl) (by kernel_rfl) (by rfl) (by first | assumption | decide +kernel) (by decide +kernel) ⟨rfl, rfl, rfl, rfl, rfl, by decide +kernel⟩ ?hw ?hc
  case hw => w_witness2
  case hc =>
    refine LamX.walk_ofTsE (l := PySem.Challenge.rw_hopkeep_k00_fields_read) (n := 63) (k := 6) (x := "script") (CX := fun _ => L2.CX0) rfl (by decide) (by kernel_rfl) ⟨rfl, by decide, by decide⟩ ?F (fun _ _ _ _ _ z => z)
    intro w mg fa h Y G hmg0
    obtain ⟨K, KX, c⟩ := Y
    have hmg : mg ("law" : PySem.Str) = some (.ref fa) := by
      have e : (HandSHeadRun.topDef Z.R.prog 40).name = ("law" : PySem.Str) := by kernel_rfl
      rw [← e]
      exact hmg0
    obtain ⟨fd, hb, hF⟩ := Z.facts (P := Z.R.prog) (w := w) KX G hmg c
    exact ⟨K, KX, fd, [], Z.spLaw K, (fun p hp => nomatch hp), (fun p hp => nomatch hp), (fun p hp => nomatch hp), hb, fun H a ns hl hz _ hS => ⟨a, ns, rfl, hS, hl, fun z hm => Z.bits_lt (n := Z.cap) (hz z hm), fun _ => rfl⟩, fun base h1 h2 _ => hF base h1 h2⟩
#print axioms PySem.Challenge.cw_hopkeep_k00_fields_read_holds
