import PyProof.Rows.All
import Wide.All
import OpenK.AllK
import Wide.FinOn
import HandS.ForMost
import HandS.StrMore
import KE.IntTextLaws
import PyProof.MeetsSeq2
import PyProof.DictTable
import HandS.Codes
import HandS.Translate
import HandS.Defaults
import HandS.IsInst
import HandS.Wide
import HandS.WideBits
import HandS.EndBits
import HandS.HeadEnd
import HandS.Flow
import HandS.Steps
import HandS.Evl
import HandS.Walk
import KE.KStateDown
import HandS.Head0
import HandS.Head1
import HandS.Head2
import HandS.HeadHook1
import HandS.HeadHook2
import HandS.HeadWalk
import PySem.Challenge.RW_hopkeep_k16_wanted_ranges
set_option Elab.async false
set_option linter.all false
set_option maxRecDepth 100000
namespace Z
open PySem PySem.Spec PyProof.Rows L2 TL PySem.Builtin.Str
/-! ### strings -/
def allIn (z s : Str) : Bool := (tl z).all fun c => decide (c ∈ tl s)
theorem len_tl' (x : Str) : (tl x).length = x.length := (len_tl x).symm
theorem tl_empty : tl ("" : Str) = [] := by decide +kernel
theorem eq_empty {x : Str} : x = ("" : Str) ↔ tl x = [] := by
  constructor
  · intro h; rw [h]; exact tl_empty
  · intro h; exact ext_tl (h.trans tl_empty.symm)
theorem contains_mem (y : Str) (c : Nat) : y.cps.contains c = decide (c ∈ tl y) := by
  have : y.cps.contains c = y.cps.toList.contains c := by
    cases y with | mk a => simp
  rw [this]
  by_cases h : c ∈ tl y
  · rw [decide_eq_true h]; exact List.contains_iff_mem.mpr h
  · rw [decide_eq_false h]
    cases e : y.cps.toList.contains c with
    | false => rfl
    | true => exact absurd (List.contains_iff_mem.mp e) h
/-- strip(signs) leaves nothing exactly if all are among the signs -/
theorem strip_all (z s : Str) : decide (Txt.stripChars z s = ("" : Str)) = allIn z s := by
  have hg : s.cps.contains = fun c => decide (c ∈ tl s) := funext (contains_mem s)
  have e0 : Txt.stripChars z s = strSub z (stripLo s.cps.contains true z) (stripHi s.cps.contains true z (stripLo s.cps.contains true z)) := stripBy_eq _ _ _ _
  obtain ⟨l1, l2, l3⟩ := lo_facts s.cps.contains z
  obtain ⟨h1, h2, h3, h4⟩ := hi_facts s.cps.contains z _ l1
  generalize hlo : stripLo s.cps.contains true z = lo at *
  generalize hhi : stripHi s.cps.contains true z lo = hi at *
  have hlen : (tl z).length = z.length := len_tl' z
  have e1 : tl (Txt.stripChars z s) = ((tl z).drop lo).take (hi - lo) := by rw [e0]; exact tl_strSub _ _ _
  have key : tl (Txt.stripChars z s) = [] ↔ hi = lo := by
    rw [e1]
    constructor
    · intro h
      have := congrArg List.length h
      rw [List.length_take, List.length_drop, hlen] at this
      simp only [List.length_nil] at this
      omega
    · intro h; rw [h]; simp
  have gd : ∀ k, k < z.length → s.cps.contains (z.cps.getD k 0) = true → z.cps.getD k 0 ∈ tl s := fun k _ h => by
    rw [contains_mem] at h; exact of_decide_eq_true h
  have gt : ∀ k (hk : k < z.length), z.cps.getD k 0 = (tl z)[k]'(by rw [hlen]; exact hk) := fun k hk => by
    rw [← getD_list]
    have : k < z.cps.toList.length := by rw [← hlen] at hk; exact hk
    show z.cps.toList.getD k 0 = z.cps.toList[k]
    rw [List.getD_eq_getElem?_getD, List.getElem?_eq_getElem this]
    rfl
  by_cases hh : hi = lo
  · rw [decide_eq_true (eq_empty.mpr (key.mpr hh))]
    symm
    refine List.all_eq_true.mpr fun c hc => decide_eq_true ?_
    obtain ⟨k, hk, e⟩ := List.mem_iff_getElem.mp hc
    have hk' : k < z.length := by rw [← hlen]; exact hk
    have : z.cps.getD k 0 ∈ tl s := by
      by_cases hkl : k < lo
      · exact gd k hk' (l2 k hkl)
      · exact gd k hk' (h3 k (by omega) hk')
    rw [gt k hk', e] at this
    exact this
  · have hne : ¬ Txt.stripChars z s = ("" : Str) := fun h => hh (key.mp (eq_empty.mp h))
    rw [decide_eq_false hne]
    symm
    cases e : allIn z s with
    | false => rfl
    | true =>
      exfalso
      have ha := List.all_eq_true.mp e
      have hlt : lo < z.length := by omega
      rcases l3 with h | h
      · omega
      · have hm : z.cps.getD lo 0 ∈ tl s := by
          rw [gt lo hlt]
          exact of_decide_eq_true (ha _ (List.getElem_mem _))
        rw [contains_mem, decide_eq_true hm] at h
        cases h
theorem strip_len (z s : Str) : (Txt.stripChars z s).length ≤ z.length := by
  have e0 : Txt.stripChars z s = strSub z (stripLo s.cps.contains true z) (stripHi s.cps.contains true z (stripLo s.cps.contains true z)) := stripBy_eq _ _ _ _
  rw [e0, len_tl, tl_strSub, List.length_take, List.length_drop, len_tl]
  omega
/-! ### plain -/
def signs : Str := (" !\"#$&'()*+,-./0123456789:;<=>?@ABCDEFGHIJKLMNOPQRSTUVWXYZ[\\]^_`" : Str) ++ ("abcdefghijklmnopqrstuvwxyz{|}~" : Str)
theorem signs_lt : ∀ c ∈ tl signs, c < 128 := by decide +kernel
theorem signs_128 : ∀ c, c < 128 → (Unicode.isPrintable c && decide (c ≠ 37)) = decide (c ∈ tl signs) := by decide +kernel
theorem filter_eq {l : List Nat} {p : Nat → Bool} : (l.filter p = l) ↔ l.all p = true := by
  rw [List.filter_eq_self, List.all_eq_true]
theorem plain_all (l : List Nat) : (l.all (fun c => decide (c < 128)) && (l.all Unicode.isPrintable && l.all fun c => decide (c ≠ 37))) = l.all fun c => decide (c ∈ tl signs) := by
  induction l with
  | nil => rfl
  | cons a r ih =>
    rw [List.all_cons, List.all_cons, List.all_cons, List.all_cons, ← ih]
    by_cases h : a < 128
    · rw [← signs_128 a h, decide_eq_true h]
      cases Unicode.isPrintable a <;> cases decide (a ≠ 37) <;> cases r.all (fun c => decide (c < 128)) <;> cases r.all Unicode.isPrintable <;> rfl
    · have h2 : ¬ a ∈ tl signs := fun hm => h (signs_lt a hm)
      rw [decide_eq_false h, decide_eq_false h2]
      cases r.all (fun c => decide (c < 128)) <;> cases r.all Unicode.isPrintable <;> rfl
theorem isascii_tl (z : Str) : Txt.isascii z = (tl z).all fun c => decide (c < 128) := by
  unfold Txt.isascii
  rw [← Array.all_toList]
theorem isprintable_tl (z : Str) : Txt.isprintable z = (tl z).all Unicode.isPrintable := by
  unfold Txt.isprintable
  rw [← Array.all_toList]
/-- the text without its percent signs -/
def no37 (z : Str) : Str := ⟨((tl z).filter fun c => decide (c ≠ 37)).toArray⟩
theorem no37_tl (z : Str) : tl (no37 z) = (tl z).filter fun c => decide (c ≠ 37) := rfl
theorem no37_eq (z : Str) : decide (no37 z = z) = (tl z).all fun c => decide (c ≠ 37) := by
  cases e : (tl z).all fun c => decide (c ≠ 37) with
  | true => exact decide_eq_true (ext_tl ((no37_tl z).trans (filter_eq.mpr e)))
  | false =>
    refine decide_eq_false fun h => ?_
    have : (tl z).filter (fun c => decide (c ≠ 37)) = tl z := by rw [← no37_tl, h]
    rw [filter_eq.mp this] at e
    cases e
theorem plain_eq (z : Str) : (Txt.isascii z && (Txt.isprintable z && decide (no37 z = z))) = allIn z signs := by
  rw [isascii_tl, isprintable_tl, no37_eq]
  exact plain_all (tl z)
/-! ### the first sign -/
def hd (z : Str) : Option Nat := (tl z).head?
theorem hd_some {z : Str} (h : 1 ≤ z.length) : ∃ c, hd z = some c ∧ z.cps[0]? = some c := by
  rw [len_tl] at h
  cases e : tl z with
  | nil => rw [e] at h; exact absurd h (by decide)
  | cons c r =>
    refine ⟨c, by unfold hd; rw [e]; rfl, ?_⟩
    have : z.cps.toList[0]? = some c := by show (tl z)[0]? = _; rw [e]; rfl
    simpa using this
theorem cut1_tl (z : Str) : tl (cutS z none (some 1)) = (tl z).take 1 := by
  show ((tl z).drop (HT.sIx z.length 0 none)).take (HT.sIx z.length z.length (some 1) - HT.sIx z.length 0 none) = _
  rw [HT.sIx_none, show HT.sIx z.length z.length (some 1) = min 1 z.length from HT.sIx_nat _ _ 1, List.drop_zero, Nat.sub_zero]
  rw [len_tl]
  cases tl z with
  | nil => rfl
  | cons c r =>
    rw [List.length_cons, show min 1 (r.length + 1) = 1 by omega]
theorem cutFrom1_tl (z : Str) : tl (cutS z (some 1) none) = (tl z).drop 1 := by
  show ((tl z).drop (HT.sIx z.length 0 (some 1))).take (HT.sIx z.length z.length none - HT.sIx z.length 0 (some 1)) = _
  rw [HT.sIx_none, show HT.sIx z.length 0 (some 1) = min 1 z.length from HT.sIx_nat _ _ 1]
  rw [len_tl]
  cases tl z with
  | nil => rfl
  | cons c r =>
    rw [List.length_cons, show min 1 (r.length + 1) = 1 by omega]
    exact List.take_of_length_le (by simp)
theorem cut1_one {z : Str} {c : Nat} (h : hd z = some c) : cutS z none (some 1) = ⟨#[c]⟩ := by
  refine ext_tl ?_
  rw [cut1_tl]
  unfold hd at h
  cases e : tl z with
  | nil => rw [e] at h; cases h
  | cons a r =>
    rw [e] at h
    cases h
    rfl
theorem cut1_nil {z : Str} (h : hd z = none) : cutS z none (some 1) = ("" : Str) := by
  refine eq_empty.mpr ?_
  rw [cut1_tl]
  unfold hd at h
  cases e : tl z with
  | nil => rfl
  | cons a r => rw [e] at h; cases h
theorem one_eq (c d : Nat) : ((⟨#[c]⟩ : Str) = ⟨#[d]⟩) ↔ c = d := by
  constructor
  · intro h
    have := congrArg tl h
    have h2 : ([c] : List Nat) = [d] := this
    cases h2
    rfl
  · intro h; rw [h]
end Z
set_option maxHeartbeats 2000000
namespace Z
open PySem PySem.Spec PyProof.Rows L2 TL PySem.Builtin PySem.Builtin.Str
/-! ### text.translate({37: None}) for a text of ASCII signs: the percent signs go, all others stay -/
/-- nothing that stood in the heap has changed -/
abbrev Old (h h' : Heap) : Prop := ∀ b o, h.get? b = some o → h'.get? b = some o
/-- what the table holds: the key 37 with None, and no other key -/
structure Drops (f : Key → Option Value) : Prop where
  here : f (Sum.inl 37) = some .none
  away : ∀ c : Nat, c ≠ 37 → f (Sum.inl (c : Int)) = none
theorem drops_one : Drops (valueAt [((Sum.inl 37 : Key), Value.none)]) where
  here := rfl
  away := fun c hc => by
    have e : decide ((Sum.inl 37 : Key) = Sum.inl (c : Int)) = false := by
      rw [key_ll]
      exact beq_eq_false_iff_ne.mpr (by omega)
    show ((List.find? _ [((Sum.inl 37 : Key), Value.none)]).map (·.2)) = none
    rw [List.find?_cons, e]
    rfl
section
variable {prog : Program} {w : World} {A : Around} {E : Value → Shared → Prop} {s : Shared} {d : Addr}
/-- the sign 37 is found, with None -/
theorem look_here {f : Key → Option Value} {Q : Mapped → Shared → Prop} (T : Drops f) (hm : s.heap.MapOf (mixKind prog w) d f)
    (q : ∀ k, Q .drop { s with toks := k }) : wpAny (model prog w) A (tableLookup (.ref d) 37) Q E s := by
  unfold tableLookup
  refine wpAny_bind (wpAny_attempt (wpAny_bind (wpAny_mkInt ?_)))
  exact wpAny_getItem_of (knd := mixKind prog w) (k := Sum.inl ((37 : Nat) : Int)) (mixKind_int _ _ _ _) hm T.here (wpAny_pure (q _))
/-- any other sign is not: the KeyError of the look is taken for «keep» -/
theorem look_away {f : Key → Option Value} {Q : Mapped → Shared → Prop} {c : Nat} (hc : c ≠ 37) (calm : A.handled = none) (low : (d == sysModules) = false) (T : Drops f) (hm : s.heap.MapOf (mixKind prog w) d f)
    (q : ∀ h' k, Old s.heap h' → Q .keep { s with heap := h', toks := k }) : wpAny (model prog w) A (tableLookup (.ref d) c) Q E s := by
  unfold tableLookup
  refine wpAny_bind (wpAny_attempt (wpAny_bind (wpAny_mkInt ?_)))
  refine wpAny_getItem_missing_of (knd := mixKind prog w) (k := Sum.inl (c : Int)) (mixKind_int _ _ _ _) low calm hm (T.away c hc) ?_
  intro h' e new
  obtain ⟨eo, _, get, isKey, _⟩ := new.there
  have kin : isSubtype (.type "KeyError") (.type "LookupError") = pure true := key_is_lookup
  refine wpAny_bind (wpAny_isInstance (T := "KeyError") (b := true) ⟨eo, get, isKey⟩ kin ?_)
  exact wpAny_bind (wpAny_rule (wpAny_pure (q h' _ new.keeps)))
end
def left37 (l : List Nat) : List Nat := l.filter fun c => decide (c ≠ 37)
theorem left_nil : left37 [] = [] := rfl
theorem left_here (l : List Nat) : left37 (l ++ [37]) = left37 l := by
  unfold left37
  rw [List.filter_append]
  simp
theorem left_away {c : Nat} (h : c ≠ 37) (l : List Nat) : left37 (l ++ [c]) = left37 l ++ [c] := by
  unfold left37
  rw [List.filter_append]
  simp [h]
theorem left_len (l : List Nat) : (left37 l).length ≤ l.length := List.length_filter_le _ _
def sign (c : Nat) : Str := ⟨#[c]⟩
theorem glue_signs (l : List Nat) : ∀ a : Array Nat, (l.map sign).foldl (fun acc (p : Str) => acc ++ p.cps) a = a ++ l.toArray := by
  induction l with
  | nil => intro a; simp
  | cons c r ih =>
    intro a
    show (r.map sign).foldl (fun acc (p : Str) => acc ++ p.cps) (a ++ #[c]) = _
    rw [ih]
    refine Array.toList_inj.mp ?_
    simp
/-- where a sign of the fast road goes -/
def goes37 (c : Nat) : Option Nat := if c = 37 then none else some c
/-- the memo of the signs asked before -/
def Memo (known : List (Nat × Option Nat)) : Prop := ∀ c a, known.lookup c = some a → a = goes37 c
theorem memo_nil : Memo [] := fun _ _ h => nomatch h
theorem Memo.more {known : List (Nat × Option Nat)} (m : Memo known) (c : Nat) : Memo ((c, goes37 c) :: known) := fun c' a h => by
  rcases lookup_new h with ⟨rfl, e⟩ | h
  · exact e
  · exact m c' a h
abbrev Walk37 : Type := List Str × Nat × Bool × List (Nat × Option Nat) × Bool
/-- the state behind the signs `past`, ahead of `rest` -/
structure Mid37 (x : List Nat) (s : Shared) (rest : List Nat) (past : List Nat) (pieces : List Str) (known : List (Nat × Option Nat)) (h' : Heap) : Prop where
  cut : x = past ++ rest
  made : pieces.reverse = (left37 past).map sign
  memo : Memo known
  old : Old s.heap h'
def At37 (x : List Nat) (s : Shared) (rest : List Nat) (st : Walk37) (s' : Shared) : Prop :=
  ∃ past pieces known h' k, Mid37 x s rest past pieces known h' ∧ st = (pieces, (left37 past).length, true, known, false) ∧ s' = { s with heap := h', toks := k }
section
variable {x rest past : List Nat} {s : Shared} {c : Nat} {pieces : List Str} {known : List (Nat × Option Nat)} {h' : Heap} {k : Nat}
theorem Mid37.away (m : Mid37 x s (c :: rest) past pieces known h') (hc : c ≠ 37) {known' : List (Nat × Option Nat)} (hk : Memo known') {h2 : Heap} (old : Old s.heap h2) :
    At37 x s rest (sign c :: pieces, (left37 past).length + 1, true, known', false) { s with heap := h2, toks := k } := by
  refine ⟨past ++ [c], sign c :: pieces, known', h2, k, ⟨?_, ?_, hk, old⟩, ?_, rfl⟩
  · rw [m.cut, List.append_assoc, List.singleton_append]
  · rw [left_away hc, List.map_append, List.reverse_cons, m.made]
    rfl
  · rw [left_away hc, List.length_append, List.length_singleton]
theorem Mid37.here (m : Mid37 x s (37 :: rest) past pieces known h') {known' : List (Nat × Option Nat)} (hk : Memo known') {h2 : Heap} (old : Old s.heap h2) :
    At37 x s rest (pieces, (left37 past).length, true, known', false) { s with heap := h2, toks := k } := by
  refine ⟨past ++ [37], pieces, known', h2, k, ⟨?_, ?_, hk, old⟩, ?_, rfl⟩
  · rw [m.cut, List.append_assoc, List.singleton_append]
  · rw [left_here, m.made]
  · rw [left_here]
end
theorem meets37 {prog : Program} {w : World} {x : List Nat} {t : Tok} {d : Addr} {f : Key → Option Value} (T : Drops f) (low : (d == sysModules) = false) (few : x.length ≤ 16000000) (ascii : ∀ c ∈ x, c < 128) :
    MeetsIn prog w («str.translate» ⟨[.str (SX.S x) t, .ref d], []⟩) (fun A R s => A.handled = none ∧ s.heap.MapOf (mixKind prog w) d f ∧
      ∀ (v : Value) (h' : Heap) (k : Nat), Old s.heap h' → (∃ t', v = .str (SX.S (left37 x)) t') → R (.ok (.ret v)) { s with heap := h', toks := k }) := by
  refine .of_wp fun A R s hyp => ?_
  obtain ⟨calm, tab, done⟩ := hyp
  have calm1 : A.in1.handled = none := calm
  show wpAny _ _ (if ((SX.S x).length == 0) = true then _ else (do
    let st ← forIn (SX.S x).cps (([], 0, (SX.S x).cps.all fun y => decide (y < 128), [], false) : Walk37) _
    _)) _ _ s
  by_cases empty : x = []
  · rw [if_pos (show ((SX.S x).length == 0) = true by rw [SX.S_len, empty]; rfl)]
    subst empty
    exact wpAny_bind (wpAny_rule (wpAny_pure ⟨_, rfl, done _ s.heap s.toks (fun _ _ e => e) ⟨t, rfl⟩⟩))
  · have full : ¬ ((SX.S x).length == 0) = true := fun h => by
      rw [SX.S_len, beq_iff_eq] at h
      exact empty (List.eq_nil_of_length_eq_zero h)
    have fast : ((SX.S x).cps.all fun y => decide (y < 128)) = true := by
      rw [← Array.all_toList]
      exact List.all_eq_true.mpr fun c hc => decide_eq_true (ascii c hc)
    rw [if_neg full, fast]
    refine wpAny_bind (MeetsSeq2.wpAny_forIn_array _ (At37 x s) _ (fun c rest st s' at_ => ?_) (fun st s' at_ => ?_) (SX.S x).cps ([], 0, true, [], false) ?_)
    · obtain ⟨past, pieces, known, h', k, m, rfl, rfl⟩ := at_
      have short : tooLong (left37 past).length = false := by
        have q := congrArg List.length m.cut
        rw [List.length_append] at q
        have := left_len past
        exact PyProof.Rows.short24 (by omega)
      have tab' : h'.MapOf (mixKind prog w) d f := by
        obtain ⟨o, es, ep, get, r⟩ := tab
        exact ⟨o, es, ep, m.old _ _ get, r⟩
      show wpAny _ _ (if tooLong (left37 past).length = true then _ else (if true = true then _ else _)) _ _ _
      rw [short, if_neg Bool.false_ne_true, if_pos rfl]
      by_cases hc : c = 37
      · subst hc
        cases ask : known.lookup 37 with
        | some a =>
          have ea : a = none := m.memo _ _ ask
          subst ea
          exact wpAny_bind (wpAny_pure (wpAny_pure (m.here m.memo m.old)))
        | none =>
          exact wpAny_bind (look_here T tab' fun k2 => wpAny_bind (wpAny_pure (wpAny_pure (m.here (m.memo.more 37) m.old))))
      · have ego : goes37 c = some c := if_neg hc
        have more := m.memo.more c
        rw [ego] at more
        cases ask : known.lookup c with
        | some a =>
          have ea : a = some c := (m.memo _ _ ask).trans ego
          subst ea
          exact wpAny_bind (wpAny_pure (wpAny_pure (m.away hc m.memo m.old)))
        | none =>
          exact wpAny_bind (look_away hc calm1 low T tab' fun h2 k2 old => wpAny_bind (wpAny_pure (wpAny_pure (m.away hc more fun b o e => old b o (m.old b o e)))))
    · obtain ⟨past, pieces, known, h', k, m, rfl, rfl⟩ := at_
      have ex : past = x := by rw [m.cut, List.append_nil]
      have made := m.made
      rw [ex] at made ⊢
      have := left_len x
      have text : (⟨#[] ++ (left37 x).toArray⟩ : Str) = SX.S (left37 x) := by simp
      show wpAny _ _ (if tooLong (left37 x).length = true then _ else retStr ⟨List.foldl (fun acc (p : Str) => acc ++ p.cps) #[] pieces.reverse⟩) _ _ _
      rw [PyProof.Rows.short24 (n := (left37 x).length) (by omega), if_neg Bool.false_ne_true, made, glue_signs, text]
      exact wpAny_bind (wpAny_mkStr (wpAny_pure ⟨_, rfl, done _ h' _ m.old ⟨_, rfl⟩⟩) (by rw [SX.S_len, sizeLine_eq]; omega))
    · refine ⟨[], [], [], s.heap, s.toks, ⟨?_, rfl, memo_nil, fun _ _ e => e⟩, rfl, rfl⟩
      show x = [] ++ x.toArray.toList
      simp
/-- the rule, over the layer: the table a dict that the call has made -/
theorem mt_translate37 {X : Cx} (hc : X.calm = true) : MtR X "str.translate" (fun x xs H Q => ∃ (z : Str) (d : Addr), x = .str z ∧ xs = [.ref d] ∧ H d = some (.dK [(Sum.inl 37, .non)]) ∧ (∀ c ∈ tl z, c < 128) ∧ z.length ≤ 16000000 ∧ Q (.str (no37 z)) H) := by
  intro pins s σ H x xs v us Q I rx rs ⟨z, d, ex, exs, hd, ascii, few, q⟩
  rw [ex] at rx
  rw [exs] at rs
  obtain ⟨t, ev⟩ := rx
  rw [ev]
  cases rs with
  | cons r1 none_left =>
    cases none_left
    have eu := r1
    rw [show _ = Value.ref d from eu]
    obtain ⟨_, low, vs, kv, is⟩ := I.hok d _ hd
    have evs : vs = [((Sum.inl 37 : Key), Value.none)] := by
      cases kv with
      | cons pq none_left =>
        cases none_left
        exact congrArg (fun p => [p]) (Prod.ext (Eq.symm pq.1) pq.2)
    rw [evs] at is
    have ez : z = SX.S (tl z) := (SX.S_tl z).symm
    rw [ez]
    refine call_meetsIn F.slot_str_translate (typeIs_str _ _ _) F.entry_str_translate (F.args_str_translate_2 _ _) (meets37 (t := t) drops_one low (by rw [len_tl']; exact few) ascii) ⟨I.ok.hd hc, is.mapOf, ?_⟩
    intro v2 h' k old ⟨t', e2⟩
    rw [e2]
    exact ⟨.str _, H, I.kept (t' := k) old, ⟨t', rfl⟩, q⟩
end Z
set_option maxHeartbeats 2000000
namespace Z
open PySem PySem.Spec PyProof.Rows L2 TL
/-! ### defs of the module, called by place or by keywords -/
abbrev FnP (K : PySem.W.Frag) (x : Str) (st : Stmt) (f : Addr) (fd : FuncData) : Prop := FunD K x x (L2.defArgs st) (L2.defBody st) (L2.defScope st) [] [] f fd
structure Call (P : Program) (w : World) (K : PySem.W.Frag) (mg : Str → Option Value) (base : Heap) (k : Nat) (x : Str) (ps : List Str) (sp : Sp) : Prop where
  ex : ∃ (f : Addr) (fd : FuncData), FnOk P w K mg base CX0 k f fd ps sp ∧ mg x = some (.ref f) ∧ PySem.W.keepIn K (.ref f) = true ∧ Binds K fd ps [] ∧ KBn K fd ps 0 ps (fun _ ws => ws) (fun _ zs => zs)
section
variable {P : Program} {w : World} {K : PySem.W.Frag} {mg : Str → Option Value} {base : Heap} {x : Str} {st : Stmt} {f : Addr} {fd : FuncData} {N ps : List Str} {k : Nat} {sp : Sp}
theorem kbn (F : FnP K x st f fd) (h : ∀ (kV doc pm : Value) (an : Option Addr) (cdv ct : Value) (ws : List Value), ws.length = ps.length → bindArgs (PySem.W.fnOf x x (L2.defArgs st) (L2.defBody st) (L2.defScope st) .none kV doc pm an cdv ct) ⟨[], ps.zip ws⟩ = pure (ps.zip ws)) :
    KBn K fd ps 0 ps (fun _ ws => ws) (fun _ zs => zs) := by
  obtain ⟨_, _, dflt, kwd, doc, mod, ann, code, tp, _, isFd, _, _, none_given, _⟩ := F.ex
  have no : dflt = .none := none_given.elim (fun q => q.2) fun q => absurd rfl q.1
  rw [isFd, no]
  refine ⟨fun st0 us ws _ nu nw => ?_, fun _ r => r⟩
  rw [List.eq_nil_of_length_eq_zero nu]
  exact .of_eq (h kwd doc mod ann code tp ws nw)
/-- a def's promise, by its body -/
theorem mkF (F : FnP K x st f fd) (S : FnScope N ps (L2.defScope st)) (len : ∀ vs H Q E, sp vs H Q E → vs.length = ps.length)
    (hbody : ∀ (cdv : Value) (A : Around) (outer : List Env) (s : Shared) (H : Hp) (vs : List V) (Q : VK) (E : XK), Room k (A.deeper (envOfC x (L2.defScope st) s.heap.objs.size f cdv)) → sp vs H Q E →
      ∃ t, PSs (cxOf CX0 P w K mg base N x (L2.defScope st) f cdv A outer s H E).nox (L2.defBody st) t ∧ t { nx := fun _ H' => Q .non H', rt := Q } (start N vs) H) : FnOk P w K mg base CX0 (k + 1) f fd ps sp :=
  F.ok S len fun cdv A outer s H vs Q E hr h => by
    obtain ⟨t, h1, h2⟩ := hbody cdv A outer s H vs Q E hr h
    exact ⟨t, h1.nox, h2⟩
theorem mk (F : FnP K x st f fd) (gm : mg x = some (.ref f))
    (hb : ∀ (kV doc pm : Value) (an : Option Addr) (cdv ct : Value) (us : List Value), us.length = ps.length → bindArgs (PySem.W.fnOf x x (L2.defArgs st) (L2.defBody st) (L2.defScope st) .none kV doc pm an cdv ct) ⟨us, []⟩ = pure (ps.zip us))
    (hk : ∀ (kV doc pm : Value) (an : Option Addr) (cdv ct : Value) (ws : List Value), ws.length = ps.length → bindArgs (PySem.W.fnOf x x (L2.defArgs st) (L2.defBody st) (L2.defScope st) .none kV doc pm an cdv ct) ⟨[], ps.zip ws⟩ = pure (ps.zip ws))
    (S : FnScope N ps (L2.defScope st)) (len : ∀ vs H Q E, sp vs H Q E → vs.length = ps.length)
    (hbody : ∀ (cdv : Value) (A : Around) (outer : List Env) (s : Shared) (H : Hp) (vs : List V) (Q : VK) (E : XK), Room k (A.deeper (envOfC x (L2.defScope st) s.heap.objs.size f cdv)) → sp vs H Q E →
      ∃ t, PSs (cxOf CX0 P w K mg base N x (L2.defScope st) f cdv A outer s H E).nox (L2.defBody st) t ∧ t { nx := fun _ H' => Q .non H', rt := Q } (start N vs) H) : Call P w K mg base (k + 1) x ps sp := by
  exact ⟨f, fd, mkF F S len hbody, gm, F.kp, F.bindsN hb, kbn F hk⟩
end
section
variable {X : Cx} {k j : Nat} {x : Str} {ps : List Str} {sp : Sp} {p pos : Pos} {e : Expr} {es : List Expr} {kws : List Keyword} {t tk : TA}
theorem pe_f (c : Call X.prog X.w X.K X.mg X.base k x ps sp) (hr : Room j X.A) (hk : k ≤ j) (hg : Gl X x) (ha : PA X (e :: es) t)
    (hdb : (x == ("__debug__" : Str)) = false := by decide) (he : starEach (e :: es) X.env = (false, eval e X.env) :: starEach es X.env := by rfl) (hpl : (backTo pos (starEach es X.env)).any (·.1) = false := by rfl) :
    PE X (.Call (.Name x p) (e :: es) [] pos) (tCall sp [] E0 t) := by
  obtain ⟨f, fd, F, hm, kp, b, _⟩ := c.ex
  exact pe_call F (hr.mono hk) hg hm kp b .nil pass0 ha hdb he hpl
theorem pe_f0 (c : Call X.prog X.w X.K X.mg X.base k x ps sp) (hr : Room j X.A) (hk : k ≤ j) (hg : Gl X x) (hdb : (x == ("__debug__" : Str)) = false := by decide) : PE X (.Call (.Name x p) [] [] pos) (tCall sp [] E0 tNil) := by
  obtain ⟨f, fd, F, hm, kp, b, _⟩ := c.ex
  exact pe_call0 F (hr.mono hk) hg hm kp b .nil pass0 hdb
/-- f(k = v, ..), all parameters by keywords, in their order -/
theorem pe_fk (c : Call X.prog X.w X.K X.mg X.base k x ps sp) (hr : Room j X.A) (hj : k ≤ j) (hg : Gl X x) (hkw : PK X kws tk)
    (hks : (backToKw pos (keywordEach kws X.env)).filterMap (·.1) = ps := by rfl) (hall : (backToKw pos (keywordEach kws X.env)).all (·.1.isSome) = true := by rfl)
    (hdb : (x == ("__debug__" : Str)) = false := by decide)
    (hpl : ((backTo pos (starEach [] X.env)).any (·.1) || (backToKw pos (keywordEach kws X.env)).any (·.1.isNone)) = false := by rfl) :
    PE X (.Call (.Name x p) [] kws pos) (tCallN 0 ps.length sp (fun _ zs => zs) E0 tNil tk) where
  run := fun pins s σ H Q I asks => by
    obtain ⟨f, fd, F, named, kept, _, binds⟩ := c.ex
    refine wpAny_Call_Name_kw (ld_glob I hg named (PySem.W.callWith_KW0 (h₀ := X.base) I.ok.mod.kin kept hall ?_ hpl) hdb)
    refine thn (hkw.run pos pins s σ H _ I asks) fun ws s2 told => ?_
    obtain ⟨zs, H2, I2, rz, _, many, wish⟩ := told
    refine ⟨I2.kIn, ?_⟩
    rw [hks]
    exact run_fnN (us := []) (vs := []) F (hr.mono hj) binds pass0 I2 .nil rz rfl many wish
end
section
variable {X : Cx} {x : Str} {pos : Pos}
/-- a module's constant -/
theorem pe_gc {v : V} (hg : Gl X x) (h : ∃ u, X.mg x = some u ∧ RelV v u) (hd : (x == ("__debug__" : Str)) = false := by decide) : PE X (.Name x pos) (tC v) := by
  obtain ⟨u, hm, r⟩ := h
  exact pe_glob hg hm r hd
end
/-- where the context is a comprehension's, its written part is the def's -/
theorem inK {X : Cx} {K : PySem.W.Frag} {e : Expr} {t : PySem.W.Frag → TE} (same : X.K = K) (h : PE X e (t X.K)) : PE X e (t K) := same ▸ h
/-! ### a text times a number -/
def repS (z : Str) (n : Nat) : Str := if n = 0 then Str.empty else if (n == 1 || z.length == 0) = true then z else ⟨(List.replicate n z.cps).foldl (· ++ ·) #[]⟩
theorem rep_size (a : Array Nat) : ∀ (n : Nat) (acc : Array Nat), ((List.replicate n a).foldl (· ++ ·) acc).size = acc.size + n * a.size
  | 0, acc => by simp
  | n + 1, acc => by
    rw [List.replicate_succ, List.foldl_cons, rep_size a n, Array.size_append, Nat.succ_mul]
    omega
theorem repS_len (z : Str) (n : Nat) : (repS z n).length = n * z.length := by
  unfold repS
  split
  · rename_i h
    rw [h, Nat.zero_mul]
    rfl
  · split
    · rename_i h
      simp only [Bool.or_eq_true, beq_iff_eq] at h
      rcases h with h | h
      · rw [h, Nat.one_mul]
      · rw [h, Nat.mul_zero]
    · show ((List.replicate n z.cps).foldl (· ++ ·) #[]).size = n * z.cps.size
      rw [rep_size]
      simp
section
variable {X : Cx}
theorem op_rep_str : OpR X (binaryOp .Mult) (fun x y H Q => ∃ (z : Str) (i : Int), x = .str z ∧ y = .int i ∧ 0 ≤ i ∧ i ≤ 1000 ∧ z.length ≤ 1000 ∧ Q (.str (repS z i.toNat)) H) := by
  intro pins s σ H x y v u Q I rx ry h
  obtain ⟨z, i, rfl, rfl, h0, h1, hz, q⟩ := h
  obtain ⟨t, rfl⟩ := rx
  obtain ⟨t', rfl⟩ := ry
  have hle : z.length * i.toNat ≤ 1000000 := Nat.le_trans (Nat.mul_le_mul hz (show i.toNat ≤ 1000 by omega)) (by decide)
  refine PySem.P.mul_str ?_ (fun hn _ hgt => ?_) (fun _ _ => PyProof.Rows.short24 (by omega)) ?_
  · rw [decide_eq_false (show ¬ i < -(2 ^ 63) by omega), decide_eq_false (show ¬ i ≥ 2 ^ 63 by omega)]
    rfl
  · have h2 : i ∣ i := Int.dvd_refl i
    have h3 : (2 ^ 63 - 1) / (1000 : Int) ≤ (2 ^ 63 - 1) / i := by
      have : (2 ^ 63 - 1) / (1000 : Int) * i ≤ 2 ^ 63 - 1 := by
        have e : (2 ^ 63 - 1) / (1000 : Int) = 9223372036854775 := by decide
        rw [e]
        omega
      exact (Int.le_ediv_iff_mul_le (by omega)).mpr this
    have e : (2 ^ 63 - 1) / (1000 : Int) = 9223372036854775 := by decide
    rw [e] at h3
    omega
  · by_cases hn : i < 1
    · rw [if_pos hn]
      have : repS z i.toNat = Str.empty := by unfold repS; rw [if_pos (show i.toNat = 0 by omega)]
      rw [this] at q
      exact ⟨by decide, ⟨.str Str.empty, H, I.tok _, ⟨_, rfl⟩, q⟩⟩
    · rw [if_neg hn]
      have e1 : (i == 1) = (i.toNat == 1) := by
        by_cases h : i = 1
        · subst h; rfl
        · rw [beq_eq_false_iff_ne.mpr h, beq_eq_false_iff_ne.mpr (show i.toNat ≠ 1 by omega)]
      have e2 : repS z i.toNat = if (i.toNat == 1 || z.length == 0) = true then z else ⟨(List.replicate i.toNat z.cps).foldl (· ++ ·) #[]⟩ := by
        unfold repS
        rw [if_neg (show ¬ i.toNat = 0 by omega)]
      have hl := repS_len z i.toNat
      rw [e2] at q hl
      rw [e1]
      by_cases hc : (i.toNat == 1 || z.length == 0) = true
      · rw [if_pos hc] at q ⊢
        exact ⟨.str z, H, I, ⟨t, rfl⟩, q⟩
      · rw [if_neg hc] at q hl ⊢
        refine ⟨?_, ⟨.str _, H, I.tok _, ⟨_, rfl⟩, q⟩⟩
        rw [hl, sizeLine_eq]
        rw [Nat.mul_comm] at hle
        omega
end
/-! ### the size of a cell -/
theorem bits_lt {z : Int} {n : Nat} (h : Builtin.Int.intBits z ≤ n) : z.natAbs < 2 ^ n := by
  unfold Builtin.Int.intBits at h
  by_cases hz : z = 0
  · rw [hz]
    exact Nat.two_pow_pos n
  · have e : (z == 0) = false := beq_eq_false_iff_ne.mpr hz
    rw [e, if_neg Bool.false_ne_true] at h
    exact Nat.lt_of_lt_of_le (Nat.lt_log2_self) (Nat.pow_le_pow_right (by decide) h)
end Z
set_option maxHeartbeats 2000000
namespace Z
open PySem PySem.Spec PyProof.Rows L2 TL Evl
/-! ### named readings of values -/
def rStrip : V → List V → Hp → VK → Prop := fun x xs H Q => ∃ a b, x = .str a ∧ xs = [.str b] ∧ a.length ≤ sizeLine ∧ Q (.str (Txt.stripChars a b)) H
def rIsascii : V → List V → Hp → VK → Prop := fun x xs H Q => ∃ a, x = .str a ∧ xs = [] ∧ True ∧ Q (.bl (Txt.isascii a)) H
def rIsprint : V → List V → Hp → VK → Prop := fun x xs H Q => ∃ a, x = .str a ∧ xs = [] ∧ True ∧ Q (.bl (Txt.isprintable a)) H
def rTrans : V → List V → Hp → VK → Prop := fun x xs H Q => ∃ (z : Str) (d : Addr), x = .str z ∧ xs = [.ref d] ∧ H d = some (.dK [(Sum.inl 37, .non)]) ∧ (∀ c ∈ tl z, c < 128) ∧ z.length ≤ 16000000 ∧ Q (.str (no37 z)) H
def rAddS2 : R2 := fun x y H Q => ∃ i j, x = .str i ∧ y = .str j ∧ i.length + j.length ≤ sizeLine ∧ Q (.str (i ++ j)) H
def rLenStr : List V → Hp → VK → Prop := fun xs H Q => ∃ z, xs = [.str z] ∧ z.length ≤ sizeLine ∧ Q (.int z.length) H
def rIntStr : List V → Hp → VK → Prop := fun xs H Q => ∃ a n, xs = [.str a] ∧ PySem.intText? a = some n ∧ a.length ≤ 640 ∧ Q (.int n) H
def rStarts : V → List V → Hp → VK → Prop := fun x xs H Q => ∃ a b, x = .str a ∧ xs = [.str b] ∧ Q (.bl (Txt.startswith a b)) H
section
variable {X : Cx}
theorem mz_strip : MtR X "str.strip" rStrip := mt_stripChars
theorem mz_isascii : MtR X "str.isascii" rIsascii := mt_isascii
theorem mz_isprint : MtR X "str.isprintable" rIsprint := mt_isprintable
theorem mz_trans (hc : X.calm = true) : MtR X "str.translate" rTrans := mt_translate37 hc
theorem oz_add : OpR X (binaryOp .Add) rAddS2 := op_add_str
theorem cz_len : CallR X (.builtin "len") rLenStr := call_len_str
theorem cz_int : CallR X (.type "int") rIntStr := call_int_str
theorem mz_starts : MtR X "str.startswith" rStarts := mt_startswith
end
/-! ### what evaluates to what, for texts -/
section
variable {K : PySem.W.Frag} {σ : L2.St} {H H' : Hp} {ta tb tc te to ts : TE} {t u : TT} {x y z v : V} {r : R2} {a b s : Str} {c : Nat}
theorem rv_in {w : Str} : RV rInS (.str ⟨#[c]⟩) (.str w) H (.bl (decide (c ∈ tl w))) := fun H1 _ _ q => ⟨c, w, rfl, rfl, q H1 (Ex.refl H1)⟩
theorem rv_notin {w : Str} : RV rNotInS (.str ⟨#[c]⟩) (.str w) H (.bl (!decide (c ∈ tl w))) := fun H1 _ _ q => ⟨c, w, rfl, rfl, q H1 (Ex.refl H1)⟩
theorem rv_isN : RV rIsN x .non H (.bl (decide (x = .non))) := fun H1 _ _ q => ⟨rfl, q H1 (Ex.refl H1)⟩
theorem rv_notN : RV rNotN x .non H (.bl (!decide (x = .non))) := fun H1 _ _ q => ⟨rfl, q H1 (Ex.refl H1)⟩
theorem rv_addS (h : a.length + b.length ≤ 200000) : RV rAddS2 (.str a) (.str b) H (.str (a ++ b)) := fun H1 _ _ q => ⟨a, b, rfl, rfl, Nat.le_trans h (by decide), q H1 (Ex.refl H1)⟩
theorem decS {a b : Str} : decide (V.str a = V.str b) = decide (a = b) := by
  by_cases h : a = b
  · rw [decide_eq_true h, decide_eq_true (congrArg V.str h)]
  · rw [decide_eq_false h, decide_eq_false fun e => h (V.str.inj e)]
theorem decI {a b : Int} : decide (V.int a = V.int b) = decide (a = b) := by
  by_cases h : a = b
  · rw [decide_eq_true h, decide_eq_true (congrArg V.int h)]
  · rw [decide_eq_false h, decide_eq_false fun e => h (V.int.inj e)]
theorem rv_eqS : RV rEq (.str a) (.str b) H (.bl (decide (a = b))) := by
  rw [← decS]; exact rv_eq rfl
theorem rv_neS : RV rNe (.str a) (.str b) H (.bl (!decide (a = b))) := by
  rw [← decS]; exact rv_ne rfl
theorem rv_eqI {i j : Int} : RV rEq (.int i) (.int j) H (.bl (decide (i = j))) := by
  rw [← decI]; exact rv_eq rfl
theorem rv_neI {i j : Int} : RV rNe (.int i) (.int j) H (.bl (!decide (i = j))) := by
  rw [← decI]; exact rv_ne rfl
theorem ev_strip (h : Ev to σ H (.str a)) (hs : Ev ts σ H (.str s)) (hz : a.length ≤ 100000) : Ev (tBM K "str" rStrip to (tCons ts tNil)) σ H (.str (Txt.stripChars a s)) := fun H1 e Q q =>
  h H1 e _ fun H2 e2 => ⟨rfl, hs H2 (e.trans e2) _ fun H3 e3 => ⟨a, s, rfl, rfl, sz_of hz, q H3 (e2.trans e3)⟩⟩
theorem ev_isascii (h : Ev to σ H (.str a)) : Ev (tBM0 K "str" rIsascii to) σ H (.bl (Txt.isascii a)) := fun H1 e Q q => h H1 e _ fun H2 e2 => ⟨rfl, a, rfl, rfl, trivial, q H2 e2⟩
theorem ev_isprint (h : Ev to σ H (.str a)) : Ev (tBM0 K "str" rIsprint to) σ H (.bl (Txt.isprintable a)) := fun H1 e Q q => h H1 e _ fun H2 e2 => ⟨rfl, a, rfl, rfl, trivial, q H2 e2⟩
theorem ev_starts (h : Ev to σ H (.str a)) (hs : Ev ts σ H (.str s)) : Ev (tBM K "str" rStarts to (tCons ts tNil)) σ H (.bl (Txt.startswith a s)) := fun H1 e Q q =>
  h H1 e _ fun H2 e2 => ⟨rfl, hs H2 (e.trans e2) _ fun H3 e3 => ⟨a, s, rfl, rfl, q H3 (e2.trans e3)⟩⟩
/-- text.translate({37: None}) -/
theorem ev_trans (h : Ev to σ H (.str a)) (ha : ∀ c ∈ tl a, c < 128) (hz : a.length ≤ 100000) : Ev (tBM K "str" rTrans to (tCons (tDisp [(tC (.int 37), tC .non)]) tNil)) σ H (.str (no37 a)) := fun H1 e Q q =>
  h H1 e _ fun H2 e2 => ⟨rfl, fun p hp => ⟨upd_same, [(Sum.inl 37, .non)], rfl, (by decide), ⟨a, p, rfl, rfl, (by rw [upd_same]; rfl), ha, Nat.le_trans hz (by decide), q _ (e2.trans (fun b o hb => by
    rw [upd_ne (ne_of_none hb hp), upd_ne (ne_of_none hb hp)]
    exact hb))⟩⟩⟩
theorem ev_lenStr (h : Ev te σ H (.str a)) (hz : a.length ≤ 100000) : Ev (tCB rLenStr (tCons te tNil)) σ H (.int (a.length : Int)) := fun H1 e Q q => h H1 e _ fun H2 e2 => ⟨a, rfl, sz_of hz, q H2 e2⟩
theorem ev_intStr {n : Int} (h : Ev te σ H (.str a)) (hn : PySem.intText? a = some n) (hl : a.length ≤ 640) : Ev (tCB rIntStr (tCons te tNil)) σ H (.int n) := fun H1 e Q q => h H1 e _ fun H2 e2 => ⟨a, n, rfl, hn, hl, q H2 e2⟩
theorem ev_slS {tl' th : TO} {lo hi : Option Int} (h : Ev te σ H (.str a)) (h1 : EvO tl' σ H lo) (h2 : EvO th σ H hi) (hz : a.length ≤ 100000) : Ev (tSl rSlS te tl' th) σ H (.str (cutS a lo hi)) := fun H1 e Q q =>
  h H1 e _ fun H2 e2 => h1 H2 (e.trans e2) _ fun H3 e3 => h2 H3 ((e.trans e2).trans e3) _ fun H4 e4 => ⟨a, rfl, sz_of hz, q H4 ((e2.trans e3).trans e4)⟩
theorem ev_ixS {i : Int} (h : Ev te σ H (.str a)) (h1 : Ev tb σ H (.int i)) (hz : a.length ≤ 100000) (ha : atI (tl a) i = some c) : Ev (tOp rIxS te tb) σ H (.str ⟨#[c]⟩) := ev_op h h1 (rv_ixS hz ha)
/-- a <= b <= c -/
theorem ev_chain {i j k : Int} (ha : Ev ta σ H (.int i)) (hb : Ev tb σ H (.int j)) (hc : Ev tc σ H (.int k)) :
    Ev (tChain (rI0 fun i j => .bl (decide (i ≤ j))) (rI0 fun i j => .bl (decide (i ≤ j))) ta tb tc) σ H (.bl (decide (i ≤ j) && decide (j ≤ k))) := fun H1 e Q q =>
  ha H1 e _ fun H2 e2 => hb H2 (e.trans e2) _ fun H3 e3 => ⟨i, j, rfl, rfl, _, rfl, by
    cases h : decide (i ≤ j) with
    | true =>
      refine iteT ?_
      refine hc H3 ((e.trans e2).trans e3) _ fun H4 e4 => ⟨j, k, rfl, rfl, ?_⟩
      have g := q H4 ((e2.trans e3).trans e4)
      rw [h] at g
      exact g
    | false =>
      refine iteF ?_
      have g := q H3 (e2.trans e3)
      rw [h] at g
      exact g⟩
/-- the same, where the last part is asked only if the first holds -/
theorem ev_callN {sp : Sp} {vs : List V} {n : Nat} {E : XK} {tk : TA} (h : EvA tk σ H vs) (hl : vs.length = n) (hs : SpV sp vs H z) : Ev (tCallN 0 n sp (fun _ zs => zs) E tNil tk) σ H z := fun H1 e Q q =>
  h H1 e _ fun H2 e2 => ⟨rfl, hl, hs H2 (e.trans e2) Q (fun H3 e3 => q H3 (e2.trans e3)) E⟩
theorem el_callN {sp : Sp} {vs xs : List V} {n : Nat} {E : XK} {tk : TA} (h : EvA tk σ H vs) (hl : vs.length = n) (hs : SpL sp vs H xs) : EvL (tCallN 0 n sp (fun _ zs => zs) E tNil tk) σ H xs := fun H1 e Q q =>
  h H1 e _ fun H2 e2 => ⟨rfl, hl, hs H2 (e.trans e2) Q (fun p H3 hp e3 h3 => q p H3 (fresh_back e2 hp) (e2.trans e3) h3) E⟩
end
/-! ### promises of plain functions of texts -/
def sp1 (f : Str → V) : Sp := fun vs H Q _ => ∃ z : Str, vs = [.str z] ∧ z.length ≤ 100000 ∧ RetV (f z) H Q
def sp2 (f : Str → Str → V) : Sp := fun vs H Q _ => ∃ z s : Str, vs = [.str z, .str s] ∧ z.length ≤ 100000 ∧ RetV (f z s) H Q
def sp0 (v : V) : Sp := fun vs H Q _ => vs = [] ∧ RetV v H Q
def sp1L (f : Str → List V) : Sp := fun vs H Q _ => ∃ z : Str, vs = [.str z] ∧ z.length ≤ 10000 ∧ RetL (f z) H Q
theorem sv1 {f : Str → V} {z : Str} {H : Hp} (h : z.length ≤ 100000) : SpV (sp1 f) [.str z] H (f z) := fun H1 e Q q E => ⟨z, rfl, h, q⟩
theorem sv2 {f : Str → Str → V} {z s : Str} {H : Hp} (h : z.length ≤ 100000) : SpV (sp2 f) [.str z, .str s] H (f z s) := fun H1 e Q q E => ⟨z, s, rfl, h, q⟩
theorem sv0 {v : V} {H : Hp} : SpV (sp0 v) [] H v := fun H1 e Q q E => ⟨rfl, q⟩
theorem sl1 {f : Str → List V} {z : Str} {H : Hp} (h : z.length ≤ 10000) : SpL (sp1L f) [.str z] H (f z) := fun H1 e Q q E => ⟨z, rfl, h, q⟩
end Z
set_option maxHeartbeats 2000000
namespace Z
open PySem PySem.Spec PyProof.Rows L2 TL Evl
/-! ### cut at commas -/
def splC : List Nat → List Nat → List (List Nat)
  | acc, [] => [acc]
  | acc, c :: r => if c = 44 then acc :: splC [] r else splC (acc ++ [c]) r
theorem spl_splC : ∀ (l acc : List Nat), spl [44] 0 acc l = splC acc l
  | [], acc => spl_nil _ _ _
  | c :: r, acc => by
    have hp : pre [44] (c :: r) = decide (c = 44) := by
      show ([c] == [44]) = decide (c = 44)
      by_cases h : c = 44
      · rw [h]; rfl
      · rw [decide_eq_false h]
        exact beq_eq_false_iff_ne.mpr fun e => h (by cases e; rfl)
    show spl [44] 0 acc (c :: r) = if c = 44 then acc :: splC [] r else splC (acc ++ [c]) r
    by_cases h : c = 44
    · rw [spl_hit (by rw [hp, decide_eq_true h]), if_pos h]
      show acc :: spl [44] 0 [] r = _
      rw [spl_splC r []]
    · rw [spl_miss (by rw [hp, decide_eq_false h]), if_neg h]
      exact spl_splC r (acc ++ [c])
theorem splC_len : ∀ (l acc : List Nat), (splC acc l).length ≤ l.length + 1
  | [], acc => Nat.le_refl _
  | c :: r, acc => by
    show (if c = 44 then acc :: splC [] r else splC (acc ++ [c]) r).length ≤ r.length + 1 + 1
    by_cases h : c = 44
    · rw [if_pos h, List.length_cons]; have := splC_len r []; omega
    · rw [if_neg h]; have := splC_len r (acc ++ [c]); omega
theorem splC_each : ∀ (l acc p : List Nat), p ∈ splC acc l → p.length ≤ acc.length + l.length
  | [], acc, p, h => by
    rw [List.mem_singleton.mp h]
    exact Nat.le_add_right _ _
  | c :: r, acc, p, h => by
    have h : p ∈ (if c = 44 then acc :: splC [] r else splC (acc ++ [c]) r) := h
    rw [List.length_cons]
    by_cases hc : c = 44
    · rw [if_pos hc] at h
      rcases List.mem_cons.mp h with e | h
      · rw [e]; omega
      · have := splC_each r [] p h
        rw [List.length_nil] at this
        omega
    · rw [if_neg hc] at h
      have := splC_each r (acc ++ [c]) p h
      rw [List.length_append, List.length_singleton] at this
      omega
theorem comma : tl ("," : Str) = [44] := by decide +kernel
theorem comma_kind {x : Str} : ¬ Builtin.Str.strKind x < Builtin.Str.strKind ("," : Str) := kind_ok (by decide +kernel)
theorem split_tl (z : Str) : (Txt.split z ",").map tl = splC [] (tl z) := by
  rw [split_spl z "," (by rw [comma]; simp) comma_kind, comma]
  exact spl_splC _ _
def S' (l : List Nat) : Str := ⟨l.toArray⟩
theorem S'_tl (x : Str) : S' (tl x) = x := mk_tl x
theorem tl_S' (l : List Nat) : tl (S' l) = l := rfl
theorem split_eq (z : Str) : Txt.split z "," = (splC [] (tl z)).map S' := by
  rw [← split_tl, List.map_map]
  have : (S' ∘ tl) = id := funext S'_tl
  rw [this, List.map_id]
theorem split_len (z : Str) : (Txt.split z ",").length ≤ z.length + 1 := by
  rw [split_eq, List.length_map, len_tl]
  exact splC_len _ _
theorem split_each {z p : Str} (h : p ∈ Txt.split z ",") : p.length ≤ z.length := by
  rw [split_eq] at h
  obtain ⟨l, hl, rfl⟩ := List.mem_map.mp h
  have := splC_each _ _ _ hl
  rw [List.length_nil, Nat.zero_add] at this
  rw [len_tl, len_tl]
  exact this
/-- the elements of a list in a field -/
def stripped (z : Str) : List Str := (Txt.split z ",").map fun p => Txt.stripChars p " "
def elems (z : Str) : List Str := (stripped z).filter fun p => !decide (p = ("" : Str))
/-! ### the same, sign by sign -/
def wstep (st : List Str × Str) (c : Nat) : List Str × Str :=
  if c = 44 then (if Txt.stripChars st.2 " " = ("" : Str) then st.1 else st.1 ++ [Txt.stripChars st.2 " "], "") else (st.1, st.2 ++ ⟨#[c]⟩)
def keepW (p : Str) : List Str := if Txt.stripChars p " " = ("" : Str) then [] else [Txt.stripChars p " "]
theorem keepW_eq (l : List Str) : (l.map fun p => Txt.stripChars p " ").filter (fun p => !decide (p = ("" : Str))) = l.flatMap keepW := by
  induction l with
  | nil => rfl
  | cons p r ih =>
    rw [List.map_cons, List.filter_cons, List.flatMap_cons, ih]
    unfold keepW
    by_cases h : Txt.stripChars p " " = ("" : Str)
    · rw [decide_eq_true h, if_pos h]; rfl
    · rw [decide_eq_false h, if_neg h]; rfl
theorem snoc_S' (l : List Nat) (c : Nat) : S' l ++ (⟨#[c]⟩ : Str) = S' (l ++ [c]) := ext_tl (by rw [tl_append]; rfl)
theorem wfold : ∀ (l : List Nat) (fs : List Str) (w : List Nat), (l ++ [44]).foldl wstep (fs, S' w) = (fs ++ ((splC w l).map S').flatMap keepW, ("" : Str))
  | [], fs, w => by
    show wstep (fs, S' w) 44 = _
    unfold wstep
    rw [if_pos rfl]
    show (if Txt.stripChars (S' w) " " = ("" : Str) then fs else fs ++ [Txt.stripChars (S' w) " "], ("" : Str)) = (fs ++ ([w].map S').flatMap keepW, ("" : Str))
    have : ([w].map S').flatMap keepW = keepW (S' w) := by simp
    rw [this]
    unfold keepW
    by_cases h : Txt.stripChars (S' w) " " = ("" : Str)
    · rw [if_pos h, if_pos h, List.append_nil]
    · rw [if_neg h, if_neg h]
  | c :: r, fs, w => by
    rw [List.cons_append, List.foldl_cons]
    show List.foldl wstep (wstep (fs, S' w) c) (r ++ [44]) = (fs ++ ((if c = 44 then w :: splC [] r else splC (w ++ [c]) r).map S').flatMap keepW, ("" : Str))
    unfold wstep
    by_cases h : c = 44
    · rw [if_pos h, if_pos h]
      have e : ("" : Str) = S' [] := eq_comm.mp (eq_empty.mpr rfl)
      show List.foldl wstep (if Txt.stripChars (S' w) " " = ("" : Str) then fs else fs ++ [Txt.stripChars (S' w) " "], ("" : Str)) (r ++ [44]) = _
      rw [e, wfold r _ [], List.map_cons, List.flatMap_cons, ← e]
      unfold keepW
      by_cases h2 : Txt.stripChars (S' w) " " = ("" : Str)
      · rw [if_pos h2, if_pos h2, List.nil_append]
      · rw [if_neg h2, if_neg h2, List.append_assoc]
    · rw [if_neg h, if_neg h]
      show List.foldl wstep (fs, S' w ++ ⟨#[c]⟩) (r ++ [44]) = _
      rw [snoc_S', wfold r fs (w ++ [c])]
theorem words_elems (z : Str) : ((tl z ++ [44]).foldl wstep ([], ("" : Str))).1 = elems z := by
  have e : ("" : Str) = S' [] := eq_comm.mp (eq_empty.mpr rfl)
  have h := wfold (tl z) [] []
  rw [← e] at h
  rw [h]
  show [] ++ ((splC [] (tl z)).map S').flatMap keepW = elems z
  rw [List.nil_append, ← split_eq]
  unfold elems stripped
  rw [keepW_eq]
/-! ### what a comprehension gives -/
theorem given_take {α : Type} (xs : List α) (d : α) (p : α → Bool) (g : α → V) : ∀ n, n ≤ xs.length → given n (fun i => p (xs.getD i d)) (fun i => g (xs.getD i d)) = ((xs.take n).filter p).map g
  | 0, _ => rfl
  | n + 1, h => by
    have hn : n < xs.length := h
    have e : xs.getD n d = xs[n] := by rw [List.getD_eq_getElem?_getD, List.getElem?_eq_getElem hn]; rfl
    have et : xs.take (n + 1) = xs.take n ++ [xs[n]] := by rw [List.take_add_one, List.getElem?_eq_getElem hn]; rfl
    rw [et, List.filter_append, List.map_append, ← given_take xs d p g n (by omega)]
    by_cases hp : p (xs.getD n d) = true
    · rw [given_yes (f := fun i => p (xs.getD i d)) hp]
      rw [e] at hp ⊢
      rw [List.filter_cons, if_pos hp]
      rfl
    · have hp' : p (xs.getD n d) = false := by
        cases h : p (xs.getD n d) with
        | true => exact absurd h hp
        | false => rfl
      rw [given_no (f := fun i => p (xs.getD i d)) hp']
      rw [e] at hp
      rw [List.filter_cons, if_neg hp]
      show _ = _ ++ []
      rw [List.append_nil]
theorem given_all {α : Type} (xs : List α) (d : α) (p : α → Bool) (g : α → V) : given xs.length (fun i => p (xs.getD i d)) (fun i => g (xs.getD i d)) = (xs.filter p).map g := by
  rw [given_take xs d p g xs.length (Nat.le_refl _), List.take_length]
theorem at_str {xs : List Str} {i : Nat} {x : V} (h : (xs.map V.str)[i]? = some x) (d : Str) : i < xs.length ∧ x = .str (xs.getD i d) ∧ xs.getD i d ∈ xs := by
  rw [List.getElem?_map] at h
  cases e : xs[i]? with
  | none => rw [e] at h; cases h
  | some a =>
    rw [e] at h
    cases h
    have : xs.getD i d = a := by rw [List.getD_eq_getElem?_getD, e]; rfl
    exact ⟨(List.getElem?_eq_some_iff.mp e).1, by rw [this], by rw [this]; exact List.mem_of_getElem? e⟩
/-! ### loops over a text; a text split -/
def rSplit : V → List V → Hp → VK → Prop := fun x xs H Q => ∃ a b, x = .str a ∧ xs = [.str b] ∧ (b.length == 0) = false ∧ a.length + 2 ≤ sizeLine ∧ rNewStrs (Txt.split a b) H Q
theorem mz_split {X : Cx} : MtR X "str.split" rSplit := mt_split
section
variable {K : PySem.W.Frag} {σ : L2.St} {H H' : Hp} {ta tb tc te to ts : TE} {t u : TT} {x y z v : V} {r : R2} {a b s : Str} {c : Nat} {D : Ends} {tu tz : TS}
theorem el_split (h : Ev to σ H (.str a)) (hs : Ev ts σ H (.str s)) (h0 : (s.length == 0) = false) (hz : a.length ≤ 100000) : EvL (tBM K "str" rSplit to (tCons ts tNil)) σ H ((Txt.split a s).map V.str) := fun H1 e Q q =>
  h H1 e _ fun H2 e2 => ⟨rfl, hs H2 (e.trans e2) _ fun H3 e3 => ⟨a, s, rfl, rfl, h0, Nat.le_trans (Nat.add_le_add_right hz 2) (by decide), fun p hp => q p _ (fresh_back (e2.trans e3) hp) ((e2.trans e3).trans (Ex.new hp)) upd_same⟩⟩
theorem s_forS {w : Str} {j : Nat} (h : Ev te σ H (.str w)) (Pv : Nat → L2.St → Hp → Prop) (h0 : ∀ H1, Ex H H1 → Pv 0 σ H1)
    (hs : ∀ i c σ' H', (tl w)[i]? = some c → Pv i σ' H' → tu { D with nx := Pv (i + 1), ct := Pv (i + 1), bk := D.nx } (σ'.set j (some (.str ⟨#[c]⟩))) H') (hd : ∀ σ' H', Pv (tl w).length σ' H' → D.nx σ' H') : tFor (iStr te) (gName j) tu D σ H :=
  h H (Ex.refl H) _ fun H1 e => ⟨w, rfl, for_it (walk_str (z := w)) Pv (h0 H1 e) (fun _ _ _ _ _ => trivial) (fun i x σ' H' H'' hi p y => by
    obtain ⟨rfl, c, hc, rfl⟩ := y
    exact hs i c σ' H'' (by show w.cps.toList[i]? = some c; simpa using hc) p) (fun σ' H' p => hd σ' H' (by
      have : (tl w).length = w.cps.size := by rw [len_tl']; rfl
      rw [this]; exact p))⟩
theorem q_forS {w : Str} {j : Nat} (h : Ev te σ H (.str w)) (Pv : Nat → L2.St → Hp → Prop) (h0 : ∀ H1, Ex H H1 → Pv 0 σ H1)
    (hs : ∀ i c σ' H', (tl w)[i]? = some c → Pv i σ' H' → tu { D with nx := Pv (i + 1), ct := Pv (i + 1), bk := tz D } (σ'.set j (some (.str ⟨#[c]⟩))) H') (hd : ∀ σ' H', Pv (tl w).length σ' H' → tz D σ' H') : tSeq (tFor (iStr te) (gName j) tu) tz D σ H :=
  s_forS (D := { D with nx := tz D }) h Pv h0 hs hd
end
/-! ### numbers -/
open NumText in
theorem digits_all {z : Str} (h : allIn z "0123456789" = true) : AllDigits (tl z) := fun c hc => by
  have h1 := of_decide_eq_true (List.all_eq_true.mp h c hc)
  have e : tl ("0123456789" : Str) = [48, 49, 50, 51, 52, 53, 54, 55, 56, 57] := by decide +kernel
  rw [e] at h1
  simp only [List.mem_cons, List.not_mem_nil, or_false] at h1
  omega
theorem int_digits {z : Str} (h : allIn z "0123456789" = true) (h1 : 1 ≤ z.length) (h2 : z.length ≤ 640) : PySem.intText? z = some ((NumText.digitsVal (tl z) : Nat) : Int) :=
  intText_digits (digits_all h) (fun e => by
    rw [len_tl] at h1
    have : tl z = [] := e
    rw [this] at h1
    exact absurd h1 (by decide)) (by omega)
end Z
set_option maxHeartbeats 4000000
namespace Z
open PySem PySem.Spec PyProof.Rows L2 TL Evl
/-! ### what the functions give -/
def pathB (z : Str) : Bool := (decide ((1 : Int) ≤ z.length) && decide ((z.length : Int) ≤ 60)) && (decide (hd z = some 47) && allIn z "abcdefghijklmnopqrstuvwxyz0123456789/-.")
def hdIn (z s : Str) : Bool := match hd z with | some c => decide (c ∈ tl s) | none => false
def wordB (z : Str) (m : Int) : Bool := (decide ((1 : Int) ≤ z.length) && decide ((z.length : Int) ≤ m)) && (hdIn z "abcdefghijklmnopqrstuvwxyz" && allIn z "abcdefghijklmnopqrstuvwxyz0123456789-")
def nameB (z : Str) : Bool := wordB z 30 && !decide (z = ("length" : Str))
def valueB (z : Str) : Bool := decide ((z.length : Int) ≤ 200) && (allIn z signs && decide (Txt.stripChars z " " = z))
def digB (z : Str) : Bool := (decide ((1 : Int) ≤ z.length) && decide ((z.length : Int) ≤ 6)) && (allIn z "0123456789" && (decide ((z.length : Int) = 1) || !decide (hd z = some 48)))
def numV (z : Str) : V := if digB z = true then .int (((NumText.digitsVal (tl z) : Nat)) : Int) else .non
theorem item0 {z : Str} (h : 1 ≤ z.length) : ∃ c, hd z = some c ∧ atI (tl z) 0 = some c := by
  obtain ⟨c, h1, h2⟩ := hd_some h
  refine ⟨c, h1, ?_⟩
  have : (tl z)[0]? = some c := by
    show z.cps.toList[0]? = some c
    simpa using h2
  exact atI_nat (j := 0) this
theorem pl {a b c : Int} (h : (decide (a ≤ b) && decide (b ≤ c)) = true) : a ≤ b ∧ b ≤ c := by
  rw [Bool.and_eq_true, decide_eq_true_eq, decide_eq_true_eq] at h
  exact h
section
variable {P : Program} {w : World} {K : PySem.W.Frag} {mg : Str → Option Value} {base : Heap} {f : Addr} {fd : FuncData} {k : Nat}
end
end Z

namespace Z
open PySem PySem.Spec PyProof.Rows L2 TL Evl
theorem et_yes {σ : L2.St} {H : Hp} : EvT tYes σ H true := fun H1 e Q q => q H1 (Ex.refl H1)
theorem cut1_eq (z : Str) (c : Nat) : decide (cutS z none (some 1) = (⟨#[c]⟩ : Str)) = decide (hd z = some c) := by
  cases e : hd z with
  | none =>
    rw [cut1_nil e, decide_eq_false (show ¬ (none : Option Nat) = some c from fun h => nomatch h)]
    refine decide_eq_false fun h => ?_
    have := congrArg tl h
    rw [tl_empty] at this
    exact absurd this.symm (by show ¬ [c] = []; simp)
  | some d =>
    rw [cut1_one e]
    by_cases h : d = c
    · rw [h, decide_eq_true rfl, decide_eq_true rfl]
    · rw [decide_eq_false fun x => h ((one_eq _ _).mp x), decide_eq_false fun x => h (Option.some.inj x)]
theorem cut_len (z : Str) (a b : Option Int) : (cutS z a b).length ≤ z.length := cutS_length z a b
def rest (z : Str) : Str := cutS z (some 1) none
def readV (z : Str) : V := if hd z = some 45 then (if digB (rest z) = true ∧ rest z ≠ ("0" : Str) then .int (-((NumText.digitsVal (tl (rest z)) : Nat) : Int)) else .non) else numV z
theorem starts_minus (z : Str) : Txt.startswith z "-" = decide (hd z = some 45) := by
  have e45 : ("-" : Str) = ⟨#[45]⟩ := by decide +kernel
  unfold Txt.startswith Builtin.Str.subAt
  rw [e45]
  show (decide (0 + 1 ≤ z.length) && (z.cps.extract 0 (0 + 1) == #[45])) = _
  have hx : (z.cps.extract 0 (0 + 1) == #[45]) = decide ((tl z).take 1 = [45]) := by
    have : (z.cps.extract 0 (0 + 1)).toList = (tl z).take 1 := by simp [tl]
    by_cases h : (tl z).take 1 = [45]
    · rw [decide_eq_true h]
      refine beq_iff_eq.mpr (Array.toList_inj.mp ?_)
      rw [this, h]
    · rw [decide_eq_false h]
      refine beq_eq_false_iff_ne.mpr fun e => h ?_
      rw [← this, e]
  rw [hx, len_tl]
  unfold hd
  cases e : tl z with
  | nil => rfl
  | cons a r =>
    have h1 : 0 + 1 ≤ (a :: r).length := by rw [List.length_cons]; omega
    rw [decide_eq_true h1, Bool.true_and]
    show decide ([a] = [45]) = decide (some a = some 45)
    by_cases h : a = 45
    · rw [h]; rfl
    · rw [decide_eq_false fun e => h (by cases e; rfl), decide_eq_false fun e => h (Option.some.inj e)]
theorem zero_text {z : Str} (h : z.length = 1) (h48 : hd z = some 48) : z = ("0" : Str) := by
  refine ext_tl ?_
  have e : tl ("0" : Str) = [48] := by decide +kernel
  rw [e]
  unfold hd at h48
  rw [len_tl] at h
  cases q : tl z with
  | nil => rw [q] at h48; cases h48
  | cons a r =>
    rw [q] at h48 h
    cases h48
    cases r with
    | nil => rfl
    | cons b t => rw [List.length_cons, List.length_cons] at h; omega
theorem zero_len {z : Str} (h : z = ("0" : Str)) : z.length = 1 := by rw [h]; decide +kernel
section
variable {P : Program} {w : World} {K : PySem.W.Frag} {mg : Str → Option Value} {base : Heap} {f : Addr} {fd : FuncData} {k : Nat}
abbrev cons_ (P : Program) (w : World) (K : PySem.W.Frag) (mg : Str → Option Value) (base : Heap) : Prop := Call P w K mg base 1 "consists_of" ["text", "signs"] (sp2 fun z s => .bl (allIn z s))
end
end Z

namespace Z
open PySem PySem.Spec PyProof.Rows L2 TL Evl
open NumText in
theorem fold_mono : ∀ (l : List Nat) (a : Nat), 1 ≤ a → 1 ≤ l.foldl (fun acc c => acc * 10 + (c - 48)) a
  | [], a, h => h
  | c :: r, a, h => fold_mono r (a * 10 + (c - 48)) (by omega)
open NumText in
theorem val_pos {z : Str} (hb : digB z = true) (h0 : z ≠ ("0" : Str)) : 1 ≤ digitsVal (tl z) := by
  unfold digB at hb
  obtain ⟨h1, h2⟩ := Bool.and_eq_true_iff.mp hb
  obtain ⟨h3, h4⟩ := Bool.and_eq_true_iff.mp h2
  have hl := pl h1
  have hall := digits_all h3
  have hne : hd z ≠ some 48 := by
    intro h48
    rw [Bool.or_eq_true, decide_eq_true_eq, Bool.not_eq_true', decide_eq_false_iff_not] at h4
    rcases h4 with h | h
    · exact h0 (zero_text (by omega) h48)
    · exact h h48
  unfold hd at hne
  cases q : tl z with
  | nil =>
    have := len_tl z
    rw [q] at this
    have e : ([] : List Nat).length = 0 := rfl
    omega
  | cons c r =>
    rw [q] at hne hall
    have hc := hall c List.mem_cons_self
    have : c ≠ 48 := fun e => hne (by rw [e]; rfl)
    show 1 ≤ (c :: r).foldl (fun acc c => acc * 10 + (c - 48)) 0
    rw [List.foldl_cons]
    exact fold_mono r _ (by omega)
theorem val_zero : NumText.digitsVal (tl ("0" : Str)) = 0 := by decide +kernel
theorem rest_len (z : Str) : (rest z).length ≤ z.length := cut_len z _ _
theorem minus_nodig {z : Str} (h : hd z = some 45) : digB z = false := by
  cases e : digB z with
  | false => rfl
  | true =>
    exfalso
    unfold digB at e
    obtain ⟨h1, h2⟩ := Bool.and_eq_true_iff.mp e
    obtain ⟨h3, h4⟩ := Bool.and_eq_true_iff.mp h2
    have hall := digits_all h3
    unfold hd at h
    cases q : tl z with
    | nil => rw [q] at h; cases h
    | cons c r =>
      rw [q] at h hall
      cases h
      have := hall 45 List.mem_cons_self
      omega
theorem minus_zero {z : Str} (h : hd z = some 45) : decide (z = ("-0" : Str)) = decide (rest z = ("0" : Str)) := by
  have e0 : tl ("-0" : Str) = [45, 48] := by decide +kernel
  have e1 : tl ("0" : Str) = [48] := by decide +kernel
  have er : tl (rest z) = (tl z).drop 1 := cutFrom1_tl z
  unfold hd at h
  by_cases hz : z = ("-0" : Str)
  · rw [decide_eq_true hz]
    symm
    refine decide_eq_true (ext_tl ?_)
    rw [er, e1, hz, e0]
    rfl
  · rw [decide_eq_false hz]
    symm
    refine decide_eq_false fun hr => hz (ext_tl ?_)
    rw [hr, e1] at er
    cases q : tl z with
    | nil => rw [q] at h; cases h
    | cons c r =>
      rw [q] at h er
      cases h
      have er : [48] = r := er
      rw [← er, e0]
theorem numV_form (z : Str) : (digB z = true ∧ numV z = .int ((NumText.digitsVal (tl z) : Nat) : Int)) ∨ (digB z = false ∧ numV z = .non) := by
  unfold numV
  cases h : digB z with
  | true => exact .inl ⟨rfl, if_pos rfl⟩
  | false => exact .inr ⟨rfl, if_neg (by decide)⟩
section
variable {P : Program} {w : World} {K : PySem.W.Frag} {mg : Str → Option Value} {base : Heap} {f : Addr} {fd : FuncData} {k : Nat}
abbrev C1 (P : Program) (w : World) (K : PySem.W.Frag) (mg : Str → Option Value) (base : Heap) (k : Nat) (x : Str) (f : Str → V) : Prop := Call P w K mg base k x ["text"] (sp1 f)
/-! ### the law's own reading -/
def letters : Str := "abcdefghijklmnopqrstuvwxyz"
end
end Z

namespace Z
open PySem PySem.Spec PyProof.Rows L2 TL Evl
/-! ### texts in lists, compared -/
theorem lay_strs : ∀ xs : List Str, (∀ x ∈ xs, PyData.strOk x = true) → PyData.canLayAll0 (xs.map PyData.str) = true
  | [], _ => by simp [PyData.canLayAll0]
  | x :: r, h => by
    have h1 := h x List.mem_cons_self
    have h2 := lay_strs r fun y hy => h y (List.mem_cons_of_mem _ hy)
    simp [PyData.canLayAll0, PyData.canLay0, h1, h2]
theorem depth_strs : ∀ xs : List Str, PyData.depthAll (xs.map PyData.str) ≤ 1
  | [] => by simp [PyData.depthAll]
  | x :: r => by
    have := depth_strs r
    simp only [List.map_cons, PyData.depthAll, PyData.depth]
    omega
theorem shaped_strs (xs : List Str) (h : ∀ x ∈ xs, PyData.strOk x = true) : SeqAt.shaped (.list (xs.map PyData.str)) = true := by
  have h1 := depth_strs xs
  have h2 : PyData.depth (.list (xs.map PyData.str)) ≤ 64 := by simp only [PyData.depth]; omega
  show (PyData.canLay0 (.list (xs.map PyData.str)) && decide (PyData.depth (.list (xs.map PyData.str)) ≤ 64)) = true
  rw [Bool.and_eq_true]
  exact ⟨by simp only [PyData.canLay0]; exact lay_strs xs h, decide_eq_true h2⟩
theorem ok_text {x : Str} (h : ∀ c ∈ tl x, c < 128) : PyData.strOk x = true := by
  unfold PyData.strOk
  rw [← Array.all_toList]
  exact List.all_eq_true.mpr fun c hc => decide_eq_true (Nat.lt_trans (h c hc) (by decide))
theorem splC_mem : ∀ (l acc p : List Nat), p ∈ splC acc l → ∀ c ∈ p, c ∈ acc ∨ c ∈ l
  | [], acc, p, h, c, hc => by
    rw [List.mem_singleton.mp h] at hc
    exact .inl hc
  | a :: r, acc, p, h, c, hc => by
    have h : p ∈ (if a = 44 then acc :: splC [] r else splC (acc ++ [a]) r) := h
    by_cases ha : a = 44
    · rw [if_pos ha] at h
      rcases List.mem_cons.mp h with e | h
      · rw [e] at hc; exact .inl hc
      · rcases splC_mem r [] p h c hc with g | g
        · cases g
        · exact .inr (List.mem_cons_of_mem _ g)
    · rw [if_neg ha] at h
      rcases splC_mem r (acc ++ [a]) p h c hc with g | g
      · rcases List.mem_append.mp g with g | g
        · exact .inl g
        · rw [List.mem_singleton.mp g]; exact .inr List.mem_cons_self
      · exact .inr (List.mem_cons_of_mem _ g)
theorem strip_mem {p s : Str} {c : Nat} (h : c ∈ tl (Txt.stripChars p s)) : c ∈ tl p := by
  have e0 : Txt.stripChars p s = Builtin.Str.strSub p (stripLo s.cps.contains true p) (stripHi s.cps.contains true p (stripLo s.cps.contains true p)) := stripBy_eq _ _ _ _
  rw [e0, tl_strSub] at h
  exact List.mem_of_mem_drop (List.mem_of_mem_take h)
theorem elems_mem {z p : Str} (h : p ∈ elems z) {c : Nat} (hc : c ∈ tl p) : c ∈ tl z := by
  unfold elems stripped at h
  obtain ⟨h1, _⟩ := List.mem_filter.mp h
  obtain ⟨p0, h2, rfl⟩ := List.mem_map.mp h1
  have h3 := strip_mem hc
  rw [split_eq] at h2
  obtain ⟨l, hl, rfl⟩ := List.mem_map.mp h2
  rcases splC_mem _ _ _ hl c h3 with g | g
  · cases g
  · exact g
theorem elems_ok {z : Str} (h : allIn z signs = true) : ∀ p ∈ elems z, PyData.strOk p = true := fun p hp => ok_text fun c hc => signs_lt c (of_decide_eq_true (List.all_eq_true.mp h c (elems_mem hp hc)))
theorem dp_strs {K : PySem.W.Frag} {H : Hp} : ∀ xs : List Str, DpAll K H (xs.map V.str) (xs.map PyData.str)
  | [] => .nil
  | x :: r => .cons (.str x) (dp_strs r)
theorem rv_eqL {K : PySem.W.Frag} {H : Hp} {p p2 : Addr} {xs : List Str} (h1 : SqL K H p (xs.map V.str)) (h2 : SqL K H p2 (xs.map V.str)) (hx : ∀ x ∈ xs, PyData.strOk x = true) : RV (rEqD K) (.ref p) (.ref p2) H (.bl true) := fun H1 e Q q => by
  refine ⟨.list (xs.map .str), .list (xs.map .str), .lst (ex_l e h1) (dp_strs xs), .lst (ex_l e h2) (dp_strs xs), shaped_strs xs hx, shaped_strs xs hx, ?_⟩
  rw [SeqAt.eqv_refl _ (SeqAt.canLay_of_shaped (shaped_strs xs hx))]
  exact q H1 (Ex.refl H1)
section
variable {K : PySem.W.Frag} {σ : L2.St} {H H' : Hp} {ta tb te : TE} {x : V}
theorem ev_isi {n : String} {t : Value} {b : Bool} (h : Ev ta σ H x) (ht : ∀ H1, Ex H H1 → TyX K H1 x t) (hk : PySem.W.kitOne K t (.type n) = some b) : Ev (tCB (rIsi K) (tCons ta (tCons (tC (.ty n)) tNil))) σ H (.bl b) := fun H1 e Q q =>
  h H1 e _ fun H2 e2 => ⟨x, .ty n, t, .type n, b, rfl, .ty n, ht H2 (e.trans e2), hk, q H2 e2⟩
theorem et_truB {b : Bool} (h : Ev te σ H (.bl b)) : EvT (fun σ H Q => te σ H fun x H' => ∃ k, TruV K x H' k ∧ Q k H') σ H b := fun H1 e Q q => h H1 e _ fun H2 e2 => ⟨b, rfl, q H2 e2⟩
theorem rv_eqB {a b : Bool} : RV rEq (.bl a) (.bl b) H (.bl (decide (a = b))) := by
  have : decide (V.bl a = V.bl b) = decide (a = b) := by
    by_cases h : a = b
    · rw [decide_eq_true h, decide_eq_true (congrArg V.bl h)]
    · rw [decide_eq_false h, decide_eq_false fun e => h (V.bl.inj e)]
  rw [← this]
  exact rv_eq rfl
end
section
variable {P : Program} {w : World} {K : PySem.W.Frag} {mg : Str → Option Value} {base : Heap} {f : Addr} {fd : FuncData} {k : Nat}
theorem wd_len (l : List Nat) (fs : List Str) (wd : Str) : (l.foldl wstep (fs, wd)).2.length ≤ wd.length + l.length ∧ (l.foldl wstep (fs, wd)).1.length ≤ fs.length + l.length := by
  induction l generalizing fs wd with
  | nil => exact ⟨Nat.le_refl _, Nat.le_refl _⟩
  | cons c r ih =>
    rw [List.foldl_cons, List.length_cons]
    have e : wstep (fs, wd) c = ((wstep (fs, wd) c).1, (wstep (fs, wd) c).2) := rfl
    rw [e]
    obtain ⟨h1, h2⟩ := ih (wstep (fs, wd) c).1 (wstep (fs, wd) c).2
    have g : (wstep (fs, wd) c).2.length ≤ wd.length + 1 ∧ (wstep (fs, wd) c).1.length ≤ fs.length + 1 := by
      unfold wstep
      by_cases hc : c = 44
      · rw [if_pos hc]
        refine ⟨by show (("" : Str)).length ≤ _; rw [show (("" : Str)).length = 0 by decide +kernel]; omega, ?_⟩
        show (if Txt.stripChars wd " " = ("" : Str) then fs else fs ++ [Txt.stripChars wd " "]).length ≤ _
        by_cases h : Txt.stripChars wd " " = ("" : Str)
        · rw [if_pos h]; omega
        · rw [if_neg h, List.length_append]; exact Nat.le_refl _
      · rw [if_neg hc]
        refine ⟨?_, by show fs.length ≤ _; omega⟩
        show (wd ++ (⟨#[c]⟩ : Str)).length ≤ _
        rw [Str.length_append]
        exact Nat.le_refl _
    omega
theorem take_step {l : List Nat} {i c : Nat} (h : l[i]? = some c) (st : List Str × Str) : (l.take (i + 1)).foldl wstep st = wstep ((l.take i).foldl wstep st) c := by
  rw [List.take_add_one, h, List.foldl_append]
  rfl
def spTruth : Sp := fun vs H Q _ => ∃ a b : Bool, vs = [.bl a, .bl b] ∧ RetV (.bl (decide (a = b))) H Q
theorem svT {a b : Bool} {H : Hp} : SpV spTruth [.bl a, .bl b] H (.bl (decide (a = b))) := fun H1 e Q q E => ⟨a, b, rfl, q⟩
def spInt : Sp := fun vs H Q _ => ∃ z : V, vs = [z, z] ∧ (z = .non ∨ ∃ i, z = .int i) ∧ RetV (.bl true) H Q
theorem numV_kind (z : Str) : numV z = .non ∨ ∃ i, numV z = .int i := by
  rcases numV_form z with ⟨_, h⟩ | ⟨_, h⟩
  · exact .inr ⟨_, h⟩
  · exact .inl h
theorem readV_kind (z : Str) : readV z = .non ∨ ∃ i, readV z = .int i := by
  unfold readV
  by_cases h : hd z = some 45
  · rw [if_pos h]
    by_cases h2 : digB (rest z) = true ∧ rest z ≠ ("0" : Str)
    · rw [if_pos h2]; exact .inr ⟨_, rfl⟩
    · rw [if_neg h2]; exact .inl rfl
  · rw [if_neg h]; exact numV_kind z
theorem svI {v : V} {H : Hp} (h : v = .non ∨ ∃ i, v = .int i) : SpV spInt [v, v] H (.bl true) := fun H1 e Q q E => ⟨v, rfl, h, q⟩
def spRight : Sp := fun vs H Q _ => ∃ z : Str, vs = [.str z] ∧ z.length ≤ 10000 ∧ RetV (.bl true) H Q
theorem dec_self (b : Bool) : decide (b = b) = true := decide_eq_true rfl
end
end Z

namespace Z
open PySem PySem.Spec PyProof.Rows L2 TL Evl
def rRepStr : R2 := fun x y H Q => ∃ (z : Str) (i : Int), x = .str z ∧ y = .int i ∧ 0 ≤ i ∧ i ≤ 1000 ∧ z.length ≤ 1000 ∧ Q (.str (repS z i.toNat)) H
theorem oz_rep {X : Cx} : OpR X (binaryOp .Mult) rRepStr := op_rep_str
def rInt1 : List V → Hp → VK → Prop := fun xs H Q => (∃ i, xs = [.int i] ∧ Q (.int i) H) ∨ ∃ k, xs = [.bl k] ∧ Q (.int (if k then 1 else 0)) H
theorem cz_int1 {X : Cx} : CallR X (.type "int") rInt1 := call_int1
def rJoin (K : PySem.W.Frag) : V → List V → Hp → VK → Prop := fun x xs H Q => ∃ a p, ∃ ys : List Str, x = .str a ∧ xs = [.ref p] ∧ (SqL K H p (ys.map V.str) ∨ SqT K H p (ys.map V.str)) ∧ (ys.map (·.length)).sum + ys.length * a.length ≤ 16777216 ∧ Q (.str (Txt.join a ys)) H
theorem mz_join {X : Cx} : MtR X "str.join" (rJoin X.K) := mt_join
section
variable {K : PySem.W.Frag} {σ : L2.St} {H H' : Hp} {ta tb te : TE} {x : V} {ti : TA}
theorem ev_int1 {i : Int} (h : Ev te σ H (.int i)) : Ev (tCB rInt1 (tCons te tNil)) σ H (.int i) := fun H1 e Q q => h H1 e _ fun H2 e2 => .inl ⟨i, rfl, q H2 e2⟩
theorem rd_call {sp : Sp} {vs : List V} {E : XK} {Q : VK} (h : EvA ti σ H vs) (k : ∀ H1, Ex H H1 → sp (vs ++ []) H1 Q E) : tCall sp [] E ti σ H Q := h H (Ex.refl H) _ k
end
/-! ### the bag of draws -/
def cap : Nat := 1048576
/-- a bag at p, of which at most n were drawn -/
def BagAt (H : Hp) (p : Addr) (n : Nat) : Prop := ∃ (c0 : Int) (cv : V) (c2 : Int), H p = some (.lst [.int c0, cv, .int c2]) ∧ 0 ≤ c2 ∧ c2 ≤ (n : Int) ∧ (cv = .non ∨ ∃ c : Int, cv = .int c ∧ c.natAbs < 2 ^ cap)
/-- all but what stands at p is as it was -/
def Keep (p : Addr) (H H' : Hp) : Prop := ∀ b o, b ≠ p → H b = some o → H' b = some o
theorem Keep.of {p : Addr} {H H' : Hp} (e : Ex H H') : Keep p H H' := fun b o _ h => e b o h
theorem Keep.trans {p : Addr} {H H1 H2 : Hp} (a : Keep p H H1) (b : Keep p H1 H2) : Keep p H H2 := fun c o hc h => b c o hc (a c o hc h)
theorem Keep.upd {p : Addr} {H H1 : Hp} {o : HO} (a : Keep p H H1) : Keep p H (upd H1 p o) := fun c u hc h => by rw [upd_ne hc]; exact a c u hc h
theorem BagAt.ex {H H' : Hp} {p : Addr} {n : Nat} (b : BagAt H p n) (e : Ex H H') : BagAt H' p n := by
  obtain ⟨c0, cv, c2, h, r⟩ := b
  exact ⟨c0, cv, c2, e _ _ h, r⟩
theorem BagAt.mono {H : Hp} {p : Addr} {n m : Nat} (b : BagAt H p n) (h : n ≤ m) : BagAt H p m := by
  obtain ⟨c0, cv, c2, h1, h2, h3, h4⟩ := b
  exact ⟨c0, cv, c2, h1, h2, by omega, h4⟩
theorem BagAt.some {H : Hp} {p : Addr} {n : Nat} (b : BagAt H p n) : ∃ xs, H p = some (.lst xs) := by
  obtain ⟨c0, cv, c2, h, r⟩ := b
  exact ⟨_, h⟩
theorem Keep.free {p : Addr} {H H' : Hp} (a : Keep p H H') {n : Nat} (b : BagAt H' p n) {l : Addr} (h : H' l = none) : H l = none := by
  cases q : H l with
  | none => rfl
  | some o =>
    by_cases e : l = p
    · obtain ⟨xs, g⟩ := b.some
      rw [e, g] at h
      cases h
    · rw [a l o e q] at h
      cases h
def spDraw : Sp := fun vs H Q _ => ∃ (p : Addr) (size : Int) (n : Nat), vs = [.ref p, .int size] ∧ BagAt H p n ∧ n ≤ 100000000 ∧ 1 ≤ size ∧ size ≤ 1000000 ∧
  ∀ (d : Int) (H' : Hp), 0 ≤ d → d < size → BagAt H' p (n + 1) → Keep p H H' → Q (.int d) H'
section
variable {P : Program} {w : World} {K : PySem.W.Frag} {mg : Str → Option Value} {base : Heap} {f : Addr} {fd : FuncData} {k : Nat}
end
end Z

namespace Z
open PySem PySem.Spec PyProof.Rows L2 TL Evl
theorem at_int {α : Type} {xs : List α} {d : Int} (h0 : 0 ≤ d) (h1 : d < (xs.length : Int)) : ∃ v, atI xs d = some v ∧ v ∈ xs := by
  obtain ⟨j, rfl⟩ := Int.eq_ofNat_of_zero_le h0
  have hj : j < xs.length := by omega
  exact ⟨xs[j], atI_nat (List.getElem?_eq_getElem hj), List.getElem_mem hj⟩
abbrev CDraw (P : Program) (w : World) (K : PySem.W.Frag) (mg : Str → Option Value) (base : Heap) : Prop := Call P w K mg base 1 "_law_draw" ["bag", "size"] spDraw
def spPickS : Sp := fun vs H Q _ => ∃ (p : Addr) (n : Nat) (z : Str), vs = [.ref p, .str z] ∧ BagAt H p n ∧ n ≤ 100000000 ∧ 1 ≤ z.length ∧ z.length ≤ 1000 ∧ ∀ (c : Nat) (H' : Hp), BagAt H' p (n + 1) → Keep p H H' → Q (.str ⟨#[c]⟩) H'
def spPickL : Sp := fun vs H Q _ => ∃ (p : Addr) (n : Nat) (l : Addr) (xs : List V), vs = [.ref p, .ref l] ∧ BagAt H p n ∧ n ≤ 100000000 ∧ l ≠ p ∧ H l = some (.lst xs) ∧ 1 ≤ xs.length ∧ xs.length ≤ 1000 ∧ ∀ (v : V) (H' : Hp), v ∈ xs → BagAt H' p (n + 1) → Keep p H H' → Q v H'
def spMost : Sp := fun vs H Q _ => ∃ (p : Addr) (n : Nat) (a b : Int), vs = [.ref p, .int a, .int b] ∧ BagAt H p n ∧ n ≤ 100000000 ∧ ∀ (v : Int) (H' : Hp), v = a ∨ v = b → BagAt H' p (n + 1) → Keep p H H' → Q (.int v) H'
/-- a word of at most `most` signs; at most 1001 draws -/
def spWord : Sp := fun vs H Q _ => ∃ (p : Addr) (n : Nat) (z : Str) (least most : Int), vs = [.ref p, .str z, .int least, .int most] ∧ BagAt H p n ∧ n ≤ 90000000 ∧ 1 ≤ z.length ∧ z.length ≤ 1000 ∧ 0 ≤ least ∧ least ≤ most ∧ most ≤ 1000 ∧
  ∀ (t : Str) (H' : Hp), (t.length : Int) ≤ most → BagAt H' p (n + 1001) → Keep p H H' → Q (.str t) H'
def spBag (K : PySem.W.Frag) : Sp := fun vs H Q _ => ∃ (a : Addr) (ns : List Int) (i : Nat), vs = [.ref a, .int (i : Int)] ∧ SqL K H a (ns.map V.int) ∧ ns.length ≤ 63 ∧ i ≤ 63 ∧ (∀ z ∈ ns, z.natAbs < 2 ^ cap) ∧ ∀ (p : Addr) (H' : Hp), H p = none → Ex H H' → BagAt H' p 0 → Q (.ref p) H'
section
variable {P : Program} {w : World} {K : PySem.W.Frag} {mg : Str → Option Value} {base : Heap} {f : Addr} {fd : FuncData} {k : Nat}
theorem sum_ones : ∀ ys : List Str, (∀ y ∈ ys, y.length = 1) → (ys.map (·.length)).sum = ys.length
  | [], _ => rfl
  | y :: r, h => by
    rw [List.map_cons, List.sum_cons, sum_ones r fun x hx => h x (List.mem_cons_of_mem _ hx), h y List.mem_cons_self, List.length_cons]
    omega
theorem join_len (sep : Str) (ys : List Str) : (Txt.join sep ys).length ≤ (ys.map (·.length)).sum + ys.length * sep.length := by
  rw [join_eq]
  exact StrLaws.join_length_le sep ys
end
end Z

namespace Z
open PySem PySem.Spec PyProof.Rows L2 TL Evl
def spList : Sp := fun vs H Q _ => ∃ (p : Addr) (n : Nat), vs = [.ref p] ∧ BagAt H p n ∧ n ≤ 80000000 ∧ ∀ (t : Str) (H' : Hp), t.length ≤ 100 → BagAt H' p (n + 10000) → Keep p H H' → Q (.str t) H'
def spText : Sp := fun vs H Q _ => ∃ (p : Addr) (n : Nat), vs = [.ref p] ∧ BagAt H p n ∧ n ≤ 1000 ∧ ∀ (t : Str) (H' : Hp), t.length ≤ 1500 → BagAt H' p (n + 100000) → Keep p H H' → Q (.str t) H'
def spSpoilt : Sp := fun vs H Q _ => ∃ (p : Addr) (n : Nat) (z : Str), vs = [.ref p, .str z] ∧ BagAt H p n ∧ n ≤ 1000000 ∧ z.length ≤ 1500 ∧ ∀ (t : Str) (H' : Hp), t.length ≤ 4000 → BagAt H' p (n + 3) → Keep p H H' → Q (.str t) H'
def spLaw (K : PySem.W.Frag) : Sp := fun vs H Q _ => ∃ (a : Addr) (ns : List Int), vs = [.ref a] ∧ SqL K H a (ns.map V.int) ∧ ns.length ≤ 63 ∧ (∀ z ∈ ns, z.natAbs < 2 ^ cap) ∧ ∀ H', Q (.bl true) H'
theorem BagAt.new {H : Hp} {p l : Addr} {n : Nat} {o : HO} (b : BagAt H p n) (h : H l = none) : BagAt (upd H l o) p n ∧ l ≠ p := by
  obtain ⟨xs, g⟩ := b.some
  exact ⟨b.ex (Ex.new h), fun e => by rw [e, g] at h; cases h⟩
theorem strs_in {ss : List Str} {v : V} (h : v ∈ ss.map V.str) : ∃ x, v = .str x ∧ x ∈ ss := by
  obtain ⟨x, hx, e⟩ := List.mem_map.mp h
  exact ⟨x, e.symm, hx⟩
theorem ints_in {ss : List Int} {v : V} (h : v ∈ ss.map V.int) : ∃ x, v = .int x ∧ x ∈ ss := by
  obtain ⟨x, hx, e⟩ := List.mem_map.mp h
  exact ⟨x, e.symm, hx⟩
theorem sum_most : ∀ (ys : List Str) (m : Nat), (∀ y ∈ ys, y.length ≤ m) → (ys.map (·.length)).sum ≤ ys.length * m
  | [], _, _ => Nat.zero_le _
  | y :: r, m, h => by
    have h1 := sum_most r m fun x hx => h x (List.mem_cons_of_mem _ hx)
    have h2 := h y List.mem_cons_self
    rw [List.map_cons, List.sum_cons, List.length_cons, Nat.succ_mul]
    omega
section
variable {P : Program} {w : World} {K : PySem.W.Frag} {mg : Str → Option Value} {base : Heap} {f : Addr} {fd : FuncData} {k : Nat}
abbrev CPickL (P : Program) (w : World) (K : PySem.W.Frag) (mg : Str → Option Value) (base : Heap) : Prop := Call P w K mg base 2 "_law_pick" ["bag", "things"] spPickL
abbrev CPickS (P : Program) (w : World) (K : PySem.W.Frag) (mg : Str → Option Value) (base : Heap) : Prop := Call P w K mg base 2 "_law_pick" ["bag", "things"] spPickS
abbrev CMost (P : Program) (w : World) (K : PySem.W.Frag) (mg : Str → Option Value) (base : Heap) : Prop := Call P w K mg base 2 "_law_most" ["bag", "small", "large"] spMost
abbrev CWord (P : Program) (w : World) (K : PySem.W.Frag) (mg : Str → Option Value) (base : Heap) : Prop := Call P w K mg base 2 "_law_word" ["bag", "signs", "least", "most"] spWord
end
end Z

namespace Z
open PySem PySem.Spec PyProof.Rows L2 TL Evl
theorem short_in {ss : List Str} {m : Nat} (h : ss.all (fun x => decide (x.length ≤ m)) = true) {x : Str} (hx : x ∈ ss) : x.length ≤ m := of_decide_eq_true (List.all_eq_true.mp h x hx)
section
variable {P : Program} {w : World} {K : PySem.W.Frag} {mg : Str → Option Value} {base : Heap} {f : Addr} {fd : FuncData} {k : Nat}
end
end Z
set_option maxHeartbeats 4000000
namespace Z
open PySem PySem.Spec PyProof.Rows L2 TL Evl
/-! ### lists of values, each with what it stands for -/
def Rel {α : Type} (R : V → α → Prop) (xs : List V) (os : List α) : Prop := xs.length = os.length ∧ ∀ (i : Nat) (x : V) (o : α), xs[i]? = some x → os[i]? = some o → R x o
section
variable {α : Type} {R R' : V → α → Prop} {xs : List V} {os : List α} {x : V} {o : α} {i : Nat}
theorem Rel.mono (h : Rel R xs os) (m : ∀ x o, R x o → R' x o) : Rel R' xs os := ⟨h.1, fun i x o a b => m x o (h.2 i x o a b)⟩
theorem Rel.nil : Rel R [] [] := ⟨rfl, fun i x o a => by cases a⟩
theorem Rel.snoc (h : Rel R xs os) (r : R x o) : Rel R (xs ++ [x]) (os ++ [o]) := by
  refine ⟨by rw [List.length_append, List.length_append, h.1]; rfl, fun i y u a b => ?_⟩
  by_cases hi : i < xs.length
  · rw [List.getElem?_append_left hi] at a
    rw [List.getElem?_append_left (by rw [← h.1]; exact hi)] at b
    exact h.2 i y u a b
  · rw [List.getElem?_append_right (by omega)] at a
    rw [List.getElem?_append_right (by rw [← h.1]; omega)] at b
    rw [← h.1] at b
    cases e : i - xs.length with
    | zero =>
      rw [e] at a b
      cases a
      cases b
      exact r
    | succ n =>
      rw [e] at a
      cases a
theorem Rel.get (h : Rel R xs os) (a : xs[i]? = some x) : ∃ o, os[i]? = some o ∧ R x o := by
  have hi : i < xs.length := (List.getElem?_eq_some_iff.mp a).1
  have e := List.getElem?_eq_getElem (h.1 ▸ hi : i < os.length)
  exact ⟨_, e, h.2 i x _ a e⟩
theorem Rel.at (h : Rel R xs os) (b : os[i]? = some o) : ∃ x, xs[i]? = some x ∧ R x o := by
  have hi : i < os.length := (List.getElem?_eq_some_iff.mp b).1
  have e := List.getElem?_eq_getElem (h.1.symm ▸ hi : i < xs.length)
  exact ⟨_, e, h.2 i _ o e b⟩
end
/-- a comprehension over a list whose values stand for things -/
theorem lc_rel {K : PySem.W.Frag} {a : Addr} {xs : List V} {g : TG} {tt : TT} {te : TE} {vs : List Nat} {σ : L2.St} {H0 : Hp} {D : Addr} {Qd : Hp → Prop} {α : Type} (acc : Nat → List α) (R : Hp → V → α → Prop)
    (mono : ∀ H1 H2 x o, (∀ b ob, b ≠ D → H1 b = some ob → H2 b = some ob) → (∃ ys, H1 D = some (.lst ys)) → R H1 x o → R H2 x o)
    (hx : SqL K H0 a xs) (hD : H0 D = none) (h00 : acc 0 = []) (hz : xs.length ≤ 50000)
    (hs : ∀ i x H, xs[i]? = some x → Ex H0 H → ∀ (k : VK) (k0 : Hp → Prop), (∀ y H4 o, Ex H H4 → acc (i + 1) = acc i ++ [o] → R H4 y o → k y H4) → (∀ H3, Ex H H3 → acc (i + 1) = acc i → k0 H3) →
      g x (wipe σ vs) H fun σ2 H2 => wipe σ2 vs = wipe σ vs ∧ tt σ2 H2 fun b H3 => if b = true then te σ2 H3 k else k0 H3)
    (hd : ∀ H ys, Ex H0 H → H D = some (.lst ys) → Rel (R H) ys (acc xs.length) → Qd H) :
    ∃ W : Nat → Nat → Hp → Prop, (∃ m, W 0 m (upd H0 D (.lst []))) ∧ ∀ i m H, W i m H →
      ((Itl K a).stop i H ∧ Qd H) ∨ ((Itl K a).go i H ∧ ∃ Nx : Hp → Prop, (∀ H', Nx H' → ∃ m', m' < m ∧ W (i + 1) m' H') ∧ ∀ x H', (Itl K a).yld i H x H' → g x (wipe σ vs) H' fun σ2 H2 => wipe σ2 vs = wipe σ vs ∧ tt σ2 H2 fun b H3 =>
        if b = true then te σ2 H3 fun y H4 => ∃ acc, H4 D = some (.lst acc) ∧ acc.length < sizeLine ∧ Nx (upd H4 D (.lst (acc ++ [y]))) else Nx H3) := by
  refine lc_list (xs := xs) (fun i H => Ex H0 H ∧ ∃ ys, H D = some (.lst ys) ∧ ys.length ≤ i ∧ Rel (R H) ys (acc i)) ⟨Ex.new hD, [], upd_same, Nat.le_refl _, by rw [h00]; exact Rel.nil⟩ (fun i H _ p => ex_l p.1 hx) (fun i x H hi p => ?_) (fun H p => ?_)
  · obtain ⟨e0, ys, hy, hl, hr⟩ := p
    have hi2 : i < xs.length := (List.getElem?_eq_some_iff.mp hi).1
    refine hs i x H hi e0 _ _ (fun y H4 o e4 ea r => ?_) (fun H3 e3 ea => ?_)
    · refine ⟨ys, e4 _ _ hy, sz_lt (by omega), Ex.mut (e0.trans e4) hD, ys ++ [y], upd_same, by rw [List.length_append]; exact Nat.add_le_add_right hl 1, ?_⟩
      rw [ea]
      refine Rel.snoc (hr.mono fun x o q => ?_) ?_
      · exact mono _ _ x o (fun b ob hb h => by rw [upd_ne hb]; exact h) ⟨ys, e4 _ _ hy⟩ (mono _ _ x o (fun b ob _ h => e4 b ob h) ⟨ys, hy⟩ q)
      · exact mono _ _ y o (fun b ob hb h => by rw [upd_ne hb]; exact h) ⟨ys, e4 _ _ hy⟩ r
    · refine ⟨e0.trans e3, ys, e3 _ _ hy, by omega, ?_⟩
      rw [ea]
      exact hr.mono fun x o q => mono _ _ x o (fun b ob _ h => e3 b ob h) ⟨ys, hy⟩ q
  · obtain ⟨e0, ys, hy, hl, hr⟩ := p
    exact hd H ys e0 hy hr
/-! ### a number that may not be there, pairs of them -/
def num (z : Str) : Option Nat := if digB z = true then some (NumText.digitsVal (tl z)) else none
def ov : Option Nat → V
  | none => .non
  | some n => .int (n : Int)
theorem numV_ov (z : Str) : numV z = ov (num z) := by
  unfold numV num
  cases h : digB z <;> rfl
theorem ov_non (o : Option Nat) : decide (ov o = .non) = o.isNone := by cases o <;> rfl
abbrev Pr := Option Nat × Option Nat
def TupAt (H : Hp) (v : V) (xs : List V) : Prop := ∃ p, v = .ref p ∧ H p = some (.tup xs)
def PrAt (H : Hp) (v : V) (o : Pr) : Prop := TupAt H v [ov o.1, ov o.2]
def OPrAt (H : Hp) (v : V) : Option Pr → Prop
  | none => v = .non
  | some q => PrAt H v q
def IpAt (H : Hp) (v : V) (o : Int × Int) : Prop := TupAt H v [.int o.1, .int o.2]
theorem TupAt.keep {H1 H2 : Hp} {D : Addr} {v : V} {xs : List V} (h : TupAt H1 v xs) (k : ∀ b ob, b ≠ D → H1 b = some ob → H2 b = some ob) (hD : ∃ ys, H1 D = some (.lst ys)) : TupAt H2 v xs := by
  obtain ⟨p, rfl, hp⟩ := h
  obtain ⟨ys, hy⟩ := hD
  exact ⟨p, rfl, k p _ (fun e => by rw [e, hy] at hp; cases hp) hp⟩
theorem TupAt.ex {H1 H2 : Hp} {v : V} {xs : List V} (h : TupAt H1 v xs) (e : Ex H1 H2) : TupAt H2 v xs := by
  obtain ⟨p, rfl, hp⟩ := h
  exact ⟨p, rfl, e _ _ hp⟩
theorem OPrAt.ex {H1 H2 : Hp} {v : V} {o : Option Pr} (h : OPrAt H1 v o) (e : Ex H1 H2) : OPrAt H2 v o := by
  cases o with
  | none => exact h
  | some q => exact TupAt.ex h e
theorem OPrAt.keep {H1 H2 : Hp} {D : Addr} {v : V} {o : Option Pr} (h : OPrAt H1 v o) (k : ∀ b ob, b ≠ D → H1 b = some ob → H2 b = some ob) (hD : ∃ ys, H1 D = some (.lst ys)) : OPrAt H2 v o := by
  cases o with
  | none => exact h
  | some q => exact TupAt.keep h k hD
/-! ### the dash of a text -/
def dashAt (z : Str) : Option Nat := (Builtin.Str.occurrences z "-" 0 z.length 1).head?
theorem find_dash (z : Str) : Txt.find z "-" = (match dashAt z with | some i => (i : Int) | none => -1) := by
  unfold Txt.find dashAt
  cases Builtin.Str.occurrences z "-" 0 z.length 1 <;> rfl
theorem dash_len : ("-" : Str).length = 1 := by decide +kernel
theorem cutTo_tl (z : Str) (i : Nat) : tl (cutS z none (some (i : Int))) = (tl z).take i := by
  show ((tl z).drop (HT.sIx z.length 0 none)).take (HT.sIx z.length z.length (some (i : Int)) - HT.sIx z.length 0 none) = _
  rw [HT.sIx_none, show HT.sIx z.length z.length (some (i : Int)) = min i z.length from HT.sIx_nat _ _ i, List.drop_zero, Nat.sub_zero, len_tl]
  by_cases h : i ≤ (tl z).length
  · rw [Nat.min_eq_left h]
  · rw [Nat.min_eq_right (by omega), List.take_of_length_le (Nat.le_refl _), List.take_of_length_le (by omega)]
theorem cutFrom_tl (z : Str) (i : Nat) : tl (cutS z (some (i : Int)) none) = (tl z).drop i := by
  show ((tl z).drop (HT.sIx z.length 0 (some (i : Int)))).take (HT.sIx z.length z.length none - HT.sIx z.length 0 (some (i : Int))) = _
  rw [HT.sIx_none, show HT.sIx z.length 0 (some (i : Int)) = min i z.length from HT.sIx_nat _ _ i, len_tl]
  by_cases h : i ≤ (tl z).length
  · rw [Nat.min_eq_left h]
    exact List.take_of_length_le (by rw [List.length_drop]; exact Nat.le_refl _)
  · rw [Nat.min_eq_right (by omega), List.drop_of_length_le (Nat.le_refl _), List.drop_of_length_le (by omega), List.take_nil]
/-- what stands ahead of a place, what stands behind -/
def preT (z : Str) (i : Nat) : Str := S' ((tl z).take i)
def sufT (z : Str) (i : Nat) : Str := S' ((tl z).drop i)
theorem cutTo (z : Str) (i : Nat) : cutS z none (some (i : Int)) = preT z i := ext_tl (by rw [cutTo_tl]; rfl)
theorem cutFrom (z : Str) (i : Nat) : cutS z (some (i : Int)) none = sufT z i := ext_tl (by rw [cutFrom_tl]; rfl)
theorem preT_len (z : Str) (i : Nat) : (preT z i).length ≤ z.length := by rw [← cutTo]; exact cut_len z _ _
theorem sufT_len (z : Str) (i : Nat) : (sufT z i).length ≤ z.length := by rw [← cutFrom]; exact cut_len z _ _
theorem part_dash (z : Str) : (∃ i, dashAt z = some i ∧ i + 1 ≤ z.length ∧ Txt.partition z "-" = (preT z i, ("-" : Str), sufT z (i + 1))) ∨ (dashAt z = none ∧ Txt.partition z "-" = (z, ("" : Str), ("" : Str))) := by
  unfold Txt.partition dashAt
  rcases StrLaws.occ_head z "-" 1 (Nat.le_refl 1) with ⟨h0, _⟩ | ⟨i, r, h0, hi, _⟩
  · rw [h0]; exact .inr ⟨rfl, rfl⟩
  · rw [h0]
    have hb : i + ("-" : Str).length ≤ z.length := hi.1
    refine .inl ⟨i, rfl, by rw [dash_len] at hb; exact hb, ?_⟩
    show (Builtin.Str.strSub z 0 i, ("-" : Str), Builtin.Str.strSub z (i + ("-" : Str).length) z.length) = _
    rw [dash_len]
    refine Prod.ext ?_ (Prod.ext rfl ?_)
    · exact ext_tl (by rw [tl_strSub, List.drop_zero, Nat.sub_zero]; rfl)
    · exact ext_tl (by rw [tl_strSub_end]; rfl)
theorem num_empty : num ("" : Str) = none := by decide +kernel
theorem preT0 (z : Str) : preT z 0 = ("" : Str) := eq_empty.mpr (by unfold preT; rw [List.take_zero]; rfl)
theorem preT_ne {z : Str} {i : Nat} (h : 0 < i) (hi : i + 1 ≤ z.length) : preT z i ≠ ("" : Str) := fun e => by
  have e2 := eq_empty.mp e
  have e3 : ((tl z).take i).length = 0 := by rw [show (tl z).take i = [] from e2]; rfl
  rw [List.length_take, len_tl'] at e3
  omega
theorem sufT_empty {z : Str} {i : Nat} (hi : i + 1 ≤ z.length) : decide (sufT z (i + 1) = ("" : Str)) = decide ((i : Int) = (z.length : Int) - 1) := by
  have e : sufT z (i + 1) = ("" : Str) ↔ (i : Int) = (z.length : Int) - 1 := by
    rw [eq_empty]
    show (tl z).drop (i + 1) = [] ↔ _
    rw [List.drop_eq_nil_iff, len_tl']
    omega
  exact decide_eq_decide.mpr e
/-- what a range says -/
def pairO (A B : Option Nat) : Option Pr :=
  match A, B with
  | none, none => none
  | some a, some b => if b < a then none else some (some a, some b)
  | x, y => some (x, y)
def badB (z : Str) (i : Nat) : Bool := ((num (preT z i)).isNone && !decide (preT z i = ("" : Str))) || ((num (sufT z (i + 1))).isNone && !decide (sufT z (i + 1) = ("" : Str)))
def rangeO (z : Str) : Option Pr :=
  match dashAt z with
  | none => none
  | some i => if badB z i = true then none else pairO (num (preT z i)) (num (sufT z (i + 1)))
theorem rangeO_some {z : Str} {i : Nat} (h : dashAt z = some i) : rangeO z = if badB z i = true then none else pairO (num (preT z i)) (num (sufT z (i + 1))) := by
  unfold rangeO
  rw [h]
theorem rangeO_none {z : Str} (h : dashAt z = none) : rangeO z = none := by
  unfold rangeO
  rw [h]
/-! ### the place of a digit -/
theorem occ_none (z : Str) (c : Nat) (h : c ∉ tl z) : Builtin.Str.occurrences z ⟨#[c]⟩ 0 z.length 1 = [] := by
  have e := StrLaws.found_one z c
  rw [decide_eq_false h] at e
  cases ho : Builtin.Str.occurrences z ⟨#[c]⟩ 0 z.length 1 with
  | nil => rfl
  | cons a r =>
    rw [ho] at e
    exact nomatch e
def dg : Str := "0123456789"
theorem find_digit (c : Nat) : Txt.find dg ⟨#[c]⟩ = if c ∈ tl dg then ((c : Int) - 48) else -1 := by
  by_cases h : c ∈ tl dg
  · rw [if_pos h]
    have all : ∀ c ∈ tl dg, Txt.find dg ⟨#[c]⟩ = ((c : Int) - 48) := by decide +kernel
    exact all c h
  · rw [if_neg h]
    unfold Txt.find
    rw [occ_none dg c h]
theorem dig_range : ∀ c ∈ tl dg, 48 ≤ c ∧ c ≤ 57 := by decide +kernel
/-- digits read so far -/
def dval (l : List Nat) : Nat := l.foldl (fun a c => a * 10 + (c - 48)) 0
theorem dval_snoc (l : List Nat) (c : Nat) : dval (l ++ [c]) = dval l * 10 + (c - 48) := by
  unfold dval
  rw [List.foldl_append]
  rfl
theorem dfold_lt : ∀ (l : List Nat) (a : Nat), (∀ c ∈ l, c ∈ tl dg) → l.foldl (fun a c => a * 10 + (c - 48)) a < (a + 1) * 10 ^ l.length
  | [], a, _ => by show a < (a + 1) * 1; omega
  | c :: r, a, h => by
    have h1 := dfold_lt r (a * 10 + (c - 48)) fun x hx => h x (List.mem_cons_of_mem _ hx)
    have h2 := dig_range c (h c List.mem_cons_self)
    rw [List.foldl_cons, List.length_cons, Nat.pow_succ, Nat.mul_comm (10 ^ r.length) 10, ← Nat.mul_assoc]
    exact Nat.lt_of_lt_of_le h1 (Nat.mul_le_mul_right _ (by omega))
theorem dval_lt {l : List Nat} (h : ∀ c ∈ l, c ∈ tl dg) : dval l < 10 ^ l.length := by
  have := dfold_lt l 0 h
  rw [Nat.zero_add, Nat.one_mul] at this
  exact this
/-! ### named readings -/
def rFind : V → List V → Hp → VK → Prop := fun x xs H Q => ∃ a b, x = .str a ∧ xs = [.str b] ∧ Q (.int (Txt.find a b)) H
theorem mz_find {X : Cx} : MtR X "str.find" rFind := mt_find
def rPart : V → List V → Hp → VK → Prop := fun x xs H Q => ∃ a b, x = .str a ∧ xs = [.str b] ∧ (b.length == 0) = false ∧ a.length ≤ sizeLine ∧
    ∀ p, H p = none → Q (.ref p) (upd H p (.tup [.str (Txt.partition a b).1, .str (Txt.partition a b).2.1, .str (Txt.partition a b).2.2]))
theorem mz_part {X : Cx} : MtR X "str.partition" rPart := mt_partition
def rStrI : List V → Hp → VK → Prop := fun xs H Q => ∃ i : Int, xs = [.int i] ∧ i.natAbs.log2 < 1920 ∧ Q (.str (toString i)) H
theorem cz_str {X : Cx} : CallR X (.type "str") rStrI := call_str_int
section
variable {K : PySem.W.Frag} {σ : L2.St} {H H' : Hp} {ta tb te to ts : TE} {a b s : Str} {p : Addr} {xs : List V}
theorem ev_find (h : Ev to σ H (.str a)) (hs : Ev ts σ H (.str s)) : Ev (tBM K "str" rFind to (tCons ts tNil)) σ H (.int (Txt.find a s)) := fun H1 e Q q =>
  h H1 e _ fun H2 e2 => ⟨rfl, hs H2 (e.trans e2) _ fun H3 e3 => ⟨a, s, rfl, rfl, q H3 (e2.trans e3)⟩⟩
theorem eu_part (h : Ev to σ H (.str a)) (hs : Ev ts σ H (.str s)) (h0 : (s.length == 0) = false) (hz : a.length ≤ 100000) : EvU (tBM K "str" rPart to (tCons ts tNil)) σ H [.str (Txt.partition a s).1, .str (Txt.partition a s).2.1, .str (Txt.partition a s).2.2] := fun H1 e Q q =>
  h H1 e _ fun H2 e2 => ⟨rfl, hs H2 (e.trans e2) _ fun H3 e3 => ⟨a, s, rfl, rfl, h0, sz_of hz, fun p hp => q p _ (fresh_back (e2.trans e3) hp) ((e2.trans e3).trans (Ex.new hp)) upd_same⟩⟩
theorem ev_strI {i : Int} (h : Ev te σ H (.int i)) (hi : i.natAbs < 2 ^ 1920) : Ev (tCB rStrI (tCons te tNil)) σ H (.str (toString i)) := fun H1 e Q q => h H1 e _ fun H2 e2 => ⟨i, rfl, by
  by_cases z : i.natAbs = 0
  · rw [z]; decide
  · exact (Nat.log2_lt z).mpr hi, q H2 e2⟩
theorem ev_lenT {p : Addr} {xs : List V} (ha : Ev ta σ H (.ref p)) (h : SqT K H p xs) : Ev (tCB (rLenS K) (tCons ta tNil)) σ H (.int (xs.length : Int)) := fun H1 e Q q =>
  ha H1 e _ fun H2 e2 => ⟨p, xs, rfl, Or.inr (ex_t (e.trans e2) h), q H2 e2⟩
theorem ev_ixT {i : Int} {v : V} (h : Ev ta σ H (.ref p)) (hi : Ev tb σ H (.int i)) (hp : H p = some (.tup xs)) (hv : atI xs i = some v) : Ev (tOp (rIxT K) ta tb) σ H v := ev_op h hi (rv_ixT (st_of hp) hv)
theorem ev_ixL {i : Int} {v : V} (h : Ev ta σ H (.ref p)) (hi : Ev tb σ H (.int i)) (hp : H p = some (.lst xs)) (hv : atI xs i = some v) : Ev (tOp (rIxL K) ta tb) σ H v := ev_op h hi (rv_ixL (sq_of hp) hv)
/-- any of a list of truths -/
theorem ev_any {bs : List Bool} (ha : EvL ta σ H (bs.map V.bl)) : Ev (tCB (L2.rAny K) (tCons ta tNil)) σ H (.bl (bs.any id)) := fun H1 e Q q =>
  ha H1 e _ fun p H2 _ e2 h2 => ⟨p, bs, rfl, sq_of h2, q H2 e2⟩
def rMin2 : List V → Hp → VK → Prop := fun xs H Q => ∃ i j, xs = [.int i, .int j] ∧ Q (.int (if j < i then j else i)) H
theorem ev_min2 {i j : Int} (ha : Ev ta σ H (.int i)) (hb : Ev tb σ H (.int j)) : Ev (tCB rMin2 (tCons ta (tCons tb tNil))) σ H (.int (if j < i then j else i)) := fun H1 e Q q =>
  ha H1 e _ fun H2 e2 => hb H2 (e.trans e2) _ fun H3 e3 => ⟨i, j, rfl, q H3 (e2.trans e3)⟩
end
section
variable {X : Cx}
theorem cz_min2 (h : X.calm = true) : CallR X (.builtin "min") rMin2 := call_min2 h
end
/-! ### numbers' texts are short -/
theorem strI_len {i : Int} (h0 : 0 ≤ i) (h : i < 10 ^ 7) : (PySem.Str.ofString (toString i)).length ≤ 7 := by
  obtain ⟨n, rfl⟩ := Int.eq_ofNat_of_zero_le h0
  rw [len_tl, tl_num]
  exact numL_len (by decide) (by omega)
end Z
set_option maxHeartbeats 4000000
namespace Z
open PySem PySem.Spec PyProof.Rows L2 TL Evl
def top (i : Nat) : Stmt := PySem.Challenge.pw_hopkeep_k16_wanted_ranges.main.body.getD i (.Pass ⟨0, 0, 0, 0⟩)
abbrev s_consists_of : Stmt := top 3
theorem sc_consists_of : FnScope ["text", "signs"] ["text", "signs"] (L2.defScope s_consists_of) := ⟨rfl, rfl, rfl, by decide +kernel, rfl, by decide +kernel, by decide +kernel⟩
abbrev s_list_elements : Stmt := top 4
theorem sc_list_elements : FnScope ["text", "parts", "part"] ["text"] (L2.defScope s_list_elements) := ⟨rfl, rfl, rfl, by decide +kernel, rfl, by decide +kernel, by decide +kernel⟩
abbrev s_read_number : Stmt := top 5
theorem sc_read_number : FnScope ["text"] ["text"] (L2.defScope s_read_number) := ⟨rfl, rfl, rfl, by decide +kernel, rfl, by decide +kernel, by decide +kernel⟩
abbrev s_read_ranges : Stmt := top 8
theorem sc_read_ranges : FnScope ["text", "found", "part", "pair"] ["text"] (L2.defScope s_read_ranges) := ⟨rfl, rfl, rfl, by decide +kernel, rfl, by decide +kernel, by decide +kernel⟩
abbrev s_read_range : Stmt := top 9
theorem sc_read_range : FnScope ["text", "before", "dash", "after", "first", "last"] ["text"] (L2.defScope s_read_range) := ⟨rfl, rfl, rfl, by decide +kernel, rfl, by decide +kernel, by decide +kernel⟩
abbrev s_resolve : Stmt := top 10
theorem sc_resolve : FnScope ["ranges", "length", "pairs", "first", "last", "pair"] ["ranges", "length"] (L2.defScope s_resolve) := ⟨rfl, rfl, rfl, by decide +kernel, rfl, by decide +kernel, by decide +kernel⟩
abbrev s_resolve_range : Stmt := top 11
theorem sc_resolve_range : FnScope ["first", "last", "length"] ["first", "last", "length"] (L2.defScope s_resolve_range) := ⟨rfl, rfl, rfl, by decide +kernel, rfl, by decide +kernel, by decide +kernel⟩
abbrev s_law_source : Stmt := top 13
theorem sc_law_source : FnScope ["script", "seed", "cell"] ["script"] (L2.defScope s_law_source) := ⟨rfl, rfl, rfl, by decide +kernel, rfl, by decide +kernel, by decide +kernel⟩
abbrev s_law_mixed : Stmt := top 14
theorem sc_law_mixed : FnScope ["cell", "step", "limit", "first", "second"] ["cell", "step", "limit"] (L2.defScope s_law_mixed) := ⟨rfl, rfl, rfl, by decide +kernel, rfl, by decide +kernel, by decide +kernel⟩
abbrev s_law_draw : Stmt := top 15
theorem sc_law_draw : FnScope ["source", "limit", "cell", "digit"] ["source", "limit"] (L2.defScope s_law_draw) := ⟨rfl, rfl, rfl, by decide +kernel, rfl, by decide +kernel, by decide +kernel⟩
abbrev s_law_integer : Stmt := top 16
theorem sc_law_integer : FnScope ["actual"] ["actual"] (L2.defScope s_law_integer) := ⟨rfl, rfl, rfl, by decide +kernel, rfl, by decide +kernel, by decide +kernel⟩
abbrev s_law_same_pairs : Stmt := top 17
theorem sc_law_same_pairs : FnScope ["actual", "expected", "k", "pair"] ["actual", "expected"] (L2.defScope s_law_same_pairs) := ⟨rfl, rfl, rfl, by decide +kernel, rfl, by decide +kernel, by decide +kernel⟩
abbrev s_law_number : Stmt := top 18
theorem sc_law_number : FnScope ["word", "number", "char", "digit"] ["word"] (L2.defScope s_law_number) := ⟨rfl, rfl, rfl, by decide +kernel, rfl, by decide +kernel, by decide +kernel⟩
abbrev s_law_range : Stmt := top 19
theorem sc_law_range : FnScope ["word", "dash", "last", "first"] ["word"] (L2.defScope s_law_range) := ⟨rfl, rfl, rfl, by decide +kernel, rfl, by decide +kernel, by decide +kernel⟩
abbrev s_law_ranges : Stmt := top 20
theorem sc_law_ranges : FnScope ["wish", "found", "element", "word", "one"] ["wish"] (L2.defScope s_law_ranges) := ⟨rfl, rfl, rfl, by decide +kernel, rfl, by decide +kernel, by decide +kernel⟩
abbrev s_law_odd : Stmt := top 21
theorem sc_law_odd : FnScope ["first", "last", "form"] ["first", "last", "form"] (L2.defScope s_law_odd) := ⟨rfl, rfl, rfl, by decide +kernel, rfl, by decide +kernel, by decide +kernel⟩
abbrev s_law_element : Stmt := top 22
theorem sc_law_element : FnScope ["source", "most", "odd", "first", "last", "form"] ["source", "most", "odd"] (L2.defScope s_law_element) := ⟨rfl, rfl, rfl, by decide +kernel, rfl, by decide +kernel, by decide +kernel⟩
abbrev s_law_wish : Stmt := top 23
theorem sc_law_wish : FnScope ["source", "most", "odd", "count", "wish", "turn", "element"] ["source", "most"] (L2.defScope s_law_wish) := ⟨rfl, rfl, rfl, by decide +kernel, rfl, by decide +kernel, by decide +kernel⟩
abbrev s_law_bent : Stmt := top 24
theorem sc_law_bent : FnScope ["source", "wish", "spot", "char", "way", "rest", "bent"] ["source", "wish"] (L2.defScope s_law_bent) := ⟨rfl, rfl, rfl, by decide +kernel, rfl, by decide +kernel, by decide +kernel⟩
abbrev s_law_same_side : Stmt := top 25
theorem sc_law_same_side : FnScope ["actual", "expected"] ["actual", "expected"] (L2.defScope s_law_same_side) := ⟨rfl, rfl, rfl, by decide +kernel, rfl, by decide +kernel, by decide +kernel⟩
abbrev s_law_same_ranges : Stmt := top 26
theorem sc_law_same_ranges : FnScope ["actual", "expected", "k", "pair"] ["actual", "expected"] (L2.defScope s_law_same_ranges) := ⟨rfl, rfl, rfl, by decide +kernel, rfl, by decide +kernel, by decide +kernel⟩
abbrev s_law_resolved : Stmt := top 27
theorem sc_law_resolved : FnScope ["found", "total", "resolved", "one", "start", "end"] ["found", "total"] (L2.defScope s_law_resolved) := ⟨rfl, rfl, rfl, by decide +kernel, rfl, by decide +kernel, by decide +kernel⟩
abbrev s_law_totals : Stmt := top 28
theorem sc_law_totals : FnScope ["source", "found", "totals", "one", "side", "total"] ["source", "found"] (L2.defScope s_law_totals) := ⟨rfl, rfl, rfl, by decide +kernel, rfl, by decide +kernel, by decide +kernel⟩
abbrev s_law_asks : Stmt := top 29
theorem sc_law_asks : FnScope ["source", "wish", "named", "due", "actual", "total", "handed", "resolved"] ["source", "wish", "named"] (L2.defScope s_law_asks) := ⟨rfl, rfl, rfl, by decide +kernel, rfl, by decide +kernel, by decide +kernel⟩
abbrev s_law : Stmt := top 30
theorem sc_law : FnScope ["script", "source", "wish", "named"] ["script"] (L2.defScope s_law) := ⟨rfl, rfl, rfl, by decide +kernel, rfl, by decide +kernel, by decide +kernel⟩
/-- what the module's names stand for -/
structure Mg (mg : Str → Option Value) : Prop where
  len : mg "len" = none
  any : mg "any" = none
  max : mg "max" = none
  min : mg "min" = none
  isinstance : mg "isinstance" = none
  range : mg "range" = none
  int : mg "int" = none
  bool : mg "bool" = none
  list : mg "list" = none
  str : mg "str" = none
  tuple : mg "tuple" = none
  DIGITS : ∃ u, mg "DIGITS" = some u ∧ RelV (.str "0123456789") u
  MOST_DIGITS : ∃ u, mg "MOST_DIGITS" = some u ∧ RelV (.int 6) u
  MOST_RANGES : ∃ u, mg "MOST_RANGES" = some u ∧ RelV (.int 20) u
/-! ### what the functions give -/
def spRange : Sp := fun vs H Q _ => ∃ z : Str, vs = [.str z] ∧ z.length ≤ 10000 ∧ ∀ v H', Ex H H' → OPrAt H' v (rangeO z) → Q v H'
def wants (z : Str) : Option (List Pr) := if (decide ((1 : Int) ≤ ((elems z).map rangeO).length) && decide ((((elems z).map rangeO).length : Int) ≤ 20)) = true ∧ ((elems z).map rangeO).any Option.isNone = false then some (((elems z).map rangeO).filterMap id) else none
def spRanges : Sp := fun vs H Q _ => ∃ z : Str, vs = [.str z] ∧ z.length ≤ 1000 ∧ (wants z = none → RetV .non H Q) ∧ ∀ ps, wants z = some ps → ∀ l xs H', H l = none → Ex H H' → H' l = some (.lst xs) → Rel (PrAt H') xs ps → Q (.ref l) H'
theorem all_some : ∀ os : List (Option Pr), os.any Option.isNone = false → os = (os.filterMap id).map some
  | [], _ => rfl
  | none :: r, h => by cases h
  | some x :: r, h => by
    have h2 : r.any Option.isNone = false := by
      rw [List.any_cons] at h
      exact h
    show some x :: r = some x :: ((r.filterMap id).map some)
    rw [← all_some r h2]
theorem rel_some {H : Hp} {xs : List V} {ps : List Pr} (h : Rel (OPrAt H) xs (ps.map some)) : Rel (PrAt H) xs ps := by
  refine ⟨by rw [h.1, List.length_map], fun i x o a b => ?_⟩
  exact h.2 i x (some o) a (by rw [List.getElem?_map, b]; rfl)
theorem oprat_non {H : Hp} {v : V} {o : Option Pr} (h : OPrAt H v o) : decide (v = .non) = o.isNone := by
  cases o with
  | none =>
    have h : v = .non := h
    rw [h]
    rfl
  | some q =>
    obtain ⟨p, rfl, _⟩ := h
    rfl
def res (o : Pr) (n : Int) : Int × Int :=
  match o with
  | (none, none) => (0, 0)
  | (none, some b) => (if n - (b : Int) > 0 then n - (b : Int) else 0, n)
  | (some a, none) => ((a : Int), n)
  | (some a, some b) => ((a : Int), if n < (b : Int) + 1 then n else (b : Int) + 1)
def okPr (o : Pr) : Prop := ¬ (o.1 = none ∧ o.2 = none)
def spResR : Sp := fun vs H Q _ => ∃ (o : Pr) (n : Int), vs = [ov o.1, ov o.2, .int n] ∧ okPr o ∧ ∀ v H', Ex H H' → IpAt H' v (res o n) → Q v H'
def resAll (ps : List Pr) (n : Int) : List (Int × Int) := (ps.map fun o => res o n).filter fun x => decide (x.1 < x.2)
def spResolve (K : PySem.W.Frag) : Sp := fun vs H Q _ => ∃ (p : Addr) (xs : List V) (ps : List Pr) (n : Int), vs = [.ref p, .int n] ∧ SqL K H p xs ∧ Rel (PrAt H) xs ps ∧ (∀ o ∈ ps, okPr o) ∧ xs.length ≤ 1000 ∧ ∀ l ys H', H l = none → Ex H H' → H' l = some (.lst ys) → Rel (IpAt H') ys (resAll ps n) → Q (.ref l) H'
section
variable {P : Program} {w : World} {K : PySem.W.Frag} {mg : Str → Option Value} {base : Heap} {f : Addr} {fd : FuncData} {k : Nat}
theorem ok_consists_of (T : Mg mg) (F : FnP K "consists_of" s_consists_of f fd) (gm : mg "consists_of" = some (.ref f)) : Call P w K mg base 1 "consists_of" ["text", "signs"] (sp2 fun z s => .bl (allIn z s)) := by
  refine mk F gm (fun _ _ _ _ _ _ us hl => match us, hl with | [_, _], _ => rfl) (fun _ _ _ _ _ _ us hl => match us, hl with | [_, _], _ => rfl) sc_consists_of (fun vs H Q E h => ?_) (fun cdv A outer s H vs Q E hr h => ?_)
  · obtain ⟨z, s, rfl, _⟩ := h
    rfl
  · obtain ⟨z, s, rfl, hz, q⟩ := h
    refine ⟨_, (pss_one (ps_ret (pe_cmpR op_eq (pe_bm PySem.F.plainAttrs_str PySem.F.slot_str_strip PySem.F.type_str_strip mz_strip (pv 0) (pa_cons (pv 1) pa_nil)) pe_str (nomark _)))), ?_⟩
    refine s_ret (v := .bl (allIn z s)) (ev_is (ev_op (ev_strip (ev_var rfl) (ev_var rfl) hz) ev_c rv_eqS) ?_) q
    rw [strip_all]
theorem ok_list_elements (T : Mg mg) (F : FnP K "list_elements" s_list_elements f fd) (gm : mg "list_elements" = some (.ref f)) : Call P w K mg base 1 "list_elements" ["text"] (sp1L fun z => (elems z).map V.str) := by
  refine mk F gm (fun _ _ _ _ _ _ us hl => match us, hl with | [_], _ => rfl) (fun _ _ _ _ _ _ us hl => match us, hl with | [_], _ => rfl) sc_list_elements (fun vs H Q E h => ?_) (fun cdv A outer s H vs Q E hr h => ?_)
  · obtain ⟨z, rfl, _⟩ := h
    rfl
  · obtain ⟨z, rfl, hz, q⟩ := h
    refine ⟨_, (pss_cons (ps_setLc (i := 1) (own := [("part", 2)]) (g := gName 2) (tt := tYes) rfl sc_list_elements.nd rfl rfl (sw_true rfl rfl rfl (by decide +kernel)) (pi_list (pe_bm PySem.F.plainAttrs_str PySem.F.slot_str_split PySem.F.type_str_split mz_split (pv 0) (pa_cons pe_str pa_nil))) (blkOk_by (N := ["text", "parts", "part"]) (sc := L2.defScope s_list_elements) (by decide +kernel)) (fun _ _ _ _ _ => pg_name (i := 2) sc_list_elements.nd rfl (Or.inl rfl)) (fun _ _ _ _ _ => pts_nil) (fun _ _ _ _ _ => (inK (K := K) (t := fun K => tBM K "str" rStrip _ _) rfl (pe_bm PySem.F.plainAttrs_str PySem.F.slot_str_strip PySem.F.type_str_strip mz_strip (pv 2) (pa_cons pe_str pa_nil)))))
    (pss_one (ps_ret (pe_lc (own := [("part", 2)]) (g := gName 2) rfl sc_list_elements.nd (pi_list (pv 1)) (blkOk_by (N := ["text", "parts", "part"]) (sc := L2.defScope s_list_elements) (by decide +kernel)) (fun _ _ _ _ _ => pg_name (i := 2) sc_list_elements.nd rfl (Or.inl rfl)) (fun _ _ _ _ _ => pts_one (pt_cmpR op_ne (pv 2) pe_str (nomark _))) (fun _ _ _ _ _ => (pv 2)))))), ?_⟩
    have hsl := split_len z
    refine q_asgL (xs := (stripped z).map V.str) ?_ fun p H1 np e1 h1 => ?_
    · have e : given ((Txt.split z ",").map V.str).length (fun _ => true) (fun i => .str (Txt.stripChars ((Txt.split z ",").getD i "") " ")) = (stripped z).map V.str := by
        rw [List.length_map]
        have := given_all (Txt.split z ",") ("" : Str) (fun _ => true) (fun p => .str (Txt.stripChars p " "))
        rw [this]
        unfold stripped
        rw [List.map_map]
        have : (Txt.split z ",").filter (fun _ => true) = Txt.split z "," := List.filter_eq_self.mpr fun _ _ => rfl
        rw [this]
        rfl
      rw [← e]
      refine el_lcNL (fun _ => true) (fun i => .str (Txt.stripChars ((Txt.split z ",").getD i "") " ")) (el_split (ev_var rfl) ev_c (by decide +kernel) (by omega)) (by rw [List.length_map]; omega) (fun _ => rfl) (fun i x H1 e hx => et_yes) (fun i x H1 e hx _ => ?_)
      obtain ⟨hi, ex, hm⟩ := at_str hx ("" : Str)
      subst ex
      exact ev_strip (ev_var rfl) ev_c (by have := split_each hm; omega)
    · have e : given ((stripped z).map V.str).length (fun i => !decide ((stripped z).getD i "" = ("" : Str))) (fun i => .str ((stripped z).getD i "")) = (elems z).map V.str := by
        rw [List.length_map]
        exact given_all (stripped z) ("" : Str) (fun p => !decide (p = ("" : Str))) V.str
      have hlen : (stripped z).length ≤ 20000 := by
        unfold stripped
        rw [List.length_map]
        omega
      refine s_retL (xs := (elems z).map V.str) ?_ fun p2 H2 np2 e2 h2 => q p2 H2 (fresh_back e1 np2) (e1.trans e2) h2
      rw [← e]
      refine el_lcL (fun i => !decide ((stripped z).getD i "" = ("" : Str))) (fun i => .str ((stripped z).getD i "")) (ev_var rfl) (sq_of h1) (by rw [List.length_map]; omega) (fun _ => rfl) (fun i x H1 e hx => ?_) (fun i x H1 e hx _ => ?_)
      · obtain ⟨hi, ex, hm⟩ := at_str hx ("" : Str)
        subst ex
        exact et_test (ev_op (ev_var rfl) ev_c rv_neS)
      · obtain ⟨hi, ex, hm⟩ := at_str hx ("" : Str)
        subst ex
        exact ev_var rfl
theorem ok_read_number (T : Mg mg) (c_consists_of : cons_ P w K mg base) (F : FnP K "read_number" s_read_number f fd) (gm : mg "read_number" = some (.ref f)) : Call P w K mg base 2 "read_number" ["text"] (sp1 numV) := by
  refine mk F gm (fun _ _ _ _ _ _ us hl => match us, hl with | [_], _ => rfl) (fun _ _ _ _ _ _ us hl => match us, hl with | [_], _ => rfl) sc_read_number (fun vs H Q E h => ?_) (fun cdv A outer s H vs Q E hr h => ?_)
  · obtain ⟨z, rfl, _⟩ := h
    rfl
  · obtain ⟨z, rfl, hz, q⟩ := h
    refine ⟨_, (pss_cons (ps_if (PW.pt (pw_or (pt_not (pt_chain op_le op_le pe_int (pe_callB cz_len (by rfl) T.len (by decide +kernel) (pa_cons (pv 0) pa_nil)) (pe_gc rfl T.MOST_DIGITS))) (pw_or1 (pt_not (pt_val (pe_f c_consists_of hr (by decide) rfl (pa_cons (pv 0) (pa_cons (pe_gc rfl T.DIGITS) pa_nil))))))))
      (pss_one (ps_ret pe_non))
      pss_nil)
    (pss_cons (ps_if (PW.pt (pw_and (pt_cmpR op_eq (pe_ix ix_str (pv 0) pe_int (fun _ _ => rfl)) pe_str (nomark _)) (pw_and1 (pt_cmpR op_ne (pv 0) pe_str (nomark _)))))
      (pss_one (ps_ret pe_non))
      pss_nil)
    (pss_one (ps_ret (pe_callTy cz_int (by rfl) T.int (by decide +kernel) (pa_cons (pv 0) pa_nil)))))), ?_⟩
    refine q_when (et_or (et_not (et_test (ev_chain ev_c (ev_lenStr (ev_var rfl) hz) ev_c))) fun _ => et_not (et_B (ev_call (ea_cons (ev_var rfl) (ea_cons ev_c ea_nil)) (sv2 hz)))) (fun hb H1 e1 => ?_) (fun hb H1 e1 => ?_)
    · refine s_ret ev_c fun H2 e2 => ?_
      have : numV z = .non := by
        unfold numV digB
        rw [if_neg]
        intro h
        rw [Bool.and_eq_true, Bool.and_eq_true] at h
        rw [show (decide ((1 : Int) ≤ z.length) && decide ((z.length : Int) ≤ 6)) = true by rw [Bool.and_eq_true]; exact h.1, (Bool.and_eq_true_iff.mp h.2).1] at hb
        cases hb
      have g := q H2 (e1.trans e2)
      rw [this] at g
      exact g
    · rw [Bool.or_eq_false_iff, Bool.not_eq_false', Bool.not_eq_false'] at hb
      obtain ⟨hc, ha⟩ := hb
      have hl := pl hc
      obtain ⟨c, g1, g2⟩ := item0 (z := z) (by omega)
      have e3 : decide ((⟨#[c]⟩ : Str) = ("0" : Str)) = decide (hd z = some 48) := by
        rw [g1, show ("0" : Str) = ⟨#[48]⟩ by decide +kernel]
        by_cases h : c = 48
        · rw [h]; rfl
        · rw [decide_eq_false fun e => h ((one_eq _ _).mp e), decide_eq_false fun e => h (Option.some.inj e)]
      refine q_when (b := decide (hd z = some 48) && !decide (z = ("0" : Str))) (et_and (et_is (et_test (ev_op (ev_ixS (ev_var rfl) ev_c hz g2) ev_c rv_eqS)) e3) fun _ => et_test (ev_op (ev_var rfl) ev_c rv_neS)) (fun hb H2 e2 => ?_) (fun hb H2 e2 => ?_)
      · rw [Bool.and_eq_true, decide_eq_true_eq, Bool.not_eq_true', decide_eq_false_iff_not] at hb
        refine s_ret ev_c fun H3 e3 => ?_
        have : numV z = .non := by
          unfold numV digB
          rw [if_neg]
          intro h
          have h := (Bool.and_eq_true_iff.mp (Bool.and_eq_true_iff.mp h).2).2
          rw [Bool.or_eq_true, decide_eq_true_eq, Bool.not_eq_true', decide_eq_false_iff_not] at h
          rcases h with h | h
          · exact hb.2 (zero_text (by omega) hb.1)
          · exact h hb.1
        have g := q H3 ((e1.trans e2).trans e3)
        rw [this] at g
        exact g
      · have hd1 : digB z = true := by
          unfold digB
          rw [hc, ha, Bool.true_and, Bool.true_and, Bool.or_eq_true, decide_eq_true_eq, Bool.not_eq_true', decide_eq_false_iff_not]
          rw [Bool.and_eq_false_iff, decide_eq_false_iff_not, Bool.not_eq_false', decide_eq_true_eq] at hb
          rcases hb with hb | hb
          · exact .inr hb
          · have := zero_len hb
            exact .inl (by omega)
        refine s_ret (v := numV z) (ev_is (ev_intStr (ev_var rfl) (int_digits ha (by omega) (by omega)) (by omega)) ?_) fun H3 e3 => q H3 ((e1.trans e2).trans e3)
        unfold numV
        rw [if_pos hd1]
theorem ok_read_range (T : Mg mg) (c_read_number : Call P w K mg base 2 "read_number" ["text"] (sp1 numV)) (F : FnP K "read_range" s_read_range f fd) (gm : mg "read_range" = some (.ref f)) : Call P w K mg base 3 "read_range" ["text"] spRange := by
  refine mk F gm (fun _ _ _ _ _ _ us hl => match us, hl with | [_], _ => rfl) (fun _ _ _ _ _ _ us hl => match us, hl with | [_], _ => rfl) sc_read_range (fun vs H Q E h => ?_) (fun cdv A outer s H vs Q E hr h => ?_)
  · obtain ⟨z, rfl, _⟩ := h
    rfl
  · obtain ⟨z, rfl, hz, q⟩ := h
    refine ⟨_, (pss_cons (ps_asg (pe_bm PySem.F.plainAttrs_str PySem.F.slot_str_partition PySem.F.type_str_partition mz_part (pv 0) (pa_cons pe_str pa_nil)) (pg_tup rfl (pgs_cons (pg_name (i := 1) sc_read_range.nd rfl (Or.inl rfl)) (pgs_cons (pg_name (i := 2) sc_read_range.nd rfl (Or.inl rfl)) (pgs_cons (pg_name (i := 3) sc_read_range.nd rfl (Or.inl rfl)) pgs_nil)))))
    (pss_cons (ps_set (i := 4) sc_read_range.nd rfl (Or.inl rfl) (pe_f c_read_number hr (by decide) rfl (pa_cons (pv 1) pa_nil)))
    (pss_cons (ps_set (i := 5) sc_read_range.nd rfl (Or.inl rfl) (pe_f c_read_number hr (by decide) rfl (pa_cons (pv 3) pa_nil)))
    (pss_cons (ps_if (PW.pt (pw_or (pt_cmpR op_eq (pv 2) pe_str (nomark _)) (pw_or (PW.pt (pw_and (pt_cmpR op_isN1 (pv 4) pe_non (nomark _)) (pw_and1 (pt_cmpR op_ne (pv 1) pe_str (nomark _))))) (pw_or1 (PW.pt (pw_and (pt_cmpR op_isN1 (pv 5) pe_non (nomark _)) (pw_and1 (pt_cmpR op_ne (pv 3) pe_str (nomark _)))))))))
      (pss_one (ps_ret pe_non))
      pss_nil)
    (pss_cons (ps_if (PW.pt (pw_and (pt_cmpR op_isN1 (pv 4) pe_non (nomark _)) (pw_and1 (pt_cmpR op_isN1 (pv 5) pe_non (nomark _)))))
      (pss_one (ps_ret pe_non))
      pss_nil)
    (pss_cons (ps_if (PW.pt (pw_and (pt_cmpR op_notN1 (pv 4) pe_non (nomark _)) (pw_and (pt_cmpR op_notN1 (pv 5) pe_non (nomark _)) (pw_and1 (pt_cmpR op_lt (pv 5) (pv 4) (nomark _))))))
      (pss_one (ps_ret pe_non))
      pss_nil)
    (pss_one (ps_ret (pe_tup (pa_cons (pv 4) (pa_cons (pv 5) pa_nil))))))))))), ?_⟩
    refine eu_part (s := "-") (ev_var rfl) ev_c (by decide +kernel) (by omega) H (Ex.refl H) _ fun p H1 np e1 h1 => ⟨p, _, rfl, st_of h1, rfl, _, _, rfl, _, _, rfl, _, _, rfl, rfl, ?_⟩
    have hnon : ∀ (Hx : Hp), Ex H Hx → rangeO z = none → Q .non Hx := fun Hx e hn => q .non Hx e (by rw [hn]; rfl)
    rcases part_dash z with ⟨i, hi, hl, hp⟩ | ⟨hi, hp⟩
    · rw [congrArg (·.1) hp, congrArg (·.2.1) hp, congrArg (·.2.2) hp]
      show tSeq _ _ _ [some (V.str z), some (V.str (preT z i)), some (V.str ("-" : Str)), some (V.str (sufT z (i + 1))), none, none] H1
      have l1 := preT_len z i
      have l2 := sufT_len z (i + 1)
      refine q_asg (v := ov (num (preT z i))) (ev_is (ev_call (ea_cons (ev_var rfl) ea_nil) (sv1 (by omega))) (numV_ov _)) fun H2 e2 => ?_
      refine q_asg (v := ov (num (sufT z (i + 1)))) (ev_is (ev_call (ea_cons (ev_var rfl) ea_nil) (sv1 (by omega))) (numV_ov _)) fun H3 e3 => ?_
      have hr := rangeO_some hi
      refine q_when (b := badB z i) (et_is (et_or (a := false) (et_is (et_test (ev_op (ev_var rfl) ev_c rv_eqS)) (by decide +kernel)) fun _ => et_or (et_and (et_is (et_test (ev_op (ev_var rfl) ev_c rv_isN)) (ov_non _)) fun _ => et_test (ev_op (ev_var rfl) ev_c rv_neS)) fun _ => et_and (et_is (et_test (ev_op (ev_var rfl) ev_c rv_isN)) (ov_non _)) fun _ => et_test (ev_op (ev_var rfl) ev_c rv_neS)) (Bool.false_or _)) (fun hb H4 e4 => ?_) (fun hb H4 e4 => ?_)
      · rw [if_pos hb] at hr
        exact s_ret ev_c fun H5 e5 => hnon H5 ((((e1.trans e2).trans e3).trans e4).trans e5) hr
      · rw [hb, if_neg (by decide)] at hr
        have e04 := ((e1.trans e2).trans e3).trans e4
        clear e1 e2 e3 e4
        cases hA : num (preT z i) with
        | none =>
          cases hB : num (sufT z (i + 1)) with
          | none =>
            rw [hA, hB] at hr
            refine q_when (b := true) (et_is (et_and (a := true) (et_is (et_test (ev_op (ev_var rfl) ev_c rv_isN)) rfl) fun _ => et_is (et_test (ev_op (ev_var rfl) ev_c rv_isN)) rfl) rfl) (fun _ H5 e5 => ?_) (fun h => nomatch h)
            exact s_ret ev_c fun H6 e6 => hnon H6 ((e04.trans e5).trans e6) hr
          | some b =>
            rw [hA, hB] at hr
            refine q_when (b := false) (et_is (et_and (a := true) (et_is (et_test (ev_op (ev_var rfl) ev_c rv_isN)) rfl) fun _ => et_is (b := false) (et_test (ev_op (ev_var rfl) ev_c rv_isN)) rfl) rfl) (fun h => nomatch h) (fun _ H5 e5 => ?_)
            refine q_when (b := false) (et_is (et_and (a := false) (et_is (et_test (ev_op (ev_var rfl) ev_c rv_notN)) rfl) fun h => nomatch h) (Bool.false_and false)) (fun h => nomatch h) (fun _ H6 e6 => ?_)
            refine s_retU (eu_tup (ea_cons (ev_var rfl) (ea_cons (ev_var rfl) ea_nil)) (by show 2 ≤ 100000; decide)) fun p H7 np e7 h7 => q _ H7 (((e04.trans e5).trans e6).trans e7) ?_
            rw [hr]
            exact ⟨p, rfl, h7⟩
        | some a =>
          cases hB : num (sufT z (i + 1)) with
          | none =>
            rw [hA, hB] at hr
            refine q_when (b := false) (et_is (et_and (a := false) (et_is (et_test (ev_op (ev_var rfl) ev_c rv_isN)) rfl) fun h => nomatch h) (Bool.false_and false)) (fun h => nomatch h) (fun _ H5 e5 => ?_)
            refine q_when (b := false) (et_is (et_and (a := true) (et_is (et_test (ev_op (ev_var rfl) ev_c rv_notN)) rfl) fun _ => et_and (a := false) (et_is (et_test (ev_op (ev_var rfl) ev_c rv_notN)) rfl) fun h => nomatch h) (by show (true && (false && false)) = false; rfl)) (fun h => nomatch h) (fun _ H6 e6 => ?_)
            refine s_retU (eu_tup (ea_cons (ev_var rfl) (ea_cons (ev_var rfl) ea_nil)) (by show 2 ≤ 100000; decide)) fun p H7 np e7 h7 => q _ H7 (((e04.trans e5).trans e6).trans e7) ?_
            rw [hr]
            exact ⟨p, rfl, h7⟩
          | some b =>
            rw [hA, hB] at hr
            have hr : rangeO z = if b < a then none else some (some a, some b) := hr
            refine q_when (b := false) (et_is (et_and (a := false) (et_is (et_test (ev_op (ev_var rfl) ev_c rv_isN)) rfl) fun h => nomatch h) (Bool.false_and false)) (fun h => nomatch h) (fun _ H5 e5 => ?_)
            refine q_when (b := decide ((b : Int) < (a : Int))) (et_is (et_and (a := true) (et_is (et_test (ev_op (ev_var rfl) ev_c rv_notN)) rfl) fun _ => et_and (a := true) (et_is (et_test (ev_op (ev_var rfl) ev_c rv_notN)) rfl) fun _ => et_test (ev_op (ev_var rfl) (ev_var rfl) rv_I0)) rfl) (fun hb2 H6 e6 => ?_) (fun hb2 H6 e6 => ?_)
            · rw [if_pos (by have := of_decide_eq_true hb2; omega)] at hr
              exact s_ret ev_c fun H7 e7 => hnon H7 (((e04.trans e5).trans e6).trans e7) hr
            · rw [if_neg (by have := of_decide_eq_false hb2; omega)] at hr
              refine s_retU (eu_tup (ea_cons (ev_var rfl) (ea_cons (ev_var rfl) ea_nil)) (by show 2 ≤ 100000; decide)) fun p H7 np e7 h7 => q _ H7 (((e04.trans e5).trans e6).trans e7) ?_
              rw [hr]
              exact ⟨p, rfl, h7⟩
    · rw [congrArg (·.1) hp, congrArg (·.2.1) hp, congrArg (·.2.2) hp]
      show tSeq _ _ _ [some (V.str z), some (V.str z), some (V.str ("" : Str)), some (V.str ("" : Str)), none, none] H1
      have hr := rangeO_none hi
      have s0 : ("" : Str).length ≤ 100000 := by decide +kernel
      refine q_asg (v := numV z) (ev_call (ea_cons (ev_var rfl) ea_nil) (sv1 (by omega))) fun H2 e2 => ?_
      refine q_asg (v := numV "") (ev_call (ea_cons (ev_var rfl) ea_nil) (sv1 s0)) fun H3 e3 => ?_
      refine q_when (b := true) (et_is (et_or (a := true) (et_is (et_test (ev_op (ev_var rfl) ev_c rv_eqS)) (by decide +kernel)) fun h => nomatch h) (Bool.true_or false)) (fun _ H4 e4 => ?_) (fun h => nomatch h)
      exact s_ret ev_c fun H5 e5 => hnon H5 ((((e1.trans e2).trans e3).trans e4).trans e5) hr
theorem ok_read_ranges (T : Mg mg) (c_list_elements : Call P w K mg base 1 "list_elements" ["text"] (sp1L fun z => (elems z).map V.str)) (c_read_range : Call P w K mg base 3 "read_range" ["text"] spRange) (F : FnP K "read_ranges" s_read_ranges f fd) (gm : mg "read_ranges" = some (.ref f)) : Call P w K mg base 4 "read_ranges" ["text"] spRanges := by
  refine mk F gm (fun _ _ _ _ _ _ us hl => match us, hl with | [_], _ => rfl) (fun _ _ _ _ _ _ us hl => match us, hl with | [_], _ => rfl) sc_read_ranges (fun vs H Q E h => ?_) (fun cdv A outer s H vs Q E hr h => ?_)
  · obtain ⟨z, rfl, _⟩ := h
    rfl
  · obtain ⟨z, rfl, hz, q0, q⟩ := h
    refine ⟨_, (pss_cons (ps_setLc (i := 1) (own := [("part", 2)]) (g := gName 2) (tt := tYes) rfl sc_read_ranges.nd rfl rfl (sw_true rfl rfl rfl (by decide +kernel)) (pi_list (pe_f c_list_elements hr (by decide) rfl (pa_cons (pv 0) pa_nil))) (blkOk_by (N := ["text", "found", "part", "pair"]) (sc := L2.defScope s_read_ranges) (by decide +kernel)) (fun _ _ _ _ _ => pg_name (i := 2) sc_read_ranges.nd rfl (Or.inl rfl)) (fun _ _ _ _ _ => pts_nil) (fun _ _ _ _ _ => (pe_f c_read_range hr (by decide) rfl (pa_cons (pv 2) pa_nil))))
    (pss_cons (ps_if (PW.pt (pw_or (pt_not (pt_chain op_le op_le pe_int (pe_callB call_len_seq (by rfl) T.len (by decide +kernel) (pa_cons (pv 1) pa_nil)) (pe_gc rfl T.MOST_RANGES))) (pw_or1 (pt_val (pe_callB (cr_any rfl) (by rfl) T.any (by decide +kernel) (pa_cons (pe_lc (own := [("pair", 3)]) (g := gName 3) (tt := tYes) rfl sc_read_ranges.nd (pi_list (pv 1)) (blkOk_by (N := ["text", "found", "part", "pair"]) (sc := L2.defScope s_read_ranges) (by decide +kernel)) (fun _ _ _ _ _ => pg_name (i := 3) sc_read_ranges.nd rfl (Or.inl rfl)) (fun _ _ _ _ _ => pts_nil) (fun _ _ _ _ _ => (pe_cmpR op_isN1 (pv 3) pe_non (nomark _)))) pa_nil))))))
      (pss_one (ps_ret pe_non))
      pss_nil)
    (pss_one (ps_ret (pv 1))))), ?_⟩
    have hsl := split_len z
    have hle : (elems z).length ≤ z.length + 1 := by
      unfold elems
      refine Nat.le_trans (List.length_filter_le _ _) ?_
      unfold stripped
      rw [List.length_map]
      exact hsl
    refine rd_call (ea_cons (ev_var rfl) ea_nil) fun H1 e1 => ⟨z, rfl, by omega, fun l H2 nl e2 h2 => ⟨l, rfl, ⟨_, sq_of h2⟩, fun D hD => ?_⟩⟩
    refine lc_rel (α := Option Pr) (fun i => ((elems z).take i).map rangeO) OPrAt (fun _ _ _ _ k hD r => r.keep k hD) (sq_of h2) hD rfl (by rw [List.length_map]; omega) (fun i x H3 hi e3 k k0 hk _ => ?_) (fun H3 ys e3 hy hrel => ?_)
    · obtain ⟨hi2, ex, hm⟩ := at_str hi ("" : Str)
      subst ex
      have hw : ((elems z).getD i "").length ≤ z.length := by
        obtain ⟨h1, _⟩ := List.mem_filter.mp (show (elems z).getD i "" ∈ (stripped z).filter _ from hm)
        unfold stripped at h1
        obtain ⟨p0, h3, e⟩ := List.mem_map.mp h1
        have := split_each h3
        have h5 := strip_len p0 " "
        rw [← e]
        omega
      refine ⟨rfl, ?_⟩
      unfold tYes
      dsimp only
      rw [if_pos rfl]
      refine rd_call (ea_cons (ev_var rfl) ea_nil) fun H4 e4 => ⟨_, rfl, by omega, fun v H5 e5 hv => hk v H5 _ (e4.trans e5) ?_ hv⟩
      have : (elems z)[i]? = some ((elems z).getD i "") := by
        rw [List.getD_eq_getElem?_getD, List.getElem?_eq_getElem hi2]; rfl
      rw [List.take_add_one, this, List.map_append]
      rfl
    · rw [List.length_map, List.take_length] at hrel
      have e03 : Ex H H3 := (e1.trans e2).trans e3
      have nD : H D = none := fresh_back (e1.trans e2) hD
      have hlen := hrel.1
      have ew : wants z = if (decide ((1 : Int) ≤ ys.length) && decide ((ys.length : Int) ≤ 20)) = true ∧ ((elems z).map rangeO).any Option.isNone = false then some (((elems z).map rangeO).filterMap id) else none := by
        rw [hlen]
        rfl
      refine q_when (b := !(decide ((1 : Int) ≤ ys.length) && decide ((ys.length : Int) ≤ 20)) || (((elems z).map rangeO).map Option.isNone).any id) (et_or (et_not (et_test (ev_chain ev_c (ev_len (ev_var rfl) (sq_of hy)) ev_c))) fun hlt => et_B (ev_any ?_)) (fun hb H4 e4 => ?_) (fun hb H4 e4 => ?_)
      · have e : given ys.length (fun _ => true) (fun i => .bl ((((elems z).map rangeO).getD i none).isNone)) = (((elems z).map rangeO).map Option.isNone).map V.bl := by
          rw [hlen, given_all ((elems z).map rangeO) none (fun _ => true) (fun o => .bl o.isNone), List.filter_eq_self.mpr (fun _ _ => rfl)]
          simp only [List.map_map]
          rfl
        rw [← e]
        refine el_lcL (fun _ => true) (fun i => .bl ((((elems z).map rangeO).getD i none).isNone)) (ev_var rfl) (sq_of hy) (by rw [hlen, List.length_map]; omega) (fun _ => rfl) (fun i x H5 e5 hx => et_yes) (fun i x H5 e5 hx _ => ?_)
        obtain ⟨o, ho, hr⟩ := hrel.get hx
        refine ev_is (ev_op (ev_var rfl) ev_c rv_isN) ?_
        rw [oprat_non hr, List.getD_eq_getElem?_getD, ho]
        rfl
      · have hn : wants z = none := by
          rw [ew, if_neg]
          intro h
          rw [h.1, show (((elems z).map rangeO).map Option.isNone).any id = ((elems z).map rangeO).any Option.isNone by rw [List.any_map]; rfl, h.2] at hb
          cases hb
        exact s_ret ev_c fun H5 e5 => q0 hn H5 ((e03.trans e4).trans e5)
      · rw [Bool.or_eq_false_iff, Bool.not_eq_false'] at hb
        have h2 : ((elems z).map rangeO).any Option.isNone = false := by
          have := hb.2
          rw [List.any_map] at this
          exact this
        rw [if_pos ⟨hb.1, h2⟩] at ew
        refine s_ret (ev_var rfl) fun H5 e5 => q _ ew D ys H5 nD ((e03.trans e4).trans e5) ((e4.trans e5) _ _ hy) ?_
        rw [all_some _ h2] at hrel
        exact (rel_some hrel).mono fun x o r => TupAt.ex r (e4.trans e5)
theorem ok_resolve_range (T : Mg mg) (F : FnP K "resolve_range" s_resolve_range f fd) (gm : mg "resolve_range" = some (.ref f)) : Call P w K mg base 1 "resolve_range" ["first", "last", "length"] spResR := by
  refine mk F gm (fun _ _ _ _ _ _ us hl => match us, hl with | [_, _, _], _ => rfl) (fun _ _ _ _ _ _ us hl => match us, hl with | [_, _, _], _ => rfl) sc_resolve_range (fun vs H Q E h => ?_) (fun cdv A outer s H vs Q E hr h => ?_)
  · obtain ⟨o, n, rfl, _⟩ := h
    rfl
  · obtain ⟨⟨a, b⟩, n, rfl, hok, q⟩ := h
    refine ⟨_, (pss_cons (ps_if (pt_cmpR op_isN1 (pv 0) pe_non (nomark _))
      (pss_one (ps_ret (pe_tup (pa_cons (pe_callB (call_max2 rfl) (by rfl) T.max (by decide +kernel) (pa_cons pe_int (pa_cons (pe_op op_sub (pv 2) (pv 1)) pa_nil))) (pa_cons (pv 2) pa_nil)))))
      pss_nil)
    (pss_cons (ps_if (pt_cmpR op_isN1 (pv 1) pe_non (nomark _))
      (pss_one (ps_ret (pe_tup (pa_cons (pv 0) (pa_cons (pv 2) pa_nil)))))
      pss_nil)
    (pss_one (ps_ret (pe_tup (pa_cons (pv 0) (pa_cons (pe_callB (cz_min2 rfl) (by rfl) T.min (by decide +kernel) (pa_cons (pe_op op_add (pv 1) pe_int) (pa_cons (pv 2) pa_nil))) pa_nil))))))), ?_⟩
    cases a with
    | none =>
      cases b with
      | none => exact absurd ⟨rfl, rfl⟩ hok
      | some b =>
        refine q_when (b := true) (et_is (et_test (ev_op (ev_var rfl) ev_c rv_isN)) rfl) (fun _ H1 e1 => ?_) (fun h => nomatch h)
        exact s_retU (eu_tup (ea_cons (ev_max2 ev_c (ev_op (ev_var rfl) (ev_var rfl) rv_I0)) (ea_cons (ev_var rfl) ea_nil)) (by show 2 ≤ _; decide)) fun p H2 np e2 h2 => q _ H2 (e1.trans e2) ⟨p, rfl, h2⟩
    | some a =>
      refine q_when (b := false) (et_is (et_test (ev_op (ev_var rfl) ev_c rv_isN)) rfl) (fun h => nomatch h) (fun _ H1 e1 => ?_)
      cases b with
      | none =>
        refine q_when (b := true) (et_is (et_test (ev_op (ev_var rfl) ev_c rv_isN)) rfl) (fun _ H2 e2 => ?_) (fun h => nomatch h)
        exact s_retU (eu_tup (ea_cons (ev_var rfl) (ea_cons (ev_var rfl) ea_nil)) (by show 2 ≤ _; decide)) fun p H3 np e3 h3 => q _ H3 ((e1.trans e2).trans e3) ⟨p, rfl, h3⟩
      | some b =>
        refine q_when (b := false) (et_is (et_test (ev_op (ev_var rfl) ev_c rv_isN)) rfl) (fun h => nomatch h) (fun _ H2 e2 => ?_)
        exact s_retU (eu_tup (ea_cons (ev_var rfl) (ea_cons (ev_min2 (ev_op (ev_var rfl) ev_c rv_I0) (ev_var rfl)) ea_nil)) (by show 2 ≤ _; decide)) fun p H3 np e3 h3 => q _ H3 ((e1.trans e2).trans e3) ⟨p, rfl, h3⟩
theorem ok_resolve (T : Mg mg) (c_resolve_range : Call P w K mg base 1 "resolve_range" ["first", "last", "length"] spResR) (F : FnP K "resolve" s_resolve f fd) (gm : mg "resolve" = some (.ref f)) : Call P w K mg base 2 "resolve" ["ranges", "length"] (spResolve K) := by
  refine mk F gm (fun _ _ _ _ _ _ us hl => match us, hl with | [_, _], _ => rfl) (fun _ _ _ _ _ _ us hl => match us, hl with | [_, _], _ => rfl) sc_resolve (fun vs H Q E h => ?_) (fun cdv A outer s H vs Q E hr h => ?_)
  · obtain ⟨p, xs, ps, n, rfl, _⟩ := h
    rfl
  · obtain ⟨p, xs, ps, n, rfl, hx, hrel, hok, hl, q⟩ := h
    refine ⟨_, (pss_cons (ps_setLc (i := 2) (own := [("first", 3), ("last", 4)]) (g := (gTup K 2 (gCons (gName 3) (gCons (gName 4) gNil)))) (tt := tYes) rfl sc_resolve.nd rfl rfl (sw_true rfl rfl rfl (by decide +kernel)) (pi_list (pv 0)) (blkOk_by (N := ["ranges", "length", "pairs", "first", "last", "pair"]) (sc := L2.defScope s_resolve) (by decide +kernel)) (fun _ _ _ _ _ => pg_tup rfl (pgs_cons (pg_name (i := 3) sc_resolve.nd rfl (Or.inl rfl)) (pgs_cons (pg_name (i := 4) sc_resolve.nd rfl (Or.inl rfl)) pgs_nil))) (fun _ _ _ _ _ => pts_nil) (fun _ _ _ _ _ => (pe_f c_resolve_range hr (by decide) rfl (pa_cons (pv 3) (pa_cons (pv 4) (pa_cons (pv 1) pa_nil))))))
    (pss_one (ps_ret (pe_lc (own := [("pair", 5)]) (g := gName 5) rfl sc_resolve.nd (pi_list (pv 2)) (blkOk_by (N := ["ranges", "length", "pairs", "first", "last", "pair"]) (sc := L2.defScope s_resolve) (by decide +kernel)) (fun _ _ _ _ _ => pg_name (i := 5) sc_resolve.nd rfl (Or.inl rfl)) (fun _ _ _ _ _ => pts_one (pt_cmpR op_lt (inK (K := K) (t := fun K => tOp (rIxT K) _ _) rfl (pe_ix ix_tup (pv 5) pe_int (fun _ _ => rfl))) (inK (K := K) (t := fun K => tOp (rIxT K) _ _) rfl (pe_ix ix_tup (pv 5) pe_int (fun _ _ => rfl))) (nomark _))) (fun _ _ _ _ _ => (pv 5)))))), ?_⟩
    refine ⟨.ref p, rfl, p, rfl, ⟨_, hx⟩, fun D hD => ?_⟩
    refine lc_rel (α := Int × Int) (fun i => (ps.take i).map fun o => res o n) IpAt (fun _ _ _ _ k hD r => TupAt.keep r k hD) hx hD rfl (by omega) (fun i x H3 hi e3 k k0 hk _ => ?_) (fun H3 ys e3 hy hrel2 => ?_)
    · obtain ⟨o, ho, t, rfl, ht⟩ := hrel.get hi
      refine ⟨t, _, rfl, st_of (e3 _ _ ht), rfl, _, _, rfl, _, _, rfl, rfl, rfl, ?_⟩
      unfold tYes
      dsimp only
      rw [if_pos rfl]
      refine rd_call (ea_cons (ev_var rfl) (ea_cons (ev_var rfl) (ea_cons (ev_var rfl) ea_nil))) fun H4 e4 => ⟨o, n, rfl, hok o (List.mem_of_getElem? ho), fun v H5 e5 hv => hk v H5 _ (e4.trans e5) ?_ hv⟩
      rw [List.take_add_one, ho, List.map_append]
      rfl
    · rw [hrel.1, List.take_length] at hrel2
      refine ⟨.ref D, rfl, D, rfl, ⟨_, sq_of hy⟩, fun D2 hD2 => ?_⟩
      refine lc_rel (α := Int × Int) (fun i => ((ps.map fun o => res o n).take i).filter fun x => decide (x.1 < x.2)) IpAt (fun _ _ _ _ k hD r => TupAt.keep r k hD) (sq_of hy) hD2 rfl (by rw [hrel2.1, List.length_map, ← hrel.1]; omega) (fun i x H4 hi e4 k k0 hk hk0 => ?_) (fun H4 zs e4 hz hrel3 => ?_)
      · obtain ⟨o, ho, t, rfl, ht⟩ := hrel2.get hi
        refine ⟨rfl, ?_⟩
        have estep : ((ps.map fun o => res o n).take (i + 1)).filter (fun x => decide (x.1 < x.2)) = ((ps.map fun o => res o n).take i).filter (fun x => decide (x.1 < x.2)) ++ (if o.1 < o.2 then [o] else []) := by
          rw [List.take_add_one, ho, List.filter_append]
          by_cases h : o.1 < o.2
          · rw [if_pos h]
            show _ ++ List.filter _ [o] = _
            rw [List.filter_cons, if_pos (decide_eq_true h)]
            rfl
          · rw [if_neg h]
            show _ ++ List.filter _ [o] = _
            rw [List.filter_cons, if_neg (by rw [decide_eq_false h]; decide)]
            rfl
        have ht4 := e4 _ _ ht
        refine (et_test (ev_op (ev_ixT (ev_var rfl) ev_c ht4 (atI_nat (j := 0) rfl)) (ev_ixT (ev_var rfl) ev_c ht4 (atI_nat (j := 1) rfl)) rv_I0)) H4 (Ex.refl H4) _ fun H5 e5 => ?_
        by_cases h : o.1 < o.2
        · rw [decide_eq_true h, if_pos rfl]
          rw [if_pos h] at estep
          exact ⟨_, rfl, hk _ H5 o e5 estep ⟨t, rfl, e5 _ _ ht4⟩⟩
        · rw [decide_eq_false h, if_neg (by decide)]
          rw [if_neg h, List.append_nil] at estep
          exact hk0 H5 e5 estep
      · rw [hrel2.1, List.take_length] at hrel3
        exact q D2 zs H4 (fresh_back (e3) hD2) (e3.trans e4) hz hrel3
end
end Z
set_option maxHeartbeats 4000000
namespace Z
open PySem PySem.Spec PyProof.Rows L2 TL Evl
def spInt1 : Sp := fun vs H Q _ => ∃ i : Int, vs = [.int i] ∧ RetV (.bl true) H Q
theorem svI1 {i : Int} {H : Hp} : SpV spInt1 [.int i] H (.bl true) := fun H1 e Q q E => ⟨i, rfl, q⟩
def spSameP : Sp := fun vs H Q _ => ∃ (p q : Addr) (xs ys : List V) (ps : List (Int × Int)), vs = [.ref p, .ref q] ∧ H p = some (.lst xs) ∧ H q = some (.lst ys) ∧ Rel (IpAt H) xs ps ∧ Rel (IpAt H) ys ps ∧ xs.length ≤ 1000 ∧ RetV (.bl true) H Q
def spSide : Sp := fun vs H Q _ => ∃ o : Option Nat, vs = [ov o, ov o] ∧ RetV (.bl true) H Q
theorem svSide {o : Option Nat} {H : Hp} : SpV spSide [ov o, ov o] H (.bl true) := fun H1 e Q q E => ⟨o, rfl, q⟩
def spSameR : Sp := fun vs H Q _ => (vs = [.non, .non] ∨ ∃ (p q : Addr) (xs ys : List V) (ps : List Pr), vs = [.ref p, .ref q] ∧ H p = some (.lst xs) ∧ H q = some (.lst ys) ∧ Rel (PrAt H) xs ps ∧ Rel (PrAt H) ys ps ∧ xs.length ≤ 1000) ∧ RetV (.bl true) H Q
theorem stripped_map (z : Str) : (Txt.split z ",").map (fun p => Txt.stripChars p " ") = stripped z := rfl
section
variable {P : Program} {w : World} {K : PySem.W.Frag} {mg : Str → Option Value} {base : Heap} {f : Addr} {fd : FuncData} {k : Nat}
theorem ok_law_integer1 (T : Mg mg) (F : FnP K "_law_integer" s_law_integer f fd) (gm : mg "_law_integer" = some (.ref f)) : Call P w K mg base 1 "_law_integer" ["actual"] spInt1 := by
  refine mk F gm (fun _ _ _ _ _ _ us hl => match us, hl with | [_], _ => rfl) (fun _ _ _ _ _ _ us hl => match us, hl with | [_], _ => rfl) sc_law_integer (fun vs H Q E h => ?_) (fun cdv A outer s H vs Q E hr h => ?_)
  · obtain ⟨a, rfl, _⟩ := h
    rfl
  · obtain ⟨i, rfl, q⟩ := h
    refine ⟨_, (pss_one (ps_ret (pe_and (pe_callB call_isi (by rfl) T.isinstance (by decide +kernel) (pa_cons (pv 0) (pa_cons (pe_bltn (v := .ty "int") (u := .type "int") (by rfl) T.int (by decide +kernel) rfl) pa_nil))) (pe_one (pe_not (pe_callB call_isi (by rfl) T.isinstance (by decide +kernel) (pa_cons (pv 0) (pa_cons (pe_bltn (v := .ty "bool") (u := .type "bool") (by rfl) T.bool (by decide +kernel) rfl) pa_nil)))))))), ?_⟩
    exact s_ret (v := .bl true) (ev_is (ev_andV (ev_isi (b := true) (ev_var rfl) (fun H1 _ => .base (.int i)) (kit_ty (by decide +kernel))) fun _ => ev_notV (ev_isi (b := false) (ev_var rfl) (fun H1 _ => .base (.int i)) (kit_ty (by decide +kernel)))) rfl) q
theorem ok_law_same_pairs (T : Mg mg) (c_law_integer : Call P w K mg base 1 "_law_integer" ["actual"] spInt1) (F : FnP K "_law_same_pairs" s_law_same_pairs f fd) (gm : mg "_law_same_pairs" = some (.ref f)) : Call P w K mg base 2 "_law_same_pairs" ["actual", "expected"] spSameP := by
  refine mk F gm (fun _ _ _ _ _ _ us hl => match us, hl with | [_, _], _ => rfl) (fun _ _ _ _ _ _ us hl => match us, hl with | [_, _], _ => rfl) sc_law_same_pairs (fun vs H Q E h => ?_) (fun cdv A outer s H vs Q E hr h => ?_)
  · obtain ⟨p, q, xs, ys, ps, rfl, _⟩ := h
    rfl
  · obtain ⟨p, q', xs, ys, ps, rfl, hx, hy, rx, ry, hl, q⟩ := h
    refine ⟨_, (pss_cons (ps_if (PW.pt (pw_or (pt_not (pt_val (pe_callB call_isi (by rfl) T.isinstance (by decide +kernel) (pa_cons (pv 0) (pa_cons (pe_bltn (v := .ty "list") (u := .type "list") (by rfl) T.list (by decide +kernel) rfl) pa_nil))))) (pw_or1 (pt_cmpR op_ne (pe_callB call_len_seq (by rfl) T.len (by decide +kernel) (pa_cons (pv 0) pa_nil)) (pe_callB call_len_seq (by rfl) T.len (by decide +kernel) (pa_cons (pv 1) pa_nil)) (nomark _)))))
      (pss_one (ps_ret pe_bl))
      pss_nil)
    (pss_cons (ps_for PassesOwn.never rfl (pi_range1 rfl T.range (pa_cons (pe_callB call_len_seq (by rfl) T.len (by decide +kernel) (pa_cons (pv 1) pa_nil)) pa_nil)) (pg_name (i := 2) sc_law_same_pairs.nd rfl (Or.inl rfl))
      (pss_cons (ps_set (i := 3) sc_law_same_pairs.nd rfl (Or.inl rfl) (pe_ix ix_list (pv 0) (pv 2) (fun _ _ => rfl)))
      (pss_cons (ps_if (PW.pt (pw_or (pt_not (pt_val (pe_callB call_isi (by rfl) T.isinstance (by decide +kernel) (pa_cons (pv 3) (pa_cons (pe_bltn (v := .ty "tuple") (u := .type "tuple") (by rfl) T.tuple (by decide +kernel) rfl) pa_nil))))) (pw_or1 (pt_cmpR op_ne (pe_callB call_len_seq (by rfl) T.len (by decide +kernel) (pa_cons (pv 3) pa_nil)) pe_int (nomark _)))))
        (pss_one (ps_ret pe_bl))
        pss_nil)
      (pss_cons (ps_if (PW.pt (pw_or (pt_not (pt_val (pe_f c_law_integer hr (by decide) rfl (pa_cons (pe_ix ix_tup (pv 3) pe_int (fun _ _ => rfl)) pa_nil)))) (pw_or1 (pt_not (pt_val (pe_f c_law_integer hr (by decide) rfl (pa_cons (pe_ix ix_tup (pv 3) pe_int (fun _ _ => rfl)) pa_nil)))))))
        (pss_one (ps_ret pe_bl))
        pss_nil)
      (pss_one (ps_if (PW.pt (pw_or (pt_cmpR op_ne (pe_ix ix_tup (pv 3) pe_int (fun _ _ => rfl)) (pe_ix ix_tup (pe_ix ix_list (pv 1) (pv 2) (fun _ _ => rfl)) pe_int (fun _ _ => rfl)) (nomark _)) (pw_or1 (pt_cmpR op_ne (pe_ix ix_tup (pv 3) pe_int (fun _ _ => rfl)) (pe_ix ix_tup (pe_ix ix_list (pv 1) (pv 2) (fun _ _ => rfl)) pe_int (fun _ _ => rfl)) (nomark _)))))
        (pss_one (ps_ret pe_bl))
        pss_nil))))))
    (pss_one (ps_ret pe_bl)))), ?_⟩
    have elen : xs.length = ys.length := rx.1.trans ry.1.symm
    refine q_when (b := false) (et_is (et_or (a := false) (et_is (et_not (et_B (ev_isi (b := true) (ev_var rfl) (fun H1 e => .base (.lst (e _ _ hx))) (kit_ty (by decide +kernel))))) rfl) fun _ => et_is (b := false) (et_test (ev_op (ev_len (ev_var rfl) (sq_of hx)) (ev_len (ev_var rfl) (sq_of hy)) rv_neI)) (by rw [elen, decide_eq_true rfl]; rfl)) rfl) (fun h => nomatch h) (fun _ H1 e1 => ?_)
    refine q_forR1 (n := (ys.length : Int)) (ea_cons (ev_len (ev_var rfl) (sq_of (e1 _ _ hy))) ea_nil) (by omega) (fun i σ' H' => (∃ v1 v2, σ' = [some (.ref p), some (.ref q'), v1, v2]) ∧ Ex H H') (fun H2 e2 => ⟨⟨none, none, rfl⟩, e1.trans e2⟩) (fun i σ' H' hi pv => ?_) (fun σ' H' pv => ?_)
    · obtain ⟨⟨v1, v2, rfl⟩, e2⟩ := pv
      have hi' : i < ys.length := by omega
      have gy := List.getElem?_eq_getElem hi'
      obtain ⟨o, ho, t, ht, hht⟩ := ry.get gy
      obtain ⟨x, gx, t2, rfl, hht2⟩ := rx.at ho
      rw [ht] at gy
      refine q_asg (ev_ixL (ev_var rfl) (ev_var rfl) (e2 _ _ hx) (atI_nat gx)) fun H3 e3 => ?_
      have h2 := e3 _ _ (e2 _ _ hht2)
      refine q_when (b := false) (et_is (et_or (a := false) (et_is (et_not (et_B (ev_isi (b := true) (ev_var rfl) (fun H1 e => .base (.tup (e _ _ h2))) (kit_ty (by decide +kernel))))) rfl) fun _ => et_is (b := false) (et_test (ev_op (ev_lenT (ev_var rfl) (st_of h2)) ev_c rv_neI)) rfl) rfl) (fun h => nomatch h) (fun _ H4 e4 => ?_)
      have h3 := e4 _ _ h2
      refine q_when (b := false) (et_is (et_or (a := false) (et_is (et_not (et_B (ev_call (ea_cons (ev_ixT (ev_var rfl) ev_c h3 (atI_nat (j := 0) rfl)) ea_nil) svI1))) rfl) fun _ => et_is (b := false) (et_not (et_B (ev_call (ea_cons (ev_ixT (ev_var rfl) ev_c h3 (atI_nat (j := 1) rfl)) ea_nil) svI1))) rfl) rfl) (fun h => nomatch h) (fun _ H5 e5 => ?_)
      have h4 := e5 _ _ h3
      have e25 := ((e2.trans e3).trans e4).trans e5
      have y4 := e25 _ _ hy
      have t4 := e25 _ _ hht
      refine s_when (b := false) (et_is (et_or (a := false) (et_is (et_test (ev_op (ev_ixT (ev_var rfl) ev_c h4 (atI_nat (j := 0) rfl)) (ev_ixT (ev_ixL (ev_var rfl) (ev_var rfl) y4 (atI_nat gy)) ev_c t4 (atI_nat (j := 0) rfl)) rv_neI)) (by rw [decide_eq_true rfl]; rfl)) fun _ => et_is (b := false) (et_test (ev_op (ev_ixT (ev_var rfl) ev_c h4 (atI_nat (j := 1) rfl)) (ev_ixT (ev_ixL (ev_var rfl) (ev_var rfl) y4 (atI_nat gy)) ev_c t4 (atI_nat (j := 1) rfl)) rv_neI)) (by rw [decide_eq_true rfl]; rfl)) rfl) (fun h => nomatch h) (fun _ H6 e6 => ⟨⟨_, _, rfl⟩, e25.trans e6⟩)
    · obtain ⟨⟨v1, v2, rfl⟩, e2⟩ := pv
      exact s_ret ev_c fun H3 e3 => q H3 (e2.trans e3)
theorem ok_law_number2 (T : Mg mg) (F : FnP K "_law_number" s_law_number f fd) (gm : mg "_law_number" = some (.ref f)) : Call P w K mg base 1 "_law_number" ["word"] (sp1 numV) := by
  refine mk F gm (fun _ _ _ _ _ _ us hl => match us, hl with | [_], _ => rfl) (fun _ _ _ _ _ _ us hl => match us, hl with | [_], _ => rfl) sc_law_number (fun vs H Q E h => ?_) (fun cdv A outer s H vs Q E hr h => ?_)
  · obtain ⟨z, rfl, _⟩ := h
    rfl
  · obtain ⟨z, rfl, hz, q⟩ := h
    refine ⟨_, (pss_cons (ps_if (PW.pt (pw_or (pt_cmpR op_lt (pe_callB cz_len (by rfl) T.len (by decide +kernel) (pa_cons (pv 0) pa_nil)) pe_int (nomark _)) (pw_or1 (pt_cmpR op_gt (pe_callB cz_len (by rfl) T.len (by decide +kernel) (pa_cons (pv 0) pa_nil)) pe_int (nomark _)))))
      (pss_one (ps_ret pe_non))
      pss_nil)
    (pss_cons (ps_if (PW.pt (pw_and (pt_cmpR op_gt (pe_callB cz_len (by rfl) T.len (by decide +kernel) (pa_cons (pv 0) pa_nil)) pe_int (nomark _)) (pw_and1 (pt_cmpR op_eq (pe_ix ix_str (pv 0) pe_int (fun _ _ => rfl)) pe_str (nomark _)))))
      (pss_one (ps_ret pe_non))
      pss_nil)
    (pss_cons (ps_set (i := 1) sc_law_number.nd rfl (Or.inl rfl) pe_int)
    (pss_cons (ps_for PassesOwn.never rfl (pi_str (pv 0)) (pg_name (i := 2) sc_law_number.nd rfl (Or.inl rfl))
      (pss_cons (ps_set (i := 3) sc_law_number.nd rfl (Or.inl rfl) (pe_bm PySem.F.plainAttrs_str PySem.F.slot_str_find PySem.F.type_str_find mz_find pe_str (pa_cons (pv 2) pa_nil)))
      (pss_cons (ps_if (pt_cmpR op_lt (pv 3) pe_int (nomark _))
        (pss_one (ps_ret pe_non))
        pss_nil)
      (pss_one (ps_set (i := 1) sc_law_number.nd rfl (Or.inl rfl) (pe_op op_add (pe_op op_mul (pv 1) pe_int) (pv 3)))))))
    (pss_one (ps_ret (pv 1))))))), ?_⟩
    have qn : ∀ Hx, Ex H Hx → digB z = false → Q .non Hx := fun Hx e hd => by
      have g := q Hx e
      unfold numV at g
      rw [hd] at g
      exact g
    refine q_when (et_or (et_test (ev_op (ev_lenStr (ev_var rfl) hz) ev_c rv_I0)) fun _ => et_test (ev_op (ev_lenStr (ev_var rfl) hz) ev_c rv_I0)) (fun hb H1 e1 => ?_) (fun hb H1 e1 => ?_)
    · refine s_ret ev_c fun H2 e2 => qn H2 (e1.trans e2) ?_
      rw [Bool.or_eq_true, decide_eq_true_eq, decide_eq_true_eq] at hb
      unfold digB
      have : (decide ((1 : Int) ≤ z.length) && decide ((z.length : Int) ≤ 6)) = false := by
        rw [Bool.and_eq_false_iff, decide_eq_false_iff_not, decide_eq_false_iff_not]
        omega
      rw [this]
      rfl
    · rw [Bool.or_eq_false_iff, decide_eq_false_iff_not, decide_eq_false_iff_not] at hb
      have hl : (decide ((1 : Int) ≤ z.length) && decide ((z.length : Int) ≤ 6)) = true := by
        rw [Bool.and_eq_true, decide_eq_true_eq, decide_eq_true_eq]
        omega
      obtain ⟨c, g1, g2⟩ := item0 (z := z) (by omega)
      have e3 : decide ((⟨#[c]⟩ : Str) = ("0" : Str)) = decide (hd z = some 48) := by
        rw [g1, show ("0" : Str) = ⟨#[48]⟩ by decide +kernel]
        by_cases h : c = 48
        · rw [h]; rfl
        · rw [decide_eq_false fun e => h ((one_eq _ _).mp e), decide_eq_false fun e => h (Option.some.inj e)]
      refine q_when (b := decide ((z.length : Int) > 1) && decide (hd z = some 48)) (et_and (et_test (ev_op (ev_lenStr (ev_var rfl) hz) ev_c rv_I0)) fun _ => et_is (et_test (ev_op (ev_ixS (ev_var rfl) ev_c hz g2) ev_c rv_eqS)) e3) (fun hb2 H2 e2 => ?_) (fun hb2 H2 e2 => ?_)
      · refine s_ret ev_c fun H3 e3 => qn H3 ((e1.trans e2).trans e3) ?_
        rw [Bool.and_eq_true, decide_eq_true_eq] at hb2
        unfold digB
        rw [hl, hb2.2, decide_eq_false (show ¬ (z.length : Int) = 1 by omega)]
        cases allIn z "0123456789" <;> rfl
      · have h3 : (decide ((z.length : Int) = 1) || !decide (hd z = some 48)) = true := by
          rw [Bool.and_eq_false_iff, decide_eq_false_iff_not] at hb2
          rw [Bool.or_eq_true, decide_eq_true_eq, Bool.not_eq_true']
          rcases hb2 with h | h
          · exact .inl (by omega)
          · exact .inr h
        refine q_asg ev_c fun H3 e3 => ?_
        refine q_forS (w := z) (ev_var rfl) (fun i σ' H' => (∃ v1 v2, σ' = [some (.str z), some (.int ((dval ((tl z).take i) : Nat) : Int)), v1, v2]) ∧ Ex H H' ∧ ∀ c ∈ (tl z).take i, c ∈ tl dg) (fun H4 e4 => ⟨⟨none, none, rfl⟩, ((e1.trans e2).trans e3).trans e4, fun c h => by rw [List.take_zero] at h; cases h⟩) (fun i c σ' H' hi pv => ?_) (fun σ' H' pv => ?_)
        · obtain ⟨⟨v1, v2, rfl⟩, e4, hall⟩ := pv
          by_cases hc : c ∈ tl dg
          · have hr := dig_range c hc
            have hlt := dval_lt hall
            have hle : ((tl z).take i).length ≤ 6 := by
              rw [List.length_take, len_tl']
              omega
            have hp := Nat.pow_le_pow_right (show 0 < 10 by decide) hle
            refine q_asg (v := .int ((c : Int) - 48)) (ev_is (ev_find ev_c (ev_var rfl)) (congrArg V.int ((find_digit c).trans (if_pos hc)))) fun H5 e5 => ?_
            refine q_when (b := false) (et_is (et_test (ev_op (ev_var rfl) ev_c rv_I0)) (decide_eq_false (by omega))) (fun h => nomatch h) (fun _ H6 e6 => ?_)
            refine s_asg (v := .int ((dval ((tl z).take (i + 1)) : Nat) : Int)) (ev_is (ev_op (ev_op (ev_var rfl) ev_c (rv_I (.inl ⟨by omega, by omega⟩))) (ev_var rfl) rv_I0) ?_) fun H7 e7 => ⟨⟨_, _, rfl⟩, ((e4.trans e5).trans e6).trans e7, fun x hx => ?_⟩
            · rw [List.take_add_one, hi]
              show _ = V.int ((dval ((tl z).take i ++ [c]) : Nat) : Int)
              rw [dval_snoc]
              congr 1
              omega
            · rw [List.take_add_one, hi] at hx
              rcases List.mem_append.mp hx with hx | hx
              · exact hall x hx
              · rw [List.mem_singleton.mp hx]
                exact hc
          · refine q_asg (v := .int (-1)) (ev_is (ev_find ev_c (ev_var rfl)) (congrArg V.int ((find_digit c).trans (if_neg hc)))) fun H5 e5 => ?_
            refine q_when (b := true) (et_is (et_test (ev_op (ev_var rfl) ev_c rv_I0)) (decide_eq_true (by omega))) (fun _ H6 e6 => ?_) (fun h => nomatch h)
            refine s_ret ev_c fun H7 e7 => qn H7 (((e4.trans e5).trans e6).trans e7) ?_
            unfold digB
            have : allIn z "0123456789" = false := by
              cases e : allIn z "0123456789" with
              | false => rfl
              | true => exact absurd (of_decide_eq_true (List.all_eq_true.mp e c (List.mem_of_getElem? hi))) hc
            rw [this]
            cases (decide ((1 : Int) ≤ z.length) && decide ((z.length : Int) ≤ 6)) <;> rfl
        · obtain ⟨⟨v1, v2, rfl⟩, e4, hall⟩ := pv
          rw [List.take_length] at hall ⊢
          refine s_ret (ev_var rfl) fun H5 e5 => ?_
          have ha : allIn z "0123456789" = true := List.all_eq_true.mpr fun c hc => decide_eq_true (hall c hc)
          have hd : digB z = true := by
            unfold digB
            rw [hl, ha, h3]
            rfl
          have g := q H5 (e4.trans e5)
          unfold numV at g
          rw [if_pos hd] at g
          exact g
theorem ok_law_range (T : Mg mg) (c_law_number : Call P w K mg base 1 "_law_number" ["word"] (sp1 numV)) (F : FnP K "_law_range" s_law_range f fd) (gm : mg "_law_range" = some (.ref f)) : Call P w K mg base 2 "_law_range" ["word"] spRange := by
  refine mk F gm (fun _ _ _ _ _ _ us hl => match us, hl with | [_], _ => rfl) (fun _ _ _ _ _ _ us hl => match us, hl with | [_], _ => rfl) sc_law_range (fun vs H Q E h => ?_) (fun cdv A outer s H vs Q E hr h => ?_)
  · obtain ⟨z, rfl, _⟩ := h
    rfl
  · obtain ⟨z, rfl, hz, q⟩ := h
    refine ⟨_, (pss_cons (ps_set (i := 1) sc_law_range.nd rfl (Or.inl rfl) (pe_bm PySem.F.plainAttrs_str PySem.F.slot_str_find PySem.F.type_str_find mz_find (pv 0) (pa_cons pe_str pa_nil)))
    (pss_cons (ps_if (pt_cmpR op_lt (pv 1) pe_int (nomark _))
      (pss_one (ps_ret pe_non))
      pss_nil)
    (pss_cons (ps_if (pt_cmpR op_eq (pv 1) pe_int (nomark _))
      (pss_cons (ps_set (i := 2) sc_law_range.nd rfl (Or.inl rfl) (pe_f c_law_number hr (by decide) rfl (pa_cons (pe_slice sl_str (pv 0) (po_some pe_int) po_none) pa_nil)))
      (pss_cons (ps_if (pt_cmpR op_isN1 (pv 2) pe_non (nomark _))
        (pss_one (ps_ret pe_non))
        pss_nil)
      (pss_one (ps_ret (pe_tup (pa_cons pe_non (pa_cons (pv 2) pa_nil)))))))
      pss_nil)
    (pss_cons (ps_set (i := 3) sc_law_range.nd rfl (Or.inl rfl) (pe_f c_law_number hr (by decide) rfl (pa_cons (pe_slice sl_str (pv 0) po_none (po_some (pv 1))) pa_nil)))
    (pss_cons (ps_if (pt_cmpR op_isN1 (pv 3) pe_non (nomark _))
      (pss_one (ps_ret pe_non))
      pss_nil)
    (pss_cons (ps_if (pt_cmpR op_eq (pv 1) (pe_op op_sub (pe_callB cz_len (by rfl) T.len (by decide +kernel) (pa_cons (pv 0) pa_nil)) pe_int) (nomark _))
      (pss_one (ps_ret (pe_tup (pa_cons (pv 3) (pa_cons pe_non pa_nil)))))
      pss_nil)
    (pss_cons (ps_set (i := 2) sc_law_range.nd rfl (Or.inl rfl) (pe_f c_law_number hr (by decide) rfl (pa_cons (pe_slice sl_str (pv 0) (po_some (pe_op op_add (pv 1) pe_int)) po_none) pa_nil)))
    (pss_cons (ps_if (PW.pt (pw_or (pt_cmpR op_isN1 (pv 2) pe_non (nomark _)) (pw_or1 (pt_cmpR op_lt (pv 2) (pv 3) (nomark _)))))
      (pss_one (ps_ret pe_non))
      pss_nil)
    (pss_one (ps_ret (pe_tup (pa_cons (pv 3) (pa_cons (pv 2) pa_nil))))))))))))), ?_⟩
    have hz1 : z.length ≤ 100000 := by omega
    have qn : ∀ Hx, Ex H Hx → rangeO z = none → Q .non Hx := fun Hx e hn => q .non Hx e (by rw [hn]; rfl)
    rcases part_dash z with ⟨i, hi, hl, _⟩ | ⟨hi, _⟩
    · have hr := rangeO_some hi
      refine q_asg (v := .int (i : Int)) (ev_is (ev_find (s := "-") (ev_var rfl) ev_c) (by rw [find_dash, hi])) fun H1 e1 => ?_
      refine q_when (b := false) (et_is (et_test (ev_op (ev_var rfl) ev_c rv_I0)) (decide_eq_false (by omega))) (fun h => nomatch h) (fun _ H2 e2 => ?_)
      have l2 := sufT_len z (i + 1)
      have l1 := preT_len z i
      by_cases h0 : i = 0
      · subst h0
        refine q_when (b := true) (et_is (et_test (ev_op (ev_var rfl) ev_c rv_eqI)) rfl) (fun _ H3 e3 => ?_) (fun h => nomatch h)
        have epre := preT0 z
        unfold badB at hr
        rw [epre, num_empty] at hr
        refine q_asg (v := ov (num (sufT z 1))) (ev_is (ev_call (ea_cons (ev_is (ev_slS (ev_var rfl) (eo_some ev_c) eo_none hz1) (congrArg V.str (cutFrom z 1))) ea_nil) (sv1 (z := sufT z 1) (Nat.le_trans l2 hz1))) (numV_ov _)) fun H4 e4 => ?_
        have e04 := ((e1.trans e2).trans e3).trans e4
        cases hB : num (sufT z (0 + 1)) with
        | none =>
          rw [hB] at hr
          have hr : rangeO z = none := by
            rw [hr]
            split <;> rfl
          refine q_when (b := true) (et_is (et_test (ev_op (ev_var rfl) ev_c rv_isN)) rfl) (fun _ H5 e5 => ?_) (fun h => nomatch h)
          exact s_ret ev_c fun H6 e6 => qn H6 ((e04.trans e5).trans e6) hr
        | some b =>
          rw [hB] at hr
          have hr : rangeO z = some (none, some b) := by
            rw [hr]
            rfl
          refine q_when (b := false) (et_is (et_test (ev_op (ev_var rfl) ev_c rv_isN)) rfl) (fun h => nomatch h) (fun _ H5 e5 => ?_)
          refine s_retU (eu_tup (ea_cons ev_c (ea_cons (ev_var rfl) ea_nil)) (by show 2 ≤ 100000; decide)) fun p H6 np e6 h6 => q _ H6 ((e04.trans e5).trans e6) ?_
          rw [hr]
          exact ⟨p, rfl, h6⟩
      · have epre := preT_ne (z := z) (i := i) (by omega) hl
        have esuf := sufT_empty hl
        refine q_when (b := false) (et_is (et_test (ev_op (ev_var rfl) ev_c rv_eqI)) (decide_eq_false (by omega))) (fun h => nomatch h) (fun _ H3 e3 => ?_)
        refine q_asg (v := ov (num (preT z i))) (ev_is (ev_call (ea_cons (ev_is (ev_slS (ev_var rfl) eo_none (eo_some (ev_var rfl)) hz1) (congrArg V.str (cutTo z i))) ea_nil) (sv1 (by omega))) (numV_ov _)) fun H4 e4 => ?_
        have e04 := ((e1.trans e2).trans e3).trans e4
        clear e1 e2 e3 e4
        unfold badB at hr
        rw [decide_eq_false epre] at hr
        cases hA : num (preT z i) with
        | none =>
          rw [hA] at hr
          have hr : rangeO z = none := hr
          refine q_when (b := true) (et_is (et_test (ev_op (ev_var rfl) ev_c rv_isN)) rfl) (fun _ H5 e5 => ?_) (fun h => nomatch h)
          exact s_ret ev_c fun H6 e6 => qn H6 ((e04.trans e5).trans e6) hr
        | some a =>
          rw [hA] at hr
          have hr : rangeO z = if ((num (sufT z (i + 1))).isNone && !decide (sufT z (i + 1) = ("" : Str))) = true then none else pairO (some a) (num (sufT z (i + 1))) := hr
          refine q_when (b := false) (et_is (et_test (ev_op (ev_var rfl) ev_c rv_isN)) rfl) (fun h => nomatch h) (fun _ H5 e5 => ?_)
          refine q_when (b := decide (sufT z (i + 1) = ("" : Str))) (et_is (et_test (ev_op (ev_var rfl) (ev_op (ev_lenStr (ev_var rfl) hz1) ev_c rv_I0) rv_eqI)) esuf.symm) (fun hb H6 e6 => ?_) (fun hb H6 e6 => ?_)
          · have hs := of_decide_eq_true hb
            rw [hs, num_empty] at hr
            refine s_retU (eu_tup (ea_cons (ev_var rfl) (ea_cons ev_c ea_nil)) (by show 2 ≤ 100000; decide)) fun p H7 np e7 h7 => q _ H7 (((e04.trans e5).trans e6).trans e7) ?_
            have hr : rangeO z = some (some a, none) := by
              rw [hr, if_neg (by decide +kernel)]
              rfl
            rw [hr]
            exact ⟨p, rfl, h7⟩
          · rw [hb] at hr
            refine q_asg (v := ov (num (sufT z (i + 1)))) (ev_is (ev_call (ea_cons (ev_is (ev_slS (ev_var rfl) (eo_some (ev_op (ev_var rfl) ev_c rv_I0)) eo_none hz1) (congrArg V.str (cutFrom z (i + 1)))) ea_nil) (sv1 (by omega))) (numV_ov _)) fun H7 e7 => ?_
            have e07 := ((e04.trans e5).trans e6).trans e7
            cases hB : num (sufT z (i + 1)) with
            | none =>
              rw [hB] at hr
              have hr : rangeO z = none := hr
              refine q_when (b := true) (et_is (et_or (a := true) (et_is (et_test (ev_op (ev_var rfl) ev_c rv_isN)) rfl) fun h => nomatch h) (Bool.true_or false)) (fun _ H8 e8 => ?_) (fun h => nomatch h)
              exact s_ret ev_c fun H9 e9 => qn H9 ((e07.trans e8).trans e9) hr
            | some b =>
              rw [hB] at hr
              have hr : rangeO z = if b < a then none else some (some a, some b) := hr
              refine q_when (b := decide ((b : Int) < (a : Int))) (et_is (et_or (a := false) (et_is (et_test (ev_op (ev_var rfl) ev_c rv_isN)) rfl) fun _ => et_test (ev_op (ev_var rfl) (ev_var rfl) rv_I0)) (Bool.false_or _)) (fun hb2 H8 e8 => ?_) (fun hb2 H8 e8 => ?_)
              · rw [if_pos (by have := of_decide_eq_true hb2; omega)] at hr
                exact s_ret ev_c fun H9 e9 => qn H9 ((e07.trans e8).trans e9) hr
              · rw [if_neg (by have := of_decide_eq_false hb2; omega)] at hr
                refine s_retU (eu_tup (ea_cons (ev_var rfl) (ea_cons (ev_var rfl) ea_nil)) (by show 2 ≤ 100000; decide)) fun p H9 np e9 h9 => q _ H9 ((e07.trans e8).trans e9) ?_
                rw [hr]
                exact ⟨p, rfl, h9⟩
    · refine q_asg (v := .int (-1)) (ev_is (ev_find (s := "-") (ev_var rfl) ev_c) (by rw [find_dash, hi])) fun H1 e1 => ?_
      refine q_when (b := true) (et_is (et_test (ev_op (ev_var rfl) ev_c rv_I0)) (decide_eq_true (by omega))) (fun _ H2 e2 => ?_) (fun h => nomatch h)
      exact s_ret ev_c fun H3 e3 => qn H3 ((e1.trans e2).trans e3) (rangeO_none hi)
theorem ok_law_ranges (T : Mg mg) (c_law_range : Call P w K mg base 2 "_law_range" ["word"] spRange) (F : FnP K "_law_ranges" s_law_ranges f fd) (gm : mg "_law_ranges" = some (.ref f)) : Call P w K mg base 3 "_law_ranges" ["wish"] spRanges := by
  refine mk F gm (fun _ _ _ _ _ _ us hl => match us, hl with | [_], _ => rfl) (fun _ _ _ _ _ _ us hl => match us, hl with | [_], _ => rfl) sc_law_ranges (fun vs H Q E h => ?_) (fun cdv A outer s H vs Q E hr h => ?_)
  · obtain ⟨z, rfl, _⟩ := h
    rfl
  · obtain ⟨z, rfl, hz, q0, q⟩ := h
    refine ⟨_, (pss_cons (ps_set (i := 1) sc_law_ranges.nd rfl (Or.inl rfl) (pe_lst pa_nil))
    (pss_cons (ps_for PassesOwn.never rfl (pi_list (pe_bm PySem.F.plainAttrs_str PySem.F.slot_str_split PySem.F.type_str_split mz_split (pv 0) (pa_cons pe_str pa_nil))) (pg_name (i := 2) sc_law_ranges.nd rfl (Or.inl rfl))
      (pss_cons (ps_set (i := 3) sc_law_ranges.nd rfl (Or.inl rfl) (pe_bm PySem.F.plainAttrs_str PySem.F.slot_str_strip PySem.F.type_str_strip mz_strip (pv 2) (pa_cons pe_str pa_nil)))
      (pss_one (ps_if (pt_cmpR op_ne (pv 3) pe_str (nomark _))
        (pss_cons (ps_set (i := 4) sc_law_ranges.nd rfl (Or.inl rfl) (pe_f c_law_range hr (by decide) rfl (pa_cons (pv 3) pa_nil)))
        (pss_cons (ps_if (pt_cmpR op_isN1 (pv 4) pe_non (nomark _))
          (pss_one (ps_ret pe_non))
          pss_nil)
        (pss_one (ps_expr (pe_bm PySem.F.plainAttrs_list PySem.F.slot_list_append PySem.F.type_list_append mt_append (pv 1) (pa_cons (pv 4) pa_nil))))))
        pss_nil))))
    (pss_cons (ps_if (PW.pt (pw_or (pt_cmpR op_eq (pe_callB call_len_seq (by rfl) T.len (by decide +kernel) (pa_cons (pv 1) pa_nil)) pe_int (nomark _)) (pw_or1 (pt_cmpR op_gt (pe_callB call_len_seq (by rfl) T.len (by decide +kernel) (pa_cons (pv 1) pa_nil)) pe_int (nomark _)))))
      (pss_one (ps_ret pe_non))
      pss_nil)
    (pss_one (ps_ret (pv 1)))))), ?_⟩
    have hsl := split_len z
    refine q_asgL (el_lst ea_nil (by decide)) fun p H1 np e1 h1 => ?_
    refine q_forNLn (xs := (Txt.split z ",").map V.str) (el_split (ev_var rfl) ev_c (by decide +kernel) (by omega))
      (fun a i σ' H' => ∃ v1 v2 v3 xs ps, σ' = [some (.str z), some (.ref p), v1, v2, v3] ∧ Ex H H' ∧ H' p = some (.lst xs) ∧ H' a = some (.lst ((Txt.split z ",").map V.str)) ∧ a ≠ p ∧ Rel (PrAt H') xs ps ∧ (((stripped z).take i).filter (fun x => !decide (x = ("" : Str)))).map rangeO = ps.map some ∧ xs.length ≤ i)
      (fun a H2 na e2 h2 => ⟨none, none, none, [], [], rfl, e1.trans e2, e2 _ _ h1, h2, (fun e => by rw [e, h1] at na; cases na), Rel.nil, rfl, Nat.le_refl _⟩) (fun a i σ' H' hi pv => by
        obtain ⟨v1, v2, v3, xs, ps, rfl, e, hp, ha, _⟩ := pv
        exact sq_of ha) (fun a i x σ' H' hi pv => ?_) (fun a σ' H' pv => ?_)
    · obtain ⟨v1, v2, v3, xs, ps, rfl, e, hp, ha, hap, hrel, hps, hlen⟩ := pv
      obtain ⟨hi2, ex, hm⟩ := at_str hi ("" : Str)
      subst ex
      have hpl := split_each hm
      have hi3 : (Txt.split z ",")[i]? = some ((Txt.split z ",").getD i "") := by
        rw [List.getD_eq_getElem?_getD, List.getElem?_eq_getElem hi2]
        rfl
      generalize (Txt.split z ",").getD i "" = part at hi3 hpl ⊢
      have hsw : (stripped z)[i]? = some (Txt.stripChars part " ") := by
        unfold stripped
        rw [List.getElem?_map, hi3]
        rfl
      have hwl := strip_len part " "
      obtain ⟨wd, ewd⟩ : ∃ wd, wd = Txt.stripChars part " " := ⟨_, rfl⟩
      rw [← ewd] at hsw hwl
      refine q_asg (v := .str wd) (ev_is (ev_strip (ev_var rfl) ev_c (by omega)) (congrArg V.str ewd.symm)) fun H3 e3 => ?_
      have hstep : (((stripped z).take (i + 1)).filter (fun x => !decide (x = ("" : Str)))) = (((stripped z).take i).filter (fun x => !decide (x = ("" : Str)))) ++ (if wd = ("" : Str) then [] else [wd]) := by
        rw [List.take_add_one, hsw, List.filter_append]
        by_cases h : wd = ("" : Str)
        · rw [if_pos h]
          show _ ++ List.filter _ [wd] = _
          rw [List.filter_cons, if_neg (by rw [decide_eq_true h]; decide)]
          rfl
        · rw [if_neg h]
          show _ ++ List.filter _ [wd] = _
          rw [List.filter_cons, if_pos (by rw [decide_eq_false h]; decide)]
          rfl
      refine s_when (et_test (ev_op (ev_var rfl) ev_c rv_neS)) (fun hb H4 e4 => ?_) (fun hb H4 e4 => ?_)
      · rw [Bool.not_eq_true', decide_eq_false_iff_not] at hb
        rw [if_neg hb] at hstep
        refine rd_call (ea_cons (ev_var rfl) ea_nil) fun H5 e5 => ⟨wd, rfl, by omega, fun v H6 e6 hv => ?_⟩
        have e36 := ((e3.trans e4).trans e5).trans e6
        cases ho : rangeO wd with
        | none =>
          rw [ho] at hv
          have hv : v = .non := hv
          subst hv
          have hn : wants z = none := by
            unfold wants
            rw [if_neg]
            intro h
            have hmem : wd ∈ elems z := List.mem_filter.mpr ⟨List.mem_of_getElem? hsw, by rw [decide_eq_false hb]; rfl⟩
            have : ((elems z).map rangeO).any Option.isNone = true := List.any_eq_true.mpr ⟨none, List.mem_map.mpr ⟨wd, hmem, ho⟩, rfl⟩
            rw [this] at h
            exact nomatch h.2
          refine q_when (b := true) (et_is (et_test (ev_op (ev_var rfl) ev_c rv_isN)) rfl) (fun _ H7 e7 => ?_) (fun h => nomatch h)
          exact s_ret ev_c fun H8 e8 => q0 hn H8 (((e.trans e36).trans e7).trans e8)
        | some o =>
          rw [ho] at hv
          have hdec : decide (v = V.non) = false := by
            obtain ⟨t, rfl, _⟩ := hv
            rfl
          refine q_when (b := false) (et_is (et_test (ev_op (ev_var rfl) ev_c rv_isN)) hdec) (fun h => nomatch h) (fun _ H7 e7 => ?_)
          have e37 := e36.trans e7
          refine s_app (xs := xs) (e37 _ _ hp) (ev_var rfl) (ev_var rfl) (by omega) fun H8 e8 => ?_
          have e38 := e37.trans e8
          refine ⟨_, _, _, xs ++ [v], ps ++ [o], rfl, Ex.mut (e.trans e38) (fresh_back (Ex.refl H) np), upd_same, ?_, hap, ?_, ?_, by rw [List.length_append]; exact Nat.add_le_add_right hlen 1⟩
          · rw [upd_ne hap]
            exact e38 _ _ ha
          · have kD : ∀ b ob, b ≠ p → H8 b = some ob → (upd H8 p (.lst (xs ++ [v]))) b = some ob := fun b ob hb h => by rw [upd_ne hb]; exact h
            refine Rel.snoc (hrel.mono fun x o r => TupAt.keep (TupAt.ex r e38) kD ⟨_, e38 _ _ hp⟩) ?_
            exact TupAt.keep (TupAt.ex hv (e7.trans e8)) kD ⟨_, e38 _ _ hp⟩
          · rw [hstep, List.map_append, hps, List.map_append]
            show _ ++ [rangeO wd] = _
            rw [ho]
            rfl
      · rw [Bool.not_eq_false', decide_eq_true_eq] at hb
        rw [if_pos hb, List.append_nil] at hstep
        have e34 := e3.trans e4
        exact ⟨_, _, _, xs, ps, rfl, e.trans e34, e34 _ _ hp, e34 _ _ ha, hap, hrel.mono fun x o r => TupAt.ex r e34, by rw [hstep]; exact hps, by omega⟩
    · obtain ⟨v1, v2, v3, xs, ps, rfl, e, hp, ha, hap, hrel, hps, hlen⟩ := pv
      rw [List.length_map, show (Txt.split z ",").length = (stripped z).length by unfold stripped; rw [List.length_map], List.take_length] at hps
      have hps : (elems z).map rangeO = ps.map some := hps
      have hany : ((elems z).map rangeO).any Option.isNone = false := by
        rw [hps, List.any_map]
        exact List.any_eq_false.mpr fun x hx h => Bool.noConfusion (show false = true from h)
      have hfm : ((elems z).map rangeO).filterMap id = ps := by
        rw [hps, List.filterMap_map]
        exact List.filterMap_some
      have hlen2 : ((elems z).map rangeO).length = xs.length := by rw [hps, List.length_map, hrel.1]
      have ew : wants z = if (decide ((1 : Int) ≤ xs.length) && decide ((xs.length : Int) ≤ 20)) = true then some ps else none := by
        unfold wants
        rw [hlen2, hany, hfm]
        by_cases h : (decide ((1 : Int) ≤ xs.length) && decide ((xs.length : Int) ≤ 20)) = true
        · rw [if_pos h, if_pos ⟨h, rfl⟩]
        · rw [if_neg h, if_neg fun x => h x.1]
      refine q_when (et_or (et_test (ev_op (ev_len (ev_var rfl) (sq_of hp)) ev_c rv_eqI)) fun _ => et_test (ev_op (ev_len (ev_var rfl) (sq_of hp)) ev_c rv_I0)) (fun hb H2 e2 => ?_) (fun hb H2 e2 => ?_)
      · rw [Bool.or_eq_true, decide_eq_true_eq, decide_eq_true_eq] at hb
        rw [if_neg (by rw [Bool.and_eq_true, decide_eq_true_eq, decide_eq_true_eq]; omega)] at ew
        exact s_ret ev_c fun H3 e3 => q0 ew H3 ((e.trans e2).trans e3)
      · rw [Bool.or_eq_false_iff, decide_eq_false_iff_not, decide_eq_false_iff_not] at hb
        rw [if_pos (by rw [Bool.and_eq_true, decide_eq_true_eq, decide_eq_true_eq]; omega)] at ew
        exact s_ret (ev_var rfl) fun H3 e3 => q ps ew p xs H3 np ((e.trans e2).trans e3) ((e2.trans e3) _ _ hp) (hrel.mono fun x o r => TupAt.ex r (e2.trans e3))
theorem ok_law_same_side (T : Mg mg) (c_law_integer : Call P w K mg base 1 "_law_integer" ["actual"] spInt1) (F : FnP K "_law_same_side" s_law_same_side f fd) (gm : mg "_law_same_side" = some (.ref f)) : Call P w K mg base 2 "_law_same_side" ["actual", "expected"] spSide := by
  refine mk F gm (fun _ _ _ _ _ _ us hl => match us, hl with | [_, _], _ => rfl) (fun _ _ _ _ _ _ us hl => match us, hl with | [_, _], _ => rfl) sc_law_same_side (fun vs H Q E h => ?_) (fun cdv A outer s H vs Q E hr h => ?_)
  · obtain ⟨o, rfl, _⟩ := h
    rfl
  · obtain ⟨o, rfl, q⟩ := h
    refine ⟨_, (pss_cons (ps_if (pt_cmpR op_isN1 (pv 1) pe_non (nomark _))
      (pss_one (ps_ret (pe_cmpR op_isN1 (pv 0) pe_non (nomark _))))
      pss_nil)
    (pss_one (ps_ret (pe_and (pe_f c_law_integer hr (by decide) rfl (pa_cons (pv 0) pa_nil)) (pe_one (pe_cmpR op_eq (pv 0) (pv 1) (nomark _))))))), ?_⟩
    cases o with
    | none =>
      refine q_when (b := true) (et_is (et_test (ev_op (ev_var rfl) ev_c rv_isN)) rfl) (fun _ H1 e1 => ?_) (fun h => nomatch h)
      exact s_ret (v := .bl true) (ev_is (ev_op (ev_var rfl) ev_c rv_isN) rfl) fun H2 e2 => q H2 (e1.trans e2)
    | some n =>
      refine q_when (b := false) (et_is (et_test (ev_op (ev_var rfl) ev_c rv_isN)) rfl) (fun h => nomatch h) (fun _ H1 e1 => ?_)
      exact s_ret (v := .bl true) (ev_is (ev_andV (ev_call (ea_cons (ev_var rfl) ea_nil) svI1) fun _ => ev_op (ev_var rfl) (ev_var rfl) rv_eqI) (by rw [decide_eq_true rfl]; rfl)) fun H2 e2 => q H2 (e1.trans e2)
theorem ok_law_same_ranges (T : Mg mg) (c_law_same_side : Call P w K mg base 2 "_law_same_side" ["actual", "expected"] spSide) (F : FnP K "_law_same_ranges" s_law_same_ranges f fd) (gm : mg "_law_same_ranges" = some (.ref f)) : Call P w K mg base 3 "_law_same_ranges" ["actual", "expected"] spSameR := by
  refine mk F gm (fun _ _ _ _ _ _ us hl => match us, hl with | [_, _], _ => rfl) (fun _ _ _ _ _ _ us hl => match us, hl with | [_, _], _ => rfl) sc_law_same_ranges (fun vs H Q E h => ?_) (fun cdv A outer s H vs Q E hr h => ?_)
  · obtain ⟨h | ⟨p, q, xs, ys, ps, rfl, _⟩, _⟩ := h
    · rw [h]
      rfl
    · rfl
  · obtain ⟨h | ⟨p, q', xs, ys, ps, rfl, hx, hy, rx, ry, hl⟩, q⟩ := h
    · subst h
      refine ⟨_, (pss_cons (ps_if (pt_cmpR op_isN1 (pv 1) pe_non (nomark _))
      (pss_one (ps_ret (pe_cmpR op_isN1 (pv 0) pe_non (nomark _))))
      pss_nil)
    (pss_cons (ps_if (PW.pt (pw_or (pt_not (pt_val (pe_callB call_isi (by rfl) T.isinstance (by decide +kernel) (pa_cons (pv 0) (pa_cons (pe_bltn (v := .ty "list") (u := .type "list") (by rfl) T.list (by decide +kernel) rfl) pa_nil))))) (pw_or1 (pt_cmpR op_ne (pe_callB call_len_seq (by rfl) T.len (by decide +kernel) (pa_cons (pv 0) pa_nil)) (pe_callB call_len_seq (by rfl) T.len (by decide +kernel) (pa_cons (pv 1) pa_nil)) (nomark _)))))
      (pss_one (ps_ret pe_bl))
      pss_nil)
    (pss_cons (ps_for PassesOwn.never rfl (pi_range1 rfl T.range (pa_cons (pe_callB call_len_seq (by rfl) T.len (by decide +kernel) (pa_cons (pv 1) pa_nil)) pa_nil)) (pg_name (i := 2) sc_law_same_ranges.nd rfl (Or.inl rfl))
      (pss_cons (ps_set (i := 3) sc_law_same_ranges.nd rfl (Or.inl rfl) (pe_ix ix_list (pv 0) (pv 2) (fun _ _ => rfl)))
      (pss_cons (ps_if (PW.pt (pw_or (pt_not (pt_val (pe_callB call_isi (by rfl) T.isinstance (by decide +kernel) (pa_cons (pv 3) (pa_cons (pe_bltn (v := .ty "tuple") (u := .type "tuple") (by rfl) T.tuple (by decide +kernel) rfl) pa_nil))))) (pw_or1 (pt_cmpR op_ne (pe_callB call_len_seq (by rfl) T.len (by decide +kernel) (pa_cons (pv 3) pa_nil)) pe_int (nomark _)))))
        (pss_one (ps_ret pe_bl))
        pss_nil)
      (pss_one (ps_if (PW.pt (pw_or (pt_not (pt_val (pe_f c_law_same_side hr (by decide) rfl (pa_cons (pe_ix ix_tup (pv 3) pe_int (fun _ _ => rfl)) (pa_cons (pe_ix ix_tup (pe_ix ix_list (pv 1) (pv 2) (fun _ _ => rfl)) pe_int (fun _ _ => rfl)) pa_nil))))) (pw_or1 (pt_not (pt_val (pe_f c_law_same_side hr (by decide) rfl (pa_cons (pe_ix ix_tup (pv 3) pe_int (fun _ _ => rfl)) (pa_cons (pe_ix ix_tup (pe_ix ix_list (pv 1) (pv 2) (fun _ _ => rfl)) pe_int (fun _ _ => rfl)) pa_nil))))))))
        (pss_one (ps_ret pe_bl))
        pss_nil)))))
    (pss_one (ps_ret pe_bl))))), ?_⟩
      refine q_when (b := true) (et_is (et_test (ev_op (ev_var rfl) ev_c rv_isN)) rfl) (fun _ H1 e1 => ?_) (fun h => nomatch h)
      exact s_ret (v := .bl true) (ev_is (ev_op (ev_var rfl) ev_c rv_isN) rfl) fun H2 e2 => q H2 (e1.trans e2)
    · refine ⟨_, (pss_cons (ps_if (pt_cmpR op_isN1 (pv 1) pe_non (nomark _))
      (pss_one (ps_ret (pe_cmpR op_isN1 (pv 0) pe_non (nomark _))))
      pss_nil)
    (pss_cons (ps_if (PW.pt (pw_or (pt_not (pt_val (pe_callB call_isi (by rfl) T.isinstance (by decide +kernel) (pa_cons (pv 0) (pa_cons (pe_bltn (v := .ty "list") (u := .type "list") (by rfl) T.list (by decide +kernel) rfl) pa_nil))))) (pw_or1 (pt_cmpR op_ne (pe_callB call_len_seq (by rfl) T.len (by decide +kernel) (pa_cons (pv 0) pa_nil)) (pe_callB call_len_seq (by rfl) T.len (by decide +kernel) (pa_cons (pv 1) pa_nil)) (nomark _)))))
      (pss_one (ps_ret pe_bl))
      pss_nil)
    (pss_cons (ps_for PassesOwn.never rfl (pi_range1 rfl T.range (pa_cons (pe_callB call_len_seq (by rfl) T.len (by decide +kernel) (pa_cons (pv 1) pa_nil)) pa_nil)) (pg_name (i := 2) sc_law_same_ranges.nd rfl (Or.inl rfl))
      (pss_cons (ps_set (i := 3) sc_law_same_ranges.nd rfl (Or.inl rfl) (pe_ix ix_list (pv 0) (pv 2) (fun _ _ => rfl)))
      (pss_cons (ps_if (PW.pt (pw_or (pt_not (pt_val (pe_callB call_isi (by rfl) T.isinstance (by decide +kernel) (pa_cons (pv 3) (pa_cons (pe_bltn (v := .ty "tuple") (u := .type "tuple") (by rfl) T.tuple (by decide +kernel) rfl) pa_nil))))) (pw_or1 (pt_cmpR op_ne (pe_callB call_len_seq (by rfl) T.len (by decide +kernel) (pa_cons (pv 3) pa_nil)) pe_int (nomark _)))))
        (pss_one (ps_ret pe_bl))
        pss_nil)
      (pss_one (ps_if (PW.pt (pw_or (pt_not (pt_val (pe_f c_law_same_side hr (by decide) rfl (pa_cons (pe_ix ix_tup (pv 3) pe_int (fun _ _ => rfl)) (pa_cons (pe_ix ix_tup (pe_ix ix_list (pv 1) (pv 2) (fun _ _ => rfl)) pe_int (fun _ _ => rfl)) pa_nil))))) (pw_or1 (pt_not (pt_val (pe_f c_law_same_side hr (by decide) rfl (pa_cons (pe_ix ix_tup (pv 3) pe_int (fun _ _ => rfl)) (pa_cons (pe_ix ix_tup (pe_ix ix_list (pv 1) (pv 2) (fun _ _ => rfl)) pe_int (fun _ _ => rfl)) pa_nil))))))))
        (pss_one (ps_ret pe_bl))
        pss_nil)))))
    (pss_one (ps_ret pe_bl))))), ?_⟩
      have elen : xs.length = ys.length := rx.1.trans ry.1.symm
      refine q_when (b := false) (et_is (et_test (ev_op (ev_var rfl) ev_c rv_isN)) rfl) (fun h => nomatch h) (fun _ H0 e0 => ?_)
      refine q_when (b := false) (et_is (et_or (a := false) (et_is (et_not (et_B (ev_isi (b := true) (ev_var rfl) (fun H1 e => .base (.lst (e _ _ (e0 _ _ hx)))) (kit_ty (by decide +kernel))))) rfl) fun _ => et_is (b := false) (et_test (ev_op (ev_len (ev_var rfl) (sq_of (e0 _ _ hx))) (ev_len (ev_var rfl) (sq_of (e0 _ _ hy))) rv_neI)) (by rw [elen, decide_eq_true rfl]; rfl)) rfl) (fun h => nomatch h) (fun _ H1 e1 => ?_)
      refine q_forR1 (n := (ys.length : Int)) (ea_cons (ev_len (ev_var rfl) (sq_of ((e0.trans e1) _ _ hy))) ea_nil) (by omega) (fun i σ' H' => (∃ v1 v2, σ' = [some (.ref p), some (.ref q'), v1, v2]) ∧ Ex H H') (fun H2 e2 => ⟨⟨none, none, rfl⟩, (e0.trans e1).trans e2⟩) (fun i σ' H' hi pv => ?_) (fun σ' H' pv => ?_)
      · obtain ⟨⟨v1, v2, rfl⟩, e2⟩ := pv
        have hi' : i < ys.length := by omega
        have gy := List.getElem?_eq_getElem hi'
        obtain ⟨o, ho, t, ht, hht⟩ := ry.get gy
        obtain ⟨x, gx, t2, rfl, hht2⟩ := rx.at ho
        rw [ht] at gy
        refine q_asg (ev_ixL (ev_var rfl) (ev_var rfl) (e2 _ _ hx) (atI_nat gx)) fun H3 e3 => ?_
        have h2 := e3 _ _ (e2 _ _ hht2)
        refine q_when (b := false) (et_is (et_or (a := false) (et_is (et_not (et_B (ev_isi (b := true) (ev_var rfl) (fun H1 e => .base (.tup (e _ _ h2))) (kit_ty (by decide +kernel))))) rfl) fun _ => et_is (b := false) (et_test (ev_op (ev_lenT (ev_var rfl) (st_of h2)) ev_c rv_neI)) rfl) rfl) (fun h => nomatch h) (fun _ H4 e4 => ?_)
        have h4 := e4 _ _ h2
        have e25 := (e2.trans e3).trans e4
        have y4 := e25 _ _ hy
        have t4 := e25 _ _ hht
        refine s_when (b := false) (et_is (et_or (a := false) (et_is (et_not (et_B (ev_call (ea_cons (ev_ixT (ev_var rfl) ev_c h4 (atI_nat (j := 0) rfl)) (ea_cons (ev_ixT (ev_ixL (ev_var rfl) (ev_var rfl) y4 (atI_nat gy)) ev_c t4 (atI_nat (j := 0) rfl)) ea_nil)) svSide))) rfl) fun _ => et_is (b := false) (et_not (et_B (ev_call (ea_cons (ev_ixT (ev_var rfl) ev_c h4 (atI_nat (j := 1) rfl)) (ea_cons (ev_ixT (ev_ixL (ev_var rfl) (ev_var rfl) y4 (atI_nat gy)) ev_c t4 (atI_nat (j := 1) rfl)) ea_nil)) svSide))) rfl) rfl) (fun h => nomatch h) (fun _ H6 e6 => ⟨⟨_, _, rfl⟩, e25.trans e6⟩)
      · obtain ⟨⟨v1, v2, rfl⟩, e2⟩ := pv
        exact s_ret ev_c fun H3 e3 => q H3 (e2.trans e3)
theorem ok_law_resolved (T : Mg mg) (F : FnP K "_law_resolved" s_law_resolved f fd) (gm : mg "_law_resolved" = some (.ref f)) : Call P w K mg base 1 "_law_resolved" ["found", "total"] (spResolve K) := by
  refine mk F gm (fun _ _ _ _ _ _ us hl => match us, hl with | [_, _], _ => rfl) (fun _ _ _ _ _ _ us hl => match us, hl with | [_, _], _ => rfl) sc_law_resolved (fun vs H Q E h => ?_) (fun cdv A outer s H vs Q E hr h => ?_)
  · obtain ⟨p, xs, ps, n, rfl, _⟩ := h
    rfl
  · obtain ⟨p, xs, ps, n, rfl, hx, hrel, hok, hl, q⟩ := h
    refine ⟨_, (pss_cons (ps_set (i := 2) sc_law_resolved.nd rfl (Or.inl rfl) (pe_lst pa_nil))
    (pss_cons (ps_for PassesOwn.never rfl (pi_list (pv 0)) (pg_name (i := 3) sc_law_resolved.nd rfl (Or.inl rfl))
      (pss_cons (ps_set (i := 4) sc_law_resolved.nd rfl (Or.inl rfl) (pe_ix ix_tup (pv 3) pe_int (fun _ _ => rfl)))
      (pss_cons (ps_set (i := 5) sc_law_resolved.nd rfl (Or.inl rfl) (pv 1))
      (pss_cons (ps_if (pt_cmpR op_isN1 (pv 4) pe_non (nomark _))
        (pss_one (ps_set (i := 4) sc_law_resolved.nd rfl (Or.inl rfl) (pe_callB (call_max2 rfl) (by rfl) T.max (by decide +kernel) (pa_cons pe_int (pa_cons (pe_op op_sub (pv 1) (pe_ix ix_tup (pv 3) pe_int (fun _ _ => rfl))) pa_nil)))))
        (pss_one (ps_if (PW.pt (pw_and (pt_cmpR op_notN1 (pe_ix ix_tup (pv 3) pe_int (fun _ _ => rfl)) pe_non (nomark _)) (pw_and1 (pt_cmpR op_lt (pe_ix ix_tup (pv 3) pe_int (fun _ _ => rfl)) (pv 1) (nomark _)))))
          (pss_one (ps_set (i := 5) sc_law_resolved.nd rfl (Or.inl rfl) (pe_op op_add (pe_ix ix_tup (pv 3) pe_int (fun _ _ => rfl)) pe_int)))
          pss_nil)))
      (pss_one (ps_if (pt_cmpR op_lt (pv 4) (pv 5) (nomark _))
        (pss_one (ps_expr (pe_bm PySem.F.plainAttrs_list PySem.F.slot_list_append PySem.F.type_list_append mt_append (pv 2) (pa_cons (pe_tup (pa_cons (pv 4) (pa_cons (pv 5) pa_nil))) pa_nil))))
        pss_nil))))))
    (pss_one (ps_ret (pv 2))))), ?_⟩
    refine q_asgL (el_lst ea_nil (by decide)) fun l H1 nl e1 h1 => ?_
    refine q_forLn (ev_var rfl) (ex_l e1 hx) (fun i σ' H' => ∃ v1 v2 v3 ys, σ' = [some (.ref p), some (.int n), some (.ref l), v1, v2, v3] ∧ Ex H H' ∧ H' l = some (.lst ys) ∧ Rel (IpAt H') ys (((ps.map fun o => res o n).take i).filter fun x => decide (x.1 < x.2)) ∧ ys.length ≤ i)
      (fun H2 e2 => ⟨none, none, none, [], rfl, e1.trans e2, e2 _ _ h1, Rel.nil, Nat.le_refl _⟩) (fun i σ' H' hi pv => by
        obtain ⟨v1, v2, v3, ys, rfl, e, _⟩ := pv
        exact ex_l e hx) (fun i x σ' H' hi pv => ?_) (fun σ' H' pv => ?_)
    · obtain ⟨v1, v2, v3, ys, rfl, e, hy, hr2, hlen⟩ := pv
      obtain ⟨o, ho, t, rfl, ht⟩ := hrel.get hi
      have hi2 := (List.getElem?_eq_some_iff.mp hi).1
      have hok1 := hok o (List.mem_of_getElem? ho)
      have hm : (ps.map fun o => res o n)[i]? = some (res o n) := by rw [List.getElem?_map, ho]; rfl
      have fin : ∀ (v1 v2 v3 : Option V) (H3 : Hp), Ex H' H3 → ∀ (a b : Int), res o n = (a, b) → v2 = some (.int a) → v3 = some (.int b) →
          tIfS (tTest (tOp (rI0 fun i j => .bl (decide (i < j))) (tVar 4) (tVar 5))) (tDrop (tBM K "list" rAppend (tVar 2) (tCons (tTup (tCons (tVar 4) (tCons (tVar 5) tNil))) tNil))) tNext { nx := fun σ' H' => ∃ v1 v2 v3 ys, σ' = [some (.ref p), some (.int n), some (.ref l), v1, v2, v3] ∧ Ex H H' ∧ H' l = some (.lst ys) ∧ Rel (IpAt H') ys (((ps.map fun o => res o n).take (i + 1)).filter fun x => decide (x.1 < x.2)) ∧ ys.length ≤ i + 1, rt := Q } [some (.ref p), some (.int n), some (.ref l), v1, v2, v3] H3 := by
        intro v1 v2 v3 H3 e3 a b hres h2 h3
        subst h2 h3
        have hstep : ((ps.map fun o => res o n).take (i + 1)).filter (fun x => decide (x.1 < x.2)) = ((ps.map fun o => res o n).take i).filter (fun x => decide (x.1 < x.2)) ++ (if a < b then [(a, b)] else []) := by
          rw [List.take_add_one, hm, hres, List.filter_append]
          by_cases h : a < b
          · rw [if_pos h]
            show _ ++ List.filter _ [(a, b)] = _
            rw [List.filter_cons, if_pos (decide_eq_true h)]
            rfl
          · rw [if_neg h]
            show _ ++ List.filter _ [(a, b)] = _
            rw [List.filter_cons, if_neg (by rw [decide_eq_false h]; decide)]
            rfl
        refine s_when (et_test (ev_op (ev_var rfl) (ev_var rfl) rv_I0)) (fun hb H4 e4 => ?_) (fun hb H4 e4 => ?_)
        · rw [if_pos (of_decide_eq_true hb)] at hstep
          refine s_appU (xs := ys) (e4 _ _ (e3 _ _ hy)) (ev_var rfl) (eu_tup (ea_cons (ev_var rfl) (ea_cons (ev_var rfl) ea_nil)) (by show 2 ≤ 100000; decide)) (by omega) fun u H5 nu e5 h5 => ?_
          have e35 := (e3.trans e4).trans e5
          have kD : ∀ b ob, b ≠ l → H5 b = some ob → (upd H5 l (.lst (ys ++ [.ref u]))) b = some ob := fun b ob hb h => by rw [upd_ne hb]; exact h
          refine ⟨_, _, _, ys ++ [.ref u], rfl, Ex.mut (e.trans e35) nl, upd_same, ?_, by rw [List.length_append]; exact Nat.add_le_add_right hlen 1⟩
          rw [hstep]
          refine Rel.snoc (hr2.mono fun x o r => TupAt.keep (TupAt.ex r e35) kD ⟨_, e35 _ _ hy⟩) ?_
          exact TupAt.keep ⟨u, rfl, h5⟩ kD ⟨_, e35 _ _ hy⟩
        · rw [if_neg (of_decide_eq_false hb), List.append_nil] at hstep
          refine ⟨_, _, _, ys, rfl, (e.trans e3).trans e4, e4 _ _ (e3 _ _ hy), ?_, by omega⟩
          rw [hstep]
          exact hr2.mono fun x o r => TupAt.ex r (e3.trans e4)
      obtain ⟨a, b⟩ := o
      have ht' := e _ _ ht
      refine q_asg (ev_ixT (ev_var rfl) ev_c ht' (atI_nat (j := 0) rfl)) fun H3 e3 => q_asg (ev_var rfl) fun H4 e4 => ?_
      have ht4 := (e3.trans e4) _ _ ht'
      cases a with
      | none =>
        cases b with
        | none => exact absurd ⟨rfl, rfl⟩ hok1
        | some b =>
          refine q_if (b := true) (et_is (et_test (ev_op (ev_var rfl) ev_c rv_isN)) rfl) (fun _ H5 e5 => ?_) (fun h => nomatch h)
          refine s_asg (ev_max2 ev_c (ev_op (ev_var rfl) (ev_ixT (ev_var rfl) ev_c (e5 _ _ ht4) (atI_nat (j := 1) rfl)) rv_I0)) fun H6 e6 => ?_
          exact fin _ _ _ H6 (((e3.trans e4).trans e5).trans e6) _ _ rfl rfl rfl
      | some a =>
        refine q_if (b := false) (et_is (et_test (ev_op (ev_var rfl) ev_c rv_isN)) rfl) (fun h => nomatch h) (fun _ H5 e5 => ?_)
        have ht5 := e5 _ _ ht4
        cases b with
        | none =>
          refine s_when (b := false) (et_is (et_and (a := false) (et_is (et_test (ev_op (ev_ixT (ev_var rfl) ev_c ht5 (atI_nat (j := 1) rfl)) ev_c rv_notN)) rfl) fun h => nomatch h) (Bool.false_and false)) (fun h => nomatch h) (fun _ H6 e6 => ?_)
          exact fin _ _ _ H6 (((e3.trans e4).trans e5).trans e6) _ _ rfl rfl rfl
        | some b =>
          refine s_when (b := decide ((b : Int) < n)) (et_is (et_and (a := true) (et_is (et_test (ev_op (ev_ixT (ev_var rfl) ev_c ht5 (atI_nat (j := 1) rfl)) ev_c rv_notN)) rfl) fun _ => et_test (ev_op (ev_ixT (ev_var rfl) ev_c ht5 (atI_nat (j := 1) rfl)) (ev_var rfl) rv_I0)) (Bool.true_and _)) (fun hb H6 e6 => ?_) (fun hb H6 e6 => ?_)
          · have hb := of_decide_eq_true hb
            refine s_asg (ev_op (ev_ixT (ev_var rfl) ev_c (e6 _ _ ht5) (atI_nat (j := 1) rfl)) ev_c rv_I0) fun H7 e7 => ?_
            refine fin _ _ _ H7 ((((e3.trans e4).trans e5).trans e6).trans e7) _ _ ?_ rfl rfl
            show ((a : Int), if n < (b : Int) + 1 then n else (b : Int) + 1) = _
            rw [if_neg (by omega)]
          · have hb := of_decide_eq_false hb
            refine fin _ _ _ H6 (((e3.trans e4).trans e5).trans e6) _ _ ?_ rfl rfl
            show ((a : Int), if n < (b : Int) + 1 then n else (b : Int) + 1) = _
            rw [if_pos (by omega)]
    · obtain ⟨v1, v2, v3, ys, rfl, e, hy, hr2, hlen⟩ := pv
      rw [hrel.1, show ps.length = (ps.map fun o => res o n).length by rw [List.length_map], List.take_length] at hr2
      exact s_ret (ev_var rfl) fun H3 e3 => q l ys H3 nl (e.trans e3) (e3 _ _ hy) (hr2.mono fun x o r => TupAt.ex r e3)
end
end Z
set_option maxHeartbeats 4000000
namespace Z
open PySem PySem.Spec PyProof.Rows L2 TL Evl
/-! ### short texts -/
def EvS (te : TE) (σ : L2.St) (H : Hp) (n : Nat) : Prop := ∃ t : Str, t.length ≤ n ∧ Ev te σ H (.str t)
def EvAS (ta : TA) (σ : L2.St) (H : Hp) (n k : Nat) : Prop := ∃ ts : List Str, ts.length = k ∧ (∀ t ∈ ts, t.length ≤ n) ∧ EvA ta σ H (ts.map V.str)
section
variable {K : PySem.W.Frag} {σ : L2.St} {H H' : Hp} {ta tb te to ts : TE} {a b s : Str} {p : Addr} {xs : List V} {n m k : Nat} {tr : TA}  {ta' : TA} {i : Nat} {sp : Sp} {E : XK} {Q : VK} {x v : V} {D : Ends} {t tz tu : TS} {tt : TT} {dvs : List V}
theorem es_c : EvS (tC (.str a)) σ H a.length := ⟨a, Nat.le_refl _, ev_c⟩
theorem es_var (h : σ[i]? = some (some (.str a))) (hn : a.length ≤ n) : EvS (tVar i) σ H n := ⟨a, hn, ev_var h⟩
theorem es_add (h : EvS ta σ H n) (h2 : EvS tb σ H m) (hs : n + m ≤ 200000 := by decide +kernel) : EvS (tOp rAddS2 ta tb) σ H (n + m) := by
  obtain ⟨x, hx, ex⟩ := h
  obtain ⟨y, hy, ey⟩ := h2
  exact ⟨x ++ y, by rw [Str.length_append]; omega, ev_op ex ey (rv_addS (by omega))⟩
theorem eas_nil : EvAS tNil σ H n 0 := ⟨[], rfl, (fun _ h => by cases h), ea_nil⟩
theorem eas_cons (h : EvS te σ H m) (hm : m ≤ n) (hr : EvAS tr σ H n k) : EvAS (tCons te tr) σ H n (k + 1) := by
  obtain ⟨x, hx, ex⟩ := h
  obtain ⟨ts, h1, h2, h3⟩ := hr
  refine ⟨x :: ts, by rw [List.length_cons, h1], fun t ht => ?_, ea_cons ex h3⟩
  rcases List.mem_cons.mp ht with rfl | ht
  · exact Nat.le_trans hx hm
  · exact h2 t ht
theorem es_mono (h : EvS te σ H n) (hm : n ≤ m) : EvS te σ H m := by
  obtain ⟨x, hx, ex⟩ := h
  exact ⟨x, Nat.le_trans hx hm, ex⟩
theorem es_ex (h : EvS te σ H n) (e : Ex H H') : EvS te σ H' n := by
  obtain ⟨x, hx, ex⟩ := h
  exact ⟨x, hx, ex.mono e⟩
theorem es_strI {i : Int} (h : Ev te σ H (.int i)) (h0 : 0 ≤ i) (h1 : i < 10 ^ 7) : EvS (tCB rStrI (tCons te tNil)) σ H 7 :=
  ⟨_, strI_len h0 h1, ev_strI h (Nat.lt_of_lt_of_le (show i.natAbs < 2 ^ 24 by omega) (Nat.pow_le_pow_right (by decide) (by decide)))⟩
/-! ### readings, one after another -/
theorem rd_cons (h : Ev te σ H x) {Q : List V → Hp → Prop} (k : ∀ H1, Ex H H1 → tr σ H1 fun xs H2 => Q (x :: xs) H2) : tCons te tr σ H Q := h H (Ex.refl H) _ k
theorem rd_args (h : ta' σ H fun vs H1 => sp (vs ++ dvs) H1 Q E) : tCall sp dvs E ta' σ H Q := h
theorem rd_ev (h : Ev te σ H x) (k : ∀ H1, Ex H H1 → Q x H1) : te σ H Q := h H (Ex.refl H) _ k
theorem rd_evL (h : EvL te σ H xs) (k : ∀ p H1, H p = none → Ex H H1 → H1 p = some (.lst xs) → Q (.ref p) H1) : te σ H Q := h H (Ex.refl H) _ k
theorem rd_callN {vs : List V} {tk : TA} (h : EvA tk σ H vs) (hl : vs.length = n) (k : ∀ H1, Ex H H1 → sp vs H1 Q E) : tCallN 0 n sp (fun _ zs => zs) E tNil tk σ H Q := h H (Ex.refl H) _ fun H1 e => ⟨rfl, hl, k H1 e⟩
theorem q_tail (R : L2.St → Hp → Prop) (k : ∀ σ1 H1, R σ1 H1 → tz D σ1 H1) (h : (∀ σ1 H1, R σ1 H1 → tz D σ1 H1) → tSeq t tz D σ H) : tSeq t tz D σ H := h k
theorem g_name {R : L2.St → Hp → Prop} (h : R (σ.set i (some v)) H) : gName i v σ H R := h
theorem q_tailIf {tw : TS} (R : L2.St → Hp → Prop) (k : ∀ σ1 H1, R σ1 H1 → tz D σ1 H1) (h : (∀ σ1 H1, R σ1 H1 → tz D σ1 H1) → tSeq (tIfS tt tu tw) tz D σ H) : tSeq (tIfS tt tu tw) tz D σ H := h k
theorem el_listN (h : EvL te σ H xs) : EvL (tCB (rListS K) (tCons te tNil)) σ H xs := fun H1 e Q q =>
  h H1 e _ fun p H2 np e2 h2 => ⟨p, xs, rfl, .inl (sq_of h2), fun l hl => q l _ (fresh_back e2 hl) (e2.trans (Ex.new hl)) upd_same⟩
end
section
variable {K : PySem.W.Frag} {σ : L2.St} {H : Hp} {tb : TE} {ta : TA} {n k : Nat} {D : Ends} {i : Int}
/-- one of a list of short texts -/
theorem ev_pick (hev : EvAS ta σ H n k) (hk : k ≤ 1000) (hi : Ev tb σ H (.int i)) (h0 : 0 ≤ i) (h1 : i < (k : Int)) : EvS (tOp (rIxL K) (tLst ta) tb) σ H n := by
  obtain ⟨ts, hk2, hts, hev⟩ := hev
  obtain ⟨t, ht, htm⟩ := at_int (xs := ts.map V.str) (d := i) h0 (by rw [List.length_map, hk2]; exact h1)
  obtain ⟨x, hx, e⟩ := List.mem_map.mp htm
  subst e
  exact ⟨x, hts x hx, ev_opL1 (el_lst hev (by rw [List.length_map, hk2]; omega)) (fun H1 e => hi.mono e) (fun p H1 hp e => rv_ixL (sq_of hp) ht)⟩
theorem s_retS {te : TE} (h : EvS te σ H n) (q : ∀ x : Str, x.length ≤ n → ∀ H1, Ex H H1 → D.rt (.str x) H1) : tRet te D σ H := by
  obtain ⟨x, hx, ex⟩ := h
  exact s_ret ex (q x hx)
end
section
variable {K : PySem.W.Frag} {σ : L2.St} {H : Hp} {te : TE} {tr : TA} {D : Ends} {xs vs : List V}
/-- a list whose first thing is a new list -/
theorem s_retLL (h : EvL te σ H xs) (hr : ∀ H1, Ex H H1 → EvA tr σ H1 vs) (hz : vs.length + 1 ≤ 1000)
    (q : ∀ p l H1, H p = none → Ex H H1 → H1 l = some (.lst xs) → l ≠ p → H1 p = some (.lst (.ref l :: vs)) → D.rt (.ref p) H1) : tRet (tLst (tCons te tr)) D σ H :=
  h H (Ex.refl H) _ fun l H1 nl e1 h1 => (hr H1 e1) H1 (Ex.refl H1) _ fun H2 e2 => ⟨Nat.le_trans (show vs.length + 1 ≤ 1000 from hz) (by decide), fun p np =>
    q p l _ (fresh_back (e1.trans e2) np) ((e1.trans e2).trans (Ex.new np)) (by rw [upd_ne (ne_of_none (e2 _ _ h1) np)]; exact e2 _ _ h1) (ne_of_none (e2 _ _ h1) np) upd_same⟩
end
/-! ### a source of draws: a list whose first thing is the list l0 of cells -/
def SrcAt (H : Hp) (p l0 : Addr) (n : Nat) : Prop := ∃ (cs : List Int) (c1 c2 c3 sd : Int), H p = some (.lst [.ref l0, .int c1, .int c2, .int c3, .int sd]) ∧ H l0 = some (.lst (cs.map V.int)) ∧ l0 ≠ p ∧ cs.length ≤ 63 ∧ (∀ z ∈ cs, z.natAbs < 2 ^ cap) ∧ 0 ≤ c1 ∧ 0 ≤ c3 ∧ c3 ≤ (n : Int) ∧ 0 ≤ sd ∧ sd < 2147483629
section
variable {H H' : Hp} {p l0 l : Addr} {n m : Nat} {o : HO}
theorem SrcAt.ex (b : SrcAt H p l0 n) (e : Ex H H') : SrcAt H' p l0 n := by
  obtain ⟨cs, c1, c2, c3, sd, h, h2, r⟩ := b
  exact ⟨cs, c1, c2, c3, sd, e _ _ h, e _ _ h2, r⟩
theorem SrcAt.mono (b : SrcAt H p l0 n) (h : n ≤ m) : SrcAt H p l0 m := by
  obtain ⟨cs, c1, c2, c3, sd, h1, h2, h3, h4, h5, h6, h7, h8, r⟩ := b
  exact ⟨cs, c1, c2, c3, sd, h1, h2, h3, h4, h5, h6, h7, by omega, r⟩
theorem SrcAt.has (b : SrcAt H p l0 n) : ∃ xs, H p = some (.lst xs) := by
  obtain ⟨cs, c1, c2, c3, sd, h, r⟩ := b
  exact ⟨_, h⟩
theorem SrcAt.has0 (b : SrcAt H p l0 n) : ∃ xs, H l0 = some (.lst xs) := by
  obtain ⟨cs, c1, c2, c3, sd, h, h2, r⟩ := b
  exact ⟨_, h2⟩
theorem SrcAt.ne (b : SrcAt H p l0 n) (h : H l = none) : l ≠ p ∧ l ≠ l0 := by
  obtain ⟨xs, g⟩ := b.has
  obtain ⟨ys, g2⟩ := b.has0
  exact ⟨(fun e => by rw [e, g] at h; cases h), (fun e => by rw [e, g2] at h; cases h)⟩
theorem SrcAt.upd (b : SrcAt H p l0 n) (h : l ≠ p ∧ l ≠ l0) : SrcAt (upd H l o) p l0 n := by
  obtain ⟨cs, c1, c2, c3, sd, h1, h2, r⟩ := b
  exact ⟨cs, c1, c2, c3, sd, by rw [upd_ne (Ne.symm h.1)]; exact h1, by rw [upd_ne (Ne.symm h.2)]; exact h2, r⟩
theorem Keep.non (a : Keep p H H') {xs : List V} (b : H' p = some (.lst xs)) (h : H' l = none) : H l = none := by
  cases q : H l with
  | none => rfl
  | some o =>
    by_cases e : l = p
    · rw [e, b] at h
      cases h
    · rw [a l o e q] at h
      cases h
theorem Keep.freeS (a : Keep p H H') (b : SrcAt H' p l0 n) (h : H' l = none) : H l = none := by
  obtain ⟨xs, g⟩ := b.has
  exact a.non g h
/-- an object that was not there ahead may change -/
theorem Keep.mut (a : Keep p H H') (h : H l = none) : Keep p H (L2.upd H' l o) := fun b u hb hu => by
  rw [upd_ne (ne_of_none hu h)]
  exact a b u hb hu
theorem Keep.at (a : Keep p H H') (h : H l = some o) (hl : l ≠ p) : H' l = some o := a l o hl h
end
def spSource (K : PySem.W.Frag) : Sp := fun vs H Q _ => ∃ (a : Addr) (ns : List Int), vs = [.ref a] ∧ SqL K H a (ns.map V.int) ∧ ns.length ≤ 63 ∧ (∀ z ∈ ns, z.natAbs < 2 ^ cap) ∧ ∀ (p l0 : Addr) (H' : Hp), H p = none → Ex H H' → SrcAt H' p l0 0 → Q (.ref p) H'
def spMixed : Sp := fun vs H Q _ => ∃ c s lim : Int, vs = [.int c, .int s, .int lim] ∧ c.natAbs < 2 ^ cap ∧ 0 ≤ s ∧ s ≤ 1000000000 ∧ 1 ≤ lim ∧ lim ≤ 1000000 ∧ ∀ d : Int, 0 ≤ d → d < lim → RetV (.int d) H Q
def spSrc : Sp := fun vs H Q _ => ∃ (p l0 : Addr) (lim : Int) (n : Nat), vs = [.ref p, .int lim] ∧ SrcAt H p l0 n ∧ n ≤ 100000000 ∧ 1 ≤ lim ∧ lim ≤ 1000000 ∧ ∀ (d : Int) (H' : Hp), 0 ≤ d → d < lim → SrcAt H' p l0 (n + 1) → Keep p H H' → Q (.int d) H'
theorem cutV_all {xs : List V} (h : xs.length ≤ 63) : cutV xs none (some 63) = xs := by
  unfold cutV
  rw [HT.sIx_none, show HT.sIx xs.length xs.length (some 63) = min 63 xs.length from HT.sIx_nat _ _ 63, List.drop_zero, Nat.sub_zero, Nat.min_eq_right h]
  exact List.take_of_length_le (Nat.le_refl _)
theorem sq_le {x b : Int} (h0 : 0 ≤ x) (h : x ≤ b) : x * x ≤ b * b := Int.mul_le_mul h h h0 (by omega)
end Z
set_option maxHeartbeats 4000000
namespace Z
open PySem PySem.Spec PyProof.Rows L2 TL Evl
def spOdd : Sp := fun vs H Q _ => ∃ (a b : Str) (i : Int), vs = [.str a, .str b, .int i] ∧ a.length ≤ 7 ∧ b.length ≤ 7 ∧ 0 ≤ i ∧ i < 24 ∧ ∀ t : Str, t.length ≤ 40 → RetV (.str t) H Q
def spElem : Sp := fun vs H Q _ => ∃ (p l0 : Addr) (n : Nat) (most : Int) (odd : Bool), vs = [.ref p, .int most, .bl odd] ∧ SrcAt H p l0 n ∧ n ≤ 10000000 ∧ 1 ≤ most ∧ most ≤ 1000000 ∧ ∀ (t : Str) (H' : Hp), t.length ≤ 40 → SrcAt H' p l0 (n + 10) → Keep p H H' → Q (.str t) H'
def spWish : Sp := fun vs H Q _ => ∃ (p l0 : Addr) (n : Nat) (most : Int), vs = [.ref p, .int most] ∧ SrcAt H p l0 n ∧ n ≤ 10000 ∧ 1 ≤ most ∧ most ≤ 1000000 ∧ ∀ (t : Str) (H' : Hp), t.length ≤ 200 → SrcAt H' p l0 (n + 1000) → Keep p H H' → Q (.str t) H'
def spBent : Sp := fun vs H Q _ => ∃ (p l0 : Addr) (n : Nat) (z : Str), vs = [.ref p, .str z] ∧ SrcAt H p l0 n ∧ n ≤ 10000 ∧ z.length ≤ 200 ∧ ∀ (t : Str) (H' : Hp), t.length ≤ 1000 → SrcAt H' p l0 (n + 3) → Keep p H H' → Q (.str t) H'
section
variable {P : Program} {w : World} {K : PySem.W.Frag} {mg : Str → Option Value} {base : Heap} {f : Addr} {fd : FuncData} {k : Nat}
abbrev CSrc (P : Program) (w : World) (K : PySem.W.Frag) (mg : Str → Option Value) (base : Heap) : Prop := Call P w K mg base 2 "_law_draw" ["source", "limit"] spSrc
theorem ok_law_source (T : Mg mg) (F : FnP K "_law_source" s_law_source f fd) (gm : mg "_law_source" = some (.ref f)) : Call P w K mg base 1 "_law_source" ["script"] (spSource K) := by
  refine mk F gm (fun _ _ _ _ _ _ us hl => match us, hl with | [_], _ => rfl) (fun _ _ _ _ _ _ us hl => match us, hl with | [_], _ => rfl) sc_law_source (fun vs H Q E h => ?_) (fun cdv A outer s H vs Q E hr h => ?_)
  · obtain ⟨a, ns, rfl, _⟩ := h
    rfl
  · obtain ⟨a, ns, rfl, hS, hl, hbits, q⟩ := h
    refine ⟨_, (pss_cons (ps_set (i := 1) sc_law_source.nd rfl (Or.inl rfl) pe_int)
    (pss_cons (ps_for PassesOwn.never rfl (pi_list (pe_slice sl_list (pv 0) po_none (po_some pe_int))) (pg_name (i := 2) sc_law_source.nd rfl (Or.inl rfl))
      (pss_one (ps_set (i := 1) sc_law_source.nd rfl (Or.inl rfl) (pe_op op_mod (pe_callTy cz_int1 (by rfl) T.int (by decide +kernel) (pa_cons (pe_op op_add (pe_op op_mul (pv 1) pe_int) (pv 2)) pa_nil)) pe_int))))
    (pss_one (ps_ret (pe_lst (pa_cons (pe_callTy call_list_of (by rfl) T.list (by decide +kernel) (pa_cons (pe_slice sl_list (pv 0) po_none (po_some pe_int)) pa_nil)) (pa_cons pe_int (pa_cons pe_int (pa_cons pe_int (pa_cons (pv 1) pa_nil)))))))))), ?_⟩
    have hl' : (ns.map V.int).length ≤ 63 := by rw [List.length_map]; exact hl
    refine q_asg ev_c fun H1 e1 => ?_
    refine q_forNLn (xs := ns.map V.int) (by
        have g := el_sl (K := K) (te := tVar 0) (tl := tNoPart) (th := tPart (tC (.int 63))) (σ := [some (.ref a), some (.int 0), none]) (H := H1) (lo := none) (hi := some 63) (ev_var rfl) eo_none (eo_some ev_c) (ex_l e1 hS)
        rw [cutV_all hl'] at g
        exact g) (fun c i σ' H' => (∃ sd : Int, ∃ v, σ' = [some (.ref a), some (.int sd), v] ∧ 0 ≤ sd ∧ sd < 2147483629) ∧ Ex H H' ∧ H' c = some (.lst (ns.map V.int)))
      (fun c H2 nc e2 h2 => ⟨⟨0, none, rfl, by decide, by decide⟩, e1.trans e2, h2⟩) (fun c i σ' H' hi pv => sq_of pv.2.2) (fun c i x σ' H' hi pv => ?_) (fun c σ' H' pv => ?_)
    · obtain ⟨⟨sd, v, rfl, h0, h1⟩, e, hc⟩ := pv
      obtain ⟨z, rfl, hz⟩ := ints_in (List.mem_of_getElem? hi)
      refine s_asg (ev_op (ev_int1 (ev_op (ev_op (ev_var rfl) ev_c (rv_I (.inl ⟨by omega, by omega⟩))) (ev_var rfl) rv_I0)) ev_c (rv_I (by show (0 : Int) < 2147483629; decide))) fun H3 e3 => ⟨⟨_, _, rfl, Int.emod_nonneg _ (by decide), Int.emod_lt_of_pos _ (by decide)⟩, e.trans e3, e3 _ _ hc⟩
    · obtain ⟨⟨sd, v, rfl, h0, h1⟩, e, hc⟩ := pv
      refine s_retLL (xs := ns.map V.int) (vs := [.int 0, .int 0, .int 0, .int sd]) (el_listN (by
        have g := el_sl (K := K) (te := tVar 0) (tl := tNoPart) (th := tPart (tC (.int 63))) (σ := [some (.ref a), some (.int sd), v]) (H := H') (lo := none) (hi := some 63) (ev_var rfl) eo_none (eo_some ev_c) (ex_l e hS)
        rw [cutV_all hl'] at g
        exact g)) (fun H1 e1 => ea_cons ev_c (ea_cons ev_c (ea_cons ev_c (ea_cons (ev_var rfl) ea_nil)))) (by show 5 ≤ 1000; decide) fun p l0 H3 np e3 h3 hne hp => q p l0 _ (fresh_back e np) (e.trans e3) ?_
      exact ⟨ns, 0, 0, 0, sd, hp, h3, hne, hl, hbits, by decide, by decide, by decide, h0, h1⟩
theorem ok_law_mixed (T : Mg mg) (F : FnP K "_law_mixed" s_law_mixed f fd) (gm : mg "_law_mixed" = some (.ref f)) : Call P w K mg base 1 "_law_mixed" ["cell", "step", "limit"] spMixed := by
  refine mk F gm (fun _ _ _ _ _ _ us hl => match us, hl with | [_, _, _], _ => rfl) (fun _ _ _ _ _ _ us hl => match us, hl with | [_, _, _], _ => rfl) sc_law_mixed (fun vs H Q E h => ?_) (fun cdv A outer s H vs Q E hr h => ?_)
  · obtain ⟨c, s, lim, rfl, _⟩ := h
    rfl
  · obtain ⟨c, s, lim, rfl, hc, h0, h1, h2, h3, q⟩ := h
    refine ⟨_, (pss_cons (ps_set (i := 3) sc_law_mixed.nd rfl (Or.inl rfl) (pe_op op_mod (pe_callTy cz_int1 (by rfl) T.int (by decide +kernel) (pa_cons (pe_op op_add (pe_op op_mulX (pv 0) pe_int) (pe_op op_mul (pv 1) pe_int)) pa_nil)) pe_int))
    (pss_cons (ps_set (i := 4) sc_law_mixed.nd rfl (Or.inl rfl) (pe_op op_mod (pe_callTy cz_int1 (by rfl) T.int (by decide +kernel) (pa_cons (pe_op op_add (pe_op op_mul (pe_op op_mul (pv 3) (pv 3)) (pv 3)) (pv 3)) pa_nil)) pe_int))
    (pss_one (ps_ret (pe_op op_mod (pe_callTy cz_int1 (by rfl) T.int (by decide +kernel) (pa_cons (pe_op op_fdiv (pv 4) pe_int) pa_nil)) (pv 2)))))), ?_⟩
    refine q_asg (ev_op (ev_int1 (ev_op (ev_op (ev_var rfl) ev_c (rv_I (mulx_ok (a := cap) (b := 64) hc (by decide) (by unfold cap; decide)))) (ev_op (ev_var rfl) ev_c (rv_I (.inl ⟨by omega, by omega⟩))) rv_I0)) ev_c (rv_I (by show (0 : Int) < 2147483647; decide))) fun H1 e1 => ?_
    have b1 : 0 ≤ (c * 48271 + s * 11) % 2147483647 ∧ (c * 48271 + s * 11) % 2147483647 < 2147483647 := ⟨Int.emod_nonneg _ (by decide), Int.emod_lt_of_pos _ (by decide)⟩
    generalize (c * 48271 + s * 11) % 2147483647 = one at b1 ⊢
    refine q_asg (ev_op (ev_int1 (ev_op (ev_op (ev_op (ev_var rfl) (ev_var rfl) (rv_I (.inl ⟨by omega, by omega⟩))) (ev_var rfl) (rv_I (.inr ⟨by omega, by omega⟩))) (ev_var rfl) rv_I0)) ev_c (rv_I (by show (0 : Int) < 2147483579; decide))) fun H2 e2 => ?_
    refine s_ret (ev_op (ev_int1 (ev_op (ev_var rfl) ev_c (rv_I ⟨by decide, by decide⟩))) (ev_var rfl) (rv_I (by show 0 < lim; omega))) fun H3 e3 => q _ (Int.emod_nonneg _ (by omega)) (Int.emod_lt_of_pos _ (by omega)) H3 ((e1.trans e2).trans e3)
theorem ok_law_draw3 (T : Mg mg) (c_law_mixed : Call P w K mg base 1 "_law_mixed" ["cell", "step", "limit"] spMixed) (F : FnP K "_law_draw" s_law_draw f fd) (gm : mg "_law_draw" = some (.ref f)) : CSrc P w K mg base := by
  refine mk F gm (fun _ _ _ _ _ _ us hl => match us, hl with | [_, _], _ => rfl) (fun _ _ _ _ _ _ us hl => match us, hl with | [_, _], _ => rfl) sc_law_draw (fun vs H Q E h => ?_) (fun cdv A outer s H vs Q E hr h => ?_)
  · obtain ⟨p, l0, lim, n, rfl, _⟩ := h
    rfl
  · obtain ⟨p, l0, lim, n, rfl, ⟨cs, c1, c2, c3, sd, hp, hl0, hne, hlen, hcs, h1, h3, hn, hs0, hs1⟩, hn2, hs1', hs2, q⟩ := h
    refine ⟨_, (pss_cons (ps_asg (pe_op op_add (pe_ix ix_list (pv 0) pe_int (fun _ _ => rfl)) pe_int) (pg_sub (pv 0) pe_int set_list))
    (pss_cons (ps_if (PW.pt (pw_and (pt_cmpR op_lt (pe_ix ix_list (pv 0) pe_int (fun _ _ => rfl)) pe_int (nomark _)) (pw_and1 (pt_cmpR op_lt (pe_ix ix_list (pv 0) pe_int (fun _ _ => rfl)) (pe_callB call_len_seq (by rfl) T.len (by decide +kernel) (pa_cons (pe_ix ix_list (pv 0) pe_int (fun _ _ => rfl)) pa_nil)) (nomark _)))))
      (pss_cons (ps_set (i := 2) sc_law_draw.nd rfl (Or.inl rfl) (pe_ix ix_list (pe_ix ix_list (pv 0) pe_int (fun _ _ => rfl)) (pe_ix ix_list (pv 0) pe_int (fun _ _ => rfl)) (fun _ _ => rfl)))
      (pss_cons (ps_asg (pe_op op_add (pe_ix ix_list (pv 0) pe_int (fun _ _ => rfl)) pe_int) (pg_sub (pv 0) pe_int set_list))
      (pss_cons (ps_if (pt_cmpR op_lt (pv 2) (pe_op op_pow pe_int pe_int) (nomark _))
        (pss_one (ps_ret (pe_f c_law_mixed hr (by decide) rfl (pa_cons (pv 2) (pa_cons (pe_ix ix_list (pv 0) pe_int (fun _ _ => rfl)) (pa_cons (pv 1) pa_nil))))))
        pss_nil)
      (pss_one (ps_asg (pv 2) (pg_sub (pv 0) pe_int set_list))))))
      pss_nil)
    (pss_cons (ps_if (pt_cmpR op_gt (pe_ix ix_list (pv 0) pe_int (fun _ _ => rfl)) pe_int (nomark _))
      (pss_cons (ps_set (i := 3) sc_law_draw.nd rfl (Or.inl rfl) (pe_op op_mod (pe_callTy cz_int1 (by rfl) T.int (by decide +kernel) (pa_cons (pe_ix ix_list (pv 0) pe_int (fun _ _ => rfl)) pa_nil)) (pv 1)))
      (pss_cons (ps_asg (pe_op op_fdivW (pe_ix ix_list (pv 0) pe_int (fun _ _ => rfl)) (pv 1)) (pg_sub (pv 0) pe_int set_list))
      (pss_one (ps_ret (pv 3)))))
      pss_nil)
    (pss_one (ps_ret (pe_f c_law_mixed hr (by decide) rfl (pa_cons (pe_ix ix_list (pv 0) pe_int (fun _ _ => rfl)) (pa_cons (pe_ix ix_list (pv 0) pe_int (fun _ _ => rfl)) (pa_cons (pv 1) pa_nil))))))))), ?_⟩
    refine q_setL (j := 3) hp (ev_op (ev_op (ev_var rfl) ev_c (rv_ixL (sq_of hp) (atI_nat (j := 3) rfl))) ev_c rv_I0) (ev_var rfl) ev_c (by show 3 < 5; decide) fun H1 e1 => ?_
    have hp1 : (upd H1 p (.lst ([V.ref l0, .int c1, .int c2, .int c3, .int sd].set 3 (.int (c3 + 1))))) p = some (.lst [.ref l0, .int c1, .int c2, .int (c3 + 1), .int sd]) := upd_same
    have k1 : Keep p H (upd H1 p (.lst ([V.ref l0, .int c1, .int c2, .int c3, .int sd].set 3 (.int (c3 + 1))))) := (Keep.of e1).upd
    have hl1 := k1 _ _ hne hl0
    generalize upd H1 p (.lst ([V.ref l0, .int c1, .int c2, .int c3, .int sd].set 3 (.int (c3 + 1)))) = H2 at hp1 k1 hl1 ⊢
    refine q_tail (fun σ1 Hx => ∃ d1 d2 : Int, ∃ v2, σ1 = [some (.ref p), some (.int lim), v2, none] ∧ Hx p = some (.lst [.ref l0, .int d1, .int d2, .int (c3 + 1), .int sd]) ∧ Hx l0 = some (.lst (cs.map V.int)) ∧ 0 ≤ d1 ∧ Keep p H Hx) (fun σ1 Hx hR => ?_) (fun tail => ?_)
    · obtain ⟨d1, d2, v2, rfl, hx, hlx, hd1, kx⟩ := hR
      refine q_when (et_test (ev_op (ev_op (ev_var rfl) ev_c (rv_ixL (sq_of hx) (atI_nat (j := 2) rfl))) ev_c rv_I0)) (fun hb H4 e4 => ?_) (fun hb H4 e4 => ?_)
      · refine q_asg (ev_op (ev_int1 (ev_op (ev_var rfl) ev_c (rv_ixL (sq_of (e4 _ _ hx)) (atI_nat (j := 2) rfl)))) (ev_var rfl) (rv_I (by show 0 < lim; omega))) fun H5 e5 => ?_
        refine q_setL (j := 2) (e5 _ _ (e4 _ _ hx)) (ev_op (ev_op (ev_var rfl) ev_c (rv_ixL (sq_of (e5 _ _ (e4 _ _ hx))) (atI_nat (j := 2) rfl))) (ev_var rfl) (rv_I (wide_div (b := 64) (by omega) (by omega) (by decide) (by decide)))) (ev_var rfl) ev_c (by show 2 < 5; decide) fun H6 e6 => ?_
        refine s_ret (ev_var rfl) fun H7 e7 => q _ H7 (Int.emod_nonneg _ (by omega)) (Int.emod_lt_of_pos _ (by omega)) ⟨cs, d1, _, c3 + 1, sd, e7 _ _ upd_same, e7 _ _ ?_, hne, hlen, hcs, hd1, by omega, by omega, hs0, hs1⟩ ?_
        · rw [upd_ne hne]
          exact (e4.trans (e5.trans e6)) _ _ hlx
        · exact ((kx.trans (Keep.of (e4.trans (e5.trans e6)))).upd).trans (Keep.of e7)
      · have hx4 := e4 _ _ hx
        refine rd_call (ea_cons (ev_op (ev_var rfl) ev_c (rv_ixL (sq_of hx4) (atI_nat (j := 4) rfl))) (ea_cons (ev_op (ev_var rfl) ev_c (rv_ixL (sq_of hx4) (atI_nat (j := 3) rfl))) (ea_cons (ev_var rfl) ea_nil))) fun H5 e5 => ⟨sd, c3 + 1, lim, rfl, ?_, by omega, by omega, by omega, by omega, fun d hd0 hd1' H6 e6 => q d H6 hd0 hd1' ⟨cs, d1, d2, c3 + 1, sd, ?_, ?_, hne, hlen, hcs, hd1, by omega, by omega, hs0, hs1⟩ ?_⟩
        · exact Nat.lt_of_lt_of_le (show sd.natAbs < 2 ^ 31 by omega) (Nat.pow_le_pow_right (by decide) (by unfold cap; decide))
        · exact (e5.trans e6) _ _ hx4
        · exact (e4.trans (e5.trans e6)) _ _ hlx
        · exact kx.trans (Keep.of (e4.trans (e5.trans e6)))
    · have hlenE : ∀ Hx, Ex H2 Hx → Ev (tCB (rLenS K) (tCons (tOp (rIxL K) (tVar 0) (tC (.int 0))) tNil)) [some (.ref p), some (.int lim), none, none] Hx (.int ((cs.map V.int).length : Int)) := fun Hx ex => ev_len (ev_op (ev_var rfl) ev_c (rv_ixL (sq_of (ex _ _ hp1)) (atI_nat (j := 0) rfl))) (sq_of (ex _ _ hl1))
      by_cases hb : c2 < 2 ∧ c1 < (cs.length : Int)
      · refine q_when (b := true) (et_is (et_and (et_test (ev_op (ev_op (ev_var rfl) ev_c (rv_ixL (sq_of hp1) (atI_nat (j := 2) rfl))) ev_c rv_I0)) fun _ => et_test (ev_op (ev_op (ev_var rfl) ev_c (rv_ixL (sq_of hp1) (atI_nat (j := 1) rfl))) (hlenE H2 (Ex.refl H2)) rv_I0)) (by rw [List.length_map, decide_eq_true hb.1, decide_eq_true hb.2]; rfl)) (fun _ H3 e3 => ?_) (fun h => nomatch h)
        obtain ⟨cell, hce, hcm⟩ := at_int (xs := cs) h1 hb.2
        obtain ⟨j, rfl⟩ := Int.eq_ofNat_of_zero_le h1
        have hcell : atI (cs.map V.int) (j : Int) = some (.int cell) := by
          have hj : j < cs.length := by omega
          have e0 : cs[j]? = some cell := by
            have := atI_nat (List.getElem?_eq_getElem hj)
            rw [this] at hce
            rw [List.getElem?_eq_getElem hj]
            exact hce
          exact atI_nat (by rw [List.getElem?_map, e0]; rfl)
        have hb1 := hcs cell hcm
        have hp3 := e3 _ _ hp1
        have hl3 := e3 _ _ hl1
        refine q_asg (ev_op (ev_op (ev_var rfl) ev_c (rv_ixL (sq_of hp3) (atI_nat (j := 0) rfl))) (ev_op (ev_var rfl) ev_c (rv_ixL (sq_of hp3) (atI_nat (j := 1) rfl))) (rv_ixL (sq_of hl3) hcell)) fun H4 e4 => ?_
        refine q_setL (j := 1) (e4 _ _ hp3) (ev_op (ev_op (ev_var rfl) ev_c (rv_ixL (sq_of (e4 _ _ hp3)) (atI_nat (j := 1) rfl))) ev_c rv_I0) (ev_var rfl) ev_c (by show 1 < 5; decide) fun H5 e5 => ?_
        have e25 := (e3.trans e4).trans e5
        have hp6 : (upd H5 p (.lst ([V.ref l0, .int (j : Int), .int c2, .int (c3 + 1), .int sd].set 1 (.int ((j : Int) + 1))))) p = some (.lst [.ref l0, .int ((j : Int) + 1), .int c2, .int (c3 + 1), .int sd]) := upd_same
        have k6 : Keep p H (upd H5 p (.lst ([V.ref l0, .int (j : Int), .int c2, .int (c3 + 1), .int sd].set 1 (.int ((j : Int) + 1))))) := (k1.trans (Keep.of e25)).upd
        have hl6 := k6 _ _ hne hl0
        generalize upd H5 p (.lst ([V.ref l0, .int (j : Int), .int c2, .int (c3 + 1), .int sd].set 1 (.int ((j : Int) + 1)))) = H6 at hp6 k6 hl6 ⊢
        refine q_when (b := decide (cell < 10 ^ 18)) (et_is (et_test (ev_op (ev_var rfl) (ev_op ev_c ev_c (rv_I ⟨by decide, by decide, by decide⟩)) rv_I0)) rfl) (fun _ H7 e7 => ?_) (fun _ H7 e7 => ?_)
        · have hx4 := e7 _ _ hp6
          refine rd_call (ea_cons (ev_var rfl) (ea_cons (ev_op (ev_var rfl) ev_c (rv_ixL (sq_of hx4) (atI_nat (j := 3) rfl))) (ea_cons (ev_var rfl) ea_nil))) fun H8 e8 => ⟨cell, c3 + 1, lim, rfl, hb1, by omega, by omega, by omega, by omega, fun d hd0 hd1' H9 e9 => q d H9 hd0 hd1' ⟨cs, (j : Int) + 1, c2, c3 + 1, sd, (e8.trans e9) _ _ hx4, (e7.trans (e8.trans e9)) _ _ hl6, hne, hlen, hcs, by omega, by omega, by omega, hs0, hs1⟩ (k6.trans (Keep.of (e7.trans (e8.trans e9))))⟩
        · refine s_setL (j := 2) (e7 _ _ hp6) (ev_var rfl) (ev_var rfl) ev_c (by show 2 < 5; decide) fun H8 e8 => ?_
          refine tail _ _ ⟨(j : Int) + 1, cell, some (.int cell), rfl, upd_same, ?_, by omega, (k6.trans (Keep.of (e7.trans e8))).upd⟩
          rw [upd_ne hne]
          exact (e7.trans e8) _ _ hl6
      · refine q_when (b := false) (et_is (et_and (et_test (ev_op (ev_op (ev_var rfl) ev_c (rv_ixL (sq_of hp1) (atI_nat (j := 2) rfl))) ev_c rv_I0)) fun _ => et_test (ev_op (ev_op (ev_var rfl) ev_c (rv_ixL (sq_of hp1) (atI_nat (j := 1) rfl))) (hlenE H2 (Ex.refl H2)) rv_I0)) (by rw [List.length_map, Bool.and_eq_false_iff, decide_eq_false_iff_not, decide_eq_false_iff_not]; omega)) (fun h => nomatch h) (fun _ H3 e3 => ?_)
        exact tail _ _ ⟨c1, c2, none, rfl, e3 _ _ hp1, e3 _ _ hl1, h1, k1.trans (Keep.of e3)⟩
theorem ok_law_odd (T : Mg mg) (F : FnP K "_law_odd" s_law_odd f fd) (gm : mg "_law_odd" = some (.ref f)) : Call P w K mg base 1 "_law_odd" ["first", "last", "form"] spOdd := by
  refine mk F gm (fun _ _ _ _ _ _ us hl => match us, hl with | [_, _, _], _ => rfl) (fun _ _ _ _ _ _ us hl => match us, hl with | [_, _, _], _ => rfl) sc_law_odd (fun vs H Q E h => ?_) (fun cdv A outer s H vs Q E hr h => ?_)
  · obtain ⟨a, b, i, rfl, _⟩ := h
    rfl
  · obtain ⟨a, b, i, rfl, h1, h2, h3, h4, q⟩ := h
    refine ⟨_, (pss_one (ps_ret (pe_ix ix_list (pe_lst (pa_cons (pv 0) (pa_cons (pe_op oz_add (pe_op oz_add (pv 0) pe_str) (pv 1)) (pa_cons (pe_op oz_add (pe_op oz_add (pe_op oz_add (pv 0) pe_str) (pv 1)) pe_str) (pa_cons (pe_op oz_add pe_str (pv 1)) (pa_cons pe_str (pa_cons (pe_op oz_add (pe_op oz_add (pv 0) pe_str) (pv 1)) (pa_cons (pe_op oz_add (pe_op oz_add (pv 0) pe_str) (pv 1)) (pa_cons (pe_op oz_add (pe_op oz_add pe_str (pv 0)) pe_str) (pa_cons (pe_op oz_add pe_str (pv 1)) (pa_cons (pe_op oz_add (pe_op oz_add (pv 0) pe_str) (pv 1)) (pa_cons (pe_op oz_add (pe_op oz_add (pe_op oz_add pe_str (pv 0)) pe_str) (pv 1)) (pa_cons (pe_op oz_add (pe_op oz_add (pv 0) pe_str) (pv 1)) (pa_cons pe_str (pa_cons pe_str (pa_cons (pe_op oz_add (pv 0) pe_str) (pa_cons (pe_op oz_add (pe_op oz_add (pe_op oz_add pe_str (pv 0)) pe_str) (pv 1)) (pa_cons (pe_op oz_add (pe_op oz_add (pe_op oz_add (pv 0) pe_str) (pv 1)) pe_str) (pa_cons (pe_op oz_add (pe_op oz_add (pv 0) pe_str) (pv 1)) (pa_cons pe_str (pa_cons (pe_op oz_add (pv 0) pe_str) (pa_cons (pe_op oz_add (pe_op oz_add (pv 0) pe_str) (pv 1)) (pa_cons (pe_op oz_add pe_str (pv 1)) (pa_cons (pe_op oz_add (pe_op oz_add (pv 0) pe_str) (pv 1)) (pa_cons pe_str pa_nil))))))))))))))))))))))))) (pv 2) (fun _ _ => rfl)))), ?_⟩
    exact s_retS (n := 40) (ev_pick (k := 24) (eas_cons (es_var (n := 7) rfl h1) (by decide +kernel) (eas_cons (es_add (es_add (es_var (n := 7) rfl h1) es_c) (es_var (n := 7) rfl h2)) (by decide +kernel) (eas_cons (es_add (es_add (es_add (es_var (n := 7) rfl h1) es_c) (es_var (n := 7) rfl h2)) es_c) (by decide +kernel) (eas_cons (es_add es_c (es_var (n := 7) rfl h2)) (by decide +kernel) (eas_cons es_c (by decide +kernel) (eas_cons (es_add (es_add (es_var (n := 7) rfl h1) es_c) (es_var (n := 7) rfl h2)) (by decide +kernel) (eas_cons (es_add (es_add (es_var (n := 7) rfl h1) es_c) (es_var (n := 7) rfl h2)) (by decide +kernel) (eas_cons (es_add (es_add es_c (es_var (n := 7) rfl h1)) es_c) (by decide +kernel) (eas_cons (es_add es_c (es_var (n := 7) rfl h2)) (by decide +kernel) (eas_cons (es_add (es_add (es_var (n := 7) rfl h1) es_c) (es_var (n := 7) rfl h2)) (by decide +kernel) (eas_cons (es_add (es_add (es_add es_c (es_var (n := 7) rfl h1)) es_c) (es_var (n := 7) rfl h2)) (by decide +kernel) (eas_cons (es_add (es_add (es_var (n := 7) rfl h1) es_c) (es_var (n := 7) rfl h2)) (by decide +kernel) (eas_cons es_c (by decide +kernel) (eas_cons es_c (by decide +kernel) (eas_cons (es_add (es_var (n := 7) rfl h1) es_c) (by decide +kernel) (eas_cons (es_add (es_add (es_add es_c (es_var (n := 7) rfl h1)) es_c) (es_var (n := 7) rfl h2)) (by decide +kernel) (eas_cons (es_add (es_add (es_add (es_var (n := 7) rfl h1) es_c) (es_var (n := 7) rfl h2)) es_c) (by decide +kernel) (eas_cons (es_add (es_add (es_var (n := 7) rfl h1) es_c) (es_var (n := 7) rfl h2)) (by decide +kernel) (eas_cons es_c (by decide +kernel) (eas_cons (es_add (es_var (n := 7) rfl h1) es_c) (by decide +kernel) (eas_cons (es_add (es_add (es_var (n := 7) rfl h1) es_c) (es_var (n := 7) rfl h2)) (by decide +kernel) (eas_cons (es_add es_c (es_var (n := 7) rfl h2)) (by decide +kernel) (eas_cons (es_add (es_add (es_var (n := 7) rfl h1) es_c) (es_var (n := 7) rfl h2)) (by decide +kernel) (eas_cons es_c (by decide +kernel) eas_nil)))))))))))))))))))))))) (by decide) (ev_var rfl) h3 h4) fun x hx H2 e2 => q x hx H2 e2
end
end Z
set_option maxHeartbeats 4000000
namespace Z
open PySem PySem.Spec PyProof.Rows L2 TL Evl
def spTotals : Sp := fun vs H Q _ => ∃ (p l0 q : Addr) (n : Nat) (xs : List V) (ps : List Pr), vs = [.ref p, .ref q] ∧ SrcAt H p l0 n ∧ n ≤ 1000000 ∧ H q = some (.lst xs) ∧ q ≠ p ∧ Rel (PrAt H) xs ps ∧ 1 ≤ xs.length ∧ xs.length ≤ 1000 ∧
  ∀ (l : Addr) (ts : List Int) (H' : Hp), H l = none → SrcAt H' p l0 (n + 10) → Keep p H H' → H' l = some (.lst (ts.map V.int)) → ts.length ≤ 5 → Q (.ref l) H'
def spAsks : Sp := fun vs H Q _ => ∃ (p l0 : Addr) (n : Nat) (z : Str) (nm : Bool), vs = [.ref p, .str z, .bl nm] ∧ SrcAt H p l0 n ∧ n ≤ 1000000 ∧ z.length ≤ 1000 ∧ ∀ H', SrcAt H' p l0 (n + 20) → Keep p H H' → Q (.bl true) H'
def spLaw16 (K : PySem.W.Frag) : Sp := fun vs H Q _ => ∃ (a : Addr) (ns : List Int), vs = [.ref a] ∧ SqL K H a (ns.map V.int) ∧ ns.length ≤ 63 ∧ (∀ z ∈ ns, z.natAbs < 2 ^ cap) ∧ ∀ H', Q (.bl true) H'
theorem okPr_range {z : Str} {o : Pr} (h : rangeO z = some o) : okPr o := by
  unfold rangeO at h
  cases hd : dashAt z with
  | none => rw [hd] at h; cases h
  | some i =>
    rw [hd] at h
    have h : (if badB z i = true then none else pairO (num (preT z i)) (num (sufT z (i + 1)))) = some o := h
    by_cases hb : badB z i = true
    · rw [if_pos hb] at h; cases h
    · rw [if_neg hb] at h
      cases hA : num (preT z i) with
      | none =>
        cases hB : num (sufT z (i + 1)) with
        | none => rw [hA, hB] at h; cases h
        | some b =>
          rw [hA, hB] at h
          cases h
          exact fun x => nomatch x.2
      | some a =>
        cases hB : num (sufT z (i + 1)) with
        | none =>
          rw [hA, hB] at h
          cases h
          exact fun x => nomatch x.1
        | some b =>
          rw [hA, hB] at h
          have h : (if b < a then none else some (some a, some b)) = some o := h
          by_cases hlt : b < a
          · rw [if_pos hlt] at h; cases h
          · rw [if_neg hlt] at h
            cases h
            exact fun x => nomatch x.1
theorem wants_ok {z : Str} {ps : List Pr} (h : wants z = some ps) : (∀ o ∈ ps, okPr o) ∧ 1 ≤ ps.length ∧ ps.length ≤ 20 := by
  unfold wants at h
  by_cases hc : (decide ((1 : Int) ≤ ((elems z).map rangeO).length) && decide ((((elems z).map rangeO).length : Int) ≤ 20)) = true ∧ ((elems z).map rangeO).any Option.isNone = false
  · rw [if_pos hc] at h
    cases h
    have e := all_some _ hc.2
    have el := congrArg List.length e
    rw [List.length_map (f := some)] at el
    have h1 := pl (a := 1) (b := ((elems z).map rangeO).length) (c := 20) hc.1
    refine ⟨fun o ho => ?_, by omega, by omega⟩
    obtain ⟨x, hx, ex⟩ := List.mem_filterMap.mp ho
    obtain ⟨wd, _, ew⟩ := List.mem_map.mp hx
    have ex : x = some o := ex
    rw [ex] at ew
    exact okPr_range ew
  · rw [if_neg hc] at h
    cases h
section
variable {P : Program} {w : World} {K : PySem.W.Frag} {mg : Str → Option Value} {base : Heap} {f : Addr} {fd : FuncData} {k : Nat}
theorem ok_law_element (T : Mg mg) (c_law_draw : CSrc P w K mg base) (c_law_odd : Call P w K mg base 1 "_law_odd" ["first", "last", "form"] spOdd) (F : FnP K "_law_element" s_law_element f fd) (gm : mg "_law_element" = some (.ref f)) : Call P w K mg base 3 "_law_element" ["source", "most", "odd"] spElem := by
  refine mk F gm (fun _ _ _ _ _ _ us hl => match us, hl with | [_, _, _], _ => rfl) (fun _ _ _ _ _ _ us hl => match us, hl with | [_, _, _], _ => rfl) sc_law_element (fun vs H Q E h => ?_) (fun cdv A outer s H vs Q E hr h => ?_)
  · obtain ⟨p, l0, n, most, odd, rfl, _⟩ := h
    rfl
  · obtain ⟨p, l0, n, most, odd, rfl, hb, hn, hm1, hm2, q⟩ := h
    refine ⟨_, (pss_cons (ps_set (i := 3) sc_law_element.nd rfl (Or.inl rfl) (pe_f c_law_draw hr (by decide) rfl (pa_cons (pv 0) (pa_cons (pv 1) pa_nil))))
    (pss_cons (ps_set (i := 4) sc_law_element.nd rfl (Or.inl rfl) (pe_f c_law_draw hr (by decide) rfl (pa_cons (pv 0) (pa_cons (pv 1) pa_nil))))
    (pss_cons (ps_set (i := 5) sc_law_element.nd rfl (Or.inl rfl) (pe_f c_law_draw hr (by decide) rfl (pa_cons (pv 0) (pa_cons pe_int pa_nil))))
    (pss_cons (ps_if (PW.pt (pw_and (pt_truth (pv 2) (by intro _; rfl)) (pw_and1 (pt_cmpR op_eq (pe_f c_law_draw hr (by decide) rfl (pa_cons (pv 0) (pa_cons pe_int pa_nil))) pe_int (nomark _)))))
      (pss_one (ps_ret (pe_f c_law_odd hr (by decide) rfl (pa_cons (pe_callTy cz_str (by rfl) T.str (by decide +kernel) (pa_cons (pv 3) pa_nil)) (pa_cons (pe_callTy cz_str (by rfl) T.str (by decide +kernel) (pa_cons (pv 4) pa_nil)) (pa_cons (pe_f c_law_draw hr (by decide) rfl (pa_cons (pv 0) (pa_cons pe_int pa_nil))) pa_nil))))))
      pss_nil)
    (pss_cons (ps_if (PW.pt (pw_or (PW.pt (pw_and (pt_cmpR op_lt (pv 5) pe_int (nomark _)) (pw_and1 (pt_cmpR op_le (pv 3) (pv 4) (nomark _))))) (pw_or1 (PW.pt (pw_and (pt_truth (pv 2) (by intro _; rfl)) (pw_and1 (pt_cmpR op_eq (pv 5) pe_int (nomark _))))))))
      (pss_one (ps_ret (pe_op oz_add (pe_op oz_add (pe_callTy cz_str (by rfl) T.str (by decide +kernel) (pa_cons (pv 3) pa_nil)) pe_str) (pe_callTy cz_str (by rfl) T.str (by decide +kernel) (pa_cons (pv 4) pa_nil)))))
      pss_nil)
    (pss_cons (ps_if (pt_cmpR op_lt (pv 5) pe_int (nomark _))
      (pss_one (ps_ret (pe_op oz_add (pe_op oz_add (pe_callTy cz_str (by rfl) T.str (by decide +kernel) (pa_cons (pv 4) pa_nil)) pe_str) (pe_callTy cz_str (by rfl) T.str (by decide +kernel) (pa_cons (pv 3) pa_nil)))))
      pss_nil)
    (pss_cons (ps_if (pt_cmpR op_lt (pv 5) pe_int (nomark _))
      (pss_one (ps_ret (pe_op oz_add (pe_callTy cz_str (by rfl) T.str (by decide +kernel) (pa_cons (pv 3) pa_nil)) pe_str)))
      pss_nil)
    (pss_cons (ps_if (pt_cmpR op_lt (pv 5) pe_int (nomark _))
      (pss_one (ps_ret (pe_op oz_add pe_str (pe_callTy cz_str (by rfl) T.str (by decide +kernel) (pa_cons (pv 4) pa_nil)))))
      pss_nil)
    (pss_one (ps_ret pe_str)))))))))), ?_⟩
    refine rd_call (ea_cons (ev_var rfl) (ea_cons (ev_var rfl) ea_nil)) fun H1 e1 => ⟨p, l0, most, n, rfl, hb.ex e1, by omega, hm1, hm2, fun a H2 a0 a1 b2 k2 => ?_⟩
    refine rd_call (ea_cons (ev_var rfl) (ea_cons (ev_var rfl) ea_nil)) fun H3 e3 => ⟨p, l0, most, _, rfl, b2.ex e3, by omega, hm1, hm2, fun b H4 b0 b1 b4 k4 => ?_⟩
    refine rd_call (ea_cons (ev_var rfl) (ea_cons ev_c ea_nil)) fun H5 e5 => ⟨p, l0, 8, _, rfl, b4.ex e5, by omega, by decide, by decide, fun fm H6 _ _ b6 k6 => ?_⟩
    have kp : Keep p H H6 := (Keep.of e1).trans (k2.trans ((Keep.of e3).trans (k4.trans ((Keep.of e5).trans k6))))
    have a7 : a < 10 ^ 7 := by omega
    have b7 : b < 10 ^ 7 := by omega
    refine g_name ?_; dsimp only
    refine q_tailIf (fun σ1 Hx => σ1 = [some (.ref p), some (.int most), some (.bl odd), some (.int a), some (.int b), some (.int fm)] ∧ SrcAt Hx p l0 (n + 5) ∧ Keep p H Hx) (fun σ1 Hx hR => ?_) (fun tail => ?_)
    · obtain ⟨rfl, bx, kx⟩ := hR
      have fin : ∀ (x : Str), x.length ≤ 40 → ∀ H', Ex Hx H' → Q (.str x) H' := fun x hx H' e => q x H' hx ((bx.ex e).mono (by omega)) (kx.trans (Keep.of e))
      refine q_when (et_or (et_and (et_test (ev_op (ev_var rfl) ev_c rv_I0)) fun _ => et_test (ev_op (ev_var rfl) (ev_var rfl) rv_I0)) fun _ => et_and (et_truB (ev_var rfl)) fun _ => et_test (ev_op (ev_var rfl) ev_c rv_eqI)) (fun _ H7 e7 => ?_) (fun _ H7 e7 => ?_)
      · exact s_retS (n := 40) (es_mono (es_add (es_add (es_strI (ev_var rfl) a0 a7) es_c) (es_strI (ev_var rfl) b0 b7)) (by decide +kernel)) fun x hx H8 e8 => fin x hx H8 (e7.trans e8)
      refine q_when (et_test (ev_op (ev_var rfl) ev_c rv_I0)) (fun _ H8 e8 => ?_) (fun _ H8 e8 => ?_)
      · exact s_retS (n := 40) (es_mono (es_add (es_add (es_strI (ev_var rfl) b0 b7) es_c) (es_strI (ev_var rfl) a0 a7)) (by decide +kernel)) fun x hx H9 e9 => fin x hx H9 ((e7.trans e8).trans e9)
      refine q_when (et_test (ev_op (ev_var rfl) ev_c rv_I0)) (fun _ H9 e9 => ?_) (fun _ H9 e9 => ?_)
      · exact s_retS (n := 40) (es_mono (es_add (es_strI (ev_var rfl) a0 a7) es_c) (by decide +kernel)) fun x hx H10 e10 => fin x hx H10 (((e7.trans e8).trans e9).trans e10)
      refine q_when (et_test (ev_op (ev_var rfl) ev_c rv_I0)) (fun _ H10 e10 => ?_) (fun _ H10 e10 => ?_)
      · exact s_retS (n := 40) (es_mono (es_add es_c (es_strI (ev_var rfl) b0 b7)) (by decide +kernel)) fun x hx H11 e11 => fin x hx H11 ((((e7.trans e8).trans e9).trans e10).trans e11)
      · exact s_retS (n := 40) (es_mono es_c (by decide +kernel)) fun x hx H11 e11 => fin x hx H11 ((((e7.trans e8).trans e9).trans e10).trans e11)
    · cases odd with
      | false =>
        exact q_when (b := false) (et_is (et_and (a := false) (et_truB (ev_var rfl)) fun h => nomatch h) (Bool.false_and false)) (fun h => nomatch h) (fun _ H7 e7 => tail _ _ ⟨rfl, (b6.ex e7).mono (by omega), kp.trans (Keep.of e7)⟩)
      | true =>
        refine ⟨.bl true, rfl, true, rfl, iteT ?_⟩
        refine rd_call (ea_cons (ev_var rfl) (ea_cons ev_c ea_nil)) fun H7 e7 => ⟨p, l0, 4, _, rfl, b6.ex e7, by omega, by decide, by decide, fun d H8 _ _ b8 k8 => ⟨rfl, _, rfl, ite2 (fun _ => ?_) (fun _ => ?_)⟩⟩
        · obtain ⟨x, hx, ex⟩ := es_strI (te := tVar 3) (σ := [some (.ref p), some (.int most), some (.bl true), some (.int a), some (.int b), some (.int fm)]) (H := H8) (ev_var rfl) a0 a7
          obtain ⟨y, hy, ey⟩ := es_strI (te := tVar 4) (σ := [some (.ref p), some (.int most), some (.bl true), some (.int a), some (.int b), some (.int fm)]) (H := H8) (ev_var rfl) b0 b7
          refine ex H8 (Ex.refl H8) _ fun H9 e9 => ?_
          refine ey H9 e9 _ fun H10 e10 => ?_
          refine rd_call (ea_cons (ev_var rfl) (ea_cons ev_c ea_nil)) fun H11 e11 => ⟨p, l0, 24, _, rfl, b8.ex (e9.trans (e10.trans e11)), by omega, by decide, by decide, fun i H12 i0 i1 b12 k12 => ?_⟩
          exact ⟨x, y, i, rfl, hx, hy, i0, i1, fun t ht H13 e13 => q t H13 ht ((b12.ex e13).mono (by omega)) (kp.trans ((Keep.of e7).trans (k8.trans ((Keep.of (e9.trans (e10.trans e11))).trans (k12.trans (Keep.of e13))))))⟩
        · exact tail _ _ ⟨rfl, b8.mono (by omega), kp.trans ((Keep.of e7).trans k8)⟩
theorem ok_law_wish (T : Mg mg) (c_law_draw : CSrc P w K mg base) (c_law_element : Call P w K mg base 3 "_law_element" ["source", "most", "odd"] spElem) (F : FnP K "_law_wish" s_law_wish f fd) (gm : mg "_law_wish" = some (.ref f)) : Call P w K mg base 4 "_law_wish" ["source", "most"] spWish := by
  refine mk F gm (fun _ _ _ _ _ _ us hl => match us, hl with | [_, _], _ => rfl) (fun _ _ _ _ _ _ us hl => match us, hl with | [_, _], _ => rfl) sc_law_wish (fun vs H Q E h => ?_) (fun cdv A outer s H vs Q E hr h => ?_)
  · obtain ⟨p, l0, n, most, rfl, _⟩ := h
    rfl
  · obtain ⟨p, l0, n, most, rfl, hb, hn, hm1, hm2, q⟩ := h
    refine ⟨_, (pss_cons (ps_set (i := 2) sc_law_wish.nd rfl (Or.inl rfl) (pe_cmpR op_eq (pe_f c_law_draw hr (by decide) rfl (pa_cons (pv 0) (pa_cons pe_int pa_nil))) pe_int (nomark _)))
    (pss_cons (ps_set (i := 3) sc_law_wish.nd rfl (Or.inl rfl) (pe_f c_law_draw hr (by decide) rfl (pa_cons (pv 0) (pa_cons pe_int pa_nil))))
    (pss_cons (ps_if (pt_cmpR op_eq (pe_f c_law_draw hr (by decide) rfl (pa_cons (pv 0) (pa_cons pe_int pa_nil))) pe_int (nomark _))
      (pss_cons (ps_set (i := 3) sc_law_wish.nd rfl (Or.inl rfl) (pe_op op_add pe_int (pe_f c_law_draw hr (by decide) rfl (pa_cons (pv 0) (pa_cons pe_int pa_nil)))))
      (pss_one (ps_set (i := 1) sc_law_wish.nd rfl (Or.inl rfl) pe_int)))
      pss_nil)
    (pss_cons (ps_set (i := 4) sc_law_wish.nd rfl (Or.inl rfl) pe_str)
    (pss_cons (ps_for PassesOwn.never rfl (pi_range1 rfl T.range (pa_cons (pv 3) pa_nil)) (pg_name (i := 5) sc_law_wish.nd rfl (Or.inl rfl))
      (pss_cons (ps_set (i := 6) sc_law_wish.nd rfl (Or.inl rfl) (pe_f c_law_element hr (by decide) rfl (pa_cons (pv 0) (pa_cons (pv 1) (pa_cons (pv 2) pa_nil)))))
      (pss_cons (ps_if (pt_cmpR op_gt (pv 5) pe_int (nomark _))
        (pss_one (ps_set (i := 6) sc_law_wish.nd rfl (Or.inl rfl) (pe_op oz_add (pe_ix ix_list (pe_lst (pa_cons pe_str (pa_cons pe_str (pa_cons pe_str (pa_cons pe_str (pa_cons pe_str (pa_cons pe_str pa_nil))))))) (pe_f c_law_draw hr (by decide) rfl (pa_cons (pv 0) (pa_cons pe_int pa_nil))) (fun _ _ => rfl)) (pv 6))))
        pss_nil)
      (pss_one (ps_if (pt_cmpR op_le (pe_op op_add (pe_callB cz_len (by rfl) T.len (by decide +kernel) (pa_cons (pv 4) pa_nil)) (pe_callB cz_len (by rfl) T.len (by decide +kernel) (pa_cons (pv 6) pa_nil))) pe_int (nomark _))
        (pss_one (ps_set (i := 4) sc_law_wish.nd rfl (Or.inl rfl) (pe_op oz_add (pv 4) (pv 6))))
        pss_nil)))))
    (pss_one (ps_ret (pe_bm PySem.F.plainAttrs_str PySem.F.slot_str_strip PySem.F.type_str_strip mz_strip (pv 4) (pa_cons pe_str pa_nil))))))))), ?_⟩
    refine rd_call (ea_cons (ev_var rfl) (ea_cons ev_c ea_nil)) fun H1 e1 => ⟨p, l0, 3, _, rfl, hb.ex e1, by omega, by decide, by decide, fun d0 H2 _ _ b2 k2 => ⟨rfl, ?_⟩⟩
    generalize decide (V.int d0 = V.int 0) = odd
    refine rd_call (ea_cons (ev_var rfl) (ea_cons ev_c ea_nil)) fun H3 e3 => ⟨p, l0, 7, _, rfl, b2.ex e3, by omega, by decide, by decide, fun c H4 c0 c1 b4 k4 => ?_⟩
    have kp : Keep p H H4 := (Keep.of e1).trans (k2.trans ((Keep.of e3).trans k4))
    refine g_name ?_; dsimp only
    refine q_tailIf (fun σ1 Hx => ∃ m c : Int, σ1 = [some (.ref p), some (.int m), some (.bl odd), some (.int c), none, none, none] ∧ 1 ≤ m ∧ m ≤ 1000000 ∧ 0 ≤ c ∧ c ≤ 23 ∧ SrcAt Hx p l0 (n + 4) ∧ Keep p H Hx) (fun σ1 Hx hR => ?_) (fun tail => ?_)
    · obtain ⟨m, c, rfl, m1, m2, c0, c1, bx, kx⟩ := hR
      refine q_asg ev_c fun H5 e5 => ?_
      refine q_forR1 (n := c) (ea_cons (ev_var rfl) ea_nil) (by omega) (fun i σ' H' => (∃ wd : Str, ∃ v5 v6, σ' = [some (.ref p), some (.int m), some (.bl odd), some (.int c), some (.str wd), v5, v6] ∧ wd.length ≤ 200) ∧ SrcAt H' p l0 (n + 4 + 20 * i) ∧ Keep p H H')
        (fun H6 e6 => ⟨⟨"", none, none, rfl, by decide +kernel⟩, (bx.ex (e5.trans e6)).mono (by omega), kx.trans (Keep.of (e5.trans e6))⟩) (fun i σ' H' hi pv => ?_) (fun σ' H' pv => ?_)
      · obtain ⟨⟨wd, v5, v6, rfl, hw⟩, bi, ki⟩ := pv
        refine rd_call (ea_cons (ev_var rfl) (ea_cons (ev_var rfl) (ea_cons (ev_var rfl) ea_nil))) fun H7 e7 => ⟨p, l0, _, m, odd, rfl, bi.ex e7, by omega, m1, m2, fun el H8 hel b8 k8 => ?_⟩
        have k08 : Keep p H H8 := ki.trans ((Keep.of e7).trans k8)
        refine g_name ?_; dsimp only
        refine q_tailIf (fun σ1 Hx => ∃ el : Str, σ1 = [some (.ref p), some (.int m), some (.bl odd), some (.int c), some (.str wd), some (.int (i : Int)), some (.str el)] ∧ el.length ≤ 50 ∧ SrcAt Hx p l0 (n + 4 + 20 * i + 15) ∧ Keep p H Hx) (fun σ1 Hx hR => ?_) (fun tail2 => ?_)
        · obtain ⟨el, rfl, hel, bx, kx⟩ := hR
          refine s_when (et_test (ev_op (ev_op (ev_lenStr (ev_var rfl) (by omega)) (ev_lenStr (ev_var rfl) (by omega)) rv_I0) ev_c rv_I0)) (fun hb H9 e9 => ?_) (fun hb H9 e9 => ?_)
          · have hb := of_decide_eq_true hb
            refine s_asg (ev_op (ev_var rfl) (ev_var rfl) (rv_addS (by omega))) fun H10 e10 => ⟨⟨_, _, _, rfl, ?_⟩, (bx.ex (e9.trans e10)).mono (by omega), kx.trans (Keep.of (e9.trans e10))⟩
            rw [Str.length_append]
            omega
          · exact ⟨⟨_, _, _, rfl, hw⟩, (bx.ex e9).mono (by omega), kx.trans (Keep.of e9)⟩
        · refine q_when (et_test (ev_op (ev_var rfl) ev_c rv_I0)) (fun _ H9 e9 => ?_) (fun _ H9 e9 => tail2 _ _ ⟨el, rfl, by omega, (b8.ex e9).mono (by omega), k08.trans (Keep.of e9)⟩)
          refine ⟨by show 6 ≤ sizeLine; decide, fun l nl => ?_⟩
          have b9 := b8.ex e9
          have hne := b9.ne nl
          have b9' := b9.upd (o := .lst ([("," : Str), ", ", " , ", ",,", " ,", ", ,"].map V.str)) hne
          refine rd_call (ea_cons (ev_var rfl) (ea_cons ev_c ea_nil)) fun H10 e10 => ⟨p, l0, 6, _, rfl, b9'.ex e10, by omega, by decide, by decide, fun d H11 d0 d1 b11 k11 => ?_⟩
          have hl11 : H11 l = some (.lst ([("," : Str) , ", ", " , ", ",,", " ,", ", ,"].map V.str)) := k11 _ _ hne.1 (e10 _ _ upd_same)
          obtain ⟨v, hv, hvm⟩ := at_int (xs := [("," : Str) , ", ", " , ", ",,", " ,", ", ,"].map V.str) d0 d1
          obtain ⟨x, rfl, hx⟩ := strs_in hvm
          have lx := short_in (m := 3) (by decide +kernel) hx
          refine ⟨l, _, d, _, rfl, rfl, sq_of hl11, hv, .str el, rfl, x, el, rfl, rfl, Nat.le_trans (show x.length + el.length ≤ 100 by omega) (by decide), ?_⟩
          refine tail2 _ _ ⟨x ++ el, rfl, by rw [Str.length_append]; omega, b11.mono (by omega), ?_⟩
          exact k08.trans ((Keep.of (e9.trans ((Ex.new nl).trans e10))).trans k11)
      · obtain ⟨⟨wd, v5, v6, rfl, hw⟩, bi, ki⟩ := pv
        have hs := strip_len wd " "
        exact s_ret (ev_strip (ev_var rfl) ev_c (by omega)) fun H7 e7 => q _ H7 (by omega) ((bi.ex e7).mono (by omega)) (ki.trans (Keep.of e7))
    · refine rd_call (ea_cons (ev_var rfl) (ea_cons ev_c ea_nil)) fun H5 e5 => ⟨p, l0, 8, _, rfl, b4.ex e5, by omega, by decide, by decide, fun d H6 _ _ b6 k6 => ⟨rfl, _, rfl, ite2 (fun _ => ?_) (fun _ => ?_)⟩⟩
      · refine rd_call (ea_cons (ev_var rfl) (ea_cons ev_c ea_nil)) fun H7 e7 => ⟨p, l0, 7, _, rfl, b6.ex e7, by omega, by decide, by decide, fun d2 H8 d20 d21 b8 k8 => ⟨17, d2, rfl, rfl, ?_⟩⟩
        exact s_asg ev_c fun H9 e9 => tail _ _ ⟨12, 17 + d2, rfl, by decide, by decide, by omega, by omega, (b8.ex e9).mono (by omega), kp.trans ((Keep.of e5).trans (k6.trans ((Keep.of e7).trans (k8.trans (Keep.of e9)))))⟩
      · exact tail _ _ ⟨most, c, rfl, hm1, hm2, c0, by omega, b6.mono (by omega), kp.trans ((Keep.of e5).trans k6)⟩
theorem ok_law_bent (T : Mg mg) (c_law_draw : CSrc P w K mg base) (F : FnP K "_law_bent" s_law_bent f fd) (gm : mg "_law_bent" = some (.ref f)) : Call P w K mg base 3 "_law_bent" ["source", "wish"] spBent := by
  refine mk F gm (fun _ _ _ _ _ _ us hl => match us, hl with | [_, _], _ => rfl) (fun _ _ _ _ _ _ us hl => match us, hl with | [_, _], _ => rfl) sc_law_bent (fun vs H Q E h => ?_) (fun cdv A outer s H vs Q E hr h => ?_)
  · obtain ⟨p, l0, n, z, rfl, _⟩ := h
    rfl
  · obtain ⟨p, l0, n, z, rfl, hb, hn, hz, q⟩ := h
    refine ⟨_, (pss_cons (ps_set (i := 2) sc_law_bent.nd rfl (Or.inl rfl) (pe_f c_law_draw hr (by decide) rfl (pa_cons (pv 0) (pa_cons (pe_op op_add (pe_callB cz_len (by rfl) T.len (by decide +kernel) (pa_cons (pv 1) pa_nil)) pe_int) pa_nil))))
    (pss_cons (ps_set (i := 3) sc_law_bent.nd rfl (Or.inl rfl) (pe_ix ix_str pe_str (pe_f c_law_draw hr (by decide) rfl (pa_cons (pv 0) (pa_cons pe_int pa_nil))) (fun _ _ => rfl)))
    (pss_cons (ps_set (i := 4) sc_law_bent.nd rfl (Or.inl rfl) (pe_f c_law_draw hr (by decide) rfl (pa_cons (pv 0) (pa_cons pe_int pa_nil))))
    (pss_cons (ps_set (i := 5) sc_law_bent.nd rfl (Or.inl rfl) (pe_slice sl_str (pv 1) (po_some (pe_op op_add (pv 2) pe_int)) po_none))
    (pss_cons (ps_if (pt_cmpR op_eq (pv 4) pe_int (nomark _))
      (pss_one (ps_set (i := 5) sc_law_bent.nd rfl (Or.inl rfl) (pe_slice sl_str (pv 1) (po_some (pv 2)) po_none)))
      pss_nil)
    (pss_cons (ps_if (pt_cmpR op_eq (pv 4) pe_int (nomark _))
      (pss_one (ps_set (i := 3) sc_law_bent.nd rfl (Or.inl rfl) pe_str))
      pss_nil)
    (pss_cons (ps_set (i := 6) sc_law_bent.nd rfl (Or.inl rfl) (pe_op oz_add (pe_op oz_add (pe_slice sl_str (pv 1) po_none (po_some (pv 2))) (pv 3)) (pv 5)))
    (pss_one (ps_ret (pe_bm PySem.F.plainAttrs_str PySem.F.slot_str_strip PySem.F.type_str_strip mz_strip (pe_slice sl_str (pv 6) po_none (po_some pe_int)) (pa_cons pe_str pa_nil))))))))))), ?_⟩
    refine rd_call (ea_cons (ev_var rfl) (ea_cons (ev_op (ev_lenStr (ev_var rfl) (by omega)) ev_c rv_I0) ea_nil)) fun H1 e1 => ⟨p, l0, _, _, rfl, hb.ex e1, by omega, by omega, by omega, fun spot H2 _ _ b2 k2 => ?_⟩
    refine rd_call (ea_cons (ev_var rfl) (ea_cons ev_c ea_nil)) fun H3 e3 => ⟨p, l0, 15, _, rfl, b2.ex e3, by omega, by decide, by decide, fun d H4 d0 d1 b4 k4 => ?_⟩
    have e15 : (tl ("0123456789-, x*" : Str)).length = 15 := by decide +kernel
    obtain ⟨c, hc, _⟩ := at_int (xs := tl ("0123456789-, x*" : Str)) d0 (by rw [e15]; exact d1)
    refine ⟨"0123456789-, x*", d, c, rfl, rfl, by decide +kernel, hc, ?_⟩
    refine rd_call (ea_cons (ev_var rfl) (ea_cons ev_c ea_nil)) fun H5 e5 => ⟨p, l0, 3, _, rfl, b4.ex e5, by omega, by decide, by decide, fun way H6 _ _ b6 k6 => ?_⟩
    have kp : Keep p H H6 := (Keep.of e1).trans (k2.trans ((Keep.of e3).trans (k4.trans ((Keep.of e5).trans k6))))
    have l1 := cut_len z (some (spot + 1)) none
    refine q_asg (ev_slS (ev_var rfl) (eo_some (ev_op (ev_var rfl) ev_c rv_I0)) eo_none (by omega)) fun H7 e7 => ?_
    generalize cutS z (some (spot + 1)) none = r0 at l1 ⊢
    refine q_tailIf (fun σ1 Hx => ∃ r : Str, σ1 = [some (.ref p), some (.str z), some (.int spot), some (.str ⟨#[c]⟩), some (.int way), some (.str r), none] ∧ r.length ≤ 200 ∧ Ex H7 Hx) (fun σ1 Hx hR => ?_) (fun tail => ?_)
    · obtain ⟨r, rfl, hr, ex⟩ := hR
      refine q_tailIf (fun σ1 Hx => ∃ cr : Str, σ1 = [some (.ref p), some (.str z), some (.int spot), some (.str cr), some (.int way), some (.str r), none] ∧ cr.length ≤ 1 ∧ Ex H7 Hx) (fun σ1 Hx hR => ?_) (fun tail => ?_)
      · obtain ⟨cr, rfl, hcr, ex⟩ := hR
        have l2 := cut_len z none (some spot)
        refine q_asg (ev_op (ev_op (ev_slS (ev_var rfl) eo_none (eo_some (ev_var rfl)) (by omega)) (ev_var rfl) (rv_addS (by omega))) (ev_var rfl) (rv_addS (by rw [Str.length_append]; omega))) fun H9 e9 => ?_
        have l3 : (cutS z none (some spot) ++ cr ++ r).length ≤ 401 := by
          rw [Str.length_append, Str.length_append]
          omega
        generalize cutS z none (some spot) ++ cr ++ r = bt at l3 ⊢
        have l4 := cut_len bt none (some 200)
        have l5 := strip_len (cutS bt none (some 200)) " "
        exact s_ret (ev_strip (ev_slS (ev_var rfl) eo_none (eo_some ev_c) (by omega)) ev_c (by omega)) fun H10 e10 => q _ H10 (by omega) (b6.ex (e7.trans (ex.trans (e9.trans e10)))) (kp.trans (Keep.of (e7.trans (ex.trans (e9.trans e10)))))
      · refine q_when (et_test (ev_op (ev_var rfl) ev_c rv_eqI)) (fun _ H9 e9 => ?_) (fun _ H9 e9 => tail _ _ ⟨_, rfl, Nat.le_refl 1, ex.trans e9⟩)
        exact s_asg ev_c fun H10 e10 => tail _ _ ⟨_, rfl, by decide +kernel, ex.trans (e9.trans e10)⟩
    · refine q_when (et_test (ev_op (ev_var rfl) ev_c rv_eqI)) (fun _ H9 e9 => ?_) (fun _ H9 e9 => tail _ _ ⟨r0, rfl, by omega, e9⟩)
      have l2 := cut_len z (some spot) none
      exact s_asg (ev_slS (ev_var rfl) (eo_some (ev_var rfl)) eo_none (by omega)) fun H10 e10 => tail _ _ ⟨_, rfl, by omega, e9.trans e10⟩
theorem ok_law_totals (T : Mg mg) (c_law_draw : CSrc P w K mg base) (F : FnP K "_law_totals" s_law_totals f fd) (gm : mg "_law_totals" = some (.ref f)) : Call P w K mg base 3 "_law_totals" ["source", "found"] spTotals := by
  refine mk F gm (fun _ _ _ _ _ _ us hl => match us, hl with | [_, _], _ => rfl) (fun _ _ _ _ _ _ us hl => match us, hl with | [_, _], _ => rfl) sc_law_totals (fun vs H Q E h => ?_) (fun cdv A outer s H vs Q E hr h => ?_)
  · obtain ⟨p, l0, q, n, xs, ps, rfl, _⟩ := h
    rfl
  · obtain ⟨p, l0, q', n, xs, ps, rfl, hb, hn, hq, hqp, hrel, hl1, hl2, q⟩ := h
    refine ⟨_, (pss_cons (ps_set (i := 2) sc_law_totals.nd rfl (Or.inl rfl) (pe_lst (pa_cons pe_int (pa_cons pe_int (pa_cons (pe_f c_law_draw hr (by decide) rfl (pa_cons (pv 0) (pa_cons pe_int pa_nil))) pa_nil)))))
    (pss_cons (ps_set (i := 3) sc_law_totals.nd rfl (Or.inl rfl) (pe_ix ix_list (pv 1) (pe_f c_law_draw hr (by decide) rfl (pa_cons (pv 0) (pa_cons (pe_callB call_len_seq (by rfl) T.len (by decide +kernel) (pa_cons (pv 1) pa_nil)) pa_nil))) (fun _ _ => rfl)))
    (pss_cons (ps_for PassesOwn.never rfl (pi_tup (pv 3)) (pg_name (i := 4) sc_law_totals.nd rfl (Or.inl rfl))
      (pss_one (ps_if (pt_cmpR op_notN1 (pv 4) pe_non (nomark _))
        (pss_cons (ps_set (i := 5) sc_law_totals.nd rfl (Or.inl rfl) (pe_op op_add (pv 4) (pe_f c_law_draw hr (by decide) rfl (pa_cons (pv 0) (pa_cons pe_int pa_nil)))))
        (pss_one (ps_if (pt_cmpR op_le (pv 5) pe_int (nomark _))
          (pss_one (ps_expr (pe_bm PySem.F.plainAttrs_list PySem.F.slot_list_append PySem.F.type_list_append mt_append (pv 2) (pa_cons (pv 5) pa_nil))))
          pss_nil)))
        pss_nil)))
    (pss_one (ps_ret (pv 2)))))), ?_⟩
    refine rd_call (ea_cons (ev_var rfl) (ea_cons ev_c ea_nil)) fun H1 e1 => ⟨p, l0, 50, _, rfl, hb.ex e1, by omega, by decide, by decide, fun d H2 _ _ b2 k2 => ⟨by show 3 ≤ sizeLine; decide, fun l nl => ?_⟩⟩
    have hne := b2.ne nl
    have k02 : Keep p H H2 := (Keep.of e1).trans k2
    have nlH : H l = none := k02.freeS b2 nl
    have b3 := b2.upd (o := .lst ([(0 : Int), 1, d].map V.int)) hne
    have k03 : Keep p H (upd H2 l (.lst ([(0 : Int), 1, d].map V.int))) := k02.mut nlH
    have h3 : (upd H2 l (.lst ([(0 : Int), 1, d].map V.int))) l = some (.lst ([(0 : Int), 1, d].map V.int)) := upd_same
    have eH : upd H2 l (.lst ([V.int 0, .int 1, .int d])) = upd H2 l (.lst ([(0 : Int), 1, d].map V.int)) := rfl
    generalize upd H2 l (.lst ([(0 : Int), 1, d].map V.int)) = H3 at b3 k03 h3 eH
    refine ⟨.ref q', rfl, .ref p, rfl, .ref q', rfl, q', xs, rfl, .inl (sq_of ?_), p, l0, xs.length, n + 1, rfl, ?_, by omega, by omega, by omega, fun j H4 j0 j1 b4 k4 => ?_⟩
    · show upd H2 l (.lst ([V.int 0, .int 1, .int d])) q' = _
      rw [eH]
      exact k03 _ _ hqp hq
    · show SrcAt (upd H2 l (.lst ([V.int 0, .int 1, .int d]))) p l0 _
      rw [eH]
      exact b3
    have k4 : Keep p H3 H4 := by
      have : Keep p (upd H2 l (.lst ([V.int 0, .int 1, .int d]))) H4 := k4
      rw [eH] at this
      exact this
    obtain ⟨v, hv, hvm⟩ := at_int (xs := xs) j0 j1
    obtain ⟨i, hi⟩ := List.getElem?_of_mem hvm
    obtain ⟨o, ho, t, rfl, ht⟩ := hrel.get hi
    have htp : t ≠ p := fun e => by
      obtain ⟨ys, g⟩ := hb.has
      rw [e, g] at ht
      cases ht
    have k04 : Keep p H H4 := k03.trans k4
    refine ⟨q', xs, j, _, rfl, rfl, sq_of (k04 _ _ hqp hq), hv, ?_⟩
    have ht4 := k04 _ _ htp ht
    refine q_forT (ev_var rfl) (st_of ht4) (fun i σ' H' => (∃ v4 v5, σ' = [some (.ref p), some (.ref q'), some (.ref l), some (.ref t), v4, v5]) ∧ SrcAt H' p l0 (n + 2 + i) ∧ Keep p H H' ∧ ∃ ts : List Int, H' l = some (.lst (ts.map V.int)) ∧ ts.length ≤ 3 + i)
      (fun H5 e5 => ⟨⟨none, none, rfl⟩, b4.ex e5, k04.trans (Keep.of e5), [0, 1, d], e5 _ _ (k4 _ _ hne.1 h3), Nat.le_refl 3⟩) (fun i σ' H' _ pv => st_of (pv.2.2.1 _ _ htp ht)) (fun i x σ' H' hx pv => ?_) (fun σ' H' pv => ?_)
    · obtain ⟨⟨v4, v5, rfl⟩, bi, ki, ts, hts, htl⟩ := pv
      have hi2 : i < 2 := (List.getElem?_eq_some_iff.mp hx).1
      obtain ⟨u, rfl⟩ : ∃ u : Option Nat, x = ov u := by
        rcases List.mem_cons.mp (List.mem_of_getElem? hx) with e | e
        · exact ⟨_, e⟩
        · exact ⟨_, List.mem_singleton.mp e⟩
      cases u with
      | none => exact s_when (b := false) (et_is (et_test (ev_op (ev_var rfl) ev_c rv_notN)) rfl) (fun h => nomatch h) (fun _ H6 e6 => ⟨⟨_, _, rfl⟩, (bi.ex e6).mono (by omega), ki.trans (Keep.of e6), ts, e6 _ _ hts, by omega⟩)
      | some u =>
        refine s_when (b := true) (et_is (et_test (ev_op (ev_var rfl) ev_c rv_notN)) rfl) (fun _ H6 e6 => ?_) (fun h => nomatch h)
        refine ⟨.int (u : Int), rfl, rd_call (ea_cons (ev_var rfl) (ea_cons ev_c ea_nil)) fun H7 e7 => ⟨p, l0, 3, _, rfl, bi.ex (e6.trans e7), by omega, by decide, by decide, fun d2 H8 _ _ b8 k8 => ⟨u, d2, rfl, rfl, ?_⟩⟩⟩
        have k08 : Keep p H H8 := ki.trans ((Keep.of (e6.trans e7)).trans k8)
        have hts8 := k8 _ _ hne.1 ((e6.trans e7) _ _ hts)
        refine s_when (et_test (ev_op (ev_var rfl) ev_c rv_I0)) (fun _ H9 e9 => ?_) (fun _ H9 e9 => ⟨⟨_, _, rfl⟩, (b8.ex e9).mono (by omega), k08.trans (Keep.of e9), ts, e9 _ _ hts8, by omega⟩)
        refine s_app (xs := ts.map V.int) (e9 _ _ hts8) (ev_var rfl) (ev_var rfl) (by rw [List.length_map]; omega) fun H10 e10 => ⟨⟨_, _, rfl⟩, ?_, (k08.trans (Keep.of (e9.trans e10))).mut nlH, ts ++ [(u : Int) + d2], ?_, ?_⟩
        · exact ((b8.ex (e9.trans e10)).upd hne).mono (by omega)
        · rw [upd_same, List.map_append]
          rfl
        · rw [List.length_append]
          show ts.length + 1 ≤ _
          omega
    · obtain ⟨⟨v4, v5, rfl⟩, bi, ki, ts, hts, htl⟩ := pv
      have htl : ts.length ≤ 5 := htl
      have bi : SrcAt H' p l0 (n + 4) := bi
      exact s_ret (ev_var rfl) fun H6 e6 => q l ts H6 nlH ((bi.ex e6).mono (by omega)) (ki.trans (Keep.of e6)) (e6 _ _ hts) htl
theorem sv_sameR {H : Hp} {p q : Addr} {xs ys : List V} {ps : List Pr} (h1 : H p = some (.lst xs)) (h2 : H q = some (.lst ys)) (r1 : Rel (PrAt H) xs ps) (r2 : Rel (PrAt H) ys ps) (hl : xs.length ≤ 1000) : SpV spSameR [.ref p, .ref q] H (.bl true) :=
  fun H1 e Q q' E => ⟨.inr ⟨p, q, xs, ys, ps, rfl, e _ _ h1, e _ _ h2, r1.mono fun _ _ r => TupAt.ex r e, r2.mono fun _ _ r => TupAt.ex r e, hl⟩, q'⟩
theorem sv_sameN {H : Hp} : SpV spSameR [.non, .non] H (.bl true) := fun H1 e Q q' E => ⟨.inl rfl, q'⟩
theorem ok_law_asks (T : Mg mg) (c_law_ranges : Call P w K mg base 3 "_law_ranges" ["wish"] spRanges) (c_read_ranges : Call P w K mg base 4 "read_ranges" ["text"] spRanges) (c_law_same_ranges : Call P w K mg base 3 "_law_same_ranges" ["actual", "expected"] spSameR) (c_law_totals : Call P w K mg base 3 "_law_totals" ["source", "found"] spTotals) (c_resolve : Call P w K mg base 2 "resolve" ["ranges", "length"] (spResolve K))
    (c_law_same_pairs : Call P w K mg base 2 "_law_same_pairs" ["actual", "expected"] spSameP) (c_law_resolved : Call P w K mg base 1 "_law_resolved" ["found", "total"] (spResolve K)) (F : FnP K "_law_asks" s_law_asks f fd) (gm : mg "_law_asks" = some (.ref f)) : Call P w K mg base 5 "_law_asks" ["source", "wish", "named"] spAsks := by
  refine mk F gm (fun _ _ _ _ _ _ us hl => match us, hl with | [_, _, _], _ => rfl) (fun _ _ _ _ _ _ us hl => match us, hl with | [_, _, _], _ => rfl) sc_law_asks (fun vs H Q E h => ?_) (fun cdv A outer s H vs Q E hr h => ?_)
  · obtain ⟨p, l0, n, z, nm, rfl, _⟩ := h
    rfl
  · obtain ⟨p, l0, n, z, nm, rfl, hb, hn, hz, q⟩ := h
    refine ⟨_, (pss_cons (ps_set (i := 3) sc_law_asks.nd rfl (Or.inl rfl) (pe_f c_law_ranges hr (by decide) rfl (pa_cons (pv 1) pa_nil)))
    (pss_cons (ps_if (pt_truth (pv 2) (by intro _; rfl))
      (pss_one (ps_set (i := 4) sc_law_asks.nd rfl (Or.inl rfl) (pe_fk c_read_ranges hr (by decide) rfl (pk_cons (pv 1) pk_nil))))
      (pss_one (ps_set (i := 4) sc_law_asks.nd rfl (Or.inl rfl) (pe_f c_read_ranges hr (by decide) rfl (pa_cons (pv 1) pa_nil)))))
    (pss_cons (ps_if (pt_not (pt_val (pe_f c_law_same_ranges hr (by decide) rfl (pa_cons (pv 4) (pa_cons (pv 3) pa_nil)))))
      (pss_one (ps_ret pe_bl))
      pss_nil)
    (pss_cons (ps_if (pt_cmpR op_isN1 (pv 3) pe_non (nomark _))
      (pss_one (ps_ret pe_bl))
      pss_nil)
    (pss_cons (ps_for PassesOwn.never rfl (pi_list (pe_f c_law_totals hr (by decide) rfl (pa_cons (pv 0) (pa_cons (pv 3) pa_nil)))) (pg_name (i := 5) sc_law_asks.nd rfl (Or.inl rfl))
      (pss_cons (ps_set (i := 6) sc_law_asks.nd rfl (Or.inl rfl) (pe_callTy call_list_of (by rfl) T.list (by decide +kernel) (pa_cons (pv 3) pa_nil)))
      (pss_cons (ps_if (pt_truth (pv 2) (by intro _; rfl))
        (pss_one (ps_set (i := 7) sc_law_asks.nd rfl (Or.inl rfl) (pe_fk c_resolve hr (by decide) rfl (pk_cons (pv 6) (pk_cons (pv 5) pk_nil)))))
        (pss_one (ps_set (i := 7) sc_law_asks.nd rfl (Or.inl rfl) (pe_f c_resolve hr (by decide) rfl (pa_cons (pv 6) (pa_cons (pv 5) pa_nil))))))
      (pss_one (ps_if (PW.pt (pw_or (pt_not (pt_val (pe_f c_law_same_pairs hr (by decide) rfl (pa_cons (pv 7) (pa_cons (pe_f c_law_resolved hr (by decide) rfl (pa_cons (pv 3) (pa_cons (pv 5) pa_nil))) pa_nil))))) (pw_or1 (pt_not (pt_val (pe_f c_law_same_ranges hr (by decide) rfl (pa_cons (pv 6) (pa_cons (pv 3) pa_nil))))))))
        (pss_one (ps_ret pe_bl))
        pss_nil)))))
    (pss_one (ps_ret pe_bl))))))), ?_⟩
    refine rd_call (ea_cons (ev_var rfl) ea_nil) fun H1 e1 => ⟨z, rfl, hz, fun hn H2 e2 => ?_, fun ps hps l xs H2 nl e2 h2 hr2 => ?_⟩
    · refine g_name ?_; dsimp only
      refine q_tailIf (fun σ1 Hx => σ1 = [some (.ref p), some (.str z), some (.bl nm), some .non, some .non, none, none, none] ∧ Ex H2 Hx) (fun σ1 Hx hR => ?_) (fun tail => ?_)
      · obtain ⟨rfl, ex⟩ := hR
        refine q_when (b := false) (et_is (et_not (et_B (ev_call (ea_cons (ev_var rfl) (ea_cons (ev_var rfl) ea_nil)) sv_sameN))) rfl) (fun h => nomatch h) (fun _ H3 e3 => ?_)
        refine q_when (b := true) (et_is (et_test (ev_op (ev_var rfl) ev_c rv_isN)) rfl) (fun _ H4 e4 => ?_) (fun h => nomatch h)
        refine s_ret ev_c fun H5 e5 => q H5 ((hb.ex ?_).mono (by omega)) (Keep.of ?_)
        · exact ((((e1.trans e2).trans ex).trans e3).trans e4).trans e5
        · exact ((((e1.trans e2).trans ex).trans e3).trans e4).trans e5
      · refine q_if (b := nm) (et_truB (ev_var rfl)) (fun _ H3 e3 => ?_) (fun _ H3 e3 => ?_)
        · exact rd_callN (ea_cons (ev_var rfl) ea_nil) rfl fun H4 e4 => ⟨z, rfl, hz, fun _ H5 e5 => tail _ _ ⟨rfl, (e3.trans e4).trans e5⟩, fun ps hps => by rw [hn] at hps; cases hps⟩
        · exact rd_call (ea_cons (ev_var rfl) ea_nil) fun H4 e4 => ⟨z, rfl, hz, fun _ H5 e5 => tail _ _ ⟨rfl, (e3.trans e4).trans e5⟩, fun ps hps => by rw [hn] at hps; cases hps⟩
    · have hw := wants_ok hps
      have hlen : xs.length = ps.length := hr2.1
      refine g_name ?_; dsimp only
      refine q_tailIf (fun σ1 Hx => ∃ l2 ys, σ1 = [some (.ref p), some (.str z), some (.bl nm), some (.ref l), some (.ref l2), none, none, none] ∧ Ex H2 Hx ∧ Hx l2 = some (.lst ys) ∧ Rel (PrAt Hx) ys ps) (fun σ1 Hx hR => ?_) (fun tail => ?_)
      · obtain ⟨l2, ys, rfl, ex, hy, hry⟩ := hR
        have hxl := ex _ _ h2
        have hrx : Rel (PrAt Hx) xs ps := hr2.mono fun _ _ r => TupAt.ex r ex
        refine q_when (b := false) (et_is (et_not (et_B (ev_call (ea_cons (ev_var rfl) (ea_cons (ev_var rfl) ea_nil)) (sv_sameR hy hxl hry hrx (by rw [hry.1]; omega))))) rfl) (fun h => nomatch h) (fun _ H3 e3 => ?_)
        refine q_when (b := false) (et_is (et_test (ev_op (ev_var rfl) ev_c rv_isN)) rfl) (fun h => nomatch h) (fun _ H4 e4 => ?_)
        have e04 : Ex H H4 := (((e1.trans e2).trans ex).trans e3).trans e4
        have e24 : Ex H2 H4 := (ex.trans e3).trans e4
        have hxl4 := e24 _ _ h2
        have hlp : l ≠ p := (hb.ex e1).ne nl |>.1
        have hrx4 : Rel (PrAt H4) xs ps := hr2.mono fun _ _ r => TupAt.ex r e24
        refine rd_call (ea_cons (ev_var rfl) (ea_cons (ev_var rfl) ea_nil)) fun H5 e5 => ⟨p, l0, l, n, xs, ps, rfl, hb.ex (e04.trans e5), by omega, e5 _ _ hxl4, hlp, hrx4.mono (fun _ _ r => TupAt.ex r e5), by omega, by omega, fun lt ts H6 nlt b6 k6 ht htl => ?_⟩
        have k05 : Keep p H H5 := Keep.of (e04.trans e5)
        have hx6 := k6 _ _ hlp (e5 _ _ hxl4)
        have hrx6 : Rel (PrAt H6) xs ps := hrx4.mono fun v o r => by
          obtain ⟨t, rfl, ht⟩ := r
          refine ⟨t, rfl, k6 _ _ (fun e => ?_) (e5 _ _ ht)⟩
          obtain ⟨ys, g⟩ := (hb.ex e04).has
          rw [e, g] at ht
          cases ht
        refine ⟨lt, rfl, ⟨_, sq_of ht⟩, for_list (xs := ts.map V.int) (fun i σ' H' => (∃ v5 v6 v7, σ' = [some (.ref p), some (.str z), some (.bl nm), some (.ref l), some (.ref l2), v5, v6, v7]) ∧ Ex H6 H') ⟨⟨none, none, none, rfl⟩, Ex.refl H6⟩ (fun i σ' H' _ pv => sq_of (pv.2 _ _ ht)) (fun i x σ' H' hi pv => ?_) (fun σ' H' pv => ?_)⟩
        · obtain ⟨⟨v5, v6, v7, rfl⟩, e⟩ := pv
          obtain ⟨tt, rfl, _⟩ := ints_in (List.mem_of_getElem? hi)
          refine q_asgL (el_list (ev_var rfl) (sq_of (e _ _ hx6))) fun hn' H7 nhn e7 h7 => ?_
          refine q_tailIf (fun σ1 Hx => ∃ rl zs, σ1 = [some (.ref p), some (.str z), some (.bl nm), some (.ref l), some (.ref l2), some (.int tt), some (.ref hn'), some (.ref rl)] ∧ Ex H7 Hx ∧ Hx rl = some (.lst zs) ∧ Rel (IpAt Hx) zs (resAll ps tt)) (fun σ1 Hx hR => ?_) (fun tail2 => ?_)
          · obtain ⟨rl, zs, rfl, ex7, hz7, hrz⟩ := hR
            have e6x := (e.trans e7).trans ex7
            have hrxx : Rel (PrAt Hx) xs ps := hrx6.mono fun _ _ r => TupAt.ex r e6x
            have hzl : zs.length ≤ 20 := by
              rw [hrz.1]
              unfold resAll
              exact Nat.le_trans (List.length_filter_le _ _) (by rw [List.length_map]; exact hw.2.2)
            refine s_when (b := false) (et_is (et_or (a := false) (et_is (et_not (et_B (b := true) ?_)) rfl) fun _ => et_is (b := false) (et_not (et_B (ev_call (ea_cons (ev_var rfl) (ea_cons (ev_var rfl) ea_nil)) (sv_sameR (ex7 _ _ h7) (e6x _ _ hx6) hrxx hrxx (by omega))))) rfl) rfl) (fun h => nomatch h) (fun _ H8 e8 => ⟨⟨_, _, _, rfl⟩, e6x.trans e8⟩)
            intro H8 e8 Q' q'
            refine ⟨.ref rl, rfl, rd_call (ea_cons (ev_var rfl) (ea_cons (ev_var rfl) ea_nil)) fun H9 e9 => ⟨l, xs, ps, tt, rfl, sq_of ((e6x.trans (e8.trans e9)) _ _ hx6), hrxx.mono (fun _ _ r => TupAt.ex r (e8.trans e9)), hw.1, by omega, fun l3 ys3 H10 nl3 e10 h10 r10 => ?_⟩⟩
            exact ⟨rl, l3, zs, ys3, resAll ps tt, rfl, (e8.trans (e9.trans e10)) _ _ hz7, h10, hrz.mono (fun _ _ r => TupAt.ex r (e8.trans (e9.trans e10))), r10, by omega, fun H11 e11 => q' H11 (e9.trans (e10.trans e11))⟩
          · have hrx7 : Rel (PrAt H7) xs ps := hrx6.mono fun _ _ r => TupAt.ex r (e.trans e7)
            refine q_if (b := nm) (et_truB (ev_var rfl)) (fun _ H8 e8 => ?_) (fun _ H8 e8 => ?_)
            · exact rd_callN (ea_cons (ev_var rfl) (ea_cons (ev_var rfl) ea_nil)) rfl fun H9 e9 => ⟨hn', xs, ps, tt, rfl, sq_of ((e8.trans e9) _ _ h7), hrx7.mono (fun _ _ r => TupAt.ex r (e8.trans e9)), hw.1, by omega, fun rl zs H10 nrl e10 h10 r10 => tail2 _ _ ⟨rl, zs, rfl, e8.trans (e9.trans e10), h10, r10⟩⟩
            · exact rd_call (ea_cons (ev_var rfl) (ea_cons (ev_var rfl) ea_nil)) fun H9 e9 => ⟨hn', xs, ps, tt, rfl, sq_of ((e8.trans e9) _ _ h7), hrx7.mono (fun _ _ r => TupAt.ex r (e8.trans e9)), hw.1, by omega, fun rl zs H10 nrl e10 h10 r10 => tail2 _ _ ⟨rl, zs, rfl, e8.trans (e9.trans e10), h10, r10⟩⟩
        · obtain ⟨⟨v5, v6, v7, rfl⟩, e⟩ := pv
          dsimp only
          exact s_ret ev_c fun H7 e7 => q H7 ((b6.ex (e.trans e7)).mono (by omega)) (k05.trans (k6.trans (Keep.of (e.trans e7))))
      · refine q_if (b := nm) (et_truB (ev_var rfl)) (fun _ H3 e3 => ?_) (fun _ H3 e3 => ?_)
        · exact rd_callN (ea_cons (ev_var rfl) ea_nil) rfl fun H4 e4 => ⟨z, rfl, hz, (fun hn => by rw [hn] at hps; cases hps), fun ps' hps' l2 ys H5 nl2 e5 h5 r5 => tail _ _ ⟨l2, ys, rfl, (e3.trans e4).trans e5, h5, by rw [hps] at hps'; cases hps'; exact r5⟩⟩
        · exact rd_call (ea_cons (ev_var rfl) ea_nil) fun H4 e4 => ⟨z, rfl, hz, (fun hn => by rw [hn] at hps; cases hps), fun ps' hps' l2 ys H5 nl2 e5 h5 r5 => tail _ _ ⟨l2, ys, rfl, (e3.trans e4).trans e5, h5, by rw [hps] at hps'; cases hps'; exact r5⟩⟩
theorem ok_law (T : Mg mg) (c_law_source : Call P w K mg base 1 "_law_source" ["script"] (spSource K)) (c_law_draw : CSrc P w K mg base) (c_law_wish : Call P w K mg base 4 "_law_wish" ["source", "most"] spWish) (c_law_bent : Call P w K mg base 3 "_law_bent" ["source", "wish"] spBent) (c_law_asks : Call P w K mg base 5 "_law_asks" ["source", "wish", "named"] spAsks)
    (F : FnP K "law" s_law f fd) : FnOk P w K mg base CX0 6 f fd ["script"] (spLaw16 K) := by
  refine mkF F sc_law (fun vs H Q E h => ?_) (fun cdv A outer s H vs Q E hr h => ?_)
  · obtain ⟨a, ns, rfl, _⟩ := h
    rfl
  · obtain ⟨a, ns, rfl, hS, hl, hbits, q⟩ := h
    refine ⟨_, (pss_cons (ps_set (i := 1) sc_law.nd rfl (Or.inl rfl) (pe_f c_law_source hr (by decide) rfl (pa_cons (pv 0) pa_nil)))
    (pss_cons (ps_set (i := 2) sc_law.nd rfl (Or.inl rfl) (pe_f c_law_wish hr (by decide) rfl (pa_cons (pv 1) (pa_cons (pe_ix ix_list (pe_lst (pa_cons pe_int (pa_cons pe_int (pa_cons pe_int (pa_cons pe_int pa_nil))))) (pe_f c_law_draw hr (by decide) rfl (pa_cons (pv 1) (pa_cons pe_int pa_nil))) (fun _ _ => rfl)) pa_nil))))
    (pss_cons (ps_set (i := 3) sc_law.nd rfl (Or.inl rfl) (pe_cmpR op_eq (pe_f c_law_draw hr (by decide) rfl (pa_cons (pv 1) (pa_cons pe_int pa_nil))) pe_int (nomark _)))
    (pss_cons (ps_if (pt_not (pt_val (pe_f c_law_asks hr (by decide) rfl (pa_cons (pv 1) (pa_cons (pv 2) (pa_cons (pv 3) pa_nil))))))
      (pss_one (ps_ret pe_bl))
      pss_nil)
    (pss_one (ps_ret (pe_f c_law_asks hr (by decide) rfl (pa_cons (pv 1) (pa_cons (pe_f c_law_bent hr (by decide) rfl (pa_cons (pv 1) (pa_cons (pv 2) pa_nil))) (pa_cons (pe_not (pv 3)) pa_nil)))))))))), ?_⟩
    refine rd_call (ea_cons (ev_var rfl) ea_nil) fun H1 e1 => ⟨a, ns, rfl, ex_l e1 hS, hl, hbits, fun p l0 H2 np e2 b2 => ?_⟩
    refine ⟨.ref p, rfl, by show 4 ≤ sizeLine; decide, fun m nm => ?_⟩
    have hne := b2.ne nm
    have b3 := b2.upd (o := .lst ([12, 40, 300, 1000000].map V.int)) hne
    refine rd_call (ea_cons (ev_var rfl) (ea_cons ev_c ea_nil)) fun H4 e4 => ⟨p, l0, 4, _, rfl, b3.ex e4, by omega, by decide, by decide, fun d H5 d0 d1 b5 k5 => ?_⟩
    have hm5 : H5 m = some (.lst ([12, 40, 300, 1000000].map V.int)) := k5 _ _ hne.1 (e4 _ _ upd_same)
    obtain ⟨v, hv, hvm⟩ := at_int (xs := [12, 40, 300, 1000000].map V.int) d0 d1
    obtain ⟨j, rfl, hj⟩ := ints_in hvm
    have hj2 : 1 ≤ j ∧ j ≤ 1000000 := by
      simp only [List.mem_cons, List.not_mem_nil, or_false] at hj
      omega
    refine ⟨m, _, d, _, rfl, rfl, sq_of hm5, hv, p, l0, _, j, rfl, b5, by omega, hj2.1, hj2.2, fun z H6 hz b6 k6 => ?_⟩
    refine rd_call (ea_cons (ev_var rfl) (ea_cons ev_c ea_nil)) fun H7 e7 => ⟨p, l0, 2, _, rfl, b6.ex e7, by omega, by decide, by decide, fun d2 H8 _ _ b8 k8 => ⟨rfl, ?_⟩⟩
    generalize decide (V.int d2 = V.int 1) = nmd
    refine rd_call (ea_cons (ev_var rfl) (ea_cons (ev_var rfl) (ea_cons (ev_var rfl) ea_nil))) fun H9 e9 => ⟨p, l0, _, z, nmd, rfl, b8.ex e9, by omega, by omega, fun H10 b10 k10 => ⟨true, rfl, iteF ?_⟩⟩
    refine ⟨.ref p, rfl, rd_call (ea_cons (ev_var rfl) (ea_cons (ev_var rfl) ea_nil)) fun H11 e11 => ⟨p, l0, _, z, rfl, b10.ex e11, by omega, by omega, fun t H12 ht b12 k12 => ?_⟩⟩
    refine (ev_notV (ev_var rfl)) H12 (Ex.refl H12) _ fun H13 e13 => ⟨p, l0, _, t, !nmd, rfl, b12.ex e13, by omega, ht, fun H14 _ _ => q H14⟩
end
end Z
set_option maxHeartbeats 0
namespace Z
open PySem PySem.Spec PyProof.Rows L2
/-! ### the head: facts by names, the run -/
def d_consists_of : He.DefD := ⟨("consists_of", none), "consists_of", "consists_of", L2.defArgs s_consists_of, L2.defBody s_consists_of, L2.defScope s_consists_of, [], []⟩
def d_list_elements : He.DefD := ⟨("list_elements", none), "list_elements", "list_elements", L2.defArgs s_list_elements, L2.defBody s_list_elements, L2.defScope s_list_elements, [], []⟩
def d_read_number : He.DefD := ⟨("read_number", none), "read_number", "read_number", L2.defArgs s_read_number, L2.defBody s_read_number, L2.defScope s_read_number, [], []⟩
def d_read_ranges : He.DefD := ⟨("read_ranges", none), "read_ranges", "read_ranges", L2.defArgs s_read_ranges, L2.defBody s_read_ranges, L2.defScope s_read_ranges, [], []⟩
def d_read_range : He.DefD := ⟨("read_range", none), "read_range", "read_range", L2.defArgs s_read_range, L2.defBody s_read_range, L2.defScope s_read_range, [], []⟩
def d_resolve : He.DefD := ⟨("resolve", none), "resolve", "resolve", L2.defArgs s_resolve, L2.defBody s_resolve, L2.defScope s_resolve, [], []⟩
def d_resolve_range : He.DefD := ⟨("resolve_range", none), "resolve_range", "resolve_range", L2.defArgs s_resolve_range, L2.defBody s_resolve_range, L2.defScope s_resolve_range, [], []⟩
def d_law_source : He.DefD := ⟨("_law_source", none), "_law_source", "_law_source", L2.defArgs s_law_source, L2.defBody s_law_source, L2.defScope s_law_source, [], []⟩
def d_law_mixed : He.DefD := ⟨("_law_mixed", none), "_law_mixed", "_law_mixed", L2.defArgs s_law_mixed, L2.defBody s_law_mixed, L2.defScope s_law_mixed, [], []⟩
def d_law_draw : He.DefD := ⟨("_law_draw", none), "_law_draw", "_law_draw", L2.defArgs s_law_draw, L2.defBody s_law_draw, L2.defScope s_law_draw, [], []⟩
def d_law_integer : He.DefD := ⟨("_law_integer", none), "_law_integer", "_law_integer", L2.defArgs s_law_integer, L2.defBody s_law_integer, L2.defScope s_law_integer, [], []⟩
def d_law_same_pairs : He.DefD := ⟨("_law_same_pairs", none), "_law_same_pairs", "_law_same_pairs", L2.defArgs s_law_same_pairs, L2.defBody s_law_same_pairs, L2.defScope s_law_same_pairs, [], []⟩
def d_law_number : He.DefD := ⟨("_law_number", none), "_law_number", "_law_number", L2.defArgs s_law_number, L2.defBody s_law_number, L2.defScope s_law_number, [], []⟩
def d_law_range : He.DefD := ⟨("_law_range", none), "_law_range", "_law_range", L2.defArgs s_law_range, L2.defBody s_law_range, L2.defScope s_law_range, [], []⟩
def d_law_ranges : He.DefD := ⟨("_law_ranges", none), "_law_ranges", "_law_ranges", L2.defArgs s_law_ranges, L2.defBody s_law_ranges, L2.defScope s_law_ranges, [], []⟩
def d_law_odd : He.DefD := ⟨("_law_odd", none), "_law_odd", "_law_odd", L2.defArgs s_law_odd, L2.defBody s_law_odd, L2.defScope s_law_odd, [], []⟩
def d_law_element : He.DefD := ⟨("_law_element", none), "_law_element", "_law_element", L2.defArgs s_law_element, L2.defBody s_law_element, L2.defScope s_law_element, [], []⟩
def d_law_wish : He.DefD := ⟨("_law_wish", none), "_law_wish", "_law_wish", L2.defArgs s_law_wish, L2.defBody s_law_wish, L2.defScope s_law_wish, [], []⟩
def d_law_bent : He.DefD := ⟨("_law_bent", none), "_law_bent", "_law_bent", L2.defArgs s_law_bent, L2.defBody s_law_bent, L2.defScope s_law_bent, [], []⟩
def d_law_same_side : He.DefD := ⟨("_law_same_side", none), "_law_same_side", "_law_same_side", L2.defArgs s_law_same_side, L2.defBody s_law_same_side, L2.defScope s_law_same_side, [], []⟩
def d_law_same_ranges : He.DefD := ⟨("_law_same_ranges", none), "_law_same_ranges", "_law_same_ranges", L2.defArgs s_law_same_ranges, L2.defBody s_law_same_ranges, L2.defScope s_law_same_ranges, [], []⟩
def d_law_resolved : He.DefD := ⟨("_law_resolved", none), "_law_resolved", "_law_resolved", L2.defArgs s_law_resolved, L2.defBody s_law_resolved, L2.defScope s_law_resolved, [], []⟩
def d_law_totals : He.DefD := ⟨("_law_totals", none), "_law_totals", "_law_totals", L2.defArgs s_law_totals, L2.defBody s_law_totals, L2.defScope s_law_totals, [], []⟩
def d_law_asks : He.DefD := ⟨("_law_asks", none), "_law_asks", "_law_asks", L2.defArgs s_law_asks, L2.defBody s_law_asks, L2.defScope s_law_asks, [], []⟩
def d_law : He.DefD := ⟨("law", none), "law", "law", L2.defArgs s_law, L2.defBody s_law, L2.defScope s_law, [], []⟩
def fns : List He.DefD := [d_consists_of, d_list_elements, d_read_number, d_read_ranges, d_read_range, d_resolve, d_resolve_range, d_law_source, d_law_mixed, d_law_draw, d_law_integer, d_law_same_pairs, d_law_number, d_law_range, d_law_ranges, d_law_odd, d_law_element, d_law_wish, d_law_bent, d_law_same_side, d_law_same_ranges, d_law_resolved, d_law_totals, d_law_asks, d_law]
def fas : List He.Fa := [.glo "consists_of", .glo "list_elements", .glo "read_number", .glo "read_ranges", .glo "read_range", .glo "resolve", .glo "resolve_range", .glo "_law_source", .glo "_law_mixed", .glo "_law_draw", .glo "_law_integer", .glo "_law_same_pairs", .glo "_law_number", .glo "_law_range", .glo "_law_ranges", .glo "_law_odd", .glo "_law_element", .glo "_law_wish", .glo "_law_bent", .glo "_law_same_side", .glo "_law_same_ranges", .glo "_law_resolved", .glo "_law_totals", .glo "_law_asks", .glo "law", .free "len", .free "any", .free "max", .free "min", .free "isinstance", .free "range", .free "int", .free "bool", .free "list", .free "str", .free "tuple", .str "DIGITS" "0123456789", .int "MOST_DIGITS" 6, .int "MOST_RANGES" 20]
abbrev R : PySem.W.OpenRow := PySem.W.OpenLaw.row PySem.Challenge.rw_hopkeep_k16_wanted_ranges
abbrev hk : PySem.W.Hook := He.hookD 4 fas fns
def ob (s : PySem.W.SharedT) : He.AlD := He.obsDG 4 fas fns (HandSHeadRun.getT s)
theorem ob_eq (s : PySem.W.SharedT) : ob s = hk.obs s.abs := He.obsDG_eq (HandSHeadRun.getT_eq s)
def others : List Str := (["DIGITS", "MOST_DIGITS", "MOST_RANGES", "consists_of", "list_elements", "read_number", "read_ranges", "read_range", "resolve", "resolve_range", "_law_source", "_law_mixed", "_law_draw", "_law_integer", "_law_same_pairs", "_law_number", "_law_range", "_law_ranges", "_law_odd", "_law_element"] : List Str) ++ (["_law_wish", "_law_bent", "_law_same_side", "_law_same_ranges", "_law_resolved", "_law_totals", "_law_asks"] : List Str)
theorem run (w : World) : HandSHeadRun.RunEq R (PySem.W.view R.prog [30]) hk ob 4000 others w := by
  intro os
  kernel_rfl
theorem facts {P : Program} {w : World} {K : PySem.W.Frag} {h : Heap} {mg : Str → Option Value} {f : Addr} (X : K.In h) (G : h.Ns mainGlobals mg) (hfa : mg ("law" : Str) = some (.ref f)) (c : He.SaysD fas fns K) :
    ∃ fd : FuncData, (∀ (s : Shared) (v : Value), BindsTo s fd ⟨[v], []⟩ [("script", v)]) ∧ ∀ base : Heap, K.In base → base.Ns mainGlobals mg → FnOk P w K mg base CX0 6 f fd ["script"] (spLaw16 K) := by
  obtain ⟨fd0, F0⟩ := c.def_ 0 (d := d_consists_of) rfl
  obtain ⟨fd1, F1⟩ := c.def_ 1 (d := d_list_elements) rfl
  obtain ⟨fd2, F2⟩ := c.def_ 2 (d := d_read_number) rfl
  obtain ⟨fd3, F3⟩ := c.def_ 3 (d := d_read_ranges) rfl
  obtain ⟨fd4, F4⟩ := c.def_ 4 (d := d_read_range) rfl
  obtain ⟨fd5, F5⟩ := c.def_ 5 (d := d_resolve) rfl
  obtain ⟨fd6, F6⟩ := c.def_ 6 (d := d_resolve_range) rfl
  obtain ⟨fd7, F7⟩ := c.def_ 7 (d := d_law_source) rfl
  obtain ⟨fd8, F8⟩ := c.def_ 8 (d := d_law_mixed) rfl
  obtain ⟨fd9, F9⟩ := c.def_ 9 (d := d_law_draw) rfl
  obtain ⟨fd10, F10⟩ := c.def_ 10 (d := d_law_integer) rfl
  obtain ⟨fd11, F11⟩ := c.def_ 11 (d := d_law_same_pairs) rfl
  obtain ⟨fd12, F12⟩ := c.def_ 12 (d := d_law_number) rfl
  obtain ⟨fd13, F13⟩ := c.def_ 13 (d := d_law_range) rfl
  obtain ⟨fd14, F14⟩ := c.def_ 14 (d := d_law_ranges) rfl
  obtain ⟨fd15, F15⟩ := c.def_ 15 (d := d_law_odd) rfl
  obtain ⟨fd16, F16⟩ := c.def_ 16 (d := d_law_element) rfl
  obtain ⟨fd17, F17⟩ := c.def_ 17 (d := d_law_wish) rfl
  obtain ⟨fd18, F18⟩ := c.def_ 18 (d := d_law_bent) rfl
  obtain ⟨fd19, F19⟩ := c.def_ 19 (d := d_law_same_side) rfl
  obtain ⟨fd20, F20⟩ := c.def_ 20 (d := d_law_same_ranges) rfl
  obtain ⟨fd21, F21⟩ := c.def_ 21 (d := d_law_resolved) rfl
  obtain ⟨fd22, F22⟩ := c.def_ 22 (d := d_law_totals) rfl
  obtain ⟨fd23, F23⟩ := c.def_ 23 (d := d_law_asks) rfl
  obtain ⟨fd24, F24⟩ := c.def_ 24 (d := d_law) rfl
  have g0 := He.glo_ok X G (c.fact 0 (f := .glo "consists_of") rfl)
  have g1 := He.glo_ok X G (c.fact 1 (f := .glo "list_elements") rfl)
  have g2 := He.glo_ok X G (c.fact 2 (f := .glo "read_number") rfl)
  have g3 := He.glo_ok X G (c.fact 3 (f := .glo "read_ranges") rfl)
  have g4 := He.glo_ok X G (c.fact 4 (f := .glo "read_range") rfl)
  have g5 := He.glo_ok X G (c.fact 5 (f := .glo "resolve") rfl)
  have g6 := He.glo_ok X G (c.fact 6 (f := .glo "resolve_range") rfl)
  have g7 := He.glo_ok X G (c.fact 7 (f := .glo "_law_source") rfl)
  have g8 := He.glo_ok X G (c.fact 8 (f := .glo "_law_mixed") rfl)
  have g9 := He.glo_ok X G (c.fact 9 (f := .glo "_law_draw") rfl)
  have g10 := He.glo_ok X G (c.fact 10 (f := .glo "_law_integer") rfl)
  have g11 := He.glo_ok X G (c.fact 11 (f := .glo "_law_same_pairs") rfl)
  have g12 := He.glo_ok X G (c.fact 12 (f := .glo "_law_number") rfl)
  have g13 := He.glo_ok X G (c.fact 13 (f := .glo "_law_range") rfl)
  have g14 := He.glo_ok X G (c.fact 14 (f := .glo "_law_ranges") rfl)
  have g15 := He.glo_ok X G (c.fact 15 (f := .glo "_law_odd") rfl)
  have g16 := He.glo_ok X G (c.fact 16 (f := .glo "_law_element") rfl)
  have g17 := He.glo_ok X G (c.fact 17 (f := .glo "_law_wish") rfl)
  have g18 := He.glo_ok X G (c.fact 18 (f := .glo "_law_bent") rfl)
  have g19 := He.glo_ok X G (c.fact 19 (f := .glo "_law_same_side") rfl)
  have g20 := He.glo_ok X G (c.fact 20 (f := .glo "_law_same_ranges") rfl)
  have g21 := He.glo_ok X G (c.fact 21 (f := .glo "_law_resolved") rfl)
  have g22 := He.glo_ok X G (c.fact 22 (f := .glo "_law_totals") rfl)
  have g23 := He.glo_ok X G (c.fact 23 (f := .glo "_law_asks") rfl)
  have g24 := He.glo_ok X G (c.fact 24 (f := .glo "law") rfl)
  have T : Mg mg := ⟨He.free_ok X G (c.fact 25 (f := .free "len") rfl),
    He.free_ok X G (c.fact 26 (f := .free "any") rfl),
    He.free_ok X G (c.fact 27 (f := .free "max") rfl),
    He.free_ok X G (c.fact 28 (f := .free "min") rfl),
    He.free_ok X G (c.fact 29 (f := .free "isinstance") rfl),
    He.free_ok X G (c.fact 30 (f := .free "range") rfl),
    He.free_ok X G (c.fact 31 (f := .free "int") rfl),
    He.free_ok X G (c.fact 32 (f := .free "bool") rfl),
    He.free_ok X G (c.fact 33 (f := .free "list") rfl),
    He.free_ok X G (c.fact 34 (f := .free "str") rfl),
    He.free_ok X G (c.fact 35 (f := .free "tuple") rfl),
    (by obtain ⟨t, e⟩ := He.str_ok X G (c.fact 36 (f := .str "DIGITS" "0123456789") rfl); exact ⟨_, e, t, rfl⟩),
    (by obtain ⟨t, e⟩ := He.int_ok X G (c.fact 37 (f := .int "MOST_DIGITS" 6) rfl); exact ⟨_, e, t, rfl⟩),
    (by obtain ⟨t, e⟩ := He.int_ok X G (c.fact 38 (f := .int "MOST_RANGES" 20) rfl); exact ⟨_, e, t, rfl⟩)⟩
  have e := hfa.symm.trans g24
  cases e
  refine ⟨fd24, fun s v => (FunD.bindsA (ps := ["script"]) F24 fun _ _ _ _ _ _ us hl => match us, hl with | [_], _ => rfl) s [v] rfl, fun base _ _ => ?_⟩
  have c_consists_of := ok_consists_of (P := P) (w := w) (base := base) T  F0 g0
  have c_list_elements := ok_list_elements (P := P) (w := w) (base := base) T  F1 g1
  have c_read_number := ok_read_number (P := P) (w := w) (base := base) T c_consists_of F2 g2
  have c_read_range := ok_read_range (P := P) (w := w) (base := base) T c_read_number F4 g4
  have c_read_ranges := ok_read_ranges (P := P) (w := w) (base := base) T c_list_elements c_read_range F3 g3
  have c_resolve_range := ok_resolve_range (P := P) (w := w) (base := base) T  F6 g6
  have c_resolve := ok_resolve (P := P) (w := w) (base := base) T c_resolve_range F5 g5
  have c_law_integer := ok_law_integer1 (P := P) (w := w) (base := base) T  F10 g10
  have c_law_same_pairs := ok_law_same_pairs (P := P) (w := w) (base := base) T c_law_integer F11 g11
  have c_law_number := ok_law_number2 (P := P) (w := w) (base := base) T  F12 g12
  have c_law_range := ok_law_range (P := P) (w := w) (base := base) T c_law_number F13 g13
  have c_law_ranges := ok_law_ranges (P := P) (w := w) (base := base) T c_law_range F14 g14
  have c_law_same_side := ok_law_same_side (P := P) (w := w) (base := base) T c_law_integer F19 g19
  have c_law_same_ranges := ok_law_same_ranges (P := P) (w := w) (base := base) T c_law_same_side F20 g20
  have c_law_resolved := ok_law_resolved (P := P) (w := w) (base := base) T  F21 g21
  have c_law_source := ok_law_source (P := P) (w := w) (base := base) T  F7 g7
  have c_law_mixed := ok_law_mixed (P := P) (w := w) (base := base) T  F8 g8
  have c_law_draw := ok_law_draw3 (P := P) (w := w) (base := base) T c_law_mixed F9 g9
  have c_law_odd := ok_law_odd (P := P) (w := w) (base := base) T  F15 g15
  have c_law_element := ok_law_element (P := P) (w := w) (base := base) T c_law_draw c_law_odd F16 g16
  have c_law_wish := ok_law_wish (P := P) (w := w) (base := base) T c_law_draw c_law_element F17 g17
  have c_law_bent := ok_law_bent (P := P) (w := w) (base := base) T c_law_draw F18 g18
  have c_law_totals := ok_law_totals (P := P) (w := w) (base := base) T c_law_draw F22 g22
  have c_law_asks := ok_law_asks (P := P) (w := w) (base := base) T c_law_ranges c_read_ranges c_law_same_ranges c_law_totals c_resolve c_law_same_pairs c_law_resolved F23 g23
  exact ok_law T c_law_source c_law_draw c_law_wish c_law_bent c_law_asks F24
end Z
open PySem PySem.W PySem.Calls PyProof.Rows
set_option maxRecDepth 100000 in
set_option maxHeartbeats 0 in
theorem PySem.Challenge.cw_hopkeep_k16_wanted_ranges_holds : PySem.Challenge.rw_hopkeep_k16_wanted_ranges.Holds := by
  w_on; o_law
  refine HandSHeadRun.head_any (r := Z.R) (q := view Z.R.prog [30]) (H := Z.hk) (ob := Z.ob) (M := 4000) (loose := Z.others) (d := HandSHeadRun.topDef Z.R.prog 30) (kwd := []) Z.ob_eq (by kernel_rfl) (fun s => by kernel_rfl) Z.run
    (by kernel_rfl) (by kernel_rfl) (by kernel_rfl) (by rfl) (by first | assumption | decide +kernel) (by decide +kernel) ⟨rfl, rfl, rfl, rfl, rfl, by decide +kernel⟩ ?hw ?hc
  case hw => w_witness2
  case hc =>
    refine LamX.walk_ofTsE (l := PySem.Challenge.rw_hopkeep_k16_wanted_ranges) (n := 63) (k := 6) (x := "script") (CX := fun _ => L2.CX0) rfl (by decide) (by kernel_rfl) ⟨rfl, by decide, by decide⟩ ?F (fun _ _ _ _ _ z => z)
    intro w mg fa h Y G hmg0
    obtain ⟨K, KX, c⟩ := Y
    have hmg : mg ("law" : PySem.Str) = some (.ref fa) := by
      have e : (HandSHeadRun.topDef Z.R.prog 30).name = ("law" : PySem.Str) := by kernel_rfl
      rw [← e]
      exact hmg0
    obtain ⟨fd, hb, hF⟩ := Z.facts (P := Z.R.prog) (w := w) KX G hmg c
    exact ⟨K, KX, fd, [], Z.spLaw16 K, (fun p hp => nomatch hp), (fun p hp => nomatch hp), (fun p hp => nomatch hp), hb, fun H a ns hl hz _ hS => ⟨a, ns, rfl, hS, hl, fun z hm => Z.bits_lt (n := Z.cap) (hz z hm), fun _ => rfl⟩, fun base h1 h2 _ => hF base h1 h2⟩
#print axioms PySem.Challenge.cw_hopkeep_k16_wanted_ranges_holds
