import PyProof.Rows.All
import Wide.All
import OpenK.AllK
import Wide.FinOn
import PyProof.ReprRoads
import KE.KExcIs
import HandS.Base
import HandS.Call
import HandS.List
import HandS.Comp
import HandS.Ends
import HandS.Words
import HandS.Dict
import HandS.Iter
import HandS.Text
import HandS.Evl
import HandS.IsInst
import HandS.Walk
import HandS.More
import HandS.TupAny
import HandS.OwnEq
import HandS.SlotsOwn
import HandS.Exc
import HandS.ExcInit
import HandS.ExcField
import HandS.WordsExc
import HandS.CallSlots
import HandS.Strs
import HandS.Conv
import HandS.RaiseMore
import HandS.Style
import HandS.ExcIs
import HandS.MakeKw
import HandS.MakeKwOnly
import PyProof.ExcBaseAll.LookupError
import PyProof.Rows.FactsExc_KeyError
import PyProof.ExcBaseAll.RuntimeError
import PyProof.ExcBaseAll.OverflowError
import HandS.TupMul
import HandS.TupLe
import HandS.DictComp
import HandS.LawCells
import HandS.Small
import HandS.TryMany
import HandS.TryOnly
import HandS.GenBody
import HandS.GenYield
import HandS.GenCall
import HandS.GenList
import HandS.ListEq
import HandS.DictEq
import HandS.WordsDict
import HandS.Zip
import HandS.Zip0
import KE.KStateDown
import HandS.Defaults
import HandS.Head0
import HandS.Head1
import HandS.Head2
import HandS.HeadEnd
import HandS.HeadHook1
import HandS.HeadHook2
import HandS.HeadHook3
import HandS.HeadHook4
import HandS.ExcOwn
import HandS.MapJoin
import PyProof.ExcBaseAll.Exception
import HandS.ExcInitHot
import KE.KDictKeyed
import PySem.Challenge.RW_steadycalls_k79_whole_terms_as_texts
set_option Elab.async false
set_option linter.all false
set_option maxRecDepth 100000
set_option maxHeartbeats 4000000
namespace Sc
open PySem PySem.Spec PyProof.Rows L2
def topS (i : Nat) : Stmt := PySem.Challenge.pw_steadycalls_k79_whole_terms_as_texts.main.body.getD i (.Pass ⟨0, 0, 0, 0⟩)
/-! ### the head: what the top has left, looked at in the kernel -/
namespace Hd
open He
theorem at_ {l : List Bool} (c : l.all id = true) (i : Nat) {b : Bool} (h : l[i]? = some b) : b = true := List.all_eq_true.mp c b (List.mem_of_getElem? h)
theorem fun_of {K : PySem.W.Frag} {x q : Str} {st : Stmt} {f : Addr} {fd : FuncData} (D : FunD K x q (defArgs st) (defBody st) (defScope st) [] [] f fd) : Fun K x q st f fd := by
  obtain ⟨oc, od, dV, kV, doc, pm, an, cdv, ct, osl, rfl, lk, hcd, dl, _⟩ := D.ex
  rcases dl with ⟨_, rfl⟩ | ⟨h, _⟩
  · exact ⟨⟨oc, od, kV, doc, pm, an, cdv, ct, osl, rfl, lk, hcd⟩, D.kp⟩
  · exact absurd rfl h
theorem dfl0 {K : PySem.W.Frag} {dV : Value} (h : DflV K dV []) : dV = .none := by
  rcases h with ⟨_, e⟩ | ⟨h, _⟩
  · exact e
  · exact absurd rfl h
/-- a number of the module -/
def intB (K : PySem.W.Frag) (x : Str) (i : Int) : Bool := match PySem.W.nsIn K mainGlobals x with
  | some (some (.int j _)) => decide (j = i)
  | _ => false
theorem int_at {K : PySem.W.Frag} {x : Str} {i : Int} (c : intB K x i = true) : ∃ t, PySem.W.nsIn K mainGlobals x = some (some (.int i t)) := by
  unfold intB at c
  cases e : PySem.W.nsIn K mainGlobals x with
  | none =>
    rw [e] at c
    cases c
  | some o =>
    cases o with
    | none =>
      rw [e] at c
      cases c
    | some v =>
      rw [e] at c
      cases v with
      | int j t =>
        have ej : j = i := of_decide_eq_true c
        exact ⟨t, by rw [ej]⟩
      | _ => cases c
/-- a tuple of the module -/
def tupB (K : PySem.W.Frag) (a : Addr) (vs : List V) : Bool := match K.lookup a with
  | some ⟨.type c, none, .seq its _, _⟩ => decide (c = "tuple") && (decide (its.size ≤ sizeLine) && relAll vs its.toList)
  | _ => false
theorem tup_at {K : PySem.W.Frag} {a : Addr} {vs : List V} (h : Hd.tupB K a vs = true) : ∃ (its : Array Value) (n : Nat) (sl : Array (Option Value)), K.lookup a = some ⟨.type "tuple", none, .seq its n, sl⟩ ∧ its.size ≤ sizeLine ∧ Vals vs its.toList := by
  unfold Hd.tupB at h
  cases q : K.lookup a with
  | none =>
    rw [q] at h
    cases h
  | some o =>
    obtain ⟨oc, od, dt, osl⟩ := o
    rw [q] at h
    cases oc with
    | type c =>
      cases od with
      | none =>
        cases dt with
        | seq its n =>
          obtain ⟨h1, h2⟩ := ba (show (decide (c = "tuple") && (decide (its.size ≤ sizeLine) && relAll vs its.toList)) = true from h)
          obtain ⟨h3, h4⟩ := ba h2
          have e : c = "tuple" := of_decide_eq_true h1
          rw [e]
          exact ⟨its, n, osl, rfl, of_decide_eq_true h3, relAll_ok h4⟩
        | _ => cases h
      | some d => cases dt <;> cases h
    | _ => cases od <;> cases dt <;> cases h
/-- a class of errors -/
def excB (K : PySem.W.Frag) (C : Addr) (bm : List Value) (newId : String) : Bool := match K.lookup C with
  | some ⟨.type "type", _, .cls cd, sl⟩ => (match cd.mro, sl.toList with
    | .ref C' :: bm', [_, _, _, _, some (.builtin n), _] => C' == C && n == newId && !cd.hasDel && cd.hasDict && decide (bm' = bm)
    | _, _ => false)
  | _ => false
theorem exc_at {K : PySem.W.Frag} {C : Addr} {bm : List Value} {newId : String} (q : excB K C bm newId = true) :
    ∃ nm qn N bs sn sub ab col dd k0 k1 k2 k3 k5, K.lookup C = some (excClassObj nm qn C N bs bm true sn sub ab col dd k0 k1 k2 k3 k5 newId) := by
  unfold excB at q
  split at q
  · rename_i dd cd sl ho
    split at q
    · rename_i C' bm k0 k1 k2 k3 n k5 hm hs
      simp only [Bool.and_eq_true, beq_iff_eq, Bool.not_eq_true', decide_eq_true_eq] at q
      obtain ⟨⟨⟨⟨rfl, rfl⟩, hdel⟩, hdc⟩, rfl⟩ := q
      obtain ⟨nm, bs, mro, ns, qn, hd, sn, sub, ab, col, del⟩ := cd
      dsimp only at hm hdel hdc
      subst hm hdel hdc
      have hsl : sl = #[k0, k1, k2, k3, some (.builtin n), k5] := by
        obtain ⟨l⟩ := sl
        simp only at hs
        rw [hs]
      subst hsl
      exact ⟨nm, qn, ns, bs, sn, sub, ab, col, dd, k0, k1, k2, k3, k5, ho⟩
    · cases q
  · cases q
/-- what a class's look-up finds, if it is a plain value -/
def fclsB (K : PySem.W.Frag) (c m : Value) (n : Str) (b : String) : Bool := match PySem.W.findCls K c m n with
  | some (.val (.builtin x)) => decide (x = b)
  | _ => false
theorem fcls_at {K : PySem.W.Frag} {c m : Value} {n : Str} {b : String} (h : fclsB K c m n b = true) : PySem.W.findCls K c m n = some (.val (.builtin b)) := by
  unfold fclsB at h
  split at h
  · rename_i x e
    rw [e, (of_decide_eq_true h : x = b)]
  · cases h
/-- an entry of the table of lengths -/
def pairOf (e : DictEntry) : Option (Str × Int) := match e.key, e.val with
  | .str x _, .int i _ => some (x, i)
  | _, _ => none
theorem pair_at {e : DictEntry} {x : Str} {i : Int} (h : pairOf e = some (x, i)) : ∃ t, e.key = .str x t ∧ ∃ t, e.val = .int i t := by
  obtain ⟨hash, k, v⟩ := e
  cases k with
  | str y t => cases v with
    | int j u =>
      have h1 : (some (y, j) : Option (Str × Int)) = some (x, i) := h
      obtain ⟨rfl, rfl⟩ := Prod.mk.inj (Option.some.inj h1)
      exact ⟨t, rfl, u, rfl⟩
    | _ => cases h
  | _ => cases v <;> cases h
def lenRow : List (Option (Str × Int)) := [some ("tick", 1), some ("plus", 3), some ("less", 3), some ("same", 3), some ("if", 4)]
def lensB (K : PySem.W.Frag) (a : Addr) : Bool := match K.lookup a with
  | some ⟨_, _, .dict es _, _⟩ => decide (es.toList.map pairOf = lenRow) && !(es.toList.any (·.refKey))
  | _ => false
/-- what an object of the top names: a def's code and defaults, a class's names -/
def selO (o : Obj) : List Addr := match o.data with
  | .func fd => refV fd.code ++ refV fd.defaults ++ refV fd.kwdefaults
  | .cls cd => [cd.ns]
  | _ => []
def selG (g : Addr → Option Obj) (a : Addr) : List Addr := match g a with
  | some o => selO o
  | none => []
/-- the methods that are wanted -/
def metG (g : Addr → Option Obj) (ms : List Str) (a : Addr) : List Addr := match g a with
  | some ⟨_, _, .dict es _, _⟩ => es.toList.flatMap fun e => match e.key with
    | .str x _ => (match ms.contains x with
      | true => refV e.val
      | false => [])
    | _ => []
  | _ => []
def seqL {α : Type} (l : List Addr) (k : List Addr → α) : α := match l with
  | [] => k []
  | a :: r => seqL r fun z => HandSHeadRun.frNat a fun a => k (a :: z)
def asP (g : Addr → Option Obj) (rs ms : List Str) : List Addr := seqL (rs.map (ga (frG g [mainGlobals]))) fun l1 => seqL (l1.flatMap (selG g)) fun l2 => seqL (l2.flatMap (metG g ms)) fun l3 => seqL (l3.flatMap (selG g)) fun l4 => mainGlobals :: cStatics :: (l1 ++ (l2 ++ (l3 ++ l4)))
/-- what is told: the defs, the tables, the rest by one Bool -/
structure Says (fn : List DefD) (ts : List Tab) (ex : PySem.W.Frag → Bool) (w : World) (K : PySem.W.Frag) : Prop where
  t : SaysT [] fn ts w K
  more : ex K = true
def obsP (rs ms : List Str) (fn : List DefD) (ts : List Tab) (ex : PySem.W.Frag → Bool) (g : Addr → Option Obj) : AlX := (obsT [] fn ts (frG g (asP g rs ms)), ex (frG g (asP g rs ms)))
def hookP (rs ms : List Str) (fn : List DefD) (ts : List Tab) (ex : PySem.W.Frag → Bool) : PySem.W.Hook where
  α := AlX
  obs := fun s => obsP rs ms fn ts ex s.heap.get?
  val := fun w => valX fn ts w
  says := fun w h => ∃ K : PySem.W.Frag, K.In h ∧ Says fn ts ex w K
  of := fun _ _ e => ⟨_, frG_in, ⟨congrArg (fun z : AlX => z.1) e, congrArg (fun z : AlX => z.2) e⟩⟩
  keeps := fun _ _ _ ⟨K, hK, c⟩ k => ⟨K, PySem.W.Frag.In.keeps hK k, c⟩
theorem obsP_eq {rs ms : List Str} {fn : List DefD} {ts : List Tab} {ex : PySem.W.Frag → Bool} {g : Addr → Option Obj} {s : Shared} (h : ∀ a, g a = s.heap.get? a) : obsP rs ms fn ts ex g = (hookP rs ms fn ts ex).obs s := by
  have e : g = s.heap.get? := funext h
  rw [e] <;> rfl
end Hd
namespace Hd
open He
abbrev sBT : Stmt := inClass (topS 3) 0
abbrev sWI : Stmt := inClass (topS 23) 0
abbrev sTk : Stmt := inClass (topS 23) 1
abbrev sTo : Stmt := inClass (topS 23) 2
abbrev sTn : Stmt := inClass (topS 23) 3
abbrev sTf : Stmt := inClass (topS 23) 4
abbrev sWE : Stmt := inClass (topS 23) 7
abbrev sWhole : Stmt := topS 7
abbrev sValue : Stmt := topS 8
abbrev sName : Stmt := topS 9
abbrev sTerm : Stmt := topS 15
abbrev sHas : Stmt := topS 16
abbrev sCallForm : Stmt := topS 17
abbrev sInner : Stmt := topS 18
abbrev sNext : Stmt := topS 19
abbrev sWr : Stmt := topS 26
abbrev sTWd : Stmt := topS 27
abbrev sRd : Stmt := topS 28
abbrev sTW : Stmt := topS 29
abbrev sTT : Stmt := topS 30
abbrev sPool : Stmt := topS 32
abbrev sDraw : Stmt := topS 33
abbrev sPick : Stmt := topS 34
abbrev sLNames : Stmt := topS 35
abbrev sLTerm : Stmt := topS 36
abbrev sTx : Stmt := topS 37
abbrev sLR : Stmt := topS 38
abbrev sLaw : Stmt := topS 39
def cB (K : PySem.W.Frag) : Addr := ga K "BadText"
def cS (K : PySem.W.Frag) : Addr := ga K "StoreError"
def cN (K : PySem.W.Frag) : Addr := ga K "NoForm"
def cW (K : PySem.W.Frag) : Addr := ga K "Words"
def fBI (K : PySem.W.Frag) : Addr := fAd K ("BadText", some "__init__")
def fWI (K : PySem.W.Frag) : Addr := fAd K ("Words", some "__init__")
def fWT (K : PySem.W.Frag) : Addr := fAd K ("Words", some "take")
def fWO (K : PySem.W.Frag) : Addr := fAd K ("Words", some "take_one_of")
def fWN (K : PySem.W.Frag) : Addr := fAd K ("Words", some "take_name")
def fWF (K : PySem.W.Frag) : Addr := fAd K ("Words", some "take_figure")
def fWE (K : PySem.W.Frag) : Addr := fAd K ("Words", some "end")
def fWh (K : PySem.W.Frag) : Addr := fAd K ("is_whole", none)
def fVa (K : PySem.W.Frag) : Addr := fAd K ("is_value", none)
def fNa (K : PySem.W.Frag) : Addr := fAd K ("is_name", none)
def fTe (K : PySem.W.Frag) : Addr := fAd K ("is_term", none)
def fHa (K : PySem.W.Frag) : Addr := fAd K ("_has_form", none)
def fCf (K : PySem.W.Frag) : Addr := fAd K ("_has_call_form", none)
def fIn (K : PySem.W.Frag) : Addr := fAd K ("inner_terms", none)
def fNx (K : PySem.W.Frag) : Addr := fAd K ("_next_level", none)
def fWr (K : PySem.W.Frag) : Addr := fAd K ("write_term", none)
def fTw (K : PySem.W.Frag) : Addr := fAd K ("_term_words", none)
def fRd (K : PySem.W.Frag) : Addr := fAd K ("read_term", none)
def fTk (K : PySem.W.Frag) : Addr := fAd K ("_take_whole_term", none)
def fTt (K : PySem.W.Frag) : Addr := fAd K ("_take_term", none)
def fPl (K : PySem.W.Frag) : Addr := fAd K ("_law_pool", none)
def fDr (K : PySem.W.Frag) : Addr := fAd K ("_law_draw", none)
def fPk (K : PySem.W.Frag) : Addr := fAd K ("_law_pick", none)
def fNm (K : PySem.W.Frag) : Addr := fAd K ("_law_names", none)
def fLt (K : PySem.W.Frag) : Addr := fAd K ("_law_term", none)
def fLx (K : PySem.W.Frag) : Addr := fAd K ("_law_term_text", none)
def fLr (K : PySem.W.Frag) : Addr := fAd K ("_law_read", none)
def fLa (K : PySem.W.Frag) : Addr := fAd K ("law", none)
def aR (K : PySem.W.Frag) : Addr := ga K "FIGURES"
def aV (K : PySem.W.Frag) : Addr := ga K "VALUES"
def aX (K : PySem.W.Frag) : Addr := ga K "VALUE_WORDS"
def aQ (K : PySem.W.Frag) : Addr := ga K "LENGTHS"
def fn : List DefD := [⟨("BadText", some "__init__"), "__init__", "BadText.__init__", defArgs sBT, defBody sBT, defScope sBT, [], []⟩,
  ⟨("Words", some "__init__"), "__init__", "Words.__init__", defArgs sWI, defBody sWI, defScope sWI, [], []⟩,
  ⟨("Words", some "take"), "take", "Words.take", defArgs sTk, defBody sTk, defScope sTk, [], []⟩,
  ⟨("Words", some "take_one_of"), "take_one_of", "Words.take_one_of", defArgs sTo, defBody sTo, defScope sTo, [], []⟩,
  ⟨("Words", some "take_name"), "take_name", "Words.take_name", defArgs sTn, defBody sTn, defScope sTn, [], []⟩,
  ⟨("Words", some "take_figure"), "take_figure", "Words.take_figure", defArgs sTf, defBody sTf, defScope sTf, [], []⟩,
  ⟨("Words", some "end"), "end", "Words.end", defArgs sWE, defBody sWE, defScope sWE, [], []⟩,
  ⟨("is_whole", none), "is_whole", "is_whole", defArgs sWhole, defBody sWhole, defScope sWhole, [], []⟩,
  ⟨("is_value", none), "is_value", "is_value", defArgs sValue, defBody sValue, defScope sValue, [], []⟩,
  ⟨("is_name", none), "is_name", "is_name", defArgs sName, defBody sName, defScope sName, [], []⟩,
  ⟨("is_term", none), "is_term", "is_term", defArgs sTerm, defBody sTerm, defScope sTerm, [], []⟩,
  ⟨("_has_form", none), "_has_form", "_has_form", defArgs sHas, defBody sHas, defScope sHas, [], []⟩,
  ⟨("_has_call_form", none), "_has_call_form", "_has_call_form", defArgs sCallForm, defBody sCallForm, defScope sCallForm, [], []⟩,
  ⟨("inner_terms", none), "inner_terms", "inner_terms", defArgs sInner, defBody sInner, defScope sInner, [], []⟩,
  ⟨("_next_level", none), "_next_level", "_next_level", defArgs sNext, defBody sNext, defScope sNext, [], []⟩,
  ⟨("write_term", none), "write_term", "write_term", defArgs sWr, defBody sWr, defScope sWr, [], []⟩,
  ⟨("_term_words", none), "_term_words", "_term_words", defArgs sTWd, defBody sTWd, defScope sTWd, [], []⟩,
  ⟨("read_term", none), "read_term", "read_term", defArgs sRd, defBody sRd, defScope sRd, [], []⟩,
  ⟨("_take_whole_term", none), "_take_whole_term", "_take_whole_term", defArgs sTW, defBody sTW, defScope sTW, [], []⟩,
  ⟨("_take_term", none), "_take_term", "_take_term", defArgs sTT, defBody sTT, defScope sTT, [], []⟩,
  ⟨("_law_pool", none), "_law_pool", "_law_pool", defArgs sPool, defBody sPool, defScope sPool, [], []⟩,
  ⟨("_law_draw", none), "_law_draw", "_law_draw", defArgs sDraw, defBody sDraw, defScope sDraw, [], []⟩,
  ⟨("_law_pick", none), "_law_pick", "_law_pick", defArgs sPick, defBody sPick, defScope sPick, [], []⟩,
  ⟨("_law_names", none), "_law_names", "_law_names", defArgs sLNames, defBody sLNames, defScope sLNames, [], []⟩,
  ⟨("_law_term", none), "_law_term", "_law_term", defArgs sLTerm, defBody sLTerm, defScope sLTerm, [], []⟩,
  ⟨("_law_term_text", none), "_law_term_text", "_law_term_text", defArgs sTx, defBody sTx, defScope sTx, [], []⟩,
  ⟨("_law_read", none), "_law_read", "_law_read", defArgs sLR, defBody sLR, defScope sLR, [], []⟩,
  ⟨("law", none), "law", "law", defArgs sLaw, defBody sLaw, defScope sLaw, [], []⟩]
def ts : List Tab := [(fun K => He.ga K "LENGTHS", ["tick", "plus", "less", "same", "if"])]
def chk0 (K : PySem.W.Frag) : List Bool := [decide (PySem.W.nsIn K mainGlobals "BadText" = some (some (.ref (cB K)))),
  decide (PySem.W.nsIn K mainGlobals "StoreError" = some (some (.ref (cS K)))),
  decide (PySem.W.nsIn K mainGlobals "NoForm" = some (some (.ref (cN K)))),
  decide (PySem.W.nsIn K mainGlobals "Words" = some (some (.ref (cW K)))),
  decide (PySem.W.findIn K (.ref (cB K)) "__init__" = some (some (.ref (fBI K)))),
  PySem.W.isFn K (.ref (fBI K)),
  decide (PySem.W.findIn K (.ref (cW K)) "__init__" = some (some (.ref (fWI K)))),
  PySem.W.isFn K (.ref (fWI K)),
  decide (PySem.W.findIn K (.ref (cW K)) "take" = some (some (.ref (fWT K)))),
  PySem.W.isFn K (.ref (fWT K)),
  decide (PySem.W.findIn K (.ref (cW K)) "take_one_of" = some (some (.ref (fWO K)))),
  PySem.W.isFn K (.ref (fWO K)),
  decide (PySem.W.findIn K (.ref (cW K)) "take_name" = some (some (.ref (fWN K)))),
  PySem.W.isFn K (.ref (fWN K)),
  decide (PySem.W.findIn K (.ref (cW K)) "take_figure" = some (some (.ref (fWF K)))),
  PySem.W.isFn K (.ref (fWF K)),
  decide (PySem.W.findIn K (.ref (cW K)) "end" = some (some (.ref (fWE K)))),
  PySem.W.isFn K (.ref (fWE K)),
  decide (PySem.W.nsIn K mainGlobals "is_whole" = some (some (.ref (fWh K)))),
  decide (PySem.W.nsIn K mainGlobals "is_value" = some (some (.ref (fVa K)))),
  decide (PySem.W.nsIn K mainGlobals "is_name" = some (some (.ref (fNa K)))),
  decide (PySem.W.nsIn K mainGlobals "is_term" = some (some (.ref (fTe K)))),
  decide (PySem.W.nsIn K mainGlobals "_has_form" = some (some (.ref (fHa K)))),
  decide (PySem.W.nsIn K mainGlobals "_has_call_form" = some (some (.ref (fCf K)))),
  decide (PySem.W.nsIn K mainGlobals "inner_terms" = some (some (.ref (fIn K)))),
  decide (PySem.W.nsIn K mainGlobals "_next_level" = some (some (.ref (fNx K)))),
  decide (PySem.W.nsIn K mainGlobals "write_term" = some (some (.ref (fWr K)))),
  decide (PySem.W.nsIn K mainGlobals "_term_words" = some (some (.ref (fTw K))))]
def chk1 (K : PySem.W.Frag) : List Bool := [decide (PySem.W.nsIn K mainGlobals "read_term" = some (some (.ref (fRd K)))),
  decide (PySem.W.nsIn K mainGlobals "_take_whole_term" = some (some (.ref (fTk K)))),
  decide (PySem.W.nsIn K mainGlobals "_take_term" = some (some (.ref (fTt K)))),
  decide (PySem.W.nsIn K mainGlobals "_law_pool" = some (some (.ref (fPl K)))),
  decide (PySem.W.nsIn K mainGlobals "_law_draw" = some (some (.ref (fDr K)))),
  decide (PySem.W.nsIn K mainGlobals "_law_pick" = some (some (.ref (fPk K)))),
  decide (PySem.W.nsIn K mainGlobals "_law_names" = some (some (.ref (fNm K)))),
  decide (PySem.W.nsIn K mainGlobals "_law_term" = some (some (.ref (fLt K)))),
  decide (PySem.W.nsIn K mainGlobals "_law_term_text" = some (some (.ref (fLx K)))),
  decide (PySem.W.nsIn K mainGlobals "_law_read" = some (some (.ref (fLr K)))),
  decide (PySem.W.nsIn K mainGlobals "law" = some (some (.ref (fLa K)))),
  decide (PySem.W.nsIn K mainGlobals "abs" = some none),
  decide (PySem.W.nsIn K mainGlobals "int" = some none),
  decide (PySem.W.nsIn K mainGlobals "len" = some none),
  decide (PySem.W.nsIn K mainGlobals "sum" = some none),
  decide (PySem.W.nsIn K mainGlobals "max" = some none),
  decide (PySem.W.nsIn K mainGlobals "min" = some none),
  decide (PySem.W.nsIn K mainGlobals "range" = some none),
  decide (PySem.W.nsIn K mainGlobals "isinstance" = some none),
  decide (PySem.W.nsIn K mainGlobals "bool" = some none),
  decide (PySem.W.nsIn K mainGlobals "str" = some none),
  decide (PySem.W.nsIn K mainGlobals "tuple" = some none),
  decide (PySem.W.nsIn K mainGlobals "list" = some none),
  decide (PySem.W.nsIn K mainGlobals "dict" = some none),
  decide (PySem.W.nsIn K mainGlobals "all" = some none),
  decide (PySem.W.nsIn K mainGlobals "sorted" = some none),
  decide (PySem.W.nsIn K mainGlobals "repr" = some none),
  decide (PySem.W.nsIn K mainGlobals "zip" = some none)]
def chk2 (K : PySem.W.Frag) : List Bool := [intB K "LONGEST_NAME" 8,
  intB K "MOST_ARGUMENTS" 2,
  intB K "MOST_DEEP" 8,
  intB K "MOST_PARTS" 30,
  PySem.W.plainGet K (cW K) Str.empty,
  PySem.W.hasDictIn K (cW K),
  PySem.W.plainOver K (cW K),
  decide (PySem.W.findIn K (.ref (cW K)) "__setattr__" = some (some (.builtin "object.__setattr__"))),
  PySem.W.makesIn K (cW K),
  PySem.W.keepIn K (.ref (cW K)),
  decide (PySem.W.findIn K (.ref (cW K)) "_left" = some none),
  PySem.W.excIn K (cN K) [.type "Exception", .type "BaseException", .type "object"] "Exception.__new__",
  PySem.W.keepIn K (.ref (cN K)),
  decide (PySem.W.subIn K (.ref (cN K)) (.type "BaseException") = some true),
  decide (PySem.W.typeIn K (.ref (cN K)) = some (.type "type")),
  decide (PySem.W.exmOne K (.ref (cN K)) (.ref (cN K)) = some true),
  excB K (cB K) [.ref (cS K), .type "ValueError", .type "Exception", .type "BaseException", .type "object"] "ValueError.__new__",
  decide (PySem.W.findIn K (.ref (cB K)) "__setattr__" = some (some (.builtin "object.__setattr__"))),
  decide (PySem.W.subIn K (.ref (cB K)) (.type "BaseException") = some true),
  decide (PySem.W.typeIn K (.ref (cB K)) = some (.type "type")),
  PySem.W.keepIn K (.ref (cB K)),
  decide (PySem.W.findIn K (.ref (cB K)) "index" = some none),
  decide (PySem.W.typeIn K (.ref (fBI K)) = some (.type "function")),
  decide (PySem.W.findIn K (.ref (cB K)) "__getattribute__" = some (some (.builtin "BaseException.__getattribute__"))),
  decide (PySem.W.findIn K (.ref (cB K)) "__getattr__" = some none),
  PySem.W.hasDictIn K (cB K),
  decide (PySem.W.exmOne K (.ref (cB K)) (.ref (cB K)) = some true),
  decide (PySem.W.specialIn K (.ref (cS K)) "__getattribute__" = some (some (.builtin "type.__getattribute__")))]
def chk3 (K : PySem.W.Frag) : List Bool := [decide (PySem.W.typeIn K (.ref (cS K)) = some (.type "type")),
  PySem.W.readsIn K (cS K) (.type "type"),
  fclsB K (.ref (cS K)) (.type "type") "__init__" "ValueError.__init__",
  decide (PySem.W.nsIn K mainGlobals "FIGURES" = some (some (.ref (aR K)))),
  Hd.tupB K (aR K) [.str "0", .str "1", .str "2", .str "3", .str "4", .str "5", .str "6", .str "7", .str "8", .str "9"],
  decide (PySem.W.nsIn K mainGlobals "VALUES" = some (some (.ref (aV K)))),
  Hd.tupB K (aV K) [.int 0, .int 1, .int 2],
  decide (PySem.W.nsIn K mainGlobals "VALUE_WORDS" = some (some (.ref (aX K)))),
  Hd.tupB K (aX K) [.str "0", .str "1", .str "2"],
  decide (PySem.W.nsIn K mainGlobals "LENGTHS" = some (some (.ref (aQ K)))),
  lensB K (aQ K)]
def chk (K : PySem.W.Frag) : Bool := (chk0 K).all id && ((chk1 K).all id && ((chk2 K).all id && ((chk3 K).all id)))
def names0 : List PySem.Str := ["_wall", "__name__", "StoreError", "BadText", "VALUES", "LONGEST_NAME", "is_whole", "is_value", "is_name", "MOST_PARTS", "MOST_DEEP", "MOST_ARGUMENTS", "LENGTHS", "is_term", "_has_form", "_has_call_form", "inner_terms", "_next_level", "FIGURES", "NoForm", "Words", "VALUE_WORDS", "write_term", "_term_words", "read_term", "_take_whole_term", "_take_term", "_law_pool", "_law_draw", "_law_pick"]
def names1 : List PySem.Str := ["_law_names", "_law_term", "_law_term_text", "_law_read"]
def names : List PySem.Str := names0 ++ (names1)
abbrev R : PySem.W.OpenRow := PySem.W.OpenLaw.row PySem.Challenge.rw_steadycalls_k79_whole_terms_as_texts
def rs0 : List PySem.Str := ["BadText", "StoreError", "NoForm", "Words", "is_whole", "is_value", "is_name", "is_term", "_has_form", "_has_call_form", "inner_terms", "_next_level", "write_term", "_term_words", "read_term", "_take_whole_term", "_take_term", "_law_pool", "_law_draw", "_law_pick", "_law_names", "_law_term", "_law_term_text", "_law_read", "law", "FIGURES", "VALUES", "VALUE_WORDS", "LENGTHS"]
def rs : List PySem.Str := rs0
def ms : List PySem.Str := ["__init__", "take", "take_one_of", "take_name", "take_figure", "end"]
abbrev hk : PySem.W.Hook := hookP rs ms fn ts chk
def ob (s : PySem.W.SharedT) : AlX := obsP rs ms fn ts chk (HandSHeadRun.getT s)
theorem ob_eq (s : PySem.W.SharedT) : ob s = hk.obs s.abs := obsP_eq (HandSHeadRun.getT_eq s)
abbrev RunAt (w : World) : Prop := HandSHeadRun.RunEq R (PySem.W.view R.prog [39]) hk ob 20000 names w
theorem run_false (w : World) : RunAt (w.withFollow "special-get-raises" false) := by
  intro os
  kernel_rfl
theorem run_true (w : World) : RunAt (w.withFollow "special-get-raises" true) := by
  intro os
  kernel_rfl
theorem run (w : World) : HandSHeadRun.RunEq R (PySem.W.view R.prog [39]) hk ob 20000 names w := PySem.W.byRow2 "special-get-raises" (P := RunAt) run_false run_true w
end Hd
abbrev sPool : Stmt := topS 32
abbrev sDraw : Stmt := topS 33
abbrev sPick : Stmt := topS 34
theorem scPool : FnScope ["_law_script", "_law_k", "_law_cell", "_law_size", "_law_mixed"] ["_law_script", "_law_k"] (defScope sPool) := ⟨rfl, rfl, rfl, by decide +kernel, rfl, by decide +kernel, by decide +kernel⟩
theorem scDraw : FnScope ["_law_pool_here", "_law_many", "_law_found"] ["_law_pool_here", "_law_many"] (defScope sDraw) := ⟨rfl, rfl, rfl, by decide +kernel, rfl, by decide +kernel, by decide +kernel⟩
theorem scPick : FnScope ["_law_pool_here", "_law_row"] ["_law_pool_here", "_law_row"] (defScope sPick) := ⟨rfl, rfl, rfl, by decide +kernel, rfl, by decide +kernel, by decide +kernel⟩
/-- a pool of draws stands at p -/
def PoolAt (H : Hp) (p : Addr) : Prop := ∃ x y : Int, H p = some (.lst [.int x, .int y]) ∧ 0 ≤ x ∧ 0 ≤ y ∧ y < 2147483648
/-- all that was known but for p is as it was -/
def But (p : Addr) (H H' : Hp) : Prop := ∀ b o, H b = some o → b ≠ p → H' b = some o
theorem But.refl (p : Addr) (H : Hp) : But p H H := fun _ _ h _ => h
theorem But.trans {p : Addr} {H H1 H2 : Hp} (a : But p H H1) (b : But p H1 H2) : But p H H2 := fun c o h n => b c o (a c o h n) n
theorem But.of {p : Addr} {H H' : Hp} (s : Same H H') : But p H H' := fun b o h _ => s b o h
theorem same_upd {H : Hp} {p : Addr} {o : HO} (h : H p = none) : Same H (upd H p o) := fun b x e => by
  rw [upd_ne (ne_of_none e h)]
  exact e
theorem But.upd {p : Addr} {H : Hp} {o : HO} : But p H (L2.upd H p o) := fun b x e n => by
  rw [upd_ne n]
  exact e
/-- what an expression gives, by what is true of it -/
theorem q_asgP {te : TE} {tz : TS} {D : Ends} {σ : L2.St} {H : Hp} {i : Nat} (Pr : V → Hp → Prop) (h : ∀ Q : VK, (∀ v H', Pr v H' → Q v H') → te σ H Q) (k : ∀ v H1, Pr v H1 → tz D (σ.set i (some v)) H1) : tSeq (tAsg te (gName i)) tz D σ H := h _ k
theorem But.rd {p : Addr} {H H' : Hp} (b : But p H H') {a : Addr} {u : HO} (n : a ≠ p) (h : Rd H a u) : Rd H' a u := by
  rcases h with h | ⟨o, h⟩
  · exact .inl (b _ _ h n)
  · exact .inr ⟨o, b _ _ h n⟩
theorem But.seq {p : Addr} {H H' : Hp} (b : But p H H') {K : PySem.W.Frag} {a : Addr} {xs : List V} (n : a ≠ p) (h : SqL K H a xs) : SqL K H' a xs := h.imp (b.rd n) id
theorem But.seqT {p : Addr} {H H' : Hp} (b : But p H H') {K : PySem.W.Frag} {a : Addr} {xs : List V} (n : a ≠ p) (h : SqT K H a xs) : SqT K H' a xs := h.imp (b.rd n) id
theorem at_nn {xs : List V} {v : Int} {x : V} (h0 : 0 ≤ v) (h : xs[v.toNat]? = some x) : atI xs v = some x := by
  obtain ⟨n, rfl⟩ := Int.eq_ofNat_of_zero_le h0
  exact atI_nat h
theorem b01 (b : Bool) : 0 ≤ (if b = true then (1 : Int) else 0) ∧ (if b = true then (1 : Int) else 0) ≤ 1 := by cases b <;> decide
structure Blt (mg : Str → Option Value) : Prop where
  abs : mg "abs" = none
  int : mg "int" = none
  len : mg "len" = none
  sum : mg "sum" = none
  max : mg "max" = none
  min : mg "min" = none
  range : mg "range" = none
  isinstance : mg "isinstance" = none
  bool : mg "bool" = none
  str : mg "str" = none
  tuple : mg "tuple" = none
  list : mg "list" = none
  dict : mg "dict" = none
  all : mg "all" = none
  sorted : mg "sorted" = none
  repr : mg "repr" = none
  zip : mg "zip" = none
section
variable {P : Program} {w : World} {K : PySem.W.Frag} {mg : Str → Option Value} {base : Heap}
def spPool (K : PySem.W.Frag) : Sp := fun vs H Q _ => ∃ (a : Addr) (ns : List Int) (k : Nat), vs = [.ref a, .int k] ∧ SqL K H a (ns.map V.int) ∧ k ≤ 1 ∧ (k < ns.length ∨ ns = []) ∧
  ∀ H' p, H p = none → Same H H' → PoolAt H' p → Q (.ref p) H'
theorem ok_pool {f : Addr} {fd : FuncData} (F : Fun K "_law_pool" "_law_pool" sPool f fd) (M : Blt mg) : FnOk P w K mg base CX0 1 f fd ["_law_script", "_law_k"] (spPool K) := by
  refine F.ok scPool (fun vs H Q E h => ?_) (fun cdv A outer s H vs Q E hr h => ?_)
  · obtain ⟨a, ns, k, rfl, _⟩ := h
    rfl
  · obtain ⟨a, ns, k, rfl, hS, hk, hin, q⟩ := h
    refine ⟨_, pss_cons (ps_set (i := 2) scPool.nd rfl (.inl rfl) (pe_ifExp (pt_cmpR op_lt (pv 1) (pe_callB call_len_seq (by rfl) M.len PySem.boot_len (pa_cons (pv 0) pa_nil)) (nomark _))
        (pe_ix ix_list (pv 0) (pv 1) (fun _ _ => rfl))
        (pe_op op_add (pe_op op_mul pe_int (pe_callB (cr_sum rfl) (by rfl) M.sum (by decide +kernel) (pa_cons (pe_slice sl_list (pv 0) po_none (po_some pe_int)) pa_nil))) (pv 1))))
      (pss_cons (ps_set (i := 3) scPool.nd rfl (.inl rfl) (pe_callB call_abs (by rfl) M.abs (by decide +kernel) (pa_cons (pv 2) pa_nil)))
      (pss_cons (ps_set (i := 4) scPool.nd rfl (.inl rfl)
        (pe_op op_add (pe_op op_add (pe_op op_add (pe_op op_mod (pe_callTy call_int1 (by rfl) M.int (by decide +kernel) (pa_cons (pv 3) pa_nil)) pe_int)
          (pe_op op_mul (pe_op op_mul pe_int (pv 1)) (pv 1))) (pe_op op_mul pe_int (pv 1))) pe_int))
      (pss_cons (ps_set (i := 4) scPool.nd rfl (.inl rfl)
        (pe_op op_mod (pe_callTy call_int1 (by rfl) M.int (by decide +kernel) (pa_cons (pe_op op_mul (pv 4) pe_int) pa_nil)) pe_int))
      (pss_one (ps_ret (pe_lst (pa_cons
          (pe_op op_mul (pv 3) (pe_callTy call_int1 (by rfl) M.int (by decide +kernel) (pa_cons (pe_cmpR op_ge (pv 3) (pe_op op_pow pe_int pe_int) (nomark _)) pa_nil)))
          (pa_cons (pe_op op_mod (pe_callTy call_int1 (by rfl) M.int (by decide +kernel) (pa_cons (pe_op op_mul (pv 4) (pv 4)) pa_nil)) pe_int) pa_nil)))))))), ?_⟩
    refine q_asgP (Pr := fun v H1 => (∃ c : Int, v = .int c) ∧ Same H H1) (fun Q' hq => ?_) (fun v H1 hv => ?_)
    · refine ⟨_, rfl, _, rfl, _, _, rfl, .inl hS, _, _, rfl, rfl, _, rfl, ite2 (fun e => ?_) (fun e => ?_)⟩
      · have e1 := of_decide_eq_true e
        rw [List.length_map] at e1
        have e2 : k < ns.length := by omega
        refine ⟨_, rfl, _, rfl, a, ns.map V.int, k, .int ns[k], rfl, rfl, hS, atI_nat ?_, hq _ _ ⟨⟨_, rfl⟩, Same.refl H⟩⟩
        rw [List.getElem?_map, List.getElem?_eq_getElem e2]
        rfl
      · have e1 : ns = [] := by
          rcases hin with h | h
          · refine absurd (decide_eq_true ?_) e
            rw [List.length_map]
            omega
          · exact h
        subst e1
        refine ⟨_, rfl, 63, rfl, a, _, rfl, hS, fun p np => ?_⟩
        refine ⟨p, [], rfl, .inl (.inl (upd_same.trans ?_)), _, _, rfl, rfl, .inl ⟨by decide, by decide⟩, _, rfl, _, _, rfl, rfl, hq _ _ ⟨⟨_, rfl⟩, same_upd np⟩⟩
        rfl
    · obtain ⟨⟨c, rfl⟩, s1⟩ := hv
      have hz : 0 ≤ (if c < 0 then -c else c) := by split <;> omega
      have fin : ∀ (x y : Int), 0 ≤ x → 0 ≤ y → y < 2147483648 → ∀ p, H1 p = none → Q (.ref p) (upd H1 p (.lst [.int x, .int y])) := fun x y hx hy hy2 p np =>
        q _ p (s1.free np) (s1.trans (same_upd np)) ⟨x, y, upd_same, hx, hy, hy2⟩
      refine ⟨.int c, rfl, _, rfl, ?_⟩
      refine ⟨_, rfl, .inl ⟨_, rfl, _, _, rfl, rfl, (by show (0 : Int) < 2147483629; decide), ?_⟩⟩
      have m1 : 0 ≤ (if c < 0 then -c else c) % 2147483629 := Int.emod_nonneg _ (by decide)
      have m2 : (if c < 0 then -c else c) % 2147483629 < 2147483629 := Int.emod_lt_of_pos _ (by decide)
      have k0 : (7919 * (k : Int) * (k : Int)) ≤ 7919 ∧ 0 ≤ (7919 * (k : Int) * (k : Int)) := by
        rcases (show k = 0 ∨ k = 1 by omega) with e | e <;> subst e <;> decide
      refine ⟨_, rfl, _, _, rfl, rfl, .inl ⟨by decide, by decide⟩, _, rfl, _, _, rfl, rfl, .inr ⟨by omega, by omega⟩, _, _, rfl, rfl, _, rfl, _, _, rfl, rfl, .inl ⟨by decide, by decide⟩, _, _, rfl, rfl, _, _, rfl, rfl, ?_⟩
      refine ⟨_, rfl, _, _, rfl, rfl, .inr ⟨by decide, by decide⟩, .inl ⟨_, rfl, _, _, rfl, rfl, (by show (0 : Int) < 2147483647; decide), ?_⟩⟩
      have n1 : 0 ≤ ((if c < 0 then -c else c) % 2147483629 + 7919 * (k : Int) * (k : Int) + 31 * (k : Int) + 17) * 48271 % 2147483647 := Int.emod_nonneg _ (by decide)
      have n2 : ((if c < 0 then -c else c) % 2147483629 + 7919 * (k : Int) * (k : Int) + 31 * (k : Int) + 17) * 48271 % 2147483647 < 2147483647 := Int.emod_lt_of_pos _ (by decide)
      refine ⟨_, rfl, _, rfl, _, _, rfl, rfl, ⟨by decide, by decide, by decide⟩, _, _, rfl, rfl, ?_⟩
      refine .inr ⟨_, rfl, ?_⟩
      refine ⟨_, _, rfl, rfl, .inr ?_, _, rfl, _, rfl, _, _, rfl, rfl, .inl ⟨by omega, by omega⟩, .inl ⟨_, rfl, _, _, rfl, rfl, (by show (0 : Int) < 2147483629; decide), (by show 2 ≤ sizeLine; decide), fun p np => ?_⟩⟩
      · exact ⟨Int.lt_of_lt_of_le (by decide) (b01 _).1, Int.lt_of_le_of_lt (b01 _).2 (by decide)⟩
      · refine fin _ _ (Int.mul_nonneg hz (b01 _).1) (Int.emod_nonneg _ (by decide)) ?_ p np
        exact Int.lt_trans (Int.emod_lt_of_pos _ (by decide)) (by decide)
def spDraw : Sp := fun vs H Q _ => ∃ (p : Addr) (n : Int), vs = [.ref p, .int n] ∧ PoolAt H p ∧ 0 < n ∧ n ≤ 1000000000 ∧
  ∀ (v : Int) H', 0 ≤ v → v < n → But p H H' → PoolAt H' p → (∀ b, H b = none → H' b = none) → Q (.int v) H'
theorem ok_draw {f : Addr} {fd : FuncData} (F : Fun K "_law_draw" "_law_draw" sDraw f fd) (M : Blt mg) : FnOk P w K mg base CX0 1 f fd ["_law_pool_here", "_law_many"] spDraw := by
  refine F.ok scDraw (fun vs H Q E h => ?_) (fun cdv A outer s H vs Q E hr h => ?_)
  · obtain ⟨p, n, rfl, _⟩ := h
    rfl
  · obtain ⟨p, n, rfl, ⟨x, y, hp, hx, hy, hy2⟩, hn, hn2, q⟩ := h
    refine ⟨_, pss_cons (ps_if (pt_cmpR op_gt (pe_ix ix_list (pv 0) pe_int (fun _ _ => rfl)) pe_int (nomark _))
        (pss_cons (ps_set (i := 2) scDraw.nd rfl (.inl rfl) (pe_op op_mod (pe_callTy call_int1 (by rfl) M.int (by decide +kernel) (pa_cons (pe_ix ix_list (pv 0) pe_int (fun _ _ => rfl)) pa_nil)) (pv 1)))
        (pss_cons (ps_asg (pe_op op_fdiv (pe_ix ix_list (pv 0) pe_int (fun _ _ => rfl)) (pv 1)) (pg_sub (pv 0) pe_int set_list))
        (pss_one (ps_ret (pv 2))))) pss_nil)
      (pss_cons (ps_asg (pe_op op_mod (pe_callTy call_int1 (by rfl) M.int (by decide +kernel) (pa_cons (pe_op op_add (pe_op op_mul (pe_ix ix_list (pv 0) pe_int (fun _ _ => rfl)) pe_int) pe_int) pa_nil)) pe_int) (pg_sub (pv 0) pe_int set_list))
      (pss_one (ps_ret (pe_op op_mod (pe_callTy call_int1 (by rfl) M.int (by decide +kernel) (pa_cons (pe_op op_fdiv (pe_op op_mod (pe_callTy call_int1 (by rfl) M.int (by decide +kernel)
          (pa_cons (pe_op op_mul (pe_ix ix_list (pv 0) pe_int (fun _ _ => rfl)) (pe_ix ix_list (pv 0) pe_int (fun _ _ => rfl))) pa_nil)) pe_int) pe_int) pa_nil)) (pv 1))))), ?_⟩
    have hS : SqL K H p [.int x, .int y] := .inl (.inl hp)
    have fr : ∀ o b, H b = none → upd H p o b = none := fun o b hb => by
      rw [upd_ne (fun e => by rw [e, hp] at hb; cases hb)]
      exact hb
    refine ⟨.ref p, rfl, p, _, 0, .int x, rfl, rfl, hS, rfl, x, 0, rfl, rfl, _, rfl, ite2 (fun e => ?_) (fun e => ?_)⟩
    · refine ⟨.ref p, rfl, p, _, 0, .int x, rfl, rfl, hS, rfl, .inl ⟨x, rfl, _, rfl, x, n, rfl, rfl, hn, ?_⟩⟩
      refine ⟨.ref p, rfl, p, _, 0, .int x, rfl, rfl, hS, rfl, .int n, rfl, x, n, rfl, rfl, ⟨hn, by omega⟩, ?_⟩
      refine ⟨.ref p, rfl, p, _, 0, 0, rfl, rfl, hp, rfl, ?_⟩
      refine ⟨_, rfl, q _ _ (Int.emod_nonneg _ (by omega)) (Int.emod_lt_of_pos _ hn) But.upd ⟨_, y, upd_same, ?_, hy, hy2⟩ (fr _)⟩
      exact Int.ediv_nonneg hx (by omega)
    · refine ⟨.ref p, rfl, p, _, 1, .int y, rfl, rfl, hS, rfl, y, _, rfl, rfl, .inl ⟨by omega, by omega⟩, _, _, rfl, rfl, .inl ⟨_, rfl, _, _, rfl, rfl, (by show (0 : Int) < 2147483647; decide), ?_⟩⟩
      refine ⟨.ref p, rfl, p, _, 1, 1, rfl, rfl, hp, rfl, ?_⟩
      have b1 : 0 ≤ (y * 48271 + 11) % 2147483647 := Int.emod_nonneg _ (by decide)
      have b2 : (y * 48271 + 11) % 2147483647 < 2147483647 := Int.emod_lt_of_pos _ (by decide)
      have hS2 : SqL K (upd H p (.lst ([V.int x, .int y].set 1 (.int ((y * 48271 + 11) % 2147483647))))) p [.int x, .int ((y * 48271 + 11) % 2147483647)] := .inl (.inl upd_same)
      refine ⟨.ref p, rfl, p, _, 1, _, rfl, rfl, hS2, rfl, .ref p, rfl, p, _, 1, _, rfl, rfl, hS2, rfl, _, _, rfl, rfl, .inl ⟨by omega, by omega⟩, .inl ⟨_, rfl, _, _, rfl, rfl, (by show (0 : Int) < 2147483629; decide), _, _, rfl, rfl, ⟨by decide, by decide⟩, .inl ⟨_, rfl, ?_⟩⟩⟩
      refine ⟨.int n, rfl, _, n, rfl, rfl, hn, ?_⟩
      exact q _ _ (Int.emod_nonneg _ (by omega)) (Int.emod_lt_of_pos _ hn) But.upd ⟨x, _, upd_same, hx, b1, by omega⟩ (fr _)
def spPick (K : PySem.W.Frag) : Sp := fun vs H Q _ => ∃ (p r : Addr) (xs : List V), vs = [.ref p, .ref r] ∧ PoolAt H p ∧ p ≠ r ∧ (SqL K H r xs ∨ SqT K H r xs) ∧ 0 < xs.length ∧ xs.length ≤ 1000000 ∧
  ∀ (i : Nat) (hi : i < xs.length) H', But p H H' → PoolAt H' p → (∀ b, H b = none → H' b = none) → Q xs[i] H'
theorem ok_pick {f fD : Addr} {fd fdD : FuncData} (F : Fun K "_law_pick" "_law_pick" sPick f fd) (M : Blt mg) (FD : Fun K "_law_draw" "_law_draw" sDraw fD fdD) (bD : Binds K fdD ["_law_pool_here", "_law_many"] []) (gD : mg "_law_draw" = some (.ref fD)) :
    FnOk P w K mg base CX0 2 f fd ["_law_pool_here", "_law_row"] (spPick K) := by
  have GD : FnOk P w K mg base CX0 1 fD fdD ["_law_pool_here", "_law_many"] spDraw := ok_draw FD M
  refine F.ok scPick (fun vs H Q E h => ?_) (fun cdv A outer s H vs Q E hr h => ?_)
  · obtain ⟨p, r, xs, rfl, _⟩ := h
    rfl
  · obtain ⟨p, r, xs, rfl, hp, npr, hS, hl, hl2, q⟩ := h
    refine ⟨_, pss_one (ps_ret (pe_ix ix_seq (pv 1) (pe_call GD hr (by rfl) gD FD.kp bD .nil pass0 (pa_cons (pv 0) (pa_cons (pe_callB call_len_seq (by rfl) M.len PySem.boot_len (pa_cons (pv 1) pa_nil)) pa_nil))) (fun _ _ => rfl))), ?_⟩
    refine ⟨_, rfl, _, rfl, _, rfl, _, _, rfl, hS, p, _, rfl, hp, by omega, by omega, fun v H' v0 v1 bt hp' fr => ?_⟩
    have hv : v.toNat < xs.length := by omega
    have ha : atI xs v = some xs[v.toNat] := at_nn v0 (List.getElem?_eq_getElem hv)
    have sk : SqL K H' r xs ∨ SqT K H' r xs := hS.imp (bt.seq npr.symm) (bt.seqT npr.symm)
    rcases sk with sk | sk
    · exact .inl ⟨_, _, _, _, rfl, rfl, sk, ha, q _ hv _ bt hp' fr⟩
    · exact .inr (.inl ⟨_, _, _, _, rfl, rfl, sk, ha, q _ hv _ bt hp' fr⟩)
end
/-! ### data -/
mutual
theorem dp_mono {K : PySem.W.Frag} {H H' : Hp} (ht : ∀ a xs, SqT K H a xs → SqT K H' a xs) (hl : ∀ a xs, SqL K H a xs → SqL K H' a xs) : ∀ (d : PyData) (v : V), Dp K H v d → Dp K H' v d
  | .none, _, h => by
    cases h
    exact .non
  | .bool b, _, h => by
    cases h
    exact .bl b
  | .int i, _, h => by
    cases h
    exact .int i
  | .str x, _, h => by
    cases h
    exact .str x
  | .list ds, _, h => by
    cases h with
    | lst hs ha => exact .lst (hl _ _ hs) (dpAll_mono ht hl ds _ ha)
  | .tuple ds, _, h => by
    cases h with
    | tup hs ha => exact .tup (ht _ _ hs) (dpAll_mono ht hl ds _ ha)
  | .dict _, _, h => by cases h
theorem dpAll_mono {K : PySem.W.Frag} {H H' : Hp} (ht : ∀ a xs, SqT K H a xs → SqT K H' a xs) (hl : ∀ a xs, SqL K H a xs → SqL K H' a xs) : ∀ (ds : List PyData) (vs : List V), DpAll K H vs ds → DpAll K H' vs ds
  | [], _, h => by
    cases h
    exact .nil
  | d :: ds, _, h => by
    cases h with
    | cons h1 h2 => exact .cons (dp_mono ht hl d _ h1) (dpAll_mono ht hl ds _ h2)
end
theorem same_sqT {K : PySem.W.Frag} {H H' : Hp} (s : Same H H') {a : Addr} {xs : List V} (h : SqT K H a xs) : SqT K H' a xs := by
  rcases h with (h | ⟨o, h⟩) | h
  · exact .inl (.inl (s _ _ h))
  · exact .inl (.inr ⟨o, s _ _ h⟩)
  · exact .inr h
theorem dp_same {K : PySem.W.Frag} {H H' : Hp} (s : Same H H') {d : PyData} {v : V} (h : Dp K H v d) : Dp K H' v d := dp_mono (fun _ _ => same_sqT s) (fun _ _ => s.seq) d v h
theorem dpA_same {K : PySem.W.Frag} {H H' : Hp} (s : Same H H') {ds : List PyData} {vs : List V} (h : DpAll K H vs ds) : DpAll K H' vs ds := dpAll_mono (fun _ _ => same_sqT s) (fun _ _ => s.seq) ds vs h
/-! data without lists -/
mutual
def noL : PyData → Bool
  | .list _ => false
  | .tuple ds => noLs ds
  | .dict _ => false
  | _ => true
def noLs : List PyData → Bool
  | [] => true
  | d :: ds => noL d && noLs ds
end
mutual
theorem dp_tups {K : PySem.W.Frag} {H H' : Hp} (ht : ∀ a xs, SqT K H a xs → SqT K H' a xs) : ∀ (d : PyData) (v : V), noL d = true → Dp K H v d → Dp K H' v d
  | .none, _, _, h => by
    cases h
    exact .non
  | .bool b, _, _, h => by
    cases h
    exact .bl b
  | .int i, _, _, h => by
    cases h
    exact .int i
  | .str x, _, _, h => by
    cases h
    exact .str x
  | .list ds, _, n, _ => by cases n
  | .tuple ds, _, n, h => by
    cases h with
    | tup hs ha => exact .tup (ht _ _ hs) (dpAll_tups ht ds _ n ha)
  | .dict _, _, _, h => by cases h
theorem dpAll_tups {K : PySem.W.Frag} {H H' : Hp} (ht : ∀ a xs, SqT K H a xs → SqT K H' a xs) : ∀ (ds : List PyData) (vs : List V), noLs ds = true → DpAll K H vs ds → DpAll K H' vs ds
  | [], _, _, h => by
    cases h
    exact .nil
  | d :: ds, _, n, h => by
    have n1 : noL d = true := (Bool.and_eq_true _ _ ▸ n : noL d = true ∧ noLs ds = true).1
    have n2 : noLs ds = true := (Bool.and_eq_true _ _ ▸ n : noL d = true ∧ noLs ds = true).2
    cases h with
    | cons h1 h2 => exact .cons (dp_tups ht d _ n1 h1) (dpAll_tups ht ds _ n2 h2)
end
/-- tuples stand while a list is changed -/
theorem but_sqT {K : PySem.W.Frag} {p : Addr} {H H' : Hp} {ys : List V} (hp : H p = some (.lst ys)) (b : But p H H') {a : Addr} {xs : List V} (h : SqT K H a xs) : SqT K H' a xs := by
  rcases h with (h | ⟨o, h⟩) | h
  · exact .inl (.inl (b _ _ h (ne_of h hp (fun z => nomatch z))))
  · exact .inl (.inr ⟨o, b _ _ h (ne_of h hp (fun z => nomatch z))⟩)
  · exact .inr h
theorem dp_but {K : PySem.W.Frag} {p : Addr} {H H' : Hp} (hp : PoolAt H p) (b : But p H H') {d : PyData} {v : V} (n : noL d = true) (h : Dp K H v d) : Dp K H' v d := by
  obtain ⟨x, y, e, _⟩ := hp
  exact dp_tups (fun _ _ => but_sqT e b) d v n h
/-- a value's own name of its class -/
def kind : PyData → String
  | .none => "NoneType"
  | .bool _ => "bool"
  | .int _ => "int"
  | .str _ => "str"
  | .list _ => "list"
  | .tuple _ => "tuple"
  | .dict _ => "dict"
theorem tyx_sqT {K : PySem.W.Frag} {H : Hp} {a : Addr} {xs : List V} (h : SqT K H a xs) : TyX K H (.ref a) (.type "tuple") := by
  rcases h with (h | ⟨o, h⟩) | ⟨o, _, _, h, c, _⟩
  · exact .base (.tup h)
  · exact .fTuple h
  · exact .kTuple h c
theorem tyx_sqL {K : PySem.W.Frag} {H : Hp} {a : Addr} {xs : List V} (h : SqL K H a xs) : TyX K H (.ref a) (.type "list") := by
  rcases h with (h | ⟨o, h⟩) | ⟨o, _, _, h, c, _⟩
  · exact .base (.lst h)
  · exact .base (.frz h)
  · exact .kList h c
theorem dp_ty {K : PySem.W.Frag} {H : Hp} {d : PyData} {v : V} (h : Dp K H v d) : TyX K H v (.type (kind d)) := by
  cases h with
  | non => exact .base .non
  | bl b => exact .base (.bl b)
  | int i => exact .base (.int i)
  | str x => exact .base (.str x)
  | lst hs _ => exact tyx_sqL hs
  | tup hs _ => exact tyx_sqT hs
def isInt : PyData → Bool
  | .int _ => true
  | .bool _ => true
  | _ => false
def isBool : PyData → Bool
  | .bool _ => true
  | _ => false
def isStr : PyData → Bool
  | .str _ => true
  | _ => false
def isTup : PyData → Bool
  | .tuple _ => true
  | _ => false
theorem kit_int (K : PySem.W.Frag) : ∀ d : PyData, PySem.W.kitOne K (.type (kind d)) (.type "int") = some (isInt d)
  | .none => kit_ty (show kitB "NoneType" "int" = some false by decide +kernel)
  | .bool _ => kit_ty (show kitB "bool" "int" = some true by decide +kernel)
  | .int _ => kit_ty (show kitB "int" "int" = some true by decide +kernel)
  | .str _ => kit_ty (show kitB "str" "int" = some false by decide +kernel)
  | .list _ => kit_ty (show kitB "list" "int" = some false by decide +kernel)
  | .tuple _ => kit_ty (show kitB "tuple" "int" = some false by decide +kernel)
  | .dict _ => kit_ty (show kitB "dict" "int" = some false by decide +kernel)
theorem kit_bool (K : PySem.W.Frag) : ∀ d : PyData, PySem.W.kitOne K (.type (kind d)) (.type "bool") = some (isBool d)
  | .none => kit_ty (show kitB "NoneType" "bool" = some false by decide +kernel)
  | .bool _ => kit_ty (show kitB "bool" "bool" = some true by decide +kernel)
  | .int _ => kit_ty (show kitB "int" "bool" = some false by decide +kernel)
  | .str _ => kit_ty (show kitB "str" "bool" = some false by decide +kernel)
  | .list _ => kit_ty (show kitB "list" "bool" = some false by decide +kernel)
  | .tuple _ => kit_ty (show kitB "tuple" "bool" = some false by decide +kernel)
  | .dict _ => kit_ty (show kitB "dict" "bool" = some false by decide +kernel)
theorem kit_str (K : PySem.W.Frag) : ∀ d : PyData, PySem.W.kitOne K (.type (kind d)) (.type "str") = some (isStr d)
  | .none => kit_ty (show kitB "NoneType" "str" = some false by decide +kernel)
  | .bool _ => kit_ty (show kitB "bool" "str" = some false by decide +kernel)
  | .int _ => kit_ty (show kitB "int" "str" = some false by decide +kernel)
  | .str _ => kit_ty (show kitB "str" "str" = some true by decide +kernel)
  | .list _ => kit_ty (show kitB "list" "str" = some false by decide +kernel)
  | .tuple _ => kit_ty (show kitB "tuple" "str" = some false by decide +kernel)
  | .dict _ => kit_ty (show kitB "dict" "str" = some false by decide +kernel)
theorem kit_tup (K : PySem.W.Frag) : ∀ d : PyData, PySem.W.kitOne K (.type (kind d)) (.type "tuple") = some (isTup d)
  | .none => kit_ty (show kitB "NoneType" "tuple" = some false by decide +kernel)
  | .bool _ => kit_ty (show kitB "bool" "tuple" = some false by decide +kernel)
  | .int _ => kit_ty (show kitB "int" "tuple" = some false by decide +kernel)
  | .str _ => kit_ty (show kitB "str" "tuple" = some false by decide +kernel)
  | .list _ => kit_ty (show kitB "list" "tuple" = some false by decide +kernel)
  | .tuple _ => kit_ty (show kitB "tuple" "tuple" = some true by decide +kernel)
  | .dict _ => kit_ty (show kitB "dict" "tuple" = some false by decide +kernel)
/-- a block that goes through an iterator: what each turn asks, and what holds at the end -/
abbrev Turns (J : It) (H0 : Hp) (End : Hp → Prop) (Body : (Hp → Prop) → V → Hp → Prop) : Prop :=
  ∃ Wk : Nat → Nat → Hp → Prop, (∃ left, Wk 0 left H0) ∧
    ∀ at_ left Hn, Wk at_ left Hn → (J.stop at_ Hn ∧ End Hn) ∨ (J.go at_ Hn ∧
      ∃ Then : Hp → Prop, (∀ Hb, Then Hb → ∃ fewer, fewer < left ∧ Wk (at_ + 1) fewer Hb) ∧ ∀ item Hi, J.yld at_ Hn item Hi → Body Then item Hi)
/-- a turn of a list's comprehension without a test -/
abbrev LcBody (D : Addr) (te : TE) (vs : List Nat) (j : Nat) (σ : L2.St) : (Hp → Prop) → V → Hp → Prop := fun Then item Hi =>
  gName j item (wipe σ vs) Hi fun σn Hn => wipe σn vs = wipe σ vs ∧ tYes σn Hn fun yes Hy =>
    if yes = true then te σn Hy (fun made Hm => ∃ sofar, Hm D = some (.lst sofar) ∧ sofar.length < sizeLine ∧ Then (upd Hm D (.lst (sofar ++ [made])))) else Then Hy
/-- a comprehension whose i-th item is f i -/
theorem lc_vals {J : It} {n : Nat} {G : Hp → Prop} {Y : Nat → Hp → V → Hp → Prop} (w : Walk J n G Y) {j : Nat} {te : TE} {vs : List Nat} {σ : L2.St} {H1 : Hp} {D : Addr} {Qd : Hp → Prop} (f : Nat → V) (hz : n ≤ 50000)
    (hD : H1 D = none) (hw : ∀ x, wipe ((wipe σ vs).set j (some x)) vs = wipe σ vs) (hG : ∀ H, Same H1 H → G H)
    (he : ∀ i x H H', i < n → Same H1 H → Y i H x H' → Same H H' ∧ ∀ Q : VK, (∀ H2, Same H' H2 → Q (f i) H2) → te ((wipe σ vs).set j (some x)) H' Q)
    (hd : ∀ H, Same H1 H → H D = some (.lst ((List.range n).map f)) → Qd H)  :
    Turns J (upd H1 D (.lst [])) Qd (LcBody D te vs j σ) := by
  refine lc_it w (fun i H => Same H1 H ∧ H D = some (.lst ((List.range i).map f))) ⟨same_upd hD, upd_same⟩ (fun i H _ p => hG H p.1) (fun i x H H' hi p y => ?_) (fun H p => hd H p.1 p.2)
  obtain ⟨s1, e1⟩ := p
  obtain ⟨s2, k⟩ := he i x H H' hi s1 y
  refine And.intro (hw x) ?_
  unfold tYes
  refine iteT ?_
  refine k _ fun H2 s3 => ⟨_, s3 _ _ (s2 _ _ e1), ?_, fun b o e => ?_, ?_⟩
  · rw [List.length_map, List.length_range]
    exact Nat.lt_of_lt_of_le (show i < 50000 by omega) (by decide)
  · have hb : b ≠ D := ne_of_none e hD
    rw [upd_ne hb]
    exact s3 _ _ (s2 _ _ (s1 _ _ e))
  · rw [upd_same, List.range_succ, List.map_append]
    rfl
theorem range_get {α : Type} (xs : List α) (f : Nat → α) (h : ∀ i x, xs[i]? = some x → f i = x) : (List.range xs.length).map f = xs := by
  apply List.ext_getElem?
  intro i
  rw [List.getElem?_map]
  by_cases hi : i < xs.length
  · rw [List.getElem?_range hi, List.getElem?_eq_getElem hi]
    exact congrArg some (h i _ (List.getElem?_eq_getElem hi))
  · rw [List.getElem?_eq_none (by simpa using hi), List.getElem?_eq_none (by simpa using hi)]
    rfl
theorem dpA_len {K : PySem.W.Frag} {H : Hp} : ∀ {ds : List PyData} {vs : List V}, DpAll K H vs ds → vs.length = ds.length
  | [], _, h => by
    cases h
    rfl
  | d :: ds, _, h => by
    cases h with
    | cons _ h2 => rw [List.length_cons, List.length_cons, dpA_len h2]
theorem dpA_get {K : PySem.W.Frag} {H : Hp} : ∀ {ds : List PyData} {vs : List V} {i : Nat} {d : PyData}, DpAll K H vs ds → ds[i]? = some d → ∃ v, vs[i]? = some v ∧ Dp K H v d
  | [], _, _, _, _, e => by simp at e
  | d :: ds, _, 0, _, h, e => by
    cases h with
    | cons h1 _ =>
      have e1 : d = _ := Option.some.inj e
      subst e1
      exact ⟨_, rfl, h1⟩
  | d :: ds, _, i + 1, _, h, e => by
    cases h with
    | cons _ h2 => exact dpA_get (i := i) h2 e
theorem dpA_app {K : PySem.W.Frag} {H : Hp} : ∀ {ds es : List PyData} {vs us : List V}, DpAll K H vs ds → DpAll K H us es → DpAll K H (vs ++ us) (ds ++ es)
  | [], _, _, _, h, h' => by
    cases h
    exact h'
  | d :: ds, _, _, _, h, h' => by
    cases h with
    | cons h1 h2 => exact .cons h1 (dpA_app h2 h')
/-- a walk by its turns, whatever a turn asks -/
theorem walk_gen {J : It} {n : Nat} {G : Hp → Prop} {Y : Nat → Hp → V → Hp → Prop} (w : Walk J n G Y) {H0 : Hp} {End : Hp → Prop} {Body : (Hp → Prop) → V → Hp → Prop} (Pv : Nat → Hp → Prop) (h0 : Pv 0 H0) (hG : ∀ i H, i ≤ n → Pv i H → G H)
    (hs : ∀ i x H H', i < n → Pv i H → Y i H x H' → Body (Pv (i + 1)) x H') (hd : ∀ H, Pv n H → End H) : Turns J H0 End Body := by
  refine ⟨fun at_ left Hn => at_ + left = n ∧ Pv at_ Hn, ⟨n, Nat.zero_add n, h0⟩, fun at_ left Hn ⟨sum, holds⟩ => ?_⟩
  cases left with
  | zero =>
    have all : at_ = n := sum
    subst all
    exact Or.inl (And.intro (w.stops Hn (hG _ Hn (Nat.le_refl _) holds)) (hd Hn holds))
  | succ less =>
    have more : at_ < n := by omega
    have good := hG at_ Hn (Nat.le_of_lt more) holds
    refine Or.inr (And.intro (w.goes at_ Hn more good) ⟨Pv (at_ + 1), fun Hb next => ⟨less, Nat.lt_succ_self less, by omega, next⟩, fun item Hi given => ?_⟩)
    exact hs at_ item Hn Hi more holds (w.yields at_ Hn item Hi more good given)
theorem dpA_at {K : PySem.W.Frag} {H : Hp} : ∀ {ds : List PyData} {vs : List V} {i : Nat} {v : V}, DpAll K H vs ds → vs[i]? = some v → ∃ d, ds[i]? = some d ∧ Dp K H v d
  | _, [], _, _, _, e => by simp at e
  | _, _ :: _, 0, _, h, e => by
    cases h with
    | cons h1 _ =>
      have e1 := Option.some.inj e
      subst e1
      exact ⟨_, rfl, h1⟩
  | _, _ :: _, i + 1, _, h, e => by
    cases h with
    | cons _ h2 => exact dpA_at (i := i) h2 e
theorem take_snoc {α : Type} : ∀ {l : List α} {i : Nat} {x : α}, l[i]? = some x → l.take (i + 1) = l.take i ++ [x]
  | [], i, x, h => by simp at h
  | a :: l, 0, x, h => by
    have e : a = x := Option.some.inj h
    subst e
    rfl
  | a :: l, i + 1, x, h => by
    have ih := take_snoc (l := l) (i := i) (x := x) h
    show a :: l.take (i + 1) = a :: l.take i ++ [x]
    rw [ih]
    rfl
theorem cut1 (xs : List V) : cutV xs (some 1) none = xs.drop 1 := by
  unfold cutV
  rw [show HT.sIx xs.length 0 (some 1) = min 1 xs.length from HT.sIx_nat xs.length 0 1, HT.sIx_none]
  cases xs with
  | nil => rfl
  | cons x r =>
    rw [show min 1 (x :: r).length = 1 by
      rw [List.length_cons]
      omega]
    show (List.take ((x :: r).length - 1) r) = r
    rw [List.length_cons, Nat.add_sub_cancel]
    exact List.take_length
theorem q_c {tz : TS} {D : Ends} {σ : L2.St} {H : Hp} {i : Nat} {v : V} (h : tz D (σ.set i (some v)) H) : tSeq (tAsg (tC v) (gName i)) tz D σ H := h
theorem q_w {c : TT} {tb tz : TS} {D : Ends} {σ : L2.St} {H : Hp} (h : tWhile c tb { D with nx := tz D } σ H) : tSeq (tWhile c tb) tz D σ H := h
theorem wh_by {c : TT} {tb : TS} {D : Ends} {σ : L2.St} {H : Hp} (W : Nat → L2.St → Hp → Prop) (m0 : Nat) (h0 : W m0 σ H)
    (hs : ∀ m σ H, W m σ H → c σ H fun b H1 => if b = true then tb { D with nx := fun σ' H' => ∃ m', m' < m ∧ W m' σ' H', ct := fun σ' H' => ∃ m', m' < m ∧ W m' σ' H', bk := D.nx } σ H1 else D.nx σ H1)
    (mono : ∀ σ H Q Q', (∀ b H1, Q b H1 → Q' b H1) → c σ H Q → c σ H Q') : tWhile c tb D σ H :=
  ⟨W, ⟨m0, h0⟩, fun m σ H hw => mono _ _ _ _ (fun b H1 q => by
    cases b with
    | true => exact ⟨_, fun σ' H' h => h, q⟩
    | false => exact q) (hs m σ H hw)⟩
/-- a comprehension whose i-th item is as R says -/
theorem lc_rel {J : It} {n : Nat} {G : Hp → Prop} {Y : Nat → Hp → V → Hp → Prop} (w : Walk J n G Y) {j : Nat} {te : TE} {vs : List Nat} {σ : L2.St} {H1 : Hp} {D : Addr} {Qd : Hp → Prop} (R : Nat → V → Hp → Prop) (hz : n ≤ 50000)
    (hD : H1 D = none) (hw : ∀ x, wipe ((wipe σ vs).set j (some x)) vs = wipe σ vs) (hG : ∀ H, Same H1 H → G H) (hR : ∀ i v H H' zs, H D = some (.lst zs) → But D H H' → R i v H → R i v H')
    (he : ∀ i x H H', i < n → Same H1 H → Y i H x H' → Same H H' ∧ ∀ Q : VK, (∀ v H2, Same H' H2 → R i v H2 → Q v H2) → te ((wipe σ vs).set j (some x)) H' Q)
    (hd : ∀ ys H, Same H1 H → H D = some (.lst ys) → ys.length = n → (∀ i v, ys[i]? = some v → R i v H) → Qd H)  :
    Turns J (upd H1 D (.lst [])) Qd (LcBody D te vs j σ) := by
  refine lc_it w (fun i H => Same H1 H ∧ ∃ ys, H D = some (.lst ys) ∧ ys.length = i ∧ ∀ k v, ys[k]? = some v → R k v H) ⟨same_upd hD, [], upd_same, rfl, fun k v e => by simp at e⟩ (fun i H _ p => hG H p.1) (fun i x H H' hi p y => ?_) (fun H p => ?_)
  · obtain ⟨s1, ys, e1, el, er⟩ := p
    obtain ⟨s2, k⟩ := he i x H H' hi s1 y
    refine And.intro (hw x) ?_
    unfold tYes
    refine iteT ?_
    refine k _ fun v H2 s3 rv => ⟨ys, s3 _ _ (s2 _ _ e1), ?_, fun b o e => ?_, ys ++ [v], upd_same, ?_, fun k u eu => ?_⟩
    · exact Nat.lt_of_lt_of_le (show ys.length < 50000 by omega) (by decide)
    · have hb : b ≠ D := ne_of_none e hD
      rw [upd_ne hb]
      exact s3 _ _ (s2 _ _ (s1 _ _ e))
    · rw [List.length_append, el]
      rfl
    · have e2 : H2 D = some (.lst ys) := s3 _ _ (s2 _ _ e1)
      refine hR k u H2 _ ys e2 But.upd ?_
      by_cases hk : k < ys.length
      · rw [List.getElem?_append_left hk] at eu
        exact hR k u H H2 ys e1 (But.of (s2.trans s3)) (er k u eu)
      · have hk2 : k = ys.length := by
          have := (List.getElem?_eq_some_iff.mp eu).1
          rw [List.length_append] at this
          simp at this
          omega
        rw [hk2, List.getElem?_append_right (Nat.le_refl _), Nat.sub_self] at eu
        have eu2 := Option.some.inj eu
        subst eu2
        rw [hk2, el]
        exact rv
  · obtain ⟨s1, ys, e1, el, er⟩ := p
    exact hd ys H s1 e1 el er
theorem PoolAt.upd {H : Hp} {p l : Addr} {o : HO} (h : PoolAt H p) (n : H l = none) : PoolAt (L2.upd H l o) p := by
  obtain ⟨x, y, e, r⟩ := h
  refine ⟨x, y, ?_, r⟩
  rw [upd_ne (ne_of_none e n)]
  exact e
theorem PoolAt.ne {H : Hp} {p l : Addr} (h : PoolAt H p) (n : H l = none) : p ≠ l := by
  obtain ⟨x, y, e, r⟩ := h
  exact ne_of_none e n
theorem PoolAt.same {H H' : Hp} {p : Addr} (h : PoolAt H p) (s : Same H H') : PoolAt H' p := by
  obtain ⟨x, y, e, r⟩ := h
  exact ⟨x, y, s _ _ e, r⟩
/-- a comprehension that draws: its items are as R says, whatever is drawn -/
theorem lc_pool {J : It} {n : Nat} {Y : Nat → Hp → V → Hp → Prop} (w : Walk J n (fun _ => True) Y) {j : Nat} {te : TE} {vs : List Nat} {σ : L2.St} {H1 : Hp} {D p : Addr} {Qd : Hp → Prop} (R : V → Prop) (hz : n ≤ 50000)
    (hD : H1 D = none) (hp : PoolAt H1 p) (hw : ∀ x, wipe ((wipe σ vs).set j (some x)) vs = wipe σ vs)
    (he : ∀ i x H H', i < n → PoolAt H p → Y i H x H' → H' = H ∧ ∀ Q : VK, (∀ v H2, But p H H2 → PoolAt H2 p → R v → Q v H2) → te ((wipe σ vs).set j (some x)) H Q)
    (hd : ∀ ys H, But p H1 H → PoolAt H p → H D = some (.lst ys) → ys.length = n → (∀ v ∈ ys, R v) → Qd H)  :
    Turns J (upd H1 D (.lst [])) Qd (LcBody D te vs j σ) := by
  have npD : D ≠ p := (hp.ne hD).symm
  refine lc_it w (fun i H => But p H1 H ∧ PoolAt H p ∧ ∃ ys, H D = some (.lst ys) ∧ ys.length = i ∧ ∀ v ∈ ys, R v) ⟨But.of (same_upd hD), hp.upd hD, [], upd_same, rfl, fun v e => by simp at e⟩ (fun i H _ p => True.intro) (fun i x H H' hi q y => ?_) (fun H q => ?_)
  · obtain ⟨s1, h1, ys, e1, el, er⟩ := q
    obtain ⟨rfl, k⟩ := he i x H H' hi h1 y
    refine And.intro (hw x) ?_
    unfold tYes
    refine iteT ?_
    refine k _ fun v H2 s3 h3 rv => ⟨ys, s3 _ _ e1 npD, ?_, fun b o e nb => ?_, ?_, ys ++ [v], upd_same, ?_, fun u hu => ?_⟩
    · exact Nat.lt_of_lt_of_le (show ys.length < 50000 by omega) (by decide)
    · have hb : b ≠ D := ne_of_none e hD
      rw [upd_ne hb]
      exact s3 _ _ (s1 _ _ e nb) nb
    · obtain ⟨x, y, e, r⟩ := h3
      exact ⟨x, y, by rw [upd_ne npD.symm]; exact e, r⟩
    · rw [List.length_append, el]
      rfl
    · rcases List.mem_append.mp hu with hu | hu
      · exact er u hu
      · rw [List.mem_singleton.mp hu]
        exact rv
  · obtain ⟨s1, h1, ys, e1, el, er⟩ := q
    exact hd ys H s1 h1 e1 el er
theorem at_of {j : Nat} {xs : List V} {v : V} {z : Int} (same : z = (j : Int)) (there : xs[j]? = some v) : atI xs z = some v := same ▸ atI_nat there
/-! ### values and names -/
abbrev sWhole : Stmt := topS 7
abbrev sValue : Stmt := topS 8
abbrev sName : Stmt := topS 9
theorem scWhole : FnScope ["value"] ["value"] (defScope sWhole) := ⟨rfl, rfl, rfl, by decide +kernel, rfl, by decide +kernel, by decide +kernel⟩
theorem scValue : FnScope ["value"] ["value"] (defScope sValue) := ⟨rfl, rfl, rfl, by decide +kernel, rfl, by decide +kernel, by decide +kernel⟩
theorem scName : FnScope ["value", "letter"] ["value"] (defScope sName) := ⟨rfl, rfl, rfl, by decide +kernel, rfl, by decide +kernel, by decide +kernel⟩
def isWhole : PyData → Bool
  | .int _ => true
  | _ => false
def isValue : PyData → Bool
  | .int i => decide (0 ≤ i) && decide (i < 3)
  | _ => false
def lowCode (c : Nat) : Bool := decide (97 ≤ c) && decide (c ≤ 122)
def isName : PyData → Bool
  | .str z => decide (1 ≤ (z.length : Int)) && decide ((z.length : Int) ≤ 8) && z.cps.toList.all lowCode
  | _ => false
theorem isWhole_eq (d : PyData) : isWhole d = (isInt d && !isBool d) := by cases d <;> rfl
mutual
def szD : PyData → Bool
  | .str z => decide (z.length ≤ 1000)
  | .tuple ds => decide (ds.length ≤ 1000) && szDs ds
  | .list ds => decide (ds.length ≤ 1000) && szDs ds
  | _ => true
def szDs : List PyData → Bool
  | [] => true
  | d :: ds => szD d && szDs ds
end
theorem nlt (a b : Nat) : (!decide ([a] < [b])) = decide (b ≤ a) := by
  by_cases h : a < b
  · rw [decide_eq_true (show [a] < [b] from List.cons_lt_cons_iff.mpr (.inl h)), decide_eq_false (by omega)]
    rfl
  · have q : ¬ [a] < [b] := fun q => by
      rcases List.cons_lt_cons_iff.mp q with q | ⟨_, q⟩
      · exact h q
      · exact absurd q (List.not_lt_nil _)
    rw [decide_eq_false q, decide_eq_true (by omega)]
    rfl
theorem all_range (l : List Nat) (g : Nat → Bool) : ((List.range l.length).map fun i => g (l.getD i 0)).all id = l.all g := by
  have e : (List.range l.length).map (fun i => g (l.getD i 0)) = l.map g := by
    apply List.ext_getElem?
    intro i
    rw [List.getElem?_map, List.getElem?_map]
    by_cases hi : i < l.length
    · rw [List.getElem?_range hi, List.getElem?_eq_getElem hi]
      show some (g (l.getD i 0)) = some (g l[i])
      rw [List.getD_eq_getElem?_getD, List.getElem?_eq_getElem hi]
      rfl
    · rw [List.getElem?_eq_none (by simpa using hi), List.getElem?_eq_none (by simpa using hi)]
      rfl
  rw [e, List.all_map]
  rfl
/-- a truth about one value, told without a change -/
def spB (K : PySem.W.Frag) (g : PyData → Bool) : Sp := fun vs H Q _ => ∃ (v : V) (d : PyData), vs = [v] ∧ Dp K H v d ∧ szD d = true ∧ ∀ H', Same H H' → Q (.bl (g d)) H'
structure CellsTxt (K : PySem.W.Frag) (mg : Str → Option Value) : Prop where
  vals : ∃ aV, mg "VALUES" = some (.ref aV) ∧ ∀ H : Hp, SqT K H aV [.int 0, .int 1, .int 2]
  long : ∃ t, mg "LONGEST_NAME" = some (.int 8 t)
section
variable {P : Program} {w : World} {K : PySem.W.Frag} {mg : Str → Option Value} {base : Heap}
theorem ok_whole {f : Addr} {fd : FuncData} (F : Fun K "is_whole" "is_whole" sWhole f fd) (M : Blt mg) : FnOk P w K mg base CX0 1 f fd ["value"] (spB K isWhole) := by
  refine F.ok scWhole (fun vs H Q E h => ?_) (fun cdv A outer s H vs Q E hr h => ?_)
  · obtain ⟨v, d, rfl, _⟩ := h
    rfl
  · obtain ⟨v, d, rfl, hv, hsz, q'⟩ := h
    have q := q' H (Same.refl H)
    refine ⟨_, pss_one (ps_ret (pe_and (pe_callB call_isi (by rfl) M.isinstance (by decide +kernel) (pa_cons (pv 0) (pa_cons (pe_bltn (v := .ty "int") (by rfl) M.int (by decide +kernel) rfl) pa_nil)))
      (pe_one (pe_not (pe_callB call_isi (by rfl) M.isinstance (by decide +kernel) (pa_cons (pv 0) (pa_cons (pe_bltn (v := .ty "bool") (by rfl) M.bool (by decide +kernel) rfl) pa_nil))))))), ?_⟩
    rw [isWhole_eq] at q
    refine ⟨v, rfl, v, _, _, _, _, rfl, .ty "int", dp_ty hv, kit_int K d, _, rfl, ?_⟩
    cases hi : isInt d with
    | true =>
      refine iteT ⟨v, rfl, v, _, _, _, _, rfl, .ty "bool", dp_ty hv, kit_bool K d, _, rfl, ?_⟩
      rw [hi] at q
      exact q
    | false =>
      rw [hi] at q
      exact iteF q
theorem ok_value {f fW : Addr} {fd fdW : FuncData} (F : Fun K "is_value" "is_value" sValue f fd) (M : Blt mg) (T : CellsTxt K mg) (FW : Fun K "is_whole" "is_whole" sWhole fW fdW) (bW : Binds K fdW ["value"] []) (gW : mg "is_whole" = some (.ref fW)) :
    FnOk P w K mg base CX0 2 f fd ["value"] (spB K isValue) := by
  have GW : FnOk P w K mg base CX0 1 fW fdW ["value"] (spB K isWhole) := ok_whole FW M
  obtain ⟨aV, gV, sV⟩ := T.vals
  refine F.ok scValue (fun vs H Q E h => ?_) (fun cdv A outer s H vs Q E hr h => ?_)
  · obtain ⟨v, d, rfl, _⟩ := h
    rfl
  · obtain ⟨v, d, rfl, hv, hsz, q'⟩ := h
    have q := q' H (Same.refl H)
    refine ⟨_, pss_one (ps_ret (pe_and (pe_call GW hr (by rfl) gW FW.kp bW .nil pass0 (pa_cons (pv 0) pa_nil))
      (pe_one (pe_chain op_le op_lt pe_int (pv 0) (pe_callB call_len_seq (by rfl) M.len PySem.boot_len (pa_cons (pe_glob (v := .ref aV) (by rfl) gV rfl) pa_nil)))))), ?_⟩
    refine ⟨v, rfl, v, d, rfl, hv, hsz, fun H1 s1 => ⟨_, rfl, ?_⟩⟩
    replace q := q' H1 s1
    cases d with
    | int i =>
      cases hv
      refine iteT ⟨_, rfl, _, _, rfl, rfl, _, rfl, ?_⟩
      cases h0 : decide (0 ≤ i) with
      | false =>
        refine iteF ?_
        have e : isValue (.int i) = false := by
          show (decide (0 ≤ i) && decide (i < 3)) = false
          rw [h0] <;> rfl
        rw [e] at q
        exact q
      | true =>
        refine iteT ⟨aV, _, rfl, .inr (sV _), _, _, rfl, rfl, ?_⟩
        have e : isValue (.int i) = decide (i < 3) := by
          show (decide (0 ≤ i) && decide (i < 3)) = _
          rw [h0] <;> rfl
        rw [e] at q
        exact q
    | none => exact iteF q
    | bool b => exact iteF q
    | str z => exact iteF q
    | list ds => exact iteF q
    | tuple ds => exact iteF q
    | dict kvs => exact iteF q
theorem ok_name {f : Addr} {fd : FuncData} (F : Fun K "is_name" "is_name" sName f fd) (M : Blt mg) (T : CellsTxt K mg) : FnOk P w K mg base CX0 1 f fd ["value"] (spB K isName) := by
  obtain ⟨tl, gL⟩ := T.long
  refine F.ok scName (fun vs H Q E h => ?_) (fun cdv A outer s H vs Q E hr h => ?_)
  · obtain ⟨v, d, rfl, _⟩ := h
    rfl
  · obtain ⟨v, d, rfl, hv, hsz, q'⟩ := h
    have q := q' H (Same.refl H)
    refine ⟨_, pss_cons (ps_if (PW.pt (pw_or (pt_not (pt_val (pe_callB call_isi (by rfl) M.isinstance (by decide +kernel) (pa_cons (pv 0) (pa_cons (pe_bltn (v := .ty "str") (by rfl) M.str (by decide +kernel) rfl) pa_nil)))))
        (pw_or1 (pt_not (pt_chain op_le op_le pe_int (pe_callB call_len (by rfl) M.len PySem.boot_len (pa_cons (pv 0) pa_nil)) (pe_glob (v := .int 8) (by rfl) gL ⟨_, rfl⟩)))))) (pss_one (ps_ret pe_bl)) pss_nil)
      (pss_one (ps_ret (pe_callB (cr_all rfl) (by rfl) M.all (by decide +kernel) (pa_cons
        (pe_lc (own := [("letter", 1)]) (g := gName 1) (by rfl) scName.nd (pi_str (pv 0)) (blkOk_by (own := [("letter", 1)]) (N := ["value", "letter"]) (sc := defScope sName) (by decide +kernel))
          (fun _ _ _ _ _ => pg_name (i := 1) scName.nd rfl (Or.inl rfl)) (fun _ _ _ _ _ => pts_nil) (fun _ _ _ _ _ => pe_chain op_le_str op_le_str pe_str (pv 1) pe_str)) pa_nil)))), ?_⟩
    have no : isName d = false → Q (.bl false) H := fun e => by
      rw [e] at q
      exact q
    refine ⟨v, rfl, v, _, _, _, _, rfl, .ty "str", dp_ty hv, kit_str K d, _, rfl, ?_⟩
    cases d with
    | str z =>
      cases hv
      refine iteF ?_
      have hzl : z.length ≤ sizeLine := Nat.le_trans (of_decide_eq_true hsz) (by decide)
      by_cases hz : z.length ≤ 8
      · refine ⟨.str z, rfl, .str z, z.length, rfl, ⟨hzl, rfl⟩, _, _, rfl, rfl, _, rfl, ?_⟩
        cases h1 : decide (1 ≤ (z.length : Int)) with
        | false =>
          refine iteF ⟨_, rfl, iteT (no ?_)⟩
          show (decide (1 ≤ (z.length : Int)) && decide ((z.length : Int) ≤ 8) && z.cps.toList.all lowCode) = false
          rw [h1]
          rfl
        | true =>
          refine iteT ⟨_, _, rfl, rfl, _, rfl, ?_⟩
          have h2 : decide ((z.length : Int) ≤ 8) = true := decide_eq_true (by omega)
          rw [h2]
          refine iteF ⟨_, rfl, z, rfl, fun D hD => ?_⟩
          have ln : z.cps.size ≤ 8 := hz
          refine lc_vals (vs := [1]) (j := 1) (σ := [some (.str z), none]) walk_str (fun i => .bl (lowCode (z.cps.getD i 0))) (by omega) hD (fun x => rfl) (fun _ _ => True.intro) (fun i x H0 H' hi s1 y => ?_) (fun H' s1 e1 => ?_)
          · obtain ⟨rfl, c, hc, rfl⟩ := y
            have gc : z.cps.getD i 0 = c := by
              rw [Array.getD_eq_getD_getElem?, hc]
              rfl
            refine ⟨Same.refl _, fun Q2 q2 => ⟨_, rfl, _, _, rfl, rfl, _, rfl, ?_⟩⟩
            show if (!decide ([c] < [97])) = true then _ else _
            rw [nlt c 97]
            cases h3 : decide (97 ≤ c) with
            | false =>
              refine iteF ?_
              have e : lowCode (z.cps.getD i 0) = false := by
                rw [gc]
                show (decide (97 ≤ c) && decide (c ≤ 122)) = false
                rw [h3]
                rfl
              have q3 := q2 _ (Same.refl _)
              rw [e] at q3
              exact q3
            | true =>
              refine iteT ⟨_, _, rfl, rfl, ?_⟩
              have e : lowCode (z.cps.getD i 0) = (!decide ([122] < [c])) := by
                rw [gc, nlt 122 c]
                show (decide (97 ≤ c) && decide (c ≤ 122)) = _
                rw [h3]
                rfl
              have q3 := q2 _ (Same.refl _)
              rw [e] at q3
              exact q3
          · refine ⟨D, (List.range z.cps.size).map (fun i => lowCode (z.cps.getD i 0)), rfl, .inl (.inl ?_), ?_⟩
            · rw [e1, List.map_map]
              rfl
            · have e : ((List.range z.cps.size).map fun i => lowCode (z.cps.getD i 0)).all id = z.cps.toList.all lowCode := by
                rw [← all_range z.cps.toList lowCode]
                have ez : z.cps.toList.length = z.cps.size := by simp
                rw [ez]
                have eg : (fun i => lowCode (z.cps.getD i 0)) = fun i => lowCode (z.cps.toList.getD i 0) := by
                  funext i
                  rw [Array.getD_eq_getD_getElem?, List.getD_eq_getElem?_getD, Array.getElem?_toList]
                rw [eg]
              have e2 : isName (.str z) = z.cps.toList.all lowCode := by
                show (decide (1 ≤ (z.length : Int)) && decide ((z.length : Int) ≤ 8) && z.cps.toList.all lowCode) = _
                rw [h1, h2]
                rfl
              have q2 := q' H' s1
              rw [e2] at q2
              rw [e]
              exact q2
      · have nz : isName (.str z) = false := by
          show (decide (1 ≤ (z.length : Int)) && decide ((z.length : Int) ≤ 8) && z.cps.toList.all lowCode) = false
          rw [decide_eq_false (show ¬ (z.length : Int) ≤ 8 by omega), Bool.and_false]
          rfl
        refine ⟨.str z, rfl, .str z, z.length, rfl, ⟨hzl, rfl⟩, _, _, rfl, rfl, _, rfl, ?_⟩
        rw [decide_eq_true (show 1 ≤ (z.length : Int) by omega)]
        refine iteT ⟨_, _, rfl, rfl, _, rfl, ?_⟩
        rw [decide_eq_false (show ¬ (z.length : Int) ≤ 8 by omega)]
        exact iteT (no nz)
    | none => exact iteT (no rfl)
    | bool b => exact iteT (no rfl)
    | int i => exact iteT (no rfl)
    | list ds => exact iteT (no rfl)
    | tuple ds => exact iteT (no rfl)
    | dict kvs => exact iteT (no rfl)
end
/-! ### terms -/
abbrev sHas : Stmt := topS 16
abbrev sCallForm : Stmt := topS 17
theorem scHas : FnScope ["part", "arguments", "word"] ["part", "arguments"] (defScope sHas) := ⟨rfl, rfl, rfl, by decide +kernel, rfl, by decide +kernel, by decide +kernel⟩
theorem scCallForm : FnScope ["terms"] ["terms"] (defScope sCallForm) := ⟨rfl, rfl, rfl, by decide +kernel, rfl, by decide +kernel, by decide +kernel⟩
def lenOf (z : Str) : Option Int := if z = "tick" then some 1 else if z = "plus" then some 3 else if z = "less" then some 3 else if z = "same" then some 3 else if z = "if" then some 4 else none
def callForm : PyData → Bool
  | .tuple ts => decide ((ts.length : Int) ≤ 2)
  | _ => false
def below (n : Int) : PyData → Bool
  | .int i => decide (0 ≤ i) && decide (i < n)
  | _ => false
def on1 (g : PyData → Bool) : List PyData → Bool
  | [x] => g x
  | _ => false
def on2 (g : PyData → PyData → Bool) : List PyData → Bool
  | [x, y] => g x y
  | _ => false
theorem len2 {α : Type} : ∀ {l : List α}, l.length = 2 → ∃ x y, l = [x, y]
  | [x, y], _ => ⟨x, y, rfl⟩
  | [], h => by cases h
  | [_], h => by cases h
  | _ :: _ :: _ :: _, h => by
    simp only [List.length_cons] at h
    omega
theorem on1_bad {g : PyData → Bool} : ∀ {l : List PyData}, l.length ≠ 1 → on1 g l = false
  | [], _ => rfl
  | [_], h => absurd rfl h
  | _ :: _ :: _, _ => rfl
theorem on2_bad {g : PyData → PyData → Bool} : ∀ {l : List PyData}, l.length ≠ 2 → on2 g l = false
  | [], _ => rfl
  | [_], _ => rfl
  | [_, _], h => absurd rfl h
  | _ :: _ :: _ :: _, _ => rfl
def formOf (n : Int) (z : Str) (rest : List PyData) : Bool :=
  if z = "arg" then on1 (below n) rest
  else if z = "cell" then on1 isName rest
  else if z = "call" then on2 (fun x y => isName x && callForm y) rest
  else match lenOf z with
    | some k => decide ((rest.length : Int) + 1 = k)
    | none => false
def hasForm (n : Int) (d : PyData) : Bool := isValue d || match d with
  | .tuple (.str z :: rest) => formOf n z rest
  | _ => false
theorem szD_tup {ds : List PyData} (h : szD (.tuple ds) = true) : szDs ds = true := (Bool.and_eq_true_iff.mp h).2
theorem szDs_get : ∀ {ds : List PyData} {i : Nat} {d : PyData}, szDs ds = true → ds[i]? = some d → szD d = true
  | [], _, _, _, e => by simp at e
  | d :: ds, 0, _, h, e => by
    have e1 := Option.some.inj e
    subst e1
    exact (Bool.and_eq_true_iff.mp h).1
  | d :: ds, i + 1, _, h, e => szDs_get (i := i) (Bool.and_eq_true_iff.mp h).2 e
theorem dint (a b : Int) : decide (V.int a = V.int b) = decide (a = b) := by
  by_cases h : a = b
  · rw [h, decide_eq_true rfl, decide_eq_true rfl]
  · rw [decide_eq_false h, decide_eq_false (fun q => h (V.int.inj q))]
theorem dstr (a b : Str) : decide (V.str a = V.str b) = decide (a = b) := by
  by_cases h : a = b
  · rw [h, decide_eq_true rfl, decide_eq_true rfl]
  · rw [decide_eq_false h, decide_eq_false (fun q => h (V.str.inj q))]
structure TermsTxt (K : PySem.W.Frag) (w : World) (mg : Str → Option Value) : Prop where
  lens : ∃ (aL : Addr) (es : Array DictEntry) (n : Nat), mg "LENGTHS" = some (.ref aL) ∧ KDict K w aL es n ∧ ∀ z, match lenOf z with
    | some k => ∃ t, PySem.W.nsIn K aL z = some (some (.int k t))
    | none => PySem.W.nsIn K aL z = some none
  args : ∃ t, mg "MOST_ARGUMENTS" = some (.int 2 t)
  deep : ∃ t, mg "MOST_DEEP" = some (.int 8 t)
  parts : ∃ t, mg "MOST_PARTS" = some (.int 30 t)
/-- a truth about one value and a number -/
def spBn (K : PySem.W.Frag) (g : Int → PyData → Bool) : Sp := fun vs H Q _ => ∃ (v : V) (d : PyData) (n : Int), vs = [v, .int n] ∧ Dp K H v d ∧ szD d = true ∧ ∀ H', Same H H' → Q (.bl (g n d)) H'
section
variable {P : Program} {w : World} {K : PySem.W.Frag} {mg : Str → Option Value} {base : Heap}
theorem ok_callForm {f : Addr} {fd : FuncData} (F : Fun K "_has_call_form" "_has_call_form" sCallForm f fd) (M : Blt mg) (T : TermsTxt K w mg) : FnOk P w K mg base CX0 1 f fd ["terms"] (spB K callForm) := by
  obtain ⟨tA, gA⟩ := T.args
  refine F.ok scCallForm (fun vs H Q E h => ?_) (fun cdv A outer s H vs Q E hr h => ?_)
  · obtain ⟨v, d, rfl, _⟩ := h
    rfl
  · obtain ⟨v, d, rfl, hv, hsz, q⟩ := h
    refine ⟨_, pss_one (ps_ret (pe_and (pe_callB call_isi (by rfl) M.isinstance (by decide +kernel) (pa_cons (pv 0) (pa_cons (pe_bltn (v := .ty "tuple") (by rfl) M.tuple (by decide +kernel) rfl) pa_nil)))
      (pe_one (pe_cmpR op_le (pe_callB call_len_seq (by rfl) M.len PySem.boot_len (pa_cons (pv 0) pa_nil)) (pe_glob (v := .int 2) (by rfl) gA ⟨_, rfl⟩) (nomark _))))), ?_⟩
    refine ⟨v, rfl, v, _, _, _, _, rfl, .ty "tuple", dp_ty hv, kit_tup K d, _, rfl, ?_⟩
    have q1 := q H (Same.refl H)
    cases d with
    | tuple ts =>
      cases hv with
      | @tup a xs _ hs ha =>
        refine iteT ⟨_, rfl, a, xs, rfl, .inr hs, _, _, rfl, rfl, ?_⟩
        have e : xs.length = ts.length := dpA_len ha
        rw [e]
        exact q1
    | none => exact iteF q1
    | bool b => exact iteF q1
    | int i => exact iteF q1
    | str z => exact iteF q1
    | list ds => exact iteF q1
    | dict kvs => exact iteF q1
structure CellFns (K : PySem.W.Frag) (mg : Str → Option Value) (fW fV fN : Addr) (dW dV dN : FuncData) : Prop where
  W : Fun K "is_whole" "is_whole" sWhole fW dW
  V : Fun K "is_value" "is_value" sValue fV dV
  N : Fun K "is_name" "is_name" sName fN dN
  bW : Binds K dW ["value"] []
  bV : Binds K dV ["value"] []
  bN : Binds K dN ["value"] []
  gW : mg "is_whole" = some (.ref fW)
  gV : mg "is_value" = some (.ref fV)
  gN : mg "is_name" = some (.ref fN)
theorem ok_has {f fC fW fV fN : Addr} {fd dC dW dV dN : FuncData} (F : Fun K "_has_form" "_has_form" sHas f fd) (M : Blt mg) (TC : CellsTxt K mg) (T : TermsTxt K w mg) (G : CellFns K mg fW fV fN dW dV dN)
    (FC : Fun K "_has_call_form" "_has_call_form" sCallForm fC dC) (bC : Binds K dC ["terms"] []) (gC : mg "_has_call_form" = some (.ref fC)) :
    FnOk P w K mg base CX0 3 f fd ["part", "arguments"] (spBn K hasForm) := by
  have GW : FnOk P w K mg base CX0 1 fW dW ["value"] (spB K isWhole) := ok_whole G.W M
  have GV : FnOk P w K mg base CX0 2 fV dV ["value"] (spB K isValue) := ok_value G.V M TC G.W G.bW G.gW
  have GN : FnOk P w K mg base CX0 1 fN dN ["value"] (spB K isName) := ok_name G.N M TC
  have GC : FnOk P w K mg base CX0 1 fC dC ["terms"] (spB K callForm) := ok_callForm FC M T
  obtain ⟨aL, es, n0, gL, kL, hL⟩ := T.lens
  refine F.ok scHas (fun vs H Q E h => ?_) (fun cdv A outer s H vs Q E hr h => ?_)
  · obtain ⟨v, d, n, rfl, _⟩ := h
    rfl
  · obtain ⟨v, d, n, rfl, hv, hsz, q⟩ := h
    have hr1 : Room 1 _ := hr.mono (by decide)
    have hu := hu_of hr
    refine ⟨_, pss_cons (ps_if (pt_val (pe_call GV hr (by rfl) G.gV G.V.kp G.bV .nil pass0 (pa_cons (pv 0) pa_nil))) (pss_one (ps_ret pe_bl)) pss_nil)
      (pss_cons (ps_if (PW.pt (pw_or (pt_not (pt_val (pe_callB call_isi (by rfl) M.isinstance (by decide +kernel) (pa_cons (pv 0) (pa_cons (pe_bltn (v := .ty "tuple") (by rfl) M.tuple (by decide +kernel) rfl) pa_nil)))))
        (pw_or (pt_cmpR op_eq (pe_callB call_len_seq (by rfl) M.len PySem.boot_len (pa_cons (pv 0) pa_nil)) pe_int (nomark _))
          (pw_or1 (pt_not (pt_val (pe_callB call_isi (by rfl) M.isinstance (by decide +kernel) (pa_cons (pe_ix ix_tup (pv 0) pe_int (fun _ _ => rfl)) (pa_cons (pe_bltn (v := .ty "str") (by rfl) M.str (by decide +kernel) rfl) pa_nil)))))))))
        (pss_one (ps_ret pe_bl)) pss_nil)
      (pss_cons (ps_set (i := 2) scHas.nd rfl (.inl rfl) (pe_ix ix_tup (pv 0) pe_int (fun _ _ => rfl)))
      (pss_cons (ps_if (pt_cmpR op_eq (pv 2) pe_str (nomark _)) (pss_one (ps_ret (pe_and (pe_cmpR op_eq (pe_callB call_len_seq (by rfl) M.len PySem.boot_len (pa_cons (pv 0) pa_nil)) pe_int (nomark _))
          (pe_and (pe_call GW hr1 (by rfl) G.gW G.W.kp G.bW .nil pass0 (pa_cons (pe_ix ix_tup (pv 0) pe_int (fun _ _ => rfl)) pa_nil))
            (pe_one (pe_chain op_le op_lt pe_int (pe_ix ix_tup (pv 0) pe_int (fun _ _ => rfl)) (pv 1))))))) pss_nil)
      (pss_cons (ps_if (pt_cmpR op_eq (pv 2) pe_str (nomark _)) (pss_one (ps_ret (pe_and (pe_cmpR op_eq (pe_callB call_len_seq (by rfl) M.len PySem.boot_len (pa_cons (pv 0) pa_nil)) pe_int (nomark _))
          (pe_one (pe_call GN hr1 (by rfl) G.gN G.N.kp G.bN .nil pass0 (pa_cons (pe_ix ix_tup (pv 0) pe_int (fun _ _ => rfl)) pa_nil)))))) pss_nil)
      (pss_cons (ps_if (pt_cmpR op_eq (pv 2) pe_str (nomark _)) (pss_one (ps_ret (pe_and (pe_cmpR op_eq (pe_callB call_len_seq (by rfl) M.len PySem.boot_len (pa_cons (pv 0) pa_nil)) pe_int (nomark _))
          (pe_and (pe_call GN hr1 (by rfl) G.gN G.N.kp G.bN .nil pass0 (pa_cons (pe_ix ix_tup (pv 0) pe_int (fun _ _ => rfl)) pa_nil))
            (pe_one (pe_call GC hr1 (by rfl) gC FC.kp bC .nil pass0 (pa_cons (pe_ix ix_tup (pv 0) pe_int (fun _ _ => rfl)) pa_nil))))))) pss_nil)
      (pss_one (ps_ret (pe_and (pe_cmpR (op_in_kd kL) (pv 2) (pe_glob (v := .ref aL) (by rfl) gL rfl) (by rfl))
        (pe_one (pe_cmpR op_eq (pe_callB call_len_seq (by rfl) M.len PySem.boot_len (pa_cons (pv 0) pa_nil)) (pe_ix ix_kdict (pe_glob (v := .ref aL) (by rfl) gL rfl) (pv 2) (fun _ _ => rfl)) (nomark _))))))))))), ?_⟩
    refine ⟨v, rfl, v, d, rfl, hv, hsz, fun H1 s1 => ⟨_, rfl, ?_⟩⟩
    have hv1 := dp_same s1 hv
    have fin : ∀ (b : Bool) H2, Same H1 H2 → hasForm n d = b → Q (.bl b) H2 := fun b H2 s2 e => by
      have q1 := q H2 (s1.trans s2)
      rw [e] at q1
      exact q1
    cases hval : isValue d with
    | true =>
      refine iteT (fin true H1 (Same.refl _) ?_)
      show (isValue d || _) = true
      rw [hval]
      rfl
    | false =>
      refine iteF ⟨v, rfl, v, _, _, _, _, rfl, .ty "tuple", dp_ty hv1, kit_tup K d, _, rfl, ?_⟩
      cases d with
      | tuple ts =>
        cases hv1 with
        | @tup a xs _ hs ha =>
          have el : xs.length = ts.length := dpA_len ha
          refine iteF ⟨_, rfl, a, xs, rfl, .inr hs, rfl, _, rfl, ?_⟩
          rw [dint]
          cases ts with
          | nil =>
            rw [el]
            exact iteT (fin false H1 (Same.refl _) (by
              show (isValue (.tuple []) || false) = false
              rw [hval]
              rfl))
          | cons d0 rest =>
            have e0 : xs.length = rest.length + 1 := el
            rw [decide_eq_false (show ¬ (xs.length : Int) = 0 by omega)]
            cases ha with
            | @cons x0 xr _ _ h0 hr0 =>
              have at0 : atI (x0 :: xr) (0 : Int) = some x0 := atI_nat (j := 0) rfl
              have lr : xr.length = rest.length := dpA_len hr0
              refine iteF ⟨_, rfl, a, x0 :: xr, 0, x0, rfl, rfl, hs, at0, x0, _, _, _, _, rfl, .ty "str", dp_ty h0, kit_str K d0, _, rfl, ?_⟩
              cases d0 with
              | str z =>
                cases h0
                refine iteF ⟨_, rfl, a, _, 0, .str z, rfl, rfl, hs, at0, ?_⟩
                have hf : hasForm n (.tuple (.str z :: rest)) = formOf n z rest := by
                  show (isValue (.tuple (.str z :: rest)) || formOf n z rest) = _
                  rw [hval]
                  rfl
                refine ⟨_, rfl, rfl, _, rfl, ?_⟩
                have hszr : szDs rest = true := (Bool.and_eq_true_iff.mp (szD_tup hsz)).2
                rw [dstr]
                by_cases z1 : z = "arg"
                · have fe : formOf n z rest = on1 (below n) rest := if_pos z1
                  rw [fe] at hf
                  rw [decide_eq_true z1]
                  refine iteT ⟨_, rfl, a, _, rfl, .inr hs, rfl, _, rfl, ?_⟩
                  rw [dint]
                  by_cases hl : rest.length = 1
                  · rw [decide_eq_true (show (((V.str z :: xr).length : Nat) : Int) = 2 by rw [List.length_cons]; omega)]
                    obtain ⟨d1, rfl⟩ := List.length_eq_one_iff.mp hl
                    cases hr0 with
                    | @cons x1 xr1 _ _ h1 hn1 =>
                      cases hn1
                      have at1 : atI [.str z, x1] (1 : Int) = some x1 := atI_nat (j := 1) rfl
                      refine iteT ⟨_, rfl, a, _, 1, x1, rfl, rfl, hs, at1, x1, d1, rfl, h1, szDs_get hszr (i := 0) rfl, fun H2 s2 => ⟨_, rfl, ?_⟩⟩
                      cases d1 with
                      | int i =>
                        cases h1
                        refine iteT ⟨_, rfl, a, _, 1, _, rfl, rfl, same_sqT s2 hs, at1, _, _, rfl, rfl, _, rfl, ?_⟩
                        have hb : hasForm n (.tuple [.str z, .int i]) = (decide (0 ≤ i) && decide (i < n)) := hf
                        cases h0 : decide (0 ≤ i) with
                        | false =>
                          rw [h0] at hb
                          exact iteF (fin false H2 s2 hb)
                        | true =>
                          rw [h0] at hb
                          exact iteT ⟨_, rfl, _, _, rfl, rfl, fin _ H2 s2 hb⟩
                      | none => exact iteF (fin false H2 s2 hf)
                      | bool b => exact iteF (fin false H2 s2 hf)
                      | str y => exact iteF (fin false H2 s2 hf)
                      | list ds => exact iteF (fin false H2 s2 hf)
                      | tuple ds => exact iteF (fin false H2 s2 hf)
                      | dict kvs => exact iteF (fin false H2 s2 hf)
                  · rw [decide_eq_false (show ¬ (((V.str z :: xr).length : Nat) : Int) = 2 by rw [List.length_cons]; omega)]
                    exact iteF (fin false H1 (Same.refl _) (hf.trans (on1_bad hl)))
                · rw [decide_eq_false z1]
                  refine iteF ⟨_, rfl, rfl, _, rfl, ?_⟩
                  rw [dstr]
                  by_cases z2 : z = "cell"
                  · have fe : formOf n z rest = on1 isName rest := (if_neg z1).trans (if_pos z2)
                    rw [fe] at hf
                    rw [decide_eq_true z2]
                    refine iteT ⟨_, rfl, a, _, rfl, .inr hs, rfl, _, rfl, ?_⟩
                    rw [dint]
                    by_cases hl : rest.length = 1
                    · rw [decide_eq_true (show (((V.str z :: xr).length : Nat) : Int) = 2 by rw [List.length_cons]; omega)]
                      obtain ⟨d1, rfl⟩ := List.length_eq_one_iff.mp hl
                      cases hr0 with
                      | @cons x1 xr1 _ _ h1 hn1 =>
                        cases hn1
                        have at1 : atI [.str z, x1] (1 : Int) = some x1 := atI_nat (j := 1) rfl
                        exact iteT ⟨_, rfl, a, _, 1, x1, rfl, rfl, hs, at1, x1, d1, rfl, h1, szDs_get hszr (i := 0) rfl, fun H2 s2 => fin _ H2 s2 hf⟩
                    · rw [decide_eq_false (show ¬ (((V.str z :: xr).length : Nat) : Int) = 2 by rw [List.length_cons]; omega)]
                      exact iteF (fin false H1 (Same.refl _) (hf.trans (on1_bad hl)))
                  · rw [decide_eq_false z2]
                    refine iteF ⟨_, rfl, rfl, _, rfl, ?_⟩
                    rw [dstr]
                    by_cases z3 : z = "call"
                    · have fe : formOf n z rest = on2 (fun x y => isName x && callForm y) rest := (if_neg z1).trans ((if_neg z2).trans (if_pos z3))
                      rw [fe] at hf
                      rw [decide_eq_true z3]
                      refine iteT ⟨_, rfl, a, _, rfl, .inr hs, rfl, _, rfl, ?_⟩
                      rw [dint]
                      by_cases hl : rest.length = 2
                      · rw [decide_eq_true (show (((V.str z :: xr).length : Nat) : Int) = 3 by rw [List.length_cons]; omega)]
                        obtain ⟨d1, d2, rfl⟩ := len2 hl
                        cases hr0 with
                        | @cons x1 xr1 _ _ h1 hn1 =>
                          cases hn1 with
                          | @cons x2 xr2 _ _ h2 hn2 =>
                            cases hn2
                            have at1 : atI [.str z, x1, x2] (1 : Int) = some x1 := atI_nat (j := 1) rfl
                            have at2 : atI [.str z, x1, x2] (2 : Int) = some x2 := atI_nat (j := 2) rfl
                            refine iteT ⟨_, rfl, a, _, 1, x1, rfl, rfl, hs, at1, x1, d1, rfl, h1, szDs_get hszr (i := 0) rfl, fun H2 s2 => ⟨_, rfl, ?_⟩⟩
                            have hb : hasForm n (.tuple [.str z, d1, d2]) = (isName d1 && callForm d2) := hf
                            cases hn : isName d1 with
                            | false =>
                              rw [hn] at hb
                              exact iteF (fin false H2 s2 hb)
                            | true =>
                              rw [hn] at hb
                              exact iteT ⟨_, rfl, a, _, 2, x2, rfl, rfl, same_sqT s2 hs, at2, x2, d2, rfl, dp_same s2 h2, szDs_get hszr (i := 1) rfl, fun H3 s3 => fin _ H3 (s2.trans s3) hb⟩
                      · rw [decide_eq_false (show ¬ (((V.str z :: xr).length : Nat) : Int) = 3 by rw [List.length_cons]; omega)]
                        exact iteF (fin false H1 (Same.refl _) (hf.trans (on2_bad hl)))
                    · rw [decide_eq_false z3]
                      have fe : formOf n z rest = (match lenOf z with | some k => decide ((rest.length : Int) + 1 = k) | none => false) := (if_neg z1).trans ((if_neg z2).trans (if_neg z3))
                      rw [fe] at hf
                      have hz := hL z
                      cases ez : lenOf z with
                      | none =>
                        rw [ez] at hz hf
                        exact iteF ⟨_, rfl, z, none, rfl, rfl, hz, _, rfl, iteF (fin false H1 (Same.refl _) hf)⟩
                      | some k =>
                        rw [ez] at hz hf
                        obtain ⟨t, hz⟩ := hz
                        refine iteF ⟨_, rfl, z, some _, rfl, rfl, hz, _, rfl, iteT ⟨_, rfl, a, _, rfl, .inr hs, _, rfl, aL, z, .int k, rfl, rfl, ⟨es, n0, _, kL.at_, kL.lit, hz, ⟨_, rfl⟩⟩, rfl, ?_⟩⟩
                        rw [dint]
                        have e5 : (((V.str z :: xr).length : Nat) : Int) = (rest.length : Int) + 1 := by
                          rw [List.length_cons]
                          omega
                        have e6 := fin _ H1 (Same.refl _) hf
                        rw [← e5] at e6
                        exact e6
              | none => exact iteT (fin false H1 (Same.refl _) (Bool.or_eq_false_iff.mpr ⟨hval, rfl⟩))
              | bool b => exact iteT (fin false H1 (Same.refl _) (Bool.or_eq_false_iff.mpr ⟨hval, rfl⟩))
              | int i => exact iteT (fin false H1 (Same.refl _) (Bool.or_eq_false_iff.mpr ⟨hval, rfl⟩))
              | list ds => exact iteT (fin false H1 (Same.refl _) (Bool.or_eq_false_iff.mpr ⟨hval, rfl⟩))
              | tuple ds => exact iteT (fin false H1 (Same.refl _) (Bool.or_eq_false_iff.mpr ⟨hval, rfl⟩))
              | dict kvs => exact iteT (fin false H1 (Same.refl _) (Bool.or_eq_false_iff.mpr ⟨hval, rfl⟩))
      | none => exact iteT (fin false H1 (Same.refl _) (Bool.or_eq_false_iff.mpr ⟨hval, rfl⟩))
      | bool b => exact iteT (fin false H1 (Same.refl _) (Bool.or_eq_false_iff.mpr ⟨hval, rfl⟩))
      | int i => exact iteT (fin false H1 (Same.refl _) (Bool.or_eq_false_iff.mpr ⟨hval, rfl⟩))
      | str z => exact iteT (fin false H1 (Same.refl _) (Bool.or_eq_false_iff.mpr ⟨hval, rfl⟩))
      | list ds => exact iteT (fin false H1 (Same.refl _) (Bool.or_eq_false_iff.mpr ⟨hval, rfl⟩))
      | dict kvs => exact iteT (fin false H1 (Same.refl _) (Bool.or_eq_false_iff.mpr ⟨hval, rfl⟩))
end
/-! ### what stands in a term -/
abbrev sInner : Stmt := topS 18
abbrev sNext : Stmt := topS 19
theorem scInner : FnScope ["term"] ["term"] (defScope sInner) := ⟨rfl, rfl, rfl, by decide +kernel, rfl, by decide +kernel, by decide +kernel⟩
theorem scNext : FnScope ["level", "part", "inner"] ["level"] (defScope sNext) := ⟨rfl, rfl, rfl, by decide +kernel, rfl, by decide +kernel, by decide +kernel⟩
def second : List PyData → List PyData
  | [_, .tuple ts] => ts
  | _ => []
def inner : PyData → List PyData
  | .tuple (.str z :: rest) => if z = "arg" ∨ z = "cell" then [] else if z = "call" then second rest else rest
  | _ => []
theorem form_str {n : Int} {d : PyData} (h : hasForm n d = true) (hv : isValue d = false) : ∃ z rest, d = .tuple (.str z :: rest) ∧ formOf n z rest = true := by
  unfold hasForm at h
  rw [hv] at h
  match d, h with
  | .tuple (.str z :: rest), h => exact ⟨z, rest, rfl, h⟩
theorem in_two (z a b : Str) : inV (.str z) [.str a, .str b] = decide (z = a ∨ z = b) := by
  show ((a == z) || ((b == z) || false)) = _
  rw [Bool.or_false]
  by_cases h1 : z = a
  · subst h1
    rw [beq_self_eq_true, decide_eq_true (.inl rfl)]
    rfl
  · have e1 : (a == z) = false := beq_eq_false_iff_ne.mpr (fun q => h1 q.symm)
    rw [e1]
    by_cases h2 : z = b
    · subst h2
      rw [beq_self_eq_true, decide_eq_true (.inr rfl)]
      rfl
    · have e2 : (b == z) = false := beq_eq_false_iff_ne.mpr (fun q => h2 q.symm)
      rw [e2, decide_eq_false (fun q => q.elim h1 h2)]
      rfl
def spInner (K : PySem.W.Frag) : Sp := fun vs H Q _ => ∃ (v : V) (d : PyData) (n : Int) (H0 : Hp), vs = [v] ∧ Same H0 H ∧ Dp K H0 v d ∧ szD d = true ∧ hasForm n d = true ∧
  ∀ p xs H', Same H H' → H p = none → H' p = some (.lst xs) → DpAll K H0 xs (inner d) → Q (.ref p) H'
section
variable {P : Program} {w : World} {K : PySem.W.Frag} {mg : Str → Option Value} {base : Heap}
theorem ok_inner {f fW fV fN : Addr} {fd dW dV dN : FuncData} (F : Fun K "inner_terms" "inner_terms" sInner f fd) (M : Blt mg) (TC : CellsTxt K mg) (G : CellFns K mg fW fV fN dW dV dN) : FnOk P w K mg base CX0 3 f fd ["term"] (spInner K) := by
  have GV : FnOk P w K mg base CX0 2 fV dV ["value"] (spB K isValue) := ok_value G.V M TC G.W G.bW G.gW
  refine F.ok scInner (fun vs H Q E h => ?_) (fun cdv A outer s H vs Q E hr h => ?_)
  · obtain ⟨v, d, n, H0, rfl, _⟩ := h
    rfl
  · obtain ⟨v, d, n, H0, rfl, s0, hv, hsz, hf, q⟩ := h
    refine ⟨_, pss_cons (ps_if (PW.pt (pw_or (pt_val (pe_call GV hr (by rfl) G.gV G.V.kp G.bV .nil pass0 (pa_cons (pv 0) pa_nil)))
        (pw_or1 (pt_cmpR op_in_seq (pe_ix ix_tup (pv 0) pe_int (fun _ _ => rfl)) (pe_tup (pa_cons pe_str (pa_cons pe_str pa_nil))) (by rfl))))) (pss_one (ps_ret (pe_lst pa_nil))) pss_nil)
      (pss_cons (ps_if (pt_cmpR op_eq (pe_ix ix_tup (pv 0) pe_int (fun _ _ => rfl)) pe_str (nomark _)) (pss_one (ps_ret (pe_callTy call_list_of (by rfl) M.list (by decide +kernel) (pa_cons (pe_ix ix_tup (pv 0) pe_int (fun _ _ => rfl)) pa_nil)))) pss_nil)
      (pss_one (ps_ret (pe_callTy call_list_of (by rfl) M.list (by decide +kernel) (pa_cons (pe_slice sl_tup (pv 0) (po_some pe_int) po_none) pa_nil))))), ?_⟩
    have fin : ∀ xs H1, Same H H1 → DpAll K H0 xs (inner d) → ∀ p, H1 p = none → Q (.ref p) (upd H1 p (.lst xs)) := fun xs H1 s1 ha p np => q p xs _ (s1.trans (same_upd np)) (s1.free np) upd_same ha
    refine ⟨v, rfl, v, d, rfl, dp_same s0 hv, hsz, fun H1 s1 => ⟨_, rfl, ?_⟩⟩
    cases hval : isValue d with
    | true =>
      have ei : inner d = [] := by cases d <;> first | rfl | cases hval
      exact iteT ⟨Nat.zero_le _, fun p np => fin [] H1 s1 (by rw [ei]; exact .nil) p np⟩
    | false =>
      obtain ⟨z, rest, rfl, hf1⟩ := form_str hf hval
      cases hv with
      | @tup a xs _ hs ha =>
        cases ha with
        | @cons x0 xr _ _ h0 hr0 =>
          cases h0
          have at0 : atI (V.str z :: xr) (0 : Int) = some (.str z) := atI_nat (j := 0) rfl
          refine iteF ⟨_, rfl, a, _, 0, .str z, rfl, rfl, same_sqT (s0.trans s1) hs, at0, (by show 2 ≤ sizeLine; decide), fun p np => ?_⟩
          have s2 : Same H1 (upd H1 p (.tup [.str "arg", .str "cell"])) := same_upd np
          refine ⟨p, _, rfl, .inr (.inl (.inl upd_same)), rfl, rfl, _, rfl, ?_⟩
          rw [in_two]
          by_cases z1 : z = "arg" ∨ z = "cell"
          · rw [decide_eq_true z1]
            have ei : inner (.tuple (.str z :: rest)) = [] := if_pos z1
            exact iteT ⟨Nat.zero_le _, fun p2 np2 => fin [] _ (s1.trans s2) (by rw [ei]; exact .nil) p2 np2⟩
          · rw [decide_eq_false z1]
            have hs2 := same_sqT s2 (same_sqT (s0.trans s1) hs)
            refine iteF ⟨_, rfl, a, _, 0, .str z, rfl, rfl, hs2, at0, rfl, _, rfl, ?_⟩
            rw [dstr]
            by_cases z3 : z = "call"
            · rw [decide_eq_true z3]
              have fe : formOf n z rest = on2 (fun x y => isName x && callForm y) rest := (if_neg (fun h => z1 (.inl h))).trans ((if_neg (fun h => z1 (.inr h))).trans (if_pos z3))
              rw [fe] at hf1
              have ei : inner (.tuple (.str z :: rest)) = second rest := (if_neg z1).trans (if_pos z3)
              have hl : rest.length = 2 := by
                by_cases h : rest.length = 2
                · exact h
                · rw [on2_bad h] at hf1
                  cases hf1
              obtain ⟨d1, d2, rfl⟩ := len2 hl
              cases hr0 with
              | @cons x1 xr1 _ _ h1 hn1 =>
                cases hn1 with
                | @cons x2 xr2 _ _ h2 hn2 =>
                  cases hn2
                  have at2 : atI [.str z, x1, x2] (2 : Int) = some x2 := atI_nat (j := 2) rfl
                  have hc : callForm d2 = true := (Bool.and_eq_true_iff.mp hf1).2
                  cases d2 with
                  | tuple ts =>
                    cases h2 with
                    | @tup b ys _ hb hys =>
                      exact iteT ⟨_, rfl, a, _, 2, _, rfl, rfl, hs2, at2, b, ys, rfl, .inr (same_sqT s2 (same_sqT (s0.trans s1) hb)), fun p2 np2 => fin ys _ (s1.trans s2) (by rw [ei]; exact hys) p2 np2⟩
                  | none => cases hc
                  | bool _ => cases hc
                  | int _ => cases hc
                  | str _ => cases hc
                  | list _ => cases hc
                  | dict _ => cases hc
            · rw [decide_eq_false z3]
              have ei : inner (.tuple (.str z :: rest)) = rest := (if_neg z1).trans (if_neg z3)
              refine iteF ⟨_, rfl, 1, rfl, a, _, rfl, hs2, ?_, fun p2 np2 => ?_⟩
              · intro h
                have h1 := h.1
                rw [show HT.sIx (V.str z :: xr).length 0 (some 1) = min 1 (V.str z :: xr).length from HT.sIx_nat _ 0 1, List.length_cons] at h1
                omega
              · have s3 := (s1.trans s2).trans (same_upd (o := .tup (cutV (V.str z :: xr) (some 1) none)) np2)
                refine ⟨p2, cutV (V.str z :: xr) (some 1) none, rfl, .inr (.inl (.inl upd_same)), fun p3 np3 => fin _ _ s3 ?_ p3 np3⟩
                rw [ei, cut1]
                exact hr0
end
def spNext (K : PySem.W.Frag) : Sp := fun vs H Q _ => ∃ (a : Addr) (xs : List V) (ds : List PyData) (n : Int) (H0 : Hp), vs = [.ref a] ∧ Same H0 H ∧ SqL K H a xs ∧ DpAll K H0 xs ds ∧ szDs ds = true ∧ ds.all (hasForm n) = true ∧ (ds.flatMap inner).length ≤ 10000 ∧ ds.length ≤ 10000 ∧
  ∀ p ys H', Same H H' → H p = none → H' p = some (.lst ys) → DpAll K H0 ys (ds.flatMap inner) → Q (.ref p) H'
theorem flat_take {ds : List PyData} {i : Nat} {d : PyData} (h : ds[i]? = some d) : (ds.take (i + 1)).flatMap inner = (ds.take i).flatMap inner ++ inner d := by
  rw [take_snoc h, List.flatMap_append]
  simp
theorem flat_take_len (ds : List PyData) (i : Nat) : ((ds.take i).flatMap inner).length ≤ (ds.flatMap inner).length := by
  have h : ds.flatMap inner = (ds.take i).flatMap inner ++ (ds.drop i).flatMap inner := by
    rw [← List.flatMap_append, List.take_append_drop]
  rw [h, List.length_append]
  omega
section
variable {P : Program} {w : World} {K : PySem.W.Frag} {mg : Str → Option Value} {base : Heap}
theorem ok_next {f fI : Addr} {fd dI : FuncData} (F : Fun K "_next_level" "_next_level" sNext f fd) (GI : FnOk P w K mg base CX0 3 fI dI ["term"] (spInner K)) (FI : Fun K "inner_terms" "inner_terms" sInner fI dI) (bI : Binds K dI ["term"] []) (gI : mg "inner_terms" = some (.ref fI)) :
    FnOk P w K mg base CX0 4 f fd ["level"] (spNext K) := by
  refine F.ok scNext (fun vs H Q E h => ?_) (fun cdv A outer s H vs Q E hr h => ?_)
  · obtain ⟨a, xs, ds, n, H0, rfl, _⟩ := h
    rfl
  · obtain ⟨a, xs, ds, n, H0, rfl, s0, hs, ha, hsz, hf, hlen, hlen2, q⟩ := h
    refine' ⟨_, pss_one (ps_ret ?e), ?r⟩
    case e =>
      refine' pe_lc2 (own := [("part", 1), ("inner", 2)]) (vs1 := [2]) (g := gName 1) (g1 := gName 2) (wi1 := iList K (tCall (spInner K) [] E0 (tCons (tVar 1) tNil))) (by rfl) scNext.nd (pi_list (pv 0)) (blkOk_by (own := [("part", 1), ("inner", 2)]) (N := ["level", "part", "inner"]) (sc := defScope sNext) (by decide +kernel)) (by decide)
        ?hg ?ht ?hi ?hg1 ?ht1 ?he
      case hg => exact fun _ _ _ _ _ => pg_name (i := 1) scNext.nd rfl (Or.inl rfl)
      case ht => exact fun _ _ _ _ _ => pts_nil
      case hi => exact fun _ _ _ _ _ => pi_list (pe_call GI hr (by rfl) gI FI.kp bI .nil pass0 (pa_cons (pv 1) pa_nil))
      case hg1 => exact fun _ _ _ _ _ => pg_name (i := 2) scNext.nd rfl (Or.inl rfl)
      case ht1 => exact fun _ _ _ _ _ => pts_nil
      case he => exact fun _ _ _ _ _ => pv 2
    have el : xs.length = ds.length := dpA_len ha
    refine ⟨_, rfl, a, rfl, ⟨_, hs⟩, fun D hD => ?_⟩
    refine walk_gen (walk_list (K := K) (a := a) (xs := xs)) (fun i H' => Same H H' ∧ ∃ acc, H' D = some (.lst acc) ∧ DpAll K H0 acc ((ds.take i).flatMap inner)) ⟨same_upd hD, [], upd_same, .nil⟩ (fun i H' _ p => p.1.seq hs) (fun i x H1 H2 hi p y => ?_) (fun H' p => ?_)
    · obtain ⟨s1, acc, e1, ac⟩ := p
      obtain ⟨rfl, hx⟩ := y
      obtain ⟨d, hd, dx⟩ := dpA_at ha hx
      have hfd : hasForm n d = true := List.all_eq_true.mp hf d (List.mem_of_getElem? hd)
      refine And.intro rfl ?_
      unfold tYes
      refine iteT ?_
      refine ⟨_, rfl, x, d, n, H0, rfl, s0.trans s1, dx, szDs_get hsz hd, hfd, fun p ys H3 s3 np e3 hys => ?_⟩
      have nDp : D ≠ p := ne_of_none e1 np
      refine ⟨p, rfl, ⟨ys, .inl (.inl e3)⟩, ?_⟩
      have ely : ys.length = (inner d).length := dpA_len hys
      have e13 : H3 D = some (.lst acc) := s3 _ _ e1
      refine walk_gen (walk_list (K := K) (a := p) (xs := ys)) (fun j H' => Same H H' ∧ H' p = some (.lst ys) ∧ H' D = some (.lst (acc ++ ys.take j))) ⟨s1.trans s3, e3, by rw [List.take_zero, List.append_nil]; exact e13⟩ (fun j H' _ p' => .inl (.inl p'.2.1)) (fun j z H4 H5 hj p4 y4 => ?_) (fun H' p' => ?_)
      · obtain ⟨s4, e4, f4⟩ := p4
        obtain ⟨rfl, hz⟩ := y4
        refine And.intro rfl ?_
        refine iteT ?_
        refine ⟨z, rfl, acc ++ ys.take j, f4, ?_, fun b o e => ?_, ?_, ?_⟩
        · rw [List.length_append, List.length_take, dpA_len ac]
          have h1 := flat_take_len ds (i + 1)
          rw [flat_take hd, List.length_append] at h1
          exact Nat.lt_of_le_of_lt (show _ ≤ 10000 by omega) (by decide)
        · rw [upd_ne (ne_of_none e hD)]
          exact s4 _ _ e
        · rw [upd_ne (fun e => nDp e.symm)]
          exact e4
        · rw [upd_same, take_snoc hz, List.append_assoc]
      · obtain ⟨s5, e5, f5⟩ := p'
        refine ⟨s5, acc ++ ys, ?_, ?_⟩
        · rw [f5, List.take_length]
        · rw [flat_take hd]
          exact dpA_app ac hys
    · obtain ⟨s1, acc, e1, ac⟩ := p
      rw [el, List.take_length] at ac
      exact q D acc H' s1 hD e1 ac
end
/-! ### is_term -/
abbrev sTerm : Stmt := topS 15
theorem scTerm : FnScope ["value", "arguments", "level", "deep", "many", "part"] ["value", "arguments"] (defScope sTerm) := ⟨rfl, rfl, rfl, by decide +kernel, rfl, by decide +kernel, by decide +kernel⟩
def goT (n : Int) : Nat → List PyData → Nat → Nat → Bool
  | 0, _, _, _ => false
  | _ + 1, [], _, _ => true
  | f + 1, d :: ds, deep, many => !decide (8 < deep + 1 ∨ 30 < many + (d :: ds).length) && ((d :: ds).all (hasForm n) && goT n f ((d :: ds).flatMap inner) (deep + 1) (many + (d :: ds).length))
def isTerm (n : Int) (d : PyData) : Bool := goT n 9 [d] 0 0
theorem goT_nil {n : Int} {f deep many : Nat} : goT n (f + 1) [] deep many = true := rfl
theorem goT_cons {n : Int} {f deep many : Nat} {ds : List PyData} (h : ds ≠ []) : goT n (f + 1) ds deep many = (!decide (8 < deep + 1 ∨ 30 < many + ds.length) && (ds.all (hasForm n) && goT n f (ds.flatMap inner) (deep + 1) (many + ds.length))) := by
  cases ds with
  | nil => exact absurd rfl h
  | cons d ds => rfl
theorem form_len {n : Int} {z : Str} {rest : List PyData} (h : formOf n z rest = true) : rest.length ≤ 3 ∧ (z = "call" → ∃ d1 ts, rest = [d1, .tuple ts] ∧ ts.length ≤ 2) := by
  unfold formOf at h
  by_cases z1 : z = "arg"
  · rw [if_pos z1] at h
    have hl : rest.length = 1 := by
      by_cases q : rest.length = 1
      · exact q
      · rw [on1_bad q] at h
        cases h
    refine ⟨by omega, fun q => ?_⟩
    rw [z1] at q
    exact absurd q (by decide +kernel)
  · rw [if_neg z1] at h
    by_cases z2 : z = "cell"
    · rw [if_pos z2] at h
      have hl : rest.length = 1 := by
        by_cases q : rest.length = 1
        · exact q
        · rw [on1_bad q] at h
          cases h
      refine ⟨by omega, fun q => ?_⟩
      rw [z2] at q
      exact absurd q (by decide +kernel)
    · rw [if_neg z2] at h
      by_cases z3 : z = "call"
      · rw [if_pos z3] at h
        have hl : rest.length = 2 := by
          by_cases q : rest.length = 2
          · exact q
          · rw [on2_bad q] at h
            cases h
        refine ⟨by omega, fun _ => ?_⟩
        obtain ⟨d1, d2, rfl⟩ := len2 hl
        have hc : callForm d2 = true := (Bool.and_eq_true_iff.mp h).2
        cases d2 with
        | tuple ts => exact ⟨d1, ts, rfl, by have := of_decide_eq_true hc; omega⟩
        | none => cases hc
        | bool _ => cases hc
        | int _ => cases hc
        | str _ => cases hc
        | list _ => cases hc
        | dict _ => cases hc
      · rw [if_neg z3] at h
        refine ⟨?_, fun q => absurd q z3⟩
        cases e : lenOf z with
        | none =>
          rw [e] at h
          cases h
        | some k =>
          rw [e] at h
          have h1 := of_decide_eq_true h
          have hk : k ≤ 4 := by
            unfold lenOf at e
            split at e
            · cases e
              decide
            · split at e
              · cases e
                decide
              · split at e
                · cases e
                  decide
                · split at e
                  · cases e
                    decide
                  · split at e
                    · cases e
                      decide
                    · cases e
          omega
theorem inner_len {n : Int} {d : PyData} (h : hasForm n d = true) : (inner d).length ≤ 3 := by
  cases hv : isValue d with
  | true =>
    have e : inner d = [] := by cases d <;> first | rfl | cases hv
    rw [e]
    exact Nat.zero_le _
  | false =>
    obtain ⟨z, rest, rfl, hf⟩ := form_str h hv
    have hl := form_len hf
    show (if z = "arg" ∨ z = "cell" then [] else if z = "call" then second rest else rest).length ≤ 3
    by_cases z1 : z = "arg" ∨ z = "cell"
    · rw [if_pos z1]
      exact Nat.zero_le _
    · rw [if_neg z1]
      by_cases z3 : z = "call"
      · rw [if_pos z3]
        obtain ⟨d1, ts, rfl, ht⟩ := hl.2 z3
        show ts.length ≤ 3
        omega
      · rw [if_neg z3]
        exact hl.1
theorem flat_len {n : Int} : ∀ {ds : List PyData}, ds.all (hasForm n) = true → (ds.flatMap inner).length ≤ 3 * ds.length
  | [], _ => Nat.le_refl _
  | d :: ds, h => by
    have h1 := Bool.and_eq_true_iff.mp h
    rw [List.flatMap_cons, List.length_append, List.length_cons]
    have := inner_len h1.1
    have := flat_len h1.2
    omega
theorem szDs_app : ∀ {a b : List PyData}, szDs (a ++ b) = (szDs a && szDs b)
  | [], _ => rfl
  | d :: a, b => by
    show (szD d && szDs (a ++ b)) = ((szD d && szDs a) && szDs b)
    rw [szDs_app, Bool.and_assoc]
theorem sz_inner {d : PyData} (h : szD d = true) : szDs (inner d) = true := by
  match d, h with
  | .none, _ => rfl
  | .bool _, _ => rfl
  | .int _, _ => rfl
  | .str _, _ => rfl
  | .list _, _ => rfl
  | .dict _, _ => rfl
  | .tuple [], _ => rfl
  | .tuple (.none :: _), _ => rfl
  | .tuple (.bool _ :: _), _ => rfl
  | .tuple (.int _ :: _), _ => rfl
  | .tuple (.list _ :: _), _ => rfl
  | .tuple (.tuple _ :: _), _ => rfl
  | .tuple (.dict _ :: _), _ => rfl
  | .tuple (.str z :: rest), h =>
    have hr : szDs rest = true := (Bool.and_eq_true_iff.mp (szD_tup h)).2
    show szDs (if z = "arg" ∨ z = "cell" then [] else if z = "call" then second rest else rest) = true
    by_cases z1 : z = "arg" ∨ z = "cell"
    · rw [if_pos z1]
      rfl
    · rw [if_neg z1]
      by_cases z3 : z = "call"
      · rw [if_pos z3]
        match rest, hr with
        | [_, .tuple ts], hr => exact szD_tup (szDs_get (i := 1) hr rfl)
        | [], _ => rfl
        | [_], _ => rfl
        | [_, .none], _ => rfl
        | [_, .bool _], _ => rfl
        | [_, .int _], _ => rfl
        | [_, .str _], _ => rfl
        | [_, .list _], _ => rfl
        | [_, .dict _], _ => rfl
        | _ :: b :: _ :: _, _ => cases b <;> rfl
      · rw [if_neg z3]
        exact hr
theorem sz_flat : ∀ {ds : List PyData}, szDs ds = true → szDs (ds.flatMap inner) = true
  | [], _ => rfl
  | d :: ds, h => by
    have h1 := Bool.and_eq_true_iff.mp h
    rw [List.flatMap_cons, szDs_app, sz_inner h1.1, sz_flat h1.2]
    rfl
theorem all_rangeD (l : List PyData) (g : PyData → Bool) : ((List.range l.length).map fun i => g (l.getD i .none)).all id = l.all g := by
  have e : (List.range l.length).map (fun i => g (l.getD i .none)) = l.map g := by
    apply List.ext_getElem?
    intro i
    rw [List.getElem?_map, List.getElem?_map]
    by_cases hi : i < l.length
    · rw [List.getElem?_range hi, List.getElem?_eq_getElem hi]
      show some (g (l.getD i .none)) = some (g l[i])
      rw [List.getD_eq_getElem?_getD, List.getElem?_eq_getElem hi]
      rfl
    · rw [List.getElem?_eq_none (by simpa using hi), List.getElem?_eq_none (by simpa using hi)]
      rfl
  rw [e, List.all_map]
  rfl
section
variable {P : Program} {w : World} {K : PySem.W.Frag} {mg : Str → Option Value} {base : Heap}
theorem ok_term {f fH fX : Addr} {fd dH dX : FuncData} (F : Fun K "is_term" "is_term" sTerm f fd) (M : Blt mg) (T : TermsTxt K w mg)
    (GH : FnOk P w K mg base CX0 3 fH dH ["part", "arguments"] (spBn K hasForm)) (FH : Fun K "_has_form" "_has_form" sHas fH dH) (bH : Binds K dH ["part", "arguments"] []) (gH : mg "_has_form" = some (.ref fH))
    (GX : FnOk P w K mg base CX0 4 fX dX ["level"] (spNext K)) (FX : Fun K "_next_level" "_next_level" sNext fX dX) (bX : Binds K dX ["level"] []) (gX : mg "_next_level" = some (.ref fX)) :
    FnOk P w K mg base CX0 5 f fd ["value", "arguments"] (spBn K isTerm) := by
  obtain ⟨tD, gD⟩ := T.deep
  obtain ⟨tP, gP⟩ := T.parts
  refine F.ok scTerm (fun vs H Q E h => ?_) (fun cdv A outer s H vs Q E hr h => ?_)
  · obtain ⟨v, d, n, rfl, _⟩ := h
    rfl
  · obtain ⟨v, d, n, rfl, hv, hsz, q⟩ := h
    have hr3 : Room 3 _ := hr.mono (by decide)
    refine ⟨_, pss_cons (ps_set (i := 2) scTerm.nd rfl (.inl rfl) (pe_lst (pa_cons (pv 0) pa_nil)))
      (pss_cons (ps_set (i := 3) scTerm.nd rfl (.inl rfl) pe_int)
      (pss_cons (ps_set (i := 4) scTerm.nd rfl (.inl rfl) pe_int)
      (pss_cons (ps_while PassesOwn.never (pt_truth (pv 2) (by intro _; rfl))
        (pss_cons (ps_aug (i := 3) scTerm.nd rfl (.inl rfl) pe_int ip_add)
        (pss_cons (ps_aug (i := 4) scTerm.nd rfl (.inl rfl) (pe_callB call_len_seq (by rfl) M.len PySem.boot_len (pa_cons (pv 2) pa_nil)) ip_add)
        (pss_cons (ps_if (PW.pt (pw_or (pt_cmpR op_gt (pv 3) (pe_glob (v := .int 8) (by rfl) gD ⟨_, rfl⟩) (nomark _)) (pw_or1 (pt_cmpR op_gt (pv 4) (pe_glob (v := .int 30) (by rfl) gP ⟨_, rfl⟩) (nomark _))))) (pss_one (ps_ret pe_bl)) pss_nil)
        (pss_cons (ps_if (pt_not (pt_val (pe_callB (cr_all rfl) (by rfl) M.all (by decide +kernel) (pa_cons
            (pe_lc (own := [("part", 5)]) (g := gName 5) (te := tCall (spBn K hasForm) [] E0 (tCons (tVar 5) (tCons (tVar 1) tNil))) (by rfl) scTerm.nd (pi_list (pv 2)) (blkOk_by (own := [("part", 5)]) (N := ["value", "arguments", "level", "deep", "many", "part"]) (sc := defScope sTerm) (by decide +kernel))
              (fun _ _ _ _ _ => pg_name (i := 5) scTerm.nd rfl (Or.inl rfl)) (fun _ _ _ _ _ => pts_nil) (fun _ _ _ _ _ => pe_call GH hr3 (by rfl) gH FH.kp bH .nil pass0 (pa_cons (pv 5) (pa_cons (pv 1) pa_nil)))) pa_nil)))) (pss_one (ps_ret pe_bl)) pss_nil)
        (pss_one (ps_set (i := 2) scTerm.nd rfl (.inl rfl) (pe_call GX hr (by rfl) gX FX.kp bX .nil pass0 (pa_cons (pv 2) pa_nil)))))))))
      (pss_one (ps_ret pe_bl))))), ?_⟩
    have fin : ∀ (b : Bool) H1, Same H H1 → isTerm n d = b → Q (.bl b) H1 := fun b H1 s1 e => by
      rw [← e]
      exact q H1 s1
    refine ⟨v, rfl, (by show 1 ≤ sizeLine; decide), fun a0 na0 => ?_⟩
    refine q_c (σ := [some v, some (.int n), some (.ref a0), none, none, none]) (i := 3) (v := .int 0) ?_
    refine q_c (i := 4) (v := .int 0) ?_
    dsimp only [List.set]
    refine q_w ?_
    refine while_by (fun σ H' => ∃ (a : Addr) (xs : List V) (lv : List PyData) (k m : Nat) (y : Option V), σ = [some v, some (.int n), some (.ref a), some (.int k), some (.int m), y] ∧ Same H H' ∧ H' a = some (.lst xs) ∧ DpAll K H xs lv ∧ szDs lv = true ∧ k ≤ 8 ∧ lv.length ≤ 3000 ∧ goT n (9 - k) lv k m = isTerm n d)
      (fun σ _ => match σ with | [_, _, _, some (.int k), _, _] => 9 - k.toNat | _ => 0)
      ⟨a0, [v], [d], 0, 0, none, rfl, same_upd na0, upd_same, .cons hv .nil, (by show (szD d && true) = true; rw [hsz]; rfl), by omega, (by show 1 ≤ 3000; decide), rfl⟩ (fun σ H' hW => ?_) (fun σ H' Q1 Q2 hq ⟨x, e, k, t, q⟩ => ⟨x, e, k, t, hq _ _ q⟩)
    obtain ⟨a, xs, lv, k, m, y, rfl, s1, ea, ha, hz, hk, hln, hg⟩ := hW
    have el : xs.length = lv.length := dpA_len ha
    have hS : SqL K H' a xs := .inl (.inl ea)
    refine ⟨.ref a, rfl, _, .inl ⟨xs, hS, rfl⟩, ?_⟩
    cases lv with
    | nil =>
      have ex : xs = [] := List.eq_nil_of_length_eq_zero el
      subst ex
      refine iteF (fin true H' s1 ?_)
      rw [← hg, show 9 - k = (8 - k) + 1 by omega]
      rfl
    | cons d0 ds =>
      have ex : (!xs.isEmpty) = true := by
        cases xs with
        | nil => cases el
        | cons _ _ => rfl
      rw [ex]
      generalize hlv : d0 :: ds = lv at *
      have hne : lv ≠ [] := by
        rw [← hlv]
        exact List.cons_ne_nil _ _
      rw [show 9 - k = (8 - k) + 1 by omega, goT_cons hne] at hg
      refine iteT ⟨_, rfl, _, _, rfl, rfl, ?_⟩
      refine ⟨_, rfl, _, rfl, a, xs, rfl, .inl hS, _, _, rfl, rfl, ?_⟩
      refine ⟨_, rfl, _, _, rfl, rfl, _, rfl, ?_⟩
      have c1 : decide ((8 : Int) < (k : Int) + 1) = decide (8 < k + 1) := by
        by_cases h : 8 < k + 1
        · rw [decide_eq_true h, decide_eq_true (by omega)]
        · rw [decide_eq_false h, decide_eq_false (by omega)]
      have c2 : decide ((30 : Int) < (m : Int) + (xs.length : Int)) = decide (30 < m + lv.length) := by
        by_cases h : 30 < m + lv.length
        · rw [decide_eq_true h, decide_eq_true (by omega)]
        · rw [decide_eq_false h, decide_eq_false (by omega)]
      rw [c1]
      by_cases h1 : 8 < k + 1
      · rw [decide_eq_true h1]
        refine iteT (iteT (fin false H' s1 ?_))
        rw [← hg, decide_eq_true (.inl h1)]
        rfl
      · rw [decide_eq_false h1]
        refine iteF ⟨_, rfl, _, _, rfl, rfl, _, rfl, ?_⟩
        rw [c2]
        by_cases h2 : 30 < m + lv.length
        · rw [decide_eq_true h2]
          refine iteT (fin false H' s1 ?_)
          rw [← hg, decide_eq_true (.inr h2)]
          rfl
        · rw [decide_eq_false h2]
          rw [decide_eq_false (show ¬ (8 < k + 1 ∨ 30 < m + lv.length) from fun q => q.elim h1 h2)] at hg
          refine iteF ⟨_, rfl, a, rfl, ⟨_, hS⟩, fun D hD => ?_⟩
          refine lc_vals (vs := [5]) (j := 5) (walk_list (K := K) (a := a) (xs := xs)) (fun i => .bl (hasForm n (lv.getD i .none))) (by omega) hD (fun x => rfl) (fun H2 s2 => s2.seq hS) (fun i x H2 H3 hi s2 y2 => ?_) (fun H2 s2 e2 => ?_)
          · obtain ⟨rfl, hx⟩ := y2
            obtain ⟨di, hdi, dx⟩ := dpA_at ha hx
            refine ⟨Same.refl _, fun Q2 q2 => ?_⟩
            refine ⟨x, rfl, _, rfl, x, di, n, rfl, dp_same (s1.trans s2) dx, szDs_get hz hdi, fun H4 s4 => ?_⟩
            have e4 := q2 H4 s4
            rw [List.getD_eq_getElem?_getD, hdi] at e4
            exact e4
          · have eb : ((List.range xs.length).map fun i => hasForm n (lv.getD i .none)).all id = lv.all (hasForm n) := by
              rw [el]
              exact all_rangeD lv (hasForm n)
            refine ⟨D, (List.range xs.length).map (fun i => hasForm n (lv.getD i .none)), rfl, .inl (.inl ?_), ?_⟩
            · rw [e2, List.map_map]
              rfl
            · refine ⟨_, rfl, ?_⟩
              rw [eb]
              cases hb : lv.all (hasForm n) with
              | false =>
                refine iteT (fin false H2 (s1.trans s2) ?_)
                rw [← hg, hb]
                rfl
              | true =>
                rw [hb] at hg
                refine iteF ⟨_, rfl, a, xs, lv, n, H, rfl, s1.trans s2, s2.seq hS, ha, hz, hb, ?_, by omega, fun p ys H5 s5 np e5 hys => ?_⟩
                · have := flat_len hb
                  omega
                · have hfl := flat_len hb
                  refine ⟨⟨p, ys, lv.flatMap inner, k + 1, m + lv.length, y, ?_, (s1.trans s2).trans s5, e5, hys, sz_flat hz, by omega, by omega, ?_⟩, ?_⟩
                  · show [some v, some (V.int n), some (V.ref p), some (V.int ((k : Int) + 1)), some (V.int ((m : Int) + (xs.length : Int))), y] = _
                    rw [el]
                    rfl
                  · rw [show 9 - (k + 1) = 8 - k by omega]
                    exact hg
                  · show 9 - ((k : Int) + 1).toNat < 9 - (k : Int).toNat
                    omega
end
/-! ### an error of the text's own, over an own base -/
/-- what is written of the class B, whose __init__ is asked for by the class's name x -/
structure OwnBase (K : PySem.W.Frag) (mg : Str → Option Value) (x : Str) (B : Addr) : Prop where
  nam : mg x = some (.ref B)
  gta : PySem.W.specialIn K (.ref B) "__getattribute__" = some (some (.builtin "type.__getattribute__"))
  typ : PySem.W.typeIn K (.ref B) = some (.type "type")
  rds : PySem.W.readsIn K B (.type "type") = true
  ini : PySem.W.findCls K (.ref B) (.type "type") "__init__" = some (.val (.builtin "ValueError.__init__"))
section
variable {X : Cx} {e : Expr} {es : List Expr} {ta : TA} {p1 p2 pos : Pos}
theorem pe_baseI {pl : Sem Bool} {x : Str} {B : Addr} (vis : Gl X x) (T : OwnBase X.K X.mg x B) (arg : PA X (e :: es) ta)
    (run : eval (.Call (.Attribute (.Name x p1) "__init__" p2) (e :: es) [] pos) X.env = (do
      let cv ← eval (.Name x p1) X.env
      standAt p2.atName
      let (g, hd) ← holding [cv] (getMethod cv "__init__" pl)
      callWith pos g hd (backTo pos (starEach (e :: es) X.env)) (backToKw pos (keywordEach [] X.env))) := by rfl)
    (dbg : (x == ("__debug__" : Str)) = false := by decide) (one : starEach (e :: es) X.env = (false, eval e X.env) :: starEach es X.env := by rfl)
    (nos : (backTo pos (starEach es X.env)).any (·.1) = false := by rfl) : PE X (.Call (.Attribute (.Name x p1) "__init__" p2) (e :: es) [] pos) (tVeI X.K ta) := ⟨fun pins s σ H Q I h => by
  obtain ⟨m, fr⟩ := I.fr
  have kin := I.ok.mod.kin
  refine PySem.W.methodCall_KW (ld_glob I vis T.nam (PySem.W.method_of_cls fr kin T.gta (PySem.W.cls_val fr kin T.typ T.rds T.ini (by decide +kernel) ?_)) dbg) run
  exact PyProof.Rows.callWith_method1 (thn (arg.run pos pins _ σ H _ (I.tok _) h) fun us s1 z => by
    obtain ⟨vs, H1, I1, r1, a, C, ws, ev, hl, T1, ea, q⟩ := z
    subst ev
    cases r1 with
    | @cons _ u0 _ ur ra rw' =>
      cases (show u0 = Value.ref a from ra)
      have hlen : ur.length ≤ sizeLine := by rw [← Paired.length rw', sizeLine_eq]; omega
      exact oinit_ok T1 I1 ea hlen fun s' J => ⟨V.non, H1, J, rfl, q⟩) one nos⟩
end
/-- C(e, ..) in a try: what leaves __init__ goes to the wish at the present slots -/
def tMakeS (C : Addr) (sp : Sp) (E : L2.St → XK) (t : TA) : TE := fun σ H Q => t σ H fun vs H1 => ∀ x dx, H1 x = none → H1 dx = none → dx ≠ x → sp (.ref x :: vs) (upd (upd H1 dx (.own x)) x (.ins C dx [])) (fun v H2 => v = .non ∧ Q (.ref x) H2) (E σ)
theorem pe_makeS {X : Cx} {CX : CXT} {C f : Addr} {fd : FuncData} {k : Nat} {ps : List Str} {sp : Sp} {x : Str} {p pos : Pos} {e : Expr} {es : List Expr} {t : TA} {E : L2.St → XK} (M : Mk X.K C f) (F : FnOk X.prog X.w X.K X.mg X.base CX k f fd ps sp)
    (hr : Room (k + 1) X.A) (hg : Gl X x) (hm : X.mg x = some (.ref C)) (hb : Binds X.K fd ps []) (way : ∀ σ, PassesAt CX X σ (E σ)) (ha : PA X (e :: es) t) (hdb : (x == ("__debug__" : Str)) = false := by decide)
    (he : starEach (e :: es) X.env = (false, eval e X.env) :: starEach es X.env := by rfl) (hpl : (backTo pos (starEach es X.env)).any (·.1) = false := by rfl) : PE X (.Call (.Name x p) (e :: es) [] pos) (tMakeS C sp E t) := ⟨fun pins s σ H Q I h => by
  refine wpAny_Call_Name_kw (ld_glob I hg hm (PySem.W.callWith_K (h₀ := X.base) I.ok.mod.kin M.kp (thn (ha.run pos pins s σ H _ I h) fun us s1 z => ?_) he hpl) hdb)
  obtain ⟨vs, H1, I1, r, q⟩ := z
  let n := s1.heap.objs.size
  have here := q (n + 1) n (I1.hok.fresh (Nat.le_succ _)) (I1.hok.fresh (Nat.le_refl _)) (Nat.ne_of_lt (Nat.lt_succ_self _))
  have made := Inv.made (C := C) I1
  have rs : Vals (V.ref (n + 1) :: vs) (Value.ref (n + 1) :: us) := .cons rfl r
  have many : (Value.ref (n + 1) :: us).length = ps.length := rs.length.symm.trans (F.len _ _ _ _ here)
  have bind := hb ⟨_, s1.gens, s1.drawn, s1.toks, s1.os⟩ (Value.ref (n + 1) :: us) made.kIn (by rw [List.append_nil]; exact many)
  rw [List.append_nil] at bind
  refine ⟨I1.kIn, wpAny_call (make_map (f := f) I1.kIn M.makes M.init (beq_iff_eq.mp M.fn) (codeAny_mono (F.run _ X.stack _ _ ⟨Value.ref (n + 1) :: us, []⟩ (Value.ref (n + 1) :: us) _ _ (E σ) (hr.make C us []) (made.env0.make C us []) bind rs here) fun r s' z => ?_))⟩
  cases r with
  | error er => exact way σ pins _ _ er s' made z
  | ok fl =>
    cases fl with
    | ret u =>
      obtain ⟨v, H', J, rv, ev, q3⟩ := made.after z
      subst ev
      exact ⟨rv, V.ref (n + 1), H', J, rfl, q3⟩
    | next => exact False.elim z
    | brk => exact False.elim z
    | cont => exact False.elim z⟩
/-- a def that may raise, called where it doesn't -/
theorem pass00 {X : Cx} : Passes (L2.CX X.prog X.w) X (fun _ _ _ => False) := passes_call takes0 (fun _ _ _ _ h => h)
/-! ### isinstance of a caught error that has its dict -/
structure ErrC (K : PySem.W.Frag) (C : Addr) : Prop where
  cl : (PySem.W.clsIn K C).isSome = true
  ga : PySem.W.findIn K (.ref C) "__getattribute__" = some (some (.builtin "BaseException.__getattribute__"))
  gt : PySem.W.findIn K (.ref C) "__getattr__" = some none
  be : PySem.W.subIn K (.ref C) (.type "BaseException") = some true
  ca : PySem.W.findIn K (.ref C) "__class__" = some (some (.builtin "object.__class__"))
  cn : PySem.W.specialIn K (.builtin "object.__class__") "__get__" = some (some (.builtin "getset_descriptor.__get__"))
  tk : PySem.W.takesIn K (.builtin "object.__class__") = some true
  mo : PySem.W.mroIn K C (.type "object") = some true
def rIsD (K : PySem.W.Frag) (D a : Addr) (cls : Value) (d : Option Addr) : List V → Hp → VK → Prop := fun xs H Q => ∃ (c : V) (cv : Value) (b : Bool) (dd : Addr) (fs : List (Str × V)), xs = [.ref a, c] ∧ (∀ u, RelV c u → u = cv) ∧ cls = .ref D ∧ d = some dd ∧ H dd = some (.xd fs) ∧ PySem.W.kitOne K (.ref D) cv = some b ∧ Q (.bl b) H
theorem call_isD {X : Cx} {a D : Addr} {cls : Value} {d : Option Addr} {oe : Obj} {pn : List (Addr × Obj)} (T : ErrC X.K D) (hz : Zc cls d oe) (hf : ∃ vs, oe.data = .fields vs) : CallR (X.suite a ((a, oe) :: pn)) (.builtin "isinstance") (rIsD X.K D a cls d) := by
  intro pins s σ H xs us Q I r h
  obtain ⟨c, cv, b, dd, fs, rfl, hcv, rfl, rfl, hd, e, q⟩ := h
  obtain ⟨u1, u2, rfl, r1, r2⟩ := vals2 r
  cases (show u1 = Value.ref a from r1)
  cases hcv _ r2
  obtain ⟨hget, _⟩ := I.pin (a, oe) (List.mem_append_left _ List.mem_cons_self)
  obtain ⟨vs, hv⟩ := hf
  obtain ⟨mA, hns, _⟩ := (show ObjOk X.prog X.w H s.heap dd (.xd fs) from I.hok dd _ hd)
  obtain ⟨od, ho, _⟩ := lookIn_ns hns
  have J : PySem.W.InstAt s.heap a oe D (some od) := ⟨hget, hz.1, by unfold PySem.W.notCls; rw [hv] <;> rfl, by rw [hz.2]; exact ho⟩
  exact PySem.W.kia_one (PySem.W.kitx_exc T.cl T.ga T.gt T.be T.ca T.cn T.tk T.mo) I.kIn J e (fun z => nomatch z) fun tk => ⟨.bl b, H, I.kept (t' := tk) fun _ _ z => z, rfl, q⟩
/-! ### operators by own defs -/
section
variable {X : Cx} {n : Nat} {C g : Addr} {fd : FuncData} {ps : List Str} {sp : Sp}
def rOwnI (C : Addr) (sp : Sp) : R2 := fun x y H Q => ∃ a b dx dy fs gs, x = .ref a ∧ y = .ref b ∧ H a = some (.ins C dx fs) ∧ H b = some (.ins C dy gs) ∧ sp [x, y] H Q E0
theorem op_ownI {op : CmpOp} (hs : PySem.W.findIn X.K (.ref C) (cmpInfo op).2.1 = some (some (.ref g))) (hf : PySem.W.isFn X.K (.ref g) = true) (F : FnOk X.prog X.w X.K X.mg X.base CX0 n g fd ps sp) (hb : Binds X.K fd ps []) (hr : Room n X.A)
    (hop : ∀ a b, compareOp op a b = richCompare op a b := by intro _ _; rfl) : OpR X (compareOp op) (rOwnI C sp) := by
  intro pins s σ H x y v u Q I rx ry h
  obtain ⟨a, b, dx, dy, fs, gs, rfl, rfl, ea, eb, q⟩ := h
  cases (show v = Value.ref a from rx)
  cases (show u = Value.ref b from ry)
  obtain ⟨mA, J, _⟩ := ins_get I.hok ea
  obtain ⟨mB, J', _⟩ := ins_get I.hok eb
  obtain ⟨od, J, _⟩ := J.look
  obtain ⟨od', J', _⟩ := J'.look
  obtain ⟨m, hF⟩ := I.fr
  rw [hop]
  refine PySem.W.cmp_K (op := op) (tb := .ref C) hr.units0 hF I.ok.mod.kin J J'.type (by simp [PySem.W.notFirst]) hs hf ?_
  exact wpAny_mono (run_fn (vs := [.ref a, .ref b]) F hr hb .nil pass0 I (.cons rfl (.cons rfl .nil)) q) (fun w s' ⟨z', H', I', rz, qz⟩ => SlX.cmpback rz ⟨z', H', I', rz, qz⟩) fun _ _ x => x
end
/-! ### != by an own == -/
namespace NeX
open PySem.W
section
variable {prog : Program} {w : World} {A : Around} {E : Value → Shared → Prop} {s : Shared} {K : Frag} {x C L f : Addr} {h₀ : Heap} {m : Str → Option Value} {ox : Obj} {od : Option Obj} {b tb : Value}
theorem bound_blt {M : Model} {name : Str} {id : String} {args : List Value} {Q : Option Value → Shared → Prop} (X : K.In s.heap) (I : InstAt s.heap x ox C od) (hs : findIn K (.ref C) name = some (some (.builtin id)))
    (hb : bindSpecial (.builtin id) (.ref x) = pure (Value.builtin id, [Value.ref x])) (h : wpAny M A (call (.builtin id) (.ref x :: args)) (fun v => Q (some v)) E s) : wpAny M A (callSpecialIfBound? (.ref x) name args) Q E s := by
  simp only [callSpecialIfBound?, bindSpecialIfBound?]
  refine wpAny_holding (wpAny_bind (wpAny_bind (wpAny_bind (I.type.here ((looks_findIn X hs).here ?_)))))
  simp only [hb]
  have out : wpAny M A (call (.builtin id) ([.ref x] ++ args) >>= fun v => pure (some v)) Q E s := wpAny_bind (wpAny_mono h (fun _ _ z => wpAny_pure z) fun _ _ z => z)
  refine wpAny_bind (wpAny_askSetting (wpAny_ite ?_))
  split
  · exact wpAny_bind (wpAny_pure (wpAny_pure out))
  · exact wpAny_tryCatch (wpAny_bind (wpAny_pure (wpAny_pure out)))
theorem run_ne (hu : A.units < cLine) (X : K.In s.heap) (I : InstAt s.heap x ox C od) (he : findIn K (.ref C) "__eq__" = some (some (.ref f))) (hf : isFn K (.ref f) = true) {Q : Fin → Shared → Prop}
    (h : wpAny (model prog w) A (call (.ref f) [.ref x, b]) (fun v s' => ∃ k, v = .bool k ∧ Q (.done (.ret (.bool (!k)))) s') E s) : wpAny (model prog w) A (Builtin.«object.__ne__» ⟨[.ref x, b], []⟩) Q E s := by
  unfold Builtin.«object.__ne__»
  repeat (first
    | with_reducible refine wpAny_cRoomFor hu ?_
    | (refine wpAny_bind (m := callSpecialIfBound? (.ref x) (Str.ofString "__eq__") [b]) (ifBound_K X I he hf (wpAny_mono h (fun r s' hr => by
          obtain ⟨k, rfl, hq⟩ := hr
          repeat (first | exact hq | exact wpAny_pure hq | exact wpAny_truthy_bool hq | (refine wpAny_bind (m := truthy (.bool _)) (wpAny_truthy_bool ?_)) | wp_step)) fun _ _ z => z)))
    | wp_step)
theorem rich_ne (hu : A.units + 1 < cLine) (F : Fr h₀ L s.heap m) (X₀ : K.In h₀) (I : InstAt s.heap x ox C od) (hb : Looks (model prog w) s.heap (typeOf b) tb) (hn : notFirst K C tb = true)
    (hne : findIn K (.ref C) "__ne__" = some (some (.builtin "object.__ne__"))) (hso : subIn K (.ref C) (.type "object") = some true)
    (he : findIn K (.ref C) "__eq__" = some (some (.ref f))) (hf : isFn K (.ref f) = true) {Q : Value → Shared → Prop}
    (h : wpAny (model prog w) A.in1 (call (.ref f) [.ref x, b]) (fun v s' => ∃ k, v = .bool k ∧ Q (.bool (!k)) s') E s) : wpAny (model prog w) A (richCompare .NotEq (.ref x) b) Q E s := by
  have X := X₀.keeps F.keep
  have one : wpAny (model prog w) A (tryCompare (.ref x) "__ne__" b) (fun r s' => ∃ v, r = some v ∧ Q v s') E s := by
    unfold tryCompare
    refine wpAny_bind (bound_blt X I hne (PySem.F.cmp_object.ne.bind _) (wpAny_call (codeAny_call_builtin PySem.F.cmp_object.ne.plain PySem.F.cmpEntry_ne
      (check_slot PySem.F.cmpKind_ne PySem.F.cmpSplit_ne (I.type.andThen (looks_subIn X hso)) (PySem.F.cmpArgs_ne _ _) (run_ne (A := A.in1) (by show A.units + 1 < cLine; exact hu) X I he hf (wpAny_mono h (fun v s' hv => ?_) fun _ _ z => z))))))
    obtain ⟨k, rfl, hq⟩ := hv
    exact ⟨k, rfl, wpAny_pure ⟨_, rfl, hq⟩⟩
  unfold richCompare
  simp only [oneThing_ref]
  refine wpAny_holding (wpAny_bind (wpAny_cRoomFor (Nat.lt_of_succ_lt hu) ?_))
  rw [cmpInfo_NotEq]
  dsimp only
  refine wpAny_bind (I.type.here (wpAny_bind (hb.here ?_)))
  split
  · rename_i q
    have e : subIn K tb (.ref C) = some false := by
      rcases Bool.or_eq_true_iff.mp hn with z | z
      · rw [beq_iff_eq.mp z] at q; simp at q
      · exact beq_iff_eq.mp z
    refine wpAny_bind ((looks_subIn X e).here ?_)
    simp only [Bool.false_eq_true, if_false]
    exact wpAny_bind (wpAny_mono one (fun r s' ⟨v, z, hq⟩ => by subst z; exact wpAny_pure hq) fun _ _ z => z)
  · refine wpAny_bind (wpAny_pure ?_)
    simp only [Bool.false_eq_true, if_false]
    exact wpAny_bind (wpAny_mono one (fun r s' ⟨v, z, hq⟩ => by subst z; exact wpAny_pure hq) fun _ _ z => z)
end
end NeX
section
variable {X : Cx} {n : Nat} {C g : Addr} {fd : FuncData} {ps : List Str} {sp : Sp}
/-- what y, on the other side, is: an instance of the same class, or plain -/
def Other (K : PySem.W.Frag) (H : Hp) (C : Addr) (y : V) : Prop := (∃ b dy gs, y = .ref b ∧ H b = some (.ins C dy gs)) ∨ ∃ z, y = .str z
/-- x != y, by C's own == alone -/
def rNeI (K : PySem.W.Frag) (C : Addr) (sp : Sp) : R2 := fun x y H Q => ∃ a dx fs, x = .ref a ∧ H a = some (.ins C dx fs) ∧ Other K H C y ∧ sp [x, y] H (fun v H' => ∃ k, v = .bl k ∧ Q (.bl (!k)) H') E0
theorem op_neI (hne : PySem.W.findIn X.K (.ref C) "__ne__" = some (some (.builtin "object.__ne__"))) (hso : PySem.W.subIn X.K (.ref C) (.type "object") = some true) (hst : PySem.W.notFirst X.K C (.type "str") = true)
    (he : PySem.W.findIn X.K (.ref C) "__eq__" = some (some (.ref g))) (hf : PySem.W.isFn X.K (.ref g) = true) (F : FnOk X.prog X.w X.K X.mg X.base CX0 n g fd ps sp) (hb : Binds X.K fd ps []) (hr : Room (n + 1) X.A) : OpR X (compareOp .NotEq) (rNeI X.K C sp) := by
  intro pins s σ H x y v u Q I rx ry h
  obtain ⟨a, dx, fs, rfl, ea, ho, q⟩ := h
  cases (show v = Value.ref a from rx)
  obtain ⟨mA, J, _⟩ := ins_get I.hok ea
  obtain ⟨od, J, _⟩ := J.look
  obtain ⟨m, hF⟩ := I.fr
  have hu : X.A.units + 1 < cLine := by have := hr.units; omega
  have call1 : wpAny (model X.prog X.w) X.A.in1 (call (.ref g) [.ref a, u]) (fun v' s' => ∃ k, v' = .bool k ∧ EP X pins σ Q (.bool (!k)) s') X.xe s := by
    refine wpAny_mono (wpAny_call (SlX.run_at (us := [.ref a, u]) (ws := [.ref a, y]) (F.raw hb .nil) hr.in1 I.env0.in1 pass0 I (.cons rfl (.cons ry .nil)) q)) (fun w' s' z => ?_) fun _ _ z => z
    obtain ⟨z', H', I', rz, k, ez, qz⟩ := z
    subst ez
    cases rz
    exact ⟨k, rfl, .bl (!k), H', I', rfl, qz⟩
  rcases ho with ⟨b, dy, gs, rfl, eb⟩ | ⟨z, rfl⟩
  · cases (show u = Value.ref b from ry)
    obtain ⟨mB, J', _⟩ := ins_get I.hok eb
    obtain ⟨od', J', _⟩ := J'.look
    exact NeX.rich_ne hu hF I.ok.mod.kin J J'.type (by simp [PySem.W.notFirst]) hne hso he hf call1
  · obtain ⟨t, et⟩ := (show ∃ t, u = Value.str z t from ry)
    cases et
    exact NeX.rich_ne hu hF I.ok.mod.kin J (PySem.W.Looks.of_pure rfl) hst hne hso he hf call1
end

/-! ### != of two lists whose items are equal, one by one -/
namespace NlX
open PySem.SeqAt MeetsSeq MeetsSeq2 MeetsSeq3 SeqRoads2
open AutoSeq1 (wpAny_loadPart')
section
variable {prog : Program} {w : World} {A : Around} {R : Result → Shared → Prop}
/-- where the machine stands at the item number j of N: both lists as they are now, and the two items are seen to be equal -/
def Turns (prog : Program) (w : World) (A : Around) (E : Value → Shared → Prop) (p q : Addr) (N : Nat) (J : Nat → Shared → Prop) : Prop := GQ.ListI prog w A E p q N J
theorem ne_turns (p q : Addr) (N : Nat) (J : Nat → Shared → Prop) (T : Turns prog w A (fun e s' => R (.error e) s') p q N J) (out : ∀ s, J N s → R (.ok (.ret (.bool false))) s) :
    ∀ (left j : Nat), j + left = N → ∀ s, J j s → wpAny (model prog w) A.in1 (Builtin.«list.__eq__.loop» ⟨[.ref p, .ref q, rawInt j, rawInt 3], []⟩) (GQ.FinOf prog w A R) (fun e s' => R (.error e) s') s
  | 0, j, hj, s, h => by
    obtain ⟨xs, ys, m1, m2, e1, e2, z1, z2, _⟩ := T _ _ h
    have hjN : j = N := by omega
    subst hjN
    have fin := out s h
    obtain ⟨hp, g, d, tk, os⟩ := s
    wp_walk using wpAny_loadPart' e1, wpAny_loadPart' e2
    have a1 : xs[((j : Nat) : Int).toNat]? = none := by simp; omega
    have a2 : ys[((j : Nat) : Int).toNat]? = none := by simp; omega
    rw [a1, a2]
    wp_walk using wpAny_loadPart' e1, wpAny_loadPart' e2
    show R (.ok (.ret (.bool (xs.size != ys.size)))) _
    rw [z1, z2]
    simpa using fin
  | left + 1, j, hj, s, h => by
    obtain ⟨xs, ys, m1, m2, e1, e2, z1, z2, turn⟩ := T _ _ h
    have b1 : j < xs.size := by omega
    have b2 : j < ys.size := by omega
    have step := turn b1 b2
    obtain ⟨hp, g, d, tk, os⟩ := s
    wp_walk using wpAny_loadPart' e1, wpAny_loadPart' e2
    have a1 : xs[((j : Nat) : Int).toNat]? = some xs[j] := by simp [b1]
    have a2 : ys[((j : Nat) : Int).toNat]? = some ys[j] := by simp [b2]
    have up : ((j : Int) + 1) = ((j + 1 : Nat) : Int) := by omega
    rw [a1, a2]
    refine wpAny_bind (wpAny_mono step (fun r s2 z => ?_) fun _ _ z => z)
    obtain ⟨er, z⟩ := z
    subst er
    have more := ne_turns p q N J T out left (j + 1) (by omega) s2 z
    obtain ⟨hp2, g2, d2, tk2, os2⟩ := s2
    wp_walk
    rw [up]
    exact ⟨plainId_quiet plain_eq_loop _, codeAny_builtin entry_eq_loop (by
      rw [Around.under_plainId plain_eq_loop _]
      exact more)⟩
theorem ne_lists (p q : Addr) (N : Nat) (J : Nat → Shared → Prop) (T : Turns prog w A (fun e s' => R (.error e) s') p q N J) (out : ∀ s, J N s → R (.ok (.ret (.bool false))) s) {s : Shared} (h : J 0 s) :
    wpAny (model prog w) A.in1 (Builtin.«list.__ne__» ⟨[.ref p, .ref q], []⟩) (GQ.FinOf prog w A R) (fun e s' => R (.error e) s') s := by
  obtain ⟨xs, ys, m1, m2, e1, e2, z1, z2, _⟩ := T _ _ h
  have more := ne_turns (A := A) (R := R) p q N J T out N 0 (by omega) s h
  obtain ⟨hp, g, d, tk, os⟩ := s
  have sub := AutoSeq1.sub_list_list
  have same : ¬ (xs.size != ys.size) = true := by simp [z1, z2]
  wp_walk using wpAny_loadPart' e1, wpAny_loadPart' e2
  exact ⟨plainId_quiet plain_eq_loop _, codeAny_builtin entry_eq_loop (by
    rw [Around.under_plainId plain_eq_loop _]
    exact more)⟩
end
section
variable {prog : Program} {w : World} {A : Around} {E : Value → Shared → Prop} {s : Shared}
theorem rich_neL {p q : Addr} {N : Nat} {Q : Value → Shared → Prop} (hu : A.units < cLine) (J : Nat → Shared → Prop) (T : Turns prog w A E p q N J) (out : ∀ s, J N s → Q (.bool false) s) (h : J 0 s) :
    wpAny (model prog w) A (richCompare .NotEq (.ref p) (.ref q)) Q E s := by
  obtain ⟨xs, ys, m1, m2, e1, e2, _, _, _⟩ := T _ _ h
  refine wpAny_richCompare_same_room (op := .NotEq) ⟨_, e1, rfl⟩ ⟨_, e2, rfl⟩ F.slot_list_ne (GQ.call_here F.slot_list_ne ⟨_, e1, rfl⟩ F.entry_list_ne (F.args_list_ne_2 _ _) ?_) hu
  exact ne_lists (R := wants (fun v s' => v ≠ .notImplemented ∧ Q v s') E) p q N J T (fun s' z => ⟨(fun x => nomatch x), out s' z⟩) h
end
end NlX
section
variable {X : Cx} {n : Nat} {D : Eqv}
/-- xs != ys, lists whose items are equal by D -/
def rNeL (D : Eqv) : R2 := fun x y H Q => DList D x y H ∧ ∀ H', Ext H H' → Q (.bl false) H'
theorem op_neL (hD : Mon D) (h : EqG X n D) (hr : Room (n + 1) X.A) : OpR X (compareOp .NotEq) (rNeL D) := by
  intro pins s σ H x y v u Q I rx ry ⟨d, q⟩
  obtain ⟨a, b, xs, ys, rfl, rfl, ea, eb, p⟩ := d
  cases rx
  cases ry
  refine NlX.rich_neL (N := xs.length) hr.units0 (fun _ s' => LoopI X pins σ H s') (fun i s' z => ?_) (fun s' ⟨H', I', e⟩ => ⟨.bl false, H', I', rfl, q H' e⟩) ⟨H, I, Ext.rfl'⟩
  obtain ⟨H1, I1, e1⟩ := id z
  obtain ⟨_, its, k, r, o1⟩ := I1.hok a _ (e1 _ _ ea)
  obtain ⟨_, its2, k2, r2, o2⟩ := I1.hok b _ (e1 _ _ eb)
  exact ⟨its.toArray, its2.toArray, k, k2, o1, o2, by rw [List.size_toArray, ← r.length], by rw [List.size_toArray, ← r2.length, ← p.1], fun h1 h2 => turnG hD h ⟨hr, rfl⟩ p r r2 i h1 h2 s' z⟩
end
/-! ### defs that are run where no repr is under way: what repr of a list or tuple wants -/
/-- as FnOk, for a def that lets nothing out, called where no repr is under way -/
structure FnG (P : Program) (w : World) (K : PySem.W.Frag) (mg : Str → Option Value) (base : Heap) (k : Nat) (f : Addr) (fd : FuncData) (ps : List Str) (sp : Sp) : Prop where
  many : ∀ vs H Q, sp vs H Q E0 → vs.length = ps.length
  goes : ∀ (A : Around) (outer : List Env) (s : Shared) (H : Hp) (us : List Value) (vs : List V) (Q : VK), A.guards = some [] → Room k A → Env0 P w K mg base A outer s H → BindsTo s fd ⟨us, []⟩ (ps.zip us) → Vals vs us → sp vs H Q E0 →
    codeAny (model P w) A (.call (.ref f) ⟨us, []⟩) (CR CX0 outer P w H s Q E0) s
section
variable {P : Program} {w : World} {K : PySem.W.Frag} {mg : Str → Option Value} {base : Heap}
theorem Fun.okG {x qual : Str} {st : Stmt} {f : Addr} {fd : FuncData} {N ps : List Str} {k : Nat} {sp : Sp} (F : Fun K x qual st f fd) (S : FnScope N ps (defScope st)) (many : ∀ vs H Q, sp vs H Q E0 → vs.length = ps.length)
    (body : ∀ (cdv : Value) (A : Around) (outer : List Env) (s : Shared) (H : Hp) (vs : List V) (Q : VK), A.guards = some [] → Room k (A.deeper (envOfC qual (defScope st) s.heap.objs.size f cdv)) → sp vs H Q E0 →
      ∃ t, PSs (cxOf CX0 P w K mg base N qual (defScope st) f cdv A outer s H E0).nox (defBody st) t ∧ t { nx := fun _ H' => Q .non H', rt := Q } (start N vs) H) : FnG P w K mg base (k + 1) f fd ps sp := by
  obtain ⟨oc, od, kV, doc, pm, an, cdv, ct, osl, rfl, at_, cd⟩ := F.ex
  refine ⟨many, fun A outer s H us vs Q hg hr e0 hb r hs => ?_⟩
  have KX : K.In s.heap := e0.mod.kin.keeps fun b o e => (e0.bs b o e).1
  have lim : s.heap.NoLimit := e0.mod.nolimit.keeps fun b o e => (e0.bs b o e).1
  refine codeAny_call_function hr.depth (KX _ _ at_) rfl S.co S.gen rfl (PySem.W.codeRec_of KX cd) (hb _ _ _ _ ?_)
  refine wpAny_newFunctionEnv_cells S.kind (fun ⟨n, v⟩ hy => ?_) fun env he s1 x => ?_
  · rcases S.par n (List.of_mem_zip hy).1 with q | q
    · exact .inl q
    · exact .inr ⟨q, PySem.W.cellsFrom_some _ _ _ (.inl q)⟩
  · subst he
    obtain ⟨t, ht, hq⟩ := body cdv A outer s H vs Q hg (hr.deeper _) hs
    refine ⟨lim.keeps x.toInCall.keep, codeAny_func (wpAny_mono (ht.nox.run [] s1 (start N vs) H _ (inv_start S hr.hd e0 (many _ _ _ hs) r x) hq) (fun fl s' z => ?_) fun e s' z => z)⟩
    have out : ∀ {σ' : L2.St} {H' : Hp} {v : V} {u : Value}, Inv (cxOf CX0 P w K mg base N qual (defScope st) f cdv A outer s H E0) [] σ' H' s' → RelV v u → Q v H' → CE outer P w H s Q u s' := fun {σ' H' v u} J rv q => ⟨v, H', J.os, J.bare, J.base, J.hok, rv, q⟩
    cases fl with
    | ret u => exact let ⟨v, σ', H', J, rv, q⟩ := z; out J rv q
    | next => exact let ⟨σ', H', J, q⟩ := z; out (v := V.non) (u := Value.none) J rfl q
    | brk => exact let ⟨_, _, _, q⟩ := z; False.elim q
    | cont => exact let ⟨_, _, _, q⟩ := z; False.elim q
end
section
variable {X : Cx} {k : Nat} {f : Addr} {fd : FuncData} {ps : List Str} {sp : Sp} {x : Str} {e : Expr} {es : List Expr} {p pos : Pos} {t : TA}
theorem pe_callG (F : FnG X.prog X.w X.K X.mg X.base k f fd ps sp) (gu : X.A.guards = some []) (hr : Room k X.A) (hg : Gl X x) (hm : X.mg x = some (.ref f)) (hk : PySem.W.keepIn X.K (.ref f) = true) (hb : Binds X.K fd ps []) (ha : PA X (e :: es) t)
    (hdb : (x == ("__debug__" : Str)) = false := by decide) (he : starEach (e :: es) X.env = (false, eval e X.env) :: starEach es X.env := by rfl) (hpl : (backTo pos (starEach es X.env)).any (·.1) = false := by rfl) :
    PE X (.Call (.Name x p) (e :: es) [] pos) (tCall sp [] E0 t) := ⟨fun pins s σ H Q I h => by
  refine wpAny_Call_Name_kw (ld_glob I hg hm (PySem.W.callWith_K (h₀ := X.base) I.ok.mod.kin hk (thn (ha.run pos pins s σ H _ I h) fun us s1 z => ?_) he hpl) hdb)
  obtain ⟨vs, H1, I1, r, q⟩ := z
  have q' : sp vs H1 Q E0 := by
    have z : sp (vs ++ []) H1 Q E0 := q
    rwa [List.append_nil] at z
  have hl : (us ++ []).length = ps.length := by rw [List.append_nil, ← r.length]; exact F.many _ _ _ q'
  have bt := hb s1 us I1.kIn hl
  rw [List.append_nil] at bt
  refine ⟨I1.kIn, wpAny_call (codeAny_mono (F.goes X.A X.stack s1 H1 us vs Q gu hr I1.env0 bt r q') fun r s' z => ?_)⟩
  cases r with
  | error e => exact z.elim
  | ok fl =>
    cases fl with
    | ret u => exact I1.after z
    | next => exact False.elim z
    | brk => exact False.elim z
    | cont => exact False.elim z⟩
/-- repr of data -/
def rReprD (K : PySem.W.Frag) : List V → Hp → VK → Prop := fun xs H Q => ∃ (x : V) (d : PyData), xs = [x] ∧ Dp K H x d ∧ d.showable = true ∧ d.hasDict = false ∧ d.depth ≤ 60 ∧ d.shown.length ≤ sizeLine ∧ Q (.str d.shown) H
theorem call_reprD (gu : X.A.guards = some []) (un : X.A.units + 100 < cLine) : CallR X (.builtin "repr") (rReprD X.K) := by
  intro pins s σ H xs us Q I r h
  obtain ⟨x, d, rfl, hd, hs, hn, hdp, hz, q⟩ := h
  obtain ⟨u, rfl, ru⟩ := r.one

  obtain ⟨as, R⟩ := Dp.reads I d x u hd ru
  have put : ∀ {t : Tok} {z : Str}, z = d.shown → EP X pins σ Q (.str z t) { s with toks := s.toks + 1 } := fun {t z} e => by
    subst e
    exact ⟨.str d.shown, H, I.tok _, ⟨t, rfl⟩, q⟩
  cases hd with
  | non => cases (show u = Value.none from ru); exact PySem.P.repr_of_none (put rfl)
  | bl b => cases (show u = Value.bool b from ru); exact PySem.P.repr_of_bool (put rfl)
  | int i =>
    obtain ⟨t, e⟩ := (show ∃ t, u = Value.int i t from ru)
    cases e
    exact PySem.P.repr_of_int (by simpa [PyData.showable] using hs) (put rfl)
  | str z =>
    obtain ⟨t, e⟩ := (show ∃ t, u = Value.str z t from ru)
    cases e
    exact PySem.P.repr_of_str (put rfl) (by simpa [PyData.shown] using hz)
  | @lst a vs ds hS hD =>
    cases (show u = Value.ref a from ru)
    exact repr_of_reads' R hs (PyData.noDict_hsm hn) gu (by omega) (fun _ _ e => e) (fun h' t tk k => ⟨.str _, H, I.kept (t' := tk) k, ⟨t, rfl⟩, q⟩) hz
  | @tup a vs ds hS hD =>
    cases (show u = Value.ref a from ru)
    exact repr_of_reads' R hs (PyData.noDict_hsm hn) gu (by omega) (fun _ _ e => e) (fun h' t tk k => ⟨.str _, H, I.kept (t' := tk) k, ⟨t, rfl⟩, q⟩) hz
end
/-! ### the end, by a law's def that is run where no repr is under way -/
namespace EndG
section
variable {P : Program} {w : World} {K : PySem.W.Frag} {mg mb : Str → Option Value} {k : Nat} {fa a : Addr} {fd : FuncData} {x : Str} {sp : Sp} {s : Shared} {vs : List Value} {ns : List Int}
/-- what is asked of the run at last -/
def Told (s : Shared) (r : Result) (s' : Shared) : Prop := r = .ok (.ret (.bool true)) ∧ OldK s.heap s'.heap ∧ s'.os = s.os ∧ AllBare s'.gens
/-- from a heap of which at most the script is tracked -/
theorem told_at (KX : K.In s.heap) (n1 : s.heap.Ns mainGlobals mg) (n2 : s.heap.Ns builtinsNs mb) (bb : ∀ x : Str, x ≠ "__name__" → mb x = bootBuiltins x) (lim : s.heap.NoLimit) (gs : s.gens = #[])
    (oa : s.heap.get? a = some { cls := .type "list", data := .seq vs.toArray }) (hr : Room k callerA) (F : ∀ base : Heap, K.In base → base.Ns mainGlobals mg → FnG P w K mg base k fa fd [x] sp)
    (bind : ∀ (s : Shared) (u : Value), BindsTo s fd ⟨[u], []⟩ [(x, u)]) (H : Hp) (only : Only H) (ok : HOk P w H s.heap) (at_a : ∀ b, H b ≠ none → b = a) (notK : H a ≠ none → K.lookup a = none)
    (h : sp [.ref a] H (fun v _ => v = .bl true) E0) : codeAny (model P w) callerA (.call (.ref fa) ⟨[.ref a], []⟩) (Told s) s := by
  have none_or : ∀ b, H b = none ∨ b = a := fun b => by
    cases q : H b with
    | none => exact .inl rfl
    | some u => exact .inr (at_a b (by rw [q]; exact fun z => nomatch z))
  have free : ∀ {b : Addr} {o : Obj} {es : Array DictEntry} {ep : Nat}, s.heap.get? b = some o → o.data = .dict es ep → H b = none := fun {b o es ep} e d => by
    rcases none_or b with z | z
    · exact z
    · rw [z, oa] at e
      cases e
      exact absurd (show Data.seq vs.toArray _ = Data.dict es ep from d) (fun y => nomatch y)
  have ns0 : ∀ {b : Addr} {m : Str → Option Value}, s.heap.Ns b m → (hidT s.heap H).Ns b m := fun {b m} z => by
    obtain ⟨o, es, ep, e, d, r⟩ := z
    exact ⟨o, es, ep, hidT_get e (free e d), d, r⟩
  have kb : K.In (hidT s.heap H) := fun b o e => hidT_get (KX b o e) (by
    rcases none_or b with z | z
    · exact z
    · cases q : H b with
      | none => rfl
      | some u =>
        rw [z] at q e
        rw [notK (by rw [q]; exact fun y => nomatch y)] at e
        cases e)
  have md : Mod K mg (hidT s.heap H) := ⟨kb, ns0 n1, ⟨mb, ns0 n2, bb⟩, by
    obtain ⟨mc, c1, c2⟩ := lim
    exact ⟨mc, ns0 c1, c2⟩⟩
  have noF : ∀ b : Addr, b ∉ ([] : List Addr) := fun b => by simp
  have e0 : Env0 P w K mg (hidT s.heap H) callerA [] s H := ⟨rfl, md, fun b o z => of_hidT z, Nat.le_of_eq (hidT_size _ _), trivial, fun b z => absurd (show b ∈ ([] : List Addr) from z) (noF b), ok, .of_eq gs⟩
  refine codeAny_mono ((F _ kb (ns0 n1)).goes callerA [] s H [.ref a] [.ref a] _ rfl hr e0 (bind s (.ref a)) (.cons rfl .nil) h) fun r s' z => ?_
  cases r with
  | error e => exact z.elim
  | ok fl =>
    cases fl with
    | next => exact False.elim z
    | brk => exact False.elim z
    | cont => exact False.elim z
    | ret u =>
      obtain ⟨v, H', os, bare, un, ok', rv, ev⟩ := z
      cases (show v = .bl true from ev)
      cases (show u = Value.bool true from rv)
      refine ⟨rfl, OldK.of_keep fun b o e => ?_, os, bare⟩
      cases q : H b with
      | none => exact un.keep b o e q (fun y => absurd (show b ∈ ([] : List Addr) from y) (noF b)) (noF b)
      | some u =>
        rcases only b with y | ⟨ob, xs, y⟩
        · rw [q] at y
          cases y
        · obtain ⟨g1, _⟩ := ok b _ y
          obtain ⟨g2, _⟩ := ok' b _ (un.frzs b ob _ y)
          rw [e] at g1
          cases g1
          exact g2
theorem law_told (KX : K.In s.heap) (n1 : s.heap.Ns mainGlobals mg) (n2 : s.heap.Ns builtinsNs mb) (bb : ∀ x : Str, x ≠ "__name__" → mb x = bootBuiltins x) (lim : s.heap.NoLimit) (gs : s.gens = #[])
    (oa : s.heap.get? a = some { cls := .type "list", data := .seq vs.toArray }) (isI : IntsAre vs ns) (few : ns.length ≤ sizeLine) (hr : Room k callerA) (F : ∀ base : Heap, K.In base → base.Ns mainGlobals mg → FnG P w K mg base k fa fd [x] sp)
    (bind : ∀ (s : Shared) (u : Value), BindsTo s fd ⟨[u], []⟩ [(x, u)]) (h : ∀ H : Hp, Only H → SqL K H a (ns.map V.int) → sp [.ref a] H (fun v _ => v = .bl true) E0) : codeAny (model P w) callerA (.call (.ref fa) ⟨[.ref a], []⟩) (Told s) s := by
  have rv := vals_ints isI
  have len := isI.length
  cases inK : K.lookup a with
  | some o =>
    have e := KX a o inK
    rw [oa] at e
    cases e
    have only : Only (fun _ => none) := fun _ => .inl rfl
    refine told_at KX n1 n2 bb lim gs oa hr F bind (fun _ => none) only (fun b u z => nomatch (show (none : Option HO) = some u from z)) (fun b z => absurd rfl z) (fun z => absurd rfl z) (h _ only ?_)
    exact .inr ⟨_, vs.toArray, _, inK, rfl, rfl, rfl, by rw [List.size_toArray, len]; exact few, by simpa using rv⟩
  | none =>
    let scr : Obj := { cls := .type "list", data := .seq vs.toArray }
    let H : Hp := fun b => if b = a then some (.frz scr (.lst (ns.map V.int))) else none
    have Ha : H a = some (.frz scr (.lst (ns.map V.int))) := if_pos rfl
    have Hb : ∀ b, b ≠ a → H b = none := fun b z => if_neg z
    have only : Only H := fun b => by
      by_cases z : b = a
      · exact .inr ⟨scr, _, by rw [z]; exact Ha⟩
      · exact .inl (Hb b z)
    refine told_at KX n1 n2 bb lim gs oa hr F bind H only (fun b u z => ?_) (fun b z => ?_) (fun _ => inK) (h H only (.inl (.inr ⟨scr, Ha⟩)))
    · by_cases y : b = a
      · subst y
        rw [Ha] at z
        cases z
        exact ⟨oa, by rw [List.length_map]; exact few, vs, _, rv, oa⟩
      · rw [Hb b y] at z
        cases z
    · by_cases y : b = a
      · exact y
      · exact absurd (Hb b y) z
end
theorem walk_told {l : PySem.W.OpenLaw} {n k : Nat} {q : Program} {loose : List Str} {XP : (Str → Option Value) → Heap → Prop} {YP : World → Heap → Prop} {d : DefRec} {K : Params → PySem.W.Frag} {sp : World → Sp} {x : Str} (most : l.most = some n) (few : n ≤ sizeLine) (nod : d.params.defaults = []) (hr : Room k callerA)
    (KI : ∀ (w : World) (h : Heap), YP w h → (K w.params).In h)
    (F : ∀ (w : World) (mg : Str → Option Value) (fa : Addr) (h : Heap), (K w.params).In h → h.Ns mainGlobals mg → mg d.name = some (.ref fa) → ∃ fd : FuncData, (∀ (s : Shared) (u : Value), BindsTo s fd ⟨[u], []⟩ [(x, u)]) ∧ ∀ base : Heap, (K w.params).In base → base.Ns mainGlobals mg → FnG l.prog w (K w.params) mg base k fa fd [x] (sp w))
    (holds : ∀ (w : World) (H : Hp) (a : Addr) (ns : List Int), ns.length ≤ n → SqL (K w.params) H a (ns.map V.int) → sp w [.ref a] H (fun v _ => v = .bl true) E0) : PySem.W.WalkO q loose XP YP l.row.toRowW d [] (fun f vs => PySem.call f vs) := Att.attach_call most nod fun w s₀ s₁ mg mb fa o pm cd doc a vs ns G Y ho hd hcd hmg hobj hints hlen hg => by
  obtain ⟨fd, bind, F1⟩ := F w mg fa _ (KI w _ Y) G.T.g hmg
  exact law_told (KI w _ Y) G.T.g G.T.b G.T.builtins G.T.nolimit hg hobj hints (Nat.le_trans hlen few) hr F1 bind fun H _ hS => holds w H a ns hlen hS
end EndG
/-! ### a tuple from behind: t[::-1] -/
namespace RvT
section
variable {prog : Program} {w : World} {A : Around} {E : Value → Shared → Prop} {s : Shared}
theorem from_end (n : Nat) : Builtin.Slice.sliceAdjust none none (-1) (n : Int) = ((n : Int) - 1, -1) := by
  unfold Builtin.Slice.sliceAdjust
  simp
theorem as_many (n : Nat) : Builtin.Slice.slicePlaces ((n : Int) - 1) (-1) (-1) = n := by
  unfold Builtin.Slice.slicePlaces
  simp
  omega
theorem applied_back {sl : Addr} {vk : Value} {n : Nat} {Q : Int × Int × Nat → Shared → Prop} (hs : s.heap.IsSliceOf sl .none .none vk) (pk : IsPart vk (some (-1))) (h : Q ((n : Int) - 1, -1, n) s) :
    wpAny (model prog w) A (Builtin.Slice.sliceApplied (.ref sl) (pure (n : Int))) Q E s := by
  obtain ⟨os, o1, _, o2⟩ := id hs
  unfold Builtin.Slice.sliceApplied Builtin.Slice.sliceFields
  refine wpAny_bind (wpAny_bind (wpAny_field o1 o2 (x := .none) rfl (wpAny_bind (wpAny_field o1 o2 (x := .none) rfl (wpAny_bind (wpAny_field o1 o2 (x := vk) rfl (wpAny_pure ?_)))))))
  refine wpAny_bind (HT.slicePart_ pk ?_)
  show wpAny _ _ (if ((-1 : Int) == 0) = true then _ else _) _ _ s
  rw [if_neg (by decide)]
  refine wpAny_bind (slicePart_none (wpAny_bind (slicePart_none (wpAny_bind (wpAny_pure ?_)))))
  show wpAny _ _ (match Builtin.Slice.sliceAdjust none none (-1) (n : Int) with | (a, b) => pure (a, (-1 : Int), Builtin.Slice.slicePlaces a b (-1))) _ _ s
  rw [from_end n]
  show wpAny _ _ (pure ((n : Int) - 1, (-1 : Int), Builtin.Slice.slicePlaces ((n : Int) - 1) (-1) (-1))) _ _ s
  rw [as_many]
  exact wpAny_pure h
theorem picked (xs : Array Value) : ((List.range xs.size).filterMap fun (m : Nat) => xs[(((xs.size : Int) - 1) + (m : Int) * (-1)).toNat]?).toArray = xs.toList.reverse.toArray := by
  have e : (List.range xs.size).filterMap (fun (m : Nat) => xs[(((xs.size : Int) - 1) + (m : Int) * (-1)).toNat]?) = ((List.range xs.size).map fun m => xs.size - 1 - m).filterMap (xs[·]?) := by
    rw [List.filterMap_map]
    have all : ∀ l : List Nat, (∀ m ∈ l, m < xs.size) → l.filterMap (fun (m : Nat) => xs[(((xs.size : Int) - 1) + (m : Int) * (-1)).toNat]?) = l.filterMap ((xs[·]?) ∘ fun m => xs.size - 1 - m) := by
      intro l
      induction l with
      | nil => exact fun _ => rfl
      | cons m l ih =>
        intro hl
        have lt := hl m List.mem_cons_self
        have z : (((xs.size : Int) - 1) + (m : Int) * (-1)).toNat = xs.size - 1 - m := by omega
        rw [List.filterMap_cons, List.filterMap_cons, z, ih fun m' h' => hl m' (List.mem_cons_of_mem _ h')]
        rfl
    exact all _ fun m hm => List.mem_range.mp hm
  rw [e, PySem.W.krv_range, List.filterMap_reverse, PySem.W.krv_all]
theorem item_back {t sl : Addr} {items : Array Value} {vk : Value} {Q : Value → Shared → Prop} (ht : IsTup s.heap t items) (hs : s.heap.IsSliceOf sl .none .none vk) (pk : IsPart vk (some (-1))) (hz : items.size ≤ sizeLine)
    (h : Q (.ref s.heap.objs.size) { s with heap := s.heap.push { cls := .type "tuple", data := .seq items.toList.reverse.toArray } }) : wpAny (model prog w) A (getItem (.ref t) (.ref sl)) Q E s := by
  have room : sizeOk (.seq items.toList.reverse.toArray) := by
    show items.toList.reverse.toArray.size ≤ sizeLine
    rw [List.size_toArray, List.length_reverse, Array.length_toList]
    exact hz
  obtain ⟨os, o1, o2, _⟩ := id hs
  have isSl : s.TypeIs (.ref sl) "slice" := ⟨os, o1, o2⟩
  unfold getItem
  try with_reducible refine wpAny_holding ?_
  first | refine wpAny_bind (wpAny_pure ?_) | skip
  refine wpAny_bind (wpAny_sequenceKey ht.typeIs (by decide) ?_)
  refine wpAny_bind (wpAny_callSpecial?_slot (name := Str.ofString "__getitem__") ht.typeIs slot_tuple_getitem (wpAny_call_entry slot_tuple_getitem ht.typeIs entry_tuple_getitem ?_ (args_tuple_getitem _ _)))
  show wpAny _ _ (Builtin.Tuple.tupleItemsOf (.ref t) >>= _) _ _ s
  refine wpAny_bind (tupleItemsOf_ ht (wpAny_bind (wpAny_typeOf isSl ?_)))
  rw [if_pos (by decide)]
  refine wpAny_bind (applied_back hs pk ?_)
  show wpAny _ _ (if (((items.size : Int) - 1) == 0 && (-1 : Int) == 1 && items.size == items.size) = true then _ else _) _ _ s
  rw [if_neg (by simp), picked]
  first
    | exact wpAny_bind (m := Builtin.Tuple.tupleExact _) (wpAny_newObj_type (wpAny_pure ⟨_, rfl, wpAny_pure h⟩) room)
    | exact wpAny_bind (m := Builtin.Tuple.tupleExact _) (wpAny_newObj_type (wpAny_bind (wpAny_pure (wpAny_pure ⟨_, rfl, wpAny_pure h⟩))) room)
    | exact wpAny_bind (wpAny_bind (m := Builtin.Tuple.tupleExact _) (wpAny_newObj_type (wpAny_pure (wpAny_pure ⟨_, rfl, wpAny_pure h⟩)) room))
    | exact wpAny_bind (wpAny_bind (m := Builtin.Tuple.tupleExact _) (wpAny_newObj_type (wpAny_pure ⟨_, rfl, wpAny_pure h⟩) room))
end
end RvT
section
variable {X : Cx}
def tRevT (K : PySem.W.Frag) (te : TE) : TE := fun σ H Q => te σ H fun x H1 => ∃ a xs, x = .ref a ∧ SqT K H1 a xs ∧ ∀ p, H1 p = none → Q (.ref p) (upd H1 p (.tup xs.reverse))
theorem pe_revT {e : Expr} {te : TE} {k : Nat} {p1 p2 p3 pos : Pos} (he : PE X e te) : PE X (.Subscript e (.Slice none none (some (.UnaryOp .USub (.Constant (.int 1) k p1) p2)) p3) pos) (tRevT X.K te) := ⟨fun pins s σ H Q I h => by
  refine Subscript_ (thn (he.run pins s σ H _ I h) fun v s1 ⟨x, H1, I1, r1, q1⟩ => ?_)
  obtain ⟨a, xs, ex, hx, q⟩ := q1
  subst ex
  cases r1
  have none_at : ∀ (sA : Shared) (HA : Hp), Inv X pins σ HA sA → tNoPart σ HA (fun o HB => o = none ∧ HB = HA) := fun _ _ _ => ⟨rfl, rfl⟩
  have back : PO X (some (.UnaryOp .USub (.Constant (.int 1) k p1) p2)) (tPart (tUn (rU fun i => .int (-i)) (tC (.int 1)))) := po_some (pe_un un_neg pe_int)
  refine wpAny_Slice (thn (po_none.run pins s1 σ H1 _ I1 (none_at _ _ I1)) fun vl s2 ⟨l, H2, I2, pl, e1⟩ => ?_)
  obtain ⟨el, e2⟩ := e1
  subst el e2
  refine thn (po_none.run pins s2 σ H2 _ I2 (none_at _ _ I2)) fun vu s3 ⟨u, H3, I3, pu, e3⟩ => ?_
  obtain ⟨eu, e4⟩ := e3
  subst eu e4
  refine thn (back.run pins s3 σ H3 (fun o H4 => o = some (-1) ∧ H4 = H3) I3 ⟨1, rfl, -1, rfl, rfl, rfl⟩) fun vk s4 ⟨o, H4, I4, pk, e5⟩ => ?_
  obtain ⟨eo, e6⟩ := e5
  subst eo e6
  cases pl
  cases pu
  have I5 : Inv X pins σ H4 { s4 with heap := s4.heap.push { cls := .type "slice", data := .fields #[Value.none, .none, vk] } } := I4.kept (t' := s4.toks) fun b ob z => Heap.get?_push_of_some _ z
  obtain ⟨its, r, ht, hz⟩ := I5.tuple hx
  have len : its.toArray.size = xs.length := by rw [List.size_toArray]; exact r.length.symm
  show wpAny (model X.prog X.w) X.A (subscriptTail e (.Slice none none (some (.UnaryOp .USub (.Constant (.int 1) k p1) p2)) p3) (.ref a) (.ref s4.heap.objs.size)) (EP X pins σ Q) X.xe { s4 with heap := s4.heap.push { cls := .type "slice", data := .fields #[Value.none, .none, vk] } }
  refine tail_any (ops := [.ref a, .ref s4.heap.objs.size]) ht.typeIs slot_tuple_getitem.lookup ?_ (by with_unfolding_all rfl)
  refine RvT.item_back ht (Heap.IsSliceOf.new _ .none .none vk) pk (by rw [len]; exact hz) ?_
  refine ⟨.ref _, _, I5.laid (t' := s4.toks) (o := .tup xs.reverse) (fun b ob z => Heap.get?_push_of_some _ z) (Nat.le_refl _) ?_, rfl, q _ (I5.hok.fresh (Nat.le_refl _))⟩
  exact ⟨by rw [List.length_reverse]; exact hz, _, r.reverse, IsTup.new _ _⟩⟩
end
/-! ### levels and what stands within -/
def szF : Nat → PyData → Nat
  | 0, _ => 0
  | f + 1, d => 1 + ((inner d).map (szF f)).sum
def dpF : Nat → PyData → Nat
  | 0, _ => 0
  | f + 1, d => 1 + ((inner d).map (dpF f)).foldr max 0
def fmF (n : Int) : Nat → PyData → Bool
  | 0, _ => true
  | f + 1, d => hasForm n d && (inner d).all (fmF n f)
def sums (g : PyData → Nat) (l : List PyData) : Nat := (l.map g).sum
def most (g : PyData → Nat) (l : List PyData) : Nat := (l.map g).foldr max 0
theorem sums_app {g : PyData → Nat} {a b : List PyData} : sums g (a ++ b) = sums g a + sums g b := by
  unfold sums
  rw [List.map_append, List.sum_append]
theorem most_app {g : PyData → Nat} : ∀ {a b : List PyData}, most g (a ++ b) = max (most g a) (most g b)
  | [], b => by
    show most g b = max 0 (most g b)
    omega
  | d :: a, b => by
    show max (g d) (most g (a ++ b)) = max (max (g d) (most g a)) (most g b)
    rw [most_app]
    omega
theorem sums_flat {f : Nat} : ∀ {l : List PyData}, sums (szF (f + 1)) l = l.length + sums (szF f) (l.flatMap inner)
  | [] => rfl
  | d :: l => by
    rw [List.flatMap_cons, sums_app]
    show (1 + sums (szF f) (inner d)) + sums (szF (f + 1)) l = (l.length + 1) + _
    rw [sums_flat]
    omega
theorem most_flat {f : Nat} : ∀ {l : List PyData}, l ≠ [] → most (dpF (f + 1)) l = 1 + most (dpF f) (l.flatMap inner)
  | [], h => absurd rfl h
  | [d], _ => by
    rw [List.flatMap_cons, List.flatMap_nil, List.append_nil]
    show max (1 + most (dpF f) (inner d)) 0 = _
    omega
  | d :: e :: l, _ => by
    rw [List.flatMap_cons, most_app]
    have h := most_flat (f := f) (l := e :: l) (List.cons_ne_nil _ _)
    show max (1 + most (dpF f) (inner d)) (most (dpF (f + 1)) (e :: l)) = _
    rw [h]
    omega
theorem all_flat {n : Int} {f : Nat} : ∀ {l : List PyData}, l.all (fmF n (f + 1)) = (l.all (hasForm n) && (l.flatMap inner).all (fmF n f))
  | [] => rfl
  | d :: l => by
    rw [List.flatMap_cons, List.all_append, List.all_cons, List.all_cons, all_flat]
    show ((hasForm n d && (inner d).all (fmF n f)) && (l.all (hasForm n) && (l.flatMap inner).all (fmF n f))) = _
    cases hasForm n d <;> cases (inner d).all (fmF n f) <;> cases l.all (hasForm n) <;> cases (l.flatMap inner).all (fmF n f) <;> rfl
theorem goT_is {n : Int} : ∀ (f : Nat) (lv : List PyData) (deep many : Nat), f + deep = 9 → 1 ≤ f → many ≤ 30 → goT n f lv deep many = (lv.all (fmF n f) && (decide (many + sums (szF f) lv ≤ 30) && decide (deep + most (dpF f) lv ≤ 8)))
  | 0, _, _, _, _, h, _ => absurd h (by decide)
  | f + 1, [], deep, many, hf, _, hm => by
    show true = (true && (decide (many + 0 ≤ 30) && decide (deep + 0 ≤ 8)))
    rw [decide_eq_true (show many + 0 ≤ 30 by omega), decide_eq_true (show deep + 0 ≤ 8 by omega)]
    rfl
  | f + 1, d :: ds, deep, many, hf, _, hm => by
    have hne : d :: ds ≠ [] := List.cons_ne_nil _ _
    generalize d :: ds = lv at hne
    rw [goT_cons hne, all_flat, sums_flat, most_flat hne]
    by_cases h1 : 8 < deep + 1 ∨ 30 < many + lv.length
    · rw [decide_eq_true h1]
      have h2 : (decide (many + (lv.length + sums (szF f) (lv.flatMap inner)) ≤ 30) && decide (deep + (1 + most (dpF f) (lv.flatMap inner)) ≤ 8)) = false := by
        rcases h1 with h1 | h1
        · rw [decide_eq_false (show ¬ deep + (1 + most (dpF f) (lv.flatMap inner)) ≤ 8 by omega), Bool.and_false]
        · rw [decide_eq_false (show ¬ many + (lv.length + sums (szF f) (lv.flatMap inner)) ≤ 30 by omega)]
          rfl
      rw [h2, Bool.and_false]
      rfl
    · rw [decide_eq_false h1]
      rw [goT_is f _ (deep + 1) (many + lv.length) (by omega) (by omega) (by omega)]
      have e1 : decide (many + lv.length + sums (szF f) (lv.flatMap inner) ≤ 30) = decide (many + (lv.length + sums (szF f) (lv.flatMap inner)) ≤ 30) := by
        rw [Nat.add_assoc]
      have e2 : decide (deep + 1 + most (dpF f) (lv.flatMap inner) ≤ 8) = decide (deep + (1 + most (dpF f) (lv.flatMap inner)) ≤ 8) := by
        rw [Nat.add_assoc]
      rw [e1, e2]
      cases lv.all (hasForm n) <;> cases (lv.flatMap inner).all (fmF n f) <;> rfl
theorem isTerm_is (n : Int) (d : PyData) : isTerm n d = (fmF n 9 d && (decide (szF 9 d ≤ 30) && decide (dpF 9 d ≤ 8))) := by
  unfold isTerm
  rw [goT_is 9 [d] 0 0 rfl (by decide) (by decide)]
  have e1 : sums (szF 9) [d] = szF 9 d := by
    show szF 9 d + 0 = _
    omega
  have e2 : most (dpF 9) [d] = dpF 9 d := by
    show max (dpF 9 d) 0 = _
    omega
  rw [e1, e2, Nat.zero_add, Nat.zero_add]
  show ((fmF n 9 d && true) && _) = _
  rw [Bool.and_true]
def bin (h : Str) : Prop := h = "plus" ∨ h = "less" ∨ h = "same"
/-! ### the law's terms -/
inductive Gd (n : Int) : Nat → PyData → Prop
  | val {f : Nat} {i : Int} : 0 ≤ i → i < 3 → Gd n (f + 1) (.int i)
  | arg {f : Nat} {i : Int} : 0 ≤ i → i < n → Gd n (f + 1) (.tuple [.str "arg", .int i])
  | cell {f : Nat} {x : Str} : isName (.str x) = true → Gd n (f + 1) (.tuple [.str "cell", .str x])
  | tick {f : Nat} : Gd n (f + 1) (.tuple [.str "tick"])
  | call {f : Nat} {x : Str} {ts : List PyData} : isName (.str x) = true → ts.length ≤ 2 → (∀ t ∈ ts, Gd n f t) → Gd n (f + 1) (.tuple [.str "call", .str x, .tuple ts])
  | op {f : Nat} {z : Str} {ts : List PyData} : (z = "if" ∧ ts.length = 3) ∨ (bin z ∧ ts.length = 2) → (∀ t ∈ ts, Gd n f t) → Gd n (f + 1) (.tuple (.str z :: ts))
theorem op_word {z : Str} {ts : List PyData} (h : (z = "if" ∧ ts.length = 3) ∨ (bin z ∧ ts.length = 2)) : z = "if" ∨ z = "plus" ∨ z = "less" ∨ z = "same" := by
  rcases h with ⟨h, _⟩ | ⟨h, _⟩
  · exact .inl h
  · exact .inr h
theorem op_inner {z : Str} {ts : List PyData} (h : z = "if" ∨ z = "plus" ∨ z = "less" ∨ z = "same") : inner (.tuple (.str z :: ts)) = ts := by
  rcases h with rfl | rfl | rfl | rfl <;> rfl
theorem gd_inner {n : Int} {f : Nat} {d : PyData} (h : Gd n (f + 1) d) : (∀ t ∈ inner d, Gd n f t) ∧ (inner d).length ≤ 3 := by
  cases h with
  | val _ _ => exact ⟨fun t ht => (by cases ht), Nat.zero_le _⟩
  | arg _ _ => exact ⟨fun t ht => (by cases ht), Nat.zero_le _⟩
  | cell _ => exact ⟨fun t ht => (by cases ht), Nat.zero_le _⟩
  | tick => exact ⟨fun t ht => (by cases ht), Nat.zero_le _⟩
  | call _ hl ht => exact ⟨ht, Nat.le_trans hl (by decide)⟩
  | op hz ht =>
    rw [op_inner (op_word hz)]
    refine ⟨ht, ?_⟩
    rcases hz with ⟨_, h⟩ | ⟨_, h⟩ <;> omega
theorem gd_form {n : Int} {f : Nat} {d : PyData} (h : Gd n f d) : hasForm n d = true := by
  cases h with
  | val h0 h3 =>
    show (isValue (.int _) || false) = true
    have e : isValue (.int _) = true := Bool.and_eq_true_iff.mpr ⟨decide_eq_true h0, decide_eq_true h3⟩
    rw [e]
    rfl
  | arg h0 h3 => exact Bool.and_eq_true_iff.mpr ⟨decide_eq_true h0, decide_eq_true h3⟩
  | cell hx => exact hx
  | tick => rfl
  | call hx hl _ => exact Bool.and_eq_true_iff.mpr ⟨hx, decide_eq_true (by omega)⟩
  | @op f z ts hz _ =>
    rcases hz with ⟨rfl, h⟩ | ⟨rfl | rfl | rfl, h⟩
    · show decide ((ts.length : Int) + 1 = 4) = true
      exact decide_eq_true (by omega)
    · show decide ((ts.length : Int) + 1 = 3) = true
      exact decide_eq_true (by omega)
    · show decide ((ts.length : Int) + 1 = 3) = true
      exact decide_eq_true (by omega)
    · show decide ((ts.length : Int) + 1 = 3) = true
      exact decide_eq_true (by omega)
theorem gd_fm {n : Int} : ∀ (k f : Nat) (d : PyData), Gd n f d → fmF n k d = true
  | 0, _, _, _ => rfl
  | k + 1, 0, d, h => nomatch h
  | k + 1, f + 1, d, h => by
    show (hasForm n d && (inner d).all (fmF n k)) = true
    rw [gd_form h]
    exact List.all_eq_true.mpr fun t ht => gd_fm k f t ((gd_inner h).1 t ht)
theorem szDs_of : ∀ {ts : List PyData}, (∀ t ∈ ts, szD t = true) → szDs ts = true
  | [], _ => rfl
  | t :: ts, h => by
    show (szD t && szDs ts) = true
    rw [h t List.mem_cons_self, szDs_of fun u hu => h u (List.mem_cons_of_mem _ hu)]
    rfl
theorem noLs_of : ∀ {ts : List PyData}, (∀ t ∈ ts, noL t = true) → noLs ts = true
  | [], _ => rfl
  | t :: ts, h => by
    show (noL t && noLs ts) = true
    rw [h t List.mem_cons_self, noLs_of fun u hu => h u (List.mem_cons_of_mem _ hu)]
    rfl
theorem name_sz {x : Str} (h : isName (.str x) = true) : szD (.str x) = true := by
  have h1 := Bool.and_eq_true_iff.mp (Bool.and_eq_true_iff.mp (show (decide (1 ≤ (x.length : Int)) && decide ((x.length : Int) ≤ 8) && x.cps.toList.all lowCode) = true from h)).1
  have h2 := of_decide_eq_true h1.2
  exact decide_eq_true (by omega)
theorem word_sz {z : Str} (h : z = "if" ∨ z = "plus" ∨ z = "less" ∨ z = "same") : szD (.str z) = true := by
  rcases h with rfl | rfl | rfl | rfl <;> decide +kernel
theorem gd_sz {n : Int} : ∀ (f : Nat) (d : PyData), Gd n f d → szD d = true
  | 0, _, h => nomatch h
  | f + 1, d, h => by
    cases h with
    | val _ _ => rfl
    | arg _ _ =>
      show (decide (2 ≤ 1000) && (szD (.str "arg") && (true && true))) = true
      decide +kernel
    | cell hx =>
      show (decide (2 ≤ 1000) && (szD (.str "cell") && (szD (.str _) && true))) = true
      rw [name_sz hx]
      decide +kernel
    | tick => decide +kernel
    | @call _ x ts hx hl ht =>
      show (decide (3 ≤ 1000) && (szD (.str "call") && (szD (.str x) && ((decide (ts.length ≤ 1000) && szDs ts) && true)))) = true
      rw [name_sz hx, szDs_of fun t h => gd_sz f t (ht t h), decide_eq_true (show ts.length ≤ 1000 by omega)]
      decide +kernel
    | @op _ z ts hz ht =>
      show (decide (ts.length + 1 ≤ 1000) && (szD (.str z) && szDs ts)) = true
      rw [word_sz (op_word hz), szDs_of fun t h => gd_sz f t (ht t h), decide_eq_true (show ts.length + 1 ≤ 1000 by rcases hz with ⟨_, h⟩ | ⟨_, h⟩ <;> omega)]
      rfl
theorem gd_nl {n : Int} : ∀ (f : Nat) (d : PyData), Gd n f d → noL d = true
  | 0, _, h => nomatch h
  | f + 1, d, h => by
    cases h with
    | val _ _ => rfl
    | arg _ _ => rfl
    | cell hx => rfl
    | tick => rfl
    | @call _ x ts hx hl ht =>
      show (true && (true && (noLs ts && true))) = true
      rw [noLs_of fun t h => gd_nl f t (ht t h)]
      rfl
    | @op _ z ts hz ht =>
      show (true && noLs ts) = true
      rw [noLs_of fun t h => gd_nl f t (ht t h)]
      rfl
theorem gd_szF {n : Int} : ∀ (f k k' : Nat) (d : PyData), Gd n f d → f ≤ k → f ≤ k' → szF k d = szF k' d
  | 0, _, _, _, h, _, _ => nomatch h
  | f + 1, 0, _, _, _, h, _ => by omega
  | f + 1, _, 0, _, _, _, h => by omega
  | f + 1, k + 1, k' + 1, d, h, h1, h2 => by
    show 1 + ((inner d).map (szF k)).sum = 1 + ((inner d).map (szF k')).sum
    rw [List.map_congr_left fun t ht => gd_szF f k k' t ((gd_inner h).1 t ht) (by omega) (by omega)]
theorem gd_dpF {n : Int} : ∀ (f k k' : Nat) (d : PyData), Gd n f d → f ≤ k → f ≤ k' → dpF k d = dpF k' d
  | 0, _, _, _, h, _, _ => nomatch h
  | f + 1, 0, _, _, _, h, _ => by omega
  | f + 1, _, 0, _, _, _, h => by omega
  | f + 1, k + 1, k' + 1, d, h, h1, h2 => by
    show 1 + ((inner d).map (dpF k)).foldr max 0 = 1 + ((inner d).map (dpF k')).foldr max 0
    rw [List.map_congr_left fun t ht => gd_dpF f k k' t ((gd_inner h).1 t ht) (by omega) (by omega)]
theorem gd_dle {n : Int} : ∀ (f k : Nat) (d : PyData), Gd n f d → dpF k d ≤ f
  | 0, _, _, h => nomatch h
  | f + 1, 0, _, _ => Nat.zero_le _
  | f + 1, k + 1, d, h => by
    show 1 + ((inner d).map (dpF k)).foldr max 0 ≤ f + 1
    have h1 : ∀ l : List PyData, (∀ t ∈ l, dpF k t ≤ f) → (l.map (dpF k)).foldr max 0 ≤ f := fun l => by
      induction l with
      | nil => exact fun _ => Nat.zero_le _
      | cons a l ih =>
        intro hl
        show max (dpF k a) _ ≤ f
        have := hl a List.mem_cons_self
        have := ih fun t ht => hl t (List.mem_cons_of_mem _ ht)
        omega
    have := h1 (inner d) fun t ht => gd_dle f k t ((gd_inner h).1 t ht)
    omega
theorem gd_many {n : Int} : ∀ (f k : Nat) (d : PyData), Gd n f d → szF k d ≤ 4 ^ f
  | 0, _, _, h => nomatch h
  | f + 1, 0, _, _ => Nat.zero_le _
  | f + 1, k + 1, d, h => by
    show 1 + ((inner d).map (szF k)).sum ≤ 4 ^ (f + 1)
    have h1 : ∀ l : List PyData, (∀ t ∈ l, szF k t ≤ 4 ^ f) → (l.map (szF k)).sum ≤ l.length * 4 ^ f := fun l => by
      induction l with
      | nil => exact fun _ => Nat.zero_le _
      | cons a l ih =>
        intro hl
        rw [List.map_cons, List.sum_cons, List.length_cons, Nat.succ_mul]
        have := hl a List.mem_cons_self
        have := ih fun t ht => hl t (List.mem_cons_of_mem _ ht)
        omega
    have h2 := h1 (inner d) fun t ht => gd_many f k t ((gd_inner h).1 t ht)
    have h3 := Nat.mul_le_mul_right (4 ^ f) (gd_inner h).2
    have h4 : 1 ≤ 4 ^ f := Nat.one_le_pow _ _ (by decide)
    rw [Nat.pow_succ]
    omega
def sz9 (d : PyData) : Nat := szF 9 d
def dp9 (d : PyData) : Nat := dpF 9 d
theorem sz9_in {n : Int} {f : Nat} {d : PyData} (h : Gd n (f + 1) d) (hf : f ≤ 8) : sz9 d = 1 + ((inner d).map sz9).sum := by
  show 1 + ((inner d).map (szF 8)).sum = _
  rw [List.map_congr_left fun t ht => gd_szF f 8 9 t ((gd_inner h).1 t ht) hf (by omega)]
  rfl
theorem dp9_in {n : Int} {f : Nat} {d : PyData} (h : Gd n (f + 1) d) (hf : f ≤ 8) : dp9 d = 1 + ((inner d).map dp9).foldr max 0 := by
  show 1 + ((inner d).map (dpF 8)).foldr max 0 = _
  rw [List.map_congr_left fun t ht => gd_dpF f 8 9 t ((gd_inner h).1 t ht) hf (by omega)]
  rfl
theorem gd_isTerm {n : Int} {f : Nat} {d : PyData} (h : Gd n f d) (hf : f ≤ 8) : isTerm n d = decide (sz9 d ≤ 30) := by
  rw [isTerm_is, gd_fm 9 f d h, decide_eq_true (Nat.le_trans (gd_dle f 9 d h) hf), Bool.and_true]
  rfl
theorem name_ok {x : Str} (h : isName (.str x) = true) : PyData.strOk x = true := by
  have h1 := (Bool.and_eq_true_iff.mp (show (decide (1 ≤ (x.length : Int)) && decide ((x.length : Int) ≤ 8) && x.cps.toList.all lowCode) = true from h)).2
  unfold PyData.strOk
  rw [← Array.all_toList]
  refine List.all_eq_true.mpr fun c hc => ?_
  have h2 := Bool.and_eq_true_iff.mp (show (decide (97 ≤ c) && decide (c ≤ 122)) = true from List.all_eq_true.mp h1 c hc)
  have h3 := of_decide_eq_true h2.2
  exact decide_eq_true (by omega)
theorem word_ok {z : Str} (h : z = "if" ∨ z = "plus" ∨ z = "less" ∨ z = "same") : PyData.strOk z = true := by
  rcases h with rfl | rfl | rfl | rfl <;> decide +kernel
theorem canLay_of : ∀ {ts : List PyData}, (∀ t ∈ ts, t.canLay0 = true) → PyData.canLayAll0 ts = true
  | [], _ => rfl
  | t :: ts, h => by
    show (t.canLay0 && PyData.canLayAll0 ts) = true
    rw [h t List.mem_cons_self, canLay_of fun u hu => h u (List.mem_cons_of_mem _ hu)]
    rfl
theorem depth_of {m : Nat} : ∀ {ts : List PyData}, (∀ t ∈ ts, t.depth ≤ m) → PyData.depthAll ts ≤ m
  | [], _ => Nat.zero_le _
  | t :: ts, h => by
    show max t.depth (PyData.depthAll ts) ≤ m
    have h1 := h t List.mem_cons_self
    have h2 := depth_of fun u hu => h u (List.mem_cons_of_mem _ hu)
    omega
theorem gd_lay {n : Int} : ∀ (f : Nat) (d : PyData), Gd n f d → d.canLay0 = true ∧ d.depth ≤ 2 * f
  | 0, _, h => nomatch h
  | f + 1, d, h => by
    cases h with
    | val _ _ => exact ⟨rfl, Nat.zero_le _⟩
    | arg _ _ =>
      refine ⟨?_, ?_⟩
      · show (PyData.strOk "arg" && (true && true)) = true
        decide +kernel
      · show (max 0 (max 0 0)) + 1 ≤ _
        omega
    | @cell _ x hx =>
      refine ⟨?_, ?_⟩
      · show (PyData.strOk "cell" && (PyData.strOk x && true)) = true
        rw [name_ok hx]
        decide +kernel
      · show (max 0 (max 0 0)) + 1 ≤ _
        omega
    | tick =>
      refine ⟨by decide +kernel, ?_⟩
      show (max 0 0) + 1 ≤ _
      omega
    | @call _ x ts hx hl ht =>
      refine ⟨?_, ?_⟩
      · show (PyData.strOk "call" && (PyData.strOk x && (PyData.canLayAll0 ts && true))) = true
        rw [name_ok hx, canLay_of fun t h => (gd_lay f t (ht t h)).1]
        decide +kernel
      · have h1 := depth_of fun t h => (gd_lay f t (ht t h)).2
        show (max 0 (max 0 (max (PyData.depthAll ts + 1) 0))) + 1 ≤ _
        omega
    | @op _ z ts hz ht =>
      refine ⟨?_, ?_⟩
      · show (PyData.strOk z && PyData.canLayAll0 ts) = true
        rw [word_ok (op_word hz), canLay_of fun t h => (gd_lay f t (ht t h)).1]
        rfl
      · have h1 := depth_of fun t h => (gd_lay f t (ht t h)).2
        show (max 0 (PyData.depthAll ts)) + 1 ≤ _
        omega
theorem gd_shaped {n : Int} {f : Nat} {d : PyData} (h : Gd n f d) (hf : f ≤ 8) : SeqAt.shaped d = true := by
  have h1 := gd_lay f d h
  exact Bool.and_eq_true_iff.mpr ⟨h1.1, decide_eq_true (by omega)⟩
theorem gd_tup {n : Int} {f : Nat} {d : PyData} (h : Gd n f d) : (∃ i, d = .int i ∧ 0 ≤ i ∧ i < 3) ∨ ∃ z rest, d = .tuple (.str z :: rest) ∧ (z = "call" → ∃ x ts, rest = [.str x, .tuple ts]) ∧ (z = "tick" → rest = []) := by
  cases h with
  | val h0 h3 => exact .inl ⟨_, rfl, h0, h3⟩
  | arg _ _ => exact .inr ⟨"arg", _, rfl, fun e => absurd e (by decide +kernel), fun e => absurd e (by decide +kernel)⟩
  | cell _ => exact .inr ⟨"cell", _, rfl, fun e => absurd e (by decide +kernel), fun e => absurd e (by decide +kernel)⟩
  | tick => exact .inr ⟨"tick", _, rfl, fun e => absurd e (by decide +kernel), fun _ => rfl⟩
  | call _ _ _ => exact .inr ⟨"call", _, rfl, fun _ => ⟨_, _, rfl⟩, fun e => absurd e (by decide +kernel)⟩
  | @op _ z ts hz _ =>
    refine .inr ⟨z, ts, rfl, fun e => ?_, fun e => ?_⟩
    · rcases op_word hz with h | h | h | h <;> (rw [h] at e; exact absurd e (by decide +kernel))
    · rcases op_word hz with h | h | h | h <;> (rw [h] at e; exact absurd e (by decide +kernel))
/-! ### the law's names -/
abbrev sLNames : Stmt := topS 35
theorem scLNames : FnScope ["_law_pool_here", "_law_count", "_law_signs", "_law_origin", "_law_step", "_law_ends", "_law_head", "_law_tail", "_law_k"] ["_law_pool_here", "_law_count"] (defScope sLNames) := ⟨rfl, rfl, rfl, by decide +kernel, rfl, by decide +kernel, by decide +kernel⟩
theorem low_at : ∀ i : Nat, i < 26 → ∃ c, (Str.ofString "abcdefghijklmnopqrstuvwxyz").cps.toList[i]? = some c ∧ lowCode c = true ∧ c = 97 + i := by
  have h : ∀ i : Nat, i < 26 → ((Str.ofString "abcdefghijklmnopqrstuvwxyz").cps.toList[i]?).any (fun c => lowCode c && decide (c = 97 + i)) = true := by decide +kernel
  intro i hi
  have h1 := h i hi
  cases e : (Str.ofString "abcdefghijklmnopqrstuvwxyz").cps.toList[i]? with
  | none =>
    rw [e] at h1
    cases h1
  | some c =>
    rw [e] at h1
    have h2 : (lowCode c && decide (c = 97 + i)) = true := h1
    rw [Bool.and_eq_true] at h2
    exact ⟨c, rfl, h2.1, of_decide_eq_true h2.2⟩
theorem name_of {h t : Str} {c : Nat} (hh : h.cps.toList.all lowCode = true) (ht : t.cps.toList.all lowCode = true) (hc : lowCode c = true) (hl : h.length + t.length ≤ 7) : isName (.str (h ++ ⟨#[c]⟩ ++ t)) = true := by
  have e1 : (h ++ (⟨#[c]⟩ : Str) ++ t).cps = h.cps ++ #[c] ++ t.cps := rfl
  have e2 : (h ++ (⟨#[c]⟩ : Str) ++ t).length = h.length + 1 + t.length := by
    show (h ++ (⟨#[c]⟩ : Str) ++ t).cps.size = h.cps.size + 1 + t.cps.size
    rw [e1, Array.size_append, Array.size_append]
    rfl
  show (decide (1 ≤ ((h ++ (⟨#[c]⟩ : Str) ++ t).length : Int)) && decide (((h ++ (⟨#[c]⟩ : Str) ++ t).length : Int) ≤ 8) && (h ++ (⟨#[c]⟩ : Str) ++ t).cps.toList.all lowCode) = true
  rw [e2, decide_eq_true (by omega), decide_eq_true (by omega), e1, Array.toList_append, Array.toList_append, List.all_append, List.all_append, hh, ht]
  show (true && true && (true && (lowCode c && true) && true)) = true
  rw [hc]
  rfl
theorem len_of {h t : Str} {c : Nat} : (h ++ (⟨#[c]⟩ : Str) ++ t).length = h.length + 1 + t.length := by
  show (h ++ (⟨#[c]⟩ : Str) ++ t).cps.size = h.cps.size + 1 + t.cps.size
  rw [show (h ++ (⟨#[c]⟩ : Str) ++ t).cps = h.cps ++ #[c] ++ t.cps from rfl, Array.size_append, Array.size_append]
  rfl
theorem but_sameN {p : Addr} {H H1 H2 : Hp} (b : But p H H1) (s : Same H1 H2) : But p H H2 := b.trans (But.of s)
theorem dpT {K : PySem.W.Frag} {H : Hp} {t : Addr} {xs : List V} {ds : List PyData} (n : H t = none) (h : DpAll K H xs ds) : Dp K (upd H t (.tup xs)) (.ref t) (.tuple ds) := .tup (.inl (.inl upd_same)) (dpA_same (same_upd n) h)
theorem sign_inj {h tl : Str} {c d : Nat} (e : h ++ (⟨#[c]⟩ : Str) ++ tl = h ++ (⟨#[d]⟩ : Str) ++ tl) : c = d := by
  have e1 : (h.cps ++ #[c] ++ tl.cps) = (h.cps ++ #[d] ++ tl.cps) := congrArg Str.cps e
  have e2 := congrArg Array.toList e1
  rw [Array.toList_append, Array.toList_append, Array.toList_append, Array.toList_append] at e2
  have e3 := List.append_cancel_left (List.append_cancel_right e2)
  exact (List.cons.inj e3).1
theorem signs_nodup {h tl : Str} {o z : Int} (z0 : 0 ≤ z) (z1 : z < 6) {zs : List Str} (hl : zs.length ≤ 8) (hs : ∀ (m : Nat) (u : Str), zs[m]? = some u → u = h ++ (⟨#[97 + ((o + (1 + 2 * z) * (m : Int)) % 26).toNat]⟩ : Str) ++ tl) : zs.Nodup := by
  refine List.pairwise_iff_getElem.mpr fun i j hi hj lt e => ?_
  have e1 := hs i _ (List.getElem?_eq_getElem hi)
  have e2 := hs j _ (List.getElem?_eq_getElem hj)
  rw [e1, e2] at e
  have e3 := sign_inj e
  rcases (show z = 0 ∨ z = 1 ∨ z = 2 ∨ z = 3 ∨ z = 4 ∨ z = 5 by omega) with q | q | q | q | q | q <;> subst q <;> omega
def spLNames (K : PySem.W.Frag) : Sp := fun vs H Q _ => ∃ (p : Addr) (cn : Nat), vs = [.ref p, .int cn] ∧ cn ≤ 8 ∧ PoolAt H p ∧ ∀ (r : Addr) (zs : List Str) H', But p H H' → PoolAt H' p → H' r = some (.lst (zs.map V.str)) → zs.length = cn → (∀ z ∈ zs, isName (.str z) = true) → zs.Nodup → (∀ z ∈ zs, z.length ≤ 4 ∨ z.length = 8) → Q (.ref r) H'
def endsD : List PyData := [.tuple [.str "", .str ""], .tuple [.str "", .str "q"], .tuple [.str "ab", .str ""], .tuple [.str "abcdefg", .str ""], .tuple [.str "", .str "abcdefg"]]
theorem ends_are : ∀ {i : Nat} {d : PyData}, endsD[i]? = some d → ∃ h t : Str, d = .tuple [.str h, .str t] ∧ h.cps.toList.all lowCode = true ∧ t.cps.toList.all lowCode = true ∧ h.length + t.length ≤ 7 ∧ (h.length + t.length ≤ 3 ∨ h.length + t.length = 7)
  | 0, _, e => ⟨_, _, (Option.some.inj e).symm, by decide +kernel, by decide +kernel, by decide +kernel, by decide +kernel⟩
  | 1, _, e => ⟨_, _, (Option.some.inj e).symm, by decide +kernel, by decide +kernel, by decide +kernel, by decide +kernel⟩
  | 2, _, e => ⟨_, _, (Option.some.inj e).symm, by decide +kernel, by decide +kernel, by decide +kernel, by decide +kernel⟩
  | 3, _, e => ⟨_, _, (Option.some.inj e).symm, by decide +kernel, by decide +kernel, by decide +kernel, by decide +kernel⟩
  | 4, _, e => ⟨_, _, (Option.some.inj e).symm, by decide +kernel, by decide +kernel, by decide +kernel, by decide +kernel⟩
  | n + 5, _, e => nomatch e
section
variable {P : Program} {w : World} {K : PySem.W.Frag} {mg : Str → Option Value} {base : Heap}
theorem ok_lnames {f fD fP : Addr} {fd dD dP : FuncData} (F : Fun K "_law_names" "_law_names" sLNames f fd) (M : Blt mg)
    (FD : Fun K "_law_draw" "_law_draw" sDraw fD dD) (bD : Binds K dD ["_law_pool_here", "_law_many"] []) (gD : mg "_law_draw" = some (.ref fD))
    (FP : Fun K "_law_pick" "_law_pick" sPick fP dP) (bP : Binds K dP ["_law_pool_here", "_law_row"] []) (gP : mg "_law_pick" = some (.ref fP)) :
    FnOk P w K mg base CX0 3 f fd ["_law_pool_here", "_law_count"] (spLNames K) := by
  have GD : FnOk P w K mg base CX0 1 fD dD ["_law_pool_here", "_law_many"] spDraw := ok_draw FD M
  have GP : FnOk P w K mg base CX0 2 fP dP ["_law_pool_here", "_law_row"] (spPick K) := ok_pick FP M FD bD gD
  refine F.ok scLNames (fun vs H Q E h => ?_) (fun cdv A outer s H vs Q E hr h => ?_)
  · obtain ⟨p, cn, rfl, _⟩ := h
    rfl
  · obtain ⟨p, cn, rfl, hc8, hp, q⟩ := h
    have hr1 : Room 1 _ := hr.mono (by omega)
    refine ⟨_, pss_cons (ps_set (i := 2) scLNames.nd rfl (.inr rfl) pe_str)
      (pss_cons (ps_asg (pe_tup (pa_cons (pe_call GD hr1 (by rfl) gD FD.kp bD .nil pass0 (pa_cons (pv 0) (pa_cons pe_int pa_nil)))
          (pa_cons (pe_op op_add pe_int (pe_op op_mul pe_int (pe_call GD hr1 (by rfl) gD FD.kp bD .nil pass0 (pa_cons (pv 0) (pa_cons pe_int pa_nil))))) pa_nil)))
          (pg_tup (by rfl) (pgs_cons (pg_name (i := 3) scLNames.nd rfl (.inr rfl)) (pgs_cons (pg_name (i := 4) scLNames.nd rfl (.inr rfl)) pgs_nil))))
      (pss_cons (ps_set (i := 5) scLNames.nd rfl (.inl rfl) (pe_lst (pa_cons (pe_tup (pa_cons pe_str (pa_cons pe_str pa_nil))) (pa_cons (pe_tup (pa_cons pe_str (pa_cons pe_str pa_nil))) (pa_cons (pe_tup (pa_cons pe_str (pa_cons pe_str pa_nil)))
          (pa_cons (pe_tup (pa_cons pe_str (pa_cons pe_str pa_nil))) (pa_cons (pe_tup (pa_cons pe_str (pa_cons pe_str pa_nil))) pa_nil)))))))
      (pss_cons (ps_asg (pe_call GP hr (by rfl) gP FP.kp bP .nil pass0 (pa_cons (pv 0) (pa_cons (pv 5) pa_nil)))
          (pg_tup (by rfl) (pgs_cons (pg_name (i := 6) scLNames.nd rfl (.inr rfl)) (pgs_cons (pg_name (i := 7) scLNames.nd rfl (.inr rfl)) pgs_nil))))
      (pss_one (ps_ret (pe_lc (own := [("_law_k", 8)]) (g := gName 8) (by rfl) scLNames.nd (pi_range1 (by rfl) M.range (pa_cons (pv 1) pa_nil)) (blkOk_by (own := [("_law_k", 8)]) (N := ["_law_pool_here", "_law_count", "_law_signs", "_law_origin", "_law_step", "_law_ends", "_law_head", "_law_tail", "_law_k"]) (sc := defScope sLNames) (by decide +kernel))
          (fun _ _ _ _ _ => pg_name (i := 8) scLNames.nd rfl (Or.inl rfl)) (fun _ _ _ _ _ => pts_nil)
          (fun _ _ _ _ _ => pe_op op_add_str (pe_op op_add_str (pv 6) (pe_ix ix_str (pv 2) (pe_op op_mod (pe_callTy call_int1 (by rfl) M.int (by decide +kernel) (pa_cons (pe_op op_add (pv 3) (pe_op op_mul (pv 4) (pv 8))) pa_nil)) pe_int) (fun _ _ => rfl))) (pv 7)))))))), ?_⟩
    refine q_c (i := 2) (v := .str "abcdefghijklmnopqrstuvwxyz") ?_
    dsimp only [List.set]
    refine ⟨.ref p, rfl, p, 26, rfl, hp, by omega, by omega, fun o H1 o0 o1 b1 hp1 fr1 => ?_⟩
    refine ⟨.ref p, rfl, p, 6, rfl, hp1, by omega, by omega, fun z H2 z0 z1 b2 hp2 fr2 => ?_⟩
    refine ⟨_, _, rfl, rfl, .inl ⟨by decide, by decide⟩, _, _, rfl, rfl, (by show 2 ≤ sizeLine; decide), fun t nt => ?_⟩
    refine ⟨t, _, rfl, .inl (.inl upd_same), rfl, _, _, rfl, _, _, rfl, rfl, ?_⟩
    have st : Same H2 (upd H2 t (.tup [.int o, .int (1 + 2 * z)])) := same_upd nt
    have b3 := but_sameN (b1.trans b2) st
    have hp3 := hp2.same st
    generalize upd H2 t (.tup [.int o, .int (1 + 2 * z)]) = H3 at b3 hp3
    refine ⟨(by show 2 ≤ sizeLine; decide), fun t1 m1 => ⟨(by show 2 ≤ sizeLine; decide), fun t2 m2 => ⟨(by show 2 ≤ sizeLine; decide), fun t3 m3 => ⟨(by show 2 ≤ sizeLine; decide), fun t4 m4 => ⟨(by show 2 ≤ sizeLine; decide), fun t5 m5 => ⟨(by show 5 ≤ sizeLine; decide), fun l ml => ?_⟩⟩⟩⟩⟩⟩
    have k2 := same_upd (o := .tup [.str "", .str "q"]) m2
    have k3 := same_upd (o := .tup [.str "ab", .str ""]) m3
    have k4 := same_upd (o := .tup [.str "abcdefg", .str ""]) m4
    have k5 := same_upd (o := .tup [.str "", .str "abcdefg"]) m5
    have k1 := same_upd (o := .tup [.str "", .str ""]) m1
    have kl := same_upd (o := .lst [.ref t1, .ref t2, .ref t3, .ref t4, .ref t5]) ml
    have two : ∀ (H : Hp) (a b : Str), DpAll K H [.str a, .str b] [.str a, .str b] := fun H a b => .cons (.str a) (.cons (.str b) .nil)
    have hA : DpAll K _ [.ref t1, .ref t2, .ref t3, .ref t4, .ref t5] endsD := dpA_same kl (.cons (dp_same (k2.trans (k3.trans (k4.trans k5))) (dpT m1 (two _ _ _))) (.cons (dp_same (k3.trans (k4.trans k5)) (dpT m2 (two _ _ _))) (.cons (dp_same (k4.trans k5) (dpT m3 (two _ _ _))) (.cons (dp_same k5 (dpT m4 (two _ _ _))) (.cons (dpT m5 (two _ _ _)) .nil)))))
    have s4 := k1.trans (k2.trans (k3.trans (k4.trans (k5.trans kl))))
    have el : (upd (upd (upd (upd (upd (upd H3 t1 (.tup [.str "", .str ""])) t2 (.tup [.str "", .str "q"])) t3 (.tup [.str "ab", .str ""])) t4 (.tup [.str "abcdefg", .str ""])) t5 (.tup [.str "", .str "abcdefg"])) l (.lst [.ref t1, .ref t2, .ref t3, .ref t4, .ref t5])) l = some (.lst [.ref t1, .ref t2, .ref t3, .ref t4, .ref t5]) := upd_same
    have npl : p ≠ l := (((((hp3.upd m1).upd m2).upd m3).upd m4).upd m5).ne ml
    generalize upd (upd (upd (upd (upd (upd H3 t1 (.tup [.str "", .str ""])) t2 (.tup [.str "", .str "q"])) t3 (.tup [.str "ab", .str ""])) t4 (.tup [.str "abcdefg", .str ""])) t5 (.tup [.str "", .str "abcdefg"])) l (.lst [.ref t1, .ref t2, .ref t3, .ref t4, .ref t5]) = H4 at hA s4 el
    have b4 := but_sameN b3 s4
    have hp4 := hp3.same s4
    refine ⟨.ref p, rfl, .ref l, rfl, p, l, _, rfl, hp4, npl, .inl (.inl (.inl el)), Nat.le_of_ble_eq_true rfl, Nat.le_of_ble_eq_true rfl, fun i hi H5 b5 hp5 fr5 => ?_⟩
    obtain ⟨de, hde, dv⟩ := dpA_at hA (List.getElem?_eq_getElem hi)
    obtain ⟨h, tl, rfl, lowh, lowt, hlen, hlen2⟩ := ends_are hde
    generalize [V.ref t1, .ref t2, .ref t3, .ref t4, .ref t5][i] = vv at dv
    cases dv with
    | @tup a ys _ hs ha =>
      cases ha with
      | cons h1 h2 =>
        cases h1
        cases h2 with
        | cons h3 h4 =>
          cases h3
          cases h4
          obtain ⟨px, py, pe, _⟩ := hp4
          refine ⟨a, _, rfl, but_sqT pe b5 hs, rfl, _, _, rfl, _, _, rfl, rfl, ?_⟩
          refine ⟨_, rfl, (cn : Int), rfl, by omega, by omega, fun D hD => ?_⟩
          refine walk_gen (walk_range (lo := 0) (n := (cn : Int).toNat)) (fun i H' => Same H5 H' ∧ ∃ zs : List Str, H' D = some (.lst (zs.map V.str)) ∧ zs.length = i ∧ (∀ z ∈ zs, isName (.str z) = true) ∧ ∀ (m : Nat) (u : Str), zs[m]? = some u → u = h ++ (⟨#[97 + ((o + (1 + 2 * z) * (m : Int)) % 26).toNat]⟩ : Str) ++ tl) ⟨same_upd hD, [], upd_same, rfl, (fun z h => by cases h), fun m u e => by simp at e⟩ (fun _ _ _ _ => True.intro) (fun i' x H6 H7 hi' pv' y => ?_) (fun H' pv' => ?_)
          · obtain ⟨s6, zs, e6, l6, a6, f6⟩ := pv'
            obtain ⟨rfl, rfl⟩ := y
            refine And.intro rfl ?_
            unfold tYes
            refine iteT ?_
            generalize hv : (o + (1 + 2 * z) * (0 + (i' : Int))) = vv
            have h1 := Int.emod_lt_of_pos vv (show (0 : Int) < 26 by decide)
            have h2 := Int.emod_nonneg vv (show (26 : Int) ≠ 0 by decide)
            obtain ⟨c, hc, lc, c97⟩ := low_at (vv % 26).toNat (by omega)
            have hat : atI (Str.ofString "abcdefghijklmnopqrstuvwxyz").cps.toList (vv % 26) = some c := by
              unfold atI ixN
              rw [if_pos h2, if_pos (show vv % 26 < (((Str.ofString "abcdefghijklmnopqrstuvwxyz").cps.toList.length : Nat) : Int) from h1)]
              exact hc
            refine ⟨_, rfl, _, rfl, _, rfl, _, rfl, _, rfl, _, _, rfl, rfl, .inl ⟨by omega, by omega⟩, _, _, rfl, rfl, .inl ⟨_, rfl, _, _, rfl, rfl, (by show (0 : Int) < 26; decide), ?_⟩⟩
            rw [hv]
            have hl1 : h.length + (⟨#[c]⟩ : Str).length ≤ sizeLine := Nat.le_trans (show h.length + 1 ≤ 8 by omega) (by decide)
            have hl2 : (h ++ (⟨#[c]⟩ : Str)).length + tl.length ≤ sizeLine := by
              have e2 : (h ++ (⟨#[c]⟩ : Str)).length = h.length + 1 := by
                show (h.cps ++ #[c]).size = h.cps.size + 1
                rw [Array.size_append]
                rfl
              rw [e2]
              exact Nat.le_trans (show h.length + 1 + tl.length ≤ 8 by omega) (by decide)
            refine ⟨_, _, c, rfl, rfl, (by decide +kernel), hat, _, _, rfl, rfl, hl1, _, rfl, _, _, rfl, rfl, hl2, zs.map V.str, e6, ?_, fun b o' e' => ?_, zs ++ [h ++ (⟨#[c]⟩ : Str) ++ tl], ?_, ?_, (fun u hu => ?_), fun m u em => ?_⟩
            · rw [List.length_map, l6]
              exact Nat.lt_of_le_of_lt (show i' ≤ 8 by omega) (by decide)
            · rw [upd_ne (ne_of_none e' hD)]
              exact s6 _ _ e'
            · rw [upd_same, List.map_append]
              rfl
            · rw [List.length_append, l6]
              rfl
            · rcases List.mem_append.mp hu with hu | hu
              · exact a6 u hu
              · rw [List.mem_singleton.mp hu]
                exact name_of lowh lowt lc hlen
            · by_cases hm : m < zs.length
              · rw [List.getElem?_append_left hm] at em
                exact f6 m u em
              · have hm2 : m = zs.length := by
                  have := (List.getElem?_eq_some_iff.mp em).1
                  rw [List.length_append] at this
                  simp at this
                  omega
                rw [hm2, List.getElem?_append_right (Nat.le_refl _), Nat.sub_self] at em
                have e2 := Option.some.inj em
                subst e2
                rw [hm2, l6, c97]
                rw [Int.zero_add] at hv
                rw [hv]
          · obtain ⟨s6, zs, e6, l6, a6, f6⟩ := pv'
            exact q D zs H' (but_sameN (b4.trans b5) s6) (hp5.same s6) e6 (by rw [l6]; rfl) a6 (signs_nodup z0 z1 (by omega) f6) (fun u hu => by
              obtain ⟨m, em⟩ := List.getElem?_of_mem hu
              rw [f6 m u em, len_of]
              omega)
end
/-! ### the law's terms, drawn over any drawn book -/
/-- what a drawn book tells: cells with their kinds, functions with their numbers of arguments -/
structure LB where
  cells : List (Str × Str)
  fns : List (Str × Nat)
structure LOk (L : LB) : Prop where
  c : ∀ x ∈ L.cells, isName (.str x.1) = true ∧ x.2 ∈ (["frozen", "setting", "table"] : List Str)
  f : ∀ x ∈ L.fns, isName (.str x.1) = true ∧ x.2 ≤ 2
  lc : L.cells.length ≤ 8
  lf : L.fns.length ≤ 8
/-- a term over this book, of so many arguments -/
inductive GdL (L : LB) (n : Int) : Nat → PyData → Prop
  | val {f : Nat} {i : Int} : 0 ≤ i → i < 3 → GdL L n (f + 1) (.int i)
  | arg {f : Nat} {i : Int} : 0 ≤ i → i < n → GdL L n (f + 1) (.tuple [.str "arg", .int i])
  | cell {f : Nat} {x k : Str} : (x, k) ∈ L.cells → GdL L n (f + 1) (.tuple [.str "cell", .str x])
  | tick {f : Nat} : GdL L n (f + 1) (.tuple [.str "tick"])
  | call {f : Nat} {x : Str} {ts : List PyData} : (x, ts.length) ∈ L.fns → (∀ t ∈ ts, GdL L n f t) → GdL L n (f + 1) (.tuple [.str "call", .str x, .tuple ts])
  | op {f : Nat} {z : Str} {ts : List PyData} : (z = "if" ∧ ts.length = 3) ∨ (bin z ∧ ts.length = 2) → (∀ t ∈ ts, GdL L n f t) → GdL L n (f + 1) (.tuple (.str z :: ts))
theorem gdl_gd {L : LB} (o : LOk L) {n : Int} : ∀ (f : Nat) (d : PyData), GdL L n f d → Gd n f d
  | 0, _, h => nomatch h
  | f + 1, d, h => by
    cases h with
    | val a b => exact .val a b
    | arg a b => exact .arg a b
    | cell a => exact .cell (o.c _ a).1
    | tick => exact .tick
    | call a c => exact .call (o.f _ a).1 (o.f _ a).2 fun t ht => gdl_gd o f t (c t ht)
    | op a c => exact .op a fun t ht => gdl_gd o f t (c t ht)
theorem gdl_mono {L : LB} {n : Int} : ∀ (f f' : Nat) (d : PyData), GdL L n f d → f ≤ f' → GdL L n f' d
  | 0, _, _, h, _ => nomatch h
  | f + 1, 0, _, _, h => absurd h (Nat.not_succ_le_zero f)
  | f + 1, f' + 1, d, h, hf => by
    cases h with
    | val a b => exact .val a b
    | arg a b => exact .arg a b
    | cell a => exact .cell a
    | tick => exact .tick
    | call a c => exact .call a fun t ht => gdl_mono f f' t (c t ht) (by omega)
    | op a c => exact .op a fun t ht => gdl_mono f f' t (c t ht) (by omega)
theorem q_seqR {ta tz : TS} {D : Ends} {σ : L2.St} {H : Hp} (Pr : L2.St → Hp → Prop) (h : ∀ nx, (∀ σ' H', Pr σ' H' → nx σ' H') → ta { D with nx := nx } σ H) (k : ∀ σ' H', Pr σ' H' → tz D σ' H') : tSeq ta tz D σ H := h _ k
abbrev sLTerm : Stmt := topS 36
theorem scLTerm : FnScope ["_law_pool_here", "_law_b", "_law_many", "_law_deep", "_law_kind", "_law_f", "_law_head", "_law_at"] ["_law_pool_here", "_law_b", "_law_many", "_law_deep"] (defScope sLTerm) := ⟨rfl, rfl, rfl, by decide +kernel, rfl, by decide +kernel, by decide +kernel⟩
def rNeLen (K : PySem.W.Frag) : R2 := fun x y H Q => ∃ a b xs ys, x = .ref a ∧ y = .ref b ∧ SqL K H a xs ∧ SqL K H b ys ∧ xs.length ≠ ys.length ∧ Q (.bl true) H
theorem op_neLen {X : Cx} (few : X.A.units + 64 < cLine) : OpR X (compareOp .NotEq) (rNeLen X.K) := by
  rintro pins st σ H one other v1 v2 Q inv rel1 rel2 ⟨a1, a2, l1, l2, rfl, rfl, s1, s2, unlike, goal⟩
  obtain rfl : v1 = Value.ref a1 := rel1
  obtain rfl : v2 = Value.ref a2 := rel2
  have f1 := inv.list s1
  have f2 := inv.list s2
  rcases f1 with ⟨w1, vals1, is1, -⟩
  rcases f2 with ⟨w2, vals2, is2, -⟩
  have sizes : (w1.toArray.size != w2.toArray.size) = true := by
    have n1 : w1.toArray.size = l1.length := List.size_toArray.trans vals1.length.symm
    have n2 : w2.toArray.size = l2.length := List.size_toArray.trans vals2.length.symm
    rw [n1, n2]
    simpa using unlike
  exact SeqAt.RcNeAt.lists_lengths is1.isList is2.isList sizes (by omega) _ _ _ _ ⟨V.bl true, H, inv, rfl, goal⟩
theorem in_twoI (k a b : Int) : inV (.int k) [.int a, .int b] = decide (k = a ∨ k = b) := by
  show ((a == k) || ((b == k) || false)) = _
  rw [Bool.or_false, Bool.eq_iff_iff, Bool.or_eq_true, decide_eq_true_eq, beq_iff_eq, beq_iff_eq]
  exact ⟨fun h => h.imp Eq.symm Eq.symm, fun h => h.imp Eq.symm Eq.symm⟩
def CellT (K : PySem.W.Frag) (H : Hp) (v : V) (x : Str × Str) : Prop := ∃ t, v = .ref t ∧ SqT K H t [.str x.1, .str x.2]
def FnD (H : Hp) (v : V) (x : Str × Nat) : Prop := ∃ g kvs, v = .ref g ∧ H g = some (.dK kvs) ∧ valV kvs (.inr "name" : Key) = some (.str x.1) ∧ valV kvs (.inr "many" : Key) = some (.int (x.2 : Nat))
def Rows {α : Type} (R : V → α → Prop) (xs : List V) (cs : List α) : Prop := xs.length = cs.length ∧ ∀ (i : Nat) x c, xs[i]? = some x → cs[i]? = some c → R x c
theorem Rows.mono {α : Type} {R R' : V → α → Prop} {xs : List V} {cs : List α} (h : Rows R xs cs) (k : ∀ x c, R x c → R' x c) : Rows R' xs cs := ⟨h.1, fun i x c a b => k x c (h.2 i x c a b)⟩
theorem Rows.at {α : Type} {R : V → α → Prop} {xs : List V} {cs : List α} (h : Rows R xs cs) {i : Nat} (hi : i < xs.length) : ∃ c, c ∈ cs ∧ R xs[i] c := by
  have hj : i < cs.length := h.1 ▸ hi
  exact ⟨cs[i], List.getElem_mem hj, h.2 i _ _ (List.getElem?_eq_getElem hi) (List.getElem?_eq_getElem hj)⟩
/-- the drawn book stands at b -/
def LBk (K : PySem.W.Frag) (L : LB) (H : Hp) (b : Addr) : Prop := ∃ c f ts gs, H b = some (.dK [(.inr "cells", .ref c), (.inr "functions", .ref f)]) ∧ H c = some (.lst ts) ∧ H f = some (.lst gs) ∧ Rows (CellT K H) ts L.cells ∧ Rows (FnD H) gs L.fns
theorem LBk.but {K : PySem.W.Frag} {L : LB} {H H' : Hp} {b p : Addr} (h : LBk K L H b) (hp : PoolAt H p) (bt : But p H H') : LBk K L H' b := by
  obtain ⟨c, f, ts, gs, e0, e1, e4, r1, r2⟩ := h
  obtain ⟨x, y, ep, _⟩ := hp
  have nc : c ≠ p := fun q => by
    rw [q, ep] at e1
    cases e1
    obtain ⟨d, _, t, e, _⟩ := r1.at (i := 0) (by show 0 < 2; decide)
    cases e
  have nf : f ≠ p := fun q => by
    rw [q, ep] at e4
    cases e4
    obtain ⟨d, _, t, _, e, _⟩ := r2.at (i := 0) (by show 0 < 2; decide)
    cases e
  refine ⟨c, f, ts, gs, bt _ _ e0 (ne_of e0 ep (fun z => nomatch z)), bt _ _ e1 nc, bt _ _ e4 nf, r1.mono fun v d h => ?_, r2.mono fun v d h => ?_⟩
  · obtain ⟨t, e, h⟩ := h
    exact ⟨t, e, but_sqT ep bt h⟩
  · obtain ⟨g, kvs, e, h, h1, h2⟩ := h
    exact ⟨g, kvs, e, bt _ _ h (ne_of h ep (fun z => nomatch z)), h1, h2⟩
theorem dg {H : Hp} {r : Addr} {kv : List (Key × V)} (e : H r = some (.dK kv)) (z : Str) {v : V} (h : valV kv (.inr z) = some v) : DGet H r (.str z) (some v) := .inl ⟨kv, .inr z, .inl e, rfl, h.symm⟩
/-- the cells as data -/
def cellsD (L : LB) : List PyData := L.cells.map fun x => .tuple [.str x.1, .str x.2]
theorem cells_dp {K : PySem.W.Frag} {H : Hp} : ∀ {ts : List V} {cs : List (Str × Str)}, Rows (CellT K H) ts cs → DpAll K H ts (cs.map fun x => .tuple [.str x.1, .str x.2])
  | [], [], _ => .nil
  | [], _ :: _, h => absurd h.1 (by simp)
  | _ :: _, [], h => absurd h.1 (by simp)
  | v :: ts, x :: cs, h => by
    obtain ⟨t, rfl, ht⟩ := h.2 0 v x rfl rfl
    exact .cons (.tup ht (.cons (.str _) (.cons (.str _) .nil))) (cells_dp ⟨Nat.succ.inj h.1, fun i y d e1 e2 => h.2 (i + 1) y d e1 e2⟩)
theorem cells_shaped {L : LB} (o : LOk L) : SeqAt.shaped (.list (cellsD L)) = true := by
  have one : ∀ d ∈ cellsD L, d.canLay0 = true ∧ d.depth ≤ 1 := fun d hd => by
    obtain ⟨x, hx, rfl⟩ := List.mem_map.mp hd
    obtain ⟨h1, h2⟩ := o.c x hx
    have k : PyData.strOk x.2 = true := by
      simp only [List.mem_cons, List.not_mem_nil, or_false] at h2
      rcases h2 with e | e | e <;> rw [e] <;> decide +kernel
    refine ⟨?_, ?_⟩
    · show (PyData.strOk x.1 && (PyData.strOk x.2 && true)) = true
      rw [name_ok h1, k]
      rfl
    · show max 0 (max 0 0) + 1 ≤ 1
      decide
  refine Bool.and_eq_true_iff.mpr ⟨canLay_of fun t h => (one t h).1, decide_eq_true ?_⟩
  show PyData.depthAll (cellsD L) + 1 ≤ 64
  have := depth_of (m := 1) (ts := cellsD L) fun t h => (one t h).2
  omega
/-- != against an empty list -/
def rNeNil (K : PySem.W.Frag) : R2 := fun x y H Q => ∃ a b xs, x = .ref a ∧ y = .ref b ∧ SqL K H a xs ∧ SqL K H b [] ∧ Q (.bl (!xs.isEmpty)) H
theorem op_neNil {X : Cx} (few : X.A.units + 64 < cLine) : OpR X (compareOp .NotEq) (rNeNil X.K) := by
  intro pins st σ H one other v1 v2 Q inv rel1 rel2 h
  obtain ⟨a1, a2, l1, rfl, rfl, s1, s2, goal⟩ := h
  cases l1 with
  | nil => exact op_neD few pins st σ H _ _ v1 v2 Q inv rel1 rel2 ⟨.list [], .list [], .lst s1 .nil, .lst s2 .nil, by decide +kernel, by decide +kernel, by rw [show PyData.eqv (.list []) (.list []) = true from SeqAt.eqv_refl _ (by decide +kernel)]; exact goal⟩
  | cons x r => exact op_neLen few pins st σ H _ _ v1 v2 Q inv rel1 rel2 ⟨a1, a2, x :: r, [], rfl, rfl, s1, s2, by simp, goal⟩
/-- a comprehension of terms drawn -/
theorem lc_terms {K : PySem.W.Frag} {p : Addr} {L : LB} (ok : LOk L) {n : Int} {f : Nat} {J : It} {cnt : Nat} {Y : Nat → Hp → V → Hp → Prop} (w : Walk J cnt (fun _ => True) Y) {j : Nat} {te : TE} {vs : List Nat} {σ : L2.St} {H1 : Hp} {D : Addr} {Qd : Hp → Prop} (hz : cnt ≤ 1000)
    (hD : H1 D = none) (hp : PoolAt H1 p) (hw : ∀ x, wipe ((wipe σ vs).set j (some x)) vs = wipe σ vs)
    (he : ∀ i x H H', i < cnt → But p H1 H → PoolAt H p → Y i H x H' → H' = H ∧ ∀ Q : VK, (∀ v d H2, But p H H2 → PoolAt H2 p → Dp K H2 v d → GdL L n f d → Q v H2) → te ((wipe σ vs).set j (some x)) H Q)
    (hd : ∀ ys ts H, But p H1 H → PoolAt H p → H D = some (.lst ys) → DpAll K H ys ts → ts.length = cnt → (∀ t ∈ ts, GdL L n f t) → Qd H)  :
    Turns J (upd H1 D (.lst [])) Qd (LcBody D te vs j σ) := by
  have npD : D ≠ p := (hp.ne hD).symm
  refine lc_it w (fun i H => But p H1 H ∧ PoolAt H p ∧ ∃ ys ts, H D = some (.lst ys) ∧ DpAll K H ys ts ∧ ts.length = i ∧ ∀ t ∈ ts, GdL L n f t) ⟨But.of (same_upd hD), hp.upd hD, [], [], upd_same, .nil, rfl, fun v e => by cases e⟩ (fun i H _ p => True.intro) (fun i x H H' hi q y => ?_) (fun H q => ?_)
  · obtain ⟨s1, h1, ys, ts, e1, ea, el, er⟩ := q
    obtain ⟨rfl, k⟩ := he i x H H' hi s1 h1 y
    refine And.intro (hw x) ?_
    unfold tYes
    refine iteT ?_
    refine k _ fun v d H2 s3 h3 dv gd => ⟨ys, s3 _ _ e1 npD, ?_, fun b o e nb => ?_, ?_, ys ++ [v], ts ++ [d], upd_same, ?_, ?_, fun u hu => ?_⟩
    · exact Nat.lt_of_le_of_lt (show ys.length ≤ 1000 by rw [dpA_len ea]; omega) (by decide)
    · have hb : b ≠ D := ne_of_none e hD
      rw [upd_ne hb]
      exact s3 _ _ (s1 _ _ e nb) nb
    · obtain ⟨x, y, e, r⟩ := h3
      exact ⟨x, y, by rw [upd_ne npD.symm]; exact e, r⟩
    · have nl : noLs ts = true := noLs_of fun t ht => gd_nl f t (gdl_gd ok f t (er t ht))
      have e2 := s3 _ _ e1 npD
      obtain ⟨px, py, pe, _⟩ := h1
      have a1 : DpAll K H2 ys ts := dpAll_tups (fun _ _ => but_sqT pe s3) ts ys nl ea
      exact dpA_app (dpAll_tups (fun _ _ => but_sqT e2 But.upd) ts ys nl a1) (.cons (dp_tups (fun _ _ => but_sqT e2 But.upd) d v (gd_nl f d (gdl_gd ok f d gd)) dv) .nil)
    · rw [List.length_append, el]
      rfl
    · rcases List.mem_append.mp hu with hu | hu
      · exact er u hu
      · rw [List.mem_singleton.mp hu]
        exact gd
  · obtain ⟨s1, h1, ys, ts, e1, ea, el, er⟩ := q
    exact hd ys ts H s1 h1 e1 ea el er
def spLTerm (K : PySem.W.Frag) (m : Nat) : Sp := fun vs H Q _ => ∃ (L : LB) (p b : Addr) (n : Int) (deep : Nat), LOk L ∧ vs = [.ref p, .ref b, .int n, .int deep] ∧ PoolAt H p ∧ LBk K L H b ∧ 0 ≤ n ∧ n ≤ 2 ∧ deep < m ∧
  ∀ v d H', But p H H' → PoolAt H' p → Dp K H' v d → GdL L n (deep + 1) d → Q v H'
section
variable {P : Program} {w : World} {K : PySem.W.Frag} {mg : Str → Option Value} {base : Heap}
theorem ok_lterm {f fD fP : Addr} {fd dD dP : FuncData} (F : Fun K "_law_term" "_law_term" sLTerm f fd) (M : Blt mg) (bF : Binds K fd ["_law_pool_here", "_law_b", "_law_many", "_law_deep"] []) (gF : mg "_law_term" = some (.ref f))
    (FD : Fun K "_law_draw" "_law_draw" sDraw fD dD) (bD : Binds K dD ["_law_pool_here", "_law_many"] []) (gD : mg "_law_draw" = some (.ref fD))
    (FP : Fun K "_law_pick" "_law_pick" sPick fP dP) (bP : Binds K dP ["_law_pool_here", "_law_row"] []) (gP : mg "_law_pick" = some (.ref fP)) :
    ∀ m : Nat, FnOk P w K mg base CX0 (m + 3) f fd ["_law_pool_here", "_law_b", "_law_many", "_law_deep"] (spLTerm K m) := by
  have GD : FnOk P w K mg base CX0 1 fD dD ["_law_pool_here", "_law_many"] spDraw := ok_draw FD M
  have GP : FnOk P w K mg base CX0 2 fP dP ["_law_pool_here", "_law_row"] (spPick K) := ok_pick FP M FD bD gD
  intro m
  induction m with
  | zero =>
    refine F.ok scLTerm (fun vs H Q E h => ?_) (fun cdv A outer s H vs Q E hr h => ?_)
    · obtain ⟨L, p, b, n, deep, N, rfl, _⟩ := h
      rfl
    · obtain ⟨L, p, b, n, deep, N, rfl, _, _, _, _, h, _⟩ := h
      exact absurd h (Nat.not_lt_zero _)
  | succ m GT =>
    refine F.ok scLTerm (fun vs H Q E h => ?_) (fun cdv A outer s H vs Q E hr h => ?_)
    · obtain ⟨L, p, b, n, deep, N, rfl, _⟩ := h
      rfl
    · obtain ⟨L, p, b, n, deep, N, rfl, hp, hb, hn0, hn2, hdm, q⟩ := h
      have hr1 : Room 1 _ := hr.mono (by omega)
      have hr2 : Room 2 _ := hr.mono (by omega)
      have hu := hu_of hr
      refine ⟨_, pss_cons (ps_set (i := 4) scLTerm.nd rfl (.inl rfl) (pe_call GD hr1 (by rfl) gD FD.kp bD .nil pass0 (pa_cons (pv 0) (pa_cons (pe_ifExp (pt_cmpR op_gt (pv 3) pe_int (nomark _)) pe_int pe_int) pa_nil))))
        (pss_cons (ps_if (PW.pt (pw_or (pt_cmpR op_eq (pv 4) pe_int (nomark _)) (pw_or (PW.pt (pw_and (pt_cmpR op_eq (pv 4) pe_int (nomark _)) (pw_and1 (pt_cmpR op_eq (pv 2) pe_int (nomark _)))))
            (pw_or1 (PW.pt (pw_and (pt_cmpR op_in_seq (pv 4) (pe_lst (pa_cons pe_int (pa_cons pe_int pa_nil))) (by rfl)) (pw_and1 (pt_cmpR (op_eqD hr.units) (pe_dget hu (pv 1) pe_str (fun _ _ => rfl)) (pe_lst pa_nil) (nomark _)))))))))
            (pss_one (ps_ret (pe_call GD hr1 (by rfl) gD FD.kp bD .nil pass0 (pa_cons (pv 0) (pa_cons pe_int pa_nil))))) pss_nil)
        (pss_cons (ps_if (pt_cmpR op_eq (pv 4) pe_int (nomark _)) (pss_one (ps_ret (pe_tup (pa_cons pe_str (pa_cons (pe_call GD hr1 (by rfl) gD FD.kp bD .nil pass0 (pa_cons (pv 0) (pa_cons (pv 2) pa_nil))) pa_nil))))) pss_nil)
        (pss_cons (ps_if (PW.pt (pw_or (pt_cmpR op_eq (pv 4) pe_int (nomark _)) (pw_or1 (pt_cmpR op_eq (pv 4) pe_int (nomark _)))))
            (pss_one (ps_ret (pe_tup (pa_cons pe_str (pa_cons (pe_ix ix_tup (pe_call GP hr2 (by rfl) gP FP.kp bP .nil pass0 (pa_cons (pv 0) (pa_cons (pe_dget hu (pv 1) pe_str (fun _ _ => rfl)) pa_nil))) pe_int (fun _ _ => rfl)) pa_nil))))) pss_nil)
        (pss_cons (ps_if (pt_cmpR op_eq (pv 4) pe_int (nomark _))
            (pss_one (ps_ret (pe_ifExp (pt_cmpR op_eq (pe_call GD hr1 (by rfl) gD FD.kp bD .nil pass0 (pa_cons (pv 0) (pa_cons pe_int pa_nil))) pe_int (nomark _)) (pe_tup (pa_cons pe_str pa_nil)) (pe_call GD hr1 (by rfl) gD FD.kp bD .nil pass0 (pa_cons (pv 0) (pa_cons pe_int pa_nil)))))) pss_nil)
        (pss_cons (ps_if (PW.pt (pw_and (pt_cmpR op_eq (pv 4) pe_int (nomark _)) (pw_and1 (pt_cmpR (op_neNil hr.units) (pe_dget hu (pv 1) pe_str (fun _ _ => rfl)) (pe_lst pa_nil) (nomark _)))))
            (pss_cons (ps_set (i := 5) scLTerm.nd rfl (.inl rfl) (pe_call GP hr2 (by rfl) gP FP.kp bP .nil pass0 (pa_cons (pv 0) (pa_cons (pe_dget hu (pv 1) pe_str (fun _ _ => rfl)) pa_nil))))
            (pss_one (ps_ret (pe_tup (pa_cons pe_str (pa_cons (pe_dget hu (pv 5) pe_str (fun _ _ => rfl)) (pa_cons (pe_callTy call_tuple_of (by rfl) M.tuple (by decide +kernel) (pa_cons
              (pe_lc (own := [("_law_at", 7)]) (g := gName 7) (te := tCall (spLTerm K m) [] E0 (tCons (tVar 0) (tCons (tVar 1) (tCons (tVar 2) (tCons (tC (.int 0)) tNil))))) (by rfl) scLTerm.nd (pi_range1 (by rfl) M.range (pa_cons (pe_dget hu (pv 5) pe_str (fun _ _ => rfl)) pa_nil)) (blkOk_by (own := [("_law_at", 7)]) (N := ["_law_pool_here", "_law_b", "_law_many", "_law_deep", "_law_kind", "_law_f", "_law_head", "_law_at"]) (sc := defScope sLTerm) (by decide +kernel))
                (fun _ _ _ _ _ => pg_name (i := 7) scLTerm.nd rfl (Or.inl rfl)) (fun _ _ _ _ _ => pts_nil) (fun _ _ _ _ _ => pe_call GT hr (by rfl) gF F.kp bF .nil pass0 (pa_cons (pv 0) (pa_cons (pv 1) (pa_cons (pv 2) (pa_cons pe_int pa_nil)))))) pa_nil)) pa_nil))))))) pss_nil)
        (pss_cons (ps_if (pt_cmpR op_eq (pv 4) pe_int (nomark _))
            (pss_one (ps_ret (pe_op op_catT (pe_tup (pa_cons pe_str pa_nil)) (pe_callTy call_tuple_of (by rfl) M.tuple (by decide +kernel) (pa_cons
              (pe_lc (own := [("_law_at", 7)]) (g := gName 7) (te := tCall (spLTerm K m) [] E0 (tCons (tVar 0) (tCons (tVar 1) (tCons (tVar 2) (tCons (tOp (rI0 fun i j => .int (i - j)) (tVar 3) (tC (.int 1))) tNil))))) (by rfl) scLTerm.nd (pi_range1 (by rfl) M.range (pa_cons pe_int pa_nil)) (blkOk_by (own := [("_law_at", 7)]) (N := ["_law_pool_here", "_law_b", "_law_many", "_law_deep", "_law_kind", "_law_f", "_law_head", "_law_at"]) (sc := defScope sLTerm) (by decide +kernel))
                (fun _ _ _ _ _ => pg_name (i := 7) scLTerm.nd rfl (Or.inl rfl)) (fun _ _ _ _ _ => pts_nil) (fun _ _ _ _ _ => pe_call GT hr (by rfl) gF F.kp bF .nil pass0 (pa_cons (pv 0) (pa_cons (pv 1) (pa_cons (pv 2) (pa_cons (pe_op op_sub (pv 3) pe_int) pa_nil)))))) pa_nil))))) pss_nil)
        (pss_cons (ps_set (i := 6) scLTerm.nd rfl (.inl rfl) (pe_call GP hr2 (by rfl) gP FP.kp bP .nil pass0 (pa_cons (pv 0) (pa_cons (pe_lst (pa_cons pe_str (pa_cons pe_str (pa_cons pe_str pa_nil)))) pa_nil))))
        (pss_one (ps_ret (pe_tup (pa_cons (pv 6) (pa_cons (pe_call GT hr (by rfl) gF F.kp bF .nil pass0 (pa_cons (pv 0) (pa_cons (pv 1) (pa_cons (pv 2) (pa_cons (pe_op op_sub (pv 3) pe_int) pa_nil)))))
            (pa_cons (pe_call GT hr (by rfl) gF F.kp bF .nil pass0 (pa_cons (pv 0) (pa_cons (pv 1) (pa_cons (pv 2) (pa_cons (pe_op op_sub (pv 3) pe_int) pa_nil))))) pa_nil))))))))))))), ?_⟩
      refine q_asgP (Pr := fun v H1 => ∃ k : Int, v = .int k ∧ 0 ≤ k ∧ k < 9 ∧ (4 ≤ k → 0 < deep) ∧ But p H H1 ∧ PoolAt H1 p) (fun Q' hq => ?_) (fun v H1 hv => ?_)
      · refine ⟨.ref p, rfl, _, rfl, _, _, rfl, rfl, _, rfl, ite2 (fun e => ?_) (fun e => ?_)⟩
        · refine ⟨p, 9, rfl, hp, by omega, by omega, fun k H1 k0 k9 b1 hp1 fr => hq _ _ ⟨k, rfl, k0, k9, fun _ => ?_, b1, hp1⟩⟩
          have := of_decide_eq_true e
          omega
        · exact ⟨p, 4, rfl, hp, by omega, by omega, fun k H1 k0 k9 b1 hp1 fr => hq _ _ ⟨k, rfl, k0, by omega, fun _ => by omega, b1, hp1⟩⟩
      · obtain ⟨k, rfl, k0, k9, k4, b1, hp1⟩ := hv
        have leaf : ∀ (H2 : Hp) (Q2 : VK), But p H H2 → PoolAt H2 p → (∀ v H', Q v H' → Q2 v H') → ∃ (p' : Addr) (n' : Int), [V.ref p, V.int 3] = [.ref p', .int n'] ∧ PoolAt H2 p' ∧ 0 < n' ∧ n' ≤ 1000000000 ∧ ∀ (v : Int) H', 0 ≤ v → v < n' → But p' H2 H' → PoolAt H' p' → (∀ b, H2 b = none → H' b = none) → Q2 (.int v) H' :=
          fun H2 Q2 b2 hp2 hq => ⟨p, 3, rfl, hp2, by omega, by omega, fun z H3 z0 z3 b3 hp3 fr => hq _ _ (q _ (.int z) H3 (b2.trans b3) hp3 (.int z) (.val z0 z3))⟩
        refine q_seqR (fun σ' H' => σ' = [some (.ref p), some (.ref b), some (.int n), some (.int deep), some (.int k), none, none, none] ∧ But p H H' ∧ PoolAt H' p ∧ k ≠ 0 ∧ (k = 1 → n ≠ 0) ∧ ((k = 2 ∨ k = 8) → L.cells ≠ [])) (fun nx hnx => ?_) (fun σ' H2 hP => ?_)
        · refine ⟨_, rfl, rfl, _, rfl, ?_⟩
          rw [dint]
          by_cases h0 : k = 0
          · rw [decide_eq_true h0]
            exact iteT ⟨.ref p, rfl, leaf H1 _ b1 hp1 fun _ _ h => h⟩
          rw [decide_eq_false h0]
          refine iteF ⟨_, rfl, rfl, _, rfl, ?_⟩
          rw [dint]
          by_cases h1 : k = 1
          · rw [decide_eq_true h1]
            refine iteT ⟨_, rfl, rfl, _, rfl, ?_⟩
            rw [dint]
            by_cases hz : n = 0
            · rw [decide_eq_true hz]
              exact iteT ⟨.ref p, rfl, leaf H1 _ b1 hp1 fun _ _ h => h⟩
            · rw [decide_eq_false hz]
              refine iteF ⟨_, rfl, (by show 2 ≤ sizeLine; decide), fun l nl => ⟨l, _, rfl, .inl (.inl (.inl upd_same)), rfl, rfl, _, rfl, ?_⟩⟩
              rw [in_twoI, decide_eq_false (by omega)]
              exact iteF (iteF (hnx _ _ ⟨rfl, but_sameN b1 (same_upd nl), hp1.upd nl, h0, fun _ => hz, fun h => by omega⟩))
          · rw [decide_eq_false h1]
            refine iteF (iteF ⟨_, rfl, (by show 2 ≤ sizeLine; decide), fun l nl => ⟨l, _, rfl, .inl (.inl (.inl upd_same)), rfl, rfl, _, rfl, ?_⟩⟩)
            rw [in_twoI]
            by_cases h2 : k = 2 ∨ k = 8
            · rw [decide_eq_true h2]
              have b2 := but_sameN b1 (same_upd (o := .lst [.int 2, .int 8]) nl)
              have hp2 := hp1.upd (o := .lst [.int 2, .int 8]) nl
              obtain ⟨c, f', ts, gs, e0, e1, e4, r1, r2⟩ := hb.but hp b2
              refine iteT ⟨_, rfl, b, .ref c, rfl, dg e0 "cells" rfl, Nat.zero_le _, fun l2 nl2 => ?_⟩
              have s2 := same_upd (o := .lst []) nl2
              refine ⟨.list (cellsD L), .list [], .lst (.inl (.inl (s2 _ _ e1))) (dpA_same s2 (cells_dp r1)), .lst (.inl (.inl upd_same)) .nil, cells_shaped N, by decide +kernel, _, rfl, ?_⟩
              cases hcs : L.cells with
              | nil =>
                have ec : cellsD L = [] := by
                  unfold cellsD
                  rw [hcs]
                  rfl
                rw [ec, show PyData.eqv (.list []) (.list []) = true from SeqAt.eqv_refl _ (by decide +kernel)]
                exact iteT ⟨.ref p, rfl, leaf _ _ (but_sameN b2 s2) (hp2.upd nl2) fun _ _ h => h⟩
              | cons x r =>
                have ec : PyData.eqv (.list (cellsD L)) (.list []) = false := by
                  unfold cellsD
                  rw [hcs]
                  rfl
                rw [ec]
                exact iteF (hnx _ _ ⟨rfl, but_sameN b2 s2, hp2.upd nl2, h0, (fun h => absurd h h1), fun _ e => by rw [hcs] at e; cases e⟩)
            · rw [decide_eq_false h2]
              exact iteF (iteF (hnx _ _ ⟨rfl, but_sameN b1 (same_upd nl), hp1.upd nl, h0, (fun h => absurd h h1), fun h => absurd h h2⟩))
        · obtain ⟨rfl, b2, hp2, h0, hn1, hcell⟩ := hP
          clear b1 hp1
          have hb2 := hb.but hp b2
          refine ⟨_, rfl, rfl, _, rfl, ?_⟩
          rw [dint]
          by_cases h1 : k = 1
          · rw [decide_eq_true h1]
            refine iteT ⟨_, rfl, _, rfl, p, n, rfl, hp2, ?_, by omega, fun z H3 z0 zn b3 hp3 fr => ⟨(by show 2 ≤ sizeLine; decide), fun t nt => ?_⟩⟩
            · have := hn1 h1
              omega
            · exact q _ (.tuple [.str "arg", .int z]) _ (but_sameN (b2.trans b3) (same_upd nt)) (hp3.upd nt) (dpT nt (.cons (.str _) (.cons (.int _) .nil))) (.arg z0 zn)
          rw [decide_eq_false h1]
          refine iteF ⟨_, rfl, rfl, _, rfl, ?_⟩
          rw [dint]
          have cell : L.cells ≠ [] → ∀ (Q2 : VK), (∀ v d H', But p H H' → PoolAt H' p → Dp K H' v d → GdL L n (deep + 1) d → Q2 v H') → (tTup (tCons (tC (.str "cell")) (tCons (tOp (rIxT K) (tCall (spPick K) [] E0 (tCons (tVar 0) (tCons (tDGet (tVar 1) (tC (.str "cells"))) tNil))) (tC (.int 0))) tNil))) [some (.ref p), some (.ref b), some (.int n), some (.int deep), some (.int k), none, none, none] H2 Q2 := by
            intro hne Q2 hq
            obtain ⟨c, f', ts, gs, e0, e1, e4, r1, r2⟩ := hb2
            obtain ⟨x, y, ep, _⟩ := id hp2
            have l1 : 1 ≤ ts.length := by
              rw [r1.1]
              cases h : L.cells with
              | nil => exact absurd h hne
              | cons _ _ => simp
            have l8 : ts.length ≤ 8 := by rw [r1.1]; exact N.lc
            have npc : p ≠ c := fun q => by
              rw [← q, ep] at e1
              cases e1
              obtain ⟨d, _, t, e, _⟩ := r1.at (i := 0) (by show 0 < 2; decide)
              cases e
            refine ⟨_, rfl, _, rfl, b, .ref c, rfl, dg e0 "cells" rfl, p, c, ts, rfl, hp2, npc, .inl (.inl (.inl e1)), l1, Nat.le_trans l8 (by decide), fun i hi H3 b3 hp3 fr => ?_⟩
            obtain ⟨d, hd, t, et, ht⟩ := r1.at hi
            rw [et]
            exact ⟨t, _, 0, .str d.1, rfl, rfl, but_sqT ep b3 ht, atI_nat (j := 0) rfl, (by show 2 ≤ sizeLine; decide), fun l nl => hq _ (.tuple [.str "cell", .str d.1]) _ (but_sameN (b2.trans b3) (same_upd nl)) (hp3.upd nl) (dpT nl (.cons (.str _) (.cons (.str _) .nil))) (.cell (k := d.2) hd)⟩
          by_cases h2 : k = 2
          · rw [decide_eq_true h2]
            exact iteT (cell (hcell (.inl h2)) _ q)
          rw [decide_eq_false h2]
          refine iteF ⟨_, rfl, rfl, _, rfl, ?_⟩
          rw [dint]
          by_cases h8 : k = 8
          · rw [decide_eq_true h8]
            exact iteT (cell (hcell (.inr h8)) _ q)
          rw [decide_eq_false h8]
          refine iteF ⟨_, rfl, rfl, _, rfl, ?_⟩
          rw [dint]
          by_cases h3 : k = 3
          · rw [decide_eq_true h3]
            refine iteT ⟨_, rfl, p, 3, rfl, hp2, by omega, by omega, fun z H3 z0 z3 b3 hp3 fr => ⟨rfl, _, rfl, ite2 (fun _ => ⟨(by show 1 ≤ sizeLine; decide), fun t nt => ?_⟩) (fun _ => ⟨.ref p, rfl, leaf H3 _ (b2.trans b3) hp3 fun _ _ h => h⟩)⟩⟩
            exact q _ (.tuple [.str "tick"]) _ (but_sameN (b2.trans b3) (same_upd nt)) (hp3.upd nt) (dpT nt (.cons (.str _) .nil)) .tick
          rw [decide_eq_false h3]
          refine iteF ?_
          dsimp only [tNext]
          have dpos : 0 < deep := k4 (by omega)
          have dm : deep - 1 + 1 = deep := by omega
          have dcast : ((deep : Nat) : Int) - 1 = ((deep - 1 : Nat) : Int) := by omega
          have dargs : [V.ref p, V.ref b, V.int n, V.int (((deep : Nat) : Int) - 1)] = [V.ref p, V.ref b, V.int n, V.int ((deep - 1 : Nat) : Int)] := by rw [dcast]
          refine q_seqR (fun σ' H' => σ' = [some (.ref p), some (.ref b), some (.int n), some (.int deep), some (.int k), none, none, none] ∧ But p H H' ∧ PoolAt H' p ∧ LBk K L H' b) (fun nx hnx => ?_) (fun σ' H2 hP => ?_)
          · refine ⟨_, rfl, rfl, _, rfl, ?_⟩
            rw [dint]
            by_cases h4 : ¬ k = 4
            · rw [decide_eq_false h4]
              exact iteF (hnx _ _ ⟨rfl, b2, hp2, hb2⟩)
            rw [decide_eq_true (Decidable.not_not.mp h4)]
            have hb2' := hb2
            obtain ⟨c, f', ts, gs, e0, e1, e4, r1, r2⟩ := hb2
            refine iteT ⟨_, rfl, b, .ref f', rfl, dg e0 "functions" rfl, Nat.zero_le _, fun l nl => ?_⟩
            have sl : Same H2 (upd H2 l (.lst [])) := same_upd nl
            refine ⟨f', l, gs, rfl, rfl, .inl (.inl (sl _ _ e4)), .inl (.inl upd_same), _, rfl, ?_⟩
            cases hgs : gs with
            | nil => exact iteF (hnx _ _ ⟨rfl, but_sameN b2 sl, hp2.same sl, hb2'.but hp2 (But.of sl)⟩)
            | cons g0 gr =>
            refine iteT ?_
            have l1 : 1 ≤ gs.length := by rw [hgs]; simp
            have l8 : gs.length ≤ 8 := by rw [r2.1]; exact N.lf
            have b3 := but_sameN b2 sl
            have hp3 := hp2.same sl
            have npf : p ≠ f' := fun q => by
              obtain ⟨x, y, ep, _⟩ := hp2
              rw [← q, ep] at e4
              cases e4
              obtain ⟨d, _, t, _, e, _⟩ := r2.at (i := 0) (by show 0 < 2; decide)
              cases e
            have hb3 := hb2'.but hp2 (But.of sl)
            have r3 : Rows (FnD (upd H2 l (.lst []))) gs L.fns := r2.mono fun v d h => by
              obtain ⟨g, kvs, e, h, r⟩ := h
              exact ⟨g, kvs, e, sl _ _ h, r⟩
            generalize upd H2 l (.lst []) = H3 at sl b3 hp3 hb3 r3
            refine ⟨_, rfl, _, rfl, b, .ref f', rfl, dg (sl _ _ e0) "functions" rfl, p, f', gs, rfl, hp3, npf, .inl (.inl (.inl (sl _ _ e4))), l1, Nat.le_trans l8 (by decide), fun i hi H4 b4 hp4 fr => ?_⟩
            have hb4 := hb3.but hp3 b4
            obtain ⟨⟨nx, cnt⟩, hmem, g, kvs, eg, e3g, kn, km⟩ := r3.at hi
            have e4g : H4 g = some (.dK kvs) := by
              obtain ⟨x, y, ep, _⟩ := hp3
              exact b4 _ _ e3g (ne_of e3g ep (fun z => nomatch z))
            have hc := (N.f _ hmem).2
            dsimp only at hc kn km
            rw [eg]
            refine ⟨.ref g, rfl, g, .str nx, rfl, dg e4g "name" kn, .ref g, rfl, g, .int (cnt : Int), rfl, dg e4g "many" km, (cnt : Int), rfl, by omega, by omega, fun D hD => ?_⟩
            refine lc_terms (K := K) N (n := n) (f := 1) (vs := [7]) (j := 7) (D := D) (p := p) walk_range (by omega) hD hp4 (fun x => rfl)
              (fun i' x H5 H6 hi' b5 hp5 y => ⟨y.1, fun Q2 q2 => ⟨.ref p, rfl, .ref b, rfl, .int n, rfl, L, p, b, n, 0, N, rfl, hp5, hb4.but hp4 b5, hn0, hn2, by omega, fun v d H7 b7 hp7 dv gd => q2 v d H7 b7 hp7 dv gd⟩⟩)
              (fun ys ts H5 b5 hp5 e5' ha el hall => ⟨D, ys, rfl, .inl ⟨.inl (.inl e5'), fun t nt => ⟨(by show 3 ≤ sizeLine; decide), fun t2 nt2 => ?_⟩⟩⟩)
            refine q _ (.tuple [.str "call", .str nx, .tuple ts]) _ (but_sameN ((b3.trans b4).trans b5) ((same_upd nt).trans (same_upd nt2))) ((hp5.upd nt).upd nt2) (dpT nt2 (.cons (.str _) (.cons (.str _) (.cons (dpT nt ha) .nil)))) (.call (by rw [el, show ((cnt : Int)).toNat = cnt from rfl]; exact hmem) fun t ht => gdl_mono 1 deep t (hall t ht) dpos)
          clear b2 hp2 hb2
          obtain ⟨rfl, b2, hp2, hb2⟩ := hP
          refine ⟨_, rfl, rfl, _, rfl, ?_⟩
          rw [dint]
          by_cases h7 : k = 7
          · rw [decide_eq_true h7]
            refine iteT ⟨(by show 1 ≤ sizeLine; decide), fun t1 nt1 => ⟨3, rfl, by decide, by decide, fun D hD => ?_⟩⟩
            have s1 : Same H2 (upd H2 t1 (.tup [.str "if"])) := same_upd nt1
            have hp3 := hp2.upd (o := .tup [.str "if"]) nt1
            have et1 : SqT K (upd H2 t1 (.tup [.str "if"])) t1 [.str "if"] := .inl (.inl upd_same)
            refine lc_terms (K := K) N (n := n) (f := deep) (vs := [7]) (j := 7) (D := D) (p := p) (walk_range (n := 3)) (by decide) hD hp3 (fun x => rfl)
              (fun i' x H5 H6 hi' b5 hp5 y => ⟨y.1, fun Q2 q2 => ⟨.ref p, rfl, .ref b, rfl, .int n, rfl, .int deep, rfl, _, _, rfl, rfl, L, p, b, n, deep - 1, N, dargs, hp5, (hb2.but hp2 (But.of s1)).but hp3 b5, hn0, hn2, by omega, fun v d H7 b7 hp7 dv gd => q2 v d H7 b7 hp7 dv (by rw [dm] at gd; exact gd)⟩⟩)
              (fun ys ts H5 b5 hp5 e5' ha el hall => ⟨D, ys, rfl, .inl ⟨.inl (.inl e5'), fun t2 nt2 => ?_⟩⟩)
            have ely : ys.length = 3 := by rw [dpA_len ha, el]
            have et5 : SqT K H5 t1 [.str "if"] := by
              obtain ⟨x, y, ep, _⟩ := hp3
              exact but_sqT ep b5 et1
            refine ⟨t1, t2, [.str "if"], ys, rfl, rfl, same_sqT (same_upd nt2) et5, .inl (.inl upd_same), by simp, ?_, fun e => ?_, fun _ t3 nt3 => ?_⟩
            · rw [ely]
              decide
            · rw [e] at ely
              cases ely
            · exact q _ (.tuple (.str "if" :: ts)) _ (but_sameN ((but_sameN b2 s1).trans b5) ((same_upd nt2).trans (same_upd nt3))) ((hp5.upd nt2).upd nt3) (dpT nt3 (.cons (.str _) (dpA_same (same_upd nt2) ha))) (.op (.inl ⟨rfl, el⟩) hall)
          rw [decide_eq_false h7]
          refine iteF ?_
          refine ⟨.ref p, rfl, (by show 3 ≤ sizeLine; decide), fun l nl => ?_⟩
          refine ⟨p, l, _, rfl, hp2.upd nl, hp2.ne nl, .inl (.inl (.inl upd_same)), (by decide), (by decide), fun i hi H3 b3 hp3 fr => ?_⟩
          have sl : Same H2 (upd H2 l (.lst [.str "plus", .str "less", .str "same"])) := same_upd nl
          have hb3 := (hb2.but hp2 (But.of sl)).but (hp2.upd nl) b3
          have bb3 := (but_sameN b2 sl).trans b3
          obtain ⟨h, eh, hbin⟩ : ∃ h, [V.str "plus", .str "less", .str "same"][i] = .str h ∧ bin h := by
            match i, hi with
            | 0, _ => exact ⟨_, rfl, .inl rfl⟩
            | 1, _ => exact ⟨_, rfl, .inr (.inl rfl)⟩
            | 2, _ => exact ⟨_, rfl, .inr (.inr rfl)⟩
          rw [eh]
          refine ⟨.str h, rfl, .ref p, rfl, .ref b, rfl, .int n, rfl, .int deep, rfl, _, _, rfl, rfl, L, p, b, n, deep - 1, N, dargs, hp3, hb3, hn0, hn2, by omega, fun v1 d1 H4 b4 hp4 dv1 gd1 => ?_⟩
          rw [dm] at gd1
          refine ⟨.ref p, rfl, .ref b, rfl, .int n, rfl, .int deep, rfl, _, _, rfl, rfl, L, p, b, n, deep - 1, N, dargs, hp4, hb3.but hp3 b4, hn0, hn2, by omega, fun v2 d2 H5 b5 hp5 dv2 gd2 => ⟨(by show 3 ≤ sizeLine; decide), fun t nt => ?_⟩⟩
          rw [dm] at gd2
          refine q _ (.tuple [.str h, d1, d2]) _ (but_sameN ((bb3.trans b4).trans b5) (same_upd nt)) (hp5.upd nt) (dpT nt (.cons (.str _) (.cons (dp_but hp4 b5 (gd_nl _ _ (gdl_gd N _ _ gd1)) dv1) (.cons dv2 .nil)))) (.op (.inr ⟨hbin, rfl⟩) fun t ht => ?_)
          rcases List.mem_cons.mp ht with rfl | ht
          · exact gd1
          · rw [List.mem_singleton.mp ht]
            exact gd2
end
/-! ### a comprehension whose element may raise, out of a call -/
/-- what a call, made somewhere in Y, let out -/
def OutOf (Y : Cx) (E : XK) (u : Value) (t : Shared) : Prop := ∃ (pins : List (Addr × Obj)) (σ : L2.St) (H : Hp) (s : Shared), Inv Y pins σ H s ∧ L2N.CX Y.prog Y.w Y.stack H s E u t
abbrev blkX (X : Cx) (s : Shared) (H : Hp) (scope : Scope) (ce : Env) (ps : List Addr) (E : XK) : Cx := { X.blk s H scope ce ps with xe := OutOf (X.blk s H scope ce ps) E }
theorem inv_xe {Y : Cx} {e : Value → Shared → Prop} {pins : List (Addr × Obj)} {σ : L2.St} {H : Hp} {s : Shared} (I : Inv Y pins σ H s) : Inv { Y with xe := e } pins σ H s :=
  ⟨⟨I.ok.mod, I.ok.kind, I.ok.glob, I.ok.blt, I.ok.above, I.ok.inj, I.ok.has, I.ok.cab, I.ok.hd, I.ok.frames, I.ok.stk, I.ok.exf, I.ok.bs, I.ok.bsz, I.ok.noex, I.ok.exfs, I.ok.funs, I.ok.frf⟩, I.os, I.bare, I.base, I.loc, I.cell, I.free, I.freeC, I.pin, I.hok, I.len⟩
theorem pass_blk {X : Cx} {s : Shared} {H : Hp} {scope : Scope} {ce : Env} {ps : List Addr} {E : XK} : Passes (L2N.CX X.prog X.w) (blkX X s H scope ce ps E) E :=
  fun pins σ H' s' _ _ I c => ⟨pins, σ, H', s', inv_xe (e := (X.blk s H scope ce ps).xe) I, c⟩
theorem note_same {env env' : Env} (h : env.frame = env'.frame) (u : Value) : noteFrame u env = noteFrame u env' := by
  unfold noteFrame PySem.frameOf
  rw [h]
theorem frames_but {h h' B : Heap} {C : Addr} (sb : Heap.SameBut C h h') : ∀ {l : List Env}, h.FunFrames B l → C ∉ frs l → h'.FunFrames B l
  | [], _, _ => trivial
  | env :: l, ⟨k, ⟨L, o, hf, n, ho, hd⟩, r⟩, nc => ⟨k, ⟨L, o, hf, n, (sb.2 L fun z => nc (List.mem_filterMap.mpr ⟨env, List.mem_cons_self, by rw [hf, z]⟩)).trans ho, hd⟩, frames_but sb r fun m => nc (by
    obtain ⟨e, he, q⟩ := List.mem_filterMap.mp m
    exact List.mem_filterMap.mpr ⟨e, List.mem_cons_of_mem _ he, q⟩)⟩
section
variable {X : Cx} {pins : List (Addr × Obj)} {σ : L2.St} {H H' : Hp} {s t : Shared} {W : WX} {E : XK} {C a : Addr} {B B' hF : Heap} {cls : Value} {d : Option Addr}
/-- the exception, held by the def's frame, without the block's variables -/
theorem held_air (I : Inv X pins σ H s) (fC : FpOk X pins H C) (eC : ∃ o, s.heap.get? C = some o) (hok : HOk X.prog X.w H' B) (ub : UB (frs X.stack) H H' s.heap B t.heap) (os : t.os = s.os) (ag : AllBare t.gens)
    (b1 : ∀ b, b ≠ C → B'.get? b = B.get? b) (b2 : B'.get? C = none) (held : HandSPX.HeldZ B' X.stack a (L2N.Zn cls d) X.env.locals hF)
    (sl : ∀ b o, t.heap.get? b = some o → (∀ vs, o.data ≠ .fields vs) → b ≠ C → ∃ z, hF.get? b = some { o with slots := z }) (na : H' a = none) (hw : W cls d σ H') : L2N.XE X W (.ref a) { t with heap := hF } := by
  have nF : C ∉ frs X.stack := fun m => by
    rcases List.mem_cons.mp (I.stkSub C m) with e | e
    · exact fC.2.1 e
    · exact fC.2.2.1 e
  have nC' : H' C = none := by
    obtain ⟨o, e⟩ := eC
    exact ub.free C o e fC.1
  obtain ⟨st, na0, ff, tr⟩ := id held
  obtain ⟨G, g1, g2⟩ := restrict hF fun b => (B'.get? b).isSome || decide (b ∈ frs X.stack)
  have toB : ∀ {b o}, b ≠ C → B.get? b = some o → B'.get? b = some o := fun {b o} n e => by rw [b1 b n]; exact e
  have gB : ∀ b o, B'.get? b = some o → G.get? b = some o := fun b o e => by
    rw [g1 b (by simp [e])]
    exact st b o e
  have gF : ∀ b, b ∈ frs X.stack → G.get? b = hF.get? b := fun b hb => g1 b (by simp [hb])
  have og : ∀ b o, G.get? b = some o → hF.get? b = some o ∧ ((B'.get? b).isSome = true ∨ b ∈ frs X.stack) := fun b o e => by
    cases q : ((B'.get? b).isSome || decide (b ∈ frs X.stack)) with
    | false => rw [g2 b q] at e; cases e
    | true =>
      rw [g1 b q] at e
      exact ⟨e, by simpa [Bool.or_eq_true] using q⟩
  have frm : ∀ b o, s.heap.get? b = some o → b ∈ frs X.stack → ∃ z, G.get? b = some { o with slots := z } := fun b o e hb => by
    obtain ⟨z, q⟩ := ub.slot b o e hb
    obtain ⟨_, o', e', nf⟩ := I.stack.mem hb
    rw [e] at e'
    cases e'
    obtain ⟨z2, q2⟩ := sl b _ q nf fun x => nF (x ▸ hb)
    exact ⟨z2, by rw [gF b hb]; exact q2⟩
  refine ⟨a, B', { s with heap := G, gens := t.gens, drawn := t.drawn, toks := t.toks }, pins, σ, H', cls, d, rfl, ?_, fun b o e hb => ?_, Heap.UpToSlots.of_keeps fun b o e => (og b o e).1, .inr (.inr held), na, os, ag, hw⟩
  · have ne1 : ∀ {b : Addr}, b ∉ [C] → b ≠ C := fun {b} h e => h (by rw [e]; exact List.mem_singleton.mpr rfl)
    refine I.call (ch := [C]) ⟨fun b o e n hb hc => gB b o (toB (ne1 hc) (ub.keep b o e n hb)), fun b o e n hb _ => frm b o e hb, fun b o e n _ => ub.free b o e n, fun b o e hc => ?_, ub.tups, ub.frzs, ub.tbls⟩ (fun b o q => ?_) ag (fun b hb => ?_)
    · by_cases hb : b ∈ frs X.stack
      · obtain ⟨z, q⟩ := frm b o e hb
        exact ⟨_, q⟩
      · obtain ⟨o', q⟩ := ub.there b o e hb
        exact ⟨o', gB b o' (toB (ne1 hc) q)⟩
    · refine (hok b o q).stay (fun c u hc r => gB c u (toB (fun z => ?_) r)) (fun _ r => r) fun _ _ r => r
      rcases hc with hc | hc
      · rw [← hc, z, nC'] at q
        cases q
      · rw [z, nC'] at hc
        cases hc
    · rw [List.mem_singleton.mp hb]
      exact ⟨fC.2.2.2.1, fC.2.1, fC.2.2.2.2.1, fC.2.2.2.2.2⟩
  · obtain ⟨e', h⟩ := og b o e
    rcases h with h | h
    · obtain ⟨o', q⟩ := Option.isSome_iff_exists.mp h
      have z := st b o' q
      rw [e'] at z
      cases z
      exact q
    · exact absurd h hb
/-- it is noted, the block's variables go, it is passed on -/
theorem out_noted (hst : X.stack = X.env :: X.outer) (hf : X.env.frame = some X.env.locals) (tk : L2N.Takes X W) (hW : ∀ cls d σ H, E cls d H → W cls d σ H) (I : Inv X pins σ H s) (fC : FpOk X pins H C) {m : Str → Option Value} (eC : s.heap.Ns C m) {u : Value}
    (c : L2N.CX X.prog X.w X.stack H s E u t) {ce : Env} (hce : ce.frame = X.env.frame) {E₁ : Value → Shared → Prop} :
    wpAny (model X.prog X.w) X.A (noteFrame u ce) (fun _ t1 => ∃ m, t1.heap.Ns C m ∧ ∀ h2, Heap.SameBut C t1.heap h2 → wpAny (model X.prog X.w) X.A (passOn "comprehension.variables-let-go" u ce : Sem Value) (fun _ _ => False) X.xe { t1 with heap := h2 }) E₁ t := by
  obtain ⟨a, B, H', cls, d, rfl, fl, hok, ub, na, os, ag, hE⟩ := c
  have nF : C ∉ frs X.stack := fun m => by
    rcases List.mem_cons.mp (I.stkSub C m) with e | e
    · exact fC.2.1 e
    · exact fC.2.2.1 e
  rw [note_same hce]
  have hfr : X.A.frames = some (X.env :: X.outer) := by rw [I.ok.frames, hst]
  refine PXN.looks_onZ L2N.Zn.steady hfr hf (hst ▸ fl) fun h1 hh up1 => ?_
  rw [← hst] at hh
  obtain ⟨st1, na0, ff1, tr1⟩ := hh
  obtain ⟨o, es, ep, ho, r⟩ := eC
  have hB : B.get? C = some o := ub.keep C o ho fC.1 nF
  refine ⟨m, ⟨o, es, ep, st1 _ _ hB, r⟩, fun h2 sb => ?_⟩
  obtain ⟨B', p1, p2⟩ := restrict B fun b => decide (b ≠ C)
  have b1 : ∀ b, b ≠ C → B'.get? b = B.get? b := fun b n => p1 b (decide_eq_true n)
  have b2 : B'.get? C = none := p2 C (decide_eq_false fun z => z rfl)
  have no : ∀ {b}, B.get? b = none → B'.get? b = none ∧ b ≠ C := fun {b} e => by
    have n : b ≠ C := fun z => by rw [z, hB] at e; cases e
    exact ⟨by rw [b1 b n]; exact e, n⟩
  obtain ⟨oe, vs, T, oT, ts, he, hz, hd, hv, hnT, hTe, hT, hdT, h3⟩ := tr1
  have held2 : HandSPX.HeldZ B' X.stack a (L2N.Zn cls d) X.env.locals h2 := by
    refine ⟨fun b o e => ?_, (no na0).1, funFrames_none (frames_but sb ff1 nF) fun L hL => (no (ff1.mem hL).1).1, ⟨oe, vs, T, oT, ts, (sb.2 _ (no na0).2).trans he, hz, hd, hv, (no hnT).1, hTe, (sb.2 _ (no hnT).2).trans hT, hdT, h3⟩⟩
    by_cases n : b = C
    · rw [n, b2] at e
      cases e
    · rw [b1 b n] at e
      exact (sb.2 b n).trans (st1 b o e)
  unfold PySem.passOn
  refine wpAny_bind (wpAny_field ((sb.2 _ (no na0).2).trans he) hd hv ?_)
  rw [if_neg (show ¬ ((Value.ref T == Value.none) = true) from by simp), hce, hf]
  refine wpAny_bind (HandSPX.setFlight_onZ held2 fun h3' held3 up3 => wpAny_throw (tk _ _ ?_))
  refine held_air (t := t) I fC ⟨o, ho⟩ hok ub os ag b1 b2 held3 (fun b ob e nf n => ?_) na (hW _ _ _ _ hE)
  obtain ⟨z1, q1⟩ := up1 b ob e nf
  obtain ⟨z3, q3⟩ := up3 b _ ((sb.2 b n).trans q1) nf
  exact ⟨z3, q3⟩
end
/-! ### [e for x in ..], the element raising out of a call -/
def compEnd (M : Model) (A : Around) (E : Value → Shared → Prop) (Q : Value → Shared → Prop) (acc : Value) (ce : Env) (r : Result) (t : Shared) : Prop := match r with
  | .ok _ => ∃ m, t.heap.Ns ce.locals m ∧ ∀ h', Heap.SameBut ce.locals t.heap h' → Q acc { t with heap := h' }
  | .error x => ∃ m, t.heap.Ns ce.locals m ∧ ∀ h', Heap.SameBut ce.locals t.heap h' → wpAny M A (PySem.passOn "comprehension.variables-let-go" x ce : Sem Value) (fun _ _ => False) E { t with heap := h' }
theorem comp_whole {M : Model} {A : Around} {E : Value → Shared → Prop} {s : Shared} {env : Env} {e : Expr} {scope : Scope} {pos : Pos} {newAcc first : Sem Value} {c0 : Comprehension} {cs : List Comprehension} {cl : List (Str × Addr)} {Q : Value → Shared → Prop}
    (hcs : clausesOf e = c0 :: cs) (fold_ : ∀ x, foldedSetIterable c0.iter env x = pure x) (hclo : closureFor scope env = pure cl) (kind_ : scope.kind = .function) (uniq : ∀ x ∈ scope.names, x.2 = .local → scope.names.lookup x.1 = some .local)
    (h : wpAny M A first (fun x s1 => wpAny M A (pyIter x) (fun it s2 => wpAny M A newAcc (fun acc s3 => wpAny M A (newFunctionEnv scope env.globals cl [] env.qual none .none (some env)) (fun cenv s4 =>
      codeAny M A (.compStart e 0 it acc { cenv with scope := relabel scope env }) (compEnd M A E Q acc { cenv with scope := relabel scope env }) s4) E s3) E s2) E s1) E s) :
    wpAny M A (comprehension e scope env pos newAcc false first) Q E s := by
  unfold comprehension
  rw [hclo, hcs]
  have on : ∀ {α : Type} {m : Sem α} {P P' : α → Shared → Prop} {t : Shared}, wpAny M A m P E t → (∀ a t', P a t' → P' a t') → wpAny M A m P' E t := fun h k => wpAny_mono h k fun _ _ z => z
  refine wpAny_bind (on h fun x s1 h1 => wpAny_bind (wpAny_standAt (wpAny_bind (wpAny_of_eq (fold_ x) (wpAny_bind (wpAny_holding (on h1 fun it s2 h2 => wpAny_standIf (wpAny_bind (on h2 fun acc s3 h3 => wpAny_bind (wpAny_pure (wpAny_bind (on h3 fun cenv s4 h4 => ?_))))))))))))
  dsimp only
  have loc : ∀ x ∈ (scope.names.filter fun x => (x.2 == .local || x.2 == .cell) && x.1 != (".0" : Str)).reverse, x.2 = .local → Env.kindOf { cenv with scope := relabel scope env } x.1 = some .local := fun x m l =>
    lookup_relabel_local (uniq x (List.mem_filter.mp (List.mem_reverse.mp m)).1 l)
  refine wpAny_holding (wpAny_bind (wpAny_attempt (wpAny_holding (wpAny_run (codeAny_mono h4 fun r t hr => ?_)))))
  cases r with
  | ok f =>
    obtain ⟨m, ns, k⟩ := (show ∃ m, t.heap.Ns cenv.locals m ∧ ∀ h', Heap.SameBut cenv.locals t.heap h' → Q acc { t with heap := h' } from hr)
    exact wpAny_bind (wpAny_holding (wpAny_comp_letGo (cenv := { cenv with scope := relabel scope env }) kind_ _ t m loc ns fun h' _ _ sb => wpAny_pure (k h' sb)))
  | error x =>
    obtain ⟨m, ns, k⟩ := (show ∃ m, t.heap.Ns cenv.locals m ∧ ∀ h', Heap.SameBut cenv.locals t.heap h' → wpAny M A (PySem.passOn "comprehension.variables-let-go" x { cenv with scope := relabel scope env } : Sem Value) (fun _ _ => False) E { t with heap := h' } from hr)
    exact wpAny_bind (wpAny_holding (wpAny_comp_letGo (cenv := { cenv with scope := relabel scope env }) kind_ _ t m loc ns fun h' _ _ sb => wpAny_mono (k h' sb) (fun _ _ z => z.elim) fun _ _ z => z))
section
variable {X : Cx}
theorem pe_lcX {elt tg iter : Expr} {scope : Scope} {own : List (Str × Nat)} {pos : Pos} {wi : TI} {g : TG} {te : TE} {E : XK} {W : WX} (tk : L2N.Takes X W) (hW : ∀ cls d σ H, E cls d H → W cls d σ H) (hst : X.stack = X.env :: X.outer) (hf : X.env.frame = some X.env.locals)
    (hc : X.calm = true) (hN : X.N.Nodup) (hi : PI X tg iter wi) (ok : BlkOk X.N X.env.scope scope own)
    (hg : ∀ (t : Shared) (G : Hp) (C : Addr) (cl : List (Str × Addr)) (ps : List Addr), PG (X.blk t G scope (compEnvC scope cl C X.env) ps) tg g) (he : ∀ (t : Shared) (G : Hp) (C : Addr) (cl : List (Str × Addr)) (ps : List Addr), PE (blkX X t G scope (compEnvC scope cl C X.env) ps E) elt te)
    (fold_ : ∀ x, foldedSetIterable iter X.env x = pure x := by intro _; rfl) : PE X (.ListComp elt [⟨tg, iter, [], 0⟩] scope pos) (tLc wi g tYes te (own.map (·.2))) := ⟨fun pins s σ H Q I h => by
  rw [eval_ListComp]
  have caught : ∀ y ∈ scope.names, y.2 = .free → ∃ c, X.env.cells.lookup y.1 = some c := fun y m e => I.ok.has _ (ok.free y m e)
  refine comp_whole rfl fold_ (closure_ok caught) ok.kind (fun y m e => by rw [ok.uniq y m, e]) (thn (hi.run pins s σ H _ I h) fun xv s1 hx => thn hx fun itv s2 h2 => ?_)
  obtain ⟨it, ps, turn_, J, H2, rfl, I2, T, st2, f2, q⟩ := h2
  refine wpAny_newObj_type (newEnv_comp ?_) (by show 0 ≤ sizeLine; decide)
  generalize hD : s2.heap.objs.size = D
  have nD : H2 D = none := I2.hok.fresh (Nat.le_of_eq hD)
  obtain ⟨Wn, ⟨m0, w0⟩, steps⟩ := q D nD
  generalize h3 : ({ s2 with heap := s2.heap.push { cls := .type "list", data := .seq ([] : List Value).toArray } } : Shared) = s3
  have heap3 : s3.heap = s2.heap.push { cls := .type "list", data := .seq ([] : List Value).toArray } := by rw [← h3]
  have I3 : Inv X pins σ (upd H2 D (.lst [])) s3 := by
    rw [← h3]
    refine I2.laid (t' := s2.toks) (fun b o e => Heap.get?_push_of_some _ e) (Nat.le_of_eq hD) ⟨Nat.zero_le _, [], 0, .nil, ?_⟩
    rw [← hD]
    exact Heap.get?_push_size _ rfl
  have below : ∀ b ∈ ps, b < s2.heap.objs.size := fun b m => by
    obtain ⟨o, e, _⟩ := T.obj _ _ st2 b m
    exact Heap.lt_size e
  have f3 : ∀ b ∈ ps, FpOk X pins (upd H2 D (.lst [])) b ∧ b < s3.heap.objs.size := fun b m => ⟨⟨by rw [upd_ne (by rw [← hD]; exact Nat.ne_of_lt (below b m))]; exact (f2 b m).1, (f2 b m).2⟩, by
    rw [heap3, Heap.size_push]
    exact Nat.lt_succ_of_lt (below b m)⟩
  have st3 : turn_ 0 s3.heap := T.keep _ _ _ st2 fun b _ o e => by
    rw [heap3]
    exact Heap.get?_push_of_some _ e
  have I4 := block_start I3 ok hN f3
  have atG := hg s3 (upd H2 D (.lst [])) s3.heap.objs.size (cellsFrom (s3.heap.objs.size + 1) scope.names (cloFrom X.env.cells scope.names [])) ps
  have atV := he s3 (upd H2 D (.lst [])) s3.heap.objs.size (cellsFrom (s3.heap.objs.size + 1) scope.names (cloFrom X.env.cells scope.names [])) ps
  show codeAny _ _ (.compStart (.ListComp elt [⟨tg, iter, [], 0⟩] scope pos) 0 (.ref it) (.ref D) (compEnvC scope (cellsFrom (s3.heap.objs.size + 1) scope.names (cloFrom X.env.cells scope.names [])) s3.heap.objs.size X.env)) (compEnd _ _ _ _ _ (compEnvC scope (cellsFrom (s3.heap.objs.size + 1) scope.names (cloFrom X.env.cells scope.names [])) s3.heap.objs.size X.env)) { s3 with heap := pushCells (s3.heap.push { cls := .type "dict", data := .dict #[] }) scope.names }
  have none3 : ∀ b ∈ ps, (upd H2 D (.lst [])) b = none := fun b m => (f3 b m).1.1
  have ceF : (compEnvC scope (cellsFrom (s3.heap.objs.size + 1) scope.names (cloFrom X.env.cells scope.names [])) s3.heap.objs.size X.env).frame = X.env.frame := rfl
  generalize hce : compEnvC scope (cellsFrom (s3.heap.objs.size + 1) scope.names (cloFrom X.env.cells scope.names [])) s3.heap.objs.size X.env = ce at I4 atG atV ceF ⊢
  have ceL : ce.locals = s3.heap.objs.size := by rw [← hce]; rfl
  generalize hH3 : upd H2 D (.lst []) = H3 at I3 I4 atG atV w0 none3 f3
  generalize h4 : ({ s3 with heap := pushCells (s3.heap.push { cls := .type "dict", data := .dict #[] }) scope.names } : Shared) = s4 at I4 ⊢
  have st4 : turn_ 0 s4.heap := T.keep _ _ _ st3 fun b _ o e => by
    rw [← h4]
    exact pushCells_keeps _ _ _ _ (Heap.get?_push_of_some _ e)
  have fit : ∀ {τ : L2.St} {G : Hp} {t : Shared}, Inv (X.blk s3 H3 scope ce ps) [] τ G t → (∀ b ∈ ps, G b = none) → ∀ b ∈ ps, FpOk (X.blk s3 H3 scope ce ps) [] G b := fun {τ G t} J0 no b m =>
    ⟨no b m, (J0.ok.exf b m).1, J0.ok.exfs b m, .inl m, fun x c e => (J0.ok.exf b m).2 x c e, fun p mp => absurd (show p ∈ ([] : List (Addr × Obj)) ++ [] from mp) (by simp)⟩
  -- a state of the block's is one of the def's
  have back : ∀ {pp : List (Addr × Obj)} {τ : L2.St} {G : Hp} {t : Shared}, Inv (X.blk s3 H3 scope ce ps) pp τ G t → Inv X pins σ G t ∧ FpOk X pins G s3.heap.objs.size ∧ ∃ m, t.heap.Ns s3.heap.objs.size m := fun {pp τ G t} J0 => by
    have nC : G s3.heap.objs.size = none := by rw [← ceL]; exact J0.free
    obtain ⟨mm, ns, _⟩ := J0.loc
    have ns : t.heap.Ns ce.locals mm := ns
    rw [ceL] at ns
    exact ⟨I3.call' (ch := ps) J0.os J0.base J0.hok J0.bare fun b m => ⟨(f3 b m).1.2.2.2.1, (f3 b m).1.2.1, (f3 b m).1.2.2.2.2.1, (f3 b m).1.2.2.2.2.2⟩, I3.fpOk (Nat.le_refl _) nC, mm, ns⟩
  refine codeAny_compStart_list ?loop (T.self X.A 0 _ _ _ st4 ?loop)
  refine compLoop_any (fun n t => ∃ i G, Inv (X.blk s3 H3 scope ce ps) [] (wipe σ (own.map (·.2))) G t ∧ turn_ i t.heap ∧ (∀ b ∈ ps, G b = none) ∧ Wn i n G) ?_ m0 ⟨0, H3, I4, st4, none3, w0⟩
  rintro n s5 ⟨i, H5, I5, st5, n5, w5⟩
  rcases steps i n H5 w5 with ⟨stop, fin⟩ | ⟨go, Next, hNext, step⟩
  · refine thnF (T.done (X.blk s3 H3 scope ce ps) rfl rfl rfl hc i [] s5 _ H5 (fun _ _ => False) I5 (fit I5 n5) st5 stop) fun r s6 z => ?_
    obtain ⟨rfl, I6⟩ := z
    obtain ⟨I7, ⟨f0, f1, f2', f3', f4, f5⟩, mm, ns⟩ := back I6
    refine ⟨mm, by rw [ceL]; exact ns, fun h'' sb => ?_⟩
    rw [ceL] at sb
    exact ⟨.ref D, H5, I7.turned (t' := s6.toks) (fun b o nb e => (sb.2 b nb).trans e) f0 f1 f3' f4 f5, rfl, fin⟩
  · refine thnF (T.item (X.blk s3 H3 scope ce ps) rfl rfl rfl hc i [] s5 _ H5 (fun _ _ => False) I5 (fit I5 n5) st5 go) fun r s6 z => ?_
    obtain ⟨u, rfl, h6⟩ := z
    refine thnF h6 fun _ s7 z => ?_
    obtain ⟨x, H7, I7, r7, y7, st7, n7⟩ := z
    refine thnF (atG.run _ s7 _ H7 x u _ (I7.pinned (fit I7 n7) (T.obj _ _ st7)) r7 (step x H7 y7)) fun _ s8 z => ?_
    obtain ⟨σ8, H8, I8, hw8, q8⟩ := z
    rw [List.forIn_nil]
    refine wpAny_pure ?_
    rw [if_pos (rfl : true = true)]
    have q8 : te σ8 H8 _ := q8
    refine wpAny_mono (atV.run _ s8 σ8 H8 _ (inv_xe I8) q8) (fun yv s9 z => ?_) fun e t z => ?_
    · obtain ⟨y, H9, I9, r9, acc, eD, few, nx⟩ := z
      have I9 : Inv (X.blk s3 H3 scope ce ps) _ σ8 H9 s9 := inv_xe (e := (X.blk s3 H3 scope ce ps).xe) I9
      refine wpAny_mono (app_ok (X := X.blk s3 H3 scope ce ps) I9 eD few r9 fun s10 I10 => ?_) (fun _ _ z => z) fun _ _ z => False.elim z
      obtain ⟨m', lt, w'⟩ := hNext _ nx
      have kept : ∀ c ∈ ps, ∀ o, s7.heap.get? c = some o → s10.heap.get? c = some o ∧ upd H9 D (.lst (acc ++ [y])) c = none := fun c m o e =>
        let z := I10.pin (c, o) (List.mem_append_right _ (List.mem_append_right _ (mem_pinsAt m e)))
        ⟨z.1, z.2.1⟩
      have sl : (wipe σ (own.map (·.2))).length = σ8.length := by rw [← hw8, wipe_length]
      refine ⟨m', lt, i + 1, _, (I10.unpinned (pins := [])).weak sl (fun j v e => ?_), T.keep _ _ _ st7 fun c m o e => (kept c m o e).1, fun c m => ?_, w'⟩
      · rw [← hw8] at e
        exact (wipe_some e).1
      · obtain ⟨o, e, _⟩ := T.obj _ _ st7 c m
        exact (kept c m o e).2
    · obtain ⟨pp, τ, G, t0, J0, c⟩ := z
      obtain ⟨I7, fC, mm, ns⟩ := back J0
      refine wpAny_mono (out_noted (E₁ := fun _ _ => False) hst hf tk hW I7 fC ns c ceF) (fun _ t1 z => ?_) fun _ _ z => False.elim z
      show ∃ m, t1.heap.Ns ce.locals m ∧ _
      rw [ceL]
      exact z⟩
end
section
variable {P : Program} {w : World} {K : PySem.W.Frag} {mg : Str → Option Value} {base : Heap}
/-- a def that may raise, its exceptions without a context -/
theorem Fun.okN {x qual : Str} {st : Stmt} {f : Addr} {fd : FuncData} {N ps : List Str} {k : Nat} {sp : Sp} (F : Fun K x qual st f fd) (S : FnScope N ps (defScope st)) (len : ∀ vs H Q E, sp vs H Q E → vs.length = ps.length)
    (body : ∀ (cdv : Value) (A : Around) (outer : List Env) (s : Shared) (H : Hp) (vs : List V) (Q : VK) (E : XK), Room k (A.deeper (envOfC qual (defScope st) s.heap.objs.size f cdv)) → sp vs H Q E →
      ∃ t, PSs (cxOf (L2N.CX P w) P w K mg base N qual (defScope st) f cdv A outer s H E) (defBody st) t ∧ t { nx := fun _ H' => Q .non H', rt := Q } (start N vs) H) : FnOk P w K mg base (L2N.CX P w) (k + 1) f fd ps sp := by
  obtain ⟨oc, od, kV, doc, pm, an, cdv, ct, osl, rfl, lk, hcd⟩ := F.ex
  exact fn_of lk hcd S len fun A outer s H vs Q E hr hsp => body cdv A outer s H vs Q E hr hsp
end
/-! ### words of terms, and terms of words -/
def dig (w : Str) : Option Nat := if w = "0" then some 0 else if w = "1" then some 1 else if w = "2" then some 2 else none
def figW : Nat → Str
  | 0 => "0"
  | 1 => "1"
  | _ => "2"
theorem dig_fig {k : Nat} (h : k < 3) : dig (figW k) = some k := by
  rcases (show k = 0 ∨ k = 1 ∨ k = 2 by omega) with rfl | rfl | rfl <;> decide +kernel
theorem fig_dig {w : Str} {k : Nat} (h : dig w = some k) : k < 3 ∧ w = figW k := by
  unfold dig at h
  by_cases h0 : w = "0"
  · rw [if_pos h0] at h
    cases h
    exact ⟨by decide, h0⟩
  rw [if_neg h0] at h
  by_cases h1 : w = "1"
  · rw [if_pos h1] at h
    cases h
    exact ⟨by decide, h1⟩
  rw [if_neg h1] at h
  by_cases h2 : w = "2"
  · rw [if_pos h2] at h
    cases h
    exact ⟨by decide, h2⟩
  rw [if_neg h2] at h
  cases h
/-- how many parts a word's term has -/
def opN (w : Str) : Option Nat := if w = "tick" then some 0 else if w = "plus" then some 2 else if w = "less" then some 2 else if w = "same" then some 2 else if w = "if" then some 3 else none
abbrev Take := List Str → Option (PyData × List Str)
def takeN (p : Take) : Nat → List Str → Option (List PyData × List Str)
  | 0, ws => some ([], ws)
  | k + 1, ws => (p ws).bind fun q => (takeN p k q.2).map fun r => (q.1 :: r.1, r.2)
def takeT (n : Nat) : Nat → Take
  | 0, _ => none
  | _ + 1, [] => none
  | f + 1, w :: ws => match dig w with
    | some k => some (.int (k : Nat), ws)
    | none =>
      if w = "arg" then match ws with
        | [] => none
        | v :: ws => match dig v with
          | some k => if k < n then some (.tuple [.str w, .int (k : Nat)], ws) else none
          | none => none
      else if w = "cell" then match ws with
        | [] => none
        | v :: ws => if isName (.str v) = true then some (.tuple [.str w, .str v], ws) else none
      else if w = "call" then match ws with
        | v :: c :: ws => if isName (.str v) = true then match dig c with
            | some k => (takeN (takeT n f) k ws).map fun r => (.tuple [.str w, .str v, .tuple r.1], r.2)
            | none => none
          else none
        | _ => none
      else match opN w with
        | some k => (takeN (takeT n f) k ws).map fun r => (.tuple (.str w :: r.1), r.2)
        | none => none
/-- the terms that words write -/
def okT (n : Nat) : Nat → PyData → Prop
  | 0, _ => False
  | f + 1, d => (∃ k, k < 3 ∧ d = .int (k : Nat)) ∨ (∃ k, k < n ∧ k < 3 ∧ d = .tuple [.str "arg", .int (k : Nat)]) ∨ (∃ z, isName (.str z) = true ∧ d = .tuple [.str "cell", .str z]) ∨
    (∃ z ds, isName (.str z) = true ∧ ds.length < 3 ∧ (∀ x ∈ ds, okT n f x) ∧ d = .tuple [.str "call", .str z, .tuple ds]) ∨ ∃ w ds, opN w = some ds.length ∧ (∀ x ∈ ds, okT n f x) ∧ d = .tuple (.str w :: ds)
def wordsT : Nat → PyData → List Str
  | f + 1, .tuple (.str w :: ds) =>
    if w = "arg" then match ds with
      | [.int k] => [w, figW k.toNat]
      | _ => [w]
    else if w = "cell" then match ds with
      | [.str z] => [w, z]
      | _ => [w]
    else if w = "call" then match ds with
      | [.str z, .tuple es] => w :: z :: figW es.length :: es.flatMap (wordsT f)
      | _ => [w]
    else w :: ds.flatMap (wordsT f)
  | _, .int k => [figW k.toNat]
  | _, _ => []
theorem opN_ne {w : Str} {k : Nat} (h : opN w = some k) : w ≠ "arg" ∧ w ≠ "cell" ∧ w ≠ "call" ∧ dig w = none := by
  have no : ∀ {z : Str}, opN z = none → w ≠ z := fun {z} e q => by rw [q, e] at h; cases h
  refine ⟨no (by decide +kernel), no (by decide +kernel), no (by decide +kernel), ?_⟩
  unfold dig
  rw [if_neg (no (by decide +kernel)), if_neg (no (by decide +kernel)), if_neg (no (by decide +kernel))]
theorem takeN_sound {p : Take} {wf : PyData → List Str} {ok : PyData → Prop} (h : ∀ ws d r, p ws = some (d, r) → ws = wf d ++ r ∧ ok d) : ∀ {k : Nat} {ws : List Str} {ds : List PyData} {r : List Str}, takeN p k ws = some (ds, r) → ws = ds.flatMap wf ++ r ∧ ds.length = k ∧ ∀ x ∈ ds, ok x
  | 0, ws, ds, r, e => by
    cases e
    exact ⟨rfl, rfl, fun x m => by cases m⟩
  | k + 1, ws, ds, r, e => by
    obtain ⟨⟨d, r1⟩, e1, e2⟩ := Option.bind_eq_some_iff.mp (show (p ws).bind _ = _ from e)
    obtain ⟨⟨es, r2⟩, e3, e4⟩ := Option.map_eq_some_iff.mp e2
    cases e4
    obtain ⟨h1, h2⟩ := h ws d r1 e1
    obtain ⟨h3, h4, h5⟩ := takeN_sound h (show takeN p k r1 = some (es, r2) from e3)
    refine ⟨?_, by rw [List.length_cons, h4], fun x m => ?_⟩
    · rw [List.flatMap_cons, List.append_assoc, ← h3]
      exact h1
    · rcases List.mem_cons.mp m with rfl | m
      · exact h2
      · exact h5 x m
theorem takeN_whole {p : Take} {wf : PyData → List Str} {ok : PyData → Prop} (h : ∀ d r, ok d → p (wf d ++ r) = some (d, r)) : ∀ {ds : List PyData} {r : List Str}, (∀ x ∈ ds, ok x) → takeN p ds.length (ds.flatMap wf ++ r) = some (ds, r)
  | [], r, _ => rfl
  | d :: ds, r, o => by
    show (p ((d :: ds).flatMap wf ++ r)).bind _ = _
    rw [List.flatMap_cons, List.append_assoc, h d _ (o d List.mem_cons_self)]
    show (takeN p ds.length (ds.flatMap wf ++ r)).map _ = _
    rw [takeN_whole h fun x m => o x (List.mem_cons_of_mem _ m)]
    rfl
theorem takeT_sound (n : Nat) : ∀ (f : Nat) (ws : List Str) (d : PyData) (r : List Str), takeT n f ws = some (d, r) → ws = wordsT f d ++ r ∧ okT n f d
  | 0, _, _, _, e => by cases e
  | _ + 1, [], _, _, e => by cases e
  | f + 1, w :: ws, d, r, e => by
    have ih := takeT_sound n f
    unfold takeT at e
    cases hd : dig w with
    | some k =>
      rw [hd] at e
      cases e
      obtain ⟨k3, rfl⟩ := fig_dig hd
      exact ⟨rfl, .inl ⟨k, k3, rfl⟩⟩
    | none =>
      rw [hd] at e
      dsimp only at e
      by_cases h1 : w = "arg"
      · subst h1
        rw [if_pos rfl] at e
        cases ws with
        | nil => cases e
        | cons v ws =>
          dsimp only at e
          cases hv : dig v with
          | none => rw [hv] at e; cases e
          | some k =>
            rw [hv] at e
            dsimp only at e
            by_cases hk : k < n
            · rw [if_pos hk] at e
              cases e
              obtain ⟨k3, rfl⟩ := fig_dig hv
              exact ⟨rfl, .inr (.inl ⟨k, hk, k3, rfl⟩)⟩
            · rw [if_neg hk] at e
              cases e
      rw [if_neg h1] at e
      by_cases h2 : w = "cell"
      · subst h2
        rw [if_pos rfl] at e
        cases ws with
        | nil => cases e
        | cons v ws =>
          dsimp only at e
          by_cases hv : isName (.str v) = true
          · rw [if_pos hv] at e
            cases e
            exact ⟨rfl, .inr (.inr (.inl ⟨v, hv, rfl⟩))⟩
          · rw [if_neg hv] at e
            cases e
      rw [if_neg h2] at e
      by_cases h3 : w = "call"
      · subst h3
        rw [if_pos rfl] at e
        match ws, e with
        | [], e => cases e
        | [_], e => cases e
        | v :: c :: ws, e =>
          dsimp only at e
          by_cases hv : isName (.str v) = true
          · rw [if_pos hv] at e
            cases hc : dig c with
            | none => rw [hc] at e; cases e
            | some k =>
              rw [hc] at e
              obtain ⟨⟨ds, r1⟩, e1, e2⟩ := Option.map_eq_some_iff.mp e
              cases e2
              obtain ⟨k3, rfl⟩ := fig_dig hc
              obtain ⟨q1, q2, q3⟩ := takeN_sound ih e1
              subst q2
              refine ⟨?_, .inr (.inr (.inr (.inl ⟨v, ds, hv, k3, q3, rfl⟩)))⟩
              show _ = ("call" : Str) :: v :: figW ds.length :: ds.flatMap (wordsT f) ++ r1
              rw [q1]
              rfl
          · rw [if_neg hv] at e
            cases e
      rw [if_neg h3] at e
      cases ho : opN w with
      | none => rw [ho] at e; cases e
      | some k =>
        rw [ho] at e
        obtain ⟨⟨ds, r1⟩, e1, e2⟩ := Option.map_eq_some_iff.mp e
        cases e2
        obtain ⟨q1, q2, q3⟩ := takeN_sound ih e1
        subst q2
        refine ⟨?_, .inr (.inr (.inr (.inr ⟨w, ds, ho, q3, rfl⟩)))⟩
        show _ = (if w = "arg" then _ else if w = "cell" then _ else if w = "call" then _ else w :: ds.flatMap (wordsT f)) ++ r1
        rw [if_neg h1, if_neg h2, if_neg h3, q1]
        rfl
theorem takeT_whole (n : Nat) : ∀ (f : Nat) (d : PyData) (r : List Str), okT n f d → takeT n f (wordsT f d ++ r) = some (d, r)
  | 0, _, _, h => False.elim h
  | f + 1, d, r, h => by
    have ih := takeT_whole n f
    rcases h with ⟨k, k3, rfl⟩ | ⟨k, kn, k3, rfl⟩ | ⟨z, hz, rfl⟩ | ⟨z, ds, hz, l3, o, rfl⟩ | ⟨w, ds, ho, o, rfl⟩
    · show takeT n (f + 1) (figW k :: r) = _
      unfold takeT
      rw [dig_fig k3]
    · show takeT n (f + 1) ("arg" :: figW k :: r) = _
      unfold takeT
      rw [show dig "arg" = none by decide +kernel]
      dsimp only
      rw [if_pos rfl, dig_fig k3]
      dsimp only
      rw [if_pos kn]
    · show takeT n (f + 1) ("cell" :: z :: r) = _
      unfold takeT
      rw [show dig "cell" = none by decide +kernel]
      dsimp only
      rw [if_neg (by decide +kernel), if_pos rfl, if_pos hz]
    · show takeT n (f + 1) ("call" :: z :: figW ds.length :: (ds.flatMap (wordsT f) ++ r)) = _
      unfold takeT
      rw [show dig "call" = none by decide +kernel]
      dsimp only
      rw [if_neg (by decide +kernel), if_neg (by decide +kernel), if_pos rfl, if_pos hz, dig_fig l3]
      dsimp only
      rw [takeN_whole ih o]
      rfl
    · obtain ⟨h1, h2, h3, hd⟩ := opN_ne ho
      have ew : wordsT (f + 1) (.tuple (.str w :: ds)) = w :: ds.flatMap (wordsT f) := by
        show (if w = "arg" then _ else if w = "cell" then _ else if w = "call" then _ else w :: ds.flatMap (wordsT f)) = _
        rw [if_neg h1, if_neg h2, if_neg h3]
      rw [ew]
      show takeT n (f + 1) (w :: (ds.flatMap (wordsT f) ++ r)) = _
      unfold takeT
      rw [hd]
      dsimp only
      rw [if_neg h1, if_neg h2, if_neg h3, ho]
      dsimp only
      rw [takeN_whole ih o]
      rfl
/-! ### Words -/
abbrev sWI : Stmt := inClass (topS 23) 0
theorem scWI : FnScope ["self", "row"] ["self", "row"] (defScope sWI) := ⟨rfl, rfl, rfl, by decide +kernel, rfl, by decide +kernel, by decide +kernel⟩
abbrev sTk : Stmt := inClass (topS 23) 1
theorem scTk : FnScope ["self"] ["self"] (defScope sTk) := ⟨rfl, rfl, rfl, by decide +kernel, rfl, by decide +kernel, by decide +kernel⟩
abbrev sTo : Stmt := inClass (topS 23) 2
theorem scTo : FnScope ["self", "words", "word"] ["self", "words"] (defScope sTo) := ⟨rfl, rfl, rfl, by decide +kernel, rfl, by decide +kernel, by decide +kernel⟩
abbrev sTn : Stmt := inClass (topS 23) 3
theorem scTn : FnScope ["self", "word"] ["self"] (defScope sTn) := ⟨rfl, rfl, rfl, by decide +kernel, rfl, by decide +kernel, by decide +kernel⟩
abbrev sTf : Stmt := inClass (topS 23) 4
theorem scTf : FnScope ["self", "many"] ["self", "many"] (defScope sTf) := ⟨rfl, rfl, rfl, by decide +kernel, rfl, by decide +kernel, by decide +kernel⟩
abbrev sWE : Stmt := inClass (topS 23) 7
theorem scWE : FnScope ["self"] ["self"] (defScope sWE) := ⟨rfl, rfl, rfl, by decide +kernel, rfl, by decide +kernel, by decide +kernel⟩
theorem but_new_same {H H1 H2 : Hp} {x : Addr} (s : Same H H1) (nx : H x = none) (b : But x H1 H2) : Same H H2 := fun a o e => b a o (s a o e) (ne_of_none e nx)
theorem iteT' {c : Bool} {A B : Prop} (hc : c = true) (h : A) : if c = true then A else B := by
  subst hc
  exact iteT h
theorem iteF' {c : Bool} {A B : Prop} (hc : c = false) (h : B) : if c = true then A else B := by
  subst hc
  exact iteF h
structure WdK (K : PySem.W.Frag) (CW : Addr) : Prop where
  cl : Cls K CW
  n1 : NoAttr K CW "_left"
/-- NoForm, a class without an __init__ of its own -/
structure NfK (K : PySem.W.Frag) (mg : Str → Option Value) (CN : Addr) : Prop where
  q : PySem.W.excIn K CN [.type "Exception", .type "BaseException", .type "object"] "Exception.__new__" = true
  g : mg "NoForm" = some (.ref CN)
  k : PySem.W.keepIn K (.ref CN) = true
  sub : PySem.W.subIn K (.ref CN) (.type "BaseException") = some true
  ty : PySem.W.typeIn K (.ref CN) = some (.type "type")
/-- the words that are left -/
def WAt (H : Hp) (CW a l : Addr) (ws : List Str) : Prop := ∃ dx, H a = some (.ins CW dx [("_left", .ref l)]) ∧ H l = some (.lst (ws.reverse.map V.str)) ∧ ∀ w ∈ ws, w.length ≤ 1000
theorem WAt.but {H H' : Hp} {CW a l : Addr} {ws ws' : List Str} (h : WAt H CW a l ws) (b : But l H H') (e : H' l = some (.lst (ws'.reverse.map V.str))) (k : ∀ w ∈ ws', w.length ≤ 1000) : WAt H' CW a l ws' := by
  obtain ⟨dx, ea, el, _⟩ := h
  exact ⟨dx, b _ _ ea (ne_of ea el (fun z => nomatch z)), e, k⟩
theorem WAt.same {H H' : Hp} {CW a l : Addr} {ws : List Str} (h : WAt H CW a l ws) (s : Same H H') : WAt H' CW a l ws := by
  obtain ⟨dx, ea, el, k⟩ := h
  exact ⟨dx, s _ _ ea, s _ _ el, k⟩
def blank : Str := " "
def spWdI (CW : Addr) : Sp := fun vs H Q _ => ∃ (a dx : Addr) (z : Str) (H0 : Hp), vs = [.ref a, .str z] ∧ H a = some (.ins CW dx []) ∧ Same H0 H ∧ H0 a = none ∧ z.length + 2 ≤ sizeLine ∧ (∀ w ∈ Txt.split z blank, w.length ≤ 1000) ∧ ∀ l H', Same H0 H' → H0 l = none → l ≠ a → WAt H' CW a l (Txt.split z blank) → Q .non H'
/-- the next word, if it is fit -/
def spTake (CW CN : Addr) : Sp := fun vs H Q E => ∃ (a l : Addr) (ws : List Str), vs = [.ref a] ∧ WAt H CW a l ws ∧ ((∃ w r, ws = w :: r ∧ ∀ H', But l H H' → WAt H' CW a l r → Q (.str w) H') ∨ (ws = [] ∧ E (.ref CN) none H))
/-- an exception behind writes to the list of words alone -/
def Ex (E : XK) (CN l : Addr) (H : Hp) : Prop := ∀ H', But l H H' → E (.ref CN) none H'
def spTakeN (CW CN : Addr) : Sp := fun vs H Q E => ∃ (a l : Addr) (ws : List Str), vs = [.ref a] ∧ WAt H CW a l ws ∧ ((∃ w r, ws = w :: r ∧ isName (.str w) = true ∧ ∀ H', But l H H' → WAt H' CW a l r → Q (.str w) H') ∨ ((∀ w r, ws = w :: r → isName (.str w) = false) ∧ Ex E CN l H))
def spTakeO (K : PySem.W.Frag) (CW CN : Addr) : Sp := fun vs H Q E => ∃ (a l t : Addr) (ws ys : List Str), vs = [.ref a, .ref t] ∧ WAt H CW a l ws ∧ SqT K H t (ys.map V.str) ∧ ((∃ w r, ws = w :: r ∧ w ∈ ys ∧ ∀ H', But l H H' → WAt H' CW a l r → Q (.str w) H') ∨ ((∀ w r, ws = w :: r → w ∉ ys) ∧ Ex E CN l H))
def spWdE (CW CN : Addr) : Sp := fun vs H Q E => ∃ (a l : Addr) (ws : List Str), vs = [.ref a] ∧ WAt H CW a l ws ∧ ((ws = [] ∧ Q .non H) ∨ (ws ≠ [] ∧ E (.ref CN) none H))
section
variable {P : Program} {w : World} {K : PySem.W.Frag} {mg : Str → Option Value} {base : Heap}
theorem ok_wdI {CW f : Addr} {fd : FuncData} (F0 : Fun K "__init__" "Words.__init__" sWI f fd) (WK : WdK K CW) : FnOk P w K mg base CX0 1 f fd ["self", "row"] (spWdI CW) := by
  refine F0.ok scWI (fun vs H Q E h => ?_) (fun cdv A outer s H vs Q E hr h => ?_)
  · obtain ⟨a, dx, z, H0, rfl, _⟩ := h
    rfl
  · obtain ⟨a, dx, z, H0, rfl, ea, s0, na, hz, lw, q⟩ := h
    refine ⟨_, pss_one (ps_fld (pv 0) (pe_revL (pe_m1 PySem.F.slot_str_split PySem.F.type_str_split mt_split (pv 1) pe_str)) (by rfl)), ?_⟩
    refine ⟨.str z, rfl, ⟨z, rfl⟩, z, _, rfl, rfl, by decide +kernel, hz, fun p np => ⟨p, _, rfl, .inl (.inl upd_same), fun l nl => ⟨.ref a, rfl, a, CW, dx, [], rfl, ?_, WK.cl, WK.n1, (by decide), ?_⟩⟩⟩
    · exact same_upd nl _ _ (same_upd np _ _ ea)
    · have s1 := (same_upd (o := HO.lst ((Txt.split z " ").map V.str)) np).trans (same_upd (o := HO.lst ((Txt.split z " ").map V.str).reverse) nl)
      have ea1 := s1 _ _ ea
      have nla : l ≠ a := (ne_of_none (same_upd np _ _ ea) nl).symm
      refine q l _ (but_new_same (s0.trans s1) na But.upd) (s0.free ((same_upd np).free nl)) nla ⟨dx, upd_same, ?_⟩
      refine ⟨?_, lw⟩
      rw [upd_ne nla, upd_same, List.map_reverse]
      rfl
theorem ok_take {CW CN f : Addr} {fd : FuncData} (F0 : Fun K "take" "Words.take" sTk f fd) (M : Blt mg) (WK : WdK K CW) (N : NfK K mg CN) : FnOk P w K mg base (L2N.CX P w) 1 f fd ["self"] (spTake CW CN) := by
  refine Fun.okN F0 scTk (fun vs H Q E h => ?_) (fun cdv A outer s H vs Q E hr h => ?_)
  · obtain ⟨a, l, ws, rfl, _⟩ := h
    rfl
  · obtain ⟨a, l, ws, rfl, ⟨dx, ea, el, lw⟩, h⟩ := h
    refine ⟨_, pss_cons (ps_if (pt_cmpR op_eq (pe_callB call_len_seq (by rfl) M.len PySem.boot_len (pa_cons (pe_fld (pv 0) (by rfl)) pa_nil)) pe_int (nomark _)) (pss_one (L2N.ps_raise rfl (L2N.takes_of rfl rfl rfl rfl) (L2N.pmk_own PySem.F.excBase_Exception N.q N.g N.k (raises_own N.sub N.ty) (by rfl)))) pss_nil)
      (pss_one (ps_ret (pe_bm0 PySem.F.plainAttrs_list PySem.F.slot_list_pop PySem.F.type_list_pop mt_pop (pe_fld (pv 0) (by rfl))))), ?_⟩
    refine ⟨.ref a, rfl, a, CW, dx, _, .ref l, rfl, ea, WK.cl, WK.n1, rfl, l, _, rfl, .inl (.inl (.inl el)), rfl, _, rfl, ?_⟩
    rw [List.length_map, List.length_reverse, dint]
    rcases h with ⟨w, r, rfl, q⟩ | ⟨rfl, q⟩
    · refine iteF' (decide_eq_false (by rw [List.length_cons]; omega)) ?_
      dsimp only [tNext]
      refine ⟨.ref a, rfl, a, CW, dx, _, .ref l, rfl, ea, WK.cl, WK.n1, rfl, .inl ⟨rfl, _, .inl (.inl el)⟩, l, _, .str w, rfl, rfl, el, ?_, ?_⟩
      · rw [List.reverse_cons, List.map_append]
        simp
      · have nla : a ≠ l := ne_of ea el (fun z => nomatch z)
        refine q _ But.upd ⟨dx, by rw [upd_ne nla]; exact ea, ?_, fun x m => lw x (List.mem_cons_of_mem _ m)⟩
        rw [upd_same, List.reverse_cons, List.map_append]
        simp
    · exact iteT q
theorem ok_wdE {CW CN f : Addr} {fd : FuncData} (F0 : Fun K "end" "Words.end" sWE f fd) (M : Blt mg) (WK : WdK K CW) (N : NfK K mg CN) : FnOk P w K mg base (L2N.CX P w) 1 f fd ["self"] (spWdE CW CN) := by
  refine Fun.okN F0 scWE (fun vs H Q E h => ?_) (fun cdv A outer s H vs Q E hr h => ?_)
  · obtain ⟨a, l, ws, rfl, _⟩ := h
    rfl
  · obtain ⟨a, l, ws, rfl, ⟨dx, ea, el, lw⟩, h⟩ := h
    refine ⟨_, pss_one (ps_if (pt_cmpR op_gt (pe_callB call_len_seq (by rfl) M.len PySem.boot_len (pa_cons (pe_fld (pv 0) (by rfl)) pa_nil)) pe_int (nomark _)) (pss_one (L2N.ps_raise rfl (L2N.takes_of rfl rfl rfl rfl) (L2N.pmk_own PySem.F.excBase_Exception N.q N.g N.k (raises_own N.sub N.ty) (by rfl)))) pss_nil), ?_⟩
    refine ⟨.ref a, rfl, a, CW, dx, _, .ref l, rfl, ea, WK.cl, WK.n1, rfl, l, _, rfl, .inl (.inl (.inl el)), _, _, rfl, rfl, _, rfl, ?_⟩
    rw [List.length_map, List.length_reverse]
    rcases h with ⟨rfl, q⟩ | ⟨n, q⟩
    · exact iteF' (decide_eq_false (by decide)) q
    · exact iteT' (decide_eq_true (by
        have := List.length_pos_iff.mpr n
        omega)) q
theorem ok_takeN {CW CN f fT fN : Addr} {fd dT dN : FuncData} (F0 : Fun K "take_name" "Words.take_name" sTn f fd) (WK : WdK K CW) (N : NfK K mg CN) (GT : FnOk P w K mg base (L2N.CX P w) 1 fT dT ["self"] (spTake CW CN)) (mT : Meth K CW "take" fT) (bT : Binds K dT ["self"] [])
    (GN : FnOk P w K mg base CX0 2 fN dN ["value"] (spB K isName)) (kN : PySem.W.keepIn K (.ref fN) = true) (bN : Binds K dN ["value"] []) (gN : mg "is_name" = some (.ref fN)) : FnOk P w K mg base (L2N.CX P w) 3 f fd ["self"] (spTakeN CW CN) := by
  refine Fun.okN F0 scTn (fun vs H Q E h => ?_) (fun cdv A outer s H vs Q E hr h => ?_)
  · obtain ⟨a, l, ws, rfl, _⟩ := h
    rfl
  · obtain ⟨a, l, ws, rfl, hW, h⟩ := h
    refine ⟨_, pss_cons (ps_set (i := 1) scTn.nd rfl (.inl rfl) (pe_meth0 (E := E) (pv 0) WK.cl mT GT (hr.mono (by decide)) bT .nil (L2N.passes_call (L2N.takes_of rfl rfl rfl rfl) (fun _ _ _ _ h => h))))
      (pss_cons (ps_if (pt_not (pt_val (pe_call (E := E0) GN hr (by rfl) gN kN bN .nil pass0 (pa_cons (pv 1) pa_nil)))) (pss_one (L2N.ps_raise rfl (L2N.takes_of rfl rfl rfl rfl) (L2N.pmk_own PySem.F.excBase_Exception N.q N.g N.k (raises_own N.sub N.ty) (by rfl)))) pss_nil)
      (pss_one (ps_ret (pv 1)))), ?_⟩
    obtain ⟨dx, ea, el, lw⟩ := id hW
    refine ⟨.ref a, rfl, a, dx, _, rfl, ea, rfl, a, l, ws, rfl, hW, ?_⟩
    cases ws with
    | nil =>
      rcases h with ⟨w, r, e, _⟩ | ⟨_, q⟩
      · cases e
      · exact .inr ⟨rfl, q H (But.refl _ _)⟩
    | cons w r =>
      refine .inl ⟨w, r, rfl, fun H1 b1 hW1 => ?_⟩
      dsimp only [gName, List.set]
      refine ⟨.str w, rfl, .str w, .str w, rfl, .str _, decide_eq_true (lw w List.mem_cons_self), fun H2 s2 => ⟨_, rfl, ?_⟩⟩
      rcases h with ⟨w', r', e, hn, q⟩ | ⟨no, q⟩
      · cases e
        rw [hn]
        exact iteF ⟨.str w, rfl, q H2 (b1.trans (But.of s2)) (hW1.same s2)⟩
      · rw [no w r rfl]
        exact iteT (q H2 (b1.trans (But.of s2)))
theorem ok_takeO {CW CN f fT : Addr} {fd dT : FuncData} (F0 : Fun K "take_one_of" "Words.take_one_of" sTo f fd) (WK : WdK K CW) (N : NfK K mg CN) (GT : FnOk P w K mg base (L2N.CX P w) 1 fT dT ["self"] (spTake CW CN)) (mT : Meth K CW "take" fT) (bT : Binds K dT ["self"] []) : FnOk P w K mg base (L2N.CX P w) 2 f fd ["self", "words"] (spTakeO K CW CN) := by
  refine Fun.okN F0 scTo (fun vs H Q E h => ?_) (fun cdv A outer s H vs Q E hr h => ?_)
  · obtain ⟨a, l, t, ws, ys, rfl, _⟩ := h
    rfl
  · obtain ⟨a, l, t, ws, ys, rfl, hW, ht, h⟩ := h
    refine ⟨_, pss_cons (ps_set (i := 2) scTo.nd rfl (.inl rfl) (pe_meth0 (E := E) (pv 0) WK.cl mT GT hr bT .nil (L2N.passes_call (L2N.takes_of rfl rfl rfl rfl) (fun _ _ _ _ h => h))))
      (pss_cons (ps_if (pt_cmpR op_notIn_seq (pv 2) (pv 1) (by rfl)) (pss_one (L2N.ps_raise rfl (L2N.takes_of rfl rfl rfl rfl) (L2N.pmk_own PySem.F.excBase_Exception N.q N.g N.k (raises_own N.sub N.ty) (by rfl)))) pss_nil)
      (pss_one (ps_ret (pv 2)))), ?_⟩
    obtain ⟨dx, ea, el, lw⟩ := id hW
    refine ⟨.ref a, rfl, a, dx, _, rfl, ea, rfl, a, l, ws, rfl, hW, ?_⟩
    cases ws with
    | nil =>
      rcases h with ⟨w, r, e, _⟩ | ⟨_, q⟩
      · cases e
      · exact .inr ⟨rfl, q H (But.refl _ _)⟩
    | cons w r =>
      refine .inl ⟨w, r, rfl, fun H1 b1 hW1 => ?_⟩
      dsimp only [gName, List.set]
      have ht1 : SqT K H1 t (ys.map V.str) := but_sqT el b1 ht
      have mem : inV (.str w) (ys.map V.str) = decide (w ∈ ys) := by
        rw [Bool.eq_iff_iff]
        unfold inV
        rw [List.any_eq_true, decide_eq_true_eq]
        constructor
        · rintro ⟨y, hy, e⟩
          obtain ⟨u, hu, rfl⟩ := List.mem_map.mp hy
          have e' : (u == w) = true := e
          exact (beq_iff_eq.mp e') ▸ hu
        · intro h
          exact ⟨V.str w, List.mem_map.mpr ⟨w, h, rfl⟩, (beq_self_eq_true w : (w == w) = true)⟩
      refine ⟨.str w, rfl, .ref t, rfl, t, _, rfl, .inr ht1, rfl, flat_strs ys, _, rfl, ?_⟩
      rcases h with ⟨w', r', e, hm, q⟩ | ⟨no, q⟩
      · cases e
        refine iteF' (by rw [mem, decide_eq_true hm]; rfl) ⟨.str w, rfl, q H1 b1 hW1⟩
      · exact iteT' (by rw [mem, decide_eq_false (no w r rfl)]; rfl) (q H1 b1)
end
/-! ### take_figure -/
def figs : List Str := ["0", "1", "2", "3", "4", "5", "6", "7", "8", "9"]
structure FigT (K : PySem.W.Frag) (mg : Str → Option Value) : Prop where
  at_ : ∃ (aF : Addr) (o : Obj), mg "FIGURES" = some (.ref aF) ∧ K.lookup aF = some o ∧ o.cls = .type "tuple" ∧ o.dict = none ∧ ∀ H : Hp, SqT K H aF (figs.map V.str)
def spTakeF (CW CN : Addr) : Sp := fun vs H Q E => ∃ (a l : Addr) (ws : List Str) (n : Nat), vs = [.ref a, .int (n : Nat)] ∧ n ≤ 3 ∧ WAt H CW a l ws ∧ ((∃ w r k, ws = w :: r ∧ dig w = some k ∧ k < n ∧ ∀ H', But l H H' → WAt H' CW a l r → Q (.int (k : Nat)) H') ∨ ((∀ w r k, ws = w :: r → dig w = some k → ¬ k < n) ∧ Ex E CN l H))
theorem figs_in {n : Nat} (h : n ≤ 3) {w : Str} : w ∈ figs.take n ↔ ∃ k, dig w = some k ∧ k < n := by
  constructor
  · intro m
    obtain ⟨k, hk⟩ := List.getElem?_of_mem m
    have kn : k < n := by
      have := (List.getElem?_eq_some_iff.mp hk).1
      rw [List.length_take] at this
      omega
    rw [List.getElem?_take_of_lt kn] at hk
    refine ⟨k, ?_, kn⟩
    rcases (show k = 0 ∨ k = 1 ∨ k = 2 by omega) with rfl | rfl | rfl <;> (cases hk; decide +kernel)
  · rintro ⟨k, hd, kn⟩
    obtain ⟨k3, rfl⟩ := fig_dig hd
    refine List.mem_of_getElem? (i := k) ?_
    rw [List.getElem?_take_of_lt kn]
    rcases (show k = 0 ∨ k = 1 ∨ k = 2 by omega) with rfl | rfl | rfl <;> rfl
theorem figs_at {k : Nat} (h : k < 3) : figs[k]? = some (figW k) ∧ ∀ m, m < k → figs[m]? ≠ some (figW k) := by
  rcases (show k = 0 ∨ k = 1 ∨ k = 2 by omega) with rfl | rfl | rfl
  · exact ⟨rfl, fun m hm => absurd hm (by omega)⟩
  · refine ⟨rfl, fun m hm => ?_⟩
    obtain rfl : m = 0 := by omega
    decide +kernel
  · refine ⟨rfl, fun m hm => ?_⟩
    rcases (show m = 0 ∨ m = 1 by omega) with rfl | rfl <;> decide +kernel
section
variable {P : Program} {w : World} {K : PySem.W.Frag} {mg : Str → Option Value} {base : Heap}
theorem ok_takeF {CW CN f fO : Addr} {fd dO : FuncData} (F0 : Fun K "take_figure" "Words.take_figure" sTf f fd) (WK : WdK K CW) (T : FigT K mg) (GO : FnOk P w K mg base (L2N.CX P w) 2 fO dO ["self", "words"] (spTakeO K CW CN)) (mO : Meth K CW "take_one_of" fO) (bO : Binds K dO ["self", "words"] []) : FnOk P w K mg base (L2N.CX P w) 3 f fd ["self", "many"] (spTakeF CW CN) := by
  obtain ⟨aF, oF, gF, lF, cF, dF, hF⟩ := T.at_
  refine Fun.okN F0 scTf (fun vs H Q E h => ?_) (fun cdv A outer s H vs Q E hr h => ?_)
  · obtain ⟨a, l, ws, n, rfl, _⟩ := h
    rfl
  · obtain ⟨a, l, ws, n, rfl, n3, hW, h⟩ := h
    refine ⟨_, pss_one (ps_ret (pe_bm PySem.F.plainAttrs_tuple PySem.F.slot_tuple_index PySem.F.type_tuple_index mt_tup_index (pe_glob (v := .ref aF) (by rfl) gF rfl) (pa_cons (pe_meth (E := E) (pv 0) WK.cl mO GO hr bO .nil (L2N.passes_call (L2N.takes_of rfl rfl rfl rfl) (fun _ _ _ _ h => h)) (pa_cons (pe_slice sl_tup (pe_glob (v := .ref aF) (by rfl) gF rfl) po_none (po_some (pv 1))) pa_nil)) pa_nil))), ?_⟩
    obtain ⟨dx, ea, el, lw⟩ := id hW
    have cut : cutV (figs.map V.str) none (some (n : Nat)) = (figs.take n).map V.str := by
      unfold cutV
      rw [HT.sIx_none, HT.sIx_nat, List.drop_zero, Nat.sub_zero, List.length_map, ← List.map_take]
      congr 2
      show min n 10 = n
      omega
    refine ⟨.inr (.inl ⟨rfl, oF, lF, cF, dF⟩), .ref a, rfl, a, dx, _, rfl, ea, rfl, .int (n : Nat), rfl, (n : Nat), rfl, aF, _, rfl, hF H, ?_, fun p np => ?_⟩
    · rw [HT.sIx_none, HT.sIx_nat]
      intro z
      have := z.2
      rw [List.length_map] at this
      have : min n 10 = 10 := this
      omega
    · rw [cut]
      have sp := same_upd (o := HO.tup ((figs.take n).map V.str)) np
      have ep : (upd H p (.tup ((figs.take n).map V.str))) p = some (.tup ((figs.take n).map V.str)) := upd_same
      generalize upd H p (.tup ((figs.take n).map V.str)) = H1 at sp ep ⊢
      refine ⟨a, l, p, ws, figs.take n, rfl, hW.same sp, .inl (.inl ep), ?_⟩
      rcases h with ⟨w, r, k, rfl, hd, kn, q⟩ | ⟨no, q⟩
      · refine .inl ⟨w, r, rfl, (figs_in n3).mpr ⟨k, hd, kn⟩, fun H2 b2 hW2 => ?_⟩
        obtain ⟨k3, rfl⟩ := fig_dig hd
        obtain ⟨f1, f2⟩ := figs_at k3
        exact ⟨aF, figs, _, k, rfl, rfl, hF H2, f1, f2, q H2 ((But.of sp).trans b2) hW2⟩
      · refine .inr ⟨fun w r e m => ?_, fun H2 b2 => q H2 ((But.of sp).trans b2)⟩
        obtain ⟨k, hd, kn⟩ := (figs_in n3).mp m
        exact no w r k e hd kn
end
/-! ### _take_term -/
abbrev sTT : Stmt := topS 30
theorem scTT : FnScope ["words", "arguments", "deep", "word", "name", "many", "_"] ["words", "arguments", "deep"] (defScope sTT) := ⟨rfl, rfl, rfl, by decide +kernel, rfl, by decide +kernel, by decide +kernel⟩
def vals3 : List Str := ["0", "1", "2"]
structure ValT (K : PySem.W.Frag) (mg : Str → Option Value) : Prop where
  at_ : ∃ (aF : Addr) (o : Obj), mg "VALUE_WORDS" = some (.ref aF) ∧ K.lookup aF = some o ∧ o.cls = .type "tuple" ∧ o.dict = none ∧ ∀ H : Hp, SqT K H aF (vals3.map V.str)
theorem inV_strs (w : Str) (ys : List Str) : inV (.str w) (ys.map V.str) = decide (w ∈ ys) := by
  rw [Bool.eq_iff_iff]
  unfold inV
  rw [List.any_eq_true, decide_eq_true_eq]
  constructor
  · rintro ⟨y, hy, e⟩
    obtain ⟨u, hu, rfl⟩ := List.mem_map.mp hy
    have e' : (u == w) = true := e
    exact (beq_iff_eq.mp e') ▸ hu
  · intro h
    exact ⟨V.str w, List.mem_map.mpr ⟨w, h, rfl⟩, (beq_self_eq_true w : (w == w) = true)⟩
theorem vals_none {w : Str} (h : dig w = none) : w ∉ vals3 := fun m => by
  have : w ∈ figs.take 3 := m
  obtain ⟨k, hd, _⟩ := (figs_in (Nat.le_refl 3)).mp this
  rw [h] at hd
  cases hd
theorem vals_some {w : Str} {k : Nat} (h : dig w = some k) : w ∈ vals3 ∧ vals3[k]? = some w ∧ ∀ m, m < k → vals3[m]? ≠ some w := by
  obtain ⟨k3, rfl⟩ := fig_dig h
  refine ⟨show _ ∈ figs.take 3 from (figs_in (Nat.le_refl 3)).mpr ⟨k, h, k3⟩, ?_⟩
  rcases (show k = 0 ∨ k = 1 ∨ k = 2 by omega) with rfl | rfl | rfl
  · exact ⟨rfl, fun m hm => absurd hm (by omega)⟩
  · refine ⟨rfl, fun m hm => ?_⟩
    obtain rfl : m = 0 := by omega
    decide +kernel
  · refine ⟨rfl, fun m hm => ?_⟩
    rcases (show m = 0 ∨ m = 1 by omega) with rfl | rfl <;> decide +kernel
theorem len_op (w : Str) : lenOf w = (opN w).map fun k => ((k : Nat) : Int) + 1 := by
  unfold lenOf opN
  by_cases h1 : w = "tick"
  · rw [if_pos h1, if_pos h1]; rfl
  rw [if_neg h1, if_neg h1]
  by_cases h2 : w = "plus"
  · rw [if_pos h2, if_pos h2]; rfl
  rw [if_neg h2, if_neg h2]
  by_cases h3 : w = "less"
  · rw [if_pos h3, if_pos h3]; rfl
  rw [if_neg h3, if_neg h3]
  by_cases h4 : w = "same"
  · rw [if_pos h4, if_pos h4]; rfl
  rw [if_neg h4, if_neg h4]
  by_cases h5 : w = "if"
  · rw [if_pos h5, if_pos h5]; rfl
  rw [if_neg h5, if_neg h5]
  rfl
theorem opN_le {w : Str} {k : Nat} (h : opN w = some k) : k ≤ 3 := by
  unfold opN at h
  split at h
  · cases h; decide
  split at h
  · cases h; decide
  split at h
  · cases h; decide
  split at h
  · cases h; decide
  split at h
  · cases h; decide
  · cases h
theorem takeN_snoc {p : Take} : ∀ {i : Nat} {ws : List Str}, takeN p (i + 1) ws = (takeN p i ws).bind fun q => (p q.2).map fun r => (q.1 ++ [r.1], r.2)
  | 0, ws => by
    show (p ws).bind _ = (p ws).map _
    cases p ws <;> rfl
  | i + 1, ws => by
    show (p ws).bind (fun q => (takeN p (i + 1) q.2).map fun r => (q.1 :: r.1, r.2)) = ((p ws).bind fun q => (takeN p i q.2).map fun r => (q.1 :: r.1, r.2)).bind _
    cases hp : p ws with
    | none => rfl
    | some q =>
      show (takeN p (i + 1) q.2).map _ = ((takeN p i q.2).map _).bind _
      rw [takeN_snoc]
      cases takeN p i q.2 with
      | none => rfl
      | some r =>
        show ((p r.2).map _).map _ = (p r.2).map _
        cases p r.2 <;> rfl
theorem takeN_none {p : Take} {ws : List Str} {i : Nat} (h : takeN p i ws = none) : ∀ {k : Nat}, i ≤ k → takeN p k ws = none := fun {k} hk => by
  induction k with
  | zero =>
    obtain rfl : i = 0 := by omega
    exact h
  | succ k ih =>
    by_cases e : i = k + 1
    · rw [← e]
      exact h
    · rw [takeN_snoc, ih (by omega)]
      rfl
theorem ok_noL {n : Nat} : ∀ (f : Nat) (d : PyData), okT n f d → noL d = true
  | 0, _, h => h.elim
  | f + 1, d, h => by
    have all : ∀ {ds : List PyData}, (∀ x ∈ ds, okT n f x) → noLs ds = true := fun {ds} o => by
      induction ds with
      | nil => rfl
      | cons d ds ih =>
        show (noL d && noLs ds) = true
        rw [ok_noL f d (o d List.mem_cons_self), ih fun x m => o x (List.mem_cons_of_mem _ m)]
        rfl
    rcases h with ⟨k, _, rfl⟩ | ⟨k, _, _, rfl⟩ | ⟨z, _, rfl⟩ | ⟨z, ds, _, _, o, rfl⟩ | ⟨w, ds, _, o, rfl⟩
    · rfl
    · rfl
    · rfl
    · show (true && (true && (noLs ds && true))) = true
      rw [all o]
      rfl
    · show (true && noLs ds) = true
      rw [all o]
      rfl
/-- values that tell such data, one by one -/
def RowsD (K : PySem.W.Frag) (H : Hp) (vs : List V) (ds : List PyData) : Prop := DpAll K H vs ds ∧ noLs ds = true
def spTT (K : PySem.W.Frag) (CW CN : Addr) (f : Nat) : Sp := fun vs H Q E => ∃ (a l : Addr) (ws : List Str) (n : Nat), vs = [.ref a, .int (n : Nat), .int (f : Nat)] ∧ n ≤ 2 ∧ WAt H CW a l ws ∧
  ((∃ d r, takeT n f ws = some (d, r) ∧ ∀ v H', But l H H' → WAt H' CW a l r → Dp K H' v d → Q v H') ∨ (takeT n f ws = none ∧ Ex E CN l H))
theorem dpA_but {K : PySem.W.Frag} {H H' : Hp} {l : Addr} {xs : List V} (el : H l = some (.lst xs)) (b : But l H H') : ∀ {ds : List PyData} {vs : List V}, noLs ds = true → DpAll K H vs ds → DpAll K H' vs ds
  | [], _, _, .nil => .nil
  | d :: ds, _, n, .cons h t => by
    obtain ⟨n1, n2⟩ := Bool.and_eq_true_iff.mp (show (noL d && noLs ds) = true from n)
    exact .cons (dp_tups (fun _ _ => but_sqT el b) d _ n1 h) (dpA_but el b n2 t)
theorem dpA_snoc {K : PySem.W.Frag} {H : Hp} {v : V} {d : PyData} (h : Dp K H v d) : ∀ {ds : List PyData} {vs : List V}, DpAll K H vs ds → DpAll K H (vs ++ [v]) (ds ++ [d])
  | [], _, .nil => .cons h .nil
  | _ :: _, _, .cons a t => .cons a (dpA_snoc h t)
theorem dpA_length {K : PySem.W.Frag} {H : Hp} : ∀ {ds : List PyData} {vs : List V}, DpAll K H vs ds → vs.length = ds.length
  | [], _, .nil => rfl
  | _ :: _, _, .cons _ t => by rw [List.length_cons, List.length_cons, dpA_length t]
theorem noLs_snoc {d : PyData} (h : noL d = true) : ∀ {ds : List PyData}, noLs ds = true → noLs (ds ++ [d]) = true
  | [], _ => by show (noL d && true) = true; rw [h]; rfl
  | e :: ds, n => by
    obtain ⟨n1, n2⟩ := Bool.and_eq_true_iff.mp (show (noL e && noLs ds) = true from n)
    show (noL e && noLs (ds ++ [d])) = true
    rw [n1, noLs_snoc h n2]
    rfl
/-- so many terms, one after the other, into a list -/
theorem takes_walk {K : PySem.W.Frag} {CW CN a l D : Addr} {f n k j : Nat} {H : Hp} {ws : List Str} {E : XK} {σ : L2.St} {te : TE} {Qd : Hp → Prop} (k3 : k ≤ 3) (n2 : n ≤ 2) (hW : WAt H CW a l ws) (hD : H D = none) (hw : ∀ x, wipe ((wipe σ [j]).set j (some x)) [j] = wipe σ [j])
    (ht : ∀ x H' Q', spTT K CW CN f [.ref a, .int (n : Nat), .int (f : Nat)] H' Q' E → te ((wipe σ [j]).set j (some x)) H' Q')
    (q : (∀ ds r vs H', takeN (takeT n f) k ws = some (ds, r) → But l H H' → WAt H' CW a l r → H' D = some (.lst vs) → DpAll K H' vs ds → noLs ds = true → Qd H')) (qn : takeN (takeT n f) k ws = none → Ex E CN l H) :
    ∃ W : Nat → Nat → Hp → Prop, (∃ m, W 0 m (upd H D (.lst []))) ∧ ∀ i m H, W i m H →
      ((Itr 0 k).stop i H ∧ Qd H) ∨ ((Itr 0 k).go i H ∧ ∃ Nx : Hp → Prop, (∀ H', Nx H' → ∃ m', m' < m ∧ W (i + 1) m' H') ∧ ∀ x H', (Itr 0 k).yld i H x H' → gName j x (wipe σ [j]) H' fun σ2 H2 => wipe σ2 [j] = wipe σ [j] ∧ tYes σ2 H2 fun b H3 =>
        if b = true then te σ2 H3 fun y H4 => ∃ acc, H4 D = some (.lst acc) ∧ acc.length < sizeLine ∧ Nx (upd H4 D (.lst (acc ++ [y]))) else Nx H3) := by
  obtain ⟨dx, ea, el, lw⟩ := id hW
  have nDl : D ≠ l := fun e => by rw [e, el] at hD; cases hD
  refine L2.lc_it walk_range (fun i H' => ∃ ds r vs, takeN (takeT n f) i ws = some (ds, r) ∧ But l H H' ∧ WAt H' CW a l r ∧ H' D = some (.lst vs) ∧ DpAll K H' vs ds ∧ noLs ds = true ∧ ds.length = i)
    ⟨[], ws, [], rfl, (fun c o e _ => same_upd hD _ _ e), hW.same (same_upd hD), upd_same, .nil, rfl, rfl⟩ (fun _ _ _ _ => True.intro) (fun i x H1 H2 hi p y => ?_) (fun H' p => ?_)
  · obtain ⟨ds, r, vs, et, b1, hW1, eD, hd, nl, li⟩ := p
    obtain ⟨rfl, rfl⟩ := y
    refine And.intro (hw _) ?_
    unfold tYes
    refine iteT (ht _ _ _ ⟨a, l, r, n, rfl, n2, hW1, ?_⟩)
    have sn : takeN (takeT n f) (i + 1) ws = (takeT n f r).map fun q => (ds ++ [q.1], q.2) := by
      rw [takeN_snoc, et]
      rfl
    cases hp : takeT n f r with
    | none =>
      rw [hp] at sn
      exact .inr ⟨rfl, fun H3 b3 => qn (takeN_none (show takeN (takeT n f) (i + 1) ws = none from sn) (by omega)) H3 (b1.trans b3)⟩
    | some q0 =>
      obtain ⟨d, r'⟩ := q0
      rw [hp] at sn
      refine .inl ⟨d, r', rfl, fun v H3 b3 hW3 hv => ?_⟩
      have nd := ok_noL f d (takeT_sound n f r d r' hp).2
      obtain ⟨_, _, el1, _⟩ := hW1
      have eD3 := b3 _ _ eD nDl
      have hd3 := dpA_but el1 b3 nl hd
      have bD : But D H3 (upd H3 D (.lst (vs ++ [v]))) := But.upd
      refine ⟨vs, eD3, ?_, ds ++ [d], r', vs ++ [v], sn, fun c o e n => ?_, ?_, upd_same, ?_, noLs_snoc nd nl, by rw [List.length_append, li]; rfl⟩
      · rw [dpA_length hd, li]
        exact Nat.lt_of_le_of_lt (show i ≤ 3 by omega) (by decide)
      · rw [upd_ne (ne_of_none e hD)]
        exact b3 _ _ (b1 _ _ e n) n
      · obtain ⟨dx3, ea3, el3, lw3⟩ := hW3
        exact ⟨dx3, bD _ _ ea3 (ne_of ea3 eD3 (fun z => nomatch z)), bD _ _ el3 nDl.symm, lw3⟩
      · exact dpA_but eD3 bD (noLs_snoc nd nl) (dpA_snoc hv hd3)
  · obtain ⟨ds, r, vs, et, b1, hW1, eD, hd, nl, li⟩ := p
    exact q ds r vs H' et b1 hW1 eD hd nl
theorem pss_dead {X : Cx} {sts : List Stmt} : PSs X sts (fun _ _ _ => False) := ⟨fun _ _ _ _ _ _ h => h.elim⟩
section
variable {P : Program} {w : World} {K : PySem.W.Frag} {mg : Str → Option Value} {base : Heap}
theorem ok_tt {CW CN f fT fN fF : Addr} {fd dT dN dF : FuncData} (F0 : Fun K "_take_term" "_take_term" sTT f fd) (M : Blt mg) (WK : WdK K CW) (N : NfK K mg CN) (VT : ValT K mg) (TX : TermsTxt K w mg)
    (GT : FnOk P w K mg base (L2N.CX P w) 1 fT dT ["self"] (spTake CW CN)) (mT : Meth K CW "take" fT) (bT : Binds K dT ["self"] []) (GN : FnOk P w K mg base (L2N.CX P w) 3 fN dN ["self"] (spTakeN CW CN)) (mN : Meth K CW "take_name" fN) (bN : Binds K dN ["self"] [])
    (GF : FnOk P w K mg base (L2N.CX P w) 3 fF dF ["self", "many"] (spTakeF CW CN)) (mF : Meth K CW "take_figure" fF) (bF : Binds K dF ["self", "many"] []) (b : Binds K fd ["words", "arguments", "deep"] []) (g : mg "_take_term" = some (.ref f)) :
    ∀ k, FnOk P w K mg base (L2N.CX P w) (4 + k) f fd ["words", "arguments", "deep"] (spTT K CW CN k) := by
  obtain ⟨aV, oV, gV, lV, cV, dV, hV⟩ := VT.at_
  obtain ⟨aL, es, n0, gL, kL, hL⟩ := TX.lens
  obtain ⟨t2, g2⟩ := TX.args
  obtain ⟨kh, kk⟩ := id kL
  intro k
  induction k with
  | zero =>
    refine Fun.okN F0 scTT (fun vs H Q E h => ?_) (fun cdv A outer s H vs Q E hr h => ?_)
    · obtain ⟨a, l, ws, n, rfl, _⟩ := h
      rfl
    · obtain ⟨a, l, ws, n, rfl, n2, hW, h⟩ := h
      refine ⟨_, pss_cons (ps_if (pt_cmpR op_eq (pv 2) pe_int (nomark _)) (pss_one (L2N.ps_raise rfl (L2N.takes_of rfl rfl rfl rfl) (L2N.pmk_own PySem.F.excBase_Exception N.q N.g N.k (raises_own N.sub N.ty) (by rfl)))) pss_nil) pss_dead, ?_⟩
      rcases h with ⟨d, r, e, _⟩ | ⟨_, q⟩
      · cases e
      · refine ⟨.int 0, rfl, rfl, _, rfl, ?_⟩
        rw [dint]
        exact iteT' (decide_eq_true rfl) (q H (But.refl _ _))
  | succ k ih =>
    refine Fun.okN F0 scTT (fun vs H Q E h => ?_) (fun cdv A outer s H vs Q E hr h => ?_)
    · obtain ⟨a, l, ws, n, rfl, _⟩ := h
      rfl
    · obtain ⟨a, l, ws, n, rfl, n2, hW, h⟩ := h
      have le4 : ∀ {m : Nat}, m ≤ 4 → m ≤ 4 + k := fun h => Nat.le_trans h (Nat.le_add_right 4 k)
      have up : Passes (L2N.CX P w) (cxOf (L2N.CX P w) P w K mg base ["words", "arguments", "deep", "word", "name", "many", "_"] "_take_term" (defScope sTT) f cdv A outer s H E) E := L2N.passes_call (L2N.takes_of rfl rfl rfl rfl) (fun _ _ _ _ h => h)
      refine ⟨_, pss_cons (ps_if (pt_cmpR op_eq (pv 2) pe_int (nomark _)) (pss_one (L2N.ps_raise rfl (L2N.takes_of rfl rfl rfl rfl) (L2N.pmk_own PySem.F.excBase_Exception N.q N.g N.k (raises_own N.sub N.ty) (by rfl)))) pss_nil)
        (pss_cons (ps_set (i := 3) scTT.nd rfl (.inl rfl) (pe_meth0 (E := E) (pv 0) WK.cl mT GT (hr.mono (le4 (by decide))) bT .nil up))
        (pss_cons (ps_if (pt_cmpR op_in_seq (pv 3) (pe_glob (v := .ref aV) (by rfl) gV rfl) (by rfl)) (pss_one (ps_ret (pe_bm PySem.F.plainAttrs_tuple PySem.F.slot_tuple_index PySem.F.type_tuple_index mt_tup_index (pe_glob (v := .ref aV) (by rfl) gV rfl) (pa_cons (pv 3) pa_nil)))) pss_nil)
        (pss_cons (ps_if (pt_cmpR op_eq (pv 3) pe_str (nomark _)) (pss_one (ps_ret (pe_tup (pa_cons (pv 3) (pa_cons (pe_meth (E := E) (pv 0) WK.cl mF GF (hr.mono (le4 (by decide))) bF .nil up (pa_cons (pv 1) pa_nil)) pa_nil))))) pss_nil)
        (pss_cons (ps_if (pt_cmpR op_eq (pv 3) pe_str (nomark _)) (pss_one (ps_ret (pe_tup (pa_cons (pv 3) (pa_cons (pe_meth0 (E := E) (pv 0) WK.cl mN GN (hr.mono (le4 (by decide))) bN .nil up) pa_nil))))) pss_nil)
        (pss_cons (ps_if (pt_cmpR op_eq (pv 3) pe_str (nomark _)) (pss_cons (ps_set (i := 4) scTT.nd rfl (.inl rfl) (pe_meth0 (E := E) (pv 0) WK.cl mN GN (hr.mono (le4 (by decide))) bN .nil up))
            (pss_cons (ps_set (i := 5) scTT.nd rfl (.inl rfl) (pe_meth (E := E) (pv 0) WK.cl mF GF (hr.mono (le4 (by decide))) bF .nil up (pa_cons (pe_op op_add (pe_glob (v := .int 2) (by rfl) g2 ⟨_, rfl⟩) pe_int) pa_nil)))
            (pss_one (ps_ret (pe_tup (pa_cons (pv 3) (pa_cons (pv 4) (pa_cons (pe_callTy call_tuple_of (by rfl) M.tuple (by decide +kernel) (pa_cons
              (pe_lcX (own := [("_", 6)]) (g := gName 6) (E := E) (te := tCall (spTT K CW CN k) [] E (tCons (tVar 0) (tCons (tVar 1) (tCons (tOp (rI0 fun i j => .int (i - j)) (tVar 2) (tC (.int 1))) tNil)))) (L2N.takes_of rfl rfl rfl rfl) (fun _ _ _ _ h => h) rfl rfl (by rfl) scTT.nd (pi_range1 (by rfl) M.range (pa_cons (pv 5) pa_nil)) (blkOk_by (own := [("_", 6)]) (N := ["words", "arguments", "deep", "word", "name", "many", "_"]) (sc := defScope sTT) (by decide +kernel))
                (fun _ _ _ _ _ => pg_name (i := 6) scTT.nd rfl (Or.inl rfl)) (fun _ _ _ _ _ => pe_call (E := E) ih hr (by rfl) g F0.kp b .nil pass_blk (pa_cons (pv 0) (pa_cons (pv 1) (pa_cons (pe_op op_sub (pv 2) pe_int) pa_nil))))) pa_nil)) pa_nil)))))))) pss_nil)
        (pss_cons (ps_if (pt_cmpR (op_notIn_kd kL) (pv 3) (pe_glob (v := .ref aL) (by rfl) gL rfl) (by rfl)) (pss_one (L2N.ps_raise rfl (L2N.takes_of rfl rfl rfl rfl) (L2N.pmk_own PySem.F.excBase_Exception N.q N.g N.k (raises_own N.sub N.ty) (by rfl)))) pss_nil)
        (pss_one (ps_ret (pe_op op_catA (pe_tup (pa_cons (pv 3) pa_nil)) (pe_callTy call_tuple_of (by rfl) M.tuple (by decide +kernel) (pa_cons
              (pe_lcX (own := [("_", 6)]) (g := gName 6) (E := E) (te := tCall (spTT K CW CN k) [] E (tCons (tVar 0) (tCons (tVar 1) (tCons (tOp (rI0 fun i j => .int (i - j)) (tVar 2) (tC (.int 1))) tNil)))) (L2N.takes_of rfl rfl rfl rfl) (fun _ _ _ _ h => h) rfl rfl (by rfl) scTT.nd (pi_range1 (by rfl) M.range (pa_cons (pe_op op_sub (pe_ix ix_kdict (pe_glob (v := .ref aL) (by rfl) gL rfl) (pv 3) (fun _ _ => rfl)) pe_int) pa_nil)) (blkOk_by (own := [("_", 6)]) (N := ["words", "arguments", "deep", "word", "name", "many", "_"]) (sc := defScope sTT) (by decide +kernel))
                (fun _ _ _ _ _ => pg_name (i := 6) scTT.nd rfl (Or.inl rfl)) (fun _ _ _ _ _ => pe_call (E := E) ih hr (by rfl) g F0.kp b .nil pass_blk (pa_cons (pv 0) (pa_cons (pv 1) (pa_cons (pe_op op_sub (pv 2) pe_int) pa_nil))))) pa_nil))))))))))), ?_⟩
      obtain ⟨dx, ea, el, lw⟩ := id hW
      refine ⟨.int ((k + 1 : Nat) : Int), rfl, rfl, _, rfl, ?_⟩
      rw [dint]
      refine iteF' (decide_eq_false (by omega)) ?_
      dsimp only [tNext]
      refine ⟨.ref a, rfl, a, dx, _, rfl, ea, rfl, a, l, ws, rfl, hW, ?_⟩
      cases ws with
      | nil =>
        rcases h with ⟨d, r, e, _⟩ | ⟨_, q⟩
        · cases e
        · exact .inr ⟨rfl, q H (But.refl _ _)⟩
      | cons w r =>
        have good : ∀ {d r'}, takeT n (k + 1) (w :: r) = some (d, r') → ∀ v H', But l H H' → WAt H' CW a l r' → Dp K H' v d → Q v H' := fun {d r'} e => by
          rcases h with ⟨d2, r2, e2, q⟩ | ⟨e2, _⟩
          · rw [e] at e2
            cases e2
            exact q
          · rw [e] at e2
            cases e2
        have bad : takeT n (k + 1) (w :: r) = none → Ex E CN l H := fun e => by
          rcases h with ⟨d2, r2, e2, _⟩ | ⟨_, q⟩
          · rw [e] at e2
            cases e2
          · exact q
        clear h
        refine .inl ⟨w, r, rfl, fun H1 b1 hW1 => ?_⟩
        obtain ⟨dx1, ea1, el1, lw1⟩ := id hW1
        dsimp only [gName, List.set]
        refine ⟨.str w, rfl, aV, _, rfl, .inr (hV H1), rfl, flat_strs _, _, rfl, ?_⟩
        cases hd : dig w with
        | some i =>
          obtain ⟨v1, v2, v3⟩ := vals_some hd
          refine iteT' (by show inV (.str w) (vals3.map V.str) = true; rw [inV_strs, decide_eq_true v1]) ⟨.inr (.inl ⟨rfl, oV, lV, cV, dV⟩), .str w, rfl, aV, vals3, w, i, rfl, rfl, hV H1, v2, v3, ?_⟩
          refine good ?_ _ H1 b1 hW1 (.int _)
          unfold takeT
          rw [hd]
        | none =>
          refine iteF' (by show inV (.str w) (vals3.map V.str) = false; rw [inV_strs, decide_eq_false (vals_none hd)]) ?_
          dsimp only [tNext]
          have ev0 : takeT n (k + 1) (w :: r) = if w = "arg" then (match r with
              | [] => none
              | v :: ws => match dig v with
                | some k => if k < n then some (.tuple [.str w, .int (k : Nat)], ws) else none
                | none => none)
            else if w = "cell" then (match r with
              | [] => none
              | v :: ws => if isName (.str v) = true then some (.tuple [.str w, .str v], ws) else none)
            else if w = "call" then (match r with
              | v :: c :: ws => if isName (.str v) = true then (match dig c with
                  | some k_1 => (takeN (takeT n k) k_1 ws).map fun r => (.tuple [.str w, .str v, .tuple r.1], r.2)
                  | none => none)
                else none
              | _ => none)
            else match opN w with
              | some k_1 => (takeN (takeT n k) k_1 r).map fun r => (.tuple (.str w :: r.1), r.2)
              | none => none := by
            show takeT n (k + 1) (w :: r) = _
            unfold takeT
            rw [hd]
            dsimp only
            by_cases q1 : w = "arg"
            · rw [if_pos q1, if_pos q1]
              cases r <;> rfl
            rw [if_neg q1, if_neg q1]
            by_cases q2 : w = "cell"
            · rw [if_pos q2, if_pos q2]
              cases r <;> rfl
            rw [if_neg q2, if_neg q2]
            by_cases q3 : w = "call"
            · rw [if_pos q3, if_pos q3]
              cases r with
              | nil => rfl
              | cons v r => cases r <;> rfl
            rw [if_neg q3, if_neg q3]
            all_goals (cases opN w <;> rfl)
          refine ⟨.str w, rfl, rfl, _, rfl, ?_⟩
          rw [dstr]
          by_cases h1 : w = "arg"
          · rw [if_pos h1] at ev0
            refine iteT' (decide_eq_true h1) ⟨.str w, rfl, .ref a, rfl, a, dx1, _, rfl, ea1, rfl, .int (n : Nat), rfl, a, l, r, n, rfl, by omega, hW1, ?_⟩
            cases r with
            | nil => exact .inr ⟨fun w r i e => (by cases e), fun H' b => bad ev0 H' (b1.trans b)⟩
            | cons v r2 =>
              dsimp only at ev0
              cases hv : dig v with
              | none =>
                rw [hv] at ev0
                exact .inr ⟨fun w r i e hi => (by cases e; rw [hv] at hi; cases hi), fun H' b => bad ev0 H' (b1.trans b)⟩
              | some i =>
                rw [hv] at ev0
                dsimp only at ev0
                by_cases hi : i < n
                · rw [if_pos hi] at ev0
                  exact .inl ⟨v, r2, i, rfl, hv, hi, fun H2 b2 hW2 => ⟨(by show 2 ≤ sizeLine; decide), fun t nt => good ev0 _ _ (b1.trans (b2.trans (But.of (same_upd nt)))) (hW2.same (same_upd nt)) (.tup (.inl (.inl upd_same)) (.cons (.str _) (.cons (.int _) .nil)))⟩⟩
                · rw [if_neg hi] at ev0
                  exact .inr ⟨fun w r j e hj => (by cases e; rw [hv] at hj; cases hj; exact hi), fun H' b => bad ev0 H' (b1.trans b)⟩
          rw [if_neg h1] at ev0
          refine iteF' (decide_eq_false h1) ?_
          dsimp only [tNext]
          refine ⟨.str w, rfl, rfl, _, rfl, ?_⟩
          rw [dstr]
          by_cases h2 : w = "cell"
          · rw [if_pos h2] at ev0
            refine iteT' (decide_eq_true h2) ⟨.str w, rfl, .ref a, rfl, a, dx1, _, rfl, ea1, rfl, a, l, r, rfl, hW1, ?_⟩
            cases r with
            | nil => exact .inr ⟨fun w r e => (by cases e), fun H' b => bad ev0 H' (b1.trans b)⟩
            | cons v r2 =>
              dsimp only at ev0
              by_cases hv : isName (.str v) = true
              · rw [if_pos hv] at ev0
                exact .inl ⟨v, r2, rfl, hv, fun H2 b2 hW2 => ⟨(by show 2 ≤ sizeLine; decide), fun t nt => good ev0 _ _ (b1.trans (b2.trans (But.of (same_upd nt)))) (hW2.same (same_upd nt)) (.tup (.inl (.inl upd_same)) (.cons (.str _) (.cons (.str _) .nil)))⟩⟩
              · rw [if_neg hv] at ev0
                exact .inr ⟨fun w r e => (by cases e; exact Bool.eq_false_iff.mpr hv), fun H' b => bad ev0 H' (b1.trans b)⟩
          rw [if_neg h2] at ev0
          refine iteF' (decide_eq_false h2) ?_
          dsimp only [tNext]
          refine ⟨.str w, rfl, rfl, _, rfl, ?_⟩
          rw [dstr]
          by_cases h3 : w = "call"
          · rw [if_pos h3] at ev0
            refine iteT' (decide_eq_true h3) ?_
            have b1' := b1
            refine ⟨.ref a, rfl, a, dx1, _, rfl, ea1, rfl, a, l, r, rfl, hW1, ?_⟩
            cases r with
            | nil => exact .inr ⟨fun w r e => (by cases e), fun H' b => bad ev0 H' (b1.trans b)⟩
            | cons v r2 =>
              by_cases hv : isName (.str v) = true
              · refine .inl ⟨v, r2, rfl, hv, fun H2 b2 hW2 => ?_⟩
                obtain ⟨dx2, ea2, el2, lw2⟩ := id hW2
                dsimp only [gName, List.set]
                refine ⟨.ref a, rfl, a, dx2, _, rfl, ea2, rfl, _, _, rfl, rfl, a, l, r2, 3, rfl, by decide, hW2, ?_⟩
                cases r2 with
                | nil => exact .inr ⟨fun w r i e => (by cases e), fun H' b => bad ev0 H' (b1.trans (b2.trans b))⟩
                | cons c r3 =>
                  dsimp only at ev0
                  rw [if_pos hv] at ev0
                  cases hc : dig c with
                  | none =>
                    rw [hc] at ev0
                    exact .inr ⟨fun w r i e hi => (by cases e; rw [hc] at hi; cases hi), fun H' b => bad ev0 H' (b1.trans (b2.trans b))⟩
                  | some i =>
                    rw [hc] at ev0
                    dsimp only at ev0
                    have i3 := (fig_dig hc).1
                    refine .inl ⟨c, r3, i, rfl, hc, i3, fun H3 b3 hW3 => ?_⟩
                    dsimp only [gName, List.set]
                    have b13 := b1.trans (b2.trans b3)
                    refine ⟨.str w, rfl, .str v, rfl, .int (i : Nat), rfl, _, rfl, by omega, by omega, fun D hD => ?_⟩
                    refine takes_walk (K := K) (CN := CN) (f := k) (k := i) (j := 6) (E := E) (te := tCall (spTT K CW CN k) [] E (tCons (tVar 0) (tCons (tVar 1) (tCons (tOp (rI0 fun i j => .int (i - j)) (tVar 2) (tC (.int 1))) tNil)))) (by omega) n2 hW3 hD ?_ ?_ (fun ds r' vs H4 et b4 hW4 eD hd nl => ?_) (fun e => ?_)
                    · exact fun _ => rfl
                    · refine fun x H' Q' hsp => ⟨.ref a, rfl, .int (n : Nat), rfl, .int ((k + 1 : Nat) : Int), rfl, _, _, rfl, rfl, ?_⟩
                      dsimp only
                      rw [show (((k + 1 : Nat) : Int) - 1) = (k : Nat) by omega]
                      exact hsp
                    · refine ⟨D, vs, rfl, .inl ⟨.inl (.inl eD), fun t nt => ⟨(by show 3 ≤ sizeLine; decide), fun t2 nt2 => ?_⟩⟩⟩
                      have s45 := (same_upd (o := HO.tup vs) nt).trans (same_upd (o := HO.tup [V.str w, .str v, .ref t]) nt2)
                      rw [et] at ev0
                      refine good ev0 _ _ (b13.trans (b4.trans (But.of s45))) (hW4.same s45) (.tup (.inl (.inl upd_same)) (.cons (.str _) (.cons (.str _) (.cons (.tup (.inl (.inl (same_upd nt2 _ _ upd_same))) (dpA_same s45 hd)) .nil))))
                    · rw [e] at ev0
                      exact fun H' b => bad ev0 H' (b13.trans b)
              · refine .inr ⟨fun w r e => (by cases e; exact Bool.eq_false_iff.mpr hv), fun H' b => bad ?_ H' (b1.trans b)⟩
                rw [ev0]
                cases r2 with
                | nil => rfl
                | cons c r3 =>
                  dsimp only
                  rw [if_neg hv]
          rw [if_neg h3] at ev0
          refine iteF' (decide_eq_false h3) ?_
          dsimp only [tNext]
          have hns := hL w
          rw [len_op] at hns
          cases ho : opN w with
          | none =>
            rw [ho] at ev0 hns
            exact ⟨.str w, rfl, w, _, rfl, rfl, hns, _, rfl, iteT (bad ev0 H1 b1)⟩
          | some m =>
            rw [ho] at ev0 hns
            obtain ⟨tk, hns⟩ := hns
            dsimp only at ev0
            refine ⟨.str w, rfl, w, _, rfl, rfl, hns, _, rfl, iteF ?_⟩
            dsimp only [tNext]
            have m3 := opN_le ho
            refine ⟨.str w, rfl, (by show 1 ≤ sizeLine; decide), fun t1 nt1 => ?_⟩
            have s1 := same_upd (o := HO.tup [V.str w]) nt1
            have et1 : (upd H1 t1 (.tup [V.str w])) t1 = some (.tup [V.str w]) := upd_same
            generalize upd H1 t1 (.tup [V.str w]) = H2 at s1 et1 ⊢
            have hW2 := hW1.same s1
            refine ⟨.str w, rfl, aL, w, .int ((m : Nat) + 1), rfl, rfl, ⟨es, n0, .int ((m : Nat) + 1) tk, kh, kk, hns, ⟨tk, rfl⟩⟩, _, _, rfl, rfl, ?_⟩
            dsimp only
            rw [show (((m : Nat) : Int) + 1 - 1) = (m : Nat) by omega]
            refine ⟨_, rfl, by omega, by omega, fun D hD => ?_⟩
            refine takes_walk (K := K) (CN := CN) (f := k) (k := m) (j := 6) (E := E) (te := tCall (spTT K CW CN k) [] E (tCons (tVar 0) (tCons (tVar 1) (tCons (tOp (rI0 fun i j => .int (i - j)) (tVar 2) (tC (.int 1))) tNil)))) m3 n2 hW2 hD ?_ ?_ (fun ds r' vs H4 et b4 hW4 eD hd nl => ?_) (fun e => ?_)
            · exact fun _ => rfl
            · refine fun x H' Q' hsp => ⟨.ref a, rfl, .int (n : Nat), rfl, .int ((k + 1 : Nat) : Int), rfl, _, _, rfl, rfl, ?_⟩
              dsimp only
              rw [show (((k + 1 : Nat) : Int) - 1) = (k : Nat) by omega]
              exact hsp
            · refine ⟨D, vs, rfl, .inl ⟨.inl (.inl eD), fun t nt => ?_⟩⟩
              have s4 := same_upd (o := HO.tup vs) nt
              have ett : (upd H4 t (.tup vs)) t = some (.tup vs) := upd_same
              generalize upd H4 t (.tup vs) = H5 at s4 ett ⊢
              obtain ⟨_, _, el2, _⟩ := hW2
              have et4 : H5 t1 = some (.tup [V.str w]) := s4 _ _ (b4 _ _ et1 (ne_of et1 el2 (fun z => nomatch z)))
              have lv := dpA_length hd
              obtain ⟨_, ld, _⟩ := takeN_sound (ok := fun _ => True) (wf := wordsT k) (fun ws d r e => ⟨(takeT_sound n k ws d r e).1, True.intro⟩) et
              rw [et] at ev0
              have b15 := b1.trans ((But.of s1).trans (b4.trans (But.of s4)))
              refine ⟨t1, t, _, _, rfl, rfl, .inl (.inl et4), .inl (.inl ett), ?_, fun e => (nomatch e), fun _ e => ?_, fun _ _ p np => ?_⟩
              · rw [lv, ld]
                exact Nat.le_trans (show 1 + m ≤ 4 by omega) (by decide)
              · refine good ev0 _ _ b15 (hW4.same s4) ?_
                have e0 : ds = [] := List.eq_nil_of_length_eq_zero (by rw [← lv, e]; rfl)
                rw [e0]
                exact .tup (.inl (.inl et4)) (.cons (.str _) .nil)
              · refine good ev0 _ _ (b15.trans (But.of (same_upd np))) ((hW4.same s4).same (same_upd np)) (.tup (.inl (.inl upd_same)) (.cons (.str _) (dpA_same (s4.trans (same_upd np)) hd)))
            · rw [e] at ev0
              exact fun H' b => bad ev0 H' (b1.trans ((But.of s1).trans b))
end
/-! ### _take_whole_term -/
abbrev sTW : Stmt := topS 29
theorem scTW : FnScope ["words", "arguments", "term"] ["words", "arguments"] (defScope sTW) := ⟨rfl, rfl, rfl, by decide +kernel, rfl, by decide +kernel, by decide +kernel⟩
theorem okT_gd {n : Nat} : ∀ (f : Nat) (d : PyData), okT n f d → Gd (n : Int) f d
  | 0, _, h => h.elim
  | f + 1, d, h => by
    rcases h with ⟨k, k3, rfl⟩ | ⟨k, kn, _, rfl⟩ | ⟨z, hz, rfl⟩ | ⟨z, ds, hz, l3, o, rfl⟩ | ⟨w, ds, ho, o, rfl⟩
    · exact .val (by omega) (by omega)
    · exact .arg (by omega) (by omega)
    · exact .cell hz
    · exact .call hz (by omega) fun t m => okT_gd f t (o t m)
    · have o' : ∀ t ∈ ds, Gd (n : Int) f t := fun t m => okT_gd f t (o t m)
      unfold opN at ho
      by_cases h1 : w = "tick"
      · rw [if_pos h1] at ho
        have e0 : ds = [] := List.eq_nil_of_length_eq_zero (Option.some.inj ho).symm
        subst e0 h1
        exact .tick
      rw [if_neg h1] at ho
      by_cases h2 : w = "plus"
      · rw [if_pos h2] at ho
        exact .op (.inr ⟨by rw [h2]; simp [bin], (Option.some.inj ho).symm⟩) o'
      rw [if_neg h2] at ho
      by_cases h3 : w = "less"
      · rw [if_pos h3] at ho
        exact .op (.inr ⟨by rw [h3]; simp [bin], (Option.some.inj ho).symm⟩) o'
      rw [if_neg h3] at ho
      by_cases h4 : w = "same"
      · rw [if_pos h4] at ho
        exact .op (.inr ⟨by rw [h4]; simp [bin], (Option.some.inj ho).symm⟩) o'
      rw [if_neg h4] at ho
      by_cases h5 : w = "if"
      · rw [if_pos h5] at ho
        exact .op (.inl ⟨h5, (Option.some.inj ho).symm⟩) o'
      · rw [if_neg h5] at ho
        cases ho
def spTW (K : PySem.W.Frag) (CW CN : Addr) : Sp := fun vs H Q E => ∃ (a l : Addr) (ws : List Str) (n : Nat), vs = [.ref a, .int (n : Nat)] ∧ n ≤ 2 ∧ WAt H CW a l ws ∧
  ((∃ d r, takeT n 8 ws = some (d, r) ∧ isTerm n d = true ∧ ∀ v H', But l H H' → WAt H' CW a l r → Dp K H' v d → Q v H') ∨ ((∀ d r, takeT n 8 ws = some (d, r) → isTerm n d = false) ∧ Ex E CN l H))
section
variable {P : Program} {w : World} {K : PySem.W.Frag} {mg : Str → Option Value} {base : Heap}
theorem ok_tw {CW CN f fT fI : Addr} {fd dT dI : FuncData} {m : Nat} (F0 : Fun K "_take_whole_term" "_take_whole_term" sTW f fd) (N : NfK K mg CN) (TX : TermsTxt K w mg) (GT : FnOk P w K mg base (L2N.CX P w) 12 fT dT ["words", "arguments", "deep"] (spTT K CW CN 8)) (kT : PySem.W.keepIn K (.ref fT) = true) (bT : Binds K dT ["words", "arguments", "deep"] []) (gT : mg "_take_term" = some (.ref fT))
    (hm : m ≤ 12) (GI : FnOk P w K mg base CX0 m fI dI ["value", "arguments"] (spBn K isTerm)) (kI : PySem.W.keepIn K (.ref fI) = true) (bI : Binds K dI ["value", "arguments"] []) (gI : mg "is_term" = some (.ref fI)) : FnOk P w K mg base (L2N.CX P w) 13 f fd ["words", "arguments"] (spTW K CW CN) := by
  obtain ⟨t8, g8⟩ := TX.deep
  refine Fun.okN F0 scTW (fun vs H Q E h => ?_) (fun cdv A outer s H vs Q E hr h => ?_)
  · obtain ⟨a, l, ws, n, rfl, _⟩ := h
    rfl
  · obtain ⟨a, l, ws, n, rfl, n2, hW, h⟩ := h
    refine ⟨_, pss_cons (ps_set (i := 2) scTW.nd rfl (.inl rfl) (pe_call (E := E) GT hr (by rfl) gT kT bT .nil (L2N.passes_call (L2N.takes_of rfl rfl rfl rfl) (fun _ _ _ _ h => h)) (pa_cons (pv 0) (pa_cons (pv 1) (pa_cons (pe_glob (v := .int 8) (by rfl) g8 ⟨_, rfl⟩) pa_nil)))))
      (pss_cons (ps_if (pt_not (pt_val (pe_call (E := E0) GI (hr.mono hm) (by rfl) gI kI bI .nil pass0 (pa_cons (pv 2) (pa_cons (pv 1) pa_nil))))) (pss_one (L2N.ps_raise rfl (L2N.takes_of rfl rfl rfl rfl) (L2N.pmk_own PySem.F.excBase_Exception N.q N.g N.k (raises_own N.sub N.ty) (by rfl)))) pss_nil)
      (pss_one (ps_ret (pv 2)))), ?_⟩
    refine ⟨.ref a, rfl, .int (n : Nat), rfl, a, l, ws, n, rfl, n2, hW, ?_⟩
    cases e : takeT n 8 ws with
    | none =>
      rcases h with ⟨d, r, e2, _⟩ | ⟨_, q⟩
      · rw [e] at e2
        cases e2
      · exact .inr ⟨rfl, q⟩
    | some p =>
      obtain ⟨d, r⟩ := p
      refine .inl ⟨d, r, rfl, fun v H1 b1 hW1 hv => ?_⟩
      dsimp only [gName, List.set]
      have gd := okT_gd 8 d (takeT_sound n 8 ws d r e).2
      refine ⟨v, rfl, .int (n : Nat), rfl, v, d, n, rfl, hv, gd_sz 8 d gd, fun H2 s2 => ⟨_, rfl, ?_⟩⟩
      rcases h with ⟨d2, r2, e2, ht, q⟩ | ⟨no, q⟩
      · rw [e] at e2
        cases e2
        rw [ht]
        exact iteF ⟨v, rfl, q v H2 (b1.trans (But.of s2)) (hW1.same s2) (dp_same s2 hv)⟩
      · rw [no d r e]
        exact iteT (q H2 (b1.trans (But.of s2)))
end
/-! ### _term_words -/
abbrev sTWd : Stmt := topS 27
theorem scTWd : FnScope ["term", "words", "inner", "word"] ["term"] (defScope sTWd) := ⟨rfl, rfl, rfl, by decide +kernel, rfl, by decide +kernel, by decide +kernel⟩
theorem words_len {n : Nat} : ∀ (f : Nat) (d : PyData), okT n f d → (wordsT f d).length ≤ 3 * 4 ^ f
  | 0, _, h => h.elim
  | f + 1, d, h => by
    have all : ∀ {ds : List PyData} {m : Nat}, ds.length ≤ m → (∀ x ∈ ds, okT n f x) → (ds.flatMap (wordsT f)).length ≤ m * (3 * 4 ^ f) := fun {ds} => by
      induction ds with
      | nil => exact fun _ _ => Nat.zero_le _
      | cons d ds ih =>
        intro m hm o
        obtain ⟨m, rfl⟩ : ∃ k, m = k + 1 := ⟨m - 1, by rw [List.length_cons] at hm; omega⟩
        rw [List.flatMap_cons, List.length_append, Nat.succ_mul]
        have h1 := words_len f d (o d List.mem_cons_self)
        have h2 := ih (m := m) (by rw [List.length_cons] at hm; omega) fun x hx => o x (List.mem_cons_of_mem _ hx)
        omega
    have one : 1 ≤ 4 ^ f := Nat.pow_pos (by decide)
    have e4 : 4 ^ (f + 1) = 4 * 4 ^ f := by rw [Nat.pow_succ, Nat.mul_comm]
    rw [e4]
    rcases h with ⟨k, _, rfl⟩ | ⟨k, _, _, rfl⟩ | ⟨z, _, rfl⟩ | ⟨z, ds, _, l3, o, rfl⟩ | ⟨w, ds, ho, o, rfl⟩
    · show 1 ≤ _
      omega
    · show 2 ≤ _
      omega
    · show 2 ≤ _
      omega
    · have := all (m := 2) (by omega) o
      show (ds.flatMap (wordsT f)).length + 1 + 1 + 1 ≤ _
      omega
    · obtain ⟨h1, h2, h3, _⟩ := opN_ne ho
      have := all (m := 3) (opN_le ho) o
      have ew : wordsT (f + 1) (.tuple (.str w :: ds)) = w :: ds.flatMap (wordsT f) := by
        show (if w = "arg" then _ else if w = "cell" then _ else if w = "call" then _ else w :: ds.flatMap (wordsT f)) = _
        rw [if_neg h1, if_neg h2, if_neg h3]
      rw [ew, List.length_cons]
      omega
theorem flat_words {n f : Nat} : ∀ {ds : List PyData} {m : Nat}, ds.length ≤ m → (∀ x ∈ ds, okT n f x) → (ds.flatMap (wordsT f)).length ≤ m * (3 * 4 ^ f)
  | [], _, _, _ => Nat.zero_le _
  | d :: ds, m, hm, o => by
    obtain ⟨m, rfl⟩ : ∃ k, m = k + 1 := ⟨m - 1, by rw [List.length_cons] at hm; omega⟩
    rw [List.flatMap_cons, List.length_append, Nat.succ_mul]
    have h1 := words_len f d (o d List.mem_cons_self)
    have h2 := flat_words (m := m) (ds := ds) (by rw [List.length_cons] at hm; omega) fun x hx => o x (List.mem_cons_of_mem _ hx)
    omega
theorem str_fig {k : Nat} (h : k < 3) : (Str.ofString (toString ((k : Nat) : Int))) = figW k ∧ ((k : Nat) : Int).natAbs.log2 < 1920 := by
  rcases (show k = 0 ∨ k = 1 ∨ k = 2 by omega) with rfl | rfl | rfl <;> exact ⟨by decide +kernel, by decide +kernel⟩
def spTWd (K : PySem.W.Frag) (n f : Nat) : Sp := fun vs H Q _ => ∃ (v : V) (d : PyData) (H0 : Hp), vs = [v] ∧ Same H0 H ∧ Dp K H0 v d ∧ okT n f d ∧ ∀ l H', Same H H' → H l = none → H' l = some (.lst ((wordsT f d).map V.str)) → Q (.ref l) H'
/-- the words of so many terms, one after the other, into a list -/
theorem words_walk {K : PySem.W.Frag} {n f : Nat} {H H0 : Hp} {p D : Addr} {xs : List V} {ds : List PyData} {σ : L2.St} {te1 : TE} {Qd : Hp → Prop} (hD : H D = none) (s0 : Same H0 H) (ep : H p = some (.lst xs)) (hd : DpAll K H0 xs ds) (ho : ∀ x ∈ ds, okT n f x) (l3 : ds.length ≤ 3) (hf : f ≤ 8)
    (hw : ∀ x, wipe ((wipe σ [2, 3]).set 2 (some x)) [2, 3] = wipe σ [2, 3]) (hw1 : ∀ x y, wipe ((wipe ((wipe σ [2, 3]).set 2 (some x)) [3]).set 3 (some y)) [3] = wipe ((wipe σ [2, 3]).set 2 (some x)) [3]) (hj : ∀ x y, ((wipe ((wipe σ [2, 3]).set 2 (some x)) [3]).set 3 (some y))[3]? = some (some y))
    (ht : ∀ x H' Q', spTWd K n f [x] H' Q' E0 → te1 ((wipe σ [2, 3]).set 2 (some x)) H' Q') (q : ∀ H', Same H H' → H' D = some (.lst ((ds.flatMap (wordsT f)).map V.str)) → Qd H') :
    ∃ W : Nat → Nat → Hp → Prop, (∃ m, W 0 m (upd H D (.lst []))) ∧ ∀ i m H, W i m H →
      ((Itl K p).stop i H ∧ Qd H) ∨ ((Itl K p).go i H ∧ ∃ Nx : Hp → Prop, (∀ H', Nx H' → ∃ m', m' < m ∧ W (i + 1) m' H') ∧ ∀ x H', (Itl K p).yld i H x H' → gName 2 x (wipe σ [2, 3]) H' fun σ2 H2 => wipe σ2 [2, 3] = wipe σ [2, 3] ∧ tYes σ2 H2 fun b H3 =>
        if b = true then iList K te1 σ2 H3 fun J1 H4 => ∃ W1 : Nat → Nat → Hp → Prop, (∃ m, W1 0 m H4) ∧ ∀ j k H, W1 j k H →
          (J1.stop j H ∧ Nx H) ∨ (J1.go j H ∧ ∃ Nx1 : Hp → Prop, (∀ H', Nx1 H' → ∃ k', k' < k ∧ W1 (j + 1) k' H') ∧ ∀ x H', J1.yld j H x H' → gName 3 x (wipe σ2 [3]) H' fun σ3 H5 => wipe σ3 [3] = wipe σ2 [3] ∧ tYes σ3 H5 fun b H6 =>
            if b = true then tVar 3 σ3 H6 fun y H7 => ∃ acc, H7 D = some (.lst acc) ∧ acc.length < sizeLine ∧ Nx1 (upd H7 D (.lst (acc ++ [y]))) else Nx1 H6)
        else Nx H3) := by
  have el := dpA_length hd
  refine walk_gen (walk_list (K := K) (a := p) (xs := xs)) (fun i H' => Same H H' ∧ H' D = some (.lst (((ds.take i).flatMap (wordsT f)).map V.str))) ⟨same_upd hD, upd_same⟩ (fun i H' _ r => .inl (.inl (r.1 _ _ ep))) (fun i x H1 H2 hi r y => ?_) (fun H' r => ?_)
  · obtain ⟨s1, eD⟩ := r
    obtain ⟨rfl, hx⟩ := y
    obtain ⟨d, hdi, dx⟩ := dpA_at hd hx
    have od := ho d (List.mem_of_getElem? hdi)
    refine And.intro (hw _) ?_
    unfold tYes
    refine iteT (ht _ _ _ ⟨x, d, H0, rfl, s0.trans s1, dx, od, fun l H3 s3 nl el3 => ⟨l, rfl, ⟨_, .inl (.inl el3)⟩, ?_⟩⟩)
    have nDl : D ≠ l := ne_of_none eD nl
    have st : (ds.take (i + 1)).flatMap (wordsT f) = (ds.take i).flatMap (wordsT f) ++ wordsT f d := by
      rw [take_snoc hdi, List.flatMap_append]
      congr 1
      exact List.append_nil _
    refine walk_gen (walk_list (K := K) (a := l) (xs := (wordsT f d).map V.str)) (fun j H' => Same H H' ∧ H' l = some (.lst ((wordsT f d).map V.str)) ∧ H' D = some (.lst ((((ds.take i).flatMap (wordsT f)) ++ (wordsT f d).take j).map V.str))) ⟨s1.trans s3, el3, by rw [List.take_zero, List.append_nil]; exact s3 _ _ eD⟩ (fun j H' _ r => .inl (.inl r.2.1)) (fun j z H4 H5 hj' r4 y4 => ?_) (fun H' r4 => ?_)
    · obtain ⟨s4, e4l, e4D⟩ := r4
      obtain ⟨rfl, hz⟩ := y4
      rw [List.getElem?_map] at hz
      obtain ⟨z', hz', rfl⟩ := Option.map_eq_some_iff.mp hz
      refine And.intro (hw1 _ _) ?_
      refine iteT ⟨.str z', hj _ _, _, e4D, ?_, fun b o e => ?_, ?_, ?_⟩
      · have h1 := flat_words (n := n) (f := f) (m := 3) (ds := ds.take (i + 1)) (by rw [List.length_take]; omega) fun x m => ho x (List.mem_of_mem_take m)
        rw [st, List.length_append] at h1
        have h2 : 4 ^ f ≤ 4 ^ 8 := Nat.pow_le_pow_right (by decide) hf
        have h3 : (4 : Nat) ^ 8 = 65536 := by decide
        rw [List.length_map, List.length_append, List.length_take, sizeLine_eq]
        omega
      · rw [upd_ne (ne_of_none e hD)]
        exact s4 _ _ e
      · rw [upd_ne nDl.symm]
        exact e4l
      · rw [upd_same, take_snoc hz', ← List.append_assoc, List.map_append (l₂ := [z'])]
        rfl
    · obtain ⟨s4, _, e4⟩ := r4
      refine ⟨s4, ?_⟩
      rw [st]
      rw [List.length_map, List.take_length] at e4
      exact e4
  · obtain ⟨s1, eD⟩ := r
    rw [el, List.take_length] at eD
    exact q H' s1 eD
theorem strAny {X : Cx} : CallR X (.type "str") (fun xs H Q => (∃ i, xs = [V.int i] ∧ i.natAbs.log2 < 1920 ∧ Q (V.str (Str.ofString (toString i))) H) ∨ ∃ a, xs = [V.str a] ∧ Q (V.str a) H) := CallR.or call_str_int SkE.call_str_str
section
variable {P : Program} {w : World} {K : PySem.W.Frag} {mg : Str → Option Value} {base : Heap}
theorem ok_twd {f fV fI : Addr} {fd dV dI : FuncData} {n : Nat} (n2 : n ≤ 2) (F0 : Fun K "_term_words" "_term_words" sTWd f fd) (M : Blt mg) (GV : FnOk P w K mg base CX0 2 fV dV ["value"] (spB K isValue)) (kV : PySem.W.keepIn K (.ref fV) = true) (bV : Binds K dV ["value"] []) (gV : mg "is_value" = some (.ref fV))
    (GI : FnOk P w K mg base CX0 3 fI dI ["term"] (spInner K)) (kI : PySem.W.keepIn K (.ref fI) = true) (bI : Binds K dI ["term"] []) (gI : mg "inner_terms" = some (.ref fI)) (b : Binds K fd ["term"] []) (g : mg "_term_words" = some (.ref f)) :
    ∀ k, k ≤ 8 → FnOk P w K mg base CX0 (4 + k) f fd ["term"] (spTWd K n k) := by
  intro k
  induction k with
  | zero =>
    intro _
    refine F0.ok scTWd (fun vs H Q E h => ?_) (fun cdv A outer s H vs Q E hr h => ?_)
    · obtain ⟨v, d, H0, rfl, _⟩ := h
      rfl
    · obtain ⟨v, d, H0, rfl, _, _, o, _⟩ := h
      exact o.elim
  | succ k ih =>
    intro k8
    have ih := ih (by omega)
    refine F0.ok scTWd (fun vs H Q E h => ?_) (fun cdv A outer s H vs Q E hr h => ?_)
    · obtain ⟨v, d, H0, rfl, _⟩ := h
      rfl
    · obtain ⟨v, d, H0, rfl, s0, hv, o, q⟩ := h
      have le4 : ∀ {m : Nat}, m ≤ 4 → m ≤ 4 + k := fun h => Nat.le_trans h (Nat.le_add_right 4 k)
      refine' ⟨_, pss_cons (ps_if (pt_val (pe_call (E := E0) GV (hr.mono (le4 (by decide))) (by rfl) gV kV bV .nil pass0 (pa_cons (pv 0) pa_nil))) (pss_one (ps_ret (pe_lst (pa_cons (pe_callTy strAny (by rfl) M.str (by decide +kernel) (pa_cons (pv 0) pa_nil)) pa_nil)))) pss_nil)
        (pss_cons (ps_set (i := 1) scTWd.nd rfl (.inl rfl) (pe_lst (pa_cons (pe_callTy strAny (by rfl) M.str (by decide +kernel) (pa_cons (pe_ix ix_tup (pv 0) pe_int (fun _ _ => rfl)) pa_nil)) pa_nil)))
        (pss_cons (ps_if (pt_cmpR op_in_seq (pe_ix ix_tup (pv 0) pe_int (fun _ _ => rfl)) (pe_tup (pa_cons pe_str (pa_cons pe_str (pa_cons pe_str pa_nil)))) (by rfl)) (pss_one (ps_expr (pe_bm PySem.F.plainAttrs_list PySem.F.slot_list_append PySem.F.type_list_append mt_append (pv 1) (pa_cons (pe_callTy strAny (by rfl) M.str (by decide +kernel) (pa_cons (pe_ix ix_tup (pv 0) pe_int (fun _ _ => rfl)) pa_nil)) pa_nil)))) pss_nil)
        (pss_cons (ps_if (pt_cmpR op_eq (pe_ix ix_tup (pv 0) pe_int (fun _ _ => rfl)) pe_str (nomark _)) (pss_one (ps_expr (pe_bm PySem.F.plainAttrs_list PySem.F.slot_list_append PySem.F.type_list_append mt_append (pv 1) (pa_cons (pe_callTy strAny (by rfl) M.str (by decide +kernel) (pa_cons (pe_callB call_len_seq (by rfl) M.len PySem.boot_len (pa_cons (pe_ix ix_tup (pv 0) pe_int (fun _ _ => rfl)) pa_nil)) pa_nil)) pa_nil)))) pss_nil)
        (pss_one (ps_ret (pe_op op_cat (pv 1) ?e)))))), ?r⟩
      case e =>
        refine' pe_lc2 (own := [("inner", 2), ("word", 3)]) (vs1 := [3]) (g := gName 2) (g1 := gName 3) (tt := tYes) (tt1 := tYes) (te := tVar 3) (wi1 := iList K (tCall (spTWd K n k) [] E0 (tCons (tVar 2) tNil))) (by rfl) scTWd.nd (pi_list (pe_call (E := E0) GI (hr.mono (le4 (by decide))) (by rfl) gI kI bI .nil pass0 (pa_cons (pv 0) pa_nil))) (blkOk_by (own := [("inner", 2), ("word", 3)]) (N := ["term", "words", "inner", "word"]) (sc := defScope sTWd) (by decide +kernel)) (by decide)
          ?hg ?ht ?hi ?hg1 ?ht1 ?he
        case hg => exact fun _ _ _ _ _ => pg_name (i := 2) scTWd.nd rfl (Or.inl rfl)
        case ht => exact fun _ _ _ _ _ => pts_nil
        case hi => exact fun _ _ _ _ _ => pi_list (pe_call (E := E0) ih hr (by rfl) g F0.kp b .nil pass0 (pa_cons (pv 2) pa_nil))
        case hg1 => exact fun _ _ _ _ _ => pg_name (i := 3) scTWd.nd rfl (Or.inl rfl)
        case ht1 => exact fun _ _ _ _ _ => pts_nil
        case he => exact fun _ _ _ _ _ => pv 3
      have gd := okT_gd (k + 1) d o
      have sz := gd_sz (k + 1) d gd
      refine ⟨v, rfl, v, d, rfl, dp_same s0 hv, sz, fun H1 s1 => ⟨_, rfl, ?_⟩⟩
      rcases o with ⟨i, i3, rfl⟩ | ⟨i, iN, i3, rfl⟩ | ⟨z, hz, rfl⟩ | ⟨z, ds, hz, l3, o, rfl⟩ | ⟨w, ds, ho, o, rfl⟩
      · cases hv
        have tv : isValue (.int ((i : Nat) : Int)) = true := by
          show (decide ((0 : Int) ≤ (i : Nat)) && decide (((i : Nat) : Int) < 3)) = true
          rw [decide_eq_true (show (0 : Int) ≤ (i : Nat) by omega), decide_eq_true (show ((i : Nat) : Int) < 3 by omega)]
          rfl
        refine iteT' tv ⟨.int (i : Nat), rfl, .inl ⟨i, rfl, (str_fig i3).2, (by show 1 ≤ sizeLine; decide), fun l nl => q l _ (s1.trans (same_upd nl)) (s1.free nl) ?_⟩⟩
        rw [(str_fig i3).1]
        exact upd_same
      · have ei : inner (.tuple [.str "arg", .int (i : Nat)]) = ([] : List PyData) := rfl
        have ew : wordsT (k + 1) (.tuple [.str "arg", .int (i : Nat)]) = ([("arg" : Str), figW i] : List Str) ++ (([] : List PyData)).flatMap (wordsT k) := rfl
        cases hv with
        | @tup a ys _ hs hd =>
        cases hd with
        | @cons x0 xr _ _ h0 hr0 =>
        cases h0
        have hr1 := hr0
        cases hr0 with
        | @cons x1 xr2 _ _ hx1 hr2 =>
        cases hx1
        cases hr2
        refine iteF' rfl ?_
        dsimp only [tNext]
        have hsH := same_sqT s0 hs
        refine ⟨.ref a, rfl, a, _, 0, .str "arg", rfl, rfl, same_sqT s1 hsH, atI_nat (j := 0) rfl, .inr ⟨"arg", rfl, (by show 1 ≤ sizeLine; decide), fun l nl => ?_⟩⟩
        have nlH : H l = none := s1.free nl
        have s2 := s1.trans (same_upd (o := HO.lst [V.str ("arg" : Str)]) nl)
        have el : (upd H1 l (.lst [V.str ("arg" : Str)])) l = some (.lst [V.str ("arg" : Str)]) := upd_same
        generalize upd H1 l (.lst [V.str ("arg" : Str)]) = H2 at s2 el ⊢
        dsimp only [gName, List.set]
        refine ⟨.ref a, rfl, a, _, 0, .str "arg", rfl, rfl, same_sqT s2 hsH, atI_nat (j := 0) rfl, (by show 3 ≤ sizeLine; decide), fun p3 np3 => ⟨p3, _, rfl, .inr (.inl (.inl upd_same)), rfl, rfl, _, rfl, ?_⟩⟩
        have s3 := s2.trans (same_upd (o := HO.tup [V.str "arg", .str "cell", .str "call"]) np3)
        have el3 := same_upd (o := HO.tup [V.str "arg", .str "cell", .str "call"]) np3 _ _ el
        generalize upd H2 p3 (.tup [V.str "arg", .str "cell", .str "call"]) = H3 at s3 el3 ⊢
        have yes : inV (.str ("arg" : Str)) [V.str "arg", .str "cell", .str "call"] = true := by
          have := inV_strs ("arg" : Str) ["arg", "cell", "call"]
          rw [decide_eq_true (by decide +kernel)] at this
          exact this
        refine iteT' yes ⟨.ref l, rfl, .inl ⟨rfl, _, .inl (.inl el3)⟩, .ref a, rfl, a, _, 1, .int (i : Nat), rfl, rfl, same_sqT s3 hsH, atI_nat (j := 1) rfl, .inl ⟨(i : Nat), rfl, (str_fig i3).2, ?_⟩⟩
        rw [(str_fig i3).1]
        refine ⟨l, _, _, rfl, rfl, el3, (by show 1 < sizeLine; decide), ?_⟩
        have s4 : Same H (upd H3 l (.lst ([V.str ("arg" : Str)] ++ [V.str (figW i)]))) := but_new_same s3 nlH But.upd
        have el4 : (upd H3 l (.lst ([V.str ("arg" : Str)] ++ [V.str (figW i)]))) l = some (.lst [V.str "arg", .str (figW i)]) := upd_same
        generalize upd H3 l (.lst ([V.str ("arg" : Str)] ++ [V.str (figW i)])) = H4 at s4 el4 ⊢
        dsimp only
        refine ⟨.ref a, rfl, a, _, 0, .str "arg", rfl, rfl, same_sqT s4 hsH, atI_nat (j := 0) rfl, rfl, _, rfl, ?_⟩
        rw [dstr]
        refine iteF' (decide_eq_false (by decide +kernel)) ?_
        dsimp only [tNext]
        have sA := s4
        have elA := el4
        refine ⟨.ref l, rfl, .ref a, rfl, .ref a, _, (n : Int), H0, rfl, s0.trans sA, .tup hs (.cons (.str _) hr1), sz, gd_form gd, fun p xs H6 s6 np e6 hd6 => ⟨p, rfl, ⟨_, .inl (.inl e6)⟩, fun D hD => ?_⟩⟩
        rw [ei] at hd6
        refine words_walk (n := n) (f := k) hD (s0.trans (sA.trans s6)) e6 hd6 (fun x m => by cases m) (Nat.zero_le _) (by omega) ?_ ?_ ?_ (fun x H' Q' hsp => ?_) (fun H7 s7 eD => ?_)
        · exact fun _ => rfl
        · exact fun _ _ => rfl
        · exact fun _ _ => rfl
        · exact ⟨x, rfl, hsp⟩
        · refine ⟨l, D, _, _, rfl, rfl, s7 _ _ (s6 _ _ elA), eD, ?_, fun p2 np2 => q p2 _ (sA.trans (s6.trans (s7.trans (same_upd np2)))) ((sA.trans (s6.trans s7)).free np2) ?_⟩
          · have := flat_words (n := n) (f := k) (ds := ([] : List PyData)) (m := 3) (Nat.zero_le _) (fun x m => by cases m)
            have h2 : 4 ^ k ≤ 4 ^ 8 := Nat.pow_le_pow_right (by decide) (by omega)
            have h3 : (4 : Nat) ^ 8 = 65536 := by decide
            rw [List.length_map, sizeLine_eq]
            simp only [List.length_cons, List.length_nil]
            omega
          · rw [upd_same, ew, List.map_append]
            rfl
      · have ei : inner (.tuple [.str "cell", .str z]) = ([] : List PyData) := rfl
        have ew : wordsT (k + 1) (.tuple [.str "cell", .str z]) = ([("cell" : Str), z] : List Str) ++ (([] : List PyData)).flatMap (wordsT k) := rfl
        cases hv with
        | @tup a ys _ hs hd =>
        cases hd with
        | @cons x0 xr _ _ h0 hr0 =>
        cases h0
        have hr1 := hr0
        cases hr0 with
        | @cons x1 xr2 _ _ hx1 hr2 =>
        cases hx1
        cases hr2
        refine iteF' rfl ?_
        dsimp only [tNext]
        have hsH := same_sqT s0 hs
        refine ⟨.ref a, rfl, a, _, 0, .str "cell", rfl, rfl, same_sqT s1 hsH, atI_nat (j := 0) rfl, .inr ⟨"cell", rfl, (by show 1 ≤ sizeLine; decide), fun l nl => ?_⟩⟩
        have nlH : H l = none := s1.free nl
        have s2 := s1.trans (same_upd (o := HO.lst [V.str ("cell" : Str)]) nl)
        have el : (upd H1 l (.lst [V.str ("cell" : Str)])) l = some (.lst [V.str ("cell" : Str)]) := upd_same
        generalize upd H1 l (.lst [V.str ("cell" : Str)]) = H2 at s2 el ⊢
        dsimp only [gName, List.set]
        refine ⟨.ref a, rfl, a, _, 0, .str "cell", rfl, rfl, same_sqT s2 hsH, atI_nat (j := 0) rfl, (by show 3 ≤ sizeLine; decide), fun p3 np3 => ⟨p3, _, rfl, .inr (.inl (.inl upd_same)), rfl, rfl, _, rfl, ?_⟩⟩
        have s3 := s2.trans (same_upd (o := HO.tup [V.str "arg", .str "cell", .str "call"]) np3)
        have el3 := same_upd (o := HO.tup [V.str "arg", .str "cell", .str "call"]) np3 _ _ el
        generalize upd H2 p3 (.tup [V.str "arg", .str "cell", .str "call"]) = H3 at s3 el3 ⊢
        have yes : inV (.str ("cell" : Str)) [V.str "arg", .str "cell", .str "call"] = true := by
          have := inV_strs ("cell" : Str) ["arg", "cell", "call"]
          rw [decide_eq_true (by decide +kernel)] at this
          exact this
        refine iteT' yes ⟨.ref l, rfl, .inl ⟨rfl, _, .inl (.inl el3)⟩, .ref a, rfl, a, _, 1, .str z, rfl, rfl, same_sqT s3 hsH, atI_nat (j := 1) rfl, .inr ⟨z, rfl, l, _, _, rfl, rfl, el3, (by show 1 < sizeLine; decide), ?_⟩⟩
        have s4 : Same H (upd H3 l (.lst ([V.str ("cell" : Str)] ++ [V.str z]))) := but_new_same s3 nlH But.upd
        have el4 : (upd H3 l (.lst ([V.str ("cell" : Str)] ++ [V.str z]))) l = some (.lst [V.str "cell", .str z]) := upd_same
        generalize upd H3 l (.lst ([V.str ("cell" : Str)] ++ [V.str z])) = H4 at s4 el4 ⊢
        dsimp only
        refine ⟨.ref a, rfl, a, _, 0, .str "cell", rfl, rfl, same_sqT s4 hsH, atI_nat (j := 0) rfl, rfl, _, rfl, ?_⟩
        rw [dstr]
        refine iteF' (decide_eq_false (by decide +kernel)) ?_
        dsimp only [tNext]
        have sA := s4
        have elA := el4
        refine ⟨.ref l, rfl, .ref a, rfl, .ref a, _, (n : Int), H0, rfl, s0.trans sA, .tup hs (.cons (.str _) hr1), sz, gd_form gd, fun p xs H6 s6 np e6 hd6 => ⟨p, rfl, ⟨_, .inl (.inl e6)⟩, fun D hD => ?_⟩⟩
        rw [ei] at hd6
        refine words_walk (n := n) (f := k) hD (s0.trans (sA.trans s6)) e6 hd6 (fun x m => by cases m) (Nat.zero_le _) (by omega) ?_ ?_ ?_ (fun x H' Q' hsp => ?_) (fun H7 s7 eD => ?_)
        · exact fun _ => rfl
        · exact fun _ _ => rfl
        · exact fun _ _ => rfl
        · exact ⟨x, rfl, hsp⟩
        · refine ⟨l, D, _, _, rfl, rfl, s7 _ _ (s6 _ _ elA), eD, ?_, fun p2 np2 => q p2 _ (sA.trans (s6.trans (s7.trans (same_upd np2)))) ((sA.trans (s6.trans s7)).free np2) ?_⟩
          · have := flat_words (n := n) (f := k) (ds := ([] : List PyData)) (m := 3) (Nat.zero_le _) (fun x m => by cases m)
            have h2 : 4 ^ k ≤ 4 ^ 8 := Nat.pow_le_pow_right (by decide) (by omega)
            have h3 : (4 : Nat) ^ 8 = 65536 := by decide
            rw [List.length_map, sizeLine_eq]
            simp only [List.length_cons, List.length_nil]
            omega
          · rw [upd_same, ew, List.map_append]
            rfl
      · have ei : inner (.tuple [.str "call", .str z, .tuple ds]) = ds := rfl
        have ew : wordsT (k + 1) (.tuple [.str "call", .str z, .tuple ds]) = ([("call" : Str), z, figW ds.length] : List Str) ++ (ds).flatMap (wordsT k) := rfl
        cases hv with
        | @tup a ys _ hs hd =>
        cases hd with
        | @cons x0 xr _ _ h0 hr0 =>
        cases h0
        have hr1 := hr0
        cases hr0 with
        | @cons x1 xr2 _ _ hx1 hr2 =>
        cases hx1
        cases hr2 with
        | @cons x2 xr3 _ _ hx2 hr3 =>
        cases hr3
        cases hx2 with
        | @tup e3 vs3 _ hse hde =>
        refine iteF' rfl ?_
        dsimp only [tNext]
        have hsH := same_sqT s0 hs
        refine ⟨.ref a, rfl, a, _, 0, .str "call", rfl, rfl, same_sqT s1 hsH, atI_nat (j := 0) rfl, .inr ⟨"call", rfl, (by show 1 ≤ sizeLine; decide), fun l nl => ?_⟩⟩
        have nlH : H l = none := s1.free nl
        have s2 := s1.trans (same_upd (o := HO.lst [V.str ("call" : Str)]) nl)
        have el : (upd H1 l (.lst [V.str ("call" : Str)])) l = some (.lst [V.str ("call" : Str)]) := upd_same
        generalize upd H1 l (.lst [V.str ("call" : Str)]) = H2 at s2 el ⊢
        dsimp only [gName, List.set]
        refine ⟨.ref a, rfl, a, _, 0, .str "call", rfl, rfl, same_sqT s2 hsH, atI_nat (j := 0) rfl, (by show 3 ≤ sizeLine; decide), fun p3 np3 => ⟨p3, _, rfl, .inr (.inl (.inl upd_same)), rfl, rfl, _, rfl, ?_⟩⟩
        have s3 := s2.trans (same_upd (o := HO.tup [V.str "arg", .str "cell", .str "call"]) np3)
        have el3 := same_upd (o := HO.tup [V.str "arg", .str "cell", .str "call"]) np3 _ _ el
        generalize upd H2 p3 (.tup [V.str "arg", .str "cell", .str "call"]) = H3 at s3 el3 ⊢
        have yes : inV (.str ("call" : Str)) [V.str "arg", .str "cell", .str "call"] = true := by
          have := inV_strs ("call" : Str) ["arg", "cell", "call"]
          rw [decide_eq_true (by decide +kernel)] at this
          exact this
        refine iteT' yes ⟨.ref l, rfl, .inl ⟨rfl, _, .inl (.inl el3)⟩, .ref a, rfl, a, _, 1, .str z, rfl, rfl, same_sqT s3 hsH, atI_nat (j := 1) rfl, .inr ⟨z, rfl, l, _, _, rfl, rfl, el3, (by show 1 < sizeLine; decide), ?_⟩⟩
        have s4 : Same H (upd H3 l (.lst ([V.str ("call" : Str)] ++ [V.str z]))) := but_new_same s3 nlH But.upd
        have el4 : (upd H3 l (.lst ([V.str ("call" : Str)] ++ [V.str z]))) l = some (.lst [V.str "call", .str z]) := upd_same
        generalize upd H3 l (.lst ([V.str ("call" : Str)] ++ [V.str z])) = H4 at s4 el4 ⊢
        dsimp only
        refine ⟨.ref a, rfl, a, _, 0, .str "call", rfl, rfl, same_sqT s4 hsH, atI_nat (j := 0) rfl, rfl, _, rfl, ?_⟩
        rw [dstr]
        refine iteT' (decide_eq_true rfl) ?_
        refine ⟨.ref l, rfl, .inl ⟨rfl, _, .inl (.inl el4)⟩, .ref a, rfl, a, _, 2, .ref e3, rfl, rfl, same_sqT s4 hsH, atI_nat (j := 2) rfl, e3, _, rfl, .inr (same_sqT (s0.trans s4) hse), ?_⟩
        rw [dpA_length hde]
        refine .inl ⟨(ds.length : Nat), rfl, (str_fig l3).2, ?_⟩
        rw [(str_fig l3).1]
        refine ⟨l, _, _, rfl, rfl, el4, (by show 2 < sizeLine; decide), ?_⟩
        have sA : Same H (upd H4 l (.lst ([V.str "call", .str z] ++ [V.str (figW ds.length)]))) := but_new_same s4 nlH But.upd
        have elA : (upd H4 l (.lst ([V.str "call", .str z] ++ [V.str (figW ds.length)]))) l = some (.lst [V.str "call", .str z, .str (figW ds.length)]) := upd_same
        generalize upd H4 l (.lst ([V.str "call", .str z] ++ [V.str (figW ds.length)])) = H5 at sA elA ⊢
        dsimp only
        refine ⟨.ref l, rfl, .ref a, rfl, .ref a, _, (n : Int), H0, rfl, s0.trans sA, .tup hs (.cons (.str _) hr1), sz, gd_form gd, fun p xs H6 s6 np e6 hd6 => ⟨p, rfl, ⟨_, .inl (.inl e6)⟩, fun D hD => ?_⟩⟩
        rw [ei] at hd6
        refine words_walk (n := n) (f := k) hD (s0.trans (sA.trans s6)) e6 hd6 o (by omega) (by omega) ?_ ?_ ?_ (fun x H' Q' hsp => ?_) (fun H7 s7 eD => ?_)
        · exact fun _ => rfl
        · exact fun _ _ => rfl
        · exact fun _ _ => rfl
        · exact ⟨x, rfl, hsp⟩
        · refine ⟨l, D, _, _, rfl, rfl, s7 _ _ (s6 _ _ elA), eD, ?_, fun p2 np2 => q p2 _ (sA.trans (s6.trans (s7.trans (same_upd np2)))) ((sA.trans (s6.trans s7)).free np2) ?_⟩
          · have := flat_words (n := n) (f := k) (ds := ds) (m := 3) (by omega) o
            have h2 : 4 ^ k ≤ 4 ^ 8 := Nat.pow_le_pow_right (by decide) (by omega)
            have h3 : (4 : Nat) ^ 8 = 65536 := by decide
            rw [List.length_map, sizeLine_eq]
            simp only [List.length_cons, List.length_nil]
            omega
          · rw [upd_same, ew, List.map_append]
            rfl
      · obtain ⟨h1, h2, h3, _⟩ := opN_ne ho
        have ew : wordsT (k + 1) (.tuple (.str w :: ds)) = [w] ++ ds.flatMap (wordsT k) := by
          show (if w = "arg" then _ else if w = "cell" then _ else if w = "call" then _ else w :: ds.flatMap (wordsT k)) = _
          rw [if_neg h1, if_neg h2, if_neg h3]
          rfl
        have ei : inner (.tuple (.str w :: ds)) = ds := by
          show (if w = "arg" ∨ w = "cell" then _ else if w = "call" then _ else ds) = _
          rw [if_neg (fun z => z.elim h1 h2), if_neg h3]
        cases hv with
        | @tup a ys _ hs hd =>
        cases hd with
        | @cons x0 xr _ _ h0 hr0 =>
        cases h0
        refine iteF' rfl ?_
        dsimp only [tNext]
        have hs1 : SqT K H1 a (V.str w :: xr) := same_sqT (s0.trans s1) hs
        refine ⟨.ref a, rfl, a, _, 0, .str w, rfl, rfl, hs1, atI_nat (j := 0) rfl, .inr ⟨w, rfl, (by show 1 ≤ sizeLine; decide), fun l nl => ?_⟩⟩
        have s2 := same_upd (o := HO.lst [V.str w]) nl
        have el : (upd H1 l (.lst [V.str w])) l = some (.lst [V.str w]) := upd_same
        generalize upd H1 l (.lst [V.str w]) = H2 at s2 el ⊢
        dsimp only [gName, List.set]
        refine ⟨.ref a, rfl, a, _, 0, .str w, rfl, rfl, same_sqT s2 hs1, atI_nat (j := 0) rfl, (by show 3 ≤ sizeLine; decide), fun p3 np3 => ⟨p3, _, rfl, .inr (.inl (.inl upd_same)), rfl, rfl, _, rfl, ?_⟩⟩
        have s3 := same_upd (o := HO.tup [V.str "arg", .str "cell", .str "call"]) np3
        generalize upd H2 p3 (.tup [V.str "arg", .str "cell", .str "call"]) = H3 at s3 ⊢
        have no : inV (.str w) [V.str "arg", .str "cell", .str "call"] = false := by
          have := inV_strs w ["arg", "cell", "call"]
          rw [decide_eq_false (by simp [h1, h2, h3])] at this
          exact this
        refine iteF' no ?_
        dsimp only [tNext]
        refine ⟨.ref a, rfl, a, _, 0, .str w, rfl, rfl, same_sqT (s2.trans s3) hs1, atI_nat (j := 0) rfl, rfl, _, rfl, ?_⟩
        rw [dstr]
        refine iteF' (decide_eq_false h3) ?_
        dsimp only [tNext]
        have sA := s1.trans (s2.trans s3)
        refine ⟨.ref l, rfl, .ref a, rfl, .ref a, _, (n : Int), H0, rfl, s0.trans sA, .tup hs (.cons (.str _) hr0), sz, gd_form gd, fun p xs H6 s6 np e6 hd6 => ⟨p, rfl, ⟨_, .inl (.inl e6)⟩, fun D hD => ?_⟩⟩
        rw [ei] at hd6
        refine words_walk (n := n) (f := k) hD (s0.trans (sA.trans s6)) e6 hd6 o (opN_le ho) (by omega) ?_ ?_ ?_ (fun x H' Q' hsp => ?_) (fun H7 s7 eD => ?_)
        · exact fun _ => rfl
        · exact fun _ _ => rfl
        · exact fun _ _ => rfl
        · exact ⟨x, rfl, hsp⟩
        · refine ⟨l, D, _, _, rfl, rfl, s7 _ _ (s6 _ _ (s3 _ _ el)), eD, ?_, fun p2 np2 => q p2 _ (sA.trans (s6.trans (s7.trans (same_upd np2)))) ((sA.trans (s6.trans s7)).free np2) ?_⟩
          · have := flat_words (m := 3) (opN_le ho) o
            have h2 : 4 ^ k ≤ 4 ^ 8 := Nat.pow_le_pow_right (by decide) (by omega)
            have h3 : (4 : Nat) ^ 8 = 65536 := by decide
            rw [List.length_map, sizeLine_eq]
            show _ + _ ≤ _
            simp only [List.length_cons, List.length_nil]
            omega
          · rw [upd_same, ew, List.map_append]
            rfl
end
/-! ### write_term -/
abbrev sWr : Stmt := topS 26
theorem scWr : FnScope ["term"] ["term"] (defScope sWr) := ⟨rfl, rfl, rfl, by decide +kernel, rfl, by decide +kernel, by decide +kernel⟩
theorem fig_len (k : Nat) : (figW k).length ≤ 8 := by
  match k with
  | 0 => decide +kernel
  | 1 => decide +kernel
  | k + 2 => exact (by decide +kernel : ("2" : Str).length ≤ 8)
theorem op_len {w : Str} {k : Nat} (h : opN w = some k) : w.length ≤ 8 := by
  unfold opN at h
  split at h
  · next e => rw [e]; decide +kernel
  split at h
  · next e => rw [e]; decide +kernel
  split at h
  · next e => rw [e]; decide +kernel
  split at h
  · next e => rw [e]; decide +kernel
  split at h
  · next e => rw [e]; decide +kernel
  · cases h
theorem words_short {n : Nat} (nm : ∀ z : Str, isName (.str z) = true → z.length ≤ 8) : ∀ (f : Nat) (d : PyData), okT n f d → ∀ w ∈ wordsT f d, w.length ≤ 8
  | 0, _, h => h.elim
  | f + 1, d, h => by
    have all : ∀ {ds : List PyData}, (∀ x ∈ ds, okT n f x) → ∀ w ∈ ds.flatMap (wordsT f), w.length ≤ 8 := fun {ds} o w m => by
      obtain ⟨d, hd, hw⟩ := List.mem_flatMap.mp m
      exact words_short nm f d (o d hd) w hw
    rcases h with ⟨k, _, rfl⟩ | ⟨k, _, _, rfl⟩ | ⟨z, hz, rfl⟩ | ⟨z, ds, hz, l3, o, rfl⟩ | ⟨w, ds, ho, o, rfl⟩
    · intro w m
      rw [List.mem_singleton.mp (show w ∈ [figW k] from m)]
      exact fig_len k
    · intro w m
      rcases List.mem_cons.mp (show w ∈ [("arg" : Str), figW k] from m) with rfl | m
      · decide +kernel
      · rw [List.mem_singleton.mp m]
        exact fig_len k
    · intro w m
      rcases List.mem_cons.mp (show w ∈ [("cell" : Str), z] from m) with rfl | m
      · decide +kernel
      · rw [List.mem_singleton.mp m]
        exact nm z hz
    · intro w m
      rcases List.mem_cons.mp (show w ∈ ("call" : Str) :: z :: figW ds.length :: ds.flatMap (wordsT f) from m) with rfl | m
      · decide +kernel
      rcases List.mem_cons.mp m with rfl | m
      · exact nm _ hz
      rcases List.mem_cons.mp m with rfl | m
      · exact fig_len _
      · exact all o w m
    · obtain ⟨h1, h2, h3, _⟩ := opN_ne ho
      have ew : wordsT (f + 1) (.tuple (.str w :: ds)) = w :: ds.flatMap (wordsT f) := by
        show (if w = "arg" then _ else if w = "cell" then _ else if w = "call" then _ else w :: ds.flatMap (wordsT f)) = _
        rw [if_neg h1, if_neg h2, if_neg h3]
      rw [ew]
      intro x m
      rcases List.mem_cons.mp m with rfl | m
      · exact op_len ho
      · exact all o x m
theorem sum_le {ws : List Str} (h : ∀ w ∈ ws, w.length ≤ 8) : (ws.map (·.length)).sum ≤ ws.length * 8 := by
  induction ws with
  | nil => exact Nat.zero_le _
  | cons w ws ih =>
    rw [List.map_cons, List.sum_cons, List.length_cons, Nat.succ_mul]
    have h1 := h w List.mem_cons_self
    have h2 := ih fun x m => h x (List.mem_cons_of_mem _ m)
    omega
def spWr (K : PySem.W.Frag) (n : Nat) : Sp := fun vs H Q _ => ∃ (v : V) (d : PyData), vs = [v] ∧ Dp K H v d ∧ okT n 8 d ∧ ∀ H', Same H H' → Q (.str (Txt.join blank (wordsT 8 d))) H'
section
variable {P : Program} {w : World} {K : PySem.W.Frag} {mg : Str → Option Value} {base : Heap}
theorem ok_wr {f fT : Addr} {fd dT : FuncData} {n : Nat} (nm : ∀ z : Str, isName (.str z) = true → z.length ≤ 8) (F0 : Fun K "write_term" "write_term" sWr f fd) (GT : FnOk P w K mg base CX0 12 fT dT ["term"] (spTWd K n 8)) (kT : PySem.W.keepIn K (.ref fT) = true) (bT : Binds K dT ["term"] []) (gT : mg "_term_words" = some (.ref fT)) : FnOk P w K mg base CX0 13 f fd ["term"] (spWr K n) := by
  refine F0.ok scWr (fun vs H Q E h => ?_) (fun cdv A outer s H vs Q E hr h => ?_)
  · obtain ⟨v, d, rfl, _⟩ := h
    rfl
  · obtain ⟨v, d, rfl, hv, o, q⟩ := h
    refine ⟨_, pss_one (ps_ret (pe_m1 PySem.F.slot_str_join PySem.F.type_str_join mt_join pe_str (pe_call (E := E0) GT hr (by rfl) gT kT bT .nil pass0 (pa_cons (pv 0) pa_nil)))), ?_⟩
    refine ⟨⟨_, rfl⟩, v, rfl, v, d, H, rfl, Same.refl _, hv, o, fun l H1 s1 nl el => ⟨_, l, wordsT 8 d, rfl, rfl, .inl (.inl (.inl el)), ?_, q H1 s1⟩⟩
    have h1 := sum_le (words_short nm 8 d o)
    have h2 := words_len 8 d o
    have h3 : 3 * 4 ^ 8 = 196608 := by decide
    have h4 : (Str.ofString " ").length = 1 := by decide +kernel
    rw [h4]
    omega
end
/-! ### C(e, k = v, ..) and o.m(e, ..) in a try -/
def tMakeKS (C : Addr) (n m : Nat) (sp : Sp) (gV : List V → List V → List V) (E : L2.St → XK) (t tk : TA) : TE := fun σ H Q => t σ H fun vs H1 => tk σ H1 fun zs H2 => vs.length = n ∧ zs.length = m ∧
  ∀ x dx, H2 x = none → H2 dx = none → dx ≠ x → sp (gV (.ref x :: vs) zs) (upd (upd H2 dx (.own x)) x (.ins C dx [])) (fun v H3 => v = .non ∧ Q (.ref x) H3) (E σ)
theorem pe_makeKS {X : Cx} {CX : CXT} {C f : Addr} {fd : FuncData} {k n : Nat} {ps ks : List Str} {sp : Sp} {x : Str} {p pos : Pos} {e : Expr} {es : List Expr} {kws : List Keyword} {t tk : TA} {E : L2.St → XK} {g : List Value → List Value → List Value} {gV : List V → List V → List V}
    (M : Mk X.K C f) (F : FnOk X.prog X.w X.K X.mg X.base CX k f fd ps sp) (hr : Room (k + 1) X.A) (vis : Gl X x) (at_ : X.mg x = some (.ref C)) (bind : KBn X.K fd ps (n + 1) ks g gV) (way : ∀ σ, PassesAt CX X σ (E σ)) (ha : PA X (e :: es) t) (hk : PK X kws tk)
    (all : (backToKw pos (keywordEach kws X.env)).all (·.1.isSome) = true := by rfl) (named : (backToKw pos (keywordEach kws X.env)).filterMap (·.1) = ks := by rfl) (dbg : (x == ("__debug__" : Str)) = false := by decide)
    (one : starEach (e :: es) X.env = (false, eval e X.env) :: starEach es X.env := by rfl) (nos : ((backTo pos (starEach (e :: es) X.env)).any (·.1) || (backToKw pos (keywordEach kws X.env)).any (·.1.isNone)) = false := by rfl) :
    PE X (.Call (.Name x p) (e :: es) kws pos) (tMakeKS C n ks.length sp gV E t tk) := ⟨fun pins s σ H Q I h => by
  refine wpAny_Call_Name_kw (ld_glob I vis at_ (PySem.W.callWith_KW (h₀ := X.base) I.ok.mod.kin M.kp all (thn (ha.run pos pins s σ H _ I h) fun us s1 z => ?_) nos one) dbg)
  obtain ⟨vs, H1, I1, r, q⟩ := z
  refine thn (hk.run pos pins s1 σ H1 _ I1 q) fun ws s2 z => ?_
  obtain ⟨zs, H2, I2, rz, l1, l2, q2⟩ := z
  let m := s2.heap.objs.size
  have here := q2 (m + 1) m (I2.hok.fresh (Nat.le_succ _)) (I2.hok.fresh (Nat.le_refl _)) (Nat.ne_of_lt (Nat.lt_succ_self _))
  have made := Inv.made (C := C) I2
  have many : (Value.ref (m + 1) :: us).length = n + 1 := congrArg Nat.succ (r.length.symm.trans l1)
  have rs := bind.rel (vs := V.ref (m + 1) :: vs) (us := Value.ref (m + 1) :: us) (.cons rfl r) rz
  have bs := bind.to ⟨_, s2.gens, s2.drawn, s2.toks, s2.os⟩ (Value.ref (m + 1) :: us) ws made.kIn many (rz.length.symm.trans l2)
  rw [named]
  refine ⟨I2.kIn, wpAny_call (make_map (f := f) I2.kIn M.makes M.init (beq_iff_eq.mp M.fn) (codeAny_mono (F.run _ X.stack _ _ ⟨Value.ref (m + 1) :: us, ks.zip ws⟩ (g (Value.ref (m + 1) :: us) ws) _ _ (E σ) (hr.make C us (ks.zip ws)) (made.env0.make C us (ks.zip ws)) bs rs here) fun r s' z => ?_))⟩
  cases r with
  | error er => exact way σ pins _ _ er s' made z
  | ok fl =>
    cases fl with
    | ret u => exact let ⟨v, G, J, rv, ev, q3⟩ := made.after z; by subst ev; exact ⟨rv, V.ref (m + 1), G, J, rfl, q3⟩
    | next => exact z.elim
    | brk => exact z.elim
    | cont => exact z.elim⟩
def tMethS (C : Addr) (m : Str) (sp : Sp) (E : L2.St → XK) (ta : TE) (t : TA) : TE := fun σ H Q => ta σ H fun x H1 => ∃ a dx fs, x = .ref a ∧ H1 a = some (.ins C dx fs) ∧ fs.lookup m = none ∧ t σ H1 fun vs H2 => sp (.ref a :: vs) H2 Q (E σ)
theorem pe_methS {X : Cx} {CX : CXT} {C f : Addr} {fd : FuncData} {k : Nat} {ps : List Str} {sp : Sp} {m : Str} {pos apos : Pos} {e o : Expr} {es : List Expr} {ta : TE} {t : TA} {E : L2.St → XK} {pl : Sem Bool} (ho : PE X o ta) (cls : Cls X.K C) (met : Meth X.K C m f)
    (F : FnOk X.prog X.w X.K X.mg X.base CX k f fd ps sp) (hr : Room k X.A) (bind : Binds X.K fd ps []) (way : ∀ σ, PassesAt CX X σ (E σ)) (ha : PA X (e :: es) t) (one : starEach (e :: es) X.env = (false, eval e X.env) :: starEach es X.env := by rfl)
    (nos : (backTo pos (starEach es X.env)).any (·.1) = false := by rfl)
    (runs : eval (.Call (.Attribute o m apos) (e :: es) [] pos) X.env = (do
      let obj ← eval o X.env
      standAt apos.atName
      let (g, hd) ← holding [obj] (getMethod obj m pl)
      callWith pos g hd (backTo pos (starEach (e :: es) X.env)) (backToKw pos (keywordEach [] X.env))) := by rfl) : PE X (.Call (.Attribute o m apos) (e :: es) [] pos) (tMethS C m sp E ta t) := ⟨fun pins s σ H Q I h => by
  refine PySem.W.methodCall_KW (pl := pl) (thn (ho.run pins s σ H _ I h) fun u s1 z => ?_) runs
  obtain ⟨x, H1, I1, rx, a, dx, fs, rfl, at_, none_, q⟩ := z
  cases (show u = Value.ref a from rx)
  refine getmeth_ok I1 at_ cls met none_ (PySem.W.callWith_K (first := [.ref a]) (h₀ := X.base) I.ok.mod.kin met.kp (thn (ha.run pos pins s1 σ H1 _ I1 q) fun us s2 z => ?_) one nos)
  obtain ⟨vs, H2, I2, r, q2⟩ := z
  exact ⟨I2.kIn, run_fnS (us := .ref a :: us) (vs := .ref a :: vs) F hr bind (way σ) I2 (.cons rfl r) q2⟩⟩
/-! ### an error's class; a def run while an exception is handled -/
/-- an error of the class C that keeps its argument under the name f: what its __init__ leaves -/
def spErr (C : Addr) (f : Str) : Sp := fun vs H Q _ => ∃ a v, vs = [.ref a, v] ∧ H a = some (exo a C none) ∧ ∀ d, H d = none → d ≠ a → Q .non (upd (upd H d (exd d [(f, v)])) a (exo a C (some d)))
/-- what is written of an error's class -/
structure ErrT (K : PySem.W.Frag) (mg : Str → Option Value) (x : Str) (f : Str) (C fI : Addr) : Prop where
  oex : OexC K C
  nof : PySem.W.findIn K (.ref C) f = some none
  ini : PySem.W.findIn K (.ref C) "__init__" = some (some (.ref fI))
  typ : PySem.W.typeIn K (.ref fI) = some (.type "function")
  nam : mg x = some (.ref C)
/-- what comes of raise C(v): its dict, new, holds v -/
def Left (H : Hp) (d : Addr) (f : Str) (v : V) (H' : Hp) : Prop := H d = none ∧ Same H H' ∧ H' d = some (.xd [(f, v)])
theorem mk_left {H : Hp} {C : Addr} {f : Str} {v : V} {Q : XK} (h : ∀ d H', Left H d f v H' → Q (.ref C) (some d) H') : ∀ a, H a = none → spErr C f [.ref a, v] (upd H a (exo a C none))
    (fun w H2 => w = .non ∧ ∃ (d : Addr) (fs : List (Str × V)), H2 a = some (exo a C (some d)) ∧ H2 d = some (exd d fs) ∧ H d = none ∧ Q (.ref C) (some d) (upd (L2.del H2 a) d (.xd fs))) (fun _ _ _ => False) := fun a na => by
  refine ⟨a, v, rfl, upd_same, fun d nd hda => ?_⟩
  have nd0 : H d = none := by rw [upd_ne hda] at nd; exact nd
  refine ⟨rfl, d, _, upd_same, by rw [upd_ne hda]; exact upd_same, nd0, h d _ ⟨nd0, fun b o e => ?_, upd_same⟩⟩
  have b1 : b ≠ d := ne_of_none e nd0
  have b2 : b ≠ a := ne_of_none e na
  rw [upd_ne b1, L2.del_ne b2, upd_ne b2, upd_ne b1, upd_ne b2]
  exact e
section
variable {P : Program} {w : World} {K : PySem.W.Frag} {mg : Str → Option Value} {base : Heap}
theorem Fun.okH {x qual : Str} {st : Stmt} {f : Addr} {fd : FuncData} {N ps : List Str} {k : Nat} {sp : Sp} (F : Fun K x qual st f fd) (S : FnScope N ps (defScope st)) (len : ∀ vs H Q E, sp vs H Q E → vs.length = ps.length)
    (body : ∀ (cdv : Value) (A : Around) (outer : List Env) (s : Shared) (H : Hp) (vs : List V) (Q : VK) (E : XK) (p : Addr × Obj), L2H.Hot1 A p → L2H.RoomH k (A.deeper (envOfC qual (defScope st) s.heap.objs.size f cdv)) → sp vs H Q E →
      ∃ t, PSs (L2H.cxH CX0 P w K mg base N qual (defScope st) f cdv A outer s H E p) (defBody st) t ∧ t { nx := fun _ H' => Q .non H', rt := Q } (start N vs) H) : L2H.FnH P w K mg base CX0 (k + 1) f fd ps sp := by
  obtain ⟨oc, od, kV, doc, pm, an, cdv, ct, osl, rfl, lk, hcd⟩ := F.ex
  exact L2H.fn_ofH lk hcd S len fun A outer s H vs Q E p hot hr hsp => body cdv A outer s H vs Q E p hot hr hsp
end
theorem left_same {H G H' : Hp} {d : Addr} {f : Str} {v : V} (s : Same H G) (l : Left G d f v H') : Left H d f v H' := ⟨s.free l.1, s.trans l.2.1, l.2.2⟩
/-! ### BadText -/
abbrev sBT : Stmt := inClass (topS 3) 0
theorem scBT : FnScope ["self", "index"] ["self", "index"] (defScope sBT) := ⟨rfl, rfl, rfl, by decide +kernel, rfl, by decide +kernel, by decide +kernel⟩
abbrev sRd : Stmt := topS 28
theorem scRd : FnScope ["text", "arguments", "words", "term"] ["text", "arguments"] (defScope sRd) := ⟨rfl, rfl, rfl, by decide +kernel, rfl, by decide +kernel, by decide +kernel⟩
section
variable {P : Program} {w : World} {K : PySem.W.Frag} {mg : Str → Option Value} {base : Heap}
theorem ok_badT {C f B : Addr} {fd : FuncData} (F : Fun K "__init__" "BadText.__init__" sBT f fd) (TB : OwnBase K mg "StoreError" B) (oex : OexC K C) (nof : PySem.W.findIn K (.ref C) "index" = some none) :
    FnOk P w K mg base CX0 1 f fd ["self", "index"] (spErr C "index") := by
  refine F.ok scBT (fun vs H Q E h => ?_) (fun cdv A outer s H vs Q E hr h => ?_)
  · obtain ⟨a, v, rfl, _⟩ := h
    rfl
  · obtain ⟨a, v, rfl, e, q⟩ := h
    refine ⟨_, pss_cons (ps_expr (pe_baseI (by rfl) TB (pa_cons (pv 0) (pa_cons pe_str pa_nil)))) (pss_one (ps_ost (pv 0) (pv 1))), ?_⟩
    refine ⟨.ref a, rfl, a, C, _, rfl, by show (1 : Nat) ≤ 1000; decide, oex, e, ?_⟩
    exact ⟨v, rfl, .ref a, rfl, a, C, rfl, oex, nof, .inl ⟨e, fun d nd ne => q d nd ne⟩⟩
theorem ok_badTH {C f B : Addr} {fd : FuncData} (F : Fun K "__init__" "BadText.__init__" sBT f fd) (TB : OwnBase K mg "StoreError" B) (oex : OexC K C) (nof : PySem.W.findIn K (.ref C) "index" = some none) :
    L2H.FnH P w K mg base CX0 1 f fd ["self", "index"] (spErr C "index") := by
  refine Fun.okH F scBT (fun vs H Q E h => ?_) (fun cdv A outer s H vs Q E p hot hr h => ?_)
  · obtain ⟨a, v, rfl, _⟩ := h
    rfl
  · obtain ⟨a, v, rfl, e, q⟩ := h
    refine ⟨_, pss_cons (ps_expr (pe_baseI (by rfl) TB (pa_cons (pv 0) (pa_cons pe_str pa_nil)))) (pss_one (ps_ost (pv 0) (pv 1))), ?_⟩
    refine ⟨.ref a, rfl, a, C, _, rfl, by show (1 : Nat) ≤ 1000; decide, oex, e, ?_⟩
    exact ⟨v, rfl, .ref a, rfl, a, C, rfl, oex, nof, .inl ⟨e, fun d nd ne => q d nd ne⟩⟩
end
/-! ### o.m() in a try -/
def tMethS0 (C : Addr) (m : Str) (sp : Sp) (E : L2.St → XK) (ta : TE) : TE := fun σ H Q => ta σ H fun x H1 => ∃ a dx fs, x = .ref a ∧ H1 a = some (.ins C dx fs) ∧ fs.lookup m = none ∧ sp [.ref a] H1 Q (E σ)
theorem pe_methS0 {X : Cx} {CX : CXT} {C f : Addr} {fd : FuncData} {k : Nat} {ps : List Str} {sp : Sp} {m : Str} {pos apos : Pos} {o : Expr} {ta : TE} {E : L2.St → XK} {pl : Sem Bool} (ho : PE X o ta) (cls : Cls X.K C) (met : Meth X.K C m f)
    (F : FnOk X.prog X.w X.K X.mg X.base CX k f fd ps sp) (hr : Room k X.A) (bind : Binds X.K fd ps []) (way : ∀ σ, PassesAt CX X σ (E σ))
    (runs : eval (.Call (.Attribute o m apos) [] [] pos) X.env = (do
      let obj ← eval o X.env
      standAt apos.atName
      let (g, hd) ← holding [obj] (getMethod obj m pl)
      callWith pos g hd (backTo pos (starEach [] X.env)) (backToKw pos (keywordEach [] X.env))) := by rfl) : PE X (.Call (.Attribute o m apos) [] [] pos) (tMethS0 C m sp E ta) := ⟨fun pins s σ H Q I h => by
  refine PySem.W.methodCall_KW (pl := pl) (thn (ho.run pins s σ H _ I h) fun u s1 z => ?_) runs
  obtain ⟨x, H1, I1, rx, a, dx, fs, rfl, at_, none_, q⟩ := z
  cases (show u = Value.ref a from rx)
  refine getmeth_ok I1 at_ cls met none_ ?_
  exact PySem.W.callWith_K0 (first := [.ref a]) I1.kIn met.kp (run_fnS (us := [.ref a]) (vs := [.ref a]) F hr bind (way σ) I1 (.cons rfl .nil) q)⟩
/-! ### read_term -/
def readT (n : Nat) (d : PyData) : Option PyData := match d with
  | .str z => (takeT n 8 (Txt.split z blank)).bind fun p => if p.2 = [] ∧ isTerm n p.1 = true then some p.1 else none
  | _ => none
/-- a text that the reader takes apart -/
def okTxt (d : PyData) : Prop := ∀ z, d = .str z → z.length + 2 ≤ sizeLine ∧ ∀ w ∈ Txt.split z blank, w.length ≤ 1000
def spRd (K : PySem.W.Frag) (CB : Addr) : Sp := fun vs H Q E => ∃ (v : V) (d : PyData) (n : Nat), vs = [v, .int (n : Nat)] ∧ n ≤ 2 ∧ Dp K H v d ∧ okTxt d ∧
  ((∃ t, readT n d = some t ∧ ∀ u H', Same H H' → Dp K H' u t → Q u H') ∨ (readT n d = none ∧ ∀ dd H', Left H dd "index" (.int 0) H' → E (.ref CB) (some dd) H'))
section
variable {P : Program} {w : World} {K : PySem.W.Frag} {mg : Str → Option Value} {base : Heap}
theorem ok_rd {CW CN CB f fT fE fB fW : Addr} {fd dT dE dB dW : FuncData} (F0 : Fun K "read_term" "read_term" sRd f fd) (M : Blt mg) (WK : WdK K CW) (N : NfK K mg CN) (nn : PySem.W.exmOne K (.ref CN) (.ref CN) = some true)
    (TE : ErrT K mg "BadText" "index" CB fB) (GB : FnOk P w K mg base CX0 1 fB dB ["self", "index"] (spErr CB "index")) (GH : L2H.FnH P w K mg base CX0 1 fB dB ["self", "index"] (spErr CB "index")) (bB : Binds K dB ["self", "index"] [])
    (MW : Mk K CW fW) (GW : FnOk P w K mg base CX0 1 fW dW ["self", "row"] (spWdI CW)) (bW : Binds K dW ["self", "row"] []) (gW : mg "Words" = some (.ref CW))
    (GT : FnOk P w K mg base (L2N.CX P w) 13 fT dT ["words", "arguments"] (spTW K CW CN)) (kT : PySem.W.keepIn K (.ref fT) = true) (bT : Binds K dT ["words", "arguments"] []) (gT : mg "_take_whole_term" = some (.ref fT))
    (GE : FnOk P w K mg base (L2N.CX P w) 1 fE dE ["self"] (spWdE CW CN)) (mE : Meth K CW "end" fE) (bE : Binds K dE ["self"] []) : FnOk P w K mg base (L2.CX P w) 14 f fd ["text", "arguments"] (spRd K CB) := by
  refine F0.okX scRd (fun vs H Q E h => ?_) (fun cdv A outer s H vs Q E hr h => ?_)
  · obtain ⟨v, d, n, rfl, _⟩ := h
    rfl
  · obtain ⟨v, d, n, rfl, n2, hv, ht, h⟩ := h
    refine ⟨_, pss_cons (ps_if (pt_not (pt_val (pe_callB call_isi (by rfl) M.isinstance (by decide +kernel) (pa_cons (pv 0) (pa_cons (pe_bltn (v := .ty "str") (by rfl) M.str (by decide +kernel) rfl) pa_nil)))))
        (pss_one (ps_raise rfl (takes_of rfl rfl rfl rfl) (pmk_oex (k := 1) (ps := ["self", "index"]) (sp := spErr CB "index") (ds := []) (dvs := []) TE.oex TE.ini TE.typ GB (hr.mono (by decide)) bB .nil pass0 (by rfl) TE.nam (pa_cons pe_int pa_nil)))) pss_nil)
      (pss_cons (L2H.ps_try_onlyX (x := "NoForm") (c := .ref CN) (tb := fun W => tSeq (tAsg (tMake CW (spWdI CW) [] E0 (tCons (tVar 0) tNil)) (gName 2)) (tSeq (tAsg (tCallS (spTW K CW CN) (WE W) (tCons (tVar 2) (tCons (tVar 1) tNil))) (gName 3)) (tDrop (tMethS0 CW "end" (spWdE CW CN) (WE W) (tVar 2)))))
          (ts := fun _ _ _ => fun _ σ H1 => tMkO CB (spErr CB "index") [] (tCons (tC (.int 0)) tNil) σ H1 fun cls d H2 => E cls d H2) (Wout := fun cls d _ H1 => E cls d H1) rfl rfl ⟨rfl, by decide, .inl N.g⟩ (L2H.passesAt_of rfl) (takes_of rfl rfl rfl rfl)
          (fun W pn xe tk _ _ => pss_cons (ps_set (i := 2) scRd.nd rfl (.inl rfl) (pe_make MW GW (hr.mono (by decide)) (by rfl) gW bW .nil pass0 (pa_cons (pv 0) pa_nil)))
            (pss_cons (ps_set (i := 3) scRd.nd rfl (.inl rfl) (pe_callS GT hr (by rfl) gT kT bT (fun σ => L2N.passAt tk σ) (pa_cons (pv 2) (pa_cons (pv 1) pa_nil))))
              (pss_one (ps_expr (pe_methS0 (pv 2) WK.cl mE GE (hr.mono (by decide)) bE (fun σ => L2N.passAt tk σ))))))
          (fun a oe cls d pn hz hf tk hot => pss_one (L2H.ps_raiseH hot tk (L2H.PMk5.pmk (L2H.pmk5_oexH (k := 1) (ps := ["self", "index"]) (sp := spErr CB "index") TE.oex TE.ini TE.typ GH (L2H.roomH_mark (hr.mono (by decide : 1 + 1 ≤ 13)) _) hot bB (fun _ _ _ _ _ _ _ h => h.elim) (by rfl) TE.nam (pa_cons pe_int pa_nil))))))
      (pss_one (ps_ret (pv 3)))), ?_⟩
    refine ⟨v, rfl, v, .ty "str", _, _, _, rfl, .ty "str", dp_ty hv, kit_str K d, _, rfl, ?_⟩
    have bad : (∀ dd H', Left H dd "index" (.int 0) H' → E (.ref CB) (some dd) H') → ∀ (σ : L2.St) (D : Ends) (G : Hp), Same H G → wOnly K (.ref CN) (fun _ _ _ => fun _ σ H1 => tMkO CB (spErr CB "index") [] (tCons (tC (.int 0)) tNil) σ H1 fun cls d H2 => E cls d H2) (fun cls d _ H1 => E cls d H1) D (.ref CN) none σ G :=
      fun hE σ D G sG => ⟨true, nn, fun _ _ _ => ⟨(by decide : (1 : Nat) ≤ 1000), mk_left fun dd H' left => hE dd H' (left_same sG left)⟩, fun e => Bool.noConfusion e⟩
    by_cases hs : isStr d = true
    · obtain ⟨z, rfl⟩ : ∃ z, d = .str z := by cases d <;> first | exact ⟨_, rfl⟩ | cases hs
      obtain rfl : v = .str z := by cases hv; rfl
      refine iteF ?_
      dsimp only [tNext]
      refine ⟨.str z, rfl, fun x dx nx nd ne => ?_⟩
      have s1 : Same H (upd (upd H dx (.own x)) x (.ins CW dx [])) := fun b o e => by
        rw [upd_ne (ne_of_none e nx), upd_ne (ne_of_none e nd)]
        exact e
      refine ⟨x, dx, z, H, rfl, upd_same, s1, nx, (ht z rfl).1, (ht z rfl).2, fun l H1 s2 nl lx hW => ⟨rfl, ?_⟩⟩
      dsimp only [gName, List.set]
      refine ⟨.ref x, rfl, .int (n : Nat), rfl, x, l, _, n, rfl, n2, hW, ?_⟩
      have hr : readT n (.str z) = (takeT n 8 (Txt.split z blank)).bind fun p => if p.2 = [] ∧ isTerm n p.1 = true then some p.1 else none := rfl
      rw [hr] at h
      cases e : takeT n 8 (Txt.split z blank) with
      | none =>
        rw [e] at h
        rcases h with ⟨_, e2, _⟩ | ⟨_, hE⟩
        · cases e2
        · exact .inr ⟨fun d r z => (nomatch z), fun H2 b2 => bad hE _ _ H2 (but_new_same s2 nl b2)⟩
      | some p =>
        obtain ⟨t, r⟩ := p
        rw [e] at h
        change (∃ t', (if r = [] ∧ isTerm n t = true then some t else none) = some t' ∧ _) ∨ ((if r = [] ∧ isTerm n t = true then some t else none) = none ∧ _) at h
        by_cases hi : isTerm n t = true
        · refine .inl ⟨t, r, rfl, hi, fun v H2 b2 hW2 hv2 => ?_⟩
          dsimp only [gName, List.set]
          obtain ⟨dx2, ea2, _⟩ := id hW2
          refine ⟨.ref x, rfl, x, dx2, _, rfl, ea2, rfl, x, l, r, rfl, hW2, ?_⟩
          by_cases r0 : r = []
          · rw [if_pos ⟨r0, hi⟩] at h
            rcases h with ⟨t', e2, q⟩ | ⟨e2, _⟩
            · cases e2
              exact .inl ⟨r0, v, rfl, q v H2 (but_new_same s2 nl b2) hv2⟩
            · cases e2
          · rw [if_neg fun c => r0 c.1] at h
            rcases h with ⟨t', e2, q⟩ | ⟨_, hE⟩
            · cases e2
            · exact .inr ⟨r0, bad hE _ _ H2 (but_new_same s2 nl b2)⟩
        · rw [if_neg fun c => hi c.2] at h
          rcases h with ⟨t', e2, q⟩ | ⟨_, hE⟩
          · cases e2
          · exact .inr ⟨fun d' r' z => by cases z; exact Bool.eq_false_iff.mpr hi, fun H2 b2 => bad hE _ _ H2 (but_new_same s2 nl b2)⟩
    · have hs := Bool.eq_false_iff.mpr hs
      rw [hs]
      refine iteT ?_
      have no : readT n d = none := by cases d <;> first | rfl | cases hs
      rcases h with ⟨_, e2, _⟩ | ⟨_, hE⟩
      · rw [no] at e2
        cases e2
      · exact ⟨(by decide : (1 : Nat) ≤ 1000), mk_left hE⟩
end
/-! ### texts of terms, over data -/
open TL in
theorem name_noBl {z : Str} (h : isName (.str z) = true) : 32 ∉ tl z := fun m => by
  have h2 := (Bool.and_eq_true_iff.mp (show (decide (1 ≤ (z.length : Int)) && decide ((z.length : Int) ≤ 8) && z.cps.toList.all lowCode) = true from h)).2
  exact absurd (List.all_eq_true.mp h2 32 m) (by decide +kernel)
theorem name_len8 : ∀ z : Str, isName (.str z) = true → z.length ≤ 8 := fun z h => by
  have h2 := (Bool.and_eq_true_iff.mp (Bool.and_eq_true_iff.mp (show (decide (1 ≤ (z.length : Int)) && decide ((z.length : Int) ≤ 8) && z.cps.toList.all lowCode) = true from h)).1).2
  have := of_decide_eq_true h2
  omega
theorem words_all {p : Str → Prop} {n : Nat} (nm : ∀ z : Str, isName (.str z) = true → p z) (fg : ∀ k, k < 3 → p (figW k)) (pa : p "arg") (pc : p "cell") (pl : p "call") (po : ∀ w k, opN w = some k → p w) : ∀ (f : Nat) (d : PyData), okT n f d → ∀ w ∈ wordsT f d, p w
  | 0, _, h => h.elim
  | f + 1, d, h => by
    have all : ∀ {ds : List PyData}, (∀ x ∈ ds, okT n f x) → ∀ w ∈ ds.flatMap (wordsT f), p w := fun {ds} o w m => by
      obtain ⟨d, hd, hw⟩ := List.mem_flatMap.mp m
      exact words_all nm fg pa pc pl po f d (o d hd) w hw
    rcases h with ⟨k, k3, rfl⟩ | ⟨k, _, k3, rfl⟩ | ⟨z, hz, rfl⟩ | ⟨z, ds, hz, l3, o, rfl⟩ | ⟨w, ds, ho, o, rfl⟩
    · intro w m
      rw [List.mem_singleton.mp (show w ∈ [figW k] from m)]
      exact fg k k3
    · intro w m
      rcases List.mem_cons.mp (show w ∈ [("arg" : Str), figW k] from m) with rfl | m
      · exact pa
      · rw [List.mem_singleton.mp m]
        exact fg k k3
    · intro w m
      rcases List.mem_cons.mp (show w ∈ [("cell" : Str), z] from m) with rfl | m
      · exact pc
      · rw [List.mem_singleton.mp m]
        exact nm z hz
    · intro w m
      rcases List.mem_cons.mp (show w ∈ ("call" : Str) :: z :: figW ds.length :: ds.flatMap (wordsT f) from m) with rfl | m
      · exact pl
      rcases List.mem_cons.mp m with rfl | m
      · exact nm _ hz
      rcases List.mem_cons.mp m with rfl | m
      · exact fg _ l3
      · exact all o w m
    · obtain ⟨h1, h2, h3, _⟩ := opN_ne ho
      have ew : wordsT (f + 1) (.tuple (.str w :: ds)) = w :: ds.flatMap (wordsT f) := by
        show (if w = "arg" then _ else if w = "cell" then _ else if w = "call" then _ else w :: ds.flatMap (wordsT f)) = _
        rw [if_neg h1, if_neg h2, if_neg h3]
      rw [ew]
      intro x m
      rcases List.mem_cons.mp m with rfl | m
      · exact po _ _ ho
      · exact all o x m
open TL in
theorem words_noBl {n f : Nat} {d : PyData} (h : okT n f d) : ∀ w ∈ wordsT f d, 32 ∉ tl w :=
  words_all (p := fun w => 32 ∉ tl w) (fun z hz => name_noBl hz) (fun k k3 => by rcases (show k = 0 ∨ k = 1 ∨ k = 2 by omega) with rfl | rfl | rfl <;> decide +kernel) (by decide +kernel) (by decide +kernel) (by decide +kernel) (fun w k ho => by
    unfold opN at ho
    split at ho
    · next e => rw [e]; decide +kernel
    split at ho
    · next e => rw [e]; decide +kernel
    split at ho
    · next e => rw [e]; decide +kernel
    split at ho
    · next e => rw [e]; decide +kernel
    split at ho
    · next e => rw [e]; decide +kernel
    · cases ho) f d h
theorem words_ne {n : Nat} : ∀ {f : Nat} {d : PyData}, okT n f d → wordsT f d ≠ []
  | 0, _, h => h.elim
  | f + 1, d, h => by
    rcases h with ⟨k, k3, rfl⟩ | ⟨k, _, k3, rfl⟩ | ⟨z, hz, rfl⟩ | ⟨z, ds, hz, l3, o, rfl⟩ | ⟨w, ds, ho, o, rfl⟩
    · exact fun e => by cases e
    · exact fun e => by cases e
    · exact fun e => by cases e
    · exact fun e => by cases e
    · obtain ⟨h1, h2, h3, _⟩ := opN_ne ho
      show (if w = "arg" then _ else if w = "cell" then _ else if w = "call" then _ else w :: ds.flatMap (wordsT f)) ≠ _
      rw [if_neg h1, if_neg h2, if_neg h3]
      exact fun e => by cases e
theorem okT_mono {n : Nat} : ∀ (f f' : Nat) (d : PyData), okT n f d → f ≤ f' → okT n f' d ∧ wordsT f' d = wordsT f d
  | 0, _, _, h, _ => h.elim
  | f + 1, 0, _, _, l => absurd l (Nat.not_succ_le_zero f)
  | f + 1, f' + 1, d, h, l => by
    have ih := fun (d : PyData) (h : okT n f d) => okT_mono f f' d h (by omega)
    have all : ∀ ds : List PyData, (∀ x ∈ ds, okT n f x) → (∀ x ∈ ds, okT n f' x) ∧ ds.flatMap (wordsT f') = ds.flatMap (wordsT f) := fun ds o => by
      refine ⟨fun x m => (ih x (o x m)).1, ?_⟩
      rw [List.flatMap_def, List.flatMap_def, List.map_congr_left fun x m => (ih x (o x m)).2]
    rcases h with ⟨k, k3, rfl⟩ | ⟨k, kn, k3, rfl⟩ | ⟨z, hz, rfl⟩ | ⟨z, ds, hz, l3, o, rfl⟩ | ⟨w, ds, ho, o, rfl⟩
    · exact ⟨.inl ⟨k, k3, rfl⟩, rfl⟩
    · exact ⟨.inr (.inl ⟨k, kn, k3, rfl⟩), rfl⟩
    · exact ⟨.inr (.inr (.inl ⟨z, hz, rfl⟩)), rfl⟩
    · obtain ⟨o', e⟩ := all ds o
      refine ⟨.inr (.inr (.inr (.inl ⟨z, ds, hz, l3, o', rfl⟩))), ?_⟩
      show ("call" : Str) :: z :: figW ds.length :: ds.flatMap (wordsT f') = ("call" : Str) :: z :: figW ds.length :: ds.flatMap (wordsT f)
      rw [e]
    · obtain ⟨o', e⟩ := all ds o
      refine ⟨.inr (.inr (.inr (.inr ⟨w, ds, ho, o', rfl⟩))), ?_⟩
      show (if w = "arg" then _ else if w = "cell" then _ else if w = "call" then _ else w :: ds.flatMap (wordsT f')) = (if w = "arg" then _ else if w = "cell" then _ else if w = "call" then _ else w :: ds.flatMap (wordsT f))
      obtain ⟨h1, h2, h3, _⟩ := opN_ne ho
      rw [if_neg h1, if_neg h2, if_neg h3, if_neg h1, if_neg h2, if_neg h3, e]
/-- a drawn term is one that words write -/
theorem gdl_okT {L : LB} (o : LOk L) {n : Nat} (n3 : n ≤ 3) : ∀ (f : Nat) (d : PyData), GdL L (n : Int) f d → okT n f d
  | 0, _, h => nomatch h
  | f + 1, d, h => by
    have ih := gdl_okT o n3 f
    cases h with
    | @val _ i a b => exact .inl ⟨i.toNat, by omega, by rw [Int.toNat_of_nonneg a]⟩
    | @arg _ i a b => exact .inr (.inl ⟨i.toNat, by omega, by omega, by rw [Int.toNat_of_nonneg a]⟩)
    | cell a => exact .inr (.inr (.inl ⟨_, (o.c _ a).1, rfl⟩))
    | tick => exact .inr (.inr (.inr (.inr ⟨"tick", [], by decide +kernel, (fun x m => by cases m), rfl⟩)))
    | call a c => exact .inr (.inr (.inr (.inl ⟨_, _, (o.f _ a).1, by have := (o.f _ a).2; dsimp only at this; omega, fun t m => ih t (c t m), rfl⟩)))
    | @op _ z ts hz c =>
      refine .inr (.inr (.inr (.inr ⟨z, ts, ?_, fun t m => ih t (c t m), rfl⟩)))
      rcases hz with ⟨rfl, e⟩ | ⟨hb, e⟩
      · rw [e]
        decide +kernel
      · rw [e]
        rcases hb with rfl | rfl | rfl <;> decide +kernel
open TL in
theorem tl_joinB (ws : List Str) : tl (Txt.join blank ws) = joinL [32] (ws.map tl) := by
  rw [join_eq, tl_join, show tl blank = [32] by decide +kernel]
open TL in
theorem joinL_app {S : List Nat} : ∀ {xs ys : List (List Nat)}, xs ≠ [] → ys ≠ [] → joinL S (xs ++ ys) = joinL S xs ++ (S ++ joinL S ys)
  | [], _, h, _ => absurd rfl h
  | [x], [], _, h => absurd rfl h
  | [x], y :: ys, _, _ => rfl
  | x :: z :: xs, ys, _, h => by
    show x ++ (S ++ joinL S ((z :: xs) ++ ys)) = x ++ (S ++ joinL S (z :: xs)) ++ (S ++ joinL S ys)
    rw [joinL_app (xs := z :: xs) (fun e => by cases e) h]
    simp only [List.append_assoc]
open TL in
theorem joinL_flat {S : List Nat} : ∀ {dss : List (List (List Nat))}, (∀ x ∈ dss, x ≠ []) → ∀ ws : List (List Nat), ws ≠ [] → joinL S (ws ++ dss.map (joinL S)) = joinL S (ws ++ dss.flatten)
  | [], _, ws, _ => rfl
  | d :: ds, h, ws, hw => by
    have d0 := h d List.mem_cons_self
    have ih := joinL_flat (S := S) (dss := ds) (fun x m => h x (List.mem_cons_of_mem _ m)) [joinL S d] (fun e => by cases e)
    have key : joinL S ([joinL S d] ++ ds.flatten) = joinL S (d ++ ds.flatten) := by
      by_cases e : ds.flatten = []
      · rw [e, List.append_nil, List.append_nil]
        rfl
      · rw [joinL_app (fun z => by cases z) e, joinL_app d0 e]
        rfl
    rw [List.map_cons, List.flatten_cons, joinL_app hw (fun e => by cases e), joinL_app hw (fun e => d0 (List.append_eq_nil_iff.mp e).1)]
    rw [show joinL S d :: ds.map (joinL S) = [joinL S d] ++ ds.map (joinL S) from rfl, ih, key]
open TL in
/-- texts joined out of joined texts -/
theorem join_flat {ws : List Str} (hw : ws ≠ []) {dss : List (List Str)} (h : ∀ x ∈ dss, x ≠ []) : Txt.join blank (ws ++ dss.map (Txt.join blank)) = Txt.join blank (ws ++ dss.flatten) := by
  refine ext_tl ?_
  rw [tl_joinB, tl_joinB, List.map_append, List.map_append, List.map_map, List.map_flatten]
  rw [show (tl ∘ Txt.join blank) = (joinL [32]) ∘ (List.map tl) from funext fun x => tl_joinB x, ← List.map_map]
  refine joinL_flat (fun x m => ?_) _ fun e => hw (List.map_eq_nil_iff.mp e)
  obtain ⟨y, hy, rfl⟩ := List.mem_map.mp m
  exact fun e => h y hy (List.map_eq_nil_iff.mp e)
open TL in
theorem join_two (a b : Str) : Txt.join blank [a, b] = a ++ blank ++ b := by
  refine ext_tl ?_
  rw [tl_joinB, tl_append, tl_append, show tl blank = [32] by decide +kernel, List.append_assoc]
  rfl
open TL in
theorem join_one (a : Str) : Txt.join blank [a] = a := by
  refine ext_tl ?_
  rw [tl_joinB]
  rfl
open TL in
theorem join_blank {ws : List Str} (h : ws ≠ []) : Txt.join blank ws ++ blank = Txt.join blank (ws ++ [("" : Str)]) := by
  refine ext_tl ?_
  rw [tl_append, tl_joinB, tl_joinB, List.map_append, joinL_app (fun e => h (List.map_eq_nil_iff.mp e)) (fun e => by cases e), show tl blank = [32] by decide +kernel]
  rfl
open TL in
theorem split_joinB {ws : List Str} (hn : ws ≠ []) (hp : ∀ p ∈ ws, 32 ∉ tl p) : Txt.split (Txt.join blank ws) blank = ws := split_join (S := []) (by decide +kernel) (by decide +kernel) hn hp
open TL in
theorem joinL_len : ∀ ws : List (List Nat), (joinL [32] ws).length ≤ (ws.map List.length).sum + ws.length
  | [] => Nat.zero_le _
  | [p] => by
    show p.length ≤ (p.length + 0) + 1
    omega
  | p :: q :: r => by
    have ih := joinL_len (q :: r)
    show (p ++ ([32] ++ joinL [32] (q :: r))).length ≤ (p.length + ((q :: r).map List.length).sum) + ((q :: r).length + 1)
    rw [List.length_append, List.length_append]
    have : ([32] : List Nat).length = 1 := rfl
    omega
open TL in
theorem join_len (ws : List Str) : (Txt.join blank ws).length ≤ (ws.map (·.length)).sum + ws.length := by
  have h := joinL_len (ws.map tl)
  rw [← tl_joinB, ← len_tl, List.map_map, List.length_map] at h
  rw [show ((fun x : Str => x.length) : Str → Nat) = List.length ∘ tl from funext fun x => len_tl x]
  exact h
/-- how long a term's text is -/
theorem text_len {n f : Nat} {d : PyData} (o : okT n f d) : (Txt.join blank (wordsT f d)).length ≤ 9 * (wordsT f d).length := by
  have h1 := join_len (wordsT f d)
  have h2 := sum_le (words_short name_len8 f d o)
  omega
/-! ### _law_term_text -/
abbrev sTx : Stmt := topS 37
theorem scTx : FnScope ["_law_term_here", "_law_part"] ["_law_term_here"] (defScope sTx) := ⟨rfl, rfl, rfl, by decide +kernel, rfl, by decide +kernel, by decide +kernel⟩
/-- a term's text -/
def txt (f : Nat) (d : PyData) : Str := Txt.join blank (wordsT f d)
def spTx (K : PySem.W.Frag) (n f : Nat) : Sp := fun vs H Q _ => ∃ (v : V) (d : PyData) (H0 : Hp), vs = [v] ∧ Same H0 H ∧ Dp K H0 v d ∧ okT n f d ∧ ∀ H', Same H H' → Q (.str (txt f d)) H'
/-- the texts of so many terms, in a list -/
theorem texts_lc {K : PySem.W.Frag} {n f : Nat} {H H0 : Hp} {p D : Addr} {xs : List V} {ds : List PyData} {σ : L2.St} {te : TE} {Qd : Hp → Prop} (hD : H D = none) (s0 : Same H0 H) (ep : SqT K H p xs) (hd : DpAll K H0 xs ds) (l3 : ds.length ≤ 3) (ho : ∀ x ∈ ds, okT n f x)
    (hw : ∀ x, wipe ((wipe σ [1]).set 1 (some x)) [1] = wipe σ [1]) (ht : ∀ x H' Q', spTx K n f [x] H' Q' E0 → te ((wipe σ [1]).set 1 (some x)) H' Q')
    (q : ∀ H', Same H H' → H' D = some (.lst ((ds.map (txt f)).map V.str)) → Qd H') : Turns (Itt K p) (upd H D (.lst [])) Qd (LcBody D te [1] 1 σ) := by
  have el := dpA_length hd
  refine lc_it (walk_tup (K := K) (a := p) (xs := xs)) (fun i H' => Same H H' ∧ H' D = some (.lst (((ds.take i).map (txt f)).map V.str))) ⟨same_upd hD, upd_same⟩ (fun i H' _ r => same_sqT r.1 ep) (fun i x H1 H2 hi r y => ?_) (fun H' r => ?_)
  · obtain ⟨s1, eD⟩ := r
    obtain ⟨rfl, hx⟩ := y
    obtain ⟨d, hdi, dx⟩ := dpA_at hd hx
    refine And.intro (hw _) ?_
    unfold tYes
    refine iteT (ht _ _ _ ⟨x, d, H0, rfl, s0.trans s1, dx, ho d (List.mem_of_getElem? hdi), fun H3 s3 => ⟨_, s3 _ _ eD, ?_, fun b o e => ?_, ?_⟩⟩)
    · rw [List.length_map, List.length_map, List.length_take, sizeLine_eq]
      omega
    · rw [upd_ne (ne_of_none e hD)]
      exact s3 _ _ (s1 _ _ e)
    · rw [upd_same, take_snoc hdi, List.map_append, List.map_append]
      rfl
  · obtain ⟨s1, eD⟩ := r
    rw [el, List.take_length] at eD
    exact q H' s1 eD
theorem fig_str {i : Nat} (h : i < 3) : (Str.ofString (toString ((i : Nat) : Int))) = figW i := (str_fig h).1
section
variable {P : Program} {w : World} {K : PySem.W.Frag} {mg : Str → Option Value} {base : Heap}
theorem ok_tx {f : Addr} {fd : FuncData} {n : Nat} (F0 : Fun K "_law_term_text" "_law_term_text" sTx f fd) (M : Blt mg) (b : Binds K fd ["_law_term_here"] []) (g : mg "_law_term_text" = some (.ref f)) :
    ∀ k, k ≤ 8 → FnOk P w K mg base CX0 (1 + k) f fd ["_law_term_here"] (spTx K n k) := by
  intro k
  induction k with
  | zero =>
    intro _
    refine F0.ok scTx (fun vs H Q E h => ?_) (fun cdv A outer s H vs Q E hr h => ?_)
    · obtain ⟨v, d, H0, rfl, _⟩ := h
      rfl
    · obtain ⟨v, d, H0, rfl, _, _, o, _⟩ := h
      exact o.elim
  | succ k ih =>
    intro k8
    have ih := ih (by omega)
    refine F0.ok scTx (fun vs H Q E h => ?_) (fun cdv A outer s H vs Q E hr h => ?_)
    · obtain ⟨v, d, H0, rfl, _⟩ := h
      rfl
    · obtain ⟨v, d, H0, rfl, s0, hv, o, q⟩ := h
      refine' ⟨_, pss_cons (ps_if (pt_not (pt_val (pe_callB call_isi (by rfl) M.isinstance (by decide +kernel) (pa_cons (pv 0) (pa_cons (pe_bltn (v := .ty "tuple") (by rfl) M.tuple (by decide +kernel) rfl) pa_nil))))) (pss_one (ps_ret (pe_callTy strAny (by rfl) M.str (by decide +kernel) (pa_cons (pv 0) pa_nil)))) pss_nil)
        (pss_cons (ps_if (pt_cmpR op_in_seq (pe_ix ix_tup (pv 0) pe_int (fun _ _ => rfl)) (pe_lst (pa_cons pe_str (pa_cons pe_str pa_nil))) (by rfl)) (pss_one (ps_ret (pe_op op_add_str (pe_op op_add_str (pe_ix ix_tup (pv 0) pe_int (fun _ _ => rfl)) pe_str) (pe_callTy strAny (by rfl) M.str (by decide +kernel) (pa_cons (pe_ix ix_tup (pv 0) pe_int (fun _ _ => rfl)) pa_nil))))) pss_nil)
        (pss_cons (ps_if (pt_cmpR op_eq (pe_ix ix_tup (pv 0) pe_int (fun _ _ => rfl)) pe_str (nomark _)) (pss_one (ps_ret (pe_m1 PySem.F.slot_str_join PySem.F.type_str_join mt_join pe_str (pe_op op_cat (pe_lst (pa_cons pe_str (pa_cons (pe_ix ix_tup (pv 0) pe_int (fun _ _ => rfl)) (pa_cons (pe_callTy strAny (by rfl) M.str (by decide +kernel) (pa_cons (pe_callB call_len_seq (by rfl) M.len PySem.boot_len (pa_cons (pe_ix ix_tup (pv 0) pe_int (fun _ _ => rfl)) pa_nil)) pa_nil)) pa_nil))))
            (pe_lc (own := [("_law_part", 1)]) (g := gName 1) (te := tCall (spTx K n k) [] E0 (tCons (tVar 1) tNil)) (by rfl) scTx.nd (pi_tup (pe_ix ix_tup (pv 0) pe_int (fun _ _ => rfl))) (blkOk_by (own := [("_law_part", 1)]) (N := ["_law_term_here", "_law_part"]) (sc := defScope sTx) (by decide +kernel))
              (fun _ _ _ _ _ => pg_name (i := 1) scTx.nd rfl (Or.inl rfl)) (fun _ _ _ _ _ => pts_nil) (fun _ _ _ _ _ => pe_call (E := E0) ih hr (by rfl) g F0.kp b .nil pass0 (pa_cons (pv 1) pa_nil))))))) pss_nil)
        (pss_one (ps_ret (pe_m1 PySem.F.slot_str_join PySem.F.type_str_join mt_join pe_str (pe_op op_cat (pe_lst (pa_cons (pe_ix ix_tup (pv 0) pe_int (fun _ _ => rfl)) pa_nil))
            (pe_lc (own := [("_law_part", 1)]) (g := gName 1) (te := tCall (spTx K n k) [] E0 (tCons (tVar 1) tNil)) (by rfl) scTx.nd (pi_tup (pe_slice sl_tup (pv 0) (po_some pe_int) po_none)) (blkOk_by (own := [("_law_part", 1)]) (N := ["_law_term_here", "_law_part"]) (sc := defScope sTx) (by decide +kernel))
              (fun _ _ _ _ _ => pg_name (i := 1) scTx.nd rfl (Or.inl rfl)) (fun _ _ _ _ _ => pts_nil) (fun _ _ _ _ _ => pe_call (E := E0) ih hr (by rfl) g F0.kp b .nil pass0 (pa_cons (pv 1) pa_nil))))))))), ?r⟩
      have hvH := dp_same s0 hv
      refine ⟨v, rfl, v, .ty "tuple", _, _, _, rfl, .ty "tuple", dp_ty hvH, kit_tup K d, _, rfl, ?_⟩
      have big : ∀ x, okT n k x → (txt k x).length ≤ 9 * (3 * 4 ^ k) := fun x o => by
        have h1 := text_len o
        have h2 := words_len k x o
        show (Txt.join blank (wordsT k x)).length ≤ _
        omega
      have h2 : 4 ^ k ≤ 4 ^ 7 := Nat.pow_le_pow_right (by decide) (by omega)
      have h3 : (4 : Nat) ^ 7 = 16384 := by decide
      have sums : ∀ ds : List PyData, ds.length ≤ 3 → (∀ x ∈ ds, okT n k x) → ((ds.map (txt k)).map (·.length)).sum ≤ ds.length * 442368 := fun ds => by
        induction ds with
        | nil => exact fun _ _ => Nat.zero_le _
        | cons d ds ih2 =>
          intro l o
          have := ih2 (by rw [List.length_cons] at l; omega) fun x m => o x (List.mem_cons_of_mem _ m)
          have := big d (o d List.mem_cons_self)
          rw [List.map_cons, List.map_cons, List.sum_cons, List.length_cons, Nat.succ_mul]
          omega
      have blank1 : (Str.ofString " ").length = 1 := by decide +kernel
      have flat : ∀ (ws : List Str) (ds : List PyData), ws ≠ [] → (∀ x ∈ ds, okT n k x) → Txt.join (Str.ofString " ") (ws ++ ds.map (txt k)) = Txt.join blank (ws ++ ds.flatMap (wordsT k)) := fun ws ds hw o => by
        have e := join_flat hw (dss := ds.map (wordsT k)) fun x m => by
          obtain ⟨y, hy, rfl⟩ := List.mem_map.mp m
          exact words_ne (o y hy)
        rw [List.map_map] at e
        rw [List.flatMap_def]
        exact e
      rcases o with ⟨i, i3, rfl⟩ | ⟨i, iN, i3, rfl⟩ | ⟨z, hz, rfl⟩ | ⟨z, ds, hz, l3, o, rfl⟩ | ⟨w, ds, ho, o, rfl⟩
      · cases hv
        refine iteT ⟨.int (i : Nat), rfl, .inl ⟨i, rfl, (str_fig i3).2, ?_⟩⟩
        rw [fig_str i3]
        have := q H (Same.refl _)
        rwa [show txt (k + 1) (.int (i : Nat)) = figW i from join_one _] at this
      · cases hv with
        | @tup a ys _ hs hd =>
        cases hd with
        | @cons x0 xr _ _ h0 hr0 =>
        cases h0
        cases hr0 with
        | @cons x1 xr2 _ _ hx1 hr2 =>
        cases hx1
        cases hr2
        refine iteF ?_
        dsimp only [tNext]
        have hsH := same_sqT s0 hs
        refine ⟨.ref a, rfl, a, _, 0, .str "arg", rfl, rfl, hsH, atI_nat (j := 0) rfl, (by show 2 ≤ sizeLine; decide), fun p3 np3 => ⟨p3, _, rfl, .inl (.inl (.inl upd_same)), rfl, rfl, _, rfl, ?_⟩⟩
        have s3 := same_upd (o := HO.lst [V.str "arg", .str "cell"]) np3
        generalize upd H p3 (.lst [V.str "arg", .str "cell"]) = H3 at s3 ⊢
        have yes : inV (.str ("arg" : Str)) [V.str "arg", .str "cell"] = true := by
          have := inV_strs ("arg" : Str) ["arg", "cell"]
          rw [decide_eq_true (by decide +kernel)] at this
          exact this
        refine iteT' yes ⟨.ref a, rfl, a, _, 0, .str "arg", rfl, rfl, same_sqT s3 hsH, atI_nat (j := 0) rfl, "arg", " ", rfl, rfl, (by decide +kernel), .ref a, rfl, a, _, 1, .int (i : Nat), rfl, rfl, same_sqT s3 hsH, atI_nat (j := 1) rfl, .inl ⟨i, rfl, (str_fig i3).2, ?_⟩⟩
        rw [fig_str i3]
        have l8 := fig_len i
        refine ⟨_, _, rfl, rfl, ?_, ?_⟩
        · rw [show ((Str.ofString "arg") ++ (Str.ofString " ") : Str).length = 4 by decide +kernel, sizeLine_eq]
          omega
        · have := q _ s3
          rwa [show txt (k + 1) (.tuple [.str "arg", .int (i : Nat)]) = ("arg" : Str) ++ blank ++ figW i from join_two _ _] at this
      · cases hv with
        | @tup a ys _ hs hd =>
        cases hd with
        | @cons x0 xr _ _ h0 hr0 =>
        cases h0
        cases hr0 with
        | @cons x1 xr2 _ _ hx1 hr2 =>
        cases hx1
        cases hr2
        refine iteF ?_
        dsimp only [tNext]
        have hsH := same_sqT s0 hs
        refine ⟨.ref a, rfl, a, _, 0, .str "cell", rfl, rfl, hsH, atI_nat (j := 0) rfl, (by show 2 ≤ sizeLine; decide), fun p3 np3 => ⟨p3, _, rfl, .inl (.inl (.inl upd_same)), rfl, rfl, _, rfl, ?_⟩⟩
        have s3 := same_upd (o := HO.lst [V.str "arg", .str "cell"]) np3
        generalize upd H p3 (.lst [V.str "arg", .str "cell"]) = H3 at s3 ⊢
        have yes : inV (.str ("cell" : Str)) [V.str "arg", .str "cell"] = true := by
          have := inV_strs ("cell" : Str) ["arg", "cell"]
          rw [decide_eq_true (by decide +kernel)] at this
          exact this
        refine iteT' yes ⟨.ref a, rfl, a, _, 0, .str "cell", rfl, rfl, same_sqT s3 hsH, atI_nat (j := 0) rfl, "cell", " ", rfl, rfl, (by decide +kernel), .ref a, rfl, a, _, 1, .str z, rfl, rfl, same_sqT s3 hsH, atI_nat (j := 1) rfl, .inr ⟨z, rfl, ?_⟩⟩
        have l8 := name_len8 z hz
        refine ⟨_, _, rfl, rfl, ?_, ?_⟩
        · rw [show ((Str.ofString "cell") ++ (Str.ofString " ") : Str).length = 5 by decide +kernel, sizeLine_eq]
          omega
        · have := q _ s3
          rwa [show txt (k + 1) (.tuple [.str "cell", .str z]) = ("cell" : Str) ++ blank ++ z from join_two _ _] at this
      · cases hv with
        | @tup a ys _ hs hd =>
        cases hd with
        | @cons x0 xr _ _ h0 hr0 =>
        cases h0
        cases hr0 with
        | @cons x1 xr2 _ _ hx1 hr2 =>
        cases hx1
        cases hr2 with
        | @cons x2 xr3 _ _ hx2 hr3 =>
        cases hr3
        cases hx2 with
        | @tup e3 vs3 _ hse hde =>
        refine iteF ?_
        dsimp only [tNext]
        have hsH := same_sqT s0 hs
        refine ⟨.ref a, rfl, a, _, 0, .str "call", rfl, rfl, hsH, atI_nat (j := 0) rfl, (by show 2 ≤ sizeLine; decide), fun p3 np3 => ⟨p3, _, rfl, .inl (.inl (.inl upd_same)), rfl, rfl, _, rfl, ?_⟩⟩
        have s3 := same_upd (o := HO.lst [V.str "arg", .str "cell"]) np3
        generalize upd H p3 (.lst [V.str "arg", .str "cell"]) = H3 at s3 ⊢
        have no : inV (.str ("call" : Str)) [V.str "arg", .str "cell"] = false := by
          have := inV_strs ("call" : Str) ["arg", "cell"]
          rw [decide_eq_false (by decide +kernel)] at this
          exact this
        refine iteF' no ?_
        dsimp only [tNext]
        refine ⟨.ref a, rfl, a, _, 0, .str "call", rfl, rfl, same_sqT s3 hsH, atI_nat (j := 0) rfl, rfl, _, rfl, ?_⟩
        rw [dstr]
        refine iteT' (decide_eq_true rfl) ?_
        refine ⟨⟨_, rfl⟩, .ref a, rfl, a, _, 1, .str z, rfl, rfl, same_sqT s3 hsH, atI_nat (j := 1) rfl, .ref a, rfl, a, _, 2, .ref e3, rfl, rfl, same_sqT s3 hsH, atI_nat (j := 2) rfl, e3, _, rfl, .inr (same_sqT (s0.trans s3) hse), ?_⟩
        rw [dpA_length hde]
        refine .inl ⟨(ds.length : Nat), rfl, (str_fig l3).2, ?_⟩
        rw [(str_fig l3).1]
        refine ⟨(by show 3 ≤ sizeLine; decide), fun l nl => ?_⟩
        have s4 := s3.trans (same_upd (o := HO.lst [V.str ("call" : Str), .str z, .str (figW ds.length)]) nl)
        have el : (upd H3 l (.lst [V.str ("call" : Str), .str z, .str (figW ds.length)])) l = some (.lst (([("call" : Str), z, figW ds.length] : List Str).map V.str)) := upd_same
        generalize upd H3 l (.lst [V.str ("call" : Str), .str z, .str (figW ds.length)]) = H4 at s4 el ⊢
        refine ⟨.ref a, rfl, a, _, 2, .ref e3, rfl, rfl, same_sqT s4 hsH, atI_nat (j := 2) rfl, e3, rfl, ⟨_, same_sqT (s0.trans s4) hse⟩, fun D hD => ?_⟩
        refine texts_lc hD (s0.trans s4) (same_sqT (s0.trans s4) hse) hde (by omega) o (fun x => rfl) (fun x H' Q' h => ⟨x, rfl, h⟩) fun H5 s5 eD => ?_
        have ct : (([("call" : Str), z, figW ds.length] : List Str) ++ ds.map (txt k)).length = 3 + ds.length := by
          rw [List.length_append, List.length_map]
          rfl
        refine ⟨l, D, _, _, rfl, rfl, s5 _ _ el, eD, ?_, fun p np => ⟨_, p, ([("call" : Str), z, figW ds.length] : List Str) ++ ds.map (txt k), rfl, rfl, ?_, ?_, ?_⟩⟩
        · rw [List.length_map, List.length_map, List.length_map, sizeLine_eq]
          show 3 + _ ≤ _
          omega
        · rw [List.map_append]
          exact .inl (.inl (.inl upd_same))
        · have := sums ds (by omega) o
          have l1 := name_len8 z hz
          have l2 := fig_len ds.length
          have l4 : ("call" : Str).length = 4 := by decide +kernel
          rw [ct, blank1, List.map_append, List.sum_append]
          show (("call" : Str).length + (z.length + ((figW ds.length).length + 0))) + _ + _ ≤ _
          omega
        · have := q _ (s4.trans (s5.trans (same_upd (o := HO.lst ((([("call" : Str), z, figW ds.length] : List Str).map V.str) ++ (ds.map (txt k)).map V.str)) np)))
          rw [flat _ ds (fun e => by cases e) o]
          exact this
      · obtain ⟨h1, h2', h3', _⟩ := opN_ne ho
        have ew : txt (k + 1) (.tuple (.str w :: ds)) = Txt.join blank ([w] ++ ds.flatMap (wordsT k)) := by
          show Txt.join blank (if w = "arg" then _ else if w = "cell" then _ else if w = "call" then _ else w :: ds.flatMap (wordsT k)) = _
          rw [if_neg h1, if_neg h2', if_neg h3']
          rfl
        cases hv with
        | @tup a ys _ hs hd =>
        cases hd with
        | @cons x0 xr _ _ h0 hr0 =>
        cases h0
        refine iteF ?_
        dsimp only [tNext]
        have hsH := same_sqT s0 hs
        refine ⟨.ref a, rfl, a, _, 0, .str w, rfl, rfl, hsH, atI_nat (j := 0) rfl, (by show 2 ≤ sizeLine; decide), fun p3 np3 => ⟨p3, _, rfl, .inl (.inl (.inl upd_same)), rfl, rfl, _, rfl, ?_⟩⟩
        have s3 := same_upd (o := HO.lst [V.str "arg", .str "cell"]) np3
        generalize upd H p3 (.lst [V.str "arg", .str "cell"]) = H3 at s3 ⊢
        have no : inV (.str w) [V.str "arg", .str "cell"] = false := by
          have := inV_strs w ["arg", "cell"]
          rw [decide_eq_false (by simp [h1, h2'])] at this
          exact this
        refine iteF' no ?_
        dsimp only [tNext]
        refine ⟨.ref a, rfl, a, _, 0, .str w, rfl, rfl, same_sqT s3 hsH, atI_nat (j := 0) rfl, rfl, _, rfl, ?_⟩
        rw [dstr]
        refine iteF' (decide_eq_false h3') ?_
        dsimp only [tNext]
        refine ⟨⟨_, rfl⟩, .ref a, rfl, a, _, 0, .str w, rfl, rfl, same_sqT s3 hsH, atI_nat (j := 0) rfl, (by show 1 ≤ sizeLine; decide), fun l nl => ?_⟩
        have s4 := s3.trans (same_upd (o := HO.lst [V.str w]) nl)
        have el : (upd H3 l (.lst [V.str w])) l = some (.lst (([w] : List Str).map V.str)) := upd_same
        generalize upd H3 l (.lst [V.str w]) = H4 at s4 el ⊢
        refine ⟨.ref a, rfl, (1 : Int), rfl, a, _, rfl, same_sqT s4 hsH, ?_, fun t nt => ?_⟩
        · intro h
          have h1 := h.1
          rw [show HT.sIx (V.str w :: xr).length 0 (some 1) = min 1 (V.str w :: xr).length from HT.sIx_nat _ 0 1, List.length_cons] at h1
          omega
        · have e5 : cutV (V.str w :: xr) (some 1) none = xr := by
            unfold cutV
            rw [show HT.sIx (V.str w :: xr).length 0 (some 1) = min 1 (V.str w :: xr).length from HT.sIx_nat _ 0 1, HT.sIx_none, List.length_cons, show min 1 (xr.length + 1) = 1 by omega]
            show xr.take (xr.length + 1 - 1) = xr
            rw [Nat.add_sub_cancel, List.take_length]
          rw [e5]
          have s5 := s4.trans (same_upd (o := HO.tup xr) nt)
          have el5 := same_upd (o := HO.tup xr) nt _ _ el
          have et5 : SqT K (upd H4 t (.tup xr)) t xr := .inl (.inl upd_same)
          generalize upd H4 t (.tup xr) = H5 at s5 el5 et5 ⊢
          refine ⟨t, rfl, ⟨_, et5⟩, fun D hD => ?_⟩
          refine texts_lc hD (s0.trans s5) et5 hr0 (opN_le ho) o (fun x => rfl) (fun x H' Q' h => ⟨x, rfl, h⟩) fun H6 s6 eD => ?_
          have l3 := opN_le ho
          have ct : (([w] : List Str) ++ ds.map (txt k)).length = 1 + ds.length := by
            rw [List.length_append, List.length_map]
            rfl
          refine ⟨l, D, _, _, rfl, rfl, s6 _ _ el5, eD, ?_, fun p np => ⟨_, p, ([w] : List Str) ++ ds.map (txt k), rfl, rfl, ?_, ?_, ?_⟩⟩
          · rw [List.length_map, List.length_map, List.length_map, sizeLine_eq]
            show 1 + _ ≤ _
            omega
          · rw [List.map_append]
            exact .inl (.inl (.inl upd_same))
          · have := sums ds l3 o
            have l1 := op_len ho
            rw [ct, blank1, List.map_append, List.sum_append]
            show (w.length + 0) + _ + _ ≤ _
            omega
          · have := q _ (s5.trans (s6.trans (same_upd (o := HO.lst ((([w] : List Str).map V.str) ++ (ds.map (txt k)).map V.str)) np)))
            rw [flat _ ds (fun e => by cases e) o]
            rw [ew] at this
            exact this
end
/-! ### _law_read -/
abbrev sLR : Stmt := topS 38
theorem scLR : FnScope ["_law_text", "_law_many", "e"] ["_law_text", "_law_many"] (defScope sLR) := ⟨rfl, rfl, rfl, by decide +kernel, rfl, by decide +kernel, by decide +kernel⟩
def badD : PyData := .list [.str "bad", .int 0]
/-- what the law reads -/
def readD (n : Nat) (d : PyData) : PyData := (readT n d).getD badD
def spLR (K : PySem.W.Frag) : Sp := fun vs H Q _ => ∃ (v : V) (d : PyData) (n : Nat), vs = [v, .int (n : Nat)] ∧ n ≤ 2 ∧ Dp K H v d ∧ okTxt d ∧ ∀ u H', Same H H' → Dp K H' u (readD n d) → Q u H'
section
variable {P : Program} {w : World} {K : PySem.W.Frag} {mg : Str → Option Value} {base : Heap}
theorem ok_lr {CB f fB fR : Addr} {fd dR : FuncData} (F0 : Fun K "_law_read" "_law_read" sLR f fd) (TE : ErrT K mg "BadText" "index" CB fB) (xf : XfC K CB) (ex : PySem.W.exmOne K (.ref CB) (.ref CB) = some true)
    (GR : FnOk P w K mg base (L2.CX P w) 14 fR dR ["text", "arguments"] (spRd K CB)) (kR : PySem.W.keepIn K (.ref fR) = true) (bR : Binds K dR ["text", "arguments"] []) (gR : mg "read_term" = some (.ref fR)) : FnOk P w K mg base CX0 15 f fd ["_law_text", "_law_many"] (spLR K) := by
  refine F0.ok scLR (fun vs H Q E h => ?_) (fun cdv A outer s H vs Q E hr h => ?_)
  · obtain ⟨v, d, n, rfl, _⟩ := h
    rfl
  · obtain ⟨v, d, n, rfl, n2, hv, ht, q⟩ := h
    refine ⟨_, pss_one (ps_try_as (i := 2) (tb := fun W => tRet (tCallS (spRd K CB) (WE W) (tCons (tVar 0) (tCons (tVar 1) tNil)))) (Wout := fun _ _ _ _ => False) rfl rfl scLR.nd rfl rfl ⟨rfl, by decide, Or.inl TE.nam⟩ takes0
        (fun W pn xe tk _ => pss_one (ps_ret (pe_callS GR hr (by rfl) gR kR bR (fun σ => passAt tk σ) (pa_cons (pv 0) (pa_cons (pv 1) pa_nil)))))
        (fun a oe cls d pn hz hf => pss_one (ps_ret (pe_lst (pa_cons pe_str (pa_cons (pe_xf xf TE.nof hz hf (pv 2)) pa_nil)))))), ?_⟩
    refine ⟨v, rfl, .int (n : Nat), rfl, v, d, n, rfl, n2, hv, ht, ?_⟩
    unfold readD at q
    cases e : readT n d with
    | some t =>
      rw [e] at q
      exact .inl ⟨t, rfl, fun u H' s' hu => q u H' s' hu⟩
    | none =>
      rw [e] at q
      refine .inr ⟨rfl, fun dd H' left => ⟨true, ex, fun _ a na => ?_, fun z => Bool.noConfusion z⟩⟩
      obtain ⟨nd0, s2, ed⟩ := left
      refine ⟨.ref a, rfl, rfl, rfl, dd, _, .int 0, rfl, ed, rfl, (by show 2 ≤ sizeLine; decide), fun l nl => q _ _ (s2.trans (same_upd nl)) ?_⟩
      exact .lst (.inl (.inl upd_same)) (.cons (.str _) (.cons (.int _) .nil))
end
/-! ### what the law bends, over data -/
open TL in
theorem join_split79 (z : Str) : Txt.join blank (Txt.split z blank) = z := by
  rw [join_eq]
  exact StrLaws.join_split z blank
/-- what is read is what the text's words write -/
theorem readT_sound {n : Nat} {z : Str} {t : PyData} (h : readT n (.str z) = some t) : okT n 8 t ∧ txt 8 t = z := by
  obtain ⟨⟨d, r⟩, e1, e2⟩ := Option.bind_eq_some_iff.mp (show (takeT n 8 (Txt.split z blank)).bind _ = some t from h)
  dsimp only at e2
  split at e2
  · next c =>
    obtain rfl : d = t := Option.some.inj e2
    obtain ⟨h1, h2⟩ := takeT_sound n 8 _ _ _ e1
    rw [c.1, List.append_nil] at h1
    refine ⟨h2, ?_⟩
    show Txt.join blank (wordsT 8 d) = z
    rw [← h1, join_split79]
  · cases e2
theorem readT_whole {n : Nat} {t : PyData} (o : okT n 8 t) (h : isTerm n t = true) : readT n (.str (txt 8 t)) = some t := by
  show (takeT n 8 (Txt.split (Txt.join blank (wordsT 8 t)) blank)).bind _ = some t
  have e := takeT_whole n 8 t [] o
  rw [List.append_nil] at e
  rw [split_joinB (words_ne o) (words_noBl o), e]
  show (if ([] : List Str) = [] ∧ isTerm n t = true then some t else none) = some t
  rw [if_pos ⟨rfl, h⟩]
/-- a whole term's words and more -/
theorem readT_more {n : Nat} {t : PyData} (o : okT n 8 t) {w : Str} (hw : 32 ∉ TL.tl w) : readT n (.str (Txt.join blank (wordsT 8 t ++ [w]))) = none := by
  show (takeT n 8 (Txt.split (Txt.join blank (wordsT 8 t ++ [w])) blank)).bind _ = none
  rw [split_joinB (fun e => by cases List.append_eq_nil_iff.mp e with | intro _ e2 => cases e2) (fun p m => by
    rcases List.mem_append.mp m with m | m
    · exact words_noBl o p m
    · rw [List.mem_singleton.mp m]
      exact hw), takeT_whole n 8 t [w] o]
  show (if ([w] : List Str) = [] ∧ isTerm n t = true then some t else none) = none
  rw [if_neg fun c => by cases c.1]
theorem sums_words {n f k : Nat} (h : ∀ d, okT n f d → szF k d ≤ (wordsT f d).length) : ∀ ds : List PyData, (∀ x ∈ ds, okT n f x) → (ds.map (szF k)).sum ≤ (ds.flatMap (wordsT f)).length
  | [], _ => Nat.zero_le _
  | d :: ds, o => by
    have h1 := h d (o d List.mem_cons_self)
    have h2 := sums_words h ds fun x m => o x (List.mem_cons_of_mem _ m)
    rw [List.map_cons, List.sum_cons, List.flatMap_cons, List.length_append]
    omega
/-- a term has no more terms in it than words -/
theorem sz_words {n : Nat} : ∀ (f k : Nat) (d : PyData), okT n f d → szF k d ≤ (wordsT f d).length
  | 0, _, _, h => h.elim
  | f + 1, 0, _, _ => Nat.zero_le _
  | f + 1, k + 1, d, h => by
    have ih := sums_words (n := n) (f := f) (k := k) (sz_words f k)
    show 1 + ((inner d).map (szF k)).sum ≤ _
    rcases h with ⟨i, _, rfl⟩ | ⟨i, _, _, rfl⟩ | ⟨z, _, rfl⟩ | ⟨z, ds, _, _, o, rfl⟩ | ⟨w, ds, ho, o, rfl⟩
    · exact Nat.le_refl 1
    · exact (by decide : 1 ≤ 2)
    · exact (by decide : 1 ≤ 2)
    · have := ih ds o
      show 1 + (ds.map (szF k)).sum ≤ (("call" : Str) :: z :: figW ds.length :: ds.flatMap (wordsT f)).length
      rw [List.length_cons, List.length_cons, List.length_cons]
      omega
    · obtain ⟨h1, h2, h3, _⟩ := opN_ne ho
      have ew : wordsT (f + 1) (.tuple (.str w :: ds)) = w :: ds.flatMap (wordsT f) := by
        show (if w = "arg" then _ else if w = "cell" then _ else if w = "call" then _ else w :: ds.flatMap (wordsT f)) = _
        rw [if_neg h1, if_neg h2, if_neg h3]
      rw [ew, List.length_cons]
      have hi : (inner (.tuple (.str w :: ds))).length ≤ ds.length ∧ ∀ x ∈ inner (.tuple (.str w :: ds)), x ∈ ds := by
        unfold opN at ho
        by_cases e1 : w = "tick"
        · rw [if_pos e1] at ho
          have e0 : ds = [] := List.eq_nil_of_length_eq_zero (Option.some.inj ho).symm
          subst e0 e1
          exact ⟨Nat.zero_le _, fun x m => by cases m⟩
        rw [if_neg e1] at ho
        have : w = "if" ∨ w = "plus" ∨ w = "less" ∨ w = "same" := by
          by_cases e2 : w = "plus"
          · exact .inr (.inl e2)
          rw [if_neg e2] at ho
          by_cases e3 : w = "less"
          · exact .inr (.inr (.inl e3))
          rw [if_neg e3] at ho
          by_cases e4 : w = "same"
          · exact .inr (.inr (.inr e4))
          rw [if_neg e4] at ho
          by_cases e5 : w = "if"
          · exact .inl e5
          · rw [if_neg e5] at ho
            cases ho
        rw [op_inner this]
        exact ⟨Nat.le_refl _, fun x m => m⟩
      have hs : ((inner (.tuple (.str w :: ds))).map (szF k)).sum ≤ (ds.flatMap (wordsT f)).length := by
        by_cases e1 : w = "tick"
        · have e0 : ds = [] := List.length_eq_zero_iff.mp (by unfold opN at ho; rw [if_pos e1] at ho; exact (Option.some.inj ho).symm)
          subst e0 e1
          exact Nat.le_refl 0
        · have : w = "if" ∨ w = "plus" ∨ w = "less" ∨ w = "same" := by
            unfold opN at ho
            rw [if_neg e1] at ho
            by_cases e2 : w = "plus"
            · exact .inr (.inl e2)
            rw [if_neg e2] at ho
            by_cases e3 : w = "less"
            · exact .inr (.inr (.inl e3))
            rw [if_neg e3] at ho
            by_cases e4 : w = "same"
            · exact .inr (.inr (.inr e4))
            rw [if_neg e4] at ho
            by_cases e5 : w = "if"
            · exact .inl e5
            · rw [if_neg e5] at ho
              cases ho
          rw [op_inner this]
          exact ih ds o
      omega
theorem ok_isTerm {n : Nat} {d : PyData} (o : okT n 8 d) (h : (wordsT 8 d).length ≤ 30) : isTerm n d = true := by
  rw [gd_isTerm (okT_gd 8 d o) (Nat.le_refl 8)]
  exact decide_eq_true (Nat.le_trans (sz_words 8 9 d o) h)
/-- a word as the law bends it -/
def wOk (w : Str) : Prop := w.length ≤ 8 ∧ 32 ∉ TL.tl w
theorem okTxt_join {ws : List Str} (h : ∀ w ∈ ws, wOk w) (l : ws.length ≤ 100) : okTxt (.str (Txt.join blank ws)) := fun z e => by
  cases e
  refine ⟨?_, fun w m => ?_⟩
  · have h1 := join_len ws
    have h2 := sum_le fun w m => (h w m).1
    have : (1000 : Nat) ≤ sizeLine := by decide
    omega
  · by_cases e0 : ws = []
    · subst e0
      have : ∀ w ∈ Txt.split (Txt.join blank []) blank, w.length ≤ 1000 := by decide +kernel
      exact this w m
    · rw [split_joinB e0 fun p m => (h p m).2] at m
      exact Nat.le_trans (h w m).1 (by decide)
theorem join_bound {ws : List Str} (h : ∀ w ∈ ws, wOk w) (l : ws.length ≤ 100) : (ws.map (·.length)).sum + ws.length * (Str.ofString " ").length ≤ 16777216 := by
  have h2 := sum_le fun w m => (h w m).1
  have h3 : (Str.ofString " ").length = 1 := by decide +kernel
  rw [h3]
  omega
theorem words_ok {n : Nat} {d : PyData} (o : okT n 8 d) : ∀ w ∈ wordsT 8 d, wOk w := fun w m => ⟨words_short name_len8 8 d o w m, words_noBl o w m⟩
def isLst : PyData → Bool
  | .list _ => true
  | _ => false
theorem kit_lst (K : PySem.W.Frag) : ∀ d : PyData, PySem.W.kitOne K (.type (kind d)) (.type "list") = some (isLst d)
  | .none => kit_ty (show kitB "NoneType" "list" = some false by decide +kernel)
  | .bool _ => kit_ty (show kitB "bool" "list" = some false by decide +kernel)
  | .int _ => kit_ty (show kitB "int" "list" = some false by decide +kernel)
  | .str _ => kit_ty (show kitB "str" "list" = some false by decide +kernel)
  | .list _ => kit_ty (show kitB "list" "list" = some true by decide +kernel)
  | .tuple _ => kit_ty (show kitB "tuple" "list" = some false by decide +kernel)
  | .dict _ => kit_ty (show kitB "dict" "list" = some false by decide +kernel)
theorem okT_lst {n f : Nat} {d : PyData} (o : okT n f d) : isLst d = false := by
  cases f with
  | zero => exact o.elim
  | succ f => rcases o with ⟨_, _, rfl⟩ | ⟨_, _, _, rfl⟩ | ⟨_, _, rfl⟩ | ⟨_, _, _, _, _, rfl⟩ | ⟨_, _, _, _, rfl⟩ <;> rfl
theorem bad_shaped : SeqAt.shaped badD = true := by decide +kernel
theorem read_shaped {n : Nat} {z : Str} : SeqAt.shaped (readD n (.str z)) = true := by
  unfold readD
  cases e : readT n (.str z) with
  | none => exact bad_shaped
  | some t => exact gd_shaped (okT_gd 8 t (readT_sound e).1) (Nat.le_refl 8)
theorem eqv_self {d : PyData} (h : SeqAt.shaped d = true) : PyData.eqv d d = true := SeqAt.eqv_refl _ (SeqAt.canLay_of_shaped h)
/-! ### displays of any values, whatever is told of them -/
structure VP where
  p : V → Hp → Prop
  st : ∀ {v : V} {H H' : Hp}, Same H H' → p v H → p v H'
def AllP : List VP → List V → Hp → Prop
  | [], [], _ => True
  | P :: Ps, v :: vs, H => P.p v H ∧ AllP Ps vs H
  | _, _, _ => False
theorem AllP.same {H H' : Hp} (s : Same H H') : ∀ {Ps : List VP} {vs : List V}, AllP Ps vs H → AllP Ps vs H'
  | [], [], _ => True.intro
  | P :: Ps, v :: vs, h => ⟨P.st s h.1, AllP.same s h.2⟩
theorem AllP.len {H : Hp} : ∀ {Ps : List VP} {vs : List V}, AllP Ps vs H → vs.length = Ps.length
  | [], [], _ => rfl
  | P :: Ps, v :: vs, h => by rw [List.length_cons, List.length_cons, AllP.len h.2]
def vEq (v : V) : VP := ⟨fun x _ => x = v, fun _ h => h⟩
def vCell (K : PySem.W.Frag) (x : Str × Str) : VP := ⟨fun v H => CellT K H v x, fun s ⟨t, e, h⟩ => ⟨t, e, same_sqT s h⟩⟩
def vFn (x : Str × Nat) : VP := ⟨fun v H => FnD H v x, fun s ⟨g, kvs, e, h, r⟩ => ⟨g, kvs, e, s _ _ h, r⟩⟩
def vLs (Ps : List VP) : VP := ⟨fun v H => ∃ l xs, v = .ref l ∧ H l = some (.lst xs) ∧ AllP Ps xs H, fun s ⟨l, xs, e, h, r⟩ => ⟨l, xs, e, s _ _ h, r.same s⟩⟩
/-- a list of at most m words -/
def vW (m : Nat) : VP := ⟨fun v H => ∃ (l : Addr) (ws : List Str), v = .ref l ∧ H l = some (.lst (ws.map V.str)) ∧ (∀ w ∈ ws, wOk w) ∧ ws.length ≤ m, fun s ⟨l, ws, e, h, r⟩ => ⟨l, ws, e, s _ _ h, r⟩⟩
/-- a datum that is read as no term -/
def vO (K : PySem.W.Frag) (n : Nat) : VP := ⟨fun v H => ∃ d, Dp K H v d ∧ okTxt d ∧ readT n d = none, fun s ⟨d, h, r⟩ => ⟨d, dp_same s h, r⟩⟩
/-- te makes a value of which P is told -/
def Mkv (te : TE) (σ : L2.St) (H0 : Hp) (P : VP) : Prop := ∀ H, Same H0 H → ∀ Q : VK, (∀ v H', Same H H' → P.p v H' → Q v H') → te σ H Q
def MkA (ta : TA) (σ : L2.St) (H0 : Hp) (Ps : List VP) : Prop := ∀ H, Same H0 H → ∀ Q : List V → Hp → Prop, (∀ vs H', Same H H' → AllP Ps vs H' → Q vs H') → ta σ H Q
/-- a row of values of which the same is told -/
def MkR (P : VP) (ta : TA) (σ : L2.St) (H0 : Hp) (n : Nat) : Prop := ∀ H, Same H0 H → ∀ Q : List V → Hp → Prop, (∀ vs H', Same H H' → vs.length = n → (∀ v ∈ vs, P.p v H') → Q vs H') → ta σ H Q
def vR (P : VP) (n : Nat) : VP := ⟨fun v H => ∃ l xs, v = .ref l ∧ H l = some (.lst xs) ∧ xs.length = n ∧ ∀ x ∈ xs, P.p x H, fun s ⟨l, xs, e, h, n, r⟩ => ⟨l, xs, e, s _ _ h, n, fun x m => P.st s (r x m)⟩⟩
section
variable {K : PySem.W.Frag} {σ : L2.St} {H0 : Hp}
theorem l2s {n : Nat} (h : n ≤ 200) : n ≤ sizeLine := Nat.le_trans h (by decide)
theorem mka_nil : MkA tNil σ H0 [] := fun H _ _ q => q [] H (Same.refl H) True.intro
theorem mka_cons {te : TE} {ta : TA} {P : VP} {Ps : List VP} (h : Mkv te σ H0 P) (t : MkA ta σ H0 Ps) : MkA (tCons te ta) σ H0 (P :: Ps) := fun H s _ q => h H s _ fun v H1 s1 pv => t H1 (s.trans s1) _ fun vs H2 s2 ps => q (v :: vs) H2 (s1.trans s2) ⟨P.st s2 pv, ps⟩
theorem mkr_nil {P : VP} : MkR P tNil σ H0 0 := fun H _ _ q => q [] H (Same.refl H) rfl fun _ h => nomatch h
theorem mkr_cons {P : VP} {n : Nat} {te : TE} {ta : TA} (h : Mkv te σ H0 P) (t : MkR P ta σ H0 n) : MkR P (tCons te ta) σ H0 (n + 1) := fun H s _ q => h H s _ fun v H1 s1 pv => t H1 (s.trans s1) _ fun vs H2 s2 l k => q (v :: vs) H2 (s1.trans s2) (by rw [List.length_cons, l]) fun x hx => by
  rcases List.mem_cons.mp hx with rfl | hx
  · exact P.st s2 pv
  · exact k x hx
theorem Mkv.imp {te : TE} {A B : VP} (h : Mkv te σ H0 A) (k : ∀ v H, Same H0 H → A.p v H → B.p v H) : Mkv te σ H0 B := fun H s _ q => h H s _ fun v H1 s1 a => q v H1 s1 (k v H1 (s.trans s1) a)
theorem mk_c (v : V) : Mkv (tC v) σ H0 (vEq v) := fun H _ _ q => q v H (Same.refl H) rfl
theorem mk_var {i : Nat} {v : V} (h : σ[i]? = some (some v)) : Mkv (tVar i) σ H0 (vEq v) := fun H _ _ q => ⟨v, h, q v H (Same.refl H) rfl⟩
theorem mk_ls {ta : TA} {Ps : List VP} (h : MkA ta σ H0 Ps) (n : Ps.length ≤ sizeLine) : Mkv (tLst ta) σ H0 (vLs Ps) := fun H s _ q => h H s _ fun vs H1 s1 ps => ⟨by rw [ps.len]; exact n, fun p np => q _ _ (s1.trans (same_upd np)) ⟨p, vs, rfl, upd_same, ps.same (same_upd np)⟩⟩
theorem mk_row {P : VP} {ta : TA} {n : Nat} (h : MkR P ta σ H0 n) (l : n ≤ 200) : Mkv (tLst ta) σ H0 (vR P n) := fun H s _ q => h H s _ fun vs H1 s1 lv k => ⟨by rw [lv]; exact l2s l, fun p np => q _ _ (s1.trans (same_upd np)) ⟨p, vs, rfl, upd_same, lv, fun x m => P.st (same_upd np) (k x m)⟩⟩
theorem mk_rows {P : VP} {ta tb : TE} {n m : Nat} (ha : Mkv ta σ H0 (vR P n)) (hb : Mkv tb σ H0 (vR P m)) (l : n + m ≤ 200) : Mkv (tOp rCat ta tb) σ H0 (vR P (n + m)) := fun H s _ q => ha H s _ fun x H1 s1 ⟨a, xs, ex, hx, lx, px⟩ => hb H1 (s.trans s1) _ fun y H2 s2 ⟨b, ys, ey, hy, ly, py⟩ =>
  ⟨a, b, xs, ys, ex, ey, s2 _ _ hx, hy, by rw [lx, ly]; exact l2s l, fun p np => q _ _ ((s1.trans s2).trans (same_upd np)) ⟨p, xs ++ ys, rfl, upd_same, by rw [List.length_append, lx, ly], fun v m => by
    rcases List.mem_append.mp m with m | m
    · exact P.st (s2.trans (same_upd np)) (px v m)
    · exact P.st (same_upd np) (py v m)⟩⟩
theorem mk_ixl {te : TE} {a : Addr} {xs : List V} {j : Nat} {x : V} (h : Mkv te σ H0 (vEq (.ref a))) (ha : H0 a = some (.lst xs)) (hx : xs[j]? = some x) : Mkv (tOp (rIxL K) te (tC (.int (j : Nat)))) σ H0 (vEq x) := fun H s _ q => h H s _ fun v H1 s1 e => by
  cases e
  exact ⟨a, xs, _, x, rfl, rfl, .inl (.inl ((s.trans s1) _ _ ha)), atI_nat hx, q x H1 s1 rfl⟩
theorem mk_cell {te : TE} {z k : Str} (h : Mkv te σ H0 (vEq (.str z))) : Mkv (tTup (tCons te (tCons (tC (.str k)) tNil))) σ H0 (vCell K (z, k)) := fun H s _ q => h H s _ fun v H1 s1 e => by
  cases e
  exact ⟨(by show 2 ≤ sizeLine; decide), fun p np => q _ _ (s1.trans (same_upd np)) ⟨p, rfl, .inl (.inl upd_same)⟩⟩
theorem mk_fn {te : TE} {z : Str} {m : Nat} (h : Mkv te σ H0 (vEq (.str z))) : Mkv (tDisp [(tC (.str "name"), te), (tC (.str "many"), tC (.int (m : Nat)))]) σ H0 (vFn (z, m)) := fun H s _ q => fun g ng => h _ (s.trans (same_upd ng)) _ fun v H1 s1 e => by
  cases e
  refine ⟨s1 _ _ upd_same, [(.inr "name", .str z), (.inr "many", .int (m : Nat))], rfl, (by show 2 ≤ 15; decide), q _ _ (fun b o e => ?_) ⟨g, [(.inr "name", .str z), (.inr "many", .int (m : Nat))], rfl, upd_same, rfl, rfl⟩⟩
  have hb : b ≠ g := ne_of_none e ng
  rw [upd_ne hb]
  exact s1 _ _ (same_upd ng _ _ e)
theorem mk_w1 {z : Str} (h : wOk z) : Mkv (tLst (tCons (tC (.str z)) tNil)) σ H0 (vW 1) := fun H s _ q => ⟨(by show 1 ≤ sizeLine; decide), fun p np => q _ _ (same_upd np) ⟨p, [z], rfl, upd_same, fun w m => by rw [List.mem_singleton.mp m]; exact h, Nat.le_refl 1⟩⟩
theorem mk_wv {i : Nat} {l : Addr} {ws : List Str} {m : Nat} (at_ : σ[i]? = some (some (V.ref l))) (e : H0 l = some (.lst (ws.map V.str))) (h : ∀ w ∈ ws, wOk w) (lw : ws.length ≤ m) : Mkv (tVar i) σ H0 (vW m) := fun H s _ q => ⟨_, at_, q _ H (Same.refl H) ⟨l, ws, rfl, s _ _ e, h, lw⟩⟩
theorem mk_wc {ta tb : TE} {a b : Nat} (ha : Mkv ta σ H0 (vW a)) (hb : Mkv tb σ H0 (vW b)) (h : a + b ≤ 200) : Mkv (tOp rCat ta tb) σ H0 (vW (a + b)) := fun H s _ q => ha H s _ fun x H1 s1 ⟨l, ws, ex, hx, ox, lx⟩ => hb H1 (s.trans s1) _ fun y H2 s2 ⟨l2, us, ey, hy, oy, ly⟩ =>
  ⟨l, l2, _, _, ex, ey, s2 _ _ hx, hy, by rw [List.length_map, List.length_map]; exact l2s (by omega), fun p np => q _ _ ((s1.trans s2).trans (same_upd np)) ⟨p, ws ++ us, rfl, by rw [upd_same, List.map_append], fun w m => by
    rcases List.mem_append.mp m with m | m
    · exact ox w m
    · exact oy w m, by rw [List.length_append]; omega⟩⟩
theorem mk_wsl {te : TE} {tl th : TO} {lo hi : Option Int} {a : Nat} (h : Mkv te σ H0 (vW a)) (hl : ∀ H Q, Q lo H → tl σ H Q) (hh : ∀ H Q, Q hi H → th σ H Q) : Mkv (tSl (rSlL K) te tl th) σ H0 (vW a) := fun H s _ q => h H s _ fun v H1 s1 ⟨l, ws, e, hx, o, lw⟩ => by
  refine hl H1 _ (hh H1 _ ⟨l, _, e, .inl (.inl hx), fun p np => q _ _ (s1.trans (same_upd np)) ⟨p, (ws.drop (HT.sIx (ws.map V.str).length 0 lo)).take (HT.sIx (ws.map V.str).length (ws.map V.str).length hi - HT.sIx (ws.map V.str).length 0 lo), rfl, ?_, fun w m => o w (List.mem_of_mem_drop (List.mem_of_mem_take m)), ?_⟩⟩)
  · rw [upd_same, List.map_take, List.map_drop]
    rfl
  · rw [List.length_take, List.length_drop]
    omega
theorem mk_wle {te : TE} {a b : Nat} (h : Mkv te σ H0 (vW a)) (l : a ≤ b) : Mkv te σ H0 (vW b) := h.imp fun v H _ ⟨p, ws, e, h, o, lw⟩ => ⟨p, ws, e, h, o, Nat.le_trans lw l⟩
theorem mk_wz {te : TE} {z : Str} (h : Mkv te σ H0 (vW 30)) (hz : wOk z) : Mkv (tOp rCat te (tLst (tCons (tC (.str z)) tNil))) σ H0 (vW 70) := mk_wle (mk_wc h (mk_w1 hz) (by decide)) (by decide)
theorem mk_zw {te : TE} {z : Str} (h : Mkv te σ H0 (vW 30)) (hz : wOk z) : Mkv (tOp rCat (tLst (tCons (tC (.str z)) tNil)) te) σ H0 (vW 70) := mk_wle (mk_wc (mk_w1 hz) h (by decide)) (by decide)
theorem mk_bend {te : TE} {t1 t2 : TO} {z : Str} {i1 i2 : Int} (h : Mkv te σ H0 (vW 30)) (hz : wOk z) (h1 : ∀ H Q, Q (some i1) H → t1 σ H Q) (h2 : ∀ H Q, Q (some i2) H → t2 σ H Q) : Mkv (tOp rCat (tOp rCat (tSl (rSlL K) te tNoPart t1) (tLst (tCons (tC (.str z)) tNil))) (tSl (rSlL K) te t2 tNoPart)) σ H0 (vW 70) :=
  mk_wle (mk_wc (mk_wc (mk_wsl (lo := none) h (fun _ _ h => h) h1) (mk_w1 hz) (by decide)) (mk_wsl (hi := none) h h2 (fun _ _ h => h)) (by decide)) (by decide)
/-- the law's odd texts -/
theorem od_s {n : Nat} (z : Str) (h : z.length + 2 ≤ sizeLine ∧ ∀ w ∈ Txt.split z blank, w.length ≤ 1000) (r : (readT n (.str z)).isNone = true) : Mkv (tC (.str z)) σ H0 (vO K n) := (mk_c _).imp fun v H _ e => by
  cases e
  exact ⟨.str z, .str z, fun z' e => by cases e; exact h, Option.isNone_iff_eq_none.mp r⟩
end
def Nf (te : TE) (σ : L2.St) (H : Hp) : Prop := ∀ Q : VK, (∀ H', Same H H' → Q (.bl false) H') → te σ H Q
theorem nf_i {te : TE} {t1 t2 : TS} {D : Ends} {σ : L2.St} {H : Hp} (h : Nf te σ H) (k : ∀ H', Same H H' → t2 D σ H') : tIfS (tTest te) t1 t2 D σ H := h _ fun H' s => ⟨false, rfl, iteF (k H' s)⟩
theorem nf_o {te : TE} {tb : TT} {t1 t2 : TS} {D : Ends} {σ : L2.St} {H : Hp} (h : Nf te σ H) (k : ∀ H', Same H H' → tIfS tb t1 t2 D σ H') : tIfS (tOr (tTest te) tb) t1 t2 D σ H := h _ fun H' s => ⟨false, rfl, iteF (k H' s)⟩
/-- a contract for some number of arguments -/
def exN (sp : Nat → Sp) : Sp := fun vs H Q E => ∃ n, n ≤ 2 ∧ sp n vs H Q E
theorem exN_ok {P : Program} {w : World} {K : PySem.W.Frag} {mg : Str → Option Value} {base : Heap} {CX : CXT} {k : Nat} {f : Addr} {fd : FuncData} {ps : List Str} {sp : Nat → Sp} (F : ∀ n, n ≤ 2 → FnOk P w K mg base CX k f fd ps (sp n)) : FnOk P w K mg base CX k f fd ps (exN sp) :=
  ⟨fun vs H Q E ⟨n, h2, h⟩ => (F n h2).len _ _ _ _ h, fun A outer s H args us vs Q E hr he hb hv ⟨n, h2, h⟩ => (F n h2).run A outer s H args us vs Q E hr he hb hv h⟩
/-- a for over a list of values of which the same is told -/
theorem q_forR {K : PySem.W.Frag} {P : VP} {te : TE} {n : Nat} {σ : L2.St} {H : Hp} {g : TG} {tb tz : TS} {D : Ends} (h : Mkv te σ H (vR P n)) (Pv : L2.St → Hp → Hp → Prop) (h0 : ∀ G, Same H G → Pv σ G G) (hl : ∀ σ' G H', Pv σ' G H' → Same G H')
    (hs : ∀ G, Same H G → ∀ x σ' H', P.p x H' → Pv σ' G H' → g x σ' H' fun σ2 H2 => tb { ({ D with nx := tz D } : Ends) with nx := fun σ3 H3 => Pv σ3 G H3, ct := fun σ3 H3 => Pv σ3 G H3, bk := ({ D with nx := tz D } : Ends).nx } σ2 H2)
    (hd : ∀ G σ' H', Same H G → Pv σ' G H' → tz D σ' H') : tSeq (tFor (iList K te) g tb) tz D σ H := by
  unfold tSeq tFor iList
  refine h H (Same.refl H) _ fun v G s ⟨l, us, e, el, ln, k⟩ => ⟨l, e, ⟨_, .inl (.inl el)⟩, ?_⟩
  exact for_list (K := K) (a := l) (xs := us) (D := { D with nx := tz D }) (fun j σ' H'' => Pv σ' G H'') (h0 G s) (fun j σ' H'' _ w => .inl (.inl (hl _ _ _ w _ _ el))) (fun j x σ' H'' hx w => hs G s x σ' H'' (P.st (hl _ _ _ w) (k x (List.mem_of_getElem? hx))) w) (fun σ' H'' w => hd G σ' H'' s w)
theorem read_none {n : Nat} {d : PyData} (e : readT n d = none) : readD n d = badD := by
  unfold readD
  rw [e]
  rfl
theorem read_some {n : Nat} {d t : PyData} (e : readT n d = some t) : readD n d = t := by
  unfold readD
  rw [e]
  rfl
/-- what is read as no term is no finding -/
theorem bad_ok {K : PySem.W.Frag} {n : Nat} {σ : L2.St} {H : Hp} {v : V} {d : PyData} {Q : VK} (n2 : n ≤ 2) (hv : Dp K H v d) (ht : okTxt d) (hr : readT n d = none) (q : ∀ H', Same H H' → Q (.bl false) H') :
    spLR K [v, .int (n : Nat)] H (fun x H1 => tLst (tCons (tC (.str "bad")) (tCons (tC (.int 0)) tNil)) σ H1 fun y H2 => rNeD K x y H2 Q) E0 :=
  ⟨v, d, n, rfl, n2, hv, ht, fun u H' s' hu => ⟨(by show 2 ≤ sizeLine; decide), fun lb nlb => ⟨readD n d, badD, dp_same (same_upd nlb) hu, .lst (.inl (.inl upd_same)) (.cons (.str _) (.cons (.int _) .nil)), (by rw [read_none hr]; exact bad_shaped), bad_shaped, by
    rw [read_none hr, eqv_self bad_shaped]
    exact q _ (s'.trans (same_upd nlb))⟩⟩⟩
def oddL : List Str := ["", " ", "3", "arg", "arg x", "cell", "cell A", "plus 1", "less 1 2 3", "if 1 2", "call f", "call f 3 1 1 1", "call f 1", "call f 01 1", "call F 0", "Tick", "tick 1", "same 1  2", "arg -1", "arg 00"]
theorem odd_none {n : Nat} (h : n ≤ 2) : ∀ z ∈ oddL, (readT n (.str z)).isNone = true := by
  rcases (show n = 0 ∨ n = 1 ∨ n = 2 by omega) with rfl | rfl | rfl <;> decide +kernel
theorem odd_txt : ∀ z ∈ oddL, z.length + 2 ≤ sizeLine ∧ ∀ w ∈ Txt.split z blank, w.length ≤ 1000 := by decide +kernel
theorem argn_none {n : Nat} (h : n ≤ 2) : (readT n (.str ("arg " ++ figW n))).isNone = true ∧ (("arg " : Str) ++ figW n).length + 2 ≤ sizeLine ∧ ∀ w ∈ Txt.split ("arg " ++ figW n) blank, w.length ≤ 1000 := by
  rcases (show n = 0 ∨ n = 1 ∨ n = 2 by omega) with rfl | rfl | rfl <;> decide +kernel
section
variable {K : PySem.W.Frag} {σ : L2.St} {H0 : Hp}
theorem od_i {n i : Nat} {z : Str} (h : n ≤ 2) (e : oddL[i]? = some z) : Mkv (tC (.str z)) σ H0 (vO K n) := od_s z (odd_txt z (List.mem_of_getElem? e)) (odd_none h z (List.mem_of_getElem? e))
theorem od_non {n : Nat} : Mkv (tC .non) σ H0 (vO K n) := (mk_c _).imp fun v H _ e => by
  cases e
  exact ⟨.none, .non, (fun z e => by cases e), rfl⟩
theorem od_int {n : Nat} {i : Int} : Mkv (tC (.int i)) σ H0 (vO K n) := (mk_c _).imp fun v H _ e => by
  cases e
  exact ⟨.int i, .int _, (fun z e => by cases e), rfl⟩
theorem od_lst {n : Nat} : Mkv (tLst (tCons (tC (.str "tick")) tNil)) σ H0 (vO K n) := fun H s Q q => ⟨(by show 1 ≤ sizeLine; decide), fun p np => q _ _ (same_upd np) ⟨.list [.str "tick"], .lst (.inl (.inl upd_same)) (.cons (.str _) .nil), (fun z e => by cases e), rfl⟩⟩
theorem od_arg {n i : Nat} (h : n ≤ 2) (at_ : σ[i]? = some (some (V.int (n : Nat)))) : Mkv (tOp (fun x y H Q => ∃ i j, x = V.str i ∧ y = V.str j ∧ i.length + j.length ≤ sizeLine ∧ Q (V.str (i ++ j)) H) (tC (.str "arg "))
    (tCB (fun xs H Q => (∃ i, xs = [V.int i] ∧ i.natAbs.log2 < 1920 ∧ Q (V.str (Str.ofString (toString i))) H) ∨ ∃ a, xs = [V.str a] ∧ Q (V.str a) H) (tCons (tVar i) tNil))) σ H0 (vO K n) := fun H s Q q => by
  obtain ⟨h1, h2, h3⟩ := argn_none h
  refine ⟨_, at_, .inl ⟨(n : Nat), rfl, (str_fig (by omega)).2, "arg ", figW n, rfl, ?_, ?_, q _ H (Same.refl H) ⟨.str ("arg " ++ figW n), .str _, fun z e => by cases e; exact ⟨h2, h3⟩, Option.isNone_iff_eq_none.mp h1⟩⟩⟩
  · rw [(str_fig (by omega)).1]
  · have := fig_len n
    rw [show (("arg " : Str)).length = 4 by decide +kernel, sizeLine_eq]
    omega
end
/-- the law's own book -/
def lbOf (z0 z1 z2 z3 : Str) : LB := ⟨[(z0, "table"), (z1, "frozen")], [(z2, 2), (z3, 0)]⟩
theorem lb_ok {z0 z1 z2 z3 : Str} (h0 : isName (.str z0) = true) (h1 : isName (.str z1) = true) (h2 : isName (.str z2) = true) (h3 : isName (.str z3) = true) : LOk (lbOf z0 z1 z2 z3) := by
  refine ⟨fun x m => ?_, fun x m => ?_, by show 2 ≤ 8; decide, by show 2 ≤ 8; decide⟩
  · rcases List.mem_cons.mp m with rfl | m
    · exact ⟨h0, (by decide +kernel : ("table" : Str) ∈ (["frozen", "setting", "table"] : List Str))⟩
    · rw [List.mem_singleton.mp m]
      exact ⟨h1, (by decide +kernel : ("frozen" : Str) ∈ (["frozen", "setting", "table"] : List Str))⟩
  · rcases List.mem_cons.mp m with rfl | m
    · exact ⟨h2, Nat.le_refl 2⟩
    · rw [List.mem_singleton.mp m]
      exact ⟨h3, Nat.zero_le 2⟩
theorem rows_of {α : Type} {R : V → α → Prop} {v0 v1 : V} {c0 c1 : α} (h0 : R v0 c0) (h1 : R v1 c1) : Rows R [v0, v1] [c0, c1] := by
  refine ⟨rfl, fun i x c ex ec => ?_⟩
  match i with
  | 0 =>
    cases ex
    cases ec
    exact h0
  | 1 =>
    cases ex
    cases ec
    exact h1
  | i + 2 => cases ex
theorem sqT_dk {K : PySem.W.Frag} {H H' : Hp} {g : Addr} {kvs : List (Key × V)} (e : H g = some (.dK kvs)) (b : But g H H') {a : Addr} {xs : List V} (h : SqT K H a xs) : SqT K H' a xs := by
  rcases h with (h | ⟨o, h⟩) | h
  · exact .inl (.inl (b _ _ h (ne_of h e (fun z => nomatch z))))
  · exact .inl (.inr ⟨o, b _ _ h (ne_of h e (fun z => nomatch z))⟩)
  · exact .inr h
theorem all2 {A B : VP} {vs : List V} {H : Hp} (h : AllP [A, B] vs H) : ∃ a b, vs = [a, b] ∧ A.p a H ∧ B.p b H := by
  match vs, h with
  | [a, b], h => exact ⟨a, b, rfl, h.1, h.2.1⟩
theorem cellT_upd {K : PySem.W.Frag} {H : Hp} {b : Addr} {o : HO} (e : H b = some (.dK [])) {v : V} {x : Str × Str} (h : CellT K H v x) : CellT K (upd H b o) v x := by
  obtain ⟨t, et, h⟩ := h
  exact ⟨t, et, sqT_dk e But.upd h⟩
theorem fnD_upd {H : Hp} {b : Addr} {o : HO} (e : H b = some (.dK [])) {v : V} {x : Str × Nat} (h : FnD H v x) : FnD (upd H b o) v x := by
  obtain ⟨g, kvs, ev, h, h2, h3⟩ := h
  have n : g ≠ b := fun q => by
    rw [q, e] at h
    obtain rfl : [] = kvs := HO.dK.inj (Option.some.inj h)
    cases h2
  exact ⟨g, kvs, ev, by rw [upd_ne n]; exact h, h2, h3⟩
theorem mk_book {K : PySem.W.Frag} {σ : L2.St} {H0 H : Hp} {t0 t1 t2 t3 : TE} {z0 z1 z2 z3 : Str} (h0 : Mkv t0 σ H0 (vEq (.str z0))) (h1 : Mkv t1 σ H0 (vEq (.str z1))) (h2 : Mkv t2 σ H0 (vEq (.str z2))) (h3 : Mkv t3 σ H0 (vEq (.str z3))) (s : Same H0 H) {Q : VK}
    (q : ∀ b H', Same H H' → LBk K (lbOf z0 z1 z2 z3) H' b → Q (.ref b) H') :
    tDisp [(tC (.str "cells"), tLst (tCons (tTup (tCons t0 (tCons (tC (.str "table")) tNil))) (tCons (tTup (tCons t1 (tCons (tC (.str "frozen")) tNil))) tNil))), (tC (.str "functions"), tLst (tCons (tDisp [(tC (.str "name"), t2), (tC (.str "many"), tC (.int 2))]) (tCons (tDisp [(tC (.str "name"), t3), (tC (.str "many"), tC (.int 0))]) tNil)))] σ H Q := fun b nb => by
  have sb := s.trans (same_upd (o := HO.dK []) nb)
  unfold tPairs tC
  refine mk_ls (mka_cons (mk_cell (K := K) h0) (mka_cons (mk_cell (K := K) h1) mka_nil)) (by show 2 ≤ sizeLine; decide) _ sb _ fun vc H1 s1 pc => ?_
  unfold tPairs
  refine mk_ls (mka_cons (mk_fn (m := 2) h2) (mka_cons (mk_fn (m := 0) h3) mka_nil)) (by show 2 ≤ sizeLine; decide) _ (sb.trans s1) _ fun vf H2 s2 pf => ?_
  have pc := VP.st _ s2 pc
  have eb : H2 b = some (.dK []) := s2 _ _ (s1 _ _ upd_same)
  obtain ⟨c, xs, rfl, ec, ac⟩ := pc
  obtain ⟨f, ys, rfl, ef, af⟩ := pf
  obtain ⟨v0, v1, rfl, c0, c1⟩ := all2 ac
  obtain ⟨w0, w1, rfl, f0, f1⟩ := all2 af
  have nc : c ≠ b := ne_of ec eb (fun z => nomatch z)
  have nf : f ≠ b := ne_of ef eb (fun z => nomatch z)
  refine ⟨eb, [(.inr "cells", .ref c), (.inr "functions", .ref f)], rfl, (by show 2 ≤ 15; decide), q b _ (fun x o e => ?_) ⟨c, f, [v0, v1], [w0, w1], upd_same, by rw [upd_ne nc]; exact ec, by rw [upd_ne nf]; exact ef, rows_of (cellT_upd eb c0) (cellT_upd eb c1), rows_of (fnD_upd eb f0) (fnD_upd eb f1)⟩⟩
  have nx : x ≠ b := ne_of_none e nb
  rw [upd_ne nx]
  exact s2 _ _ (s1 _ _ (same_upd nb _ _ e))
/-! ### the law of terms as texts -/
abbrev sLaw : Stmt := topS 39
theorem scLaw : FnScope ["_law_script", "_law_k", "_law_pool_here", "_law_names_here", "_law_many", "_law_b", "_law_turn", "_law_term_here", "_law_text", "_law_words", "_law_at", "_law_bent", "_law_some", "_law_told", "_law_odds", "_law_odd"] ["_law_script"] (defScope sLaw) := ⟨rfl, rfl, rfl, by decide +kernel, rfl, by decide +kernel, by decide +kernel⟩
def spLaw (K : PySem.W.Frag) : Sp := fun vs H Q _ => ∃ (a : Addr) (ns : List Int), vs = [.ref a] ∧ SqL K H a (ns.map V.int) ∧ ns.length ≤ 63 ∧ ∀ H', Q (.bl true) H'
theorem same_but {p : Addr} {H H1 H2 : Hp} (s : Same H H1) (n : H p = none) (h2 : But p H1 H2) : Same H H2 := fun b o e => h2 b o (s b o e) (ne_of_none e n)
theorem turns2 {L i : Nat} (h : i < (if (if (2 : Int) < (L : Int) then (2 : Int) else (L : Int)) > 1 then (if (2 : Int) < (L : Int) then (2 : Int) else (L : Int)) else 1).toNat) : i ≤ 1 ∧ (i < L ∨ L = 0) := by
  split at h <;> split at h <;> omega
theorem bounds2 {L : Nat} : -(2 ^ 62) ≤ (if (if (2 : Int) < (L : Int) then (2 : Int) else (L : Int)) > 1 then (if (2 : Int) < (L : Int) then (2 : Int) else (L : Int)) else 1) ∧ (if (if (2 : Int) < (L : Int) then (2 : Int) else (L : Int)) > 1 then (if (2 : Int) < (L : Int) then (2 : Int) else (L : Int)) else 1) < 2 ^ 62 := by
  split <;> split <;> omega
theorem wOk_0 : wOk "0" := by unfold wOk; decide +kernel
theorem wOk_e : wOk "" := by unfold wOk; decide +kernel
theorem wOk_arg : wOk "arg" := by unfold wOk; decide +kernel
theorem wOk_p : wOk "Plus" := by unfold wOk; decide +kernel
theorem wOk_01 : wOk "01" := by unfold wOk; decide +kernel
theorem wOk_m1 : wOk "-1" := by unfold wOk; decide +kernel
section
variable {P : Program} {w : World} {K : PySem.W.Frag} {mg : Str → Option Value} {base : Heap}
theorem ok_law {fPl fD fPk fN fT fX fW fR f : Addr} {fd dPl dD dPk dN dT dX dW dR : FuncData} (F0 : Fun K "law" "law" sLaw f fd) (M : Blt mg)
    (FPl : Fun K "_law_pool" "_law_pool" sPool fPl dPl) (bPl : Binds K dPl ["_law_script", "_law_k"] []) (gPl : mg "_law_pool" = some (.ref fPl)) (FD : Fun K "_law_draw" "_law_draw" sDraw fD dD) (bD : Binds K dD ["_law_pool_here", "_law_many"] []) (gD : mg "_law_draw" = some (.ref fD))
    (FP : Fun K "_law_pick" "_law_pick" sPick fPk dPk) (bP : Binds K dPk ["_law_pool_here", "_law_row"] []) (gP : mg "_law_pick" = some (.ref fPk)) (FN : Fun K "_law_names" "_law_names" sLNames fN dN) (bN : Binds K dN ["_law_pool_here", "_law_count"] []) (gN : mg "_law_names" = some (.ref fN))
    (FT : Fun K "_law_term" "_law_term" sLTerm fT dT) (bT : Binds K dT ["_law_pool_here", "_law_b", "_law_many", "_law_deep"] []) (gT : mg "_law_term" = some (.ref fT)) (FX : Fun K "_law_term_text" "_law_term_text" sTx fX dX) (bX : Binds K dX ["_law_term_here"] []) (gX : mg "_law_term_text" = some (.ref fX))
    (GW : ∀ n, n ≤ 2 → FnOk P w K mg base CX0 13 fW dW ["term"] (spWr K n)) (kW : PySem.W.keepIn K (.ref fW) = true) (bW : Binds K dW ["term"] []) (gW : mg "write_term" = some (.ref fW))
    (GR : FnOk P w K mg base CX0 15 fR dR ["_law_text", "_law_many"] (spLR K)) (kR : PySem.W.keepIn K (.ref fR) = true) (bR : Binds K dR ["_law_text", "_law_many"] []) (gR : mg "_law_read" = some (.ref fR)) : FnOk P w K mg base CX0 16 f fd ["_law_script"] (spLaw K) := by
  have GP := ok_pool (P := P) (w := w) (base := base) FPl M
  have GD : FnOk P w K mg base CX0 1 fD dD ["_law_pool_here", "_law_many"] spDraw := ok_draw FD M
  have GN : FnOk P w K mg base CX0 3 fN dN ["_law_pool_here", "_law_count"] (spLNames K) := ok_lnames FN M FD bD gD FP bP gP
  have GT : FnOk P w K mg base CX0 7 fT dT ["_law_pool_here", "_law_b", "_law_many", "_law_deep"] (spLTerm K 4) := ok_lterm FT M bT gT FD bD gD FP bP gP 4
  have GX : ∀ n, n ≤ 2 → FnOk P w K mg base CX0 9 fX dX ["_law_term_here"] (spTx K n 8) := fun n _ => ok_tx FX M bX gX 8 (Nat.le_refl 8)
  refine F0.ok scLaw (fun vs H Q E h => ?_) (fun cdv A outer s H vs Q E hr h => ?_)
  · obtain ⟨a, ns, rfl, _⟩ := h
    rfl
  · obtain ⟨a, ns, rfl, hS, hlen, q⟩ := h
    have hrX : ∀ {n : Nat}, n ≤ 15 → Room n (A.deeper (envOfC "law" (defScope sLaw) s.heap.objs.size f cdv)) := fun h => hr.mono h
    have hu := hu_of hr
    refine ⟨_, pss_cons (ps_for PassesOwn.never rfl (pi_range1 (by rfl) M.range (pa_cons (pe_callB (call_max2 rfl) (by rfl) M.max (by decide +kernel) (pa_cons pe_int (pa_cons (pe_callB (call_min2 rfl) (by rfl) M.min (by decide +kernel) (pa_cons (pe_callB call_len_seq (by rfl) M.len PySem.boot_len (pa_cons (pv 0) pa_nil)) (pa_cons pe_int pa_nil))) pa_nil))) pa_nil)) (pg_name (i := 1) scLaw.nd rfl (.inl rfl))
        (pss_cons (ps_set (i := 2) scLaw.nd rfl (.inl rfl) (pe_call GP (hrX (by decide)) (by rfl) gPl FPl.kp bPl .nil pass0 (pa_cons (pv 0) (pa_cons (pv 1) pa_nil))))
        (pss_cons (ps_asg (pe_tup (pa_cons (pe_call GN (hrX (by decide)) (by rfl) gN FN.kp bN .nil pass0 (pa_cons (pv 2) (pa_cons pe_int pa_nil))) (pa_cons (pe_call GD (hrX (by decide)) (by rfl) gD FD.kp bD .nil pass0 (pa_cons (pv 2) (pa_cons pe_int pa_nil))) pa_nil))) (pg_tup (by rfl) (pgs_cons (pg_name (i := 3) scLaw.nd rfl (.inl rfl)) (pgs_cons (pg_name (i := 4) scLaw.nd rfl (.inr rfl)) pgs_nil))))
        (pss_cons (ps_set (i := 5) scLaw.nd rfl (.inl rfl) (pe_disp (pps_cons pe_str (pe_lst (pa_cons (pe_tup (pa_cons (pe_ix ix_list (pv 3) pe_int (fun _ _ => rfl)) (pa_cons pe_str pa_nil))) (pa_cons (pe_tup (pa_cons (pe_ix ix_list (pv 3) pe_int (fun _ _ => rfl)) (pa_cons pe_str pa_nil))) pa_nil)))
            (pps_cons pe_str (pe_lst (pa_cons (pe_disp (pps_cons pe_str (pe_ix ix_list (pv 3) pe_int (fun _ _ => rfl)) (pps_cons pe_str pe_int pps_nil)) (by rfl) (by rfl) (by simp) (by decide)) (pa_cons (pe_disp (pps_cons pe_str (pe_ix ix_list (pv 3) pe_int (fun _ _ => rfl)) (pps_cons pe_str pe_int pps_nil)) (by rfl) (by rfl) (by simp) (by decide)) pa_nil))) pps_nil)) (by rfl) (by rfl) (by simp) (by decide)))
        (pss_cons (ps_for PassesOwn.never rfl (pi_range1 (by rfl) M.range (pa_cons pe_int pa_nil)) (pg_name (i := 6) scLaw.nd rfl (.inl rfl))
          (pss_cons (ps_set (i := 7) scLaw.nd rfl (.inl rfl) (pe_call GT (hrX (by decide)) (by rfl) gT FT.kp bT .nil pass0 (pa_cons (pv 2) (pa_cons (pv 5) (pa_cons (pv 4) (pa_cons (pe_call GD (hrX (by decide)) (by rfl) gD FD.kp bD .nil pass0 (pa_cons (pv 2) (pa_cons pe_int pa_nil))) pa_nil))))))
          (pss_cons (ps_set (i := 8) scLaw.nd rfl (.inl rfl) (pe_call (exN_ok GX) (hrX (by decide)) (by rfl) gX FX.kp bX .nil pass0 (pa_cons (pv 7) pa_nil)))
          (pss_one (ps_if (pt_cmpR op_le (pe_callB call_len_seq (by rfl) M.len PySem.boot_len (pa_cons (pe_split (pv 8) pe_str) pa_nil)) pe_int (nomark _))
            (pss_cons (ps_if (PW.pt (pw_or (pt_cmpR op_ne (pe_call (exN_ok GW) (hrX (by decide)) (by rfl) gW kW bW .nil pass0 (pa_cons (pv 7) pa_nil)) (pv 8) (nomark _)) (pw_or1 (pt_cmpR (op_neD hr.units) (pe_call GR (hrX (by decide)) (by rfl) gR kR bR .nil pass0 (pa_cons (pv 8) (pa_cons (pv 4) pa_nil))) (pv 7) (nomark _))))) (pss_one (ps_ret pe_bl)) pss_nil)
            (pss_cons (ps_set (i := 9) scLaw.nd rfl (.inl rfl) (pe_split (pv 8) pe_str))
            (pss_cons (ps_set (i := 10) scLaw.nd rfl (.inl rfl) (pe_call GD (hrX (by decide)) (by rfl) gD FD.kp bD .nil pass0 (pa_cons (pv 2) (pa_cons (pe_callB call_len_seq (by rfl) M.len PySem.boot_len (pa_cons (pv 9) pa_nil)) pa_nil))))
            (pss_cons (ps_set (i := 11) scLaw.nd rfl (.inl rfl) (pe_lst (pa_cons (pe_op op_cat (pv 9) (pe_lst (pa_cons pe_str pa_nil))) (pa_cons (pe_op op_cat (pv 9) (pe_lst (pa_cons pe_str pa_nil)))
                (pa_cons (pe_op op_cat (pe_op op_cat (pe_slice sl_list (pv 9) po_none (po_some (pv 10))) (pe_lst (pa_cons pe_str pa_nil))) (pe_slice sl_list (pv 9) (po_some (pv 10)) po_none))
                (pa_cons (pe_slice sl_list (pv 9) po_none (po_some (pe_un un_neg pe_int))) (pa_cons (pe_op op_cat (pv 9) (pe_lst (pa_cons pe_str pa_nil))) (pa_cons (pe_op op_cat (pe_lst (pa_cons pe_str pa_nil)) (pv 9)) pa_nil))))))))
            (pss_cons (ps_for PassesOwn.never rfl (pi_list (pe_op op_cat (pv 11) (pe_lst
                (pa_cons (pe_op op_cat (pe_op op_cat (pe_slice sl_list (pv 9) po_none (po_some (pv 10))) (pe_lst (pa_cons pe_str pa_nil))) (pe_slice sl_list (pv 9) (po_some (pe_op op_add (pv 10) pe_int)) po_none))
                (pa_cons (pe_op op_cat (pe_op op_cat (pe_slice sl_list (pv 9) po_none (po_some (pv 10))) (pe_lst (pa_cons pe_str pa_nil))) (pe_slice sl_list (pv 9) (po_some (pe_op op_add (pv 10) pe_int)) po_none))
                (pa_cons (pe_op op_cat (pe_op op_cat (pe_slice sl_list (pv 9) po_none (po_some (pv 10))) (pe_lst (pa_cons pe_str pa_nil))) (pe_slice sl_list (pv 9) (po_some (pe_op op_add (pv 10) pe_int)) po_none)) pa_nil)))))) (pg_name (i := 12) scLaw.nd rfl (.inl rfl))
              (pss_cons (ps_set (i := 13) scLaw.nd rfl (.inl rfl) (pe_call GR (hrX (by decide)) (by rfl) gR kR bR .nil pass0 (pa_cons (pe_m1 PySem.F.slot_str_join PySem.F.type_str_join mt_join pe_str (pv 12)) (pa_cons (pv 4) pa_nil))))
              (pss_one (ps_if (PW.pt (pw_and (pt_cmpR (op_neD hr.units) (pv 13) (pe_lst (pa_cons pe_str (pa_cons pe_int pa_nil))) (nomark _)) (pw_and1 (PW.pt (pw_or (pt_val (pe_callB call_isi (by rfl) M.isinstance (by decide +kernel) (pa_cons (pv 13) (pa_cons (pe_bltn (v := .ty "list") (by rfl) M.list (by decide +kernel) rfl) pa_nil))))
                  (pw_or1 (pt_cmpR op_ne (pe_call (exN_ok GX) (hrX (by decide)) (by rfl) gX FX.kp bX .nil pass0 (pa_cons (pv 13) pa_nil)) (pe_m1 PySem.F.slot_str_join PySem.F.type_str_join mt_join pe_str (pv 12)) (nomark _)))))))) (pss_one (ps_ret pe_bl)) pss_nil))))
            (pss_one (ps_if (PW.pt (pw_or (pt_cmpR (op_neD hr.units) (pe_call GR (hrX (by decide)) (by rfl) gR kR bR .nil pass0 (pa_cons (pe_m1 PySem.F.slot_str_join PySem.F.type_str_join mt_join pe_str (pe_op op_cat (pv 9) (pe_lst (pa_cons pe_str pa_nil)))) (pa_cons (pv 4) pa_nil))) (pe_lst (pa_cons pe_str (pa_cons pe_int pa_nil))) (nomark _))
                (pw_or1 (pt_cmpR (op_neD hr.units) (pe_call GR (hrX (by decide)) (by rfl) gR kR bR .nil pass0 (pa_cons (pe_op op_add_str (pv 8) pe_str) (pa_cons (pv 4) pa_nil))) (pe_lst (pa_cons pe_str (pa_cons pe_int pa_nil))) (nomark _))))) (pss_one (ps_ret pe_bl)) pss_nil)))))))
            pss_nil)))))
        (pss_cons (ps_set (i := 14) scLaw.nd rfl (.inl rfl) (pe_lst (pa_cons pe_non (pa_cons pe_int (pa_cons pe_str (pa_cons pe_str (pa_cons pe_str (pa_cons pe_str (pa_cons (pe_op op_add_str pe_str (pe_callTy strAny (by rfl) M.str (by decide +kernel) (pa_cons (pv 4) pa_nil))) (pa_cons pe_str (pa_cons pe_str (pa_cons pe_str (pa_cons pe_str (pa_cons pe_str (pa_cons pe_str (pa_cons pe_str pa_nil))))))))))))))))
        (pss_cons (ps_set (i := 14) scLaw.nd rfl (.inl rfl) (pe_op op_cat (pv 14) (pe_lst (pa_cons pe_str (pa_cons pe_str (pa_cons pe_str (pa_cons pe_str (pa_cons pe_str (pa_cons pe_str (pa_cons pe_str (pa_cons (pe_lst (pa_cons pe_str pa_nil)) (pa_cons pe_str (pa_cons pe_str pa_nil)))))))))))))
        (pss_one (ps_if (pt_cmpR (op_neNil hr.units) (pe_lc (own := [("_law_odd", 15)]) (g := gName 15) (wi := iList K (tVar 14)) (tt := tTest (tOp (rNeD K) (tCall (spLR K) [] E0 (tCons (tVar 15) (tCons (tVar 4) tNil))) (tLst (tCons (tC (.str "bad")) (tCons (tC (.int 0)) tNil))))) (te := tVar 15) (by rfl) scLaw.nd (pi_list (pv 14)) (blkOk_by (own := [("_law_odd", 15)]) (N := ["_law_script", "_law_k", "_law_pool_here", "_law_names_here", "_law_many", "_law_b", "_law_turn", "_law_term_here", "_law_text", "_law_words", "_law_at", "_law_bent", "_law_some", "_law_told", "_law_odds", "_law_odd"]) (sc := defScope sLaw) (by decide +kernel))
            (fun _ _ _ _ _ => pg_name (i := 15) scLaw.nd rfl (Or.inl rfl)) (fun _ _ _ _ _ => pts_one (pt_cmpR (op_neD hr.units) (pe_call (E := E0) GR (hrX (by decide)) (by rfl) gR kR bR .nil pass0 (pa_cons (pv 15) (pa_cons (pv 4) pa_nil))) (pe_lst (pa_cons pe_str (pa_cons pe_int pa_nil))) (nomark _))) (fun _ _ _ _ _ => pv 15)) (pe_lst pa_nil) (nomark _)) (pss_one (ps_ret pe_bl)) pss_nil)))))))))
      (pss_one (ps_ret pe_bl)), ?_⟩
    refine ⟨.ref a, rfl, a, _, rfl, .inl hS, _, _, rfl, _, _, rfl, _, rfl, bounds2.1, bounds2.2, ?_⟩
    refine for_range (lo := 0) (n := _) (fun i σ H' => ∃ y1 y2 y3 y4 y5 y6 y7 y8 y9 y10 y11 y12 y13 y14 y15, σ = [some (.ref a), y1, y2, y3, y4, y5, y6, y7, y8, y9, y10, y11, y12, y13, y14, y15] ∧ Same H H')
      ⟨none, none, none, none, none, none, none, none, none, none, none, none, none, none, none, rfl, Same.refl H⟩ (fun i σ H0 hi hW => ?_) (fun σ H0 hW => q H0)
    obtain ⟨y1, y2, y3, y4, y5, y6, y7, y8, y9, y10, y11, y12, y13, y14, y15, rfl, s0⟩ := hW
    have ht := turns2 hi
    rw [List.length_map] at ht
    refine ⟨.ref a, rfl, _, rfl, a, ns, i, (by show ([V.ref a, V.int (0 + (i : Int))] : List V) = _; rw [Int.zero_add]), s0.seq hS, ht.1, ht.2.imp id (fun e => List.eq_nil_of_length_eq_zero e), fun H1 p np s1 hp => ?_⟩
    have nHp : H p = none := s0.free np
    refine ⟨.ref p, rfl, p, 4, rfl, by decide, hp, fun nl_ zs H2 b2 hp2 en hl4 hnm hnd hlen2 => ?_⟩
    have s2 : Same H H2 := same_but (s0.trans s1) nHp b2
    obtain ⟨z0, z1, z2, z3, rfl⟩ : ∃ z0 z1 z2 z3, zs = [z0, z1, z2, z3] := by
      match zs, hl4 with
      | [z0, z1, z2, z3], _ => exact ⟨z0, z1, z2, z3, rfl⟩
    have lok := lb_ok (hnm z0 (by simp)) (hnm z1 (by simp)) (hnm z2 (by simp)) (hnm z3 (by simp))
    have en : H2 nl_ = some (.lst [.str z0, .str z1, .str z2, .str z3]) := en
    have npl : nl_ ≠ p := fun e => by
      obtain ⟨px, py, ep, _⟩ := hp2
      rw [e, ep] at en
      cases en
    refine ⟨.ref p, rfl, p, 3, rfl, hp2, by decide, by decide, fun m H3 m0 m3 b3 hp3 f3 => ⟨(by show 2 ≤ sizeLine; decide), fun t nt => ?_⟩⟩
    have s3 : Same H H3 := same_but s2 nHp b3
    have en3 := b3 _ _ en npl
    have et : (upd H3 t (.tup [.ref nl_, .int m])) t = some (.tup [.ref nl_, .int m]) := upd_same
    have s34 := same_upd (o := HO.tup [V.ref nl_, .int m]) nt
    generalize upd H3 t (.tup [.ref nl_, .int m]) = H4 at et s34 ⊢
    have en4 := s34 _ _ en3
    have hp4 := hp3.same s34
    have s4 := s3.trans s34
    refine ⟨t, _, rfl, .inl (.inl et), rfl, _, _, rfl, _, _, rfl, rfl, ?_⟩
    dsimp only [gName, List.set]
    obtain ⟨n, rfl⟩ : ∃ n : Nat, m = (n : Nat) := ⟨m.toNat, (Int.toNat_of_nonneg m0).symm⟩
    have n2 : n ≤ 2 := by omega
    clear b2 b3 hp2 hp3 f3 en en3 et nt hnm hnd hlen2 hl4
    refine q_asgP (Pr := fun v H' => ∃ b, v = .ref b ∧ Same H4 H' ∧ LBk K (lbOf z0 z1 z2 z3) H' b) (fun Q' hq => ?_) (fun v H5 hv => ?_)
    · exact mk_book (K := K) (mk_ixl (j := 0) (mk_var rfl) en4 rfl) (mk_ixl (j := 1) (mk_var rfl) en4 rfl) (mk_ixl (j := 2) (mk_var rfl) en4 rfl) (mk_ixl (j := 3) (mk_var rfl) en4 rfl) (Same.refl _) fun b H5 s45 hb => hq _ _ ⟨b, rfl, s45, hb⟩
    obtain ⟨b, rfl, s45, hb⟩ := hv
    dsimp only [gName, List.set]
    have hp5 := hp4.same s45
    have s5 := s4.trans s45
    refine ⟨12, rfl, by decide, by decide, ?_⟩
    refine for_range (lo := 0) (n := 12) (fun j σ H' => ∃ y6 y7 y8 y9 y10 y11 y12 y13 y14 y15, σ = [some (.ref a), some (.int ((0 : Int) + (i : Nat))), some (.ref p), some (.ref nl_), some (.int (n : Nat)), some (.ref b), y6, y7, y8, y9, y10, y11, y12, y13, y14, y15] ∧ Same H H' ∧ PoolAt H' p ∧ LBk K (lbOf z0 z1 z2 z3) H' b)
      ⟨_, _, _, _, _, _, _, _, _, _, rfl, s5, hp5, hb⟩ (fun j σ H6 hj hW => ?_) (fun σ H6 hW => ?_)
    · obtain ⟨y6, y7, y8, y9, y10, y11, y12, y13, y14, y15, rfl, s6, hp6, hb6⟩ := hW
      dsimp only [gName, List.set]
      refine ⟨.ref p, rfl, .ref b, rfl, .int (n : Nat), rfl, .ref p, rfl, p, 4, rfl, hp6, by decide, by decide, fun dv H7 d0 d4 b7 hp7 fr => ?_⟩
      refine ⟨lbOf z0 z1 z2 z3, p, b, (n : Nat), dv.toNat, lok, (by rw [Int.toNat_of_nonneg d0]; rfl), hp7, hb6.but hp6 b7, m0, by omega, by omega, fun v d H8 b8 hp8 hv hd => ?_⟩
      have b68 := b7.trans b8
      have s8 : Same H H8 := same_but s6 nHp b68
      have hb8 := hb6.but hp6 b68
      have o0 := gdl_okT lok (n := n) (by omega) _ d hd
      have o : okT n 8 d := (okT_mono _ 8 d o0 (by omega)).1
      have gd := okT_gd 8 d o
      have nl8 : noL d = true := gd_nl 8 d gd
      have shd := gd_shaped gd (Nat.le_refl 8)
      have wl := words_len 8 d o
      have tl9 := text_len o
      have w4 : 3 * 4 ^ 8 = 196608 := by decide
      have tx2 : (txt 8 d).length + 2 ≤ sizeLine := by
        rw [sizeLine_eq]
        show (Txt.join blank (wordsT 8 d)).length + 2 ≤ _
        omega
      have es : Txt.split (txt 8 d) (Str.ofString " ") = wordsT 8 d := split_joinB (words_ne o) (words_noBl o)
      clear b7 b8 b68 hp7 hb6 hp6 s6 fr o0 wl tl9 w4 hd
      dsimp only [gName, List.set]
      refine ⟨v, rfl, n, n2, v, d, H8, rfl, Same.refl _, hv, o, fun H9 s9 => ?_⟩
      have s9' := s8.trans s9
      have hp9 := hp8.same s9
      have hb9 := hb8.but hp8 (But.of s9)
      have hv9 := dp_same s9 hv
      clear s8 hp8 hb8 hv s9
      dsimp only [gName, List.set]
      refine ⟨.str (txt 8 d), rfl, ⟨_, rfl⟩, _, _, rfl, rfl, (by decide +kernel), tx2, fun l1 nl1 => ⟨l1, _, rfl, .inl (.inl (.inl upd_same)), _, _, rfl, rfl, _, rfl, ?_⟩⟩
      have s10 := same_upd (o := HO.lst ((Txt.split (txt 8 d) (Str.ofString " ")).map V.str)) nl1
      generalize upd H9 l1 (HO.lst ((Txt.split (txt 8 d) (Str.ofString " ")).map V.str)) = H10 at s10 ⊢
      have s10' := s9'.trans s10
      have hp10 := hp9.same s10
      have hb10 := hb9.but hp9 (But.of s10)
      have hv10 := dp_same s10 hv9
      clear s9' hp9 hb9 hv9 s10 nl1
      rw [es, List.length_map]
      by_cases hl : (wordsT 8 d).length ≤ 30
      · have it := ok_isTerm o hl
        have wok := words_ok o
        refine iteT' (decide_eq_true (by omega)) ?_
        refine nf_o (fun Q' q' => ?_) fun H11 s11 => nf_i (fun Q' q' => ?_) fun H12 s12 => ?_
        · refine ⟨v, rfl, n, n2, v, d, rfl, hv10, o, fun H' s' => ⟨.str (txt 8 d), rfl, rfl, ?_⟩⟩
          rw [show Txt.join blank (wordsT 8 d) = txt 8 d from rfl, decide_eq_true rfl]
          exact q' H' s'
        · refine ⟨.str (txt 8 d), rfl, .int (n : Nat), rfl, _, .str (txt 8 d), n, rfl, n2, .str _, okTxt_join wok (by omega), fun u H' s' hu => ⟨v, rfl, _, d, hu, dp_same (s11.trans s') hv10, read_shaped, shd, ?_⟩⟩
          have er : readD n (.str (txt 8 d)) = d := by
            unfold readD
            rw [readT_whole o it]
            rfl
          rw [er, eqv_self shd]
          exact q' H' s'
        have s12' := s11.trans s12
        have s13 := s10'.trans s12'
        have hp12 := hp10.same s12'
        have hb12 := hb10.but hp10 (But.of s12')
        clear s11 s12 hv10 s10' hp10 hb10
        refine ⟨.str (txt 8 d), rfl, ⟨_, rfl⟩, _, _, rfl, rfl, (by decide +kernel), tx2, fun l nl => ?_⟩
        rw [es]
        dsimp only [gName, List.set]
        have sl := same_upd (o := HO.lst ((wordsT 8 d).map V.str)) nl
        have el : (upd H12 l (HO.lst ((wordsT 8 d).map V.str))) l = some (HO.lst ((wordsT 8 d).map V.str)) := upd_same
        have npl2 := hp12.ne nl
        generalize upd H12 l (HO.lst ((wordsT 8 d).map V.str)) = H13 at sl el ⊢
        have hp13 := hp12.same sl
        have hb13 := hb12.but hp12 (But.of sl)
        have s14 := s13.trans sl
        have w0 : 0 < (wordsT 8 d).length := List.length_pos_iff.mpr (words_ne o)
        clear hp12 hb12 s13 sl nl
        refine ⟨.ref p, rfl, .ref l, rfl, l, _, rfl, .inl (.inl (.inl el)), p, _, rfl, hp13, (by rw [List.length_map]; omega), (by rw [List.length_map]; omega), fun at_ H14 a0 a1 b14 hp14 f14 => ?_⟩
        have el14 := b14 _ _ el npl2.symm
        have hb14 := hb13.but hp13 b14
        have s15 := same_but s14 nHp b14
        clear hp13 hb13 s14 b14 f14 el
        dsimp only [gName, List.set]
        refine q_asgP (Pr := fun v H' => Same H14 H' ∧ (vR (vW 70) 6).p v H') (fun Q' hq => ?_) (fun v11 H15 hv => ?_)
        · have w9 : Mkv (tVar 9) [some (.ref a), some (.int ((0 : Int) + (i : Nat))), some (.ref p), some (.ref nl_), some (.int (n : Nat)), some (.ref b), some (.int ((0 : Int) + (j : Nat))), some v, some (.str (txt 8 d)), some (.ref l), some (.int at_), y11, y12, y13, y14, y15] H14 (vW 30) := mk_wv (l := l) rfl el14 wok hl
          exact mk_row (P := vW 70) (mkr_cons (mk_wz w9 wOk_0) (mkr_cons (mk_wz w9 wOk_arg) (mkr_cons (mk_bend w9 wOk_e (fun _ _ h => ⟨.int at_, rfl, at_, rfl, h⟩) (fun _ _ h => ⟨.int at_, rfl, at_, rfl, h⟩))
            (mkr_cons (mk_wle (mk_wsl (lo := none) (hi := some (-1)) w9 (fun _ _ h => h) (fun _ _ h => ⟨1, rfl, -1, rfl, h⟩)) (by decide)) (mkr_cons (mk_wz w9 wOk_e) (mkr_cons (mk_zw w9 wOk_e) mkr_nil)))))) (by decide) _ (Same.refl _) _ fun v H' s' h => hq _ _ ⟨s', h⟩
        obtain ⟨s1415, hv11⟩ := hv
        have el15 := s1415 _ _ el14
        have hp15 := hp14.same s1415
        have hb15 := hb14.but hp14 (But.of s1415)
        have s16 := s15.trans s1415
        clear s15 hp14 hb14 s1415 el14
        dsimp only [gName, List.set]
        refine q_forR (K := K) (P := vW 70) (n := 6 + 3) ?_ (fun σ G H' => ∃ y12 y13, σ = [some (.ref a), some (.int ((0 : Int) + (i : Nat))), some (.ref p), some (.ref nl_), some (.int (n : Nat)), some (.ref b), some (.int ((0 : Int) + (j : Nat))), some v, some (.str (txt 8 d)), some (.ref l), some (.int at_), some v11, y12, y13, y14, y15] ∧ Same G H')
          (fun G _ => ⟨_, _, rfl, Same.refl G⟩) (fun σ G H' w => by obtain ⟨_, _, _, s⟩ := w; exact s) (fun G sG x σ Hx hx w => ?_) (fun G σ Hx sG w => ?_)
        · have w9 : Mkv (tVar 9) [some (.ref a), some (.int ((0 : Int) + (i : Nat))), some (.ref p), some (.ref nl_), some (.int (n : Nat)), some (.ref b), some (.int ((0 : Int) + (j : Nat))), some v, some (.str (txt 8 d)), some (.ref l), some (.int at_), some v11, y12, y13, y14, y15] H15 (vW 30) := mk_wv (l := l) rfl el15 wok hl
          have nx1 : ∀ (σ : L2.St) (H : Hp) (Q : Option Int → Hp → Prop), σ[10]? = some (some (V.int at_)) → Q (some (at_ + 1)) H → tPart (tOp (rI0 fun i j => .int (i + j)) (tVar 10) (tC (.int 1))) σ H Q := fun σ H Q e h => ⟨.int at_, e, at_, 1, rfl, rfl, at_ + 1, rfl, h⟩
          refine mk_rows (P := vW 70) ((mk_var (i := 11) rfl).imp fun x H s e => ?_) (mk_row (P := vW 70) (mkr_cons (mk_bend w9 wOk_p (fun _ _ h => ⟨.int at_, rfl, at_, rfl, h⟩) (fun _ _ h => nx1 _ _ _ rfl h)) (mkr_cons (mk_bend w9 wOk_01 (fun _ _ h => ⟨.int at_, rfl, at_, rfl, h⟩) (fun _ _ h => nx1 _ _ _ rfl h)) (mkr_cons (mk_bend w9 wOk_m1 (fun _ _ h => ⟨.int at_, rfl, at_, rfl, h⟩) (fun _ _ h => nx1 _ _ _ rfl h)) mkr_nil))) (by decide)) (by decide)
          rw [show x = v11 from e]
          exact (vR (vW 70) 6).st s hv11
        · obtain ⟨y12, y13, rfl, sx⟩ := w
          obtain ⟨lx, ws, rfl, ex, wo, lw⟩ := hx
          dsimp only [gName, List.set]
          refine ⟨⟨_, rfl⟩, .ref lx, rfl, _, lx, ws, rfl, rfl, .inl (.inl (.inl ex)), join_bound wo (by omega), .int (n : Nat), rfl, .str (Txt.join blank ws), .str (Txt.join blank ws), n, rfl, n2, .str _, okTxt_join wo (by omega), fun u Hu su hu => ?_⟩
          dsimp only [gName, List.set]
          refine ⟨u, rfl, (by show 2 ≤ sizeLine; decide), fun lb nlb => ⟨_, badD, dp_same (same_upd nlb) hu, .lst (.inl (.inl upd_same)) (.cons (.str _) (.cons (.int _) .nil)), read_shaped, bad_shaped, _, rfl, ?_⟩⟩
          have sb := same_upd (o := HO.lst [V.str "bad", .int 0]) nlb
          have fin : Same G (upd Hu lb (HO.lst [V.str "bad", .int 0])) := sx.trans (su.trans sb)
          cases e : readT n (.str (Txt.join blank ws)) with
          | none =>
            rw [read_none e, eqv_self bad_shaped]
            exact iteF (iteF ⟨_, _, rfl, fin⟩)
          | some t =>
            obtain ⟨ot, et⟩ := readT_sound e
            rw [read_some e] at hu
            rw [read_some e]
            have hu2 := dp_same sb hu
            have ex2 := sb _ _ (su _ _ ex)
            generalize upd Hu lb (HO.lst [V.str "bad", .int 0]) = H16 at hu2 ex2 fin ⊢
            cases PyData.eqv t badD with
            | true => exact iteF (iteF ⟨_, _, rfl, fin⟩)
            | false =>
              refine iteT ⟨u, rfl, u, .ty "list", _, _, _, rfl, .ty "list", dp_ty hu2, kit_lst K t, _, rfl, ?_⟩
              rw [okT_lst ot]
              refine iteF ⟨u, rfl, n, n2, u, t, H16, rfl, Same.refl _, hu2, ot, fun H17 s17 => ⟨⟨_, rfl⟩, .ref lx, rfl, _, lx, ws, rfl, rfl, .inl (.inl (.inl (s17 _ _ ex2))), join_bound wo (by omega), rfl, ?_⟩⟩
              rw [et, show Txt.join (Str.ofString " ") ws = Txt.join blank ws from rfl, decide_eq_true rfl]
              exact ⟨false, rfl, iteF ⟨_, _, rfl, fin.trans s17⟩⟩
        · obtain ⟨y12, y13, rfl, sx⟩ := w
          have s17 := sG.trans sx
          have elx := s17 _ _ el15
          have hpx := hp15.same s17
          have hbx := hb15.but hp15 (But.of s17)
          have sxx := s16.trans s17
          clear s16 s17 hp15 hb15 el15 sG sx hv11
          refine nf_o (fun Q' q' => ?_) fun H18 s18 => nf_i (fun Q' q' => ?_) fun H19 s19 => ?_
          · refine ⟨⟨_, rfl⟩, .ref l, rfl, (by show 1 ≤ sizeLine; decide), fun l1 n1 => ⟨l, l1, _, _, rfl, rfl, same_upd n1 _ _ elx, upd_same, (by rw [List.length_map]; exact l2s (by show _ + 1 ≤ _; omega)), fun l2 n2' => ⟨_, l2, wordsT 8 d ++ [("0" : Str)], rfl, rfl, .inl (.inl (.inl (by rw [upd_same, List.map_append]; rfl))), ?_, .int (n : Nat), rfl, ?_⟩⟩⟩
            · exact join_bound (fun w m => by
                rcases List.mem_append.mp m with m | m
                · exact wok w m
                · rw [List.mem_singleton.mp m]
                  exact wOk_0) (by rw [List.length_append]; show _ + 1 ≤ _; omega)
            · refine bad_ok n2 (.str _) (okTxt_join (fun w m => ?_) (by rw [List.length_append]; show _ + 1 ≤ _; omega)) (readT_more o wOk_0.2) fun H' s' => q' H' ((same_upd n1).trans ((same_upd n2').trans s'))
              rcases List.mem_append.mp m with m | m
              · exact wok w m
              · rw [List.mem_singleton.mp m]
                exact wOk_0
          · refine ⟨.str (txt 8 d), rfl, _, _, rfl, rfl, (by rw [show (Str.ofString " ").length = 1 by decide +kernel]; omega), .int (n : Nat), rfl, ?_⟩
            have ej : txt 8 d ++ (Str.ofString " ") = Txt.join blank (wordsT 8 d ++ [("" : Str)]) := join_blank (words_ne o)
            rw [ej]
            refine bad_ok n2 (.str _) (okTxt_join (fun w m => ?_) (by rw [List.length_append]; show _ + 1 ≤ _; omega)) (readT_more o wOk_e.2) fun H' s' => q' H' s'
            rcases List.mem_append.mp m with m | m
            · exact wok w m
            · rw [List.mem_singleton.mp m]
              exact wOk_e
          have s1819 := s18.trans s19
          exact ⟨_, _, _, _, _, _, _, _, _, _, rfl, sxx.trans s1819, hpx.same s1819, hbx.but hpx (But.of s1819)⟩
      · exact iteF' (decide_eq_false (by omega)) ⟨_, _, _, _, _, _, _, _, _, _, rfl, s10', hp10, hb10⟩
    · obtain ⟨y6, y7, y8, y9, y10, y11, y12, y13, y14, y15, rfl, s6, hp6, hb6⟩ := hW
      dsimp only
      refine q_asgP (Pr := fun v H' => Same H6 H' ∧ (vR (vO K n) 14).p v H') (fun Q' hq => ?_) (fun v14 H7 hv => ?_)
      · exact mk_row (P := vO K n) (mkr_cons od_non (mkr_cons od_int (mkr_cons (od_i (i := 0) n2 rfl) (mkr_cons (od_i (i := 1) n2 rfl) (mkr_cons (od_i (i := 2) n2 rfl) (mkr_cons (od_i (i := 3) n2 rfl) (mkr_cons (od_arg n2 rfl) (mkr_cons (od_i (i := 4) n2 rfl) (mkr_cons (od_i (i := 5) n2 rfl) (mkr_cons (od_i (i := 6) n2 rfl) (mkr_cons (od_i (i := 7) n2 rfl) (mkr_cons (od_i (i := 8) n2 rfl) (mkr_cons (od_i (i := 9) n2 rfl) (mkr_cons (od_i (i := 10) n2 rfl) mkr_nil)))))))))))))) (by decide) _ (Same.refl _) _ fun v H' s' h => hq _ _ ⟨s', h⟩
      obtain ⟨s7, hv7⟩ := hv
      dsimp only [gName, List.set]
      refine q_asgP (Pr := fun v H' => Same H7 H' ∧ (vR (vO K n) (14 + 10)).p v H') (fun Q' hq => ?_) (fun v15 H8 hv => ?_)
      · refine mk_rows (P := vO K n) ((mk_var (i := 14) rfl).imp fun x H s e => ?_) (mk_row (P := vO K n) (mkr_cons (od_i (i := 11) n2 rfl) (mkr_cons (od_i (i := 12) n2 rfl) (mkr_cons (od_i (i := 13) n2 rfl) (mkr_cons (od_i (i := 14) n2 rfl) (mkr_cons (od_i (i := 15) n2 rfl) (mkr_cons (od_i (i := 16) n2 rfl) (mkr_cons (od_i (i := 17) n2 rfl) (mkr_cons od_lst (mkr_cons (od_i (i := 18) n2 rfl) (mkr_cons (od_i (i := 19) n2 rfl) mkr_nil)))))))))) (by decide)) (by decide) _ (Same.refl _) _ fun v H' s' h => hq _ _ ⟨s', h⟩
        rw [show x = v14 from e]
        exact (vR (vO K n) 14).st s hv7
      obtain ⟨s78, lo, xs, rfl, elo, lx, hx⟩ := hv
      dsimp only [gName, List.set]
      have s8 := s6.trans (s7.trans s78)
      refine nf_i (fun Q' q' => ?_) fun H9 s9 => ?_
      · refine ⟨.ref lo, rfl, lo, rfl, ⟨_, .inl (.inl elo)⟩, fun D hD => ?_⟩
        refine lc_list (K := K) (a := lo) (xs := xs) (fun j H' => Same H8 H' ∧ H' D = some (.lst [])) ⟨same_upd hD, upd_same⟩ (fun j H' _ w => .inl (.inl (w.1 _ _ elo))) (fun j x H' hxj w => ?_) (fun H' w => ?_)
        · obtain ⟨sw, eD⟩ := w
          obtain ⟨d, hd, ht, hr⟩ := (vO K n).st sw (hx x (List.mem_of_getElem? hxj))
          refine And.intro rfl ?_
          refine ⟨x, rfl, .int (n : Nat), rfl, bad_ok n2 hd ht hr fun H3 s3 => ⟨false, rfl, iteF ⟨sw.trans s3, s3 _ _ eD⟩⟩⟩
        · obtain ⟨sw, eD⟩ := w
          refine ⟨(by show 0 ≤ sizeLine; decide), fun p2 np2 => ⟨D, p2, [], rfl, rfl, .inl (.inl (same_upd np2 _ _ eD)), .inl (.inl upd_same), q' _ (sw.trans (same_upd np2))⟩⟩
      · exact ⟨_, _, _, _, _, _, _, _, _, _, _, _, _, _, _, rfl, s8.trans s9⟩
end
/-! ### the table of lengths -/
def Lens (r : Option DictEntry) (o : Option Int) : Prop := match o with
  | some k => ∃ e t, r = some e ∧ e.val = .int k t
  | none => r = none
theorem lens_in {K : PySem.W.Frag} {aL : Addr} {es : Array DictEntry} {n : Nat} (l : K.lookup aL = some ⟨.type "dict", none, .dict es n, #[]⟩) {z : Str} (e : Lens (es.toList.find? (·.key.isStr z)) (lenOf z)) (o : es.toList.any (·.refKey) = false) :
    match lenOf z with
    | some k => ∃ t, PySem.W.nsIn K aL z = some (some (.int k t))
    | none => PySem.W.nsIn K aL z = some none := by
  have h : PySem.W.nsIn K aL z = (match es.toList.find? (·.key.isStr z) with
      | some e => some (some e.val)
      | none => if es.toList.any (·.refKey) then none else some none) := by
    unfold PySem.W.nsIn
    rw [l]
    rfl
  unfold Lens at e
  cases hz : lenOf z with
  | none =>
    rw [hz] at e
    show PySem.W.nsIn K aL z = some none
    have e' : es.toList.find? (·.key.isStr z) = none := e
    rw [h, e', o]
    rfl
  | some k =>
    rw [hz] at e
    obtain ⟨en, t, e1, e2⟩ := (e : ∃ en t, es.toList.find? (·.key.isStr z) = some en ∧ en.val = .int k t)
    refine ⟨t, ?_⟩
    rw [h, e1]
    show some (some en.val) = _
    rw [e2]
theorem isStr_str (a b : Str) (t : Tok) : (Value.str a t).isStr b = decide (b = a) := by
  rw [PySem.W.isStr_of]
  by_cases h : b = a
  · subst h
    rw [decide_eq_true rfl]
    simp [Value.isStrOf]
  · rw [decide_eq_false h]
    simp [Value.isStrOf]
    intro q
    exact h q.symm
theorem lens_five (z : Str) (e1 e2 e3 e4 e5 : DictEntry) {t1 t2 t3 t4 t5 : Tok} (k1 : e1.key = .str "tick" t1) (k2 : e2.key = .str "plus" t2) (k3 : e3.key = .str "less" t3) (k4 : e4.key = .str "same" t4) (k5 : e5.key = .str "if" t5)
    (v1 : ∃ t, e1.val = .int 1 t) (v2 : ∃ t, e2.val = .int 3 t) (v3 : ∃ t, e3.val = .int 3 t) (v4 : ∃ t, e4.val = .int 3 t) (v5 : ∃ t, e5.val = .int 4 t) : Lens ([e1, e2, e3, e4, e5].find? (·.key.isStr z)) (lenOf z) := by
  unfold lenOf
  rw [List.find?_cons, k1, isStr_str]
  by_cases h1 : z = "tick"
  · rw [if_pos h1, decide_eq_true h1]
    obtain ⟨t, v⟩ := v1
    exact ⟨e1, t, rfl, v⟩
  · rw [if_neg h1, decide_eq_false h1]
    show Lens (List.find? _ [e2, e3, e4, e5]) _
    rw [List.find?_cons, k2, isStr_str]
    by_cases h2 : z = "plus"
    · rw [if_pos h2, decide_eq_true h2]
      obtain ⟨t, v⟩ := v2
      exact ⟨e2, t, rfl, v⟩
    · rw [if_neg h2, decide_eq_false h2]
      show Lens (List.find? _ [e3, e4, e5]) _
      rw [List.find?_cons, k3, isStr_str]
      by_cases h3 : z = "less"
      · rw [if_pos h3, decide_eq_true h3]
        obtain ⟨t, v⟩ := v3
        exact ⟨e3, t, rfl, v⟩
      · rw [if_neg h3, decide_eq_false h3]
        show Lens (List.find? _ [e4, e5]) _
        rw [List.find?_cons, k4, isStr_str]
        by_cases h4 : z = "same"
        · rw [if_pos h4, decide_eq_true h4]
          obtain ⟨t, v⟩ := v4
          exact ⟨e4, t, rfl, v⟩
        · rw [if_neg h4, decide_eq_false h4]
          show Lens (List.find? _ [e5]) _
          rw [List.find?_cons, k5, isStr_str]
          by_cases h5 : z = "if"
          · rw [if_pos h5, decide_eq_true h5]
            obtain ⟨t, v⟩ := v5
            exact ⟨e5, t, rfl, v⟩
          · rw [if_neg h5, decide_eq_false h5]
            rfl
namespace Hd
open He
theorem lens_at {K : PySem.W.Frag} {a : Addr} {es : Array DictEntry} {n : Nat} (l : K.lookup a = some ⟨.type "dict", none, .dict es n, #[]⟩) (h : lensB K a = true) : (∀ z : Str, Lens (es.toList.find? (·.key.isStr z)) (lenOf z)) ∧ es.toList.any (·.refKey) = false := by
  unfold lensB at h
  rw [l] at h
  obtain ⟨h1, h2⟩ := ba (show (decide (es.toList.map pairOf = lenRow) && !(es.toList.any (·.refKey))) = true from h)
  have e : es.toList.map pairOf = lenRow := of_decide_eq_true h1
  unfold lenRow at e
  refine ⟨fun z => ?_, by simpa using h2⟩
  generalize es.toList = q at e
  obtain ⟨e1, q1, rfl, p1, h⟩ := List.map_eq_cons_iff.mp e
  obtain ⟨e2, q2, rfl, p2, h⟩ := List.map_eq_cons_iff.mp h
  obtain ⟨e3, q3, rfl, p3, h⟩ := List.map_eq_cons_iff.mp h
  obtain ⟨e4, q4, rfl, p4, h⟩ := List.map_eq_cons_iff.mp h
  obtain ⟨e5, q5, rfl, p5, h⟩ := List.map_eq_cons_iff.mp h
  cases List.map_eq_nil_iff.mp h
  obtain ⟨t1, k1, v1⟩ := pair_at p1
  obtain ⟨t2, k2, v2⟩ := pair_at p2
  obtain ⟨t3, k3, v3⟩ := pair_at p3
  obtain ⟨t4, k4, v4⟩ := pair_at p4
  obtain ⟨t5, k5, v5⟩ := pair_at p5
  exact lens_five z e1 e2 e3 e4 e5 k1 k2 k3 k4 k5 v1 v2 v3 v4 v5
end Hd
/-! ### what the top has written; the end -/
theorem all_mk {l : PySem.W.OpenLaw} {w : World} {K : PySem.W.Frag} {h : Heap} {mg : Str → Option Value} {fa : Addr} (X : K.In h) (G : h.Ns mainGlobals mg) (hfa : mg "law" = some (.ref fa))
    {cB cS cN cW : Addr}
    {fBI : Addr} {fdBI : FuncData}
    {fWI : Addr} {fdWI : FuncData}
    {fWT : Addr} {fdWT : FuncData}
    {fWO : Addr} {fdWO : FuncData}
    {fWN : Addr} {fdWN : FuncData}
    {fWF : Addr} {fdWF : FuncData}
    {fWE : Addr} {fdWE : FuncData}
    {fWh : Addr} {fdWh : FuncData}
    {fVa : Addr} {fdVa : FuncData}
    {fNa : Addr} {fdNa : FuncData}
    {fTe : Addr} {fdTe : FuncData}
    {fHa : Addr} {fdHa : FuncData}
    {fCf : Addr} {fdCf : FuncData}
    {fIn : Addr} {fdIn : FuncData}
    {fNx : Addr} {fdNx : FuncData}
    {fWr : Addr} {fdWr : FuncData}
    {fTw : Addr} {fdTw : FuncData}
    {fRd : Addr} {fdRd : FuncData}
    {fTk : Addr} {fdTk : FuncData}
    {fTt : Addr} {fdTt : FuncData}
    {fPl : Addr} {fdPl : FuncData}
    {fDr : Addr} {fdDr : FuncData}
    {fPk : Addr} {fdPk : FuncData}
    {fNm : Addr} {fdNm : FuncData}
    {fLt : Addr} {fdLt : FuncData}
    {fLx : Addr} {fdLx : FuncData}
    {fLr : Addr} {fdLr : FuncData}
    {fLa : Addr} {fdLa : FuncData}
    {t_LONGEST_NAME : Tok}
    {t_MOST_ARGUMENTS : Tok}
    {t_MOST_DEEP : Tok}
    {t_MOST_PARTS : Tok}
    {nmB qqB : Str} {NNB : Addr} {bsB : List Value} {snB : List Str} {suB : List Value} {abB : Bool} {coB : Option Bool} {ddB : Option Addr} {maB mbB mcB mdB me_B : Option Value} {aR : Addr} {itsR : Array Value} {nR : Nat} {slR : Array (Option Value)} {aV : Addr} {itsV : Array Value} {nV : Nat} {slV : Array (Option Value)} {aX : Addr} {itsX : Array Value} {nX : Nat} {slX : Array (Option Value)} {aQ : Addr} {esL : Array DictEntry} {nQ : Nat} 
    (a_B : PySem.W.nsIn K mainGlobals "BadText" = some (some (.ref cB)))
    (a_S : PySem.W.nsIn K mainGlobals "StoreError" = some (some (.ref cS)))
    (a_N : PySem.W.nsIn K mainGlobals "NoForm" = some (some (.ref cN)))
    (a_W : PySem.W.nsIn K mainGlobals "Words" = some (some (.ref cW)))
    (aBI : PySem.W.findIn K (.ref cB) "__init__" = some (some (.ref fBI)))
    (iBI : PySem.W.isFn K (.ref fBI) = true)
    (DBI : FunD K "__init__" "BadText.__init__" (defArgs sBT) (defBody sBT) (defScope sBT) [] [] fBI fdBI)
    (aWI : PySem.W.findIn K (.ref cW) "__init__" = some (some (.ref fWI)))
    (iWI : PySem.W.isFn K (.ref fWI) = true)
    (DWI : FunD K "__init__" "Words.__init__" (defArgs sWI) (defBody sWI) (defScope sWI) [] [] fWI fdWI)
    (aWT : PySem.W.findIn K (.ref cW) "take" = some (some (.ref fWT)))
    (iWT : PySem.W.isFn K (.ref fWT) = true)
    (DWT : FunD K "take" "Words.take" (defArgs sTk) (defBody sTk) (defScope sTk) [] [] fWT fdWT)
    (aWO : PySem.W.findIn K (.ref cW) "take_one_of" = some (some (.ref fWO)))
    (iWO : PySem.W.isFn K (.ref fWO) = true)
    (DWO : FunD K "take_one_of" "Words.take_one_of" (defArgs sTo) (defBody sTo) (defScope sTo) [] [] fWO fdWO)
    (aWN : PySem.W.findIn K (.ref cW) "take_name" = some (some (.ref fWN)))
    (iWN : PySem.W.isFn K (.ref fWN) = true)
    (DWN : FunD K "take_name" "Words.take_name" (defArgs sTn) (defBody sTn) (defScope sTn) [] [] fWN fdWN)
    (aWF : PySem.W.findIn K (.ref cW) "take_figure" = some (some (.ref fWF)))
    (iWF : PySem.W.isFn K (.ref fWF) = true)
    (DWF : FunD K "take_figure" "Words.take_figure" (defArgs sTf) (defBody sTf) (defScope sTf) [] [] fWF fdWF)
    (aWE : PySem.W.findIn K (.ref cW) "end" = some (some (.ref fWE)))
    (iWE : PySem.W.isFn K (.ref fWE) = true)
    (DWE : FunD K "end" "Words.end" (defArgs sWE) (defBody sWE) (defScope sWE) [] [] fWE fdWE)
    (aWh : PySem.W.nsIn K mainGlobals "is_whole" = some (some (.ref fWh)))
    (DWh : FunD K "is_whole" "is_whole" (defArgs sWhole) (defBody sWhole) (defScope sWhole) [] [] fWh fdWh)
    (aVa : PySem.W.nsIn K mainGlobals "is_value" = some (some (.ref fVa)))
    (DVa : FunD K "is_value" "is_value" (defArgs sValue) (defBody sValue) (defScope sValue) [] [] fVa fdVa)
    (aNa : PySem.W.nsIn K mainGlobals "is_name" = some (some (.ref fNa)))
    (DNa : FunD K "is_name" "is_name" (defArgs sName) (defBody sName) (defScope sName) [] [] fNa fdNa)
    (aTe : PySem.W.nsIn K mainGlobals "is_term" = some (some (.ref fTe)))
    (DTe : FunD K "is_term" "is_term" (defArgs sTerm) (defBody sTerm) (defScope sTerm) [] [] fTe fdTe)
    (aHa : PySem.W.nsIn K mainGlobals "_has_form" = some (some (.ref fHa)))
    (DHa : FunD K "_has_form" "_has_form" (defArgs sHas) (defBody sHas) (defScope sHas) [] [] fHa fdHa)
    (aCf : PySem.W.nsIn K mainGlobals "_has_call_form" = some (some (.ref fCf)))
    (DCf : FunD K "_has_call_form" "_has_call_form" (defArgs sCallForm) (defBody sCallForm) (defScope sCallForm) [] [] fCf fdCf)
    (aIn : PySem.W.nsIn K mainGlobals "inner_terms" = some (some (.ref fIn)))
    (DIn : FunD K "inner_terms" "inner_terms" (defArgs sInner) (defBody sInner) (defScope sInner) [] [] fIn fdIn)
    (aNx : PySem.W.nsIn K mainGlobals "_next_level" = some (some (.ref fNx)))
    (DNx : FunD K "_next_level" "_next_level" (defArgs sNext) (defBody sNext) (defScope sNext) [] [] fNx fdNx)
    (aWr : PySem.W.nsIn K mainGlobals "write_term" = some (some (.ref fWr)))
    (DWr : FunD K "write_term" "write_term" (defArgs sWr) (defBody sWr) (defScope sWr) [] [] fWr fdWr)
    (aTw : PySem.W.nsIn K mainGlobals "_term_words" = some (some (.ref fTw)))
    (DTw : FunD K "_term_words" "_term_words" (defArgs sTWd) (defBody sTWd) (defScope sTWd) [] [] fTw fdTw)
    (aRd : PySem.W.nsIn K mainGlobals "read_term" = some (some (.ref fRd)))
    (DRd : FunD K "read_term" "read_term" (defArgs sRd) (defBody sRd) (defScope sRd) [] [] fRd fdRd)
    (aTk : PySem.W.nsIn K mainGlobals "_take_whole_term" = some (some (.ref fTk)))
    (DTk : FunD K "_take_whole_term" "_take_whole_term" (defArgs sTW) (defBody sTW) (defScope sTW) [] [] fTk fdTk)
    (aTt : PySem.W.nsIn K mainGlobals "_take_term" = some (some (.ref fTt)))
    (DTt : FunD K "_take_term" "_take_term" (defArgs sTT) (defBody sTT) (defScope sTT) [] [] fTt fdTt)
    (aPl : PySem.W.nsIn K mainGlobals "_law_pool" = some (some (.ref fPl)))
    (DPl : FunD K "_law_pool" "_law_pool" (defArgs sPool) (defBody sPool) (defScope sPool) [] [] fPl fdPl)
    (aDr : PySem.W.nsIn K mainGlobals "_law_draw" = some (some (.ref fDr)))
    (DDr : FunD K "_law_draw" "_law_draw" (defArgs sDraw) (defBody sDraw) (defScope sDraw) [] [] fDr fdDr)
    (aPk : PySem.W.nsIn K mainGlobals "_law_pick" = some (some (.ref fPk)))
    (DPk : FunD K "_law_pick" "_law_pick" (defArgs sPick) (defBody sPick) (defScope sPick) [] [] fPk fdPk)
    (aNm : PySem.W.nsIn K mainGlobals "_law_names" = some (some (.ref fNm)))
    (DNm : FunD K "_law_names" "_law_names" (defArgs sLNames) (defBody sLNames) (defScope sLNames) [] [] fNm fdNm)
    (aLt : PySem.W.nsIn K mainGlobals "_law_term" = some (some (.ref fLt)))
    (DLt : FunD K "_law_term" "_law_term" (defArgs sLTerm) (defBody sLTerm) (defScope sLTerm) [] [] fLt fdLt)
    (aLx : PySem.W.nsIn K mainGlobals "_law_term_text" = some (some (.ref fLx)))
    (DLx : FunD K "_law_term_text" "_law_term_text" (defArgs sTx) (defBody sTx) (defScope sTx) [] [] fLx fdLx)
    (aLr : PySem.W.nsIn K mainGlobals "_law_read" = some (some (.ref fLr)))
    (DLr : FunD K "_law_read" "_law_read" (defArgs sLR) (defBody sLR) (defScope sLR) [] [] fLr fdLr)
    (aLa : PySem.W.nsIn K mainGlobals "law" = some (some (.ref fLa)))
    (DLa : FunD K "law" "law" (defArgs sLaw) (defBody sLaw) (defScope sLaw) [] [] fLa fdLa)
    (z_abs : PySem.W.nsIn K mainGlobals "abs" = some none)
    (z_int : PySem.W.nsIn K mainGlobals "int" = some none)
    (z_len : PySem.W.nsIn K mainGlobals "len" = some none)
    (z_sum : PySem.W.nsIn K mainGlobals "sum" = some none)
    (z_max : PySem.W.nsIn K mainGlobals "max" = some none)
    (z_min : PySem.W.nsIn K mainGlobals "min" = some none)
    (z_range : PySem.W.nsIn K mainGlobals "range" = some none)
    (z_isinstance : PySem.W.nsIn K mainGlobals "isinstance" = some none)
    (z_bool : PySem.W.nsIn K mainGlobals "bool" = some none)
    (z_str : PySem.W.nsIn K mainGlobals "str" = some none)
    (z_tuple : PySem.W.nsIn K mainGlobals "tuple" = some none)
    (z_list : PySem.W.nsIn K mainGlobals "list" = some none)
    (z_dict : PySem.W.nsIn K mainGlobals "dict" = some none)
    (z_all : PySem.W.nsIn K mainGlobals "all" = some none)
    (z_sorted : PySem.W.nsIn K mainGlobals "sorted" = some none)
    (z_repr : PySem.W.nsIn K mainGlobals "repr" = some none)
    (z_zip : PySem.W.nsIn K mainGlobals "zip" = some none)
    (i_LONGEST_NAME : PySem.W.nsIn K mainGlobals "LONGEST_NAME" = some (some (.int 8 t_LONGEST_NAME)))
    (i_MOST_ARGUMENTS : PySem.W.nsIn K mainGlobals "MOST_ARGUMENTS" = some (some (.int 2 t_MOST_ARGUMENTS)))
    (i_MOST_DEEP : PySem.W.nsIn K mainGlobals "MOST_DEEP" = some (some (.int 8 t_MOST_DEEP)))
    (i_MOST_PARTS : PySem.W.nsIn K mainGlobals "MOST_PARTS" = some (some (.int 30 t_MOST_PARTS)))
    (pgW : PySem.W.plainGet K cW Str.empty = true)
    (hdW : PySem.W.hasDictIn K cW = true)
    (poW : PySem.W.plainOver K cW = true)
    (saW : PySem.W.findIn K (.ref cW) "__setattr__" = some (some (.builtin "object.__setattr__")))
    (mkW : PySem.W.makesIn K cW = true)
    (kcW : PySem.W.keepIn K (.ref cW) = true)
    (nwl : PySem.W.findIn K (.ref cW) "_left" = some none)
    (qN : PySem.W.excIn K cN [.type "Exception", .type "BaseException", .type "object"] "Exception.__new__" = true)
    (kcN : PySem.W.keepIn K (.ref cN) = true)
    (sbN : PySem.W.subIn K (.ref cN) (.type "BaseException") = some true)
    (tyN : PySem.W.typeIn K (.ref cN) = some (.type "type"))
    (nnN : PySem.W.exmOne K (.ref cN) (.ref cN) = some true)
    (xB : K.lookup cB = some (excClassObj nmB qqB cB NNB bsB [.ref cS, .type "ValueError", .type "Exception", .type "BaseException", .type "object"] true snB suB abB coB ddB maB mbB mcB mdB me_B "ValueError.__new__"))
    (saB : PySem.W.findIn K (.ref cB) "__setattr__" = some (some (.builtin "object.__setattr__")))
    (exB : PySem.W.subIn K (.ref cB) (.type "BaseException") = some true)
    (tyB : PySem.W.typeIn K (.ref cB) = some (.type "type"))
    (kcB : PySem.W.keepIn K (.ref cB) = true)
    (nlB : PySem.W.findIn K (.ref cB) "index" = some none)
    (tfB : PySem.W.typeIn K (.ref fBI) = some (.type "function"))
    (gaB : PySem.W.findIn K (.ref cB) "__getattribute__" = some (some (.builtin "BaseException.__getattribute__")))
    (ggB : PySem.W.findIn K (.ref cB) "__getattr__" = some none)
    (hdB : PySem.W.hasDictIn K cB = true)
    (xmB : PySem.W.exmOne K (.ref cB) (.ref cB) = some true)
    (spS : PySem.W.specialIn K (.ref cS) "__getattribute__" = some (some (.builtin "type.__getattribute__")))
    (tyS : PySem.W.typeIn K (.ref cS) = some (.type "type"))
    (rdS : PySem.W.readsIn K cS (.type "type") = true)
    (fiS : PySem.W.findCls K (.ref cS) (.type "type") "__init__" = some (.val (.builtin "ValueError.__init__")))
    (vR : PySem.W.nsIn K mainGlobals "FIGURES" = some (some (.ref aR)))
    (lR : K.lookup aR = some ⟨.type "tuple", none, .seq itsR nR, slR⟩)
    (rR : Vals (figs.map V.str) itsR.toList)
    (sR : itsR.size ≤ sizeLine)
    (vV : PySem.W.nsIn K mainGlobals "VALUES" = some (some (.ref aV)))
    (lV : K.lookup aV = some ⟨.type "tuple", none, .seq itsV nV, slV⟩)
    (rV : Vals [.int 0, .int 1, .int 2] itsV.toList)
    (sV : itsV.size ≤ sizeLine)
    (vX : PySem.W.nsIn K mainGlobals "VALUE_WORDS" = some (some (.ref aX)))
    (lX : K.lookup aX = some ⟨.type "tuple", none, .seq itsX nX, slX⟩)
    (rX : Vals (vals3.map V.str) itsX.toList)
    (sX : itsX.size ≤ sizeLine)
    (vQ : PySem.W.nsIn K mainGlobals "LENGTHS" = some (some (.ref aQ)))
    (lQ : K.lookup aQ = some ⟨.type "dict", none, .dict esL nQ, #[]⟩)
    (kQ : PySem.W.KeysLit w.params esL.toList)
    (yQ : (aQ == sysModules) = false)
    (eQ : ∀ z : Str, Lens (esL.toList.find? (·.key.isStr z)) (lenOf z))
    (oQ : esL.toList.any (·.refKey) = false) :
    ∃ fd : FuncData, (∀ (s : Shared) (v : Value), BindsTo s fd ⟨[v], []⟩ [("_law_script", v)]) ∧ ∀ base : Heap, K.In base → base.Ns mainGlobals mg → FnOk l.prog w K mg base CX0 16 fa fd ["_law_script"] (spLaw K) := by
  have e := hfa.symm.trans (PySem.W.mg_of X G aLa)
  cases e
  have kBI := DBI.kp
  have FBI := Hd.fun_of DBI
  have bBI := FBI.binds (ps := ["self", "index"]) fun _ _ _ _ _ _ us hl => match us, hl with | [_, _], _ => rfl
  have kWI := DWI.kp
  have FWI := Hd.fun_of DWI
  have bWI := FWI.binds (ps := ["self", "row"]) fun _ _ _ _ _ _ us hl => match us, hl with | [_, _], _ => rfl
  have kWT := DWT.kp
  have FWT := Hd.fun_of DWT
  have bWT := FWT.binds (ps := ["self"]) fun _ _ _ _ _ _ us hl => match us, hl with | [_], _ => rfl
  have kWO := DWO.kp
  have FWO := Hd.fun_of DWO
  have bWO := FWO.binds (ps := ["self", "words"]) fun _ _ _ _ _ _ us hl => match us, hl with | [_, _], _ => rfl
  have kWN := DWN.kp
  have FWN := Hd.fun_of DWN
  have bWN := FWN.binds (ps := ["self"]) fun _ _ _ _ _ _ us hl => match us, hl with | [_], _ => rfl
  have kWF := DWF.kp
  have FWF := Hd.fun_of DWF
  have bWF := FWF.binds (ps := ["self", "many"]) fun _ _ _ _ _ _ us hl => match us, hl with | [_, _], _ => rfl
  have kWE := DWE.kp
  have FWE := Hd.fun_of DWE
  have bWE := FWE.binds (ps := ["self"]) fun _ _ _ _ _ _ us hl => match us, hl with | [_], _ => rfl
  have kWh := DWh.kp
  have FWh := Hd.fun_of DWh
  have bWh := FWh.binds (ps := ["value"]) fun _ _ _ _ _ _ us hl => match us, hl with | [_], _ => rfl
  have kVa := DVa.kp
  have FVa := Hd.fun_of DVa
  have bVa := FVa.binds (ps := ["value"]) fun _ _ _ _ _ _ us hl => match us, hl with | [_], _ => rfl
  have kNa := DNa.kp
  have FNa := Hd.fun_of DNa
  have bNa := FNa.binds (ps := ["value"]) fun _ _ _ _ _ _ us hl => match us, hl with | [_], _ => rfl
  have kTe := DTe.kp
  have FTe := Hd.fun_of DTe
  have bTe := FTe.binds (ps := ["value", "arguments"]) fun _ _ _ _ _ _ us hl => match us, hl with | [_, _], _ => rfl
  have kHa := DHa.kp
  have FHa := Hd.fun_of DHa
  have bHa := FHa.binds (ps := ["part", "arguments"]) fun _ _ _ _ _ _ us hl => match us, hl with | [_, _], _ => rfl
  have kCf := DCf.kp
  have FCf := Hd.fun_of DCf
  have bCf := FCf.binds (ps := ["terms"]) fun _ _ _ _ _ _ us hl => match us, hl with | [_], _ => rfl
  have kIn := DIn.kp
  have FIn := Hd.fun_of DIn
  have bIn := FIn.binds (ps := ["term"]) fun _ _ _ _ _ _ us hl => match us, hl with | [_], _ => rfl
  have kNx := DNx.kp
  have FNx := Hd.fun_of DNx
  have bNx := FNx.binds (ps := ["level"]) fun _ _ _ _ _ _ us hl => match us, hl with | [_], _ => rfl
  have kWr := DWr.kp
  have FWr := Hd.fun_of DWr
  have bWr := FWr.binds (ps := ["term"]) fun _ _ _ _ _ _ us hl => match us, hl with | [_], _ => rfl
  have kTw := DTw.kp
  have FTw := Hd.fun_of DTw
  have bTw := FTw.binds (ps := ["term"]) fun _ _ _ _ _ _ us hl => match us, hl with | [_], _ => rfl
  have kRd := DRd.kp
  have FRd := Hd.fun_of DRd
  have bRd := FRd.binds (ps := ["text", "arguments"]) fun _ _ _ _ _ _ us hl => match us, hl with | [_, _], _ => rfl
  have kTk := DTk.kp
  have FTk := Hd.fun_of DTk
  have bTk := FTk.binds (ps := ["words", "arguments"]) fun _ _ _ _ _ _ us hl => match us, hl with | [_, _], _ => rfl
  have kTt := DTt.kp
  have FTt := Hd.fun_of DTt
  have bTt := FTt.binds (ps := ["words", "arguments", "deep"]) fun _ _ _ _ _ _ us hl => match us, hl with | [_, _, _], _ => rfl
  have kPl := DPl.kp
  have FPl := Hd.fun_of DPl
  have bPl := FPl.binds (ps := ["_law_script", "_law_k"]) fun _ _ _ _ _ _ us hl => match us, hl with | [_, _], _ => rfl
  have kDr := DDr.kp
  have FDr := Hd.fun_of DDr
  have bDr := FDr.binds (ps := ["_law_pool_here", "_law_many"]) fun _ _ _ _ _ _ us hl => match us, hl with | [_, _], _ => rfl
  have kPk := DPk.kp
  have FPk := Hd.fun_of DPk
  have bPk := FPk.binds (ps := ["_law_pool_here", "_law_row"]) fun _ _ _ _ _ _ us hl => match us, hl with | [_, _], _ => rfl
  have kNm := DNm.kp
  have FNm := Hd.fun_of DNm
  have bNm := FNm.binds (ps := ["_law_pool_here", "_law_count"]) fun _ _ _ _ _ _ us hl => match us, hl with | [_, _], _ => rfl
  have kLt := DLt.kp
  have FLt := Hd.fun_of DLt
  have bLt := FLt.binds (ps := ["_law_pool_here", "_law_b", "_law_many", "_law_deep"]) fun _ _ _ _ _ _ us hl => match us, hl with | [_, _, _, _], _ => rfl
  have kLx := DLx.kp
  have FLx := Hd.fun_of DLx
  have bLx := FLx.binds (ps := ["_law_term_here"]) fun _ _ _ _ _ _ us hl => match us, hl with | [_], _ => rfl
  have kLr := DLr.kp
  have FLr := Hd.fun_of DLr
  have bLr := FLr.binds (ps := ["_law_text", "_law_many"]) fun _ _ _ _ _ _ us hl => match us, hl with | [_, _], _ => rfl
  have kLa := DLa.kp
  have FLa := Hd.fun_of DLa
  have M : Blt mg := ⟨PySem.W.mg_none_of X G z_abs, PySem.W.mg_none_of X G z_int, PySem.W.mg_none_of X G z_len, PySem.W.mg_none_of X G z_sum, PySem.W.mg_none_of X G z_max, PySem.W.mg_none_of X G z_min, PySem.W.mg_none_of X G z_range, PySem.W.mg_none_of X G z_isinstance, PySem.W.mg_none_of X G z_bool, PySem.W.mg_none_of X G z_str, PySem.W.mg_none_of X G z_tuple, PySem.W.mg_none_of X G z_list, PySem.W.mg_none_of X G z_dict, PySem.W.mg_none_of X G z_all, PySem.W.mg_none_of X G z_sorted, PySem.W.mg_none_of X G z_repr, PySem.W.mg_none_of X G z_zip⟩
  have oB : OexC K cB := ⟨⟨nmB, qqB, NNB, bsB, _, snB, suB, abB, coB, ddB, maB, mbB, mcB, mdB, me_B, xB, by rfl⟩, saB, exB, tyB, kcB⟩
  have EB : ErrT K mg "BadText" "index" cB fBI := ⟨oB, nlB, aBI, tfB, (PySem.W.mg_of X G a_B)⟩
  have XB : XfC K cB := ⟨gaB, ggB, exB, hdB⟩
  have OB : OwnBase K mg "StoreError" cS := ⟨(PySem.W.mg_of X G a_S), spS, tyS, rdS, fiS⟩
  have NF : NfK K mg cN := ⟨qN, (PySem.W.mg_of X G a_N), kcN, sbN, tyN⟩
  have WK : WdK K cW := ⟨⟨pgW, hdW, poW, saW⟩, nwl⟩
  have FG : FigT K mg := ⟨aR, _, (PySem.W.mg_of X G vR), lR, rfl, rfl, fun H => .inr ⟨_, itsR, nR, lR, rfl, rfl, sR, rR⟩⟩
  have VT : ValT K mg := ⟨aX, _, (PySem.W.mg_of X G vX), lX, rfl, rfl, fun H => .inr ⟨_, itsX, nX, lX, rfl, rfl, sX, rX⟩⟩
  have TC : CellsTxt K mg := ⟨⟨aV, (PySem.W.mg_of X G vV), fun H => .inr ⟨_, itsV, nV, lV, rfl, rfl, sV, rV⟩⟩, ⟨_, (PySem.W.mg_of X G i_LONGEST_NAME)⟩⟩
  have TX : TermsTxt K w mg := ⟨⟨aQ, esL, nQ, (PySem.W.mg_of X G vQ), ⟨lQ, kQ, yQ⟩, fun z => lens_in lQ (eQ z) oQ⟩, ⟨_, (PySem.W.mg_of X G i_MOST_ARGUMENTS)⟩, ⟨_, (PySem.W.mg_of X G i_MOST_DEEP)⟩, ⟨_, (PySem.W.mg_of X G i_MOST_PARTS)⟩⟩
  have CF : CellFns K mg fWh fVa fNa _ _ _ := ⟨FWh, FVa, FNa, bWh, bVa, bNa, (PySem.W.mg_of X G aWh), (PySem.W.mg_of X G aVa), (PySem.W.mg_of X G aNa)⟩
  have bLaw := FunD.bindsA (ps := ["_law_script"]) DLa fun _ _ _ _ _ _ us hl => match us, hl with | [_], _ => rfl
  exact ⟨fdLa, fun s v => bLaw s [v] rfl, fun base _ _ => by
    have GB := ok_badT (P := l.prog) (w := w) (base := base) FBI OB oB nlB
    have GBH := ok_badTH (P := l.prog) (w := w) (base := base) FBI OB oB nlB
    have GVa := ok_value (P := l.prog) (w := w) (base := base) FVa M TC FWh bWh ((PySem.W.mg_of X G aWh))
    have GNa := ok_name (P := l.prog) (w := w) (base := base) FNa M TC
    have GCf := ok_callForm (P := l.prog) (w := w) (base := base) FCf M TX
    have GHa := ok_has (P := l.prog) (w := w) (base := base) FHa M TC TX CF FCf bCf ((PySem.W.mg_of X G aCf))
    have GIn := ok_inner (P := l.prog) (w := w) (base := base) FIn M TC CF
    have GNx := ok_next (P := l.prog) (w := w) (base := base) FNx GIn FIn bIn ((PySem.W.mg_of X G aIn))
    have GTe := ok_term (P := l.prog) (w := w) (base := base) FTe M TX GHa FHa bHa ((PySem.W.mg_of X G aHa)) GNx FNx bNx ((PySem.W.mg_of X G aNx))
    have GWI := ok_wdI (mg := mg) (P := l.prog) (w := w) (base := base) FWI WK
    have GWT := ok_take (P := l.prog) (w := w) (base := base) FWT M WK NF
    have GWE := ok_wdE (P := l.prog) (w := w) (base := base) FWE M WK NF
    have GWO := ok_takeO FWO WK NF GWT ⟨aWT, iWT, kWT⟩ bWT
    have GWN := ok_takeN FWN WK NF GWT ⟨aWT, iWT, kWT⟩ bWT (GNa.mono (by decide)) kNa bNa ((PySem.W.mg_of X G aNa))
    have GWF := ok_takeF FWF WK FG GWO ⟨aWO, iWO, kWO⟩ bWO
    have GTt := ok_tt FTt M WK NF VT TX GWT ⟨aWT, iWT, kWT⟩ bWT GWN ⟨aWN, iWN, kWN⟩ bWN GWF ⟨aWF, iWF, kWF⟩ bWF bTt ((PySem.W.mg_of X G aTt)) 8
    have GTk := ok_tw FTk NF TX GTt kTt bTt ((PySem.W.mg_of X G aTt)) (by decide) GTe kTe bTe ((PySem.W.mg_of X G aTe))
    have GRd := ok_rd FRd M WK NF nnN EB GB GBH bBI ⟨mkW, aWI, iWI, kcW⟩ GWI bWI ((PySem.W.mg_of X G a_W)) GTk kTk bTk ((PySem.W.mg_of X G aTk)) GWE ⟨aWE, iWE, kWE⟩ bWE
    have GLr := ok_lr FLr EB XB xmB GRd kRd bRd ((PySem.W.mg_of X G aRd))
    have GTw : ∀ n, n ≤ 2 → _ := fun n h => ok_twd (n := n) h FTw M GVa kVa bVa ((PySem.W.mg_of X G aVa)) GIn kIn bIn ((PySem.W.mg_of X G aIn)) bTw ((PySem.W.mg_of X G aTw)) 8 (Nat.le_refl 8)
    have GWr : ∀ n, n ≤ 2 → _ := fun n h => ok_wr (n := n) name_len8 FWr (GTw n h) kTw bTw ((PySem.W.mg_of X G aTw))
    exact ok_law FLa M FPl bPl ((PySem.W.mg_of X G aPl)) FDr bDr ((PySem.W.mg_of X G aDr)) FPk bPk ((PySem.W.mg_of X G aPk)) FNm bNm ((PySem.W.mg_of X G aNm)) FLt bLt ((PySem.W.mg_of X G aLt)) FLx bLx ((PySem.W.mg_of X G aLx)) GWr kWr bWr ((PySem.W.mg_of X G aWr)) GLr kLr bLr ((PySem.W.mg_of X G aLr))⟩
namespace Hd
open He
theorem facts {l : PySem.W.OpenLaw} {w : World} {K : PySem.W.Frag} {h : Heap} {mg : Str → Option Value} {fa : Addr} (X : K.In h) (G : h.Ns mainGlobals mg) (hfa : mg "law" = some (.ref fa)) (c : Says fn ts chk w K) :
    ∃ fd : FuncData, (∀ (s : Shared) (v : Value), BindsTo s fd ⟨[v], []⟩ [("_law_script", v)]) ∧ ∀ base : Heap, K.In base → base.Ns mainGlobals mg → FnOk l.prog w K mg base CX0 16 fa fd ["_law_script"] (spLaw K) := by
  have z0 : chk K = true := c.more
  unfold chk at z0
  obtain ⟨q0, z1⟩ := ba z0
  obtain ⟨q1, z2⟩ := ba z1
  obtain ⟨q2, z3⟩ := ba z2
  have q3 := z3
  obtain ⟨fdBI, DBI⟩ := c.t.d.def_ 0 rfl
  obtain ⟨fdWI, DWI⟩ := c.t.d.def_ 1 rfl
  obtain ⟨fdWT, DWT⟩ := c.t.d.def_ 2 rfl
  obtain ⟨fdWO, DWO⟩ := c.t.d.def_ 3 rfl
  obtain ⟨fdWN, DWN⟩ := c.t.d.def_ 4 rfl
  obtain ⟨fdWF, DWF⟩ := c.t.d.def_ 5 rfl
  obtain ⟨fdWE, DWE⟩ := c.t.d.def_ 6 rfl
  obtain ⟨fdWh, DWh⟩ := c.t.d.def_ 7 rfl
  obtain ⟨fdVa, DVa⟩ := c.t.d.def_ 8 rfl
  obtain ⟨fdNa, DNa⟩ := c.t.d.def_ 9 rfl
  obtain ⟨fdTe, DTe⟩ := c.t.d.def_ 10 rfl
  obtain ⟨fdHa, DHa⟩ := c.t.d.def_ 11 rfl
  obtain ⟨fdCf, DCf⟩ := c.t.d.def_ 12 rfl
  obtain ⟨fdIn, DIn⟩ := c.t.d.def_ 13 rfl
  obtain ⟨fdNx, DNx⟩ := c.t.d.def_ 14 rfl
  obtain ⟨fdWr, DWr⟩ := c.t.d.def_ 15 rfl
  obtain ⟨fdTw, DTw⟩ := c.t.d.def_ 16 rfl
  obtain ⟨fdRd, DRd⟩ := c.t.d.def_ 17 rfl
  obtain ⟨fdTk, DTk⟩ := c.t.d.def_ 18 rfl
  obtain ⟨fdTt, DTt⟩ := c.t.d.def_ 19 rfl
  obtain ⟨fdPl, DPl⟩ := c.t.d.def_ 20 rfl
  obtain ⟨fdDr, DDr⟩ := c.t.d.def_ 21 rfl
  obtain ⟨fdPk, DPk⟩ := c.t.d.def_ 22 rfl
  obtain ⟨fdNm, DNm⟩ := c.t.d.def_ 23 rfl
  obtain ⟨fdLt, DLt⟩ := c.t.d.def_ 24 rfl
  obtain ⟨fdLx, DLx⟩ := c.t.d.def_ 25 rfl
  obtain ⟨fdLr, DLr⟩ := c.t.d.def_ 26 rfl
  obtain ⟨fdLa, DLa⟩ := c.t.d.def_ 27 rfl
  obtain ⟨_, i_LONGEST_NAME⟩ := int_at (at_ q2 0 rfl)
  obtain ⟨_, i_MOST_ARGUMENTS⟩ := int_at (at_ q2 1 rfl)
  obtain ⟨_, i_MOST_DEEP⟩ := int_at (at_ q2 2 rfl)
  obtain ⟨_, i_MOST_PARTS⟩ := int_at (at_ q2 3 rfl)
  obtain ⟨_, _, _, _, _, _, _, _, _, _, _, _, _, _, xB⟩ := exc_at (at_ q2 16 rfl)
  obtain ⟨_, _, _, lR, sR, rR⟩ := tup_at (at_ q3 4 rfl)
  obtain ⟨_, _, _, lV, sV, rV⟩ := tup_at (at_ q3 6 rfl)
  obtain ⟨_, _, _, lX, sX, rX⟩ := tup_at (at_ q3 8 rfl)
  obtain ⟨_, _, DQ⟩ := c.t.tab 0 (t := (fun K => ga K "LENGTHS", ["tick", "plus", "less", "same", "if"])) rfl
  obtain ⟨eQ, oQ⟩ := lens_at DQ.at_ (at_ q3 10 rfl)
  exact all_mk (l := l) (w := w) X G hfa (of_decide_eq_true (at_ q0 0 rfl)) (of_decide_eq_true (at_ q0 1 rfl)) (of_decide_eq_true (at_ q0 2 rfl)) (of_decide_eq_true (at_ q0 3 rfl)) (of_decide_eq_true (at_ q0 4 rfl)) (at_ q0 5 rfl) DBI (of_decide_eq_true (at_ q0 6 rfl))
    (at_ q0 7 rfl) DWI (of_decide_eq_true (at_ q0 8 rfl)) (at_ q0 9 rfl) DWT (of_decide_eq_true (at_ q0 10 rfl)) (at_ q0 11 rfl) DWO
    (of_decide_eq_true (at_ q0 12 rfl)) (at_ q0 13 rfl) DWN (of_decide_eq_true (at_ q0 14 rfl)) (at_ q0 15 rfl) DWF (of_decide_eq_true (at_ q0 16 rfl)) (at_ q0 17 rfl)
    DWE (of_decide_eq_true (at_ q0 18 rfl)) DWh (of_decide_eq_true (at_ q0 19 rfl)) DVa (of_decide_eq_true (at_ q0 20 rfl)) DNa (of_decide_eq_true (at_ q0 21 rfl))
    DTe (of_decide_eq_true (at_ q0 22 rfl)) DHa (of_decide_eq_true (at_ q0 23 rfl)) DCf (of_decide_eq_true (at_ q0 24 rfl)) DIn (of_decide_eq_true (at_ q0 25 rfl))
    DNx (of_decide_eq_true (at_ q0 26 rfl)) DWr (of_decide_eq_true (at_ q0 27 rfl)) DTw (of_decide_eq_true (at_ q1 0 rfl)) DRd (of_decide_eq_true (at_ q1 1 rfl))
    DTk (of_decide_eq_true (at_ q1 2 rfl)) DTt (of_decide_eq_true (at_ q1 3 rfl)) DPl (of_decide_eq_true (at_ q1 4 rfl)) DDr (of_decide_eq_true (at_ q1 5 rfl))
    DPk (of_decide_eq_true (at_ q1 6 rfl)) DNm (of_decide_eq_true (at_ q1 7 rfl)) DLt (of_decide_eq_true (at_ q1 8 rfl)) DLx (of_decide_eq_true (at_ q1 9 rfl))
    DLr (of_decide_eq_true (at_ q1 10 rfl)) DLa (of_decide_eq_true (at_ q1 11 rfl)) (of_decide_eq_true (at_ q1 12 rfl)) (of_decide_eq_true (at_ q1 13 rfl)) (of_decide_eq_true (at_ q1 14 rfl)) (of_decide_eq_true (at_ q1 15 rfl))
    (of_decide_eq_true (at_ q1 16 rfl)) (of_decide_eq_true (at_ q1 17 rfl)) (of_decide_eq_true (at_ q1 18 rfl)) (of_decide_eq_true (at_ q1 19 rfl)) (of_decide_eq_true (at_ q1 20 rfl)) (of_decide_eq_true (at_ q1 21 rfl)) (of_decide_eq_true (at_ q1 22 rfl)) (of_decide_eq_true (at_ q1 23 rfl))
    (of_decide_eq_true (at_ q1 24 rfl)) (of_decide_eq_true (at_ q1 25 rfl)) (of_decide_eq_true (at_ q1 26 rfl)) (of_decide_eq_true (at_ q1 27 rfl)) i_LONGEST_NAME i_MOST_ARGUMENTS i_MOST_DEEP i_MOST_PARTS
    (at_ q2 4 rfl) (at_ q2 5 rfl) (at_ q2 6 rfl) (of_decide_eq_true (at_ q2 7 rfl)) (at_ q2 8 rfl) (at_ q2 9 rfl) (of_decide_eq_true (at_ q2 10 rfl)) (at_ q2 11 rfl)
    (at_ q2 12 rfl) (of_decide_eq_true (at_ q2 13 rfl)) (of_decide_eq_true (at_ q2 14 rfl)) (of_decide_eq_true (at_ q2 15 rfl)) xB (of_decide_eq_true (at_ q2 17 rfl)) (of_decide_eq_true (at_ q2 18 rfl)) (of_decide_eq_true (at_ q2 19 rfl))
    (at_ q2 20 rfl) (of_decide_eq_true (at_ q2 21 rfl)) (of_decide_eq_true (at_ q2 22 rfl)) (of_decide_eq_true (at_ q2 23 rfl)) (of_decide_eq_true (at_ q2 24 rfl)) (at_ q2 25 rfl) (of_decide_eq_true (at_ q2 26 rfl)) (of_decide_eq_true (at_ q2 27 rfl))
    (of_decide_eq_true (at_ q3 0 rfl)) (at_ q3 1 rfl) (fcls_at (at_ q3 2 rfl)) (of_decide_eq_true (at_ q3 3 rfl)) lR rR sR (of_decide_eq_true (at_ q3 5 rfl))
    lV rV sV (of_decide_eq_true (at_ q3 7 rfl)) lX rX sX (of_decide_eq_true (at_ q3 9 rfl))
    DQ.at_ DQ.lit DQ.low eQ oQ
end Hd
end Sc
open PySem PySem.W PyProof.Rows
set_option maxHeartbeats 0 in
theorem PySem.Challenge.cw_steadycalls_k79_whole_terms_as_texts_holds : PySem.Challenge.rw_steadycalls_k79_whole_terms_as_texts.Holds := by
  w_on; o_law
  refine HandSHeadRun.head_any (r := PySem.W.OpenLaw.row PySem.Challenge.rw_steadycalls_k79_whole_terms_as_texts) (q := view (PySem.W.OpenLaw.row PySem.Challenge.rw_steadycalls_k79_whole_terms_as_texts).prog [39]) (H := Sc.Hd.hk) (ob := Sc.Hd.ob) (M := 20000) (loose := Sc.Hd.names) (d := HandSHeadRun.topDef (PySem.W.OpenLaw.row PySem.Challenge.rw_steadycalls_k79_whole_terms_as_texts).prog 39) (kwd := []) Sc.Hd.ob_eq
    (by kernel_rfl) (fun s => by kernel_rfl) Sc.Hd.run (by kernel_rfl) (by kernel_rfl) (by kernel_rfl) (by rfl) (by first | assumption | decide +kernel) (by decide +kernel) ⟨rfl, rfl, rfl, rfl, rfl, by decide +kernel⟩ ?hw ?hc
  case hw => w_witness2
  case hc =>
    refine L2.walk_ofE (l := PySem.Challenge.rw_steadycalls_k79_whole_terms_as_texts) (n := 63) (k := 16) (x := "_law_script") (CX := L2.CX0) rfl (by decide) (by kernel_rfl) ⟨rfl, by decide, by decide⟩ ?F (fun _ _ _ _ z => z)
    intro w mg fa h Y G hmg0
    obtain ⟨K, KX, c⟩ := Y
    have hmg : mg ("law" : PySem.Str) = some (.ref fa) := by
      have e : (HandSHeadRun.topDef (PySem.W.OpenLaw.row PySem.Challenge.rw_steadycalls_k79_whole_terms_as_texts).prog 39).name = ("law" : PySem.Str) := by kernel_rfl
      rw [← e]
      exact hmg0
    obtain ⟨fd, hb, hF⟩ := Sc.Hd.facts (l := PySem.Challenge.rw_steadycalls_k79_whole_terms_as_texts) KX G hmg c
    exact ⟨K, fd, Sc.spLaw K, KX, hb, fun H a ns hl _ hS => ⟨a, ns, rfl, hS, hl, fun _ => rfl⟩, hF⟩


