import PyProof.Rows.All
import Wide.All
import OpenK.AllK
import Wide.FinOn
import PyProof.ReprRoads
import KE.KExcIs
import HandS.Base
import HandS.Call
import HandS.List
import HandS.Comp
import HandS.Ends
import HandS.Words
import HandS.Dict
import HandS.Iter
import HandS.Text
import HandS.Evl
import HandS.IsInst
import HandS.Walk
import HandS.More
import HandS.TupAny
import HandS.OwnEq
import HandS.SlotsOwn
import HandS.Exc
import HandS.ExcInit
import HandS.ExcField
import HandS.WordsExc
import HandS.CallSlots
import HandS.Strs
import HandS.Conv
import HandS.RaiseMore
import HandS.Style
import HandS.ExcIs
import HandS.MakeKw
import HandS.MakeKwOnly
import PyProof.ExcBaseAll.LookupError
import PyProof.Rows.FactsExc_KeyError
import PySem.Challenge.RW_steadycalls_k20_errors
import PyProof.ExcBaseAll.RuntimeError
import PyProof.ExcBaseAll.OverflowError
set_option Elab.async false
set_option linter.all false
set_option maxRecDepth 100000
set_option maxHeartbeats 4000000
namespace Sc
open PySem PySem.Spec PyProof.Rows L2
def topS (i : Nat) : Stmt := PySem.Challenge.pw_steadycalls_k20_errors.main.body.getD i (.Pass ⟨0, 0, 0, 0⟩)
/-! ### making an error of any base, with values and keywords -/
namespace ExG
open PySem.HandSPX
section
variable {M : Model} {prog : Program} {w : World} {A : Around} {E : Value → Shared → Prop} {R : Result → Shared → Prop} {h : Heap} {g : Array GenState} {d : Drawn} {t : Nat} {os : OsState}
variable {nm q : Str} {C N : Addr} {bs bm bmB : List Value} {hdct : Bool} {sn : List Str} {sub : List Value} {ab : Bool} {col : Option Bool} {dd : Option Addr} {k0 k1 k2 k3 k5 : Option Value} {nB newId nI : String} {rest : List Value} {kw : List (Str × Value)}
/-- what of the chain bm is asked when an error is made by newId, nB's -/
structure Chain (bm : List Value) (nB : String) : Prop where
  has : bm.contains (.type nB) = true
  noA : bm.contains (.type "AttributeError") = false
  noN : bm.contains (.type "NameError") = false
theorem may_new (F : ExcBaseFacts nB newId nI bmB) (T : Chain bm nB) {Q : Unit → Shared → Prop} (hC : h.get? C = some (excClassObj nm q C N bs bm hdct sn sub ab col dd k0 k1 k2 k3 k5 newId)) (hq : Q () ⟨h, g, d, t, os⟩) :
    wpAny M A (checkBuiltinCall newId ⟨.ref C :: rest, kw⟩) Q E ⟨h, g, d, t, os⟩ := by
  have sub1 : (Value.ref C :: bm).contains (.type nB) = true := by rw [List.contains_cons, T.has, Bool.or_true]
  have st := F.noStar
  simp only [checkBuiltinCall, F.newKind, F.newSplit, F.newRow]
  repeat (first
    | refine wpAny_loadPart_at hC ?_
    | (refine wpAny_isSubtype_exc hC ?_; rw [sub1])
    | refine wpAny_staticBase_exc hC ?_
    | refine wpAny_madeBy_exc hC ?_
    | simp only [bne_self_eq_false, Bool.false_eq_true, if_false]
    | wp_step)
  exact hq
theorem new_at (F : ExcBaseFacts nB newId nI bmB) (T : Chain bm nB) (hC : h.get? C = some (excClassObj nm q C N bs bm hdct sn sub ab col dd k0 k1 k2 k3 k5 newId)) (few : rest.length ≤ sizeLine)
    (hq : R (.ok (.ret (.ref (h.objs.size + 1)))) ⟨(h.push (PySem.W.kdv_tup rest)).push (excO C h.objs.size), g, d, t, os⟩) : codeAny (model prog w) A (.builtin newId ⟨.ref C :: rest, kw⟩) R ⟨h, g, d, t, os⟩ := by
  have e1 := F.ends
  have s1 : (Value.ref C :: bm).contains (.type nB) = true := by rw [List.contains_cons, T.has, Bool.or_true]
  have s2 : (Value.ref C :: bm).contains (.type "AttributeError") = false := by rw [List.contains_cons, T.noA]; rfl
  have s3 : (Value.ref C :: bm).contains (.type "NameError") = false := by rw [List.contains_cons, T.noN]; rfl
  refine codeAny_builtinAt F.entry ?_
  unfold Builtin.«BaseException.__new__»
  refine PySem.wpAt_bind ?_
  show PySem.wpAt _ _ _ (stack >>= _) _ _ _
  refine PySem.wpAt_bind (PySem.wpAt_stack fun p below => PySem.wpAt_of_wpAny ?_)
  wp_walk
  refine PySem.wpAt_of_wpAny ?_
  rw [F.owner]
  repeat (first
    | with_reducible refine wpAny_madeHere_exc F.canon hC ?_
    | with_reducible refine wpAny_loadPart_at hC ?_
    | (with_reducible refine wpAny_isSubtype_exc hC ?_; first | rw [s1] | rw [s2] | rw [s3])
    | wp_step)
  show R _ _
  rw [Heap.size_push]
  exact hq
theorem made_at (F : ExcBaseFacts nB newId nI bmB) (T : Chain bm nB) {fI : Addr} {Q : Fin → Shared → Prop} (hC : h.get? C = some (excClassObj nm q C N bs bm hdct sn sub ab col dd k0 k1 k2 k3 k5 newId))
    (hi : PySem.W.Looks (model prog w) h (typeLookup (.ref C) "__init__") (some (.ref fI))) (hb : ∀ self, PySem.W.Looks (model prog w) h (bindSpecial (.ref fI) self) (.ref fI, [self])) (few : rest.length ≤ sizeLine)
    (hq : codeAny (model prog w) A (.call (.ref fI) ⟨.ref (h.objs.size + 1) :: rest, kw⟩) (fun r s' => match r with | .ok (.ret v) => v = .none ∧ Q (.done (.ret (.ref (h.objs.size + 1)))) s' | .ok _ => False | .error e => E e s')
      ⟨(h.push (PySem.W.kdv_tup rest)).push (excO C h.objs.size), g, d, t, os⟩) : wpAny (model prog w) A (Builtin.«type.__call__» ⟨.ref C :: rest, kw⟩) Q E ⟨h, g, d, t, os⟩ := by
  repeat (first
    | with_reducible refine wpAny_loadPart_at hC ?_
    | with_reducible refine wpAny_madeBy_exc hC ?_
    | wp_step)
  refine codeAny_call_builtin_code (Code.quiet_builtin _ F.quiet) (may_new F T hC (new_at F T hC few ?_))
  show wpAny _ _ _ _ _ _
  have keep : ∀ b o, h.get? b = some o → ((h.push (PySem.W.kdv_tup rest)).push (excO C h.objs.size)).get? b = some o := fun b o e => Heap.get?_push_of_some _ (Heap.get?_push_of_some _ e)
  have c1 := keep _ _ hC
  have here : ((h.push (PySem.W.kdv_tup rest)).push (excO C h.objs.size)).get? (h.objs.size + 1) = some (excO C h.objs.size) := by heap_get
  have self : (Value.ref C :: bm).contains (.ref C) = true := by simp
  have l1 := hi.keeps keep
  have l2 := (hb (.ref (h.objs.size + 1))).keeps keep
  unfold isInstance
  repeat (first
    | with_reducible refine wpAny_loadPart_at here ?_
    | (with_reducible refine wpAny_isSubtype_exc c1 ?_; rw [self])
    | wp_step)
  show wpAny _ _ (typeLookup (.ref C) _) _ _ _
  refine l1.at (wpAny_holding (wpAny_bind (l2.at (wpAny_bind (wpAny_call (codeAny_mono hq fun r s' z => ?_))))))
  rcases r with e | (v | _ | _ | _) <;> first | exact z | exact z.elim | skip
  obtain ⟨rfl, z⟩ := z
  first
    | exact wpAny_pure (wpAny_pure z)
    | (wp_walk; exact z)
theorem may_call {Q : Unit → Shared → Prop} (hC : h.get? C = some (excClassObj nm q C N bs bm hdct sn sub ab col dd k0 k1 k2 k3 k5 newId)) (hq : Q () ⟨h, g, d, t, os⟩) : wpAny M A (checkBuiltinCall "type.__call__" ⟨.ref C :: rest, kw⟩) Q E ⟨h, g, d, t, os⟩ := by
  have f3 := tc_sub
  have ty : (⟨h, g, d, t, os⟩ : Shared).TypeIs (.ref C) "type" := ⟨_, hC, rfl⟩
  simp only [checkBuiltinCall, tc_kind, tc_split]
  repeat (any_goals (first
    | assumption
    | with_reducible refine wpAny_loadPart_at hC ?_
    | with_reducible refine wpAny_onRaise ?_
    | with_reducible refine wpAny_map ?_
    | wp_step))
theorem call_at (F : ExcBaseFacts nB newId nI bmB) (T : Chain bm nB) {fI : Addr} (hC : h.get? C = some (excClassObj nm q C N bs bm hdct sn sub ab col dd k0 k1 k2 k3 k5 newId))
    (hi : PySem.W.Looks (model prog w) h (typeLookup (.ref C) "__init__") (some (.ref fI))) (hb : ∀ self, PySem.W.Looks (model prog w) h (bindSpecial (.ref fI) self) (.ref fI, [self])) (few : rest.length ≤ sizeLine)
    (hq : codeAny (model prog w) (A.under (.builtin "type.__call__" ⟨.ref C :: rest, kw⟩)) (.call (.ref fI) ⟨.ref (h.objs.size + 1) :: rest, kw⟩) (PySem.W.InitBack (h.objs.size + 1) R) ⟨(h.push (PySem.W.kdv_tup rest)).push (excO C h.objs.size), g, d, t, os⟩) :
    codeAny (model prog w) A (.call (.ref C) ⟨rest, kw⟩) R ⟨h, g, d, t, os⟩ := by
  have f1 := tc_lookup
  have f2 := tc_bind (.ref C)
  have ty : (⟨h, g, d, t, os⟩ : Shared).TypeIs (.ref C) "type" := ⟨_, hC, rfl⟩
  refine codeAny_of_tree ?_
  show wpAny _ _ (callAny (.ref C) _) _ _ _
  repeat (any_goals (first
    | assumption
    | with_reducible refine wpAny_loadPart_at hC ?_
    | wp_step))
  refine ⟨rfl, ?_⟩
  refine codeAny_call_builtin_at (Code.quiet_builtin _ (by decide +kernel)) entry_typeCall (may_call hC (made_at F T hC hi hb few (codeAny_mono hq fun r s' z => ?_)))
  rcases r with e | (v | _ | _ | _) <;> exact z
end
end ExG
namespace ExG
open PySem.HandSPX
open Builtin Builtin.ObjectAttr
section
variable {M : Model} {prog : Program} {w : World} {A : Around} {E : Value → Shared → Prop} {R : Result → Shared → Prop} {h : Heap} {g : Array GenState} {d : Drawn} {t : Nat} {os : OsState}
variable {nm q : Str} {C N : Addr} {bs bm : List Value} {hdct : Bool} {sn : List Str} {sub : List Value} {ab : Bool} {col : Option Bool} {dd : Option Addr} {k0 k1 k2 k3 k5 : Option Value} {newId iB iId : String} {rest : List Value}
/-- what is written of a base's own __init__ -/
structure Ini (iB iId : String) : Prop where
  slot : Slot iB "__init__" iId
  entry : entryFor table iId = some Builtin.«BaseException.__init__»
  kind : builtinKind iId = some .slot
  split : splitId iId = some (iB, "__init__")
  row : Manifest.signature? iId = some ⟨.positional, "*", iB, .self, [⟨"args", .varPos, false⟩]⟩
  star : (iB != "*") = true
theorem may_init (F : Ini iB iId) (has : bm.contains (.type iB) = true) {e : Addr} {oe : Obj} {Q : Unit → Shared → Prop} (hC : h.get? C = some (excClassObj nm q C N bs bm hdct sn sub ab col dd k0 k1 k2 k3 k5 newId)) (he : h.get? e = some oe) (hcls : oe.cls = .ref C) (hq : Q () ⟨h, g, d, t, os⟩) :
    wpAny M A (checkBuiltinCall iId ⟨.ref e :: rest, []⟩) Q E ⟨h, g, d, t, os⟩ := by
  have s1 : (Value.ref C :: bm).contains (.type iB) = true := by rw [List.contains_cons, has, Bool.or_true]
  have st := F.star
  simp only [checkBuiltinCall, F.kind, F.split, F.row]
  repeat (first
    | (with_reducible refine wpAny_loadPart_at he ?_; rw [hcls])
    | with_reducible refine wpAny_loadPart_at hC ?_
    | (with_reducible refine wpAny_isSubtype_exc hC ?_; rw [s1])
    | wp_step)
  refine wpAny_onRaise ?_
  have ok : ∀ (a b : String) (n : Nat), Bind.check ⟨.positional, "*", iB, .self, [⟨"args", .varPos, false⟩]⟩ a b n (List.map (fun x => x.fst) ({ pos := Value.ref e :: rest } : Args).kw) = pure () := fun a b n => check_star_args _ _ _ _ _ _
  rw [ok]
  exact wpAny_pure hq
theorem init_at (F : Ini iB iId) (has : bm.contains (.type iB) = true) {e t0 : Addr} (hC : h.get? C = some (excClassObj nm q C N bs bm hdct sn sub ab col dd k0 k1 k2 k3 k5 newId)) (he : h.get? e = some (excO C t0)) (few : rest.length ≤ sizeLine)
    (hq : ∀ h' t1, (∀ b o, b ≠ e → h.get? b = some o → h'.get? b = some o) → h'.get? e = some (excO C t1) → R (.ok (.ret .none)) ⟨h', g, d, t, os⟩) : codeAny (model prog w) A (.call (.builtin iId) ⟨.ref e :: rest, []⟩) R ⟨h, g, d, t, os⟩ := by
  refine codeAny_call_builtin F.slot.plain F.entry (may_init F has hC he rfl ?_)
  wp_walk
  refine hq _ h.objs.size (fun b o hb ho => (Heap.get?_update_other _ _ (Ne.symm hb)).trans (Heap.get?_push_of_some _ ho)) ?_
  rw [Heap.get?_update_self _ (Heap.get?_push_of_some _ he) rfl]
  rfl
/-- x.name = v on an error that has no dict as yet -/
theorem first_field {K : PySem.W.Frag} {name : Str} {tk : Tok} {v : Value} {x C : Addr} {fv : Array Value} {cd : ClassData} (X : K.In h) (hx : h.get? x = some { cls := .ref C, data := .fields fv }) (hcd : PySem.W.clsIn K C = some cd)
    (pass : ∀ self : Value, refuseLoop self "__setattr__" cd.mro = pure ()) (obj : cd.mro.contains (.type "object") = true) (ne : cd.mro.isEmpty = false) (hh : cd.hasDict = true) (ha : PySem.W.findIn K (.ref C) name = some none)
    (hq : ∀ h' tk' dx, (∀ b o, b ≠ x → h.get? b = some o → h'.get? b = some o) → h.objs.size ≤ dx → dx ≠ x → h'.get? x = some { cls := .ref C, dict := some dx, data := .fields fv } → h'.Ns1 dx (fun y => if y = name then some v else none) → R (.ok (.ret .none)) ⟨h', g, d, tk', os⟩) :
    codeAny (model prog w) A (.call (.builtin "object.__setattr__") ⟨[.ref x, .str name tk, v], []⟩) R ⟨h, g, d, t, os⟩ := by
  have I : PySem.W.InstAt h x { cls := .ref C, data := .fields fv } C none := ⟨hx, rfl, rfl, trivial⟩
  have SF := F.store_object
  have xs : x ≠ h.objs.size := Nat.ne_of_lt (Heap.lt_size hx)
  have isO : PySem.W.Looks (model prog w) h (isInstance (.ref x) (.type "object")) true := I.type.andThen (PySem.W.looks_mroIn X (by unfold PySem.W.mroIn; rw [hcd, Option.bind_some, if_neg (by rw [ne]; decide), obj]))
  refine codeAny_call_builtin SF.slot.plain SF.entry (@PySem.W.check_slot (model prog w) _ _ ⟨h, g, d, t, os⟩ "object.__setattr__" "object" "__setattr__" (.ref x) [.str name tk, v] [] _ SF.kind SF.split isO (SF.args (.ref x) (.str name tk) v) ?_)
  have L1 : PySem.W.Looks (model prog w) h (mroOf (.ref C)) cd.mro := (PySem.W.looks_clsIn X hcd).andThen .now
  have L2' : PySem.W.Looks (model prog w) h (storeTaker? none) none := .now
  have L4 : PySem.W.Looks (model prog w) h (classData C) cd := PySem.W.looks_clsIn X hcd
  rw [PySem.W.osa_eq, refuse_eq]
  refine wpAny_bind (wpAny_bind (I.type.at (wpAny_bind (L1.at ?_))))
  rw [pass]
  refine wpAny_pure (wpAny_bind (I.type.at (wpAny_bind ((PySem.W.looks_findIn X ha).at (wpAny_bind (L2'.at ?_))))))
  show wpAny _ _ (storeInOwnDict (.ref x) (.ref C) (.str name tk) name v false) _ _ _
  obtain ⟨nm, bs, mro, ns, qn, hd, sn, sb, ab, col, del⟩ := cd
  dsimp only at hh
  subst hh
  unfold storeInOwnDict ownDictForStores
  repeat (first
    | with_reducible refine store_in_new ?_ ?_
    | with_reducible refine wpAny_loadPart_at hx ?_
    | with_reducible refine L4.at ?_
    | wp_step)
  · exact ⟨_, #[], _, (Heap.get?_update_ne _ _ _ _ xs.symm).trans (Heap.get?_push_at rfl rfl), rfl, fun e he => absurd he (by simp), fun _ => rfl⟩
  · intro h' tk' hn' hs
    have x1 : (h.push { cls := .type "dict", data := .dict #[] }).get? x = some { cls := .ref C, data := .fields fv } := Heap.get?_push_of_some _ hx
    refine hq h' tk' h.objs.size (fun b o hb ho => (hs.2 b (Nat.ne_of_lt (Heap.lt_size ho))).trans ((Heap.get?_update_ne _ _ _ _ hb).trans (Heap.get?_push_of_some _ ho))) (Nat.le_refl _) xs.symm ?_ hn'
    exact (hs.2 x xs).trans (Heap.get?_update_self _ x1 rfl)
end
end ExG
/-! ### an error of the text's own, over an own base -/
/-- what is written of the class B, whose __init__ is asked for by the class's name x -/
structure OwnBase (K : PySem.W.Frag) (mg : Str → Option Value) (x : Str) (B : Addr) : Prop where
  nam : mg x = some (.ref B)
  gta : PySem.W.specialIn K (.ref B) "__getattribute__" = some (some (.builtin "type.__getattribute__"))
  typ : PySem.W.typeIn K (.ref B) = some (.type "type")
  rds : PySem.W.readsIn K B (.type "type") = true
  ini : PySem.W.findCls K (.ref B) (.type "type") "__init__" = some (.val (.builtin "ValueError.__init__"))
section
variable {X : Cx} {e : Expr} {es : List Expr} {ta : TA} {p1 p2 pos : Pos}
theorem pe_baseI {pl : Sem Bool} {x : Str} {B : Addr} (vis : Gl X x) (T : OwnBase X.K X.mg x B) (arg : PA X (e :: es) ta)
    (run : eval (.Call (.Attribute (.Name x p1) "__init__" p2) (e :: es) [] pos) X.env = (do
      let cv ← eval (.Name x p1) X.env
      standAt p2.atName
      let (g, hd) ← holding [cv] (getMethod cv "__init__" pl)
      callWith pos g hd (backTo pos (starEach (e :: es) X.env)) (backToKw pos (keywordEach [] X.env))) := by rfl)
    (dbg : (x == ("__debug__" : Str)) = false := by decide) (one : starEach (e :: es) X.env = (false, eval e X.env) :: starEach es X.env := by rfl)
    (nos : (backTo pos (starEach es X.env)).any (·.1) = false := by rfl) : PE X (.Call (.Attribute (.Name x p1) "__init__" p2) (e :: es) [] pos) (tVeI X.K ta) := ⟨fun pins s σ H Q I h => by
  obtain ⟨m, fr⟩ := I.fr
  have kin := I.ok.mod.kin
  refine PySem.W.methodCall_KW (ld_glob I vis T.nam (PySem.W.method_of_cls fr kin T.gta (PySem.W.cls_val fr kin T.typ T.rds T.ini (by decide +kernel) ?_)) dbg) run
  exact PyProof.Rows.callWith_method1 (thn (arg.run pos pins _ σ H _ (I.tok _) h) fun us s1 z => by
    obtain ⟨vs, H1, I1, r1, a, C, ws, ev, hl, T1, ea, q⟩ := z
    subst ev
    cases r1 with
    | @cons _ u0 _ ur ra rw' =>
      cases (show u0 = Value.ref a from ra)
      have hlen : ur.length ≤ sizeLine := by rw [← Paired.length rw', sizeLine_eq]; omega
      exact oinit_ok T1 I1 ea hlen fun s' J => ⟨V.non, H1, J, rfl, q⟩) one nos⟩
end
/-- C(e, ..) in a try: what leaves __init__ goes to the wish at the present slots -/
def tMakeS (C : Addr) (sp : Sp) (E : L2.St → XK) (t : TA) : TE := fun σ H Q => t σ H fun vs H1 => ∀ x dx, H1 x = none → H1 dx = none → dx ≠ x → sp (.ref x :: vs) (upd (upd H1 dx (.own x)) x (.ins C dx [])) (fun v H2 => v = .non ∧ Q (.ref x) H2) (E σ)
theorem pe_makeS {X : Cx} {CX : CXT} {C f : Addr} {fd : FuncData} {k : Nat} {ps : List Str} {sp : Sp} {x : Str} {p pos : Pos} {e : Expr} {es : List Expr} {t : TA} {E : L2.St → XK} (M : Mk X.K C f) (F : FnOk X.prog X.w X.K X.mg X.base CX k f fd ps sp)
    (hr : Room (k + 1) X.A) (hg : Gl X x) (hm : X.mg x = some (.ref C)) (hb : Binds X.K fd ps []) (way : ∀ σ, PassesAt CX X σ (E σ)) (ha : PA X (e :: es) t) (hdb : (x == ("__debug__" : Str)) = false := by decide)
    (he : starEach (e :: es) X.env = (false, eval e X.env) :: starEach es X.env := by rfl) (hpl : (backTo pos (starEach es X.env)).any (·.1) = false := by rfl) : PE X (.Call (.Name x p) (e :: es) [] pos) (tMakeS C sp E t) := ⟨fun pins s σ H Q I h => by
  refine wpAny_Call_Name_kw (ld_glob I hg hm (PySem.W.callWith_K (h₀ := X.base) I.ok.mod.kin M.kp (thn (ha.run pos pins s σ H _ I h) fun us s1 z => ?_) he hpl) hdb)
  obtain ⟨vs, H1, I1, r, q⟩ := z
  let n := s1.heap.objs.size
  have here := q (n + 1) n (I1.hok.fresh (Nat.le_succ _)) (I1.hok.fresh (Nat.le_refl _)) (Nat.ne_of_lt (Nat.lt_succ_self _))
  have made := Inv.made (C := C) I1
  have rs : Vals (V.ref (n + 1) :: vs) (Value.ref (n + 1) :: us) := .cons rfl r
  have many : (Value.ref (n + 1) :: us).length = ps.length := rs.length.symm.trans (F.len _ _ _ _ here)
  have bind := hb ⟨_, s1.gens, s1.drawn, s1.toks, s1.os⟩ (Value.ref (n + 1) :: us) made.kIn (by rw [List.append_nil]; exact many)
  rw [List.append_nil] at bind
  refine ⟨I1.kIn, wpAny_call (make_map (f := f) I1.kIn M.makes M.init (beq_iff_eq.mp M.fn) (codeAny_mono (F.run _ X.stack _ _ ⟨Value.ref (n + 1) :: us, []⟩ (Value.ref (n + 1) :: us) _ _ (E σ) (hr.make C us []) (made.env0.make C us []) bind rs here) fun r s' z => ?_))⟩
  cases r with
  | error er => exact way σ pins _ _ er s' made z
  | ok fl =>
    cases fl with
    | ret u =>
      obtain ⟨v, H', J, rv, ev, q3⟩ := made.after z
      subst ev
      exact ⟨rv, V.ref (n + 1), H', J, rfl, q3⟩
    | next => exact False.elim z
    | brk => exact False.elim z
    | cont => exact False.elim z⟩
/-- a def that may raise, called where it doesn't -/
theorem pass00 {X : Cx} : Passes (L2.CX X.prog X.w) X (fun _ _ _ => False) := passes_call takes0 (fun _ _ _ _ h => h)
/-! ### isinstance of a caught error that has its dict -/
structure ErrC (K : PySem.W.Frag) (C : Addr) : Prop where
  cl : (PySem.W.clsIn K C).isSome = true
  ga : PySem.W.findIn K (.ref C) "__getattribute__" = some (some (.builtin "BaseException.__getattribute__"))
  gt : PySem.W.findIn K (.ref C) "__getattr__" = some none
  be : PySem.W.subIn K (.ref C) (.type "BaseException") = some true
  ca : PySem.W.findIn K (.ref C) "__class__" = some (some (.builtin "object.__class__"))
  cn : PySem.W.specialIn K (.builtin "object.__class__") "__get__" = some (some (.builtin "getset_descriptor.__get__"))
  tk : PySem.W.takesIn K (.builtin "object.__class__") = some true
  mo : PySem.W.mroIn K C (.type "object") = some true
def rIsD (K : PySem.W.Frag) (D a : Addr) (cls : Value) (d : Option Addr) : List V → Hp → VK → Prop := fun xs H Q => ∃ (c : V) (cv : Value) (b : Bool) (dd : Addr) (fs : List (Str × V)), xs = [.ref a, c] ∧ (∀ u, RelV c u → u = cv) ∧ cls = .ref D ∧ d = some dd ∧ H dd = some (.xd fs) ∧ PySem.W.kitOne K (.ref D) cv = some b ∧ Q (.bl b) H
theorem call_isD {X : Cx} {a D : Addr} {cls : Value} {d : Option Addr} {oe : Obj} {pn : List (Addr × Obj)} (T : ErrC X.K D) (hz : Zc cls d oe) (hf : ∃ vs, oe.data = .fields vs) : CallR (X.suite a ((a, oe) :: pn)) (.builtin "isinstance") (rIsD X.K D a cls d) := by
  intro pins s σ H xs us Q I r h
  obtain ⟨c, cv, b, dd, fs, rfl, hcv, rfl, rfl, hd, e, q⟩ := h
  obtain ⟨u1, u2, rfl, r1, r2⟩ := vals2 r
  cases (show u1 = Value.ref a from r1)
  cases hcv _ r2
  obtain ⟨hget, _⟩ := I.pin (a, oe) (List.mem_append_left _ List.mem_cons_self)
  obtain ⟨vs, hv⟩ := hf
  obtain ⟨mA, hns, _⟩ := (show ObjOk X.prog X.w H s.heap dd (.xd fs) from I.hok dd _ hd)
  obtain ⟨od, ho, _⟩ := lookIn_ns hns
  have J : PySem.W.InstAt s.heap a oe D (some od) := ⟨hget, hz.1, by unfold PySem.W.notCls; rw [hv] <;> rfl, by rw [hz.2]; exact ho⟩
  exact PySem.W.kia_one (PySem.W.kitx_exc T.cl T.ga T.gt T.be T.ca T.cn T.tk T.mo) I.kIn J e (fun z => nomatch z) fun tk => ⟨.bl b, H, I.kept (t' := tk) fun _ _ z => z, rfl, q⟩
/-! ### operators by own defs -/
section
variable {X : Cx} {n : Nat} {C g : Addr} {fd : FuncData} {ps : List Str} {sp : Sp}
def rOwnI (C : Addr) (sp : Sp) : R2 := fun x y H Q => ∃ a b dx dy fs gs, x = .ref a ∧ y = .ref b ∧ H a = some (.ins C dx fs) ∧ H b = some (.ins C dy gs) ∧ sp [x, y] H Q E0
theorem op_ownI {op : CmpOp} (hs : PySem.W.findIn X.K (.ref C) (cmpInfo op).2.1 = some (some (.ref g))) (hf : PySem.W.isFn X.K (.ref g) = true) (F : FnOk X.prog X.w X.K X.mg X.base CX0 n g fd ps sp) (hb : Binds X.K fd ps []) (hr : Room n X.A)
    (hop : ∀ a b, compareOp op a b = richCompare op a b := by intro _ _; rfl) : OpR X (compareOp op) (rOwnI C sp) := by
  intro pins s σ H x y v u Q I rx ry h
  obtain ⟨a, b, dx, dy, fs, gs, rfl, rfl, ea, eb, q⟩ := h
  cases (show v = Value.ref a from rx)
  cases (show u = Value.ref b from ry)
  obtain ⟨mA, J, _⟩ := ins_get I.hok ea
  obtain ⟨mB, J', _⟩ := ins_get I.hok eb
  obtain ⟨od, J, _⟩ := J.look
  obtain ⟨od', J', _⟩ := J'.look
  obtain ⟨m, hF⟩ := I.fr
  rw [hop]
  refine PySem.W.cmp_K (op := op) (tb := .ref C) hr.units0 hF I.ok.mod.kin J J'.type (by simp [PySem.W.notFirst]) hs hf ?_
  exact wpAny_mono (run_fn (vs := [.ref a, .ref b]) F hr hb .nil pass0 I (.cons rfl (.cons rfl .nil)) q) (fun w s' ⟨z', H', I', rz, qz⟩ => SlX.cmpback rz ⟨z', H', I', rz, qz⟩) fun _ _ x => x
end
/-! ### errors as values -/
/-- what a family of error classes has in common: who makes them (nB, newId), whose __init__ is asked (iB, iId), the chain above the class -/
structure Fam where
  nB : String
  newId : String
  iB : String
  iId : String
  bm : List Value
structure FamOk (f : Fam) : Prop where
  new : ∃ nI bmB, ExcBaseFacts f.nB f.newId nI bmB
  cha : ExG.Chain f.bm f.nB
  ini : ExG.Ini f.iB f.iId
  has : f.bm.contains (.type f.iB) = true
  pas : ∀ self : Value, refuseLoop self "__setattr__" f.bm = pure ()
  obj : f.bm.contains (.type "object") = true
structure OexG (K : PySem.W.Frag) (f : Fam) (C : Addr) : Prop where
  cls : ∃ nm q N bs sn sub ab col dd k0 k1 k2 k3 k5, K.lookup C = some (excClassObj nm q C N bs f.bm true sn sub ab col dd k0 k1 k2 k3 k5 f.newId)
  sa : PySem.W.findIn K (.ref C) "__setattr__" = some (some (.builtin "object.__setattr__"))
  kC : PySem.W.keepIn K (.ref C) = true
/-- the error of the class C that keeps v under f stands at a -/
def ErrAt (H : Hp) (C : Addr) (f : Str) (a : Addr) (v : V) : Prop := ∃ d, H a = some (exo a C (some d)) ∧ H d = some (exd d [(f, v)])
theorem ErrAt.ext {H H' : Hp} {C a : Addr} {f : Str} {v : V} (h : ErrAt H C f a v) (s : Same H H') : ErrAt H' C f a v := by
  obtain ⟨d, e1, e2⟩ := h
  exact ⟨d, s _ _ e1, s _ _ e2⟩
section
variable {X : Cx} {pins : List (Addr × Obj)} {σ : L2.St} {H : Hp} {s : Shared} {a C : Addr} {fam : Fam} {f : Str} {y : V} {u : Value} {E : Value → Shared → Prop} {A : Around}
theorem init_in {us : List Value} {Q : Value → Shared → Prop} (F : FamOk fam) (T : OexG X.K fam C) (I : Inv X pins σ H s) (e : H a = some (exo a C none)) (few : us.length ≤ sizeLine) (h : ∀ s', Inv X pins σ H s' → Q .none s') :
    wpAny (model X.prog X.w) X.A (call (.builtin fam.iId) (.ref a :: us)) Q E s := by
  obtain ⟨nm, q, N, bs, sn, sub, ab, col, dd, k0, k1, k2, k3, k5, hC⟩ := T.cls
  obtain ⟨t1, ho⟩ := exo_at I.hok e
  obtain ⟨hp, g, d, t, os⟩ := s
  refine wpAny_call (ExG.init_at F.ini F.has (I.kIn _ _ hC) ho few fun h' t2 k hx => ?_)
  have same : upd H a (exo a C none) = H := by
    funext b
    by_cases z : b = a
    · rw [z, upd_same, e]
    · rw [upd_ne z]
  have J := I.write (t' := t) (x := a) (e := a) (o := exo a C none) (by rw [e]; exact True.intro) (.inl rfl) k ⟨_, hx⟩ (exo_ok hx)
  rw [same] at J
  exact h _ J
theorem field_in {Q : Unit → Shared → Prop} (F : FamOk fam) (T : OexG X.K fam C) (I : Inv X pins σ H s) (e : H a = some (exo a C none)) (no : PySem.W.findIn X.K (.ref C) f = some none) (ry : RelV y u)
    (h : ∀ dx s', H dx = none → dx ≠ a → Inv X pins σ (upd (upd H dx (exd dx [(f, y)])) a (exo a C (some dx))) s' → Q () s') : wpAny (model X.prog X.w) A (setAttr (.ref a) f u) Q E s := by
  obtain ⟨nm, q, N, bs, sn, sub, ab, col, dd, k0, k1, k2, k3, k5, hC⟩ := T.cls
  have hcl : PySem.W.clsIn X.K C = some { name := nm, bases := bs, mro := .ref C :: fam.bm, ns := N, qualname := q, hasDict := true, slotNames := sn, subclasses := sub, abstract := ab, collection := col, hasDel := false } := by
    unfold PySem.W.clsIn
    rw [hC] <;> rfl
  obtain ⟨t1, ho⟩ := exo_at I.hok e
  obtain ⟨hp, g, d, t, os⟩ := s
  refine PySem.W.set_plain I.kIn (ox := { cls := .ref C, dict := none, data := .fields #[.ref t1, .none, .none, .none, .bool false, .none] }) (od := none) ⟨ho, rfl, rfl, trivial⟩ T.sa ?_
  refine ExG.first_field I.kIn ho hcl (fun self => (refuseLoop_ref self _ C fam.bm).trans (F.pas self)) (by show (Value.ref C :: fam.bm).contains _ = true; rw [List.contains_cons, F.obj, Bool.or_true]) rfl rfl no (fun h' tk' dx k dn dne hx hn => ?_)
  have free : H dx = none := I.hok.fresh dn
  have low : ∀ {b : Addr} {o : Obj}, hp.get? b = some o → b ≠ dx := fun {b o} z => Nat.ne_of_lt (Nat.lt_of_lt_of_le (Heap.lt_size z) dn)
  have other : ∀ {b : Addr}, H b = none → b ≠ a := fun {b} n z => by
    rw [z, e] at n
    cases n
  have U : Un X.fs [] H (upd (upd H dx (exd dx [(f, y)])) a (exo a C (some dx))) hp h' := {
    keep := fun b o z n _ _ => k b o (other n) z
    slot := fun b o z n _ _ => ⟨o.slots, k b o (other n) z⟩
    free := fun b o z n _ => by
      rw [upd_ne (other n), upd_ne (low z)]
      exact n
    there := fun b o z _ => by
      by_cases hb : b = a
      · exact ⟨_, by rw [hb]; exact hx⟩
      · exact ⟨o, k b o hb z⟩
    tups := fun b xs z => by
      rw [upd_ne (at_ne e z exo_tup), upd_ne (ne_of_none z free)]
      exact z
    frzs := fun b o v z => by
      rw [upd_ne (at_ne e z exo_frz), upd_ne (ne_of_none z free)]
      exact z
    tbls := fun b ps z => ⟨#[], by
      rw [upd_ne (at_ne e z exo_tbl), upd_ne (ne_of_none z free), z]
      simp⟩ }
  refine h dx _ free dne (I.un (t' := tk') U fun b o z => ?_)
  by_cases hb : b = a
  · subst hb
    rw [upd_same] at z
    cases z
    exact exo_ok hx
  · rw [upd_ne hb] at z
    by_cases hd : b = dx
    · subst hd
      rw [upd_same] at z
      cases z
      exact exd_ok hn (relO_put (fs := []) ry fun g => True.intro)
    · rw [upd_ne hd] at z
      refine (I.hok b o z).stay (fun c v hc w => k c v ?_ w) (fun c hc => ?_) (fun c xs hc => ?_)
      · rcases hc with hc | hc
        · rw [hc]
          exact hb
        · exact at_ne e hc exo_own
      · rw [upd_ne (at_ne e hc exo_own), upd_ne (ne_of_none hc free)]
        exact hc
      · rw [upd_ne (at_ne e hc exo_tup), upd_ne (ne_of_none hc free)]
        exact hc
end
/-- the base's __init__(self, ..) -/
def tIni (K : PySem.W.Frag) (fam : Fam) (ta : TA) : TE := fun σ H Q => ta σ H fun vs H1 => ∃ (a C : Addr) (ws : List V), vs = .ref a :: ws ∧ ws.length ≤ 1000 ∧ OexG K fam C ∧ H1 a = some (exo a C none) ∧ Q .non H1
/-- self.f = e, the first one -/
def tFst (K : PySem.W.Frag) (fam : Fam) (f : Str) (to te : TE) : TS := fun D σ H => te σ H fun y H1 => to σ H1 fun x H2 => ∃ a C : Addr, x = .ref a ∧ OexG K fam C ∧ PySem.W.findIn K (.ref C) f = some none ∧ H2 a = some (exo a C none) ∧
  ∀ dx, H2 dx = none → dx ≠ a → D.nx σ (upd (upd H2 dx (exd dx [(f, y)])) a (exo a C (some dx)))
section
variable {X : Cx} {e o : Expr} {es : List Expr} {ta : TA} {to te : TE} {f : Str} {p p' p1 p2 pos : Pos} {fam : Fam}
theorem arg_ini {pins : List (Addr × Obj)} {σ : L2.St} {H : Hp} {s : Shared} {Q : VK} (F : FamOk fam) (arg : PA X (e :: es) ta) (I : Inv X pins σ H s) (h : tIni X.K fam ta σ H Q) (one : starEach (e :: es) X.env = (false, eval e X.env) :: starEach es X.env) (nos : (backTo pos (starEach es X.env)).any (·.1) = false) :
    wpAny (model X.prog X.w) X.A (callWith pos (Value.builtin fam.iId) [] (backTo pos (starEach (e :: es) X.env)) []) (EP X pins σ Q) X.xe s :=
  PyProof.Rows.callWith_method1 (thn (arg.run pos pins _ σ H _ I h) fun us s1 z => by
    obtain ⟨vs, H1, I1, r1, a, C, ws, ev, hl, T1, ea, q⟩ := z
    subst ev
    cases r1 with
    | @cons _ u0 _ ur ra rw' =>
      cases (show u0 = Value.ref a from ra)
      have few : ur.length ≤ sizeLine := by rw [← Paired.length rw', sizeLine_eq]; omega
      exact init_in F T1 I1 ea few fun s' J => ⟨V.non, H1, J, rfl, q⟩) one nos
theorem pe_iniOwn {pl : Sem Bool} {x : Str} {B : Addr} (F : FamOk fam) (own : fam.iId = "ValueError.__init__") (vis : Gl X x) (T : OwnBase X.K X.mg x B) (arg : PA X (e :: es) ta)
    (run : eval (.Call (.Attribute (.Name x p1) "__init__" p2) (e :: es) [] pos) X.env = (do
      let cv ← eval (.Name x p1) X.env
      standAt p2.atName
      let (g, hd) ← holding [cv] (getMethod cv "__init__" pl)
      callWith pos g hd (backTo pos (starEach (e :: es) X.env)) (backToKw pos (keywordEach [] X.env))) := by rfl)
    (dbg : (x == ("__debug__" : Str)) = false := by decide) (one : starEach (e :: es) X.env = (false, eval e X.env) :: starEach es X.env := by rfl)
    (nos : (backTo pos (starEach es X.env)).any (·.1) = false := by rfl) : PE X (.Call (.Attribute (.Name x p1) "__init__" p2) (e :: es) [] pos) (tIni X.K fam ta) := ⟨fun pins s σ H Q I h => by
  obtain ⟨m, fr⟩ := I.fr
  have kin := I.ok.mod.kin
  refine PySem.W.methodCall_KW (ld_glob I vis T.nam (PySem.W.method_of_cls fr kin T.gta (PySem.W.cls_val fr kin T.typ T.rds T.ini (by decide +kernel) ?_)) dbg) run
  have z := arg_ini (pos := pos) F arg (I.tok (s.toks + 1)) h one nos
  rw [own] at z
  exact z⟩
theorem pe_iniBlt {pl : Sem Bool} {x : Str} (F : FamOk fam) (vis : Gl X x) (hm : X.mg x = none) (hv : bootBuiltins x = some (.type fam.iB)) (ty : typeOf (.type fam.iB) = pure (.type "type")) (stub : Manifest.isStub fam.iB = false)
    (fi : PySem.W.findCls X.K (.type fam.iB) (.type "type") "__init__" = some (.val (.builtin fam.iId))) (hand : PySem.W.handedIn (.builtin fam.iId) = true) (arg : PA X (e :: es) ta)
    (run : eval (.Call (.Attribute (.Name x p1) "__init__" p2) (e :: es) [] pos) X.env = (do
      let cv ← eval (.Name x p1) X.env
      standAt p2.atName
      let (g, hd) ← holding [cv] (getMethod cv "__init__" pl)
      callWith pos g hd (backTo pos (starEach (e :: es) X.env)) (backToKw pos (keywordEach [] X.env))) := by rfl)
    (nam : x ≠ "__name__" := by decide) (dbg : (x == ("__debug__" : Str)) = false := by decide) (one : starEach (e :: es) X.env = (false, eval e X.env) :: starEach es X.env := by rfl)
    (nos : (backTo pos (starEach es X.env)).any (·.1) = false := by rfl) : PE X (.Call (.Attribute (.Name x p1) "__init__" p2) (e :: es) [] pos) (tIni X.K fam ta) := ⟨fun pins s σ H Q I h => by
  obtain ⟨m, fr⟩ := I.fr
  refine PySem.W.methodCall_KW (ld_blt I vis hm hv (PySem.W.method_type fr I.ok.mod.kin ty stub fi hand ?_) nam dbg) run
  exact arg_ini F arg (I.tok (s.toks + 1)) h one nos⟩
theorem ps_fst (F : FamOk fam) (ho : PE X o to) (he : PE X e te) (hs : swapsWith e (some (.Attribute o f p')) pos.line X.env = pure false := by rfl) : PS X (.Assign [.Attribute o f p'] e pos) (tFst X.K fam f to te) := ⟨fun pins s σ H D I h =>
  plainObj_wpAny_Assign_Attribute (thn (he.run pins s σ H _ I h) fun v s1 ⟨y, H1, I1, r1, q1⟩ => thn (ho.run pins s1 σ H1 _ I1 q1) fun u s2 z => by
    obtain ⟨x, H2, I2, r2, a, C, ex, T, no, ea, q⟩ := z
    subst ex
    cases (show u = Value.ref a from r2)
    exact field_in F T I2 ea no r1 fun dx s' n ne J => ⟨σ, _, J, q dx n ne⟩) hs⟩
end
/-- an error of the class C that keeps its argument under the name f: what its __init__ leaves -/
def spErr (C : Addr) (f : Str) : Sp := fun vs H Q _ => ∃ a v, vs = [.ref a, v] ∧ H a = some (exo a C none) ∧ ∀ d, H d = none → d ≠ a → Q .non (upd (upd H d (exd d [(f, v)])) a (exo a C (some d)))
section
variable {X : Cx} {pins : List (Addr × Obj)} {σ : L2.St} {H : Hp} {s : Shared} {C fI : Addr} {fam : Fam} {f : Str} {k : Nat} {fd : FuncData} {ps : List Str}
/-- what is at hand of a class of errors -/
structure ErrM (P : Program) (w : World) (K : PySem.W.Frag) (mg : Str → Option Value) (base : Heap) (fam : Fam) (C fI : Addr) (f : Str) (k : Nat) (fd : FuncData) (ps : List Str) : Prop where
  oex : OexG K fam C
  ini : PySem.W.findIn K (.ref C) "__init__" = some (some (.ref fI))
  typ : PySem.W.typeIn K (.ref fI) = some (.type "function")
  fn : FnOk P w K mg base CX0 k fI fd ps (spErr C f)
theorem run_err {us : List Value} {kw : List (Str × Value)} {v : V} {u : Value} {Q : VK} (F : FamOk fam) (T : ErrM X.prog X.w X.K X.mg X.base fam C fI f k fd ps) (hr : Room (k + 1) X.A) (I : Inv X pins σ H s) (ru : RelV v u) (few : us.length ≤ sizeLine)
    (bind : ∀ (s : Shared) (x : Addr), X.K.In s.heap → BindsTo s fd ⟨.ref x :: us, kw⟩ (ps.zip [.ref x, u])) (q : ∀ a H', H a = none → Same H H' → ErrAt H' C f a v → Q (.ref a) H') : wpAny (model X.prog X.w) X.A (call (.ref C) us kw) (EP X pins σ Q) X.xe s := by
  obtain ⟨nm, qn, N, bs, sn, sub, ab, col, dd, k0, k1, k2, k3, k5, hC⟩ := T.oex.cls
  obtain ⟨nI, bmB, FB⟩ := F.new
  obtain ⟨hp, g, dr, tk, os⟩ := s
  have up : hp.objs.size ≤ hp.objs.size + 1 := Nat.le_succ _
  have hn : H (hp.objs.size + 1) = none := I.hok.fresh up
  have keep : ∀ b o, hp.get? b = some o → ((hp.push (PySem.W.kdv_tup us)).push (PySem.HandSPX.excO C hp.objs.size)).get? b = some o := fun b o e => Heap.get?_push_of_some _ (Heap.get?_push_of_some _ e)
  have here : ((hp.push (PySem.W.kdv_tup us)).push (PySem.HandSPX.excO C hp.objs.size)).get? (hp.objs.size + 1) = some (PySem.HandSPX.excO C hp.objs.size) := by heap_get
  have I2 : Inv X pins σ (upd H (hp.objs.size + 1) (exo (hp.objs.size + 1) C none)) ⟨(hp.push (PySem.W.kdv_tup us)).push (PySem.HandSPX.excO C hp.objs.size), g, dr, tk, os⟩ :=
    I.laid (t' := tk) (a := hp.objs.size + 1) (o := exo (hp.objs.size + 1) C none) (h' := (hp.push (PySem.W.kdv_tup us)).push (PySem.HandSPX.excO C hp.objs.size)) keep up (exo_ok here)
  have rs : Vals [V.ref (hp.objs.size + 1), v] [Value.ref (hp.objs.size + 1), u] := .cons rfl (.cons ru .nil)
  have pr : spErr C f [.ref (hp.objs.size + 1), v] (upd H (hp.objs.size + 1) (exo (hp.objs.size + 1) C none)) (fun w H2 => w = .non ∧ Q (.ref (hp.objs.size + 1)) H2) E0 := by
    refine ⟨_, v, rfl, upd_same, fun d nd nda => ⟨rfl, q _ _ hn (fun b o e => ?_) ⟨d, upd_same, by rw [upd_ne nda]; exact upd_same⟩⟩⟩
    have nd0 : H d = none := by rw [upd_ne nda] at nd; exact nd
    rw [upd_ne (ne_of_none e hn), upd_ne (ne_of_none e nd0), upd_ne (ne_of_none e hn)]
    exact e
  refine wpAny_call (ExG.call_at FB F.cha (I.kIn _ _ hC) (PySem.W.looks_findIn I.kIn T.ini) (fun self => PySem.W.bind_fn I.kIn self T.typ) few
    (codeAny_mono (T.fn.run _ X.stack _ _ ⟨Value.ref (hp.objs.size + 1) :: us, kw⟩ [Value.ref (hp.objs.size + 1), u] _ _ E0 (hr.make C us kw) (I2.env0.make C us kw) (bind _ _ I2.kIn) rs pr) fun r s' z => ?_))
  cases r with
  | error er => exact z.elim
  | ok fl =>
    cases fl with
    | ret w =>
      obtain ⟨z', H', J, rz, ez, qz⟩ := I2.after z
      subst ez
      exact ⟨rz, V.ref (hp.objs.size + 1), H', J, rfl, qz⟩
    | next => exact False.elim z
    | brk => exact False.elim z
    | cont => exact False.elim z
end
/-- C(e) or C(f = e), a new error as a value -/
def tErr (C : Addr) (f : Str) (ta : TA) : TE := fun σ H Q => ta σ H fun vs H1 => ∃ v, vs = [v] ∧ ∀ a H', H1 a = none → Same H1 H' → ErrAt H' C f a v → Q (.ref a) H'
section
variable {X : Cx} {C fI : Addr} {fam : Fam} {x f : Str} {k : Nat} {fd : FuncData} {ps : List Str} {p pos kpos : Pos} {e o : Expr} {es : List Expr} {kws : List Keyword} {ta : TA} {te : TE}
theorem pe_errP (F : FamOk fam) (T : ErrM X.prog X.w X.K X.mg X.base fam C fI f k fd ps) (hr : Room (k + 1) X.A) (vis : Gl X x) (hm : X.mg x = some (.ref C)) (bind : ∀ (s : Shared) (y : Addr) (u : Value), X.K.In s.heap → BindsTo s fd ⟨[.ref y, u], []⟩ (ps.zip [.ref y, u])) (ha : PA X (e :: es) ta)
    (dbg : (x == ("__debug__" : Str)) = false := by decide) (one : starEach (e :: es) X.env = (false, eval e X.env) :: starEach es X.env := by rfl) (nos : (backTo pos (starEach es X.env)).any (·.1) = false := by rfl) : PE X (.Call (.Name x p) (e :: es) [] pos) (tErr C f ta) := ⟨fun pins s σ H Q I h => by
  refine wpAny_Call_Name_kw (ld_glob I vis hm (PySem.W.callWith_K (h₀ := X.base) I.ok.mod.kin T.oex.kC (thn (ha.run pos pins s σ H _ I h) fun us s1 z => ?_) one nos) dbg)
  obtain ⟨vs, H1, I1, r, v, ev, q⟩ := z
  subst ev
  obtain ⟨u, eu, ru⟩ := r.one
  subst eu
  exact ⟨I1.kIn, run_err (us := [u]) (kw := []) F T hr I1 ru (by show 1 ≤ sizeLine; rw [sizeLine_eq]; omega) (fun s y X1 => bind s y u X1) q⟩⟩
theorem pe_errK (F : FamOk fam) (T : ErrM X.prog X.w X.K X.mg X.base fam C fI f k fd ps) (hr : Room (k + 1) X.A) (vis : Gl X x) (hm : X.mg x = some (.ref C)) (bind : ∀ (s : Shared) (y : Addr) (u : Value), X.K.In s.heap → BindsTo s fd ⟨[.ref y], [(f, u)]⟩ (ps.zip [.ref y, u])) (hkw : PK X kws ta)
    (all : (backToKw pos (keywordEach kws X.env)).all (·.1.isSome) = true := by rfl) (hks : (backToKw pos (keywordEach kws X.env)).filterMap (·.1) = [f] := by rfl) (dbg : (x == ("__debug__" : Str)) = false := by decide)
    (nos : ((backTo pos (starEach [] X.env)).any (·.1) || (backToKw pos (keywordEach kws X.env)).any (·.1.isNone)) = false := by rfl) : PE X (.Call (.Name x p) [] kws pos) (tErr C f ta) := ⟨fun pins s σ H Q I h => by
  refine wpAny_Call_Name_kw (ld_glob I vis hm (PySem.W.callWith_KW0 (h₀ := X.base) I.ok.mod.kin T.oex.kC all (thn (hkw.run pos pins s σ H _ I h) fun us s1 z => ?_) nos) dbg)
  obtain ⟨vs, H1, I1, r, v, ev, q⟩ := z
  subst ev
  obtain ⟨u, eu, ru⟩ := r.one
  subst eu
  refine ⟨I1.kIn, ?_⟩
  rw [hks]
  exact run_err (us := []) (kw := [(f, u)]) F T hr I1 ru (by show 0 ≤ sizeLine; omega) (fun s y X1 => bind s y u X1) q⟩
/-- e.f, e an error as a value -/
def tErrF (K : PySem.W.Frag) (f : Str) (te : TE) : TE := fun σ H Q => te σ H fun x H1 => ∃ a C v, x = .ref a ∧ ErrAt H1 C f a v ∧ XfC K C ∧ PySem.W.findIn K (.ref C) f = some none ∧ Q v H1
theorem err_inst {pins : List (Addr × Obj)} {σ : L2.St} {H : Hp} {s : Shared} {a : Addr} {v : V} (I : Inv X pins σ H s) (h : ErrAt H C f a v) : ∃ ox od, PySem.W.InstAt s.heap a ox C (some od) ∧ ∃ mA : Str → Option Value, (∀ g, RelO (List.lookup g [(f, v)]) (mA g)) ∧ ∀ g, PySem.W.lookIn g od = some (mA g) := by
  obtain ⟨d, e1, e2⟩ := h
  obtain ⟨t1, ho⟩ := exo_at I.hok e1
  obtain ⟨mA, hns, rel⟩ := exd_at I.hok e2
  obtain ⟨od, hd, hl⟩ := lookIn_ns hns
  exact ⟨_, od, ⟨ho, rfl, rfl, hd⟩, mA, rel, hl⟩
theorem pe_errF (he : PE X o te) (hb : attributeBase o f X.env (eval o X.env) = eval o X.env := by rfl) : PE X (.Attribute o f pos) (tErrF X.K f te) := ⟨fun pins s σ H Q I h => by
  refine attr_of hb (thn (he.run pins s σ H _ I h) fun u s1 z => ?_)
  obtain ⟨x, H1, I1, rx, a, C, v, ex, at_, T, no, q⟩ := z
  subst ex
  cases (show u = Value.ref a from rx)
  obtain ⟨ox, od, J, mA, rel, look⟩ := err_inst I1 at_
  have l : List.lookup f [(f, v)] = some v := by simp [List.lookup]
  obtain ⟨u, hu, ru⟩ := RelO.some_of (v := v) (o := mA f) (by rw [← l]; exact rel f)
  exact HandSPX.exc_get I1.kIn J T.ga T.gg T.exC (PySem.W.findObj_own T.hdC no rfl (by rw [look, hu])) (handed_of ru) ⟨v, H1, I1.tok _, ru, q⟩⟩
/-- isinstance of an error as a value -/
def rIsV (K : PySem.W.Frag) : List V → Hp → VK → Prop := fun xs H Q => ∃ (a D : Addr) (f : Str) (v c : V) (cv : Value) (b : Bool), xs = [.ref a, c] ∧ ErrAt H D f a v ∧ ErrC K D ∧ (∀ u, RelV c u → u = cv) ∧ PySem.W.kitOne K (.ref D) cv = some b ∧ Q (.bl b) H
theorem call_isV : CallR X (.builtin "isinstance") (rIsV X.K) := by
  intro pins s σ H xs us Q I r h
  obtain ⟨a, D, f, v, c, cv, b, rfl, at_, T, hcv, e, q⟩ := h
  obtain ⟨u1, u2, rfl, r1, r2⟩ := vals2 r
  cases (show u1 = Value.ref a from r1)
  cases hcv _ r2
  obtain ⟨ox, od, J, _⟩ := err_inst I at_
  exact PySem.W.kia_one (PySem.W.kitx_exc T.cl T.ga T.gt T.be T.ca T.cn T.tk T.mo) I.kIn J e (fun z => nomatch z) fun tk => ⟨.bl b, H, I.tok tk, rfl, q⟩
end
/-! ### the four families -/
def famV (S : Addr) : Fam := ⟨"ValueError", "ValueError.__new__", "ValueError", "ValueError.__init__", [.ref S, .type "ValueError", .type "Exception", .type "BaseException", .type "object"]⟩
def famK : Fam := ⟨"LookupError", "LookupError.__new__", "KeyError", "KeyError.__init__", [.type "KeyError", .type "LookupError", .type "Exception", .type "BaseException", .type "object"]⟩
def famO : Fam := ⟨"OverflowError", "OverflowError.__new__", "OverflowError", "OverflowError.__init__", [.type "OverflowError", .type "ArithmeticError", .type "Exception", .type "BaseException", .type "object"]⟩
def famR : Fam := ⟨"RuntimeError", "RuntimeError.__new__", "RuntimeError", "RuntimeError.__init__", [.type "RuntimeError", .type "Exception", .type "BaseException", .type "object"]⟩
theorem ini_of {B n i : String} {bm : List Value} (F : ExcBaseFacts B n i bm) : ExG.Ini B i := ⟨F.init, F.initEntry, F.initKind, F.initSplit, F.initRow, F.noStar⟩
theorem ini_key : ExG.Ini "KeyError" "KeyError.__init__" := ⟨PyProof.Rows.excClass_KeyError.init, PyProof.Rows.excClass_KeyError.initEntry, PyProof.Rows.excClass_KeyError.initKind, PyProof.Rows.excClass_KeyError.initSplit, PyProof.Rows.excClass_KeyError.initSig, PyProof.Rows.excClass_KeyError.notStar⟩
theorem famV_ok (S : Addr) : FamOk (famV S) where
  new := ⟨_, _, PySem.F.excBase_ValueError⟩
  cha := ⟨by rfl, by rfl, by rfl⟩
  ini := ini_of PySem.F.excBase_ValueError
  has := by rfl
  pas := fun self => (refuseLoop_ref self _ S _).trans (PySem.F.store_ValueError.passes self)
  obj := by rfl
theorem famK_ok : FamOk famK where
  new := ⟨_, _, PySem.F.excBase_LookupError⟩
  cha := ⟨by decide +kernel, by decide +kernel, by decide +kernel⟩
  ini := ini_key
  has := by decide +kernel
  pas := fun self => by kernel_rfl
  obj := by decide +kernel
theorem famO_ok : FamOk famO where
  new := ⟨_, _, PySem.F.excBase_OverflowError⟩
  cha := ⟨by decide +kernel, by decide +kernel, by decide +kernel⟩
  ini := ini_of PySem.F.excBase_OverflowError
  has := by decide +kernel
  pas := fun self => by kernel_rfl
  obj := by decide +kernel
theorem famR_ok : FamOk famR where
  new := ⟨_, _, PySem.F.excBase_RuntimeError⟩
  cha := ⟨by decide +kernel, by decide +kernel, by decide +kernel⟩
  ini := ini_of PySem.F.excBase_RuntimeError
  has := by decide +kernel
  pas := fun self => by kernel_rfl
  obj := by decide +kernel
/-! ### the classes of errors -/
abbrev sBadLabel : Stmt := inClass (topS 2) 0
theorem scBadLabel : FnScope ["self", "label"] ["self", "label"] (defScope sBadLabel) := ⟨rfl, rfl, rfl, by decide +kernel, rfl, by decide +kernel, by decide +kernel⟩
abbrev sBadCell : Stmt := inClass (topS 3) 0
theorem scBadCell : FnScope ["self", "index"] ["self", "index"] (defScope sBadCell) := ⟨rfl, rfl, rfl, by decide +kernel, rfl, by decide +kernel, by decide +kernel⟩
abbrev sBadPart : Stmt := inClass (topS 4) 0
theorem scBadPart : FnScope ["self", "part"] ["self", "part"] (defScope sBadPart) := ⟨rfl, rfl, rfl, by decide +kernel, rfl, by decide +kernel, by decide +kernel⟩
abbrev sBadTerm : Stmt := inClass (topS 5) 0
theorem scBadTerm : FnScope ["self", "term"] ["self", "term"] (defScope sBadTerm) := ⟨rfl, rfl, rfl, by decide +kernel, rfl, by decide +kernel, by decide +kernel⟩
abbrev sBadFunction : Stmt := inClass (topS 6) 0
theorem scBadFunction : FnScope ["self", "index"] ["self", "index"] (defScope sBadFunction) := ⟨rfl, rfl, rfl, by decide +kernel, rfl, by decide +kernel, by decide +kernel⟩
abbrev sBadState : Stmt := inClass (topS 7) 0
theorem scBadState : FnScope ["self", "name"] ["self", "name"] (defScope sBadState) := ⟨rfl, rfl, rfl, by decide +kernel, rfl, by decide +kernel, by decide +kernel⟩
abbrev sBadArguments : Stmt := inClass (topS 8) 0
theorem scBadArguments : FnScope ["self", "arguments"] ["self", "arguments"] (defScope sBadArguments) := ⟨rfl, rfl, rfl, by decide +kernel, rfl, by decide +kernel, by decide +kernel⟩
abbrev sBadTick : Stmt := inClass (topS 9) 0
theorem scBadTick : FnScope ["self", "value"] ["self", "value"] (defScope sBadTick) := ⟨rfl, rfl, rfl, by decide +kernel, rfl, by decide +kernel, by decide +kernel⟩
abbrev sBadCall : Stmt := inClass (topS 10) 0
theorem scBadCall : FnScope ["self", "index"] ["self", "index"] (defScope sBadCall) := ⟨rfl, rfl, rfl, by decide +kernel, rfl, by decide +kernel, by decide +kernel⟩
abbrev sBadTree : Stmt := inClass (topS 11) 0
theorem scBadTree : FnScope ["self", "tree"] ["self", "tree"] (defScope sBadTree) := ⟨rfl, rfl, rfl, by decide +kernel, rfl, by decide +kernel, by decide +kernel⟩
abbrev sBadOutput : Stmt := inClass (topS 12) 0
theorem scBadOutput : FnScope ["self", "index"] ["self", "index"] (defScope sBadOutput) := ⟨rfl, rfl, rfl, by decide +kernel, rfl, by decide +kernel, by decide +kernel⟩
abbrev sBadOrder : Stmt := inClass (topS 13) 0
theorem scBadOrder : FnScope ["self", "index"] ["self", "index"] (defScope sBadOrder) := ⟨rfl, rfl, rfl, by decide +kernel, rfl, by decide +kernel, by decide +kernel⟩
abbrev sBadMark : Stmt := inClass (topS 14) 0
theorem scBadMark : FnScope ["self", "index"] ["self", "index"] (defScope sBadMark) := ⟨rfl, rfl, rfl, by decide +kernel, rfl, by decide +kernel, by decide +kernel⟩
abbrev sBadTable : Stmt := inClass (topS 15) 0
theorem scBadTable : FnScope ["self", "index"] ["self", "index"] (defScope sBadTable) := ⟨rfl, rfl, rfl, by decide +kernel, rfl, by decide +kernel, by decide +kernel⟩
abbrev sBadPlan : Stmt := inClass (topS 16) 0
theorem scBadPlan : FnScope ["self", "plan"] ["self", "plan"] (defScope sBadPlan) := ⟨rfl, rfl, rfl, by decide +kernel, rfl, by decide +kernel, by decide +kernel⟩
abbrev sBadToken : Stmt := inClass (topS 17) 0
theorem scBadToken : FnScope ["self", "token"] ["self", "token"] (defScope sBadToken) := ⟨rfl, rfl, rfl, by decide +kernel, rfl, by decide +kernel, by decide +kernel⟩
abbrev sBadText : Stmt := inClass (topS 18) 0
theorem scBadText : FnScope ["self", "index"] ["self", "index"] (defScope sBadText) := ⟨rfl, rfl, rfl, by decide +kernel, rfl, by decide +kernel, by decide +kernel⟩
abbrev sBadLine : Stmt := inClass (topS 19) 0
theorem scBadLine : FnScope ["self", "line"] ["self", "line"] (defScope sBadLine) := ⟨rfl, rfl, rfl, by decide +kernel, rfl, by decide +kernel, by decide +kernel⟩
abbrev sBadChance : Stmt := inClass (topS 20) 0
theorem scBadChance : FnScope ["self", "index"] ["self", "index"] (defScope sBadChance) := ⟨rfl, rfl, rfl, by decide +kernel, rfl, by decide +kernel, by decide +kernel⟩
abbrev sBadMove : Stmt := inClass (topS 21) 0
theorem scBadMove : FnScope ["self", "index"] ["self", "index"] (defScope sBadMove) := ⟨rfl, rfl, rfl, by decide +kernel, rfl, by decide +kernel, by decide +kernel⟩
abbrev sBadRun : Stmt := inClass (topS 22) 0
theorem scBadRun : FnScope ["self", "index"] ["self", "index"] (defScope sBadRun) := ⟨rfl, rfl, rfl, by decide +kernel, rfl, by decide +kernel, by decide +kernel⟩
abbrev sBadMoment : Stmt := inClass (topS 23) 0
theorem scBadMoment : FnScope ["self", "moment"] ["self", "moment"] (defScope sBadMoment) := ⟨rfl, rfl, rfl, by decide +kernel, rfl, by decide +kernel, by decide +kernel⟩
abbrev sUnknownName : Stmt := inClass (topS 24) 0
theorem scUnknownName : FnScope ["self", "name"] ["self", "name"] (defScope sUnknownName) := ⟨rfl, rfl, rfl, by decide +kernel, rfl, by decide +kernel, by decide +kernel⟩
abbrev sTooMany : Stmt := inClass (topS 25) 0
theorem scTooMany : FnScope ["self", "limit"] ["self", "limit"] (defScope sTooMany) := ⟨rfl, rfl, rfl, by decide +kernel, rfl, by decide +kernel, by decide +kernel⟩
abbrev sNothingToUndo : Stmt := inClass (topS 26) 0
theorem scNothingToUndo : FnScope ["self", "name"] ["self", "name"] (defScope sNothingToUndo) := ⟨rfl, rfl, rfl, by decide +kernel, rfl, by decide +kernel, by decide +kernel⟩
section
variable {P : Program} {w : World} {K : PySem.W.Frag} {mg : Str → Option Value} {base : Heap}
theorem ok_BadLabel {C g B : Addr} {fd : FuncData} (F : Fun K "__init__" "BadLabel.__init__" sBadLabel g fd) (TB : OwnBase K mg "StoreError" B) (oex : OexG K (famV B) C) (no : PySem.W.findIn K (.ref C) "label" = some none) : FnOk P w K mg base CX0 1 g fd ["self", "label"] (spErr C "label") :=
  F.ok scBadLabel (fun vs H Q E ⟨a, v, e, _⟩ => by subst e; rfl) (fun cdv A outer s H vs Q E hr ⟨a, v, ev, e, q⟩ => by
    subst ev
    exact ⟨_, pss_cons (ps_expr (pe_iniOwn (famV_ok B) rfl (by rfl) TB (pa_cons (pv 0) (pa_cons pe_str pa_nil)))) (pss_one (ps_fst (famV_ok B) (pv 0) (pv 1))),
      .ref a, rfl, a, C, _, rfl, (by show (1 : Nat) ≤ 1000; decide), oex, e, v, rfl, .ref a, rfl, a, C, rfl, oex, no, e, fun d nd ne => q d nd ne⟩)
theorem ok_BadCell {C g B : Addr} {fd : FuncData} (F : Fun K "__init__" "BadCell.__init__" sBadCell g fd) (TB : OwnBase K mg "StoreError" B) (oex : OexG K (famV B) C) (no : PySem.W.findIn K (.ref C) "index" = some none) : FnOk P w K mg base CX0 1 g fd ["self", "index"] (spErr C "index") :=
  F.ok scBadCell (fun vs H Q E ⟨a, v, e, _⟩ => by subst e; rfl) (fun cdv A outer s H vs Q E hr ⟨a, v, ev, e, q⟩ => by
    subst ev
    exact ⟨_, pss_cons (ps_expr (pe_iniOwn (famV_ok B) rfl (by rfl) TB (pa_cons (pv 0) (pa_cons pe_str pa_nil)))) (pss_one (ps_fst (famV_ok B) (pv 0) (pv 1))),
      .ref a, rfl, a, C, _, rfl, (by show (1 : Nat) ≤ 1000; decide), oex, e, v, rfl, .ref a, rfl, a, C, rfl, oex, no, e, fun d nd ne => q d nd ne⟩)
theorem ok_BadPart {C g B : Addr} {fd : FuncData} (F : Fun K "__init__" "BadPart.__init__" sBadPart g fd) (TB : OwnBase K mg "StoreError" B) (oex : OexG K (famV B) C) (no : PySem.W.findIn K (.ref C) "part" = some none) : FnOk P w K mg base CX0 1 g fd ["self", "part"] (spErr C "part") :=
  F.ok scBadPart (fun vs H Q E ⟨a, v, e, _⟩ => by subst e; rfl) (fun cdv A outer s H vs Q E hr ⟨a, v, ev, e, q⟩ => by
    subst ev
    exact ⟨_, pss_cons (ps_expr (pe_iniOwn (famV_ok B) rfl (by rfl) TB (pa_cons (pv 0) (pa_cons pe_str pa_nil)))) (pss_one (ps_fst (famV_ok B) (pv 0) (pv 1))),
      .ref a, rfl, a, C, _, rfl, (by show (1 : Nat) ≤ 1000; decide), oex, e, v, rfl, .ref a, rfl, a, C, rfl, oex, no, e, fun d nd ne => q d nd ne⟩)
theorem ok_BadTerm {C g B : Addr} {fd : FuncData} (F : Fun K "__init__" "BadTerm.__init__" sBadTerm g fd) (TB : OwnBase K mg "StoreError" B) (oex : OexG K (famV B) C) (no : PySem.W.findIn K (.ref C) "term" = some none) : FnOk P w K mg base CX0 1 g fd ["self", "term"] (spErr C "term") :=
  F.ok scBadTerm (fun vs H Q E ⟨a, v, e, _⟩ => by subst e; rfl) (fun cdv A outer s H vs Q E hr ⟨a, v, ev, e, q⟩ => by
    subst ev
    exact ⟨_, pss_cons (ps_expr (pe_iniOwn (famV_ok B) rfl (by rfl) TB (pa_cons (pv 0) (pa_cons pe_str pa_nil)))) (pss_one (ps_fst (famV_ok B) (pv 0) (pv 1))),
      .ref a, rfl, a, C, _, rfl, (by show (1 : Nat) ≤ 1000; decide), oex, e, v, rfl, .ref a, rfl, a, C, rfl, oex, no, e, fun d nd ne => q d nd ne⟩)
theorem ok_BadFunction {C g B : Addr} {fd : FuncData} (F : Fun K "__init__" "BadFunction.__init__" sBadFunction g fd) (TB : OwnBase K mg "StoreError" B) (oex : OexG K (famV B) C) (no : PySem.W.findIn K (.ref C) "index" = some none) : FnOk P w K mg base CX0 1 g fd ["self", "index"] (spErr C "index") :=
  F.ok scBadFunction (fun vs H Q E ⟨a, v, e, _⟩ => by subst e; rfl) (fun cdv A outer s H vs Q E hr ⟨a, v, ev, e, q⟩ => by
    subst ev
    exact ⟨_, pss_cons (ps_expr (pe_iniOwn (famV_ok B) rfl (by rfl) TB (pa_cons (pv 0) (pa_cons pe_str pa_nil)))) (pss_one (ps_fst (famV_ok B) (pv 0) (pv 1))),
      .ref a, rfl, a, C, _, rfl, (by show (1 : Nat) ≤ 1000; decide), oex, e, v, rfl, .ref a, rfl, a, C, rfl, oex, no, e, fun d nd ne => q d nd ne⟩)
theorem ok_BadState {C g B : Addr} {fd : FuncData} (F : Fun K "__init__" "BadState.__init__" sBadState g fd) (TB : OwnBase K mg "StoreError" B) (oex : OexG K (famV B) C) (no : PySem.W.findIn K (.ref C) "name" = some none) : FnOk P w K mg base CX0 1 g fd ["self", "name"] (spErr C "name") :=
  F.ok scBadState (fun vs H Q E ⟨a, v, e, _⟩ => by subst e; rfl) (fun cdv A outer s H vs Q E hr ⟨a, v, ev, e, q⟩ => by
    subst ev
    exact ⟨_, pss_cons (ps_expr (pe_iniOwn (famV_ok B) rfl (by rfl) TB (pa_cons (pv 0) (pa_cons pe_str pa_nil)))) (pss_one (ps_fst (famV_ok B) (pv 0) (pv 1))),
      .ref a, rfl, a, C, _, rfl, (by show (1 : Nat) ≤ 1000; decide), oex, e, v, rfl, .ref a, rfl, a, C, rfl, oex, no, e, fun d nd ne => q d nd ne⟩)
theorem ok_BadArguments {C g B : Addr} {fd : FuncData} (F : Fun K "__init__" "BadArguments.__init__" sBadArguments g fd) (TB : OwnBase K mg "StoreError" B) (oex : OexG K (famV B) C) (no : PySem.W.findIn K (.ref C) "arguments" = some none) : FnOk P w K mg base CX0 1 g fd ["self", "arguments"] (spErr C "arguments") :=
  F.ok scBadArguments (fun vs H Q E ⟨a, v, e, _⟩ => by subst e; rfl) (fun cdv A outer s H vs Q E hr ⟨a, v, ev, e, q⟩ => by
    subst ev
    exact ⟨_, pss_cons (ps_expr (pe_iniOwn (famV_ok B) rfl (by rfl) TB (pa_cons (pv 0) (pa_cons pe_str pa_nil)))) (pss_one (ps_fst (famV_ok B) (pv 0) (pv 1))),
      .ref a, rfl, a, C, _, rfl, (by show (1 : Nat) ≤ 1000; decide), oex, e, v, rfl, .ref a, rfl, a, C, rfl, oex, no, e, fun d nd ne => q d nd ne⟩)
theorem ok_BadTick {C g B : Addr} {fd : FuncData} (F : Fun K "__init__" "BadTick.__init__" sBadTick g fd) (TB : OwnBase K mg "StoreError" B) (oex : OexG K (famV B) C) (no : PySem.W.findIn K (.ref C) "value" = some none) : FnOk P w K mg base CX0 1 g fd ["self", "value"] (spErr C "value") :=
  F.ok scBadTick (fun vs H Q E ⟨a, v, e, _⟩ => by subst e; rfl) (fun cdv A outer s H vs Q E hr ⟨a, v, ev, e, q⟩ => by
    subst ev
    exact ⟨_, pss_cons (ps_expr (pe_iniOwn (famV_ok B) rfl (by rfl) TB (pa_cons (pv 0) (pa_cons pe_str pa_nil)))) (pss_one (ps_fst (famV_ok B) (pv 0) (pv 1))),
      .ref a, rfl, a, C, _, rfl, (by show (1 : Nat) ≤ 1000; decide), oex, e, v, rfl, .ref a, rfl, a, C, rfl, oex, no, e, fun d nd ne => q d nd ne⟩)
theorem ok_BadCall {C g B : Addr} {fd : FuncData} (F : Fun K "__init__" "BadCall.__init__" sBadCall g fd) (TB : OwnBase K mg "StoreError" B) (oex : OexG K (famV B) C) (no : PySem.W.findIn K (.ref C) "index" = some none) : FnOk P w K mg base CX0 1 g fd ["self", "index"] (spErr C "index") :=
  F.ok scBadCall (fun vs H Q E ⟨a, v, e, _⟩ => by subst e; rfl) (fun cdv A outer s H vs Q E hr ⟨a, v, ev, e, q⟩ => by
    subst ev
    exact ⟨_, pss_cons (ps_expr (pe_iniOwn (famV_ok B) rfl (by rfl) TB (pa_cons (pv 0) (pa_cons pe_str pa_nil)))) (pss_one (ps_fst (famV_ok B) (pv 0) (pv 1))),
      .ref a, rfl, a, C, _, rfl, (by show (1 : Nat) ≤ 1000; decide), oex, e, v, rfl, .ref a, rfl, a, C, rfl, oex, no, e, fun d nd ne => q d nd ne⟩)
theorem ok_BadTree {C g B : Addr} {fd : FuncData} (F : Fun K "__init__" "BadTree.__init__" sBadTree g fd) (TB : OwnBase K mg "StoreError" B) (oex : OexG K (famV B) C) (no : PySem.W.findIn K (.ref C) "tree" = some none) : FnOk P w K mg base CX0 1 g fd ["self", "tree"] (spErr C "tree") :=
  F.ok scBadTree (fun vs H Q E ⟨a, v, e, _⟩ => by subst e; rfl) (fun cdv A outer s H vs Q E hr ⟨a, v, ev, e, q⟩ => by
    subst ev
    exact ⟨_, pss_cons (ps_expr (pe_iniOwn (famV_ok B) rfl (by rfl) TB (pa_cons (pv 0) (pa_cons pe_str pa_nil)))) (pss_one (ps_fst (famV_ok B) (pv 0) (pv 1))),
      .ref a, rfl, a, C, _, rfl, (by show (1 : Nat) ≤ 1000; decide), oex, e, v, rfl, .ref a, rfl, a, C, rfl, oex, no, e, fun d nd ne => q d nd ne⟩)
theorem ok_BadOutput {C g B : Addr} {fd : FuncData} (F : Fun K "__init__" "BadOutput.__init__" sBadOutput g fd) (TB : OwnBase K mg "StoreError" B) (oex : OexG K (famV B) C) (no : PySem.W.findIn K (.ref C) "index" = some none) : FnOk P w K mg base CX0 1 g fd ["self", "index"] (spErr C "index") :=
  F.ok scBadOutput (fun vs H Q E ⟨a, v, e, _⟩ => by subst e; rfl) (fun cdv A outer s H vs Q E hr ⟨a, v, ev, e, q⟩ => by
    subst ev
    exact ⟨_, pss_cons (ps_expr (pe_iniOwn (famV_ok B) rfl (by rfl) TB (pa_cons (pv 0) (pa_cons pe_str pa_nil)))) (pss_one (ps_fst (famV_ok B) (pv 0) (pv 1))),
      .ref a, rfl, a, C, _, rfl, (by show (1 : Nat) ≤ 1000; decide), oex, e, v, rfl, .ref a, rfl, a, C, rfl, oex, no, e, fun d nd ne => q d nd ne⟩)
theorem ok_BadOrder {C g B : Addr} {fd : FuncData} (F : Fun K "__init__" "BadOrder.__init__" sBadOrder g fd) (TB : OwnBase K mg "StoreError" B) (oex : OexG K (famV B) C) (no : PySem.W.findIn K (.ref C) "index" = some none) : FnOk P w K mg base CX0 1 g fd ["self", "index"] (spErr C "index") :=
  F.ok scBadOrder (fun vs H Q E ⟨a, v, e, _⟩ => by subst e; rfl) (fun cdv A outer s H vs Q E hr ⟨a, v, ev, e, q⟩ => by
    subst ev
    exact ⟨_, pss_cons (ps_expr (pe_iniOwn (famV_ok B) rfl (by rfl) TB (pa_cons (pv 0) (pa_cons pe_str pa_nil)))) (pss_one (ps_fst (famV_ok B) (pv 0) (pv 1))),
      .ref a, rfl, a, C, _, rfl, (by show (1 : Nat) ≤ 1000; decide), oex, e, v, rfl, .ref a, rfl, a, C, rfl, oex, no, e, fun d nd ne => q d nd ne⟩)
theorem ok_BadMark {C g B : Addr} {fd : FuncData} (F : Fun K "__init__" "BadMark.__init__" sBadMark g fd) (TB : OwnBase K mg "StoreError" B) (oex : OexG K (famV B) C) (no : PySem.W.findIn K (.ref C) "index" = some none) : FnOk P w K mg base CX0 1 g fd ["self", "index"] (spErr C "index") :=
  F.ok scBadMark (fun vs H Q E ⟨a, v, e, _⟩ => by subst e; rfl) (fun cdv A outer s H vs Q E hr ⟨a, v, ev, e, q⟩ => by
    subst ev
    exact ⟨_, pss_cons (ps_expr (pe_iniOwn (famV_ok B) rfl (by rfl) TB (pa_cons (pv 0) (pa_cons pe_str pa_nil)))) (pss_one (ps_fst (famV_ok B) (pv 0) (pv 1))),
      .ref a, rfl, a, C, _, rfl, (by show (1 : Nat) ≤ 1000; decide), oex, e, v, rfl, .ref a, rfl, a, C, rfl, oex, no, e, fun d nd ne => q d nd ne⟩)
theorem ok_BadTable {C g B : Addr} {fd : FuncData} (F : Fun K "__init__" "BadTable.__init__" sBadTable g fd) (TB : OwnBase K mg "StoreError" B) (oex : OexG K (famV B) C) (no : PySem.W.findIn K (.ref C) "index" = some none) : FnOk P w K mg base CX0 1 g fd ["self", "index"] (spErr C "index") :=
  F.ok scBadTable (fun vs H Q E ⟨a, v, e, _⟩ => by subst e; rfl) (fun cdv A outer s H vs Q E hr ⟨a, v, ev, e, q⟩ => by
    subst ev
    exact ⟨_, pss_cons (ps_expr (pe_iniOwn (famV_ok B) rfl (by rfl) TB (pa_cons (pv 0) (pa_cons pe_str pa_nil)))) (pss_one (ps_fst (famV_ok B) (pv 0) (pv 1))),
      .ref a, rfl, a, C, _, rfl, (by show (1 : Nat) ≤ 1000; decide), oex, e, v, rfl, .ref a, rfl, a, C, rfl, oex, no, e, fun d nd ne => q d nd ne⟩)
theorem ok_BadPlan {C g B : Addr} {fd : FuncData} (F : Fun K "__init__" "BadPlan.__init__" sBadPlan g fd) (TB : OwnBase K mg "StoreError" B) (oex : OexG K (famV B) C) (no : PySem.W.findIn K (.ref C) "plan" = some none) : FnOk P w K mg base CX0 1 g fd ["self", "plan"] (spErr C "plan") :=
  F.ok scBadPlan (fun vs H Q E ⟨a, v, e, _⟩ => by subst e; rfl) (fun cdv A outer s H vs Q E hr ⟨a, v, ev, e, q⟩ => by
    subst ev
    exact ⟨_, pss_cons (ps_expr (pe_iniOwn (famV_ok B) rfl (by rfl) TB (pa_cons (pv 0) (pa_cons pe_str pa_nil)))) (pss_one (ps_fst (famV_ok B) (pv 0) (pv 1))),
      .ref a, rfl, a, C, _, rfl, (by show (1 : Nat) ≤ 1000; decide), oex, e, v, rfl, .ref a, rfl, a, C, rfl, oex, no, e, fun d nd ne => q d nd ne⟩)
theorem ok_BadToken {C g B : Addr} {fd : FuncData} (F : Fun K "__init__" "BadToken.__init__" sBadToken g fd) (TB : OwnBase K mg "StoreError" B) (oex : OexG K (famV B) C) (no : PySem.W.findIn K (.ref C) "token" = some none) : FnOk P w K mg base CX0 1 g fd ["self", "token"] (spErr C "token") :=
  F.ok scBadToken (fun vs H Q E ⟨a, v, e, _⟩ => by subst e; rfl) (fun cdv A outer s H vs Q E hr ⟨a, v, ev, e, q⟩ => by
    subst ev
    exact ⟨_, pss_cons (ps_expr (pe_iniOwn (famV_ok B) rfl (by rfl) TB (pa_cons (pv 0) (pa_cons pe_str pa_nil)))) (pss_one (ps_fst (famV_ok B) (pv 0) (pv 1))),
      .ref a, rfl, a, C, _, rfl, (by show (1 : Nat) ≤ 1000; decide), oex, e, v, rfl, .ref a, rfl, a, C, rfl, oex, no, e, fun d nd ne => q d nd ne⟩)
theorem ok_BadText {C g B : Addr} {fd : FuncData} (F : Fun K "__init__" "BadText.__init__" sBadText g fd) (TB : OwnBase K mg "StoreError" B) (oex : OexG K (famV B) C) (no : PySem.W.findIn K (.ref C) "index" = some none) : FnOk P w K mg base CX0 1 g fd ["self", "index"] (spErr C "index") :=
  F.ok scBadText (fun vs H Q E ⟨a, v, e, _⟩ => by subst e; rfl) (fun cdv A outer s H vs Q E hr ⟨a, v, ev, e, q⟩ => by
    subst ev
    exact ⟨_, pss_cons (ps_expr (pe_iniOwn (famV_ok B) rfl (by rfl) TB (pa_cons (pv 0) (pa_cons pe_str pa_nil)))) (pss_one (ps_fst (famV_ok B) (pv 0) (pv 1))),
      .ref a, rfl, a, C, _, rfl, (by show (1 : Nat) ≤ 1000; decide), oex, e, v, rfl, .ref a, rfl, a, C, rfl, oex, no, e, fun d nd ne => q d nd ne⟩)
theorem ok_BadLine {C g B : Addr} {fd : FuncData} (F : Fun K "__init__" "BadLine.__init__" sBadLine g fd) (TB : OwnBase K mg "StoreError" B) (oex : OexG K (famV B) C) (no : PySem.W.findIn K (.ref C) "line" = some none) : FnOk P w K mg base CX0 1 g fd ["self", "line"] (spErr C "line") :=
  F.ok scBadLine (fun vs H Q E ⟨a, v, e, _⟩ => by subst e; rfl) (fun cdv A outer s H vs Q E hr ⟨a, v, ev, e, q⟩ => by
    subst ev
    exact ⟨_, pss_cons (ps_expr (pe_iniOwn (famV_ok B) rfl (by rfl) TB (pa_cons (pv 0) (pa_cons pe_str pa_nil)))) (pss_one (ps_fst (famV_ok B) (pv 0) (pv 1))),
      .ref a, rfl, a, C, _, rfl, (by show (1 : Nat) ≤ 1000; decide), oex, e, v, rfl, .ref a, rfl, a, C, rfl, oex, no, e, fun d nd ne => q d nd ne⟩)
theorem ok_BadChance {C g B : Addr} {fd : FuncData} (F : Fun K "__init__" "BadChance.__init__" sBadChance g fd) (TB : OwnBase K mg "StoreError" B) (oex : OexG K (famV B) C) (no : PySem.W.findIn K (.ref C) "index" = some none) : FnOk P w K mg base CX0 1 g fd ["self", "index"] (spErr C "index") :=
  F.ok scBadChance (fun vs H Q E ⟨a, v, e, _⟩ => by subst e; rfl) (fun cdv A outer s H vs Q E hr ⟨a, v, ev, e, q⟩ => by
    subst ev
    exact ⟨_, pss_cons (ps_expr (pe_iniOwn (famV_ok B) rfl (by rfl) TB (pa_cons (pv 0) (pa_cons pe_str pa_nil)))) (pss_one (ps_fst (famV_ok B) (pv 0) (pv 1))),
      .ref a, rfl, a, C, _, rfl, (by show (1 : Nat) ≤ 1000; decide), oex, e, v, rfl, .ref a, rfl, a, C, rfl, oex, no, e, fun d nd ne => q d nd ne⟩)
theorem ok_BadMove {C g B : Addr} {fd : FuncData} (F : Fun K "__init__" "BadMove.__init__" sBadMove g fd) (TB : OwnBase K mg "StoreError" B) (oex : OexG K (famV B) C) (no : PySem.W.findIn K (.ref C) "index" = some none) : FnOk P w K mg base CX0 1 g fd ["self", "index"] (spErr C "index") :=
  F.ok scBadMove (fun vs H Q E ⟨a, v, e, _⟩ => by subst e; rfl) (fun cdv A outer s H vs Q E hr ⟨a, v, ev, e, q⟩ => by
    subst ev
    exact ⟨_, pss_cons (ps_expr (pe_iniOwn (famV_ok B) rfl (by rfl) TB (pa_cons (pv 0) (pa_cons pe_str pa_nil)))) (pss_one (ps_fst (famV_ok B) (pv 0) (pv 1))),
      .ref a, rfl, a, C, _, rfl, (by show (1 : Nat) ≤ 1000; decide), oex, e, v, rfl, .ref a, rfl, a, C, rfl, oex, no, e, fun d nd ne => q d nd ne⟩)
theorem ok_BadRun {C g B : Addr} {fd : FuncData} (F : Fun K "__init__" "BadRun.__init__" sBadRun g fd) (TB : OwnBase K mg "StoreError" B) (oex : OexG K (famV B) C) (no : PySem.W.findIn K (.ref C) "index" = some none) : FnOk P w K mg base CX0 1 g fd ["self", "index"] (spErr C "index") :=
  F.ok scBadRun (fun vs H Q E ⟨a, v, e, _⟩ => by subst e; rfl) (fun cdv A outer s H vs Q E hr ⟨a, v, ev, e, q⟩ => by
    subst ev
    exact ⟨_, pss_cons (ps_expr (pe_iniOwn (famV_ok B) rfl (by rfl) TB (pa_cons (pv 0) (pa_cons pe_str pa_nil)))) (pss_one (ps_fst (famV_ok B) (pv 0) (pv 1))),
      .ref a, rfl, a, C, _, rfl, (by show (1 : Nat) ≤ 1000; decide), oex, e, v, rfl, .ref a, rfl, a, C, rfl, oex, no, e, fun d nd ne => q d nd ne⟩)
theorem ok_BadMoment {C g B : Addr} {fd : FuncData} (F : Fun K "__init__" "BadMoment.__init__" sBadMoment g fd) (TB : OwnBase K mg "StoreError" B) (oex : OexG K (famV B) C) (no : PySem.W.findIn K (.ref C) "moment" = some none) : FnOk P w K mg base CX0 1 g fd ["self", "moment"] (spErr C "moment") :=
  F.ok scBadMoment (fun vs H Q E ⟨a, v, e, _⟩ => by subst e; rfl) (fun cdv A outer s H vs Q E hr ⟨a, v, ev, e, q⟩ => by
    subst ev
    exact ⟨_, pss_cons (ps_expr (pe_iniOwn (famV_ok B) rfl (by rfl) TB (pa_cons (pv 0) (pa_cons pe_str pa_nil)))) (pss_one (ps_fst (famV_ok B) (pv 0) (pv 1))),
      .ref a, rfl, a, C, _, rfl, (by show (1 : Nat) ≤ 1000; decide), oex, e, v, rfl, .ref a, rfl, a, C, rfl, oex, no, e, fun d nd ne => q d nd ne⟩)
theorem ok_UnknownName {C g : Addr} {fd : FuncData} (F : Fun K "__init__" "UnknownName.__init__" sUnknownName g fd) (nb : mg "KeyError" = none) (fi : PySem.W.findCls K (.type "KeyError") (.type "type") "__init__" = some (.val (.builtin "KeyError.__init__"))) (oex : OexG K famK C) (no : PySem.W.findIn K (.ref C) "name" = some none) : FnOk P w K mg base CX0 1 g fd ["self", "name"] (spErr C "name") :=
  F.ok scUnknownName (fun vs H Q E ⟨a, v, e, _⟩ => by subst e; rfl) (fun cdv A outer s H vs Q E hr ⟨a, v, ev, e, q⟩ => by
    subst ev
    exact ⟨_, pss_cons (ps_expr (pe_iniBlt famK_ok (by rfl) nb (by decide +kernel) (by kernel_rfl) (by decide +kernel) fi (by decide +kernel) (pa_cons (pv 0) (pa_cons pe_str pa_nil)))) (pss_one (ps_fst famK_ok (pv 0) (pv 1))),
      .ref a, rfl, a, C, _, rfl, (by show (1 : Nat) ≤ 1000; decide), oex, e, v, rfl, .ref a, rfl, a, C, rfl, oex, no, e, fun d nd ne => q d nd ne⟩)
theorem ok_TooMany {C g : Addr} {fd : FuncData} (F : Fun K "__init__" "TooMany.__init__" sTooMany g fd) (nb : mg "OverflowError" = none) (fi : PySem.W.findCls K (.type "OverflowError") (.type "type") "__init__" = some (.val (.builtin "OverflowError.__init__"))) (oex : OexG K famO C) (no : PySem.W.findIn K (.ref C) "limit" = some none) : FnOk P w K mg base CX0 1 g fd ["self", "limit"] (spErr C "limit") :=
  F.ok scTooMany (fun vs H Q E ⟨a, v, e, _⟩ => by subst e; rfl) (fun cdv A outer s H vs Q E hr ⟨a, v, ev, e, q⟩ => by
    subst ev
    exact ⟨_, pss_cons (ps_expr (pe_iniBlt famO_ok (by rfl) nb (by decide +kernel) (by kernel_rfl) (by decide +kernel) fi (by decide +kernel) (pa_cons (pv 0) (pa_cons pe_str pa_nil)))) (pss_one (ps_fst famO_ok (pv 0) (pv 1))),
      .ref a, rfl, a, C, _, rfl, (by show (1 : Nat) ≤ 1000; decide), oex, e, v, rfl, .ref a, rfl, a, C, rfl, oex, no, e, fun d nd ne => q d nd ne⟩)
theorem ok_NothingToUndo {C g : Addr} {fd : FuncData} (F : Fun K "__init__" "NothingToUndo.__init__" sNothingToUndo g fd) (nb : mg "RuntimeError" = none) (fi : PySem.W.findCls K (.type "RuntimeError") (.type "type") "__init__" = some (.val (.builtin "RuntimeError.__init__"))) (oex : OexG K famR C) (no : PySem.W.findIn K (.ref C) "name" = some none) : FnOk P w K mg base CX0 1 g fd ["self", "name"] (spErr C "name") :=
  F.ok scNothingToUndo (fun vs H Q E ⟨a, v, e, _⟩ => by subst e; rfl) (fun cdv A outer s H vs Q E hr ⟨a, v, ev, e, q⟩ => by
    subst ev
    exact ⟨_, pss_cons (ps_expr (pe_iniBlt famR_ok (by rfl) nb (by decide +kernel) (by kernel_rfl) (by decide +kernel) fi (by decide +kernel) (pa_cons (pv 0) (pa_cons pe_str pa_nil)))) (pss_one (ps_fst famR_ok (pv 0) (pv 1))),
      .ref a, rfl, a, C, _, rfl, (by show (1 : Nat) ≤ 1000; decide), oex, e, v, rfl, .ref a, rfl, a, C, rfl, oex, no, e, fun d nd ne => q d nd ne⟩)
end
/-- all that is at hand of a class of errors -/
structure ErrA (P : Program) (w : World) (K : PySem.W.Frag) (mg : Str → Option Value) (base : Heap) (fam : Fam) (x f : Str) (C g : Addr) (fd : FuncData) : Prop where
  m : ErrM P w K mg base fam C g f 1 fd ["self", f]
  gC : mg x = some (.ref C)
  xf : XfC K C
  no : PySem.W.findIn K (.ref C) f = some none
  er : ErrC K C
  bP : ∀ (s : Shared) (y : Addr) (u : Value), K.In s.heap → BindsTo s fd ⟨[.ref y, u], []⟩ ((["self", f] : List Str).zip [.ref y, u])
  bK : ∀ (s : Shared) (y : Addr) (u : Value), K.In s.heap → BindsTo s fd ⟨[.ref y], [(f, u)]⟩ ((["self", f] : List Str).zip [.ref y, u])
/-! ### defs that are run where no repr is under way: what repr of a list or tuple wants -/
/-- as FnOk, for a def that lets nothing out, called where no repr is under way -/
structure FnG (P : Program) (w : World) (K : PySem.W.Frag) (mg : Str → Option Value) (base : Heap) (k : Nat) (f : Addr) (fd : FuncData) (ps : List Str) (sp : Sp) : Prop where
  many : ∀ vs H Q, sp vs H Q E0 → vs.length = ps.length
  goes : ∀ (A : Around) (outer : List Env) (s : Shared) (H : Hp) (us : List Value) (vs : List V) (Q : VK), A.guards = some [] → Room k A → Env0 P w K mg base A outer s H → BindsTo s fd ⟨us, []⟩ (ps.zip us) → Vals vs us → sp vs H Q E0 →
    codeAny (model P w) A (.call (.ref f) ⟨us, []⟩) (CR CX0 outer P w H s Q E0) s
section
variable {P : Program} {w : World} {K : PySem.W.Frag} {mg : Str → Option Value} {base : Heap}
theorem Fun.okG {x qual : Str} {st : Stmt} {f : Addr} {fd : FuncData} {N ps : List Str} {k : Nat} {sp : Sp} (F : Fun K x qual st f fd) (S : FnScope N ps (defScope st)) (many : ∀ vs H Q, sp vs H Q E0 → vs.length = ps.length)
    (body : ∀ (cdv : Value) (A : Around) (outer : List Env) (s : Shared) (H : Hp) (vs : List V) (Q : VK), A.guards = some [] → Room k (A.deeper (envOfC qual (defScope st) s.heap.objs.size f cdv)) → sp vs H Q E0 →
      ∃ t, PSs (cxOf CX0 P w K mg base N qual (defScope st) f cdv A outer s H E0).nox (defBody st) t ∧ t { nx := fun _ H' => Q .non H', rt := Q } (start N vs) H) : FnG P w K mg base (k + 1) f fd ps sp := by
  obtain ⟨oc, od, kV, doc, pm, an, cdv, ct, osl, rfl, at_, cd⟩ := F.ex
  refine ⟨many, fun A outer s H us vs Q hg hr e0 hb r hs => ?_⟩
  have KX : K.In s.heap := e0.mod.kin.keeps fun b o e => (e0.bs b o e).1
  have lim : s.heap.NoLimit := e0.mod.nolimit.keeps fun b o e => (e0.bs b o e).1
  refine codeAny_call_function hr.depth (KX _ _ at_) rfl S.co S.gen rfl (PySem.W.codeRec_of KX cd) (hb _ _ _ _ ?_)
  refine wpAny_newFunctionEnv_cells S.kind (fun ⟨n, v⟩ hy => ?_) fun env he s1 x => ?_
  · rcases S.par n (List.of_mem_zip hy).1 with q | q
    · exact .inl q
    · exact .inr ⟨q, PySem.W.cellsFrom_some _ _ _ (.inl q)⟩
  · subst he
    obtain ⟨t, ht, hq⟩ := body cdv A outer s H vs Q hg (hr.deeper _) hs
    refine ⟨lim.keeps x.toInCall.keep, codeAny_func (wpAny_mono (ht.nox.run [] s1 (start N vs) H _ (inv_start S hr.hd e0 (many _ _ _ hs) r x) hq) (fun fl s' z => ?_) fun e s' z => z)⟩
    have out : ∀ {σ' : L2.St} {H' : Hp} {v : V} {u : Value}, Inv (cxOf CX0 P w K mg base N qual (defScope st) f cdv A outer s H E0) [] σ' H' s' → RelV v u → Q v H' → CE outer P w H s Q u s' := fun {σ' H' v u} J rv q => ⟨v, H', J.os, J.bare, J.base, J.hok, rv, q⟩
    cases fl with
    | ret u => exact let ⟨v, σ', H', J, rv, q⟩ := z; out J rv q
    | next => exact let ⟨σ', H', J, q⟩ := z; out (v := V.non) (u := Value.none) J rfl q
    | brk => exact let ⟨_, _, _, q⟩ := z; False.elim q
    | cont => exact let ⟨_, _, _, q⟩ := z; False.elim q
end
section
variable {X : Cx} {k : Nat} {f : Addr} {fd : FuncData} {ps : List Str} {sp : Sp} {x : Str} {e : Expr} {es : List Expr} {p pos : Pos} {t : TA}
theorem pe_callG (F : FnG X.prog X.w X.K X.mg X.base k f fd ps sp) (gu : X.A.guards = some []) (hr : Room k X.A) (hg : Gl X x) (hm : X.mg x = some (.ref f)) (hk : PySem.W.keepIn X.K (.ref f) = true) (hb : Binds X.K fd ps []) (ha : PA X (e :: es) t)
    (hdb : (x == ("__debug__" : Str)) = false := by decide) (he : starEach (e :: es) X.env = (false, eval e X.env) :: starEach es X.env := by rfl) (hpl : (backTo pos (starEach es X.env)).any (·.1) = false := by rfl) :
    PE X (.Call (.Name x p) (e :: es) [] pos) (tCall sp [] E0 t) := ⟨fun pins s σ H Q I h => by
  refine wpAny_Call_Name_kw (ld_glob I hg hm (PySem.W.callWith_K (h₀ := X.base) I.ok.mod.kin hk (thn (ha.run pos pins s σ H _ I h) fun us s1 z => ?_) he hpl) hdb)
  obtain ⟨vs, H1, I1, r, q⟩ := z
  have q' : sp vs H1 Q E0 := by
    have z : sp (vs ++ []) H1 Q E0 := q
    rwa [List.append_nil] at z
  have hl : (us ++ []).length = ps.length := by rw [List.append_nil, ← r.length]; exact F.many _ _ _ q'
  have bt := hb s1 us I1.kIn hl
  rw [List.append_nil] at bt
  refine ⟨I1.kIn, wpAny_call (codeAny_mono (F.goes X.A X.stack s1 H1 us vs Q gu hr I1.env0 bt r q') fun r s' z => ?_)⟩
  cases r with
  | error e => exact z.elim
  | ok fl =>
    cases fl with
    | ret u => exact I1.after z
    | next => exact False.elim z
    | brk => exact False.elim z
    | cont => exact False.elim z⟩
/-- repr of data -/
def rReprD (K : PySem.W.Frag) : List V → Hp → VK → Prop := fun xs H Q => ∃ (x : V) (d : PyData), xs = [x] ∧ Dp K H x d ∧ d.showable = true ∧ d.hasDict = false ∧ d.depth ≤ 60 ∧ d.shown.length ≤ sizeLine ∧ Q (.str d.shown) H
theorem call_reprD (gu : X.A.guards = some []) (un : X.A.units + 100 < cLine) : CallR X (.builtin "repr") (rReprD X.K) := by
  intro pins s σ H xs us Q I r h
  obtain ⟨x, d, rfl, hd, hs, hn, hdp, hz, q⟩ := h
  obtain ⟨u, rfl, ru⟩ := r.one

  obtain ⟨as, R⟩ := Dp.reads I d x u hd ru
  have put : ∀ {t : Tok} {z : Str}, z = d.shown → EP X pins σ Q (.str z t) { s with toks := s.toks + 1 } := fun {t z} e => by
    subst e
    exact ⟨.str d.shown, H, I.tok _, ⟨t, rfl⟩, q⟩
  cases hd with
  | non => cases (show u = Value.none from ru); exact PySem.P.repr_of_none (put rfl)
  | bl b => cases (show u = Value.bool b from ru); exact PySem.P.repr_of_bool (put rfl)
  | int i =>
    obtain ⟨t, e⟩ := (show ∃ t, u = Value.int i t from ru)
    cases e
    exact PySem.P.repr_of_int (by simpa [PyData.showable] using hs) (put rfl)
  | str z =>
    obtain ⟨t, e⟩ := (show ∃ t, u = Value.str z t from ru)
    cases e
    exact PySem.P.repr_of_str (put rfl) (by simpa [PyData.shown] using hz)
  | @lst a vs ds hS hD =>
    cases (show u = Value.ref a from ru)
    exact repr_of_reads' R hs (PyData.noDict_hsm hn) gu (by omega) (fun _ _ e => e) (fun h' t tk k => ⟨.str _, H, I.kept (t' := tk) k, ⟨t, rfl⟩, q⟩) hz
  | @tup a vs ds hS hD =>
    cases (show u = Value.ref a from ru)
    exact repr_of_reads' R hs (PyData.noDict_hsm hn) gu (by omega) (fun _ _ e => e) (fun h' t tk k => ⟨.str _, H, I.kept (t' := tk) k, ⟨t, rfl⟩, q⟩) hz
end
/-! ### the end, by a law's def that is run where no repr is under way -/
namespace EndG
section
variable {P : Program} {w : World} {K : PySem.W.Frag} {mg mb : Str → Option Value} {k : Nat} {fa a : Addr} {fd : FuncData} {x : Str} {sp : Sp} {s : Shared} {vs : List Value} {ns : List Int}
/-- what is asked of the run at last -/
def Told (s : Shared) (r : Result) (s' : Shared) : Prop := r = .ok (.ret (.bool true)) ∧ OldK s.heap s'.heap ∧ s'.os = s.os ∧ AllBare s'.gens
/-- from a heap of which at most the script is tracked -/
theorem told_at (KX : K.In s.heap) (n1 : s.heap.Ns mainGlobals mg) (n2 : s.heap.Ns builtinsNs mb) (bb : ∀ x : Str, x ≠ "__name__" → mb x = bootBuiltins x) (lim : s.heap.NoLimit) (gs : s.gens = #[])
    (oa : s.heap.get? a = some { cls := .type "list", data := .seq vs.toArray }) (hr : Room k callerA) (F : ∀ base : Heap, K.In base → base.Ns mainGlobals mg → FnG P w K mg base k fa fd [x] sp)
    (bind : ∀ (s : Shared) (u : Value), BindsTo s fd ⟨[u], []⟩ [(x, u)]) (H : Hp) (only : Only H) (ok : HOk P w H s.heap) (at_a : ∀ b, H b ≠ none → b = a) (notK : H a ≠ none → K.lookup a = none)
    (h : sp [.ref a] H (fun v _ => v = .bl true) E0) : codeAny (model P w) callerA (.call (.ref fa) ⟨[.ref a], []⟩) (Told s) s := by
  have none_or : ∀ b, H b = none ∨ b = a := fun b => by
    cases q : H b with
    | none => exact .inl rfl
    | some u => exact .inr (at_a b (by rw [q]; exact fun z => nomatch z))
  have free : ∀ {b : Addr} {o : Obj} {es : Array DictEntry} {ep : Nat}, s.heap.get? b = some o → o.data = .dict es ep → H b = none := fun {b o es ep} e d => by
    rcases none_or b with z | z
    · exact z
    · rw [z, oa] at e
      cases e
      exact absurd (show Data.seq vs.toArray _ = Data.dict es ep from d) (fun y => nomatch y)
  have ns0 : ∀ {b : Addr} {m : Str → Option Value}, s.heap.Ns b m → (hidT s.heap H).Ns b m := fun {b m} z => by
    obtain ⟨o, es, ep, e, d, r⟩ := z
    exact ⟨o, es, ep, hidT_get e (free e d), d, r⟩
  have kb : K.In (hidT s.heap H) := fun b o e => hidT_get (KX b o e) (by
    rcases none_or b with z | z
    · exact z
    · cases q : H b with
      | none => rfl
      | some u =>
        rw [z] at q e
        rw [notK (by rw [q]; exact fun y => nomatch y)] at e
        cases e)
  have md : Mod K mg (hidT s.heap H) := ⟨kb, ns0 n1, ⟨mb, ns0 n2, bb⟩, by
    obtain ⟨mc, c1, c2⟩ := lim
    exact ⟨mc, ns0 c1, c2⟩⟩
  have noF : ∀ b : Addr, b ∉ ([] : List Addr) := fun b => by simp
  have e0 : Env0 P w K mg (hidT s.heap H) callerA [] s H := ⟨rfl, md, fun b o z => of_hidT z, Nat.le_of_eq (hidT_size _ _), trivial, fun b z => absurd (show b ∈ ([] : List Addr) from z) (noF b), ok, .of_eq gs⟩
  refine codeAny_mono ((F _ kb (ns0 n1)).goes callerA [] s H [.ref a] [.ref a] _ rfl hr e0 (bind s (.ref a)) (.cons rfl .nil) h) fun r s' z => ?_
  cases r with
  | error e => exact z.elim
  | ok fl =>
    cases fl with
    | next => exact False.elim z
    | brk => exact False.elim z
    | cont => exact False.elim z
    | ret u =>
      obtain ⟨v, H', os, bare, un, ok', rv, ev⟩ := z
      cases (show v = .bl true from ev)
      cases (show u = Value.bool true from rv)
      refine ⟨rfl, OldK.of_keep fun b o e => ?_, os, bare⟩
      cases q : H b with
      | none => exact un.keep b o e q (fun y => absurd (show b ∈ ([] : List Addr) from y) (noF b)) (noF b)
      | some u =>
        rcases only b with y | ⟨ob, xs, y⟩
        · rw [q] at y
          cases y
        · obtain ⟨g1, _⟩ := ok b _ y
          obtain ⟨g2, _⟩ := ok' b _ (un.frzs b ob _ y)
          rw [e] at g1
          cases g1
          exact g2
theorem law_told (KX : K.In s.heap) (n1 : s.heap.Ns mainGlobals mg) (n2 : s.heap.Ns builtinsNs mb) (bb : ∀ x : Str, x ≠ "__name__" → mb x = bootBuiltins x) (lim : s.heap.NoLimit) (gs : s.gens = #[])
    (oa : s.heap.get? a = some { cls := .type "list", data := .seq vs.toArray }) (isI : IntsAre vs ns) (few : ns.length ≤ sizeLine) (hr : Room k callerA) (F : ∀ base : Heap, K.In base → base.Ns mainGlobals mg → FnG P w K mg base k fa fd [x] sp)
    (bind : ∀ (s : Shared) (u : Value), BindsTo s fd ⟨[u], []⟩ [(x, u)]) (h : ∀ H : Hp, Only H → SqL K H a (ns.map V.int) → sp [.ref a] H (fun v _ => v = .bl true) E0) : codeAny (model P w) callerA (.call (.ref fa) ⟨[.ref a], []⟩) (Told s) s := by
  have rv := vals_ints isI
  have len := isI.length
  cases inK : K.lookup a with
  | some o =>
    have e := KX a o inK
    rw [oa] at e
    cases e
    have only : Only (fun _ => none) := fun _ => .inl rfl
    refine told_at KX n1 n2 bb lim gs oa hr F bind (fun _ => none) only (fun b u z => nomatch (show (none : Option HO) = some u from z)) (fun b z => absurd rfl z) (fun z => absurd rfl z) (h _ only ?_)
    exact .inr ⟨_, vs.toArray, _, inK, rfl, rfl, rfl, by rw [List.size_toArray, len]; exact few, by simpa using rv⟩
  | none =>
    let scr : Obj := { cls := .type "list", data := .seq vs.toArray }
    let H : Hp := fun b => if b = a then some (.frz scr (.lst (ns.map V.int))) else none
    have Ha : H a = some (.frz scr (.lst (ns.map V.int))) := if_pos rfl
    have Hb : ∀ b, b ≠ a → H b = none := fun b z => if_neg z
    have only : Only H := fun b => by
      by_cases z : b = a
      · exact .inr ⟨scr, _, by rw [z]; exact Ha⟩
      · exact .inl (Hb b z)
    refine told_at KX n1 n2 bb lim gs oa hr F bind H only (fun b u z => ?_) (fun b z => ?_) (fun _ => inK) (h H only (.inl (.inr ⟨scr, Ha⟩)))
    · by_cases y : b = a
      · subst y
        rw [Ha] at z
        cases z
        exact ⟨oa, by rw [List.length_map]; exact few, vs, _, rv, oa⟩
      · rw [Hb b y] at z
        cases z
    · by_cases y : b = a
      · exact y
      · exact absurd (Hb b y) z
end
theorem walk_told {l : PySem.W.OpenLaw} {n k : Nat} {q : Program} {loose : List Str} {XP : (Str → Option Value) → Heap → Prop} {YP : World → Heap → Prop} {d : DefRec} {K : Params → PySem.W.Frag} {sp : World → Sp} {x : Str} (most : l.most = some n) (few : n ≤ sizeLine) (nod : d.params.defaults = []) (hr : Room k callerA)
    (KI : ∀ (w : World) (h : Heap), YP w h → (K w.params).In h)
    (F : ∀ (w : World) (mg : Str → Option Value) (fa : Addr) (h : Heap), (K w.params).In h → h.Ns mainGlobals mg → mg d.name = some (.ref fa) → ∃ fd : FuncData, (∀ (s : Shared) (u : Value), BindsTo s fd ⟨[u], []⟩ [(x, u)]) ∧ ∀ base : Heap, (K w.params).In base → base.Ns mainGlobals mg → FnG l.prog w (K w.params) mg base k fa fd [x] (sp w))
    (holds : ∀ (w : World) (H : Hp) (a : Addr) (ns : List Int), ns.length ≤ n → SqL (K w.params) H a (ns.map V.int) → sp w [.ref a] H (fun v _ => v = .bl true) E0) : PySem.W.WalkO q loose XP YP l.row.toRowW d [] (fun f vs => PySem.call f vs) := Att.attach_call most nod fun w s₀ s₁ mg mb fa o pm cd doc a vs ns G Y ho hd hcd hmg hobj hints hlen hg => by
  obtain ⟨fd, bind, F1⟩ := F w mg fa _ (KI w _ Y) G.T.g hmg
  exact law_told (KI w _ Y) G.T.g G.T.b G.T.builtins G.T.nolimit hg hobj hints (Nat.le_trans hlen few) hr F1 bind fun H _ hS => holds w H a ns hlen hS
end EndG
abbrev sPool : Stmt := topS 28
abbrev sDraw : Stmt := topS 29
abbrev sPick : Stmt := topS 30
theorem scPool : FnScope ["_law_script", "_law_k", "_law_cell", "_law_size", "_law_mixed"] ["_law_script", "_law_k"] (defScope sPool) := ⟨rfl, rfl, rfl, by decide +kernel, rfl, by decide +kernel, by decide +kernel⟩
theorem scDraw : FnScope ["_law_pool_here", "_law_many", "_law_found"] ["_law_pool_here", "_law_many"] (defScope sDraw) := ⟨rfl, rfl, rfl, by decide +kernel, rfl, by decide +kernel, by decide +kernel⟩
theorem scPick : FnScope ["_law_pool_here", "_law_row"] ["_law_pool_here", "_law_row"] (defScope sPick) := ⟨rfl, rfl, rfl, by decide +kernel, rfl, by decide +kernel, by decide +kernel⟩
/-- a pool of draws stands at p -/
def PoolAt (H : Hp) (p : Addr) : Prop := ∃ x y : Int, H p = some (.lst [.int x, .int y]) ∧ 0 ≤ x ∧ 0 ≤ y ∧ y < 2147483648
/-- all that was known but for p is as it was -/
def But (p : Addr) (H H' : Hp) : Prop := ∀ b o, H b = some o → b ≠ p → H' b = some o
theorem But.refl (p : Addr) (H : Hp) : But p H H := fun _ _ h _ => h
theorem But.trans {p : Addr} {H H1 H2 : Hp} (a : But p H H1) (b : But p H1 H2) : But p H H2 := fun c o h n => b c o (a c o h n) n
theorem But.of {p : Addr} {H H' : Hp} (s : Same H H') : But p H H' := fun b o h _ => s b o h
theorem same_upd {H : Hp} {p : Addr} {o : HO} (h : H p = none) : Same H (upd H p o) := fun b x e => by
  rw [upd_ne (ne_of_none e h)]
  exact e
theorem But.upd {p : Addr} {H : Hp} {o : HO} : But p H (L2.upd H p o) := fun b x e n => by
  rw [upd_ne n]
  exact e
/-- what an expression gives, by what is true of it -/
theorem q_asgP {te : TE} {tz : TS} {D : Ends} {σ : L2.St} {H : Hp} {i : Nat} (Pr : V → Hp → Prop) (h : ∀ Q : VK, (∀ v H', Pr v H' → Q v H') → te σ H Q) (k : ∀ v H1, Pr v H1 → tz D (σ.set i (some v)) H1) : tSeq (tAsg te (gName i)) tz D σ H := h _ k
theorem But.rd {p : Addr} {H H' : Hp} (b : But p H H') {a : Addr} {u : HO} (n : a ≠ p) (h : Rd H a u) : Rd H' a u := by
  rcases h with h | ⟨o, h⟩
  · exact .inl (b _ _ h n)
  · exact .inr ⟨o, b _ _ h n⟩
theorem But.seq {p : Addr} {H H' : Hp} (b : But p H H') {K : PySem.W.Frag} {a : Addr} {xs : List V} (n : a ≠ p) (h : SqL K H a xs) : SqL K H' a xs := h.imp (b.rd n) id
theorem But.seqT {p : Addr} {H H' : Hp} (b : But p H H') {K : PySem.W.Frag} {a : Addr} {xs : List V} (n : a ≠ p) (h : SqT K H a xs) : SqT K H' a xs := h.imp (b.rd n) id
theorem at_nn {xs : List V} {v : Int} {x : V} (h0 : 0 ≤ v) (h : xs[v.toNat]? = some x) : atI xs v = some x := by
  obtain ⟨n, rfl⟩ := Int.eq_ofNat_of_zero_le h0
  exact atI_nat h
theorem b01 (b : Bool) : 0 ≤ (if b = true then (1 : Int) else 0) ∧ (if b = true then (1 : Int) else 0) ≤ 1 := by cases b <;> decide
structure Blt (mg : Str → Option Value) : Prop where
  abs : mg "abs" = none
  int : mg "int" = none
  len : mg "len" = none
  sum : mg "sum" = none
  max : mg "max" = none
  min : mg "min" = none
  range : mg "range" = none
  isinstance : mg "isinstance" = none
  bool : mg "bool" = none
  str : mg "str" = none
  tuple : mg "tuple" = none
  list : mg "list" = none
  dict : mg "dict" = none
  all : mg "all" = none
  sorted : mg "sorted" = none
  repr : mg "repr" = none
  zip : mg "zip" = none
section
variable {P : Program} {w : World} {K : PySem.W.Frag} {mg : Str → Option Value} {base : Heap}
def spPool (K : PySem.W.Frag) : Sp := fun vs H Q _ => ∃ (a : Addr) (ns : List Int) (k : Nat), vs = [.ref a, .int k] ∧ SqL K H a (ns.map V.int) ∧ k ≤ 1 ∧ (k < ns.length ∨ ns = []) ∧
  ∀ H' p, H p = none → Same H H' → PoolAt H' p → Q (.ref p) H'
theorem ok_pool {f : Addr} {fd : FuncData} (F : Fun K "_law_pool" "_law_pool" sPool f fd) (M : Blt mg) : FnOk P w K mg base CX0 1 f fd ["_law_script", "_law_k"] (spPool K) := by
  refine F.ok scPool (fun vs H Q E h => ?_) (fun cdv A outer s H vs Q E hr h => ?_)
  · obtain ⟨a, ns, k, rfl, _⟩ := h
    rfl
  · obtain ⟨a, ns, k, rfl, hS, hk, hin, q⟩ := h
    refine ⟨_, pss_cons (ps_set (i := 2) scPool.nd rfl (.inl rfl) (pe_ifExp (pt_cmpR op_lt (pv 1) (pe_callB call_len_seq (by rfl) M.len PySem.boot_len (pa_cons (pv 0) pa_nil)) (nomark _))
        (pe_ix ix_list (pv 0) (pv 1) (fun _ _ => rfl))
        (pe_op op_add (pe_op op_mul pe_int (pe_callB (cr_sum rfl) (by rfl) M.sum (by decide +kernel) (pa_cons (pe_slice sl_list (pv 0) po_none (po_some pe_int)) pa_nil))) (pv 1))))
      (pss_cons (ps_set (i := 3) scPool.nd rfl (.inl rfl) (pe_callB call_abs (by rfl) M.abs (by decide +kernel) (pa_cons (pv 2) pa_nil)))
      (pss_cons (ps_set (i := 4) scPool.nd rfl (.inl rfl)
        (pe_op op_add (pe_op op_add (pe_op op_add (pe_op op_mod (pe_callTy call_int1 (by rfl) M.int (by decide +kernel) (pa_cons (pv 3) pa_nil)) pe_int)
          (pe_op op_mul (pe_op op_mul pe_int (pv 1)) (pv 1))) (pe_op op_mul pe_int (pv 1))) pe_int))
      (pss_cons (ps_set (i := 4) scPool.nd rfl (.inl rfl)
        (pe_op op_mod (pe_callTy call_int1 (by rfl) M.int (by decide +kernel) (pa_cons (pe_op op_mul (pv 4) pe_int) pa_nil)) pe_int))
      (pss_one (ps_ret (pe_lst (pa_cons
          (pe_op op_mul (pv 3) (pe_callTy call_int1 (by rfl) M.int (by decide +kernel) (pa_cons (pe_cmpR op_ge (pv 3) (pe_op op_pow pe_int pe_int) (nomark _)) pa_nil)))
          (pa_cons (pe_op op_mod (pe_callTy call_int1 (by rfl) M.int (by decide +kernel) (pa_cons (pe_op op_mul (pv 4) (pv 4)) pa_nil)) pe_int) pa_nil)))))))), ?_⟩
    refine q_asgP (Pr := fun v H1 => (∃ c : Int, v = .int c) ∧ Same H H1) (fun Q' hq => ?_) (fun v H1 hv => ?_)
    · refine ⟨_, rfl, _, rfl, _, _, rfl, .inl hS, _, _, rfl, rfl, _, rfl, ite2 (fun e => ?_) (fun e => ?_)⟩
      · have e1 := of_decide_eq_true e
        rw [List.length_map] at e1
        have e2 : k < ns.length := by omega
        refine ⟨_, rfl, _, rfl, a, ns.map V.int, k, .int ns[k], rfl, rfl, hS, atI_nat ?_, hq _ _ ⟨⟨_, rfl⟩, Same.refl H⟩⟩
        rw [List.getElem?_map, List.getElem?_eq_getElem e2]
        rfl
      · have e1 : ns = [] := by
          rcases hin with h | h
          · refine absurd (decide_eq_true ?_) e
            rw [List.length_map]
            omega
          · exact h
        subst e1
        refine ⟨_, rfl, 63, rfl, a, _, rfl, hS, fun p np => ?_⟩
        refine ⟨p, [], rfl, .inl (.inl (upd_same.trans ?_)), _, _, rfl, rfl, .inl ⟨by decide, by decide⟩, _, rfl, _, _, rfl, rfl, hq _ _ ⟨⟨_, rfl⟩, same_upd np⟩⟩
        rfl
    · obtain ⟨⟨c, rfl⟩, s1⟩ := hv
      have hz : 0 ≤ (if c < 0 then -c else c) := by split <;> omega
      have fin : ∀ (x y : Int), 0 ≤ x → 0 ≤ y → y < 2147483648 → ∀ p, H1 p = none → Q (.ref p) (upd H1 p (.lst [.int x, .int y])) := fun x y hx hy hy2 p np =>
        q _ p (s1.free np) (s1.trans (same_upd np)) ⟨x, y, upd_same, hx, hy, hy2⟩
      refine ⟨.int c, rfl, _, rfl, ?_⟩
      refine ⟨_, rfl, .inl ⟨_, rfl, _, _, rfl, rfl, (by show (0 : Int) < 2147483629; decide), ?_⟩⟩
      have m1 : 0 ≤ (if c < 0 then -c else c) % 2147483629 := Int.emod_nonneg _ (by decide)
      have m2 : (if c < 0 then -c else c) % 2147483629 < 2147483629 := Int.emod_lt_of_pos _ (by decide)
      have k0 : (7919 * (k : Int) * (k : Int)) ≤ 7919 ∧ 0 ≤ (7919 * (k : Int) * (k : Int)) := by
        rcases (show k = 0 ∨ k = 1 by omega) with e | e <;> subst e <;> decide
      refine ⟨_, rfl, _, _, rfl, rfl, .inl ⟨by decide, by decide⟩, _, rfl, _, _, rfl, rfl, .inr ⟨by omega, by omega⟩, _, _, rfl, rfl, _, rfl, _, _, rfl, rfl, .inl ⟨by decide, by decide⟩, _, _, rfl, rfl, _, _, rfl, rfl, ?_⟩
      refine ⟨_, rfl, _, _, rfl, rfl, .inr ⟨by decide, by decide⟩, .inl ⟨_, rfl, _, _, rfl, rfl, (by show (0 : Int) < 2147483647; decide), ?_⟩⟩
      have n1 : 0 ≤ ((if c < 0 then -c else c) % 2147483629 + 7919 * (k : Int) * (k : Int) + 31 * (k : Int) + 17) * 48271 % 2147483647 := Int.emod_nonneg _ (by decide)
      have n2 : ((if c < 0 then -c else c) % 2147483629 + 7919 * (k : Int) * (k : Int) + 31 * (k : Int) + 17) * 48271 % 2147483647 < 2147483647 := Int.emod_lt_of_pos _ (by decide)
      refine ⟨_, rfl, _, rfl, _, _, rfl, rfl, ⟨by decide, by decide, by decide⟩, _, _, rfl, rfl, ?_⟩
      refine .inr ⟨_, rfl, ?_⟩
      refine ⟨_, _, rfl, rfl, .inr ?_, _, rfl, _, rfl, _, _, rfl, rfl, .inl ⟨by omega, by omega⟩, .inl ⟨_, rfl, _, _, rfl, rfl, (by show (0 : Int) < 2147483629; decide), (by show 2 ≤ sizeLine; decide), fun p np => ?_⟩⟩
      · exact ⟨Int.lt_of_lt_of_le (by decide) (b01 _).1, Int.lt_of_le_of_lt (b01 _).2 (by decide)⟩
      · refine fin _ _ (Int.mul_nonneg hz (b01 _).1) (Int.emod_nonneg _ (by decide)) ?_ p np
        exact Int.lt_trans (Int.emod_lt_of_pos _ (by decide)) (by decide)
def spDraw : Sp := fun vs H Q _ => ∃ (p : Addr) (n : Int), vs = [.ref p, .int n] ∧ PoolAt H p ∧ 0 < n ∧ n ≤ 1000000000 ∧
  ∀ (v : Int) H', 0 ≤ v → v < n → But p H H' → PoolAt H' p → (∀ b, H b = none → H' b = none) → Q (.int v) H'
theorem ok_draw {f : Addr} {fd : FuncData} (F : Fun K "_law_draw" "_law_draw" sDraw f fd) (M : Blt mg) : FnOk P w K mg base CX0 1 f fd ["_law_pool_here", "_law_many"] spDraw := by
  refine F.ok scDraw (fun vs H Q E h => ?_) (fun cdv A outer s H vs Q E hr h => ?_)
  · obtain ⟨p, n, rfl, _⟩ := h
    rfl
  · obtain ⟨p, n, rfl, ⟨x, y, hp, hx, hy, hy2⟩, hn, hn2, q⟩ := h
    refine ⟨_, pss_cons (ps_if (pt_cmpR op_gt (pe_ix ix_list (pv 0) pe_int (fun _ _ => rfl)) pe_int (nomark _))
        (pss_cons (ps_set (i := 2) scDraw.nd rfl (.inl rfl) (pe_op op_mod (pe_callTy call_int1 (by rfl) M.int (by decide +kernel) (pa_cons (pe_ix ix_list (pv 0) pe_int (fun _ _ => rfl)) pa_nil)) (pv 1)))
        (pss_cons (ps_asg (pe_op op_fdiv (pe_ix ix_list (pv 0) pe_int (fun _ _ => rfl)) (pv 1)) (pg_sub (pv 0) pe_int set_list))
        (pss_one (ps_ret (pv 2))))) pss_nil)
      (pss_cons (ps_asg (pe_op op_mod (pe_callTy call_int1 (by rfl) M.int (by decide +kernel) (pa_cons (pe_op op_add (pe_op op_mul (pe_ix ix_list (pv 0) pe_int (fun _ _ => rfl)) pe_int) pe_int) pa_nil)) pe_int) (pg_sub (pv 0) pe_int set_list))
      (pss_one (ps_ret (pe_op op_mod (pe_callTy call_int1 (by rfl) M.int (by decide +kernel) (pa_cons (pe_op op_fdiv (pe_op op_mod (pe_callTy call_int1 (by rfl) M.int (by decide +kernel)
          (pa_cons (pe_op op_mul (pe_ix ix_list (pv 0) pe_int (fun _ _ => rfl)) (pe_ix ix_list (pv 0) pe_int (fun _ _ => rfl))) pa_nil)) pe_int) pe_int) pa_nil)) (pv 1))))), ?_⟩
    have hS : SqL K H p [.int x, .int y] := .inl (.inl hp)
    have fr : ∀ o b, H b = none → upd H p o b = none := fun o b hb => by
      rw [upd_ne (fun e => by rw [e, hp] at hb; cases hb)]
      exact hb
    refine ⟨.ref p, rfl, p, _, 0, .int x, rfl, rfl, hS, rfl, x, 0, rfl, rfl, _, rfl, ite2 (fun e => ?_) (fun e => ?_)⟩
    · refine ⟨.ref p, rfl, p, _, 0, .int x, rfl, rfl, hS, rfl, .inl ⟨x, rfl, _, rfl, x, n, rfl, rfl, hn, ?_⟩⟩
      refine ⟨.ref p, rfl, p, _, 0, .int x, rfl, rfl, hS, rfl, .int n, rfl, x, n, rfl, rfl, ⟨hn, by omega⟩, ?_⟩
      refine ⟨.ref p, rfl, p, _, 0, 0, rfl, rfl, hp, rfl, ?_⟩
      refine ⟨_, rfl, q _ _ (Int.emod_nonneg _ (by omega)) (Int.emod_lt_of_pos _ hn) But.upd ⟨_, y, upd_same, ?_, hy, hy2⟩ (fr _)⟩
      exact Int.ediv_nonneg hx (by omega)
    · refine ⟨.ref p, rfl, p, _, 1, .int y, rfl, rfl, hS, rfl, y, _, rfl, rfl, .inl ⟨by omega, by omega⟩, _, _, rfl, rfl, .inl ⟨_, rfl, _, _, rfl, rfl, (by show (0 : Int) < 2147483647; decide), ?_⟩⟩
      refine ⟨.ref p, rfl, p, _, 1, 1, rfl, rfl, hp, rfl, ?_⟩
      have b1 : 0 ≤ (y * 48271 + 11) % 2147483647 := Int.emod_nonneg _ (by decide)
      have b2 : (y * 48271 + 11) % 2147483647 < 2147483647 := Int.emod_lt_of_pos _ (by decide)
      have hS2 : SqL K (upd H p (.lst ([V.int x, .int y].set 1 (.int ((y * 48271 + 11) % 2147483647))))) p [.int x, .int ((y * 48271 + 11) % 2147483647)] := .inl (.inl upd_same)
      refine ⟨.ref p, rfl, p, _, 1, _, rfl, rfl, hS2, rfl, .ref p, rfl, p, _, 1, _, rfl, rfl, hS2, rfl, _, _, rfl, rfl, .inl ⟨by omega, by omega⟩, .inl ⟨_, rfl, _, _, rfl, rfl, (by show (0 : Int) < 2147483629; decide), _, _, rfl, rfl, ⟨by decide, by decide⟩, .inl ⟨_, rfl, ?_⟩⟩⟩
      refine ⟨.int n, rfl, _, n, rfl, rfl, hn, ?_⟩
      exact q _ _ (Int.emod_nonneg _ (by omega)) (Int.emod_lt_of_pos _ hn) But.upd ⟨x, _, upd_same, hx, b1, by omega⟩ (fr _)
def spPick (K : PySem.W.Frag) : Sp := fun vs H Q _ => ∃ (p r : Addr) (xs : List V), vs = [.ref p, .ref r] ∧ PoolAt H p ∧ p ≠ r ∧ (SqL K H r xs ∨ SqT K H r xs) ∧ 0 < xs.length ∧ xs.length ≤ 1000000 ∧
  ∀ (i : Nat) (hi : i < xs.length) H', But p H H' → PoolAt H' p → (∀ b, H b = none → H' b = none) → Q xs[i] H'
theorem ok_pick {f fD : Addr} {fd fdD : FuncData} (F : Fun K "_law_pick" "_law_pick" sPick f fd) (M : Blt mg) (FD : Fun K "_law_draw" "_law_draw" sDraw fD fdD) (bD : Binds K fdD ["_law_pool_here", "_law_many"] []) (gD : mg "_law_draw" = some (.ref fD)) :
    FnOk P w K mg base CX0 2 f fd ["_law_pool_here", "_law_row"] (spPick K) := by
  have GD : FnOk P w K mg base CX0 1 fD fdD ["_law_pool_here", "_law_many"] spDraw := ok_draw FD M
  refine F.ok scPick (fun vs H Q E h => ?_) (fun cdv A outer s H vs Q E hr h => ?_)
  · obtain ⟨p, r, xs, rfl, _⟩ := h
    rfl
  · obtain ⟨p, r, xs, rfl, hp, npr, hS, hl, hl2, q⟩ := h
    refine ⟨_, pss_one (ps_ret (pe_ix ix_seq (pv 1) (pe_call GD hr (by rfl) gD FD.kp bD .nil pass0 (pa_cons (pv 0) (pa_cons (pe_callB call_len_seq (by rfl) M.len PySem.boot_len (pa_cons (pv 1) pa_nil)) pa_nil))) (fun _ _ => rfl))), ?_⟩
    refine ⟨_, rfl, _, rfl, _, rfl, _, _, rfl, hS, p, _, rfl, hp, by omega, by omega, fun v H' v0 v1 bt hp' fr => ?_⟩
    have hv : v.toNat < xs.length := by omega
    have ha : atI xs v = some xs[v.toNat] := at_nn v0 (List.getElem?_eq_getElem hv)
    have sk : SqL K H' r xs ∨ SqT K H' r xs := hS.imp (bt.seq npr.symm) (bt.seqT npr.symm)
    rcases sk with sk | sk
    · exact .inl ⟨_, _, _, _, rfl, rfl, sk, ha, q _ hv _ bt hp' fr⟩
    · exact .inr (.inl ⟨_, _, _, _, rfl, rfl, sk, ha, q _ hv _ bt hp' fr⟩)
end
/-! ### data -/
mutual
theorem dp_mono {K : PySem.W.Frag} {H H' : Hp} (ht : ∀ a xs, SqT K H a xs → SqT K H' a xs) (hl : ∀ a xs, SqL K H a xs → SqL K H' a xs) : ∀ (d : PyData) (v : V), Dp K H v d → Dp K H' v d
  | .none, _, h => by
    cases h
    exact .non
  | .bool b, _, h => by
    cases h
    exact .bl b
  | .int i, _, h => by
    cases h
    exact .int i
  | .str x, _, h => by
    cases h
    exact .str x
  | .list ds, _, h => by
    cases h with
    | lst hs ha => exact .lst (hl _ _ hs) (dpAll_mono ht hl ds _ ha)
  | .tuple ds, _, h => by
    cases h with
    | tup hs ha => exact .tup (ht _ _ hs) (dpAll_mono ht hl ds _ ha)
  | .dict _, _, h => by cases h
theorem dpAll_mono {K : PySem.W.Frag} {H H' : Hp} (ht : ∀ a xs, SqT K H a xs → SqT K H' a xs) (hl : ∀ a xs, SqL K H a xs → SqL K H' a xs) : ∀ (ds : List PyData) (vs : List V), DpAll K H vs ds → DpAll K H' vs ds
  | [], _, h => by
    cases h
    exact .nil
  | d :: ds, _, h => by
    cases h with
    | cons h1 h2 => exact .cons (dp_mono ht hl d _ h1) (dpAll_mono ht hl ds _ h2)
end
theorem same_sqT {K : PySem.W.Frag} {H H' : Hp} (s : Same H H') {a : Addr} {xs : List V} (h : SqT K H a xs) : SqT K H' a xs := by
  rcases h with (h | ⟨o, h⟩) | h
  · exact .inl (.inl (s _ _ h))
  · exact .inl (.inr ⟨o, s _ _ h⟩)
  · exact .inr h
theorem dp_same {K : PySem.W.Frag} {H H' : Hp} (s : Same H H') {d : PyData} {v : V} (h : Dp K H v d) : Dp K H' v d := dp_mono (fun _ _ => same_sqT s) (fun _ _ => s.seq) d v h
theorem dpA_same {K : PySem.W.Frag} {H H' : Hp} (s : Same H H') {ds : List PyData} {vs : List V} (h : DpAll K H vs ds) : DpAll K H' vs ds := dpAll_mono (fun _ _ => same_sqT s) (fun _ _ => s.seq) ds vs h
/-! data without lists -/
mutual
def noL : PyData → Bool
  | .list _ => false
  | .tuple ds => noLs ds
  | .dict _ => false
  | _ => true
def noLs : List PyData → Bool
  | [] => true
  | d :: ds => noL d && noLs ds
end
mutual
theorem dp_tups {K : PySem.W.Frag} {H H' : Hp} (ht : ∀ a xs, SqT K H a xs → SqT K H' a xs) : ∀ (d : PyData) (v : V), noL d = true → Dp K H v d → Dp K H' v d
  | .none, _, _, h => by
    cases h
    exact .non
  | .bool b, _, _, h => by
    cases h
    exact .bl b
  | .int i, _, _, h => by
    cases h
    exact .int i
  | .str x, _, _, h => by
    cases h
    exact .str x
  | .list ds, _, n, _ => by cases n
  | .tuple ds, _, n, h => by
    cases h with
    | tup hs ha => exact .tup (ht _ _ hs) (dpAll_tups ht ds _ n ha)
  | .dict _, _, _, h => by cases h
theorem dpAll_tups {K : PySem.W.Frag} {H H' : Hp} (ht : ∀ a xs, SqT K H a xs → SqT K H' a xs) : ∀ (ds : List PyData) (vs : List V), noLs ds = true → DpAll K H vs ds → DpAll K H' vs ds
  | [], _, _, h => by
    cases h
    exact .nil
  | d :: ds, _, n, h => by
    have n1 : noL d = true := (Bool.and_eq_true _ _ ▸ n : noL d = true ∧ noLs ds = true).1
    have n2 : noLs ds = true := (Bool.and_eq_true _ _ ▸ n : noL d = true ∧ noLs ds = true).2
    cases h with
    | cons h1 h2 => exact .cons (dp_tups ht d _ n1 h1) (dpAll_tups ht ds _ n2 h2)
end
/-- tuples stand while a list is changed -/
theorem but_sqT {K : PySem.W.Frag} {p : Addr} {H H' : Hp} {ys : List V} (hp : H p = some (.lst ys)) (b : But p H H') {a : Addr} {xs : List V} (h : SqT K H a xs) : SqT K H' a xs := by
  rcases h with (h | ⟨o, h⟩) | h
  · exact .inl (.inl (b _ _ h (ne_of h hp (fun z => nomatch z))))
  · exact .inl (.inr ⟨o, b _ _ h (ne_of h hp (fun z => nomatch z))⟩)
  · exact .inr h
theorem dp_but {K : PySem.W.Frag} {p : Addr} {H H' : Hp} (hp : PoolAt H p) (b : But p H H') {d : PyData} {v : V} (n : noL d = true) (h : Dp K H v d) : Dp K H' v d := by
  obtain ⟨x, y, e, _⟩ := hp
  exact dp_tups (fun _ _ => but_sqT e b) d v n h
/-- a value's own name of its class -/
def kind : PyData → String
  | .none => "NoneType"
  | .bool _ => "bool"
  | .int _ => "int"
  | .str _ => "str"
  | .list _ => "list"
  | .tuple _ => "tuple"
  | .dict _ => "dict"
theorem tyx_sqT {K : PySem.W.Frag} {H : Hp} {a : Addr} {xs : List V} (h : SqT K H a xs) : TyX K H (.ref a) (.type "tuple") := by
  rcases h with (h | ⟨o, h⟩) | ⟨o, _, _, h, c, _⟩
  · exact .base (.tup h)
  · exact .fTuple h
  · exact .kTuple h c
theorem tyx_sqL {K : PySem.W.Frag} {H : Hp} {a : Addr} {xs : List V} (h : SqL K H a xs) : TyX K H (.ref a) (.type "list") := by
  rcases h with (h | ⟨o, h⟩) | ⟨o, _, _, h, c, _⟩
  · exact .base (.lst h)
  · exact .base (.frz h)
  · exact .kList h c
theorem dp_ty {K : PySem.W.Frag} {H : Hp} {d : PyData} {v : V} (h : Dp K H v d) : TyX K H v (.type (kind d)) := by
  cases h with
  | non => exact .base .non
  | bl b => exact .base (.bl b)
  | int i => exact .base (.int i)
  | str x => exact .base (.str x)
  | lst hs _ => exact tyx_sqL hs
  | tup hs _ => exact tyx_sqT hs
def isInt : PyData → Bool
  | .int _ => true
  | .bool _ => true
  | _ => false
def isBool : PyData → Bool
  | .bool _ => true
  | _ => false
def isStr : PyData → Bool
  | .str _ => true
  | _ => false
def isTup : PyData → Bool
  | .tuple _ => true
  | _ => false
theorem kit_int (K : PySem.W.Frag) : ∀ d : PyData, PySem.W.kitOne K (.type (kind d)) (.type "int") = some (isInt d)
  | .none => kit_ty (show kitB "NoneType" "int" = some false by decide +kernel)
  | .bool _ => kit_ty (show kitB "bool" "int" = some true by decide +kernel)
  | .int _ => kit_ty (show kitB "int" "int" = some true by decide +kernel)
  | .str _ => kit_ty (show kitB "str" "int" = some false by decide +kernel)
  | .list _ => kit_ty (show kitB "list" "int" = some false by decide +kernel)
  | .tuple _ => kit_ty (show kitB "tuple" "int" = some false by decide +kernel)
  | .dict _ => kit_ty (show kitB "dict" "int" = some false by decide +kernel)
theorem kit_bool (K : PySem.W.Frag) : ∀ d : PyData, PySem.W.kitOne K (.type (kind d)) (.type "bool") = some (isBool d)
  | .none => kit_ty (show kitB "NoneType" "bool" = some false by decide +kernel)
  | .bool _ => kit_ty (show kitB "bool" "bool" = some true by decide +kernel)
  | .int _ => kit_ty (show kitB "int" "bool" = some false by decide +kernel)
  | .str _ => kit_ty (show kitB "str" "bool" = some false by decide +kernel)
  | .list _ => kit_ty (show kitB "list" "bool" = some false by decide +kernel)
  | .tuple _ => kit_ty (show kitB "tuple" "bool" = some false by decide +kernel)
  | .dict _ => kit_ty (show kitB "dict" "bool" = some false by decide +kernel)
theorem kit_str (K : PySem.W.Frag) : ∀ d : PyData, PySem.W.kitOne K (.type (kind d)) (.type "str") = some (isStr d)
  | .none => kit_ty (show kitB "NoneType" "str" = some false by decide +kernel)
  | .bool _ => kit_ty (show kitB "bool" "str" = some false by decide +kernel)
  | .int _ => kit_ty (show kitB "int" "str" = some false by decide +kernel)
  | .str _ => kit_ty (show kitB "str" "str" = some true by decide +kernel)
  | .list _ => kit_ty (show kitB "list" "str" = some false by decide +kernel)
  | .tuple _ => kit_ty (show kitB "tuple" "str" = some false by decide +kernel)
  | .dict _ => kit_ty (show kitB "dict" "str" = some false by decide +kernel)
theorem kit_tup (K : PySem.W.Frag) : ∀ d : PyData, PySem.W.kitOne K (.type (kind d)) (.type "tuple") = some (isTup d)
  | .none => kit_ty (show kitB "NoneType" "tuple" = some false by decide +kernel)
  | .bool _ => kit_ty (show kitB "bool" "tuple" = some false by decide +kernel)
  | .int _ => kit_ty (show kitB "int" "tuple" = some false by decide +kernel)
  | .str _ => kit_ty (show kitB "str" "tuple" = some false by decide +kernel)
  | .list _ => kit_ty (show kitB "list" "tuple" = some false by decide +kernel)
  | .tuple _ => kit_ty (show kitB "tuple" "tuple" = some true by decide +kernel)
  | .dict _ => kit_ty (show kitB "dict" "tuple" = some false by decide +kernel)
/-- a block that goes through an iterator: what each turn asks, and what holds at the end -/
abbrev Turns (J : It) (H0 : Hp) (End : Hp → Prop) (Body : (Hp → Prop) → V → Hp → Prop) : Prop :=
  ∃ Wk : Nat → Nat → Hp → Prop, (∃ left, Wk 0 left H0) ∧
    ∀ at_ left Hn, Wk at_ left Hn → (J.stop at_ Hn ∧ End Hn) ∨ (J.go at_ Hn ∧
      ∃ Then : Hp → Prop, (∀ Hb, Then Hb → ∃ fewer, fewer < left ∧ Wk (at_ + 1) fewer Hb) ∧ ∀ item Hi, J.yld at_ Hn item Hi → Body Then item Hi)
/-- a turn of a list's comprehension without a test -/
abbrev LcBody (D : Addr) (te : TE) (vs : List Nat) (j : Nat) (σ : L2.St) : (Hp → Prop) → V → Hp → Prop := fun Then item Hi =>
  gName j item (wipe σ vs) Hi fun σn Hn => wipe σn vs = wipe σ vs ∧ tYes σn Hn fun yes Hy =>
    if yes = true then te σn Hy (fun made Hm => ∃ sofar, Hm D = some (.lst sofar) ∧ sofar.length < sizeLine ∧ Then (upd Hm D (.lst (sofar ++ [made])))) else Then Hy
/-- a comprehension whose i-th item is f i -/
theorem lc_vals {J : It} {n : Nat} {G : Hp → Prop} {Y : Nat → Hp → V → Hp → Prop} (w : Walk J n G Y) {j : Nat} {te : TE} {vs : List Nat} {σ : L2.St} {H1 : Hp} {D : Addr} {Qd : Hp → Prop} (f : Nat → V) (hz : n ≤ 50000)
    (hD : H1 D = none) (hw : ∀ x, wipe ((wipe σ vs).set j (some x)) vs = wipe σ vs) (hG : ∀ H, Same H1 H → G H)
    (he : ∀ i x H H', i < n → Same H1 H → Y i H x H' → Same H H' ∧ ∀ Q : VK, (∀ H2, Same H' H2 → Q (f i) H2) → te ((wipe σ vs).set j (some x)) H' Q)
    (hd : ∀ H, Same H1 H → H D = some (.lst ((List.range n).map f)) → Qd H)  :
    Turns J (upd H1 D (.lst [])) Qd (LcBody D te vs j σ) := by
  refine lc_it w (fun i H => Same H1 H ∧ H D = some (.lst ((List.range i).map f))) ⟨same_upd hD, upd_same⟩ (fun i H _ p => hG H p.1) (fun i x H H' hi p y => ?_) (fun H p => hd H p.1 p.2)
  obtain ⟨s1, e1⟩ := p
  obtain ⟨s2, k⟩ := he i x H H' hi s1 y
  refine And.intro (hw x) ?_
  unfold tYes
  refine iteT ?_
  refine k _ fun H2 s3 => ⟨_, s3 _ _ (s2 _ _ e1), ?_, fun b o e => ?_, ?_⟩
  · rw [List.length_map, List.length_range]
    exact Nat.lt_of_lt_of_le (show i < 50000 by omega) (by decide)
  · have hb : b ≠ D := ne_of_none e hD
    rw [upd_ne hb]
    exact s3 _ _ (s2 _ _ (s1 _ _ e))
  · rw [upd_same, List.range_succ, List.map_append]
    rfl
theorem range_get {α : Type} (xs : List α) (f : Nat → α) (h : ∀ i x, xs[i]? = some x → f i = x) : (List.range xs.length).map f = xs := by
  apply List.ext_getElem?
  intro i
  rw [List.getElem?_map]
  by_cases hi : i < xs.length
  · rw [List.getElem?_range hi, List.getElem?_eq_getElem hi]
    exact congrArg some (h i _ (List.getElem?_eq_getElem hi))
  · rw [List.getElem?_eq_none (by simpa using hi), List.getElem?_eq_none (by simpa using hi)]
    rfl
theorem dpA_len {K : PySem.W.Frag} {H : Hp} : ∀ {ds : List PyData} {vs : List V}, DpAll K H vs ds → vs.length = ds.length
  | [], _, h => by
    cases h
    rfl
  | d :: ds, _, h => by
    cases h with
    | cons _ h2 => rw [List.length_cons, List.length_cons, dpA_len h2]
theorem dpA_get {K : PySem.W.Frag} {H : Hp} : ∀ {ds : List PyData} {vs : List V} {i : Nat} {d : PyData}, DpAll K H vs ds → ds[i]? = some d → ∃ v, vs[i]? = some v ∧ Dp K H v d
  | [], _, _, _, _, e => by simp at e
  | d :: ds, _, 0, _, h, e => by
    cases h with
    | cons h1 _ =>
      have e1 : d = _ := Option.some.inj e
      subst e1
      exact ⟨_, rfl, h1⟩
  | d :: ds, _, i + 1, _, h, e => by
    cases h with
    | cons _ h2 => exact dpA_get (i := i) h2 e
theorem dpA_app {K : PySem.W.Frag} {H : Hp} : ∀ {ds es : List PyData} {vs us : List V}, DpAll K H vs ds → DpAll K H us es → DpAll K H (vs ++ us) (ds ++ es)
  | [], _, _, _, h, h' => by
    cases h
    exact h'
  | d :: ds, _, _, _, h, h' => by
    cases h with
    | cons h1 h2 => exact .cons h1 (dpA_app h2 h')
/-- a walk by its turns, whatever a turn asks -/
theorem walk_gen {J : It} {n : Nat} {G : Hp → Prop} {Y : Nat → Hp → V → Hp → Prop} (w : Walk J n G Y) {H0 : Hp} {End : Hp → Prop} {Body : (Hp → Prop) → V → Hp → Prop} (Pv : Nat → Hp → Prop) (h0 : Pv 0 H0) (hG : ∀ i H, i ≤ n → Pv i H → G H)
    (hs : ∀ i x H H', i < n → Pv i H → Y i H x H' → Body (Pv (i + 1)) x H') (hd : ∀ H, Pv n H → End H) : Turns J H0 End Body := by
  refine ⟨fun at_ left Hn => at_ + left = n ∧ Pv at_ Hn, ⟨n, Nat.zero_add n, h0⟩, fun at_ left Hn ⟨sum, holds⟩ => ?_⟩
  cases left with
  | zero =>
    have all : at_ = n := sum
    subst all
    exact Or.inl (And.intro (w.stops Hn (hG _ Hn (Nat.le_refl _) holds)) (hd Hn holds))
  | succ less =>
    have more : at_ < n := by omega
    have good := hG at_ Hn (Nat.le_of_lt more) holds
    refine Or.inr (And.intro (w.goes at_ Hn more good) ⟨Pv (at_ + 1), fun Hb next => ⟨less, Nat.lt_succ_self less, by omega, next⟩, fun item Hi given => ?_⟩)
    exact hs at_ item Hn Hi more holds (w.yields at_ Hn item Hi more good given)
theorem dpA_at {K : PySem.W.Frag} {H : Hp} : ∀ {ds : List PyData} {vs : List V} {i : Nat} {v : V}, DpAll K H vs ds → vs[i]? = some v → ∃ d, ds[i]? = some d ∧ Dp K H v d
  | _, [], _, _, _, e => by simp at e
  | _, _ :: _, 0, _, h, e => by
    cases h with
    | cons h1 _ =>
      have e1 := Option.some.inj e
      subst e1
      exact ⟨_, rfl, h1⟩
  | _, _ :: _, i + 1, _, h, e => by
    cases h with
    | cons _ h2 => exact dpA_at (i := i) h2 e
theorem take_snoc {α : Type} : ∀ {l : List α} {i : Nat} {x : α}, l[i]? = some x → l.take (i + 1) = l.take i ++ [x]
  | [], i, x, h => by simp at h
  | a :: l, 0, x, h => by
    have e : a = x := Option.some.inj h
    subst e
    rfl
  | a :: l, i + 1, x, h => by
    have ih := take_snoc (l := l) (i := i) (x := x) h
    show a :: l.take (i + 1) = a :: l.take i ++ [x]
    rw [ih]
    rfl
theorem cut1 (xs : List V) : cutV xs (some 1) none = xs.drop 1 := by
  unfold cutV
  rw [show HT.sIx xs.length 0 (some 1) = min 1 xs.length from HT.sIx_nat xs.length 0 1, HT.sIx_none]
  cases xs with
  | nil => rfl
  | cons x r =>
    rw [show min 1 (x :: r).length = 1 by
      rw [List.length_cons]
      omega]
    show (List.take ((x :: r).length - 1) r) = r
    rw [List.length_cons, Nat.add_sub_cancel]
    exact List.take_length
theorem q_c {tz : TS} {D : Ends} {σ : L2.St} {H : Hp} {i : Nat} {v : V} (h : tz D (σ.set i (some v)) H) : tSeq (tAsg (tC v) (gName i)) tz D σ H := h
theorem q_w {c : TT} {tb tz : TS} {D : Ends} {σ : L2.St} {H : Hp} (h : tWhile c tb { D with nx := tz D } σ H) : tSeq (tWhile c tb) tz D σ H := h
theorem wh_by {c : TT} {tb : TS} {D : Ends} {σ : L2.St} {H : Hp} (W : Nat → L2.St → Hp → Prop) (m0 : Nat) (h0 : W m0 σ H)
    (hs : ∀ m σ H, W m σ H → c σ H fun b H1 => if b = true then tb { D with nx := fun σ' H' => ∃ m', m' < m ∧ W m' σ' H', ct := fun σ' H' => ∃ m', m' < m ∧ W m' σ' H', bk := D.nx } σ H1 else D.nx σ H1)
    (mono : ∀ σ H Q Q', (∀ b H1, Q b H1 → Q' b H1) → c σ H Q → c σ H Q') : tWhile c tb D σ H :=
  ⟨W, ⟨m0, h0⟩, fun m σ H hw => mono _ _ _ _ (fun b H1 q => by
    cases b with
    | true => exact ⟨_, fun σ' H' h => h, q⟩
    | false => exact q) (hs m σ H hw)⟩
/-- a comprehension whose i-th item is as R says -/
theorem lc_rel {J : It} {n : Nat} {G : Hp → Prop} {Y : Nat → Hp → V → Hp → Prop} (w : Walk J n G Y) {j : Nat} {te : TE} {vs : List Nat} {σ : L2.St} {H1 : Hp} {D : Addr} {Qd : Hp → Prop} (R : Nat → V → Hp → Prop) (hz : n ≤ 50000)
    (hD : H1 D = none) (hw : ∀ x, wipe ((wipe σ vs).set j (some x)) vs = wipe σ vs) (hG : ∀ H, Same H1 H → G H) (hR : ∀ i v H H' zs, H D = some (.lst zs) → But D H H' → R i v H → R i v H')
    (he : ∀ i x H H', i < n → Same H1 H → Y i H x H' → Same H H' ∧ ∀ Q : VK, (∀ v H2, Same H' H2 → R i v H2 → Q v H2) → te ((wipe σ vs).set j (some x)) H' Q)
    (hd : ∀ ys H, Same H1 H → H D = some (.lst ys) → ys.length = n → (∀ i v, ys[i]? = some v → R i v H) → Qd H)  :
    Turns J (upd H1 D (.lst [])) Qd (LcBody D te vs j σ) := by
  refine lc_it w (fun i H => Same H1 H ∧ ∃ ys, H D = some (.lst ys) ∧ ys.length = i ∧ ∀ k v, ys[k]? = some v → R k v H) ⟨same_upd hD, [], upd_same, rfl, fun k v e => by simp at e⟩ (fun i H _ p => hG H p.1) (fun i x H H' hi p y => ?_) (fun H p => ?_)
  · obtain ⟨s1, ys, e1, el, er⟩ := p
    obtain ⟨s2, k⟩ := he i x H H' hi s1 y
    refine And.intro (hw x) ?_
    unfold tYes
    refine iteT ?_
    refine k _ fun v H2 s3 rv => ⟨ys, s3 _ _ (s2 _ _ e1), ?_, fun b o e => ?_, ys ++ [v], upd_same, ?_, fun k u eu => ?_⟩
    · exact Nat.lt_of_lt_of_le (show ys.length < 50000 by omega) (by decide)
    · have hb : b ≠ D := ne_of_none e hD
      rw [upd_ne hb]
      exact s3 _ _ (s2 _ _ (s1 _ _ e))
    · rw [List.length_append, el]
      rfl
    · have e2 : H2 D = some (.lst ys) := s3 _ _ (s2 _ _ e1)
      refine hR k u H2 _ ys e2 But.upd ?_
      by_cases hk : k < ys.length
      · rw [List.getElem?_append_left hk] at eu
        exact hR k u H H2 ys e1 (But.of (s2.trans s3)) (er k u eu)
      · have hk2 : k = ys.length := by
          have := (List.getElem?_eq_some_iff.mp eu).1
          rw [List.length_append] at this
          simp at this
          omega
        rw [hk2, List.getElem?_append_right (Nat.le_refl _), Nat.sub_self] at eu
        have eu2 := Option.some.inj eu
        subst eu2
        rw [hk2, el]
        exact rv
  · obtain ⟨s1, ys, e1, el, er⟩ := p
    exact hd ys H s1 e1 el er
theorem PoolAt.upd {H : Hp} {p l : Addr} {o : HO} (h : PoolAt H p) (n : H l = none) : PoolAt (L2.upd H l o) p := by
  obtain ⟨x, y, e, r⟩ := h
  refine ⟨x, y, ?_, r⟩
  rw [upd_ne (ne_of_none e n)]
  exact e
theorem PoolAt.ne {H : Hp} {p l : Addr} (h : PoolAt H p) (n : H l = none) : p ≠ l := by
  obtain ⟨x, y, e, r⟩ := h
  exact ne_of_none e n
theorem PoolAt.same {H H' : Hp} {p : Addr} (h : PoolAt H p) (s : Same H H') : PoolAt H' p := by
  obtain ⟨x, y, e, r⟩ := h
  exact ⟨x, y, s _ _ e, r⟩
/-- a comprehension that draws: its items are as R says, whatever is drawn -/
theorem lc_pool {J : It} {n : Nat} {Y : Nat → Hp → V → Hp → Prop} (w : Walk J n (fun _ => True) Y) {j : Nat} {te : TE} {vs : List Nat} {σ : L2.St} {H1 : Hp} {D p : Addr} {Qd : Hp → Prop} (R : V → Prop) (hz : n ≤ 50000)
    (hD : H1 D = none) (hp : PoolAt H1 p) (hw : ∀ x, wipe ((wipe σ vs).set j (some x)) vs = wipe σ vs)
    (he : ∀ i x H H', i < n → PoolAt H p → Y i H x H' → H' = H ∧ ∀ Q : VK, (∀ v H2, But p H H2 → PoolAt H2 p → R v → Q v H2) → te ((wipe σ vs).set j (some x)) H Q)
    (hd : ∀ ys H, But p H1 H → PoolAt H p → H D = some (.lst ys) → ys.length = n → (∀ v ∈ ys, R v) → Qd H)  :
    Turns J (upd H1 D (.lst [])) Qd (LcBody D te vs j σ) := by
  have npD : D ≠ p := (hp.ne hD).symm
  refine lc_it w (fun i H => But p H1 H ∧ PoolAt H p ∧ ∃ ys, H D = some (.lst ys) ∧ ys.length = i ∧ ∀ v ∈ ys, R v) ⟨But.of (same_upd hD), hp.upd hD, [], upd_same, rfl, fun v e => by simp at e⟩ (fun i H _ p => True.intro) (fun i x H H' hi q y => ?_) (fun H q => ?_)
  · obtain ⟨s1, h1, ys, e1, el, er⟩ := q
    obtain ⟨rfl, k⟩ := he i x H H' hi h1 y
    refine And.intro (hw x) ?_
    unfold tYes
    refine iteT ?_
    refine k _ fun v H2 s3 h3 rv => ⟨ys, s3 _ _ e1 npD, ?_, fun b o e nb => ?_, ?_, ys ++ [v], upd_same, ?_, fun u hu => ?_⟩
    · exact Nat.lt_of_lt_of_le (show ys.length < 50000 by omega) (by decide)
    · have hb : b ≠ D := ne_of_none e hD
      rw [upd_ne hb]
      exact s3 _ _ (s1 _ _ e nb) nb
    · obtain ⟨x, y, e, r⟩ := h3
      exact ⟨x, y, by rw [upd_ne npD.symm]; exact e, r⟩
    · rw [List.length_append, el]
      rfl
    · rcases List.mem_append.mp hu with hu | hu
      · exact er u hu
      · rw [List.mem_singleton.mp hu]
        exact rv
  · obtain ⟨s1, h1, ys, e1, el, er⟩ := q
    exact hd ys H s1 h1 e1 el er
theorem at_of {j : Nat} {xs : List V} {v : V} {z : Int} (same : z = (j : Int)) (there : xs[j]? = some v) : atI xs z = some v := same ▸ atI_nat there
/-! ### rows of errors -/
/-- C1(f1 = e).f1, C2(f2 = e).f2, .. -/
def tTolds (K : PySem.W.Frag) : List (Addr × Str) → TE → TA
  | [], _ => tNil
  | (C, f) :: r, te => tCons (tErrF K f (tErr C f (tCons te tNil))) (tTolds K r te)
/-- C1(e), C2(e), .. -/
def tErrs : List (Addr × Str) → TE → TA
  | [], _ => tNil
  | (C, f) :: r, te => tCons (tErr C f (tCons te tNil)) (tErrs r te)
/-- what of a class is asked to read its field, and for isinstance -/
structure ErrI (K : PySem.W.Frag) (p : Addr × Str) : Prop where
  xf : XfC K p.1
  no : PySem.W.findIn K (.ref p.1) p.2 = some none
  er : ErrC K p.1
theorem tolds_ok {K : PySem.W.Frag} {te : TE} {σ : L2.St} {v : V} (arg : ∀ H (Q : VK), Q v H → te σ H Q) : ∀ (cs : List (Addr × Str)), (∀ p ∈ cs, ErrI K p) → ∀ (H : Hp) (Q : List V → Hp → Prop), (∀ H', Same H H' → Q (List.replicate cs.length v) H') → tTolds K cs te σ H Q
  | [], _, H, Q, q => q H (Same.refl H)
  | (C, f) :: r, hc, H, Q, q => arg _ _ ⟨v, rfl, fun a H' na s at_ => ⟨a, C, v, rfl, at_, (hc _ List.mem_cons_self).xf, (hc _ List.mem_cons_self).no,
      tolds_ok arg r (fun p hp => hc p (List.mem_cons_of_mem _ hp)) H' _ fun H'' s' => q H'' (s.trans s')⟩⟩
/-- the errors cs, all with v, stand at the places xs -/
def Errs (H : Hp) (cs : List (Addr × Str)) (xs : List V) (v : V) : Prop := xs.length = cs.length ∧ ∀ (k : Nat) (C : Addr) (f : Str), cs[k]? = some (C, f) → ∃ a, xs[k]? = some (.ref a) ∧ ErrAt H C f a v
theorem Errs.ext {H H' : Hp} {cs : List (Addr × Str)} {xs : List V} {v : V} (h : Errs H cs xs v) (s : Same H H') : Errs H' cs xs v := ⟨h.1, fun k C f e => by
  obtain ⟨a, ea, at_⟩ := h.2 k C f e
  exact ⟨a, ea, at_.ext s⟩⟩
theorem Errs.nil {H : Hp} {v : V} : Errs H [] [] v := ⟨rfl, fun k C f e => by simp at e⟩
theorem Errs.cons {H : Hp} {C a : Addr} {f : Str} {cs : List (Addr × Str)} {xs : List V} {v : V} (h : ErrAt H C f a v) (r : Errs H cs xs v) : Errs H ((C, f) :: cs) (.ref a :: xs) v := ⟨congrArg Nat.succ r.1, fun k D g e => by
  cases k with
  | zero =>
    cases e
    exact ⟨a, rfl, h⟩
  | succ k => exact r.2 k D g e⟩
theorem Errs.app {H : Hp} {cs ds : List (Addr × Str)} {xs ys : List V} {v : V} (h : Errs H cs xs v) (r : Errs H ds ys v) : Errs H (cs ++ ds) (xs ++ ys) v := ⟨by rw [List.length_append, List.length_append, h.1, r.1], fun k D g e => by
  by_cases hk : k < cs.length
  · rw [List.getElem?_append_left hk] at e
    obtain ⟨a, ea, at_⟩ := h.2 k D g e
    exact ⟨a, by rw [List.getElem?_append_left (by rw [h.1]; exact hk)]; exact ea, at_⟩
  · rw [List.getElem?_append_right (by omega)] at e
    obtain ⟨a, ea, at_⟩ := r.2 _ D g e
    exact ⟨a, by rw [List.getElem?_append_right (by rw [h.1]; omega), h.1]; exact ea, at_⟩⟩
theorem errs_ok {te : TE} {σ : L2.St} {v : V} (arg : ∀ H (Q : VK), Q v H → te σ H Q) : ∀ (cs : List (Addr × Str)) (H : Hp) (Q : List V → Hp → Prop), (∀ xs H', Same H H' → Errs H' cs xs v → Q xs H') → tErrs cs te σ H Q
  | [], H, Q, q => q [] H (Same.refl H) .nil
  | (C, f) :: r, H, Q, q => arg _ _ ⟨v, rfl, fun a H' na s at_ => errs_ok arg r H' _ fun xs H'' s' h => q _ H'' (s.trans s') (.cons (at_.ext s') h)⟩
/-- an item of a row of errors is an error of its class -/
theorem Errs.item {H : Hp} {cs : List (Addr × Str)} {xs : List V} {v x : V} {k : Nat} (h : Errs H cs xs v) (e : xs[k]? = some x) : ∃ C f a, cs[k]? = some (C, f) ∧ x = .ref a ∧ ErrAt H C f a v := by
  have hk : k < cs.length := by
    have := (List.getElem?_eq_some_iff.mp e).1
    rw [h.1] at this
    exact this
  obtain ⟨a, ea, at_⟩ := h.2 k cs[k].1 cs[k].2 (List.getElem?_eq_getElem hk)
  rw [ea] at e
  exact ⟨_, _, a, List.getElem?_eq_getElem hk, (Option.some.inj e).symm, at_⟩
/-- what is asked of a datum that is shown -/
structure Shown (d : PyData) : Prop where
  sh : d.showable = true
  nd : d.hasDict = false
  dp : d.depth ≤ 60
  sz : d.shown.length ≤ sizeLine
  ok : PyData.strOk d.shown = true
theorem rep_dp {K : PySem.W.Frag} {H : Hp} (z : Str) : ∀ n : Nat, DpAll K H (List.replicate n (V.str z)) (List.replicate n (PyData.str z))
  | 0 => .nil
  | n + 1 => .cons (.str z) (rep_dp z n)
theorem ok_text (x : String) : PyData.strOk (Str.ofString x) = true := by
  have h : ∀ l : List Char, (l.map Char.toNat).all (fun n => decide (n < 0x110000)) = true := by
    intro l
    induction l with
    | nil => rfl
    | cons c l ih =>
      rw [List.map_cons, List.all_cons, ih, Bool.and_true]
      refine decide_eq_true ?_
      have v : c.val.toNat < 0xd800 ∨ (0xdfff < c.val.toNat ∧ c.val.toNat < 0x110000) := c.valid
      show c.val.toNat < 0x110000
      omega
  rw [Str.ofString_eq_toList]
  unfold PyData.strOk
  simpa using h x.toList
theorem rep_lay {z : Str} (hz : PyData.strOk z = true) : ∀ n : Nat, PyData.canLayAll0 (List.replicate n (PyData.str z)) = true
  | 0 => by simp [PyData.canLayAll0]
  | n + 1 => by
    rw [List.replicate_succ]
    simp [PyData.canLayAll0, PyData.canLay0, hz, rep_lay hz n]
theorem rep_depth (z : Str) : ∀ n : Nat, PyData.depthAll (List.replicate n (PyData.str z)) = 0
  | 0 => by simp [PyData.depthAll]
  | n + 1 => by
    rw [List.replicate_succ]
    simp [PyData.depthAll, PyData.depth, rep_depth z n]
theorem rep_shaped {z : Str} (hz : PyData.strOk z = true) (n : Nat) : SeqAt.shaped (.list (List.replicate n (PyData.str z))) = true := by
  refine Bool.and_eq_true_iff.mpr ⟨?_, decide_eq_true ?_⟩
  · simp [PyData.canLay0, rep_lay hz n]
  · simp [PyData.depth, rep_depth z n]
theorem map_rep {α : Type} (x : α) (n : Nat) : (List.range n).map (fun _ => x) = List.replicate n x := by
  induction n with
  | zero => rfl
  | succ n ih => rw [List.range_succ, List.map_append, ih, List.replicate_succ']; rfl
theorem flat_rep {α : Type} (x : α) (n : Nat) : (List.replicate n [x]).flatten = List.replicate n x := by
  induction n with
  | zero => rfl
  | succ n ih => rw [List.replicate_succ, List.flatten_cons, ih]; rfl
/-! ### rows read -/
theorem q_tolds {K : PySem.W.Frag} {te : TE} {ta : TA} {tz : TS} {D : Ends} {σ : L2.St} {v : V} {H : Hp} {i : Nat} (n : Nat) (cs : List (Addr × Str)) (hc : ∀ p ∈ cs, ErrI K p) (e : ta = tTolds K cs te) (hn : cs.length = n) (hz : n ≤ sizeLine) (arg : ∀ H (Q : VK), Q v H → te σ H Q)
    (k : ∀ H1 l, Same H H1 → H1 l = none → tz D (σ.set i (some (.ref l))) (upd H1 l (.lst (List.replicate n v)))) : tSeq (tAsg (tLst ta) (gName i)) tz D σ H := by
  subst e
  subst hn
  exact tolds_ok arg cs hc H _ fun H' s => ⟨by rw [List.length_replicate]; exact hz, fun l n => k H' l s n⟩
theorem q_toldsC {K : PySem.W.Frag} {te : TE} {ta : TA} {tz : TS} {D : Ends} {σ : L2.St} {v : V} {H : Hp} {i j : Nat} (n m : Nat) (cs : List (Addr × Str)) (l : Addr) (hc : ∀ p ∈ cs, ErrI K p) (e : ta = tTolds K cs te) (hn : cs.length = n) (hz : m + n ≤ sizeLine) (arg : ∀ H (Q : VK), Q v H → te σ H Q)
    (hj : σ[j]? = some (some (.ref l))) (hl : H l = some (.lst (List.replicate m v)))
    (k : ∀ H1 q, Same H H1 → H1 q = none → tz D (σ.set i (some (.ref q))) (upd H1 q (.lst (List.replicate (m + n) v)))) : tSeq (tAsg (tOp rCat (tVar j) (tLst ta)) (gName i)) tz D σ H := by
  subst e
  subst hn
  refine ⟨_, hj, tolds_ok arg cs hc H _ fun H' s => ⟨by rw [List.length_replicate]; omega, fun p np => ⟨l, p, _, _, rfl, rfl, same_upd np _ _ (s _ _ hl), upd_same, by rw [List.length_replicate, List.length_replicate]; exact hz, fun q nq => ?_⟩⟩⟩
  rw [List.replicate_append_replicate]
  exact k _ q (s.trans (same_upd np)) nq
theorem q_errs {te : TE} {ta : TA} {tz : TS} {D : Ends} {σ : L2.St} {v : V} {H : Hp} {i : Nat} (cs : List (Addr × Str)) (e : ta = tErrs cs te) (hz : cs.length ≤ sizeLine) (arg : ∀ H (Q : VK), Q v H → te σ H Q)
    (k : ∀ xs H1 l, Same H H1 → H1 l = none → Errs (upd H1 l (.lst xs)) cs xs v → tz D (σ.set i (some (.ref l))) (upd H1 l (.lst xs))) : tSeq (tAsg (tLst ta) (gName i)) tz D σ H := by
  subst e
  exact errs_ok arg cs H _ fun xs H' s h => ⟨by rw [h.1]; exact hz, fun l n => k xs H' l s n (h.ext (same_upd n))⟩
theorem q_errsC {te : TE} {ta : TA} {tz : TS} {D : Ends} {σ : L2.St} {v : V} {H : Hp} {i j : Nat} (cs ds : List (Addr × Str)) (ys : List V) (l : Addr) (e : ta = tErrs cs te) (hz : ds.length + cs.length ≤ sizeLine) (arg : ∀ H (Q : VK), Q v H → te σ H Q)
    (hj : σ[j]? = some (some (.ref l))) (hl : H l = some (.lst ys)) (hy : Errs H ds ys v)
    (k : ∀ xs H1 q, Same H H1 → H1 q = none → Errs (upd H1 q (.lst (ys ++ xs))) (ds ++ cs) (ys ++ xs) v → tz D (σ.set i (some (.ref q))) (upd H1 q (.lst (ys ++ xs)))) : tSeq (tAsg (tOp rCat (tVar j) (tLst ta)) (gName i)) tz D σ H := by
  subst e
  refine ⟨_, hj, errs_ok arg cs H _ fun xs H' s h => ⟨by rw [h.1]; omega, fun p np => ⟨l, p, _, _, rfl, rfl, same_upd np _ _ (s _ _ hl), upd_same, by rw [h.1, hy.1]; exact hz, fun q nq => ?_⟩⟩⟩
  exact k xs _ q (s.trans (same_upd np)) nq ((hy.ext (s.trans ((same_upd np).trans (same_upd nq)))).app (h.ext ((same_upd np).trans (same_upd nq))))
/-! ### all classes of errors at hand -/
structure AllE (P : Program) (w : World) (K : PySem.W.Frag) (mg : Str → Option Value) (base : Heap) (S : Addr) where
  cBadLabel : Addr
  gBadLabel : Addr
  dBadLabel : FuncData
  tBadLabel : ErrA P w K mg base (famV S) "BadLabel" "label" cBadLabel gBadLabel dBadLabel
  cBadCell : Addr
  gBadCell : Addr
  dBadCell : FuncData
  tBadCell : ErrA P w K mg base (famV S) "BadCell" "index" cBadCell gBadCell dBadCell
  cBadPart : Addr
  gBadPart : Addr
  dBadPart : FuncData
  tBadPart : ErrA P w K mg base (famV S) "BadPart" "part" cBadPart gBadPart dBadPart
  cBadTerm : Addr
  gBadTerm : Addr
  dBadTerm : FuncData
  tBadTerm : ErrA P w K mg base (famV S) "BadTerm" "term" cBadTerm gBadTerm dBadTerm
  cBadFunction : Addr
  gBadFunction : Addr
  dBadFunction : FuncData
  tBadFunction : ErrA P w K mg base (famV S) "BadFunction" "index" cBadFunction gBadFunction dBadFunction
  cBadState : Addr
  gBadState : Addr
  dBadState : FuncData
  tBadState : ErrA P w K mg base (famV S) "BadState" "name" cBadState gBadState dBadState
  cBadArguments : Addr
  gBadArguments : Addr
  dBadArguments : FuncData
  tBadArguments : ErrA P w K mg base (famV S) "BadArguments" "arguments" cBadArguments gBadArguments dBadArguments
  cBadTick : Addr
  gBadTick : Addr
  dBadTick : FuncData
  tBadTick : ErrA P w K mg base (famV S) "BadTick" "value" cBadTick gBadTick dBadTick
  cBadCall : Addr
  gBadCall : Addr
  dBadCall : FuncData
  tBadCall : ErrA P w K mg base (famV S) "BadCall" "index" cBadCall gBadCall dBadCall
  cBadTree : Addr
  gBadTree : Addr
  dBadTree : FuncData
  tBadTree : ErrA P w K mg base (famV S) "BadTree" "tree" cBadTree gBadTree dBadTree
  cBadOutput : Addr
  gBadOutput : Addr
  dBadOutput : FuncData
  tBadOutput : ErrA P w K mg base (famV S) "BadOutput" "index" cBadOutput gBadOutput dBadOutput
  cBadOrder : Addr
  gBadOrder : Addr
  dBadOrder : FuncData
  tBadOrder : ErrA P w K mg base (famV S) "BadOrder" "index" cBadOrder gBadOrder dBadOrder
  cBadMark : Addr
  gBadMark : Addr
  dBadMark : FuncData
  tBadMark : ErrA P w K mg base (famV S) "BadMark" "index" cBadMark gBadMark dBadMark
  cBadTable : Addr
  gBadTable : Addr
  dBadTable : FuncData
  tBadTable : ErrA P w K mg base (famV S) "BadTable" "index" cBadTable gBadTable dBadTable
  cBadPlan : Addr
  gBadPlan : Addr
  dBadPlan : FuncData
  tBadPlan : ErrA P w K mg base (famV S) "BadPlan" "plan" cBadPlan gBadPlan dBadPlan
  cBadToken : Addr
  gBadToken : Addr
  dBadToken : FuncData
  tBadToken : ErrA P w K mg base (famV S) "BadToken" "token" cBadToken gBadToken dBadToken
  cBadText : Addr
  gBadText : Addr
  dBadText : FuncData
  tBadText : ErrA P w K mg base (famV S) "BadText" "index" cBadText gBadText dBadText
  cBadLine : Addr
  gBadLine : Addr
  dBadLine : FuncData
  tBadLine : ErrA P w K mg base (famV S) "BadLine" "line" cBadLine gBadLine dBadLine
  cBadChance : Addr
  gBadChance : Addr
  dBadChance : FuncData
  tBadChance : ErrA P w K mg base (famV S) "BadChance" "index" cBadChance gBadChance dBadChance
  cBadMove : Addr
  gBadMove : Addr
  dBadMove : FuncData
  tBadMove : ErrA P w K mg base (famV S) "BadMove" "index" cBadMove gBadMove dBadMove
  cBadRun : Addr
  gBadRun : Addr
  dBadRun : FuncData
  tBadRun : ErrA P w K mg base (famV S) "BadRun" "index" cBadRun gBadRun dBadRun
  cBadMoment : Addr
  gBadMoment : Addr
  dBadMoment : FuncData
  tBadMoment : ErrA P w K mg base (famV S) "BadMoment" "moment" cBadMoment gBadMoment dBadMoment
  cUnknownName : Addr
  gUnknownName : Addr
  dUnknownName : FuncData
  tUnknownName : ErrA P w K mg base famK "UnknownName" "name" cUnknownName gUnknownName dUnknownName
  cTooMany : Addr
  gTooMany : Addr
  dTooMany : FuncData
  tTooMany : ErrA P w K mg base famO "TooMany" "limit" cTooMany gTooMany dTooMany
  cNothingToUndo : Addr
  gNothingToUndo : Addr
  dNothingToUndo : FuncData
  tNothingToUndo : ErrA P w K mg base famR "NothingToUndo" "name" cNothingToUndo gNothingToUndo dNothingToUndo
  sBadLabel : PySem.W.kitOne K (.ref cBadLabel) (.ref S) = some true
  vBadLabel : PySem.W.kitOne K (.ref cBadLabel) (.type "ValueError") = some true
  sBadCell : PySem.W.kitOne K (.ref cBadCell) (.ref S) = some true
  vBadCell : PySem.W.kitOne K (.ref cBadCell) (.type "ValueError") = some true
  sBadPart : PySem.W.kitOne K (.ref cBadPart) (.ref S) = some true
  vBadPart : PySem.W.kitOne K (.ref cBadPart) (.type "ValueError") = some true
  sBadTerm : PySem.W.kitOne K (.ref cBadTerm) (.ref S) = some true
  vBadTerm : PySem.W.kitOne K (.ref cBadTerm) (.type "ValueError") = some true
  sBadFunction : PySem.W.kitOne K (.ref cBadFunction) (.ref S) = some true
  vBadFunction : PySem.W.kitOne K (.ref cBadFunction) (.type "ValueError") = some true
  sBadState : PySem.W.kitOne K (.ref cBadState) (.ref S) = some true
  vBadState : PySem.W.kitOne K (.ref cBadState) (.type "ValueError") = some true
  sBadArguments : PySem.W.kitOne K (.ref cBadArguments) (.ref S) = some true
  vBadArguments : PySem.W.kitOne K (.ref cBadArguments) (.type "ValueError") = some true
  sBadTick : PySem.W.kitOne K (.ref cBadTick) (.ref S) = some true
  vBadTick : PySem.W.kitOne K (.ref cBadTick) (.type "ValueError") = some true
  sBadCall : PySem.W.kitOne K (.ref cBadCall) (.ref S) = some true
  vBadCall : PySem.W.kitOne K (.ref cBadCall) (.type "ValueError") = some true
  sBadTree : PySem.W.kitOne K (.ref cBadTree) (.ref S) = some true
  vBadTree : PySem.W.kitOne K (.ref cBadTree) (.type "ValueError") = some true
  sBadOutput : PySem.W.kitOne K (.ref cBadOutput) (.ref S) = some true
  vBadOutput : PySem.W.kitOne K (.ref cBadOutput) (.type "ValueError") = some true
  sBadOrder : PySem.W.kitOne K (.ref cBadOrder) (.ref S) = some true
  vBadOrder : PySem.W.kitOne K (.ref cBadOrder) (.type "ValueError") = some true
  sBadMark : PySem.W.kitOne K (.ref cBadMark) (.ref S) = some true
  vBadMark : PySem.W.kitOne K (.ref cBadMark) (.type "ValueError") = some true
  sBadTable : PySem.W.kitOne K (.ref cBadTable) (.ref S) = some true
  vBadTable : PySem.W.kitOne K (.ref cBadTable) (.type "ValueError") = some true
  sBadPlan : PySem.W.kitOne K (.ref cBadPlan) (.ref S) = some true
  vBadPlan : PySem.W.kitOne K (.ref cBadPlan) (.type "ValueError") = some true
  sBadToken : PySem.W.kitOne K (.ref cBadToken) (.ref S) = some true
  vBadToken : PySem.W.kitOne K (.ref cBadToken) (.type "ValueError") = some true
  sBadText : PySem.W.kitOne K (.ref cBadText) (.ref S) = some true
  vBadText : PySem.W.kitOne K (.ref cBadText) (.type "ValueError") = some true
  sBadLine : PySem.W.kitOne K (.ref cBadLine) (.ref S) = some true
  vBadLine : PySem.W.kitOne K (.ref cBadLine) (.type "ValueError") = some true
  sBadChance : PySem.W.kitOne K (.ref cBadChance) (.ref S) = some true
  vBadChance : PySem.W.kitOne K (.ref cBadChance) (.type "ValueError") = some true
  sBadMove : PySem.W.kitOne K (.ref cBadMove) (.ref S) = some true
  vBadMove : PySem.W.kitOne K (.ref cBadMove) (.type "ValueError") = some true
  sBadRun : PySem.W.kitOne K (.ref cBadRun) (.ref S) = some true
  vBadRun : PySem.W.kitOne K (.ref cBadRun) (.type "ValueError") = some true
  sBadMoment : PySem.W.kitOne K (.ref cBadMoment) (.ref S) = some true
  vBadMoment : PySem.W.kitOne K (.ref cBadMoment) (.type "ValueError") = some true
  sUnknownName : PySem.W.kitOne K (.ref cUnknownName) (.ref S) = some false
  vUnknownName : PySem.W.kitOne K (.ref cUnknownName) (.type "KeyError") = some true
  sTooMany : PySem.W.kitOne K (.ref cTooMany) (.ref S) = some false
  vTooMany : PySem.W.kitOne K (.ref cTooMany) (.type "OverflowError") = some true
  sNothingToUndo : PySem.W.kitOne K (.ref cNothingToUndo) (.ref S) = some false
  vNothingToUndo : PySem.W.kitOne K (.ref cNothingToUndo) (.type "RuntimeError") = some true
  pBadRun_BadTable : PySem.W.kitOne K (.ref cBadRun) (.ref cBadTable) = some false
  pBadLine_BadText : PySem.W.kitOne K (.ref cBadLine) (.ref cBadText) = some false
  pBadOutput_BadCall : PySem.W.kitOne K (.ref cBadOutput) (.ref cBadCall) = some false
  pBadOrder_BadMark : PySem.W.kitOne K (.ref cBadOrder) (.ref cBadMark) = some false
  pBadMark_BadOrder : PySem.W.kitOne K (.ref cBadMark) (.ref cBadOrder) = some false
  pBadMove_BadMark : PySem.W.kitOne K (.ref cBadMove) (.ref cBadMark) = some false
  pBadPlan_BadCall : PySem.W.kitOne K (.ref cBadPlan) (.ref cBadCall) = some false
  pBadMoment_BadToken : PySem.W.kitOne K (.ref cBadMoment) (.ref cBadToken) = some false
  pBadChance_BadTable : PySem.W.kitOne K (.ref cBadChance) (.ref cBadTable) = some false
  pBadCell_BadFunction : PySem.W.kitOne K (.ref cBadCell) (.ref cBadFunction) = some false
  pBadFunction_BadCell : PySem.W.kitOne K (.ref cBadFunction) (.ref cBadCell) = some false
  pBadPart_BadTerm : PySem.W.kitOne K (.ref cBadPart) (.ref cBadTerm) = some false
  gS : mg "StoreError" = some (.ref S)
section
variable {P : Program} {w : World} {K : PySem.W.Frag} {mg : Str → Option Value} {base : Heap} {S : Addr}
theorem ErrA.i {fam : Fam} {x f : Str} {C g : Addr} {fd : FuncData} (T : ErrA P w K mg base fam x f C g fd) : ErrI K (C, f) := ⟨T.xf, T.no, T.er⟩
def rL1 (U : AllE P w K mg base S) : List (Addr × Str) := [(U.cBadCall, "index"), (U.cBadTree, "tree"), (U.cBadOutput, "index"), (U.cBadOrder, "index")]
theorem rL1_i (U : AllE P w K mg base S) : ∀ p ∈ rL1 U, ErrI K p := by
  intro p hp
  simp only [rL1, List.mem_cons, List.not_mem_nil, or_false] at hp
  rcases hp with rfl | rfl | rfl | rfl
  · exact U.tBadCall.i
  · exact U.tBadTree.i
  · exact U.tBadOutput.i
  · exact U.tBadOrder.i
def rL2 (U : AllE P w K mg base S) : List (Addr × Str) := [(U.cBadMark, "index"), (U.cBadTable, "index"), (U.cBadPlan, "plan"), (U.cBadToken, "token")]
theorem rL2_i (U : AllE P w K mg base S) : ∀ p ∈ rL2 U, ErrI K p := by
  intro p hp
  simp only [rL2, List.mem_cons, List.not_mem_nil, or_false] at hp
  rcases hp with rfl | rfl | rfl | rfl
  · exact U.tBadMark.i
  · exact U.tBadTable.i
  · exact U.tBadPlan.i
  · exact U.tBadToken.i
def rL3 (U : AllE P w K mg base S) : List (Addr × Str) := [(U.cBadText, "index"), (U.cBadLine, "line"), (U.cBadChance, "index"), (U.cBadMove, "index")]
theorem rL3_i (U : AllE P w K mg base S) : ∀ p ∈ rL3 U, ErrI K p := by
  intro p hp
  simp only [rL3, List.mem_cons, List.not_mem_nil, or_false] at hp
  rcases hp with rfl | rfl | rfl | rfl
  · exact U.tBadText.i
  · exact U.tBadLine.i
  · exact U.tBadChance.i
  · exact U.tBadMove.i
def rL4 (U : AllE P w K mg base S) : List (Addr × Str) := [(U.cBadRun, "index"), (U.cBadMoment, "moment")]
theorem rL4_i (U : AllE P w K mg base S) : ∀ p ∈ rL4 U, ErrI K p := by
  intro p hp
  simp only [rL4, List.mem_cons, List.not_mem_nil, or_false] at hp
  rcases hp with rfl | rfl
  · exact U.tBadRun.i
  · exact U.tBadMoment.i
def eL1 (U : AllE P w K mg base S) : List (Addr × Str) := [(U.cBadCall, "index"), (U.cBadTree, "tree"), (U.cBadOutput, "index"), (U.cBadOrder, "index"), (U.cBadMark, "index"), (U.cBadTable, "index"), (U.cBadPlan, "plan")]
def eL2 (U : AllE P w K mg base S) : List (Addr × Str) := [(U.cBadToken, "token"), (U.cBadText, "index"), (U.cBadLine, "line"), (U.cBadChance, "index"), (U.cBadMove, "index"), (U.cBadRun, "index"), (U.cBadMoment, "moment")]
def rF1 (U : AllE P w K mg base S) : List (Addr × Str) := [(U.cBadLabel, "label"), (U.cBadCell, "index"), (U.cBadPart, "part"), (U.cBadTerm, "term")]
theorem rF1_i (U : AllE P w K mg base S) : ∀ p ∈ rF1 U, ErrI K p := by
  intro p hp
  simp only [rF1, List.mem_cons, List.not_mem_nil, or_false] at hp
  rcases hp with rfl | rfl | rfl | rfl
  · exact U.tBadLabel.i
  · exact U.tBadCell.i
  · exact U.tBadPart.i
  · exact U.tBadTerm.i
def rF2 (U : AllE P w K mg base S) : List (Addr × Str) := [(U.cBadFunction, "index"), (U.cBadState, "name"), (U.cBadArguments, "arguments")]
theorem rF2_i (U : AllE P w K mg base S) : ∀ p ∈ rF2 U, ErrI K p := by
  intro p hp
  simp only [rF2, List.mem_cons, List.not_mem_nil, or_false] at hp
  rcases hp with rfl | rfl | rfl
  · exact U.tBadFunction.i
  · exact U.tBadState.i
  · exact U.tBadArguments.i
def rF3 (U : AllE P w K mg base S) : List (Addr × Str) := [(U.cBadTick, "value"), (U.cUnknownName, "name"), (U.cTooMany, "limit"), (U.cNothingToUndo, "name")]
theorem rF3_i (U : AllE P w K mg base S) : ∀ p ∈ rF3 U, ErrI K p := by
  intro p hp
  simp only [rF3, List.mem_cons, List.not_mem_nil, or_false] at hp
  rcases hp with rfl | rfl | rfl | rfl
  · exact U.tBadTick.i
  · exact U.tUnknownName.i
  · exact U.tTooMany.i
  · exact U.tNothingToUndo.i
def eF1 (U : AllE P w K mg base S) : List (Addr × Str) := [(U.cBadLabel, "label"), (U.cBadCell, "index"), (U.cBadPart, "part"), (U.cBadTerm, "term"), (U.cBadFunction, "index"), (U.cBadState, "name")]
def eF2 (U : AllE P w K mg base S) : List (Addr × Str) := [(U.cBadArguments, "arguments"), (U.cBadTick, "value")]
def eO (U : AllE P w K mg base S) : List (Addr × Str) := [(U.cUnknownName, "name"), (U.cTooMany, "limit"), (U.cNothingToUndo, "name")]
theorem eO_i (U : AllE P w K mg base S) : ∀ p ∈ eO U, ErrI K p := by
  intro p hp
  simp only [eO, List.mem_cons, List.not_mem_nil, or_false] at hp
  rcases hp with rfl | rfl | rfl
  · exact U.tUnknownName.i
  · exact U.tTooMany.i
  · exact U.tNothingToUndo.i
theorem eL_k (U : AllE P w K mg base S) : ∀ p ∈ eL1 U ++ eL2 U, ErrC K p.1 ∧ PySem.W.kitOne K (.ref p.1) (.ref S) = some true ∧ PySem.W.kitOne K (.ref p.1) (.type "ValueError") = some true := by
  intro p hp
  simp only [eL1, eL2, eF1, eF2, List.cons_append, List.nil_append, List.mem_cons, List.not_mem_nil, or_false] at hp
  rcases hp with rfl | rfl | rfl | rfl | rfl | rfl | rfl | rfl | rfl | rfl | rfl | rfl | rfl | rfl
  · exact ⟨U.tBadCall.er, U.sBadCall, U.vBadCall⟩
  · exact ⟨U.tBadTree.er, U.sBadTree, U.vBadTree⟩
  · exact ⟨U.tBadOutput.er, U.sBadOutput, U.vBadOutput⟩
  · exact ⟨U.tBadOrder.er, U.sBadOrder, U.vBadOrder⟩
  · exact ⟨U.tBadMark.er, U.sBadMark, U.vBadMark⟩
  · exact ⟨U.tBadTable.er, U.sBadTable, U.vBadTable⟩
  · exact ⟨U.tBadPlan.er, U.sBadPlan, U.vBadPlan⟩
  · exact ⟨U.tBadToken.er, U.sBadToken, U.vBadToken⟩
  · exact ⟨U.tBadText.er, U.sBadText, U.vBadText⟩
  · exact ⟨U.tBadLine.er, U.sBadLine, U.vBadLine⟩
  · exact ⟨U.tBadChance.er, U.sBadChance, U.vBadChance⟩
  · exact ⟨U.tBadMove.er, U.sBadMove, U.vBadMove⟩
  · exact ⟨U.tBadRun.er, U.sBadRun, U.vBadRun⟩
  · exact ⟨U.tBadMoment.er, U.sBadMoment, U.vBadMoment⟩
theorem eF_k (U : AllE P w K mg base S) : ∀ p ∈ eF1 U ++ eF2 U, ErrC K p.1 ∧ PySem.W.kitOne K (.ref p.1) (.ref S) = some true ∧ PySem.W.kitOne K (.ref p.1) (.type "ValueError") = some true := by
  intro p hp
  simp only [eL1, eL2, eF1, eF2, List.cons_append, List.nil_append, List.mem_cons, List.not_mem_nil, or_false] at hp
  rcases hp with rfl | rfl | rfl | rfl | rfl | rfl | rfl | rfl
  · exact ⟨U.tBadLabel.er, U.sBadLabel, U.vBadLabel⟩
  · exact ⟨U.tBadCell.er, U.sBadCell, U.vBadCell⟩
  · exact ⟨U.tBadPart.er, U.sBadPart, U.vBadPart⟩
  · exact ⟨U.tBadTerm.er, U.sBadTerm, U.vBadTerm⟩
  · exact ⟨U.tBadFunction.er, U.sBadFunction, U.vBadFunction⟩
  · exact ⟨U.tBadState.er, U.sBadState, U.vBadState⟩
  · exact ⟨U.tBadArguments.er, U.sBadArguments, U.vBadArguments⟩
  · exact ⟨U.tBadTick.er, U.sBadTick, U.vBadTick⟩
theorem eO_k (U : AllE P w K mg base S) : ∀ p ∈ eO U, ErrC K p.1 ∧ PySem.W.kitOne K (.ref p.1) (.ref S) = some false := by
  intro p hp
  simp only [eO, List.mem_cons, List.not_mem_nil, or_false] at hp
  rcases hp with rfl | rfl | rfl
  · exact ⟨U.tUnknownName.er, U.sUnknownName⟩
  · exact ⟨U.tTooMany.er, U.sTooMany⟩
  · exact ⟨U.tNothingToUndo.er, U.sNothingToUndo⟩
end
/-! ### the later ones -/
abbrev sLater : Stmt := topS 31
theorem scLater : FnScope ["_law_thing", "_law_told", "_law_errors", "_law_one", "_law_error"] ["_law_thing"] (defScope sLater) := ⟨rfl, rfl, rfl, by decide +kernel, rfl, by decide +kernel, by decide +kernel⟩
structure Bases (mg : Str → Option Value) : Prop where
  ValueError : mg "ValueError" = none
  KeyError : mg "KeyError" = none
  OverflowError : mg "OverflowError" = none
  RuntimeError : mg "RuntimeError" = none
def spLater (K : PySem.W.Frag) : Sp := fun vs H Q _ => ∃ v d, vs = [v] ∧ Dp K H v d ∧ Shown d ∧ ∀ H', Same H H' → Q (.bl true) H'
/-- a comprehension that shows each of n equal values -/
theorem lc_shown {K : PySem.W.Frag} {v : V} {d : PyData} {n j : Nat} {p D : Addr} {vs : List Nat} {σ : L2.St} {H1 : Hp} {te : TE} {Qd : Hp → Prop} (hn : n ≤ 100) (sh : Shown d) (e1 : H1 p = some (.lst (List.replicate n v))) (hv : Dp K H1 v d) (hD : H1 D = none)
    (hw : ∀ x, wipe ((wipe σ vs).set j (some x)) vs = wipe σ vs) (arg : ∀ (H : Hp) (Q : VK), rReprD K [v] H Q → te ((wipe σ vs).set j (some v)) H Q) (hd : ∀ H, Same H1 H → H D = some (.lst (List.replicate n (.str d.shown))) → Qd H) :
    Turns (Itl K p) (upd H1 D (.lst [])) Qd (LcBody D te vs j σ) := by
  have len : (List.replicate n v).length = n := List.length_replicate
  refine lc_vals (walk_list (K := K) (a := p) (xs := List.replicate n v)) (fun _ => .str d.shown) (by rw [len]; omega) hD hw (fun H s => s.seq (.inl (.inl e1))) (fun i x H H' hi s y => ?_) (fun H s e => ?_)
  · obtain ⟨rfl, ex⟩ := y
    have xv : x = v := by
      rw [List.getElem?_replicate] at ex
      split at ex
      · exact (Option.some.inj ex).symm
      · cases ex
    subst xv
    exact ⟨Same.refl _, fun Q q => arg _ _ ⟨x, d, rfl, dp_same s hv, sh.sh, sh.nd, sh.dp, sh.sz, q _ (Same.refl _)⟩⟩
  · rw [len, map_rep] at e
    exact hd H s e
theorem shown_eq (d : PyData) (n : Nat) (sh : Shown d) : PyData.eqv (.list (List.replicate n (.str d.shown))) (.list (List.replicate n (.str d.shown))) = true := SeqAt.eqv_refl _ (SeqAt.canLay_of_shaped (rep_shaped sh.ok n))
theorem iteT' {c : Bool} {A B : Prop} (hc : c = true) (h : A) : if c = true then A else B := by
  rw [if_pos hc]
  exact h
section
variable {P : Program} {w : World} {K : PySem.W.Frag} {mg : Str → Option Value} {base : Heap} {S : Addr}
theorem ok_later {f : Addr} {fd : FuncData} (F : Fun K "_law_later_right" "_law_later_right" sLater f fd) (M : Blt mg) (B : Bases mg) (U : AllE P w K mg base S) : FnG P w K mg base 3 f fd ["_law_thing"] (spLater K) := by
  refine Fun.okG F scLater (fun vs H Q h => ?_) (fun cdv A outer s H vs Q gu hr h => ?_)
  · obtain ⟨v, d, rfl, _⟩ := h
    rfl
  · obtain ⟨v, d, rfl, hv, sh, q⟩ := h
    have un0 : (A.deeper (envOfC "_law_later_right" (defScope sLater) s.heap.objs.size f cdv)).units + 100 < cLine := by have := hr.un; omega
    refine ⟨_, pss_cons (ps_set (i := 1) scLater.nd rfl (.inl rfl) (pe_lst (pa_cons (pe_errF (pe_errK (famV_ok S) U.tBadCall.m hr (by rfl) U.tBadCall.gC U.tBadCall.bK (pk_cons (pv 0) pk_nil))) (pa_cons (pe_errF (pe_errK (famV_ok S) U.tBadTree.m hr (by rfl) U.tBadTree.gC U.tBadTree.bK (pk_cons (pv 0) pk_nil))) (pa_cons (pe_errF (pe_errK (famV_ok S) U.tBadOutput.m hr (by rfl) U.tBadOutput.gC U.tBadOutput.bK (pk_cons (pv 0) pk_nil))) (pa_cons (pe_errF (pe_errK (famV_ok S) U.tBadOrder.m hr (by rfl) U.tBadOrder.gC U.tBadOrder.bK (pk_cons (pv 0) pk_nil))) pa_nil))))))
      (pss_cons (ps_set (i := 1) scLater.nd rfl (.inl rfl) (pe_op op_cat (pv 1) (pe_lst (pa_cons (pe_errF (pe_errK (famV_ok S) U.tBadMark.m hr (by rfl) U.tBadMark.gC U.tBadMark.bK (pk_cons (pv 0) pk_nil))) (pa_cons (pe_errF (pe_errK (famV_ok S) U.tBadTable.m hr (by rfl) U.tBadTable.gC U.tBadTable.bK (pk_cons (pv 0) pk_nil))) (pa_cons (pe_errF (pe_errK (famV_ok S) U.tBadPlan.m hr (by rfl) U.tBadPlan.gC U.tBadPlan.bK (pk_cons (pv 0) pk_nil))) (pa_cons (pe_errF (pe_errK (famV_ok S) U.tBadToken.m hr (by rfl) U.tBadToken.gC U.tBadToken.bK (pk_cons (pv 0) pk_nil))) pa_nil)))))))
      (pss_cons (ps_set (i := 1) scLater.nd rfl (.inl rfl) (pe_op op_cat (pv 1) (pe_lst (pa_cons (pe_errF (pe_errK (famV_ok S) U.tBadText.m hr (by rfl) U.tBadText.gC U.tBadText.bK (pk_cons (pv 0) pk_nil))) (pa_cons (pe_errF (pe_errK (famV_ok S) U.tBadLine.m hr (by rfl) U.tBadLine.gC U.tBadLine.bK (pk_cons (pv 0) pk_nil))) (pa_cons (pe_errF (pe_errK (famV_ok S) U.tBadChance.m hr (by rfl) U.tBadChance.gC U.tBadChance.bK (pk_cons (pv 0) pk_nil))) (pa_cons (pe_errF (pe_errK (famV_ok S) U.tBadMove.m hr (by rfl) U.tBadMove.gC U.tBadMove.bK (pk_cons (pv 0) pk_nil))) pa_nil)))))))
      (pss_cons (ps_set (i := 1) scLater.nd rfl (.inl rfl) (pe_op op_cat (pv 1) (pe_lst (pa_cons (pe_errF (pe_errK (famV_ok S) U.tBadRun.m hr (by rfl) U.tBadRun.gC U.tBadRun.bK (pk_cons (pv 0) pk_nil))) (pa_cons (pe_errF (pe_errK (famV_ok S) U.tBadMoment.m hr (by rfl) U.tBadMoment.gC U.tBadMoment.bK (pk_cons (pv 0) pk_nil))) pa_nil)))))
      (pss_cons (ps_if (pt_cmpR (op_neD hr.units) (pe_lc (own := [("_law_one", 3)]) (g := gName 3) (te := tCB (rReprD K) (tCons (tVar 3) tNil)) (by rfl) scLater.nd (pi_list (pv 1)) (blkOk_by (own := [("_law_one", 3)]) (N := ["_law_thing", "_law_told", "_law_errors", "_law_one", "_law_error"]) (sc := defScope sLater) (by decide +kernel)) (fun _ _ _ _ _ => pg_name (i := 3) scLater.nd rfl (Or.inl rfl)) (fun _ _ _ _ _ => pts_nil) (fun _ _ _ _ _ => (pe_callB (id := "repr") (r := rReprD K) (call_reprD (by exact gu) (by exact un0)) (by rfl) M.repr (by decide +kernel) (pa_cons (pv 3) pa_nil)))) (pe_op op_rep (pe_lst (pa_cons (pe_callB (id := "repr") (r := rReprD K) (call_reprD (by exact gu) (by exact un0)) (by rfl) M.repr (by decide +kernel) (pa_cons (pv 0) pa_nil)) pa_nil)) pe_int) (nomark _)) (pss_one (ps_ret pe_bl)) pss_nil)
      (pss_cons (ps_set (i := 2) scLater.nd rfl (.inl rfl) (pe_lst (pa_cons (pe_errP (famV_ok S) U.tBadCall.m hr (by rfl) U.tBadCall.gC U.tBadCall.bP (pa_cons (pv 0) pa_nil)) (pa_cons (pe_errP (famV_ok S) U.tBadTree.m hr (by rfl) U.tBadTree.gC U.tBadTree.bP (pa_cons (pv 0) pa_nil)) (pa_cons (pe_errP (famV_ok S) U.tBadOutput.m hr (by rfl) U.tBadOutput.gC U.tBadOutput.bP (pa_cons (pv 0) pa_nil)) (pa_cons (pe_errP (famV_ok S) U.tBadOrder.m hr (by rfl) U.tBadOrder.gC U.tBadOrder.bP (pa_cons (pv 0) pa_nil)) (pa_cons (pe_errP (famV_ok S) U.tBadMark.m hr (by rfl) U.tBadMark.gC U.tBadMark.bP (pa_cons (pv 0) pa_nil)) (pa_cons (pe_errP (famV_ok S) U.tBadTable.m hr (by rfl) U.tBadTable.gC U.tBadTable.bP (pa_cons (pv 0) pa_nil)) (pa_cons (pe_errP (famV_ok S) U.tBadPlan.m hr (by rfl) U.tBadPlan.gC U.tBadPlan.bP (pa_cons (pv 0) pa_nil)) pa_nil)))))))))
      (pss_cons (ps_set (i := 2) scLater.nd rfl (.inl rfl) (pe_op op_cat (pv 2) (pe_lst (pa_cons (pe_errP (famV_ok S) U.tBadToken.m hr (by rfl) U.tBadToken.gC U.tBadToken.bP (pa_cons (pv 0) pa_nil)) (pa_cons (pe_errP (famV_ok S) U.tBadText.m hr (by rfl) U.tBadText.gC U.tBadText.bP (pa_cons (pv 0) pa_nil)) (pa_cons (pe_errP (famV_ok S) U.tBadLine.m hr (by rfl) U.tBadLine.gC U.tBadLine.bP (pa_cons (pv 0) pa_nil)) (pa_cons (pe_errP (famV_ok S) U.tBadChance.m hr (by rfl) U.tBadChance.gC U.tBadChance.bP (pa_cons (pv 0) pa_nil)) (pa_cons (pe_errP (famV_ok S) U.tBadMove.m hr (by rfl) U.tBadMove.gC U.tBadMove.bP (pa_cons (pv 0) pa_nil)) (pa_cons (pe_errP (famV_ok S) U.tBadRun.m hr (by rfl) U.tBadRun.gC U.tBadRun.bP (pa_cons (pv 0) pa_nil)) (pa_cons (pe_errP (famV_ok S) U.tBadMoment.m hr (by rfl) U.tBadMoment.gC U.tBadMoment.bP (pa_cons (pv 0) pa_nil)) pa_nil))))))))))
      (pss_cons (ps_if (pt_cmpR (op_neD hr.units) (pe_lc (own := [("_law_error", 4)]) (g := gName 4) (tt := tOr (tNot (tB (tCB (rIsV K) (tCons (tVar 4) (tCons (tC (.ref S)) tNil))))) (tNot (tB (tCB (rIsV K) (tCons (tVar 4) (tCons (tC (.ty "ValueError")) tNil)))))) (te := tVar 4) (by rfl) scLater.nd (pi_list (pv 2)) (blkOk_by (own := [("_law_error", 4)]) (N := ["_law_thing", "_law_told", "_law_errors", "_law_one", "_law_error"]) (sc := defScope sLater) (by decide +kernel))
          (fun _ _ _ _ _ => pg_name (i := 4) scLater.nd rfl (Or.inl rfl)) (fun _ _ _ _ _ => pts_one (PW.pt (pw_or (pt_not (pt_val (pe_callB call_isV (by rfl) M.isinstance (by decide +kernel) (pa_cons (pv 4) (pa_cons (pe_glob (v := .ref S) (by rfl) U.gS rfl) pa_nil))))) (pw_or1 (pt_not (pt_val (pe_callB call_isV (by rfl) M.isinstance (by decide +kernel) (pa_cons (pv 4) (pa_cons (pe_bltn (v := .ty "ValueError") (by rfl) B.ValueError (by decide +kernel) rfl) pa_nil))))))))) (fun _ _ _ _ _ => pv 4)) (pe_lst pa_nil) (nomark _)) (pss_one (ps_ret pe_bl)) pss_nil)
      (pss_cons (ps_if (PW.pt (pw_or (pt_val (pe_callB call_isV (by rfl) M.isinstance (by decide +kernel) (pa_cons (pe_ix ix_list (pv 2) pe_int (fun _ _ => rfl)) (pa_cons (pe_glob (v := .ref U.cBadTable) (by rfl) U.tBadTable.gC rfl) pa_nil)))) (pw_or (pt_val (pe_callB call_isV (by rfl) M.isinstance (by decide +kernel) (pa_cons (pe_ix ix_list (pv 2) pe_int (fun _ _ => rfl)) (pa_cons (pe_glob (v := .ref U.cBadText) (by rfl) U.tBadText.gC rfl) pa_nil)))) (pw_or1 (pt_val (pe_callB call_isV (by rfl) M.isinstance (by decide +kernel) (pa_cons (pe_ix ix_list (pv 2) pe_int (fun _ _ => rfl)) (pa_cons (pe_glob (v := .ref U.cBadCall) (by rfl) U.tBadCall.gC rfl) pa_nil)))))))) (pss_one (ps_ret pe_bl)) pss_nil)
      (pss_cons (ps_if (PW.pt (pw_or (pt_val (pe_callB call_isV (by rfl) M.isinstance (by decide +kernel) (pa_cons (pe_ix ix_list (pv 2) pe_int (fun _ _ => rfl)) (pa_cons (pe_glob (v := .ref U.cBadMark) (by rfl) U.tBadMark.gC rfl) pa_nil)))) (pw_or (pt_val (pe_callB call_isV (by rfl) M.isinstance (by decide +kernel) (pa_cons (pe_ix ix_list (pv 2) pe_int (fun _ _ => rfl)) (pa_cons (pe_glob (v := .ref U.cBadOrder) (by rfl) U.tBadOrder.gC rfl) pa_nil)))) (pw_or1 (pt_val (pe_callB call_isV (by rfl) M.isinstance (by decide +kernel) (pa_cons (pe_ix ix_list (pv 2) pe_int (fun _ _ => rfl)) (pa_cons (pe_glob (v := .ref U.cBadMark) (by rfl) U.tBadMark.gC rfl) pa_nil)))))))) (pss_one (ps_ret pe_bl)) pss_nil)
      (pss_one (ps_ret (pe_and (pe_not (pe_callB call_isV (by rfl) M.isinstance (by decide +kernel) (pa_cons (pe_ix ix_list (pv 2) pe_int (fun _ _ => rfl)) (pa_cons (pe_glob (v := .ref U.cBadCall) (by rfl) U.tBadCall.gC rfl) pa_nil)))) (pe_and (pe_not (pe_callB call_isV (by rfl) M.isinstance (by decide +kernel) (pa_cons (pe_ix ix_list (pv 2) pe_int (fun _ _ => rfl)) (pa_cons (pe_glob (v := .ref U.cBadToken) (by rfl) U.tBadToken.gC rfl) pa_nil)))) (pe_one (pe_not (pe_callB call_isV (by rfl) M.isinstance (by decide +kernel) (pa_cons (pe_ix ix_list (pv 2) pe_int (fun _ _ => rfl)) (pa_cons (pe_glob (v := .ref U.cBadTable) (by rfl) U.tBadTable.gC rfl) pa_nil)))))))))))))))))), ?_⟩
    have arg0 : ∀ (z1 z2 z3 z4 : Option V) (H : Hp) (Q : VK), Q v H → tVar 0 [some v, z1, z2, z3, z4] H Q := fun _ _ _ _ _ _ q => ⟨v, rfl, q⟩
    refine q_tolds (K := K) (te := tVar 0) (v := v) 4 (rL1 U) (rL1_i U) rfl rfl (by decide) (arg0 _ _ _ _) (fun H1 l1 s1 n1 => ?_)
    have e1 := upd_same (H := H1) (a := l1) (o := HO.lst (List.replicate 4 v))
    refine q_toldsC (K := K) (te := tVar 0) (v := v) 4 4 (rL2 U) l1 (rL2_i U) rfl rfl (by decide) (arg0 _ _ _ _) rfl e1 (fun H2 l2 s2 n2 => ?_)
    have e2 := upd_same (H := H2) (a := l2) (o := HO.lst (List.replicate (4 + 4) v))
    refine q_toldsC (K := K) (te := tVar 0) (v := v) 4 8 (rL3 U) l2 (rL3_i U) rfl rfl (by decide) (arg0 _ _ _ _) rfl e2 (fun H3 l3 s3 n3 => ?_)
    have e3 := upd_same (H := H3) (a := l3) (o := HO.lst (List.replicate (8 + 4) v))
    refine q_toldsC (K := K) (te := tVar 0) (v := v) 2 12 (rL4 U) l3 (rL4_i U) rfl rfl (by decide) (arg0 _ _ _ _) rfl e3 (fun H4 l4 s4 n4 => ?_)
    have e4 : L2.upd H4 l4 (HO.lst (List.replicate (12 + 2) v)) l4 = some (HO.lst (List.replicate 14 v)) := upd_same
    have sT : Same H (L2.upd H4 l4 (HO.lst (List.replicate (12 + 2) v))) :=
      s1.trans ((same_upd n1).trans (s2.trans ((same_upd n2).trans (s3.trans ((same_upd n3).trans (s4.trans (same_upd n4)))))))
    -- each of them is shown as the thing itself
    refine ⟨.ref l4, rfl, l4, rfl, ⟨_, .inl (.inl e4)⟩, fun D hD => lc_shown (n := 14) (vs := [3]) (j := 3) (by decide) sh e4 (dp_same sT hv) hD (fun x => rfl) (fun H Q q => ⟨v, rfl, q⟩) (fun H5 s5 e5 => ?_)⟩
    have sU := sT.trans s5
    refine ⟨v, rfl, v, d, rfl, dp_same sU hv, sh.sh, sh.nd, sh.dp, sh.sz, (by show 1 ≤ sizeLine; decide), fun l5 n5 => ⟨l5, 14, [.str d.shown], rfl, rfl, upd_same, by decide, by decide, (by show 1 * 14 ≤ sizeLine; decide), fun l6 n6 => ?_⟩⟩
    refine ⟨.list (List.replicate 14 (.str d.shown)), .list (List.replicate 14 (.str d.shown)), .lst (.inl (.inl (same_upd n6 _ _ (same_upd n5 _ _ e5)))) (rep_dp _ 14), .lst (.inl (.inl upd_same)) (rep_dp _ 14), rep_shaped sh.ok 14, rep_shaped sh.ok 14, _, rfl, ?_⟩
    rw [shown_eq d 14 sh]
    refine iteF ?_
    have sV := sU.trans ((same_upd n5).trans (same_upd (o := HO.lst (List.replicate (14 : Int).toNat [V.str d.shown]).flatten) n6))
    -- the errors
    unfold tNext
    dsimp only
    refine q_errs (te := tVar 0) (v := v) (eL1 U) rfl (by show 7 ≤ sizeLine; decide) (arg0 _ _ _ _) (fun xs1 H7 l7 s7 n7 h7 => ?_)
    refine q_errsC (te := tVar 0) (v := v) (eL2 U) (eL1 U) xs1 l7 rfl (by show 7 + 7 ≤ sizeLine; decide) (arg0 _ _ _ _) rfl upd_same h7 (fun xs2 H8 l8 s8 n8 hE => ?_)
    have e8 := upd_same (H := H8) (a := l8) (o := HO.lst (xs1 ++ xs2))
    have sW := sV.trans (s7.trans ((same_upd (o := HO.lst xs1) n7).trans (s8.trans (same_upd (o := HO.lst (xs1 ++ xs2)) n8))))
    generalize L2.upd H8 l8 (HO.lst (xs1 ++ xs2)) = H9 at hE e8 sW ⊢
    have len9 : (xs1 ++ xs2).length = 14 := hE.1
    refine ⟨.ref l8, rfl, l8, rfl, ⟨_, .inl (.inl e8)⟩, fun D9 hD9 => lc_it (walk_list (K := K) (a := l8) (xs := xs1 ++ xs2)) (fun i H' => Same H9 H' ∧ H' D9 = some (.lst [])) ⟨same_upd hD9, upd_same⟩ (fun i H' _ p => p.1.seq (.inl (.inl e8))) (fun i x H2 H3 hi p y => ?_) (fun H10 p => ?_)⟩
    · obtain ⟨rfl, ex⟩ := y
      obtain ⟨C, fc, a, ec, rfl, at_⟩ := hE.item ex
      obtain ⟨erc, kS, kV⟩ := eL_k U _ (List.mem_of_getElem? ec)
      have at2 := at_.ext p.1
      refine And.intro rfl ?_
      refine ⟨.ref a, rfl, a, C, fc, v, .ref S, .ref S, true, rfl, at2, erc, fun u r => r, kS, _, rfl, iteF ?_⟩
      exact ⟨.ref a, rfl, a, C, fc, v, .ty "ValueError", .type "ValueError", true, rfl, at2, erc, fun u r => r, kV, _, rfl, iteF p⟩
    · obtain ⟨s10, e10⟩ := p
      refine ⟨(by show 0 ≤ sizeLine; decide), fun l11 n11 => ?_⟩
      refine ⟨.list [], .list [], .lst (.inl (.inl (same_upd n11 _ _ e10))) .nil, .lst (.inl (.inl upd_same)) .nil, by decide +kernel, by decide +kernel, _, rfl, ?_⟩
      have ev : PyData.eqv (.list []) (.list []) = true := SeqAt.eqv_refl _ (by decide +kernel)
      rw [ev]
      refine iteF ?_
      have s11 : Same H9 (L2.upd H10 l11 (HO.lst [])) := s10.trans (same_upd n11)
      have hE2 := hE.ext s11
      have e12 := s11 _ _ e8
      have sX := sW.trans s11
      generalize L2.upd H10 l11 (HO.lst []) = H12 at hE2 e12 sX ⊢
      have pick : ∀ (k : Nat) (C : Addr) (fc : Str), (eL1 U ++ eL2 U)[k]? = some (C, fc) → ∃ a, atI (xs1 ++ xs2) (k : Int) = some (.ref a) ∧ ErrAt H12 C fc a v := fun k C fc ek => by
        obtain ⟨a, ea, at_⟩ := hE2.2 k C fc ek
        exact ⟨a, atI_nat ea, at_⟩
      obtain ⟨a12, x12, y12⟩ := pick 12 U.cBadRun "index" rfl
      obtain ⟨a9, x9, y9⟩ := pick 9 U.cBadLine "line" rfl
      obtain ⟨a2, x2, y2⟩ := pick 2 U.cBadOutput "index" rfl
      obtain ⟨a3, x3, y3⟩ := pick 3 U.cBadOrder "index" rfl
      obtain ⟨a4, x4, y4⟩ := pick 4 U.cBadMark "index" rfl
      obtain ⟨a11, x11, y11⟩ := pick 11 U.cBadMove "index" rfl
      obtain ⟨a6, x6, y6⟩ := pick 6 U.cBadPlan "plan" rfl
      obtain ⟨a13, x13, y13⟩ := pick 13 U.cBadMoment "moment" rfl
      obtain ⟨a10, x10, y10⟩ := pick 10 U.cBadChance "index" rfl
      refine ⟨.ref l8, rfl, l8, _, 12, .ref a12, rfl, rfl, .inl (.inl e12), x12, a12, U.cBadRun, _, v, .ref U.cBadTable, .ref U.cBadTable, false, rfl, y12, U.tBadRun.er, fun u r => r, U.pBadRun_BadTable, _, rfl, iteF ?_⟩
      refine ⟨.ref l8, rfl, l8, _, 9, .ref a9, rfl, rfl, .inl (.inl e12), x9, a9, U.cBadLine, _, v, .ref U.cBadText, .ref U.cBadText, false, rfl, y9, U.tBadLine.er, fun u r => r, U.pBadLine_BadText, _, rfl, iteF ?_⟩
      refine ⟨.ref l8, rfl, l8, _, 2, .ref a2, rfl, rfl, .inl (.inl e12), x2, a2, U.cBadOutput, _, v, .ref U.cBadCall, .ref U.cBadCall, false, rfl, y2, U.tBadOutput.er, fun u r => r, U.pBadOutput_BadCall, _, rfl, iteF ?_⟩
      refine ⟨.ref l8, rfl, l8, _, 3, .ref a3, rfl, rfl, .inl (.inl e12), x3, a3, U.cBadOrder, _, v, .ref U.cBadMark, .ref U.cBadMark, false, rfl, y3, U.tBadOrder.er, fun u r => r, U.pBadOrder_BadMark, _, rfl, iteF ?_⟩
      refine ⟨.ref l8, rfl, l8, _, 4, .ref a4, rfl, rfl, .inl (.inl e12), x4, a4, U.cBadMark, _, v, .ref U.cBadOrder, .ref U.cBadOrder, false, rfl, y4, U.tBadMark.er, fun u r => r, U.pBadMark_BadOrder, _, rfl, iteF ?_⟩
      refine ⟨.ref l8, rfl, l8, _, 11, .ref a11, rfl, rfl, .inl (.inl e12), x11, a11, U.cBadMove, _, v, .ref U.cBadMark, .ref U.cBadMark, false, rfl, y11, U.tBadMove.er, fun u r => r, U.pBadMove_BadMark, _, rfl, iteF ?_⟩
      refine ⟨.ref l8, rfl, l8, _, 6, .ref a6, rfl, rfl, .inl (.inl e12), x6, a6, U.cBadPlan, _, v, .ref U.cBadCall, .ref U.cBadCall, false, rfl, y6, U.tBadPlan.er, fun u r => r, U.pBadPlan_BadCall, _, rfl, _, rfl, iteT ?_⟩
      refine ⟨.ref l8, rfl, l8, _, 13, .ref a13, rfl, rfl, .inl (.inl e12), x13, a13, U.cBadMoment, _, v, .ref U.cBadToken, .ref U.cBadToken, false, rfl, y13, U.tBadMoment.er, fun u r => r, U.pBadMoment_BadToken, _, rfl, _, rfl, iteT ?_⟩
      exact ⟨.ref l8, rfl, l8, _, 10, .ref a10, rfl, rfl, .inl (.inl e12), x10, a10, U.cBadChance, _, v, .ref U.cBadTable, .ref U.cBadTable, false, rfl, y10, U.tBadChance.er, fun u r => r, U.pBadChance_BadTable, _, rfl, q _ sX⟩
end
/-! ### the law of errors -/
abbrev sLaw : Stmt := topS 32
theorem scLaw : FnScope ["_law_script", "_law_k", "_law_pool_here", "_law_thing", "_law_told", "_law_errors", "_law_error", "_law_others", "_law_one"] ["_law_script"] (defScope sLaw) := ⟨rfl, rfl, rfl, by decide +kernel, rfl, by decide +kernel, by decide +kernel⟩
def spLaw (K : PySem.W.Frag) : Sp := fun vs H Q _ => ∃ (a : Addr) (ns : List Int), vs = [.ref a] ∧ SqL K H a (ns.map V.int) ∧ ns.length ≤ 63 ∧ ∀ H', Q (.bl true) H'
theorem same_but {p : Addr} {H H1 H2 : Hp} (s : Same H H1) (n : H p = none) (h2 : But p H1 H2) : Same H H2 := fun b o e => h2 b o (s b o e) (ne_of_none e n)
theorem but_same {p : Addr} {H H1 H2 : Hp} (b : But p H H1) (s : Same H1 H2) : But p H H2 := b.trans (But.of s)
theorem turns {L i : Nat} (h : i < (if (if (2 : Int) < (L : Int) then (2 : Int) else (L : Int)) > 1 then (if (2 : Int) < (L : Int) then (2 : Int) else (L : Int)) else 1).toNat) : i ≤ 1 ∧ (i < L ∨ L = 0) := by
  split at h <;> split at h <;> omega
theorem dpT {K : PySem.W.Frag} {H : Hp} {t : Addr} {xs : List V} {ds : List PyData} (n : H t = none) (h : DpAll K H xs ds) : Dp K (upd H t (.tup xs)) (.ref t) (.tuple ds) := .tup (.inl (.inl upd_same)) (dpA_same (same_upd n) h)
theorem dpL {K : PySem.W.Frag} {H : Hp} {t : Addr} {xs : List V} {ds : List PyData} (n : H t = none) (h : DpAll K H xs ds) : Dp K (upd H t (.lst xs)) (.ref t) (.list ds) := .lst (.inl (.inl upd_same)) (dpA_same (same_upd n) h)
theorem range_bounds {L : Nat} : -(2 ^ 62) ≤ (if (if (2 : Int) < (L : Int) then (2 : Int) else (L : Int)) > 1 then (if (2 : Int) < (L : Int) then (2 : Int) else (L : Int)) else 1) ∧ (if (if (2 : Int) < (L : Int) then (2 : Int) else (L : Int)) > 1 then (if (2 : Int) < (L : Int) then (2 : Int) else (L : Int)) else 1) < 2 ^ 62 := by
  split <;> split <;> omega

theorem shown_int {n : Int} (h0 : 0 ≤ n) (h : n < 1000000000) : Shown (.int n) := by
  have hn : n.natAbs < 1000000000 := by omega
  have hz : n.natAbs < 10 ^ 4300 := Nat.lt_of_lt_of_le hn (by
    have : (10 : Nat) ^ 9 ≤ 10 ^ 4300 := Nat.pow_le_pow_right (by decide) (by decide)
    exact this)
  have hl : n.natAbs.log2 < 1920 := by
    by_cases h1 : n.natAbs = 0
    · rw [h1]
      decide
    · have : n.natAbs.log2 < 30 := (Nat.log2_lt h1).mpr (Nat.lt_of_lt_of_le hn (by decide))
      omega
  refine ⟨?_, rfl, Nat.zero_le _, ?_, ?_⟩
  · simp only [PyData.showable]
    exact decide_eq_true hl
  · simp only [PyData.shown]
    exact int_text_fits10 hz
  · simp only [PyData.shown]
    exact ok_text _
/-- the things that the law takes -/
theorem thing_row {K : PySem.W.Frag} {H : Hp} {l t : Addr} {n : Int} (h0 : 0 ≤ n) (h : n < 1000000000) (hl : SqL K H l [.int 1]) (ht : SqT K H t []) : ∀ (k : Nat) (v : V), [V.int n, .str "x", .non, .ref l, .ref t, .bl true][k]? = some v → ∃ d, Dp K H v d ∧ Shown d
  | 0, _, e => by cases e; exact ⟨_, .int n, shown_int h0 h⟩
  | 1, _, e => by cases e; exact ⟨_, .str "x", ⟨rfl, rfl, by decide, by decide +kernel, by decide +kernel⟩⟩
  | 2, _, e => by cases e; exact ⟨_, .non, ⟨rfl, rfl, by decide, by decide +kernel, by decide +kernel⟩⟩
  | 3, _, e => by cases e; exact ⟨_, .lst hl (.cons (.int 1) .nil), ⟨by decide +kernel, by decide +kernel, by decide +kernel, by decide +kernel, by decide +kernel⟩⟩
  | 4, _, e => by cases e; exact ⟨_, .tup ht .nil, ⟨by decide +kernel, by decide +kernel, by decide +kernel, by decide +kernel, by decide +kernel⟩⟩
  | 5, _, e => by cases e; exact ⟨_, .bl true, ⟨rfl, rfl, by decide, by decide +kernel, by decide +kernel⟩⟩
  | k + 6, _, e => by simp at e
theorem q_forE {K : PySem.W.Frag} {te : TE} {ta : TA} {g : TG} {tb : TS} {D : Ends} {σ : L2.St} {v : V} {H : Hp} {j : Nat} (cs ds : List (Addr × Str)) (ys : List V) (l : Addr) (e : ta = tErrs cs te) (hz : ds.length + cs.length ≤ sizeLine) (arg : ∀ H (Q : VK), Q v H → te σ H Q)
    (hj : σ[j]? = some (some (.ref l))) (hl : H l = some (.lst ys)) (hy : Errs H ds ys v)
    (k : ∀ xs H1 q, Same H H1 → H1 q = none → Errs (upd H1 q (.lst (ys ++ xs))) (ds ++ cs) (ys ++ xs) v → ∃ Pv : Nat → L2.St → Hp → Prop, Pv 0 σ (upd H1 q (.lst (ys ++ xs))) ∧ (∀ i σ H, Pv i σ H → H q = some (.lst (ys ++ xs))) ∧
      (∀ i x σ H, (ys ++ xs)[i]? = some x → Pv i σ H → g x σ H fun σ2 H2 => tb { nx := Pv (i + 1), rt := D.rt, bk := D.nx, ct := Pv (i + 1) } σ2 H2) ∧ (∀ σ H, Pv (ys ++ xs).length σ H → D.nx σ H)) : tFor (iList K (tOp rCat (tVar j) (tLst ta))) g tb D σ H := by
  subst e
  refine ⟨_, hj, errs_ok arg cs H _ fun xs H' s h => ⟨by rw [h.1]; omega, fun p np => ⟨l, p, _, _, rfl, rfl, same_upd np _ _ (s _ _ hl), upd_same, by rw [h.1, hy.1]; exact hz, fun q nq => ?_⟩⟩⟩
  obtain ⟨Pv, p0, pk, pb, pe⟩ := k xs _ q (s.trans (same_upd np)) nq ((hy.ext (s.trans ((same_upd np).trans (same_upd nq)))).app (h.ext ((same_upd np).trans (same_upd nq))))
  exact ⟨q, rfl, ⟨_, .inl (.inl upd_same)⟩, for_list (K := K) (a := q) (xs := ys ++ xs) Pv p0 (fun i σ' H2 _ h2 => .inl (.inl (pk i σ' H2 h2))) pb pe⟩
section
variable {P : Program} {w : World} {K : PySem.W.Frag} {mg : Str → Option Value} {base : Heap} {S : Addr}
structure LawFns (P : Program) (w : World) (K : PySem.W.Frag) (mg : Str → Option Value) (base : Heap) (fPl fDr fLt : Addr) (dPl dDr dLt : FuncData) : Prop where
  Pl : Fun K "_law_pool" "_law_pool" sPool fPl dPl
  Dr : Fun K "_law_draw" "_law_draw" sDraw fDr dDr
  kLt : PySem.W.keepIn K (.ref fLt) = true
  bPl : Binds K dPl ["_law_script", "_law_k"] []
  bDr : Binds K dDr ["_law_pool_here", "_law_many"] []
  bLt : Binds K dLt ["_law_thing"] []
  gPl : mg "_law_pool" = some (.ref fPl)
  gDr : mg "_law_draw" = some (.ref fDr)
  gLt : mg "_law_later_right" = some (.ref fLt)
  GLt : FnG P w K mg base 3 fLt dLt ["_law_thing"] (spLater K)
theorem ok_law {f fPl fDr fLt : Addr} {fd dPl dDr dLt : FuncData} (F : Fun K "law" "law" sLaw f fd) (M : Blt mg) (B : Bases mg) (U : AllE P w K mg base S) (W : LawFns P w K mg base fPl fDr fLt dPl dDr dLt) : FnG P w K mg base 4 f fd ["_law_script"] (spLaw K) := by
  have GP := ok_pool (P := P) (w := w) (base := base) W.Pl M
  have GD := ok_draw (P := P) (w := w) (base := base) W.Dr M
  refine Fun.okG F scLaw (fun vs H Q h => ?_) (fun cdv A outer s H vs Q gu hr h => ?_)
  · obtain ⟨a, ns, rfl, _⟩ := h
    rfl
  · obtain ⟨a, ns, rfl, hS, hlen, q⟩ := h
    have hr1 : Room 1 (A.deeper (envOfC "law" (defScope sLaw) s.heap.objs.size f cdv)) := hr.mono (by decide)
    have hr2 : Room 2 (A.deeper (envOfC "law" (defScope sLaw) s.heap.objs.size f cdv)) := hr.mono (by decide)
    have hr3 : Room 3 (A.deeper (envOfC "law" (defScope sLaw) s.heap.objs.size f cdv)) := hr.mono (by decide)
    have un0 : (A.deeper (envOfC "law" (defScope sLaw) s.heap.objs.size f cdv)).units + 100 < cLine := by have := hr.un; omega
    refine ⟨_, pss_cons (ps_for PassesOwn.never rfl (pi_range1 (by rfl) M.range (pa_cons (pe_callB (call_max2 rfl) (by rfl) M.max (by decide +kernel) (pa_cons pe_int (pa_cons (pe_callB (call_min2 rfl) (by rfl) M.min (by decide +kernel) (pa_cons (pe_callB call_len_seq (by rfl) M.len PySem.boot_len (pa_cons (pv 0) pa_nil)) (pa_cons pe_int pa_nil))) pa_nil))) pa_nil)) (pg_name (i := 1) scLaw.nd rfl (.inl rfl))
        (pss_cons (ps_set (i := 2) scLaw.nd rfl (.inl rfl) (pe_call GP hr1 (by rfl) W.gPl W.Pl.kp W.bPl .nil pass0 (pa_cons (pv 0) (pa_cons (pv 1) pa_nil))))
        (pss_one (ps_for PassesOwn.never rfl (pi_list (pe_lst (pa_cons (pe_call GD hr1 (by rfl) W.gDr W.Dr.kp W.bDr .nil pass0 (pa_cons (pv 2) (pa_cons (pe_op op_pow pe_int pe_int) pa_nil))) (pa_cons pe_str (pa_cons pe_non (pa_cons (pe_lst (pa_cons pe_int pa_nil)) (pa_cons (pe_tup pa_nil) (pa_cons pe_bl pa_nil)))))))) (pg_name (i := 3) scLaw.nd rfl (.inl rfl))
          (pss_cons (ps_if (pt_not (pt_val (pe_callG W.GLt gu hr3 (by rfl) W.gLt W.kLt W.bLt (pa_cons (pv 3) pa_nil)))) (pss_one (ps_ret pe_bl)) pss_nil)
          (pss_cons (ps_set (i := 4) scLaw.nd rfl (.inl rfl) (pe_lst (pa_cons (pe_errF (pe_errK (famV_ok S) U.tBadLabel.m hr2 (by rfl) U.tBadLabel.gC U.tBadLabel.bK (pk_cons (pv 3) pk_nil))) (pa_cons (pe_errF (pe_errK (famV_ok S) U.tBadCell.m hr2 (by rfl) U.tBadCell.gC U.tBadCell.bK (pk_cons (pv 3) pk_nil))) (pa_cons (pe_errF (pe_errK (famV_ok S) U.tBadPart.m hr2 (by rfl) U.tBadPart.gC U.tBadPart.bK (pk_cons (pv 3) pk_nil))) (pa_cons (pe_errF (pe_errK (famV_ok S) U.tBadTerm.m hr2 (by rfl) U.tBadTerm.gC U.tBadTerm.bK (pk_cons (pv 3) pk_nil))) pa_nil))))))
          (pss_cons (ps_set (i := 4) scLaw.nd rfl (.inl rfl) (pe_op op_cat (pv 4) (pe_lst (pa_cons (pe_errF (pe_errK (famV_ok S) U.tBadFunction.m hr2 (by rfl) U.tBadFunction.gC U.tBadFunction.bK (pk_cons (pv 3) pk_nil))) (pa_cons (pe_errF (pe_errK (famV_ok S) U.tBadState.m hr2 (by rfl) U.tBadState.gC U.tBadState.bK (pk_cons (pv 3) pk_nil))) (pa_cons (pe_errF (pe_errK (famV_ok S) U.tBadArguments.m hr2 (by rfl) U.tBadArguments.gC U.tBadArguments.bK (pk_cons (pv 3) pk_nil))) pa_nil))))))
          (pss_cons (ps_set (i := 4) scLaw.nd rfl (.inl rfl) (pe_op op_cat (pv 4) (pe_lst (pa_cons (pe_errF (pe_errK (famV_ok S) U.tBadTick.m hr2 (by rfl) U.tBadTick.gC U.tBadTick.bK (pk_cons (pv 3) pk_nil))) (pa_cons (pe_errF (pe_errK famK_ok U.tUnknownName.m hr2 (by rfl) U.tUnknownName.gC U.tUnknownName.bK (pk_cons (pv 3) pk_nil))) (pa_cons (pe_errF (pe_errK famO_ok U.tTooMany.m hr2 (by rfl) U.tTooMany.gC U.tTooMany.bK (pk_cons (pv 3) pk_nil))) (pa_cons (pe_errF (pe_errK famR_ok U.tNothingToUndo.m hr2 (by rfl) U.tNothingToUndo.gC U.tNothingToUndo.bK (pk_cons (pv 3) pk_nil))) pa_nil)))))))
          (pss_cons (ps_if (pt_cmpR (op_neD hr.units) (pe_lc (own := [("_law_one", 8)]) (g := gName 8) (te := tCB (rReprD K) (tCons (tVar 8) tNil)) (by rfl) scLaw.nd (pi_list (pv 4)) (blkOk_by (own := [("_law_one", 8)]) (N := ["_law_script", "_law_k", "_law_pool_here", "_law_thing", "_law_told", "_law_errors", "_law_error", "_law_others", "_law_one"]) (sc := defScope sLaw) (by decide +kernel)) (fun _ _ _ _ _ => pg_name (i := 8) scLaw.nd rfl (Or.inl rfl)) (fun _ _ _ _ _ => pts_nil) (fun _ _ _ _ _ => (pe_callB (id := "repr") (r := rReprD K) (call_reprD (by exact gu) (by exact un0)) (by rfl) M.repr (by decide +kernel) (pa_cons (pv 8) pa_nil)))) (pe_op op_rep (pe_lst (pa_cons (pe_callB (id := "repr") (r := rReprD K) (call_reprD (by exact gu) (by exact un0)) (by rfl) M.repr (by decide +kernel) (pa_cons (pv 3) pa_nil)) pa_nil)) pe_int) (nomark _)) (pss_one (ps_ret pe_bl)) pss_nil)
          (pss_cons (ps_set (i := 5) scLaw.nd rfl (.inl rfl) (pe_lst (pa_cons (pe_errP (famV_ok S) U.tBadLabel.m hr2 (by rfl) U.tBadLabel.gC U.tBadLabel.bP (pa_cons (pv 3) pa_nil)) (pa_cons (pe_errP (famV_ok S) U.tBadCell.m hr2 (by rfl) U.tBadCell.gC U.tBadCell.bP (pa_cons (pv 3) pa_nil)) (pa_cons (pe_errP (famV_ok S) U.tBadPart.m hr2 (by rfl) U.tBadPart.gC U.tBadPart.bP (pa_cons (pv 3) pa_nil)) (pa_cons (pe_errP (famV_ok S) U.tBadTerm.m hr2 (by rfl) U.tBadTerm.gC U.tBadTerm.bP (pa_cons (pv 3) pa_nil)) (pa_cons (pe_errP (famV_ok S) U.tBadFunction.m hr2 (by rfl) U.tBadFunction.gC U.tBadFunction.bP (pa_cons (pv 3) pa_nil)) (pa_cons (pe_errP (famV_ok S) U.tBadState.m hr2 (by rfl) U.tBadState.gC U.tBadState.bP (pa_cons (pv 3) pa_nil)) pa_nil))))))))
          (pss_cons (ps_for PassesOwn.never rfl (pi_list (pe_op op_cat (pv 5) (pe_lst (pa_cons (pe_errP (famV_ok S) U.tBadArguments.m hr2 (by rfl) U.tBadArguments.gC U.tBadArguments.bP (pa_cons (pv 3) pa_nil)) (pa_cons (pe_errP (famV_ok S) U.tBadTick.m hr2 (by rfl) U.tBadTick.gC U.tBadTick.bP (pa_cons (pv 3) pa_nil)) pa_nil))))) (pg_name (i := 6) scLaw.nd rfl (.inl rfl)) (pss_one (ps_if (PW.pt (pw_or (pt_not (pt_val (pe_callB call_isV (by rfl) M.isinstance (by decide +kernel) (pa_cons (pv 6) (pa_cons (pe_glob (v := .ref S) (by rfl) U.gS rfl) pa_nil))))) (pw_or1 (pt_not (pt_val (pe_callB call_isV (by rfl) M.isinstance (by decide +kernel) (pa_cons (pv 6) (pa_cons (pe_bltn (v := .ty "ValueError") (by rfl) B.ValueError (by decide +kernel) rfl) pa_nil)))))))) (pss_one (ps_ret pe_bl)) pss_nil)))
          (pss_cons (ps_set (i := 7) scLaw.nd rfl (.inl rfl) (pe_lst (pa_cons (pe_errP famK_ok U.tUnknownName.m hr2 (by rfl) U.tUnknownName.gC U.tUnknownName.bP (pa_cons (pv 3) pa_nil)) (pa_cons (pe_errP famO_ok U.tTooMany.m hr2 (by rfl) U.tTooMany.gC U.tTooMany.bP (pa_cons (pv 3) pa_nil)) (pa_cons (pe_errP famR_ok U.tNothingToUndo.m hr2 (by rfl) U.tNothingToUndo.gC U.tNothingToUndo.bP (pa_cons (pv 3) pa_nil)) pa_nil)))))
          (pss_cons (ps_if (PW.pt (pw_or (pt_cmpR (op_neD hr.units) (pe_lc (own := [("_law_error", 6)]) (g := gName 6) (tt := tB (tCB (rIsV K) (tCons (tVar 6) (tCons (tC (.ref S)) tNil)))) (te := tVar 6) (by rfl) scLaw.nd (pi_list (pv 7)) (blkOk_by (own := [("_law_error", 6)]) (N := ["_law_script", "_law_k", "_law_pool_here", "_law_thing", "_law_told", "_law_errors", "_law_error", "_law_others", "_law_one"]) (sc := defScope sLaw) (by decide +kernel))
            (fun _ _ _ _ _ => pg_name (i := 6) scLaw.nd rfl (Or.inl rfl)) (fun _ _ _ _ _ => pts_one (pt_val (pe_callB call_isV (by rfl) M.isinstance (by decide +kernel) (pa_cons (pv 6) (pa_cons (pe_glob (v := .ref S) (by rfl) U.gS rfl) pa_nil))))) (fun _ _ _ _ _ => pv 6)) (pe_lst pa_nil) (nomark _)) (pw_or1 (pt_not (pt_val (pe_callB call_isV (by rfl) M.isinstance (by decide +kernel) (pa_cons (pe_ix ix_list (pv 7) pe_int (fun _ _ => rfl)) (pa_cons (pe_bltn (v := .ty "KeyError") (by rfl) B.KeyError (by decide +kernel) rfl) pa_nil)))))))) (pss_one (ps_ret pe_bl)) pss_nil)
          (pss_cons (ps_if (PW.pt (pw_or (pt_not (pt_val (pe_callB call_isV (by rfl) M.isinstance (by decide +kernel) (pa_cons (pe_ix ix_list (pv 7) pe_int (fun _ _ => rfl)) (pa_cons (pe_bltn (v := .ty "OverflowError") (by rfl) B.OverflowError (by decide +kernel) rfl) pa_nil))))) (pw_or1 (pt_not (pt_val (pe_callB call_isV (by rfl) M.isinstance (by decide +kernel) (pa_cons (pe_ix ix_list (pv 7) pe_int (fun _ _ => rfl)) (pa_cons (pe_bltn (v := .ty "RuntimeError") (by rfl) B.RuntimeError (by decide +kernel) rfl) pa_nil)))))))) (pss_one (ps_ret pe_bl)) pss_nil)
          (pss_one (ps_if (PW.pt (pw_or (pt_val (pe_callB call_isV (by rfl) M.isinstance (by decide +kernel) (pa_cons (pe_ix ix_list (pv 5) pe_int (fun _ _ => rfl)) (pa_cons (pe_glob (v := .ref U.cBadFunction) (by rfl) U.tBadFunction.gC rfl) pa_nil)))) (pw_or (pt_val (pe_callB call_isV (by rfl) M.isinstance (by decide +kernel) (pa_cons (pe_ix ix_list (pv 5) pe_int (fun _ _ => rfl)) (pa_cons (pe_glob (v := .ref U.cBadCell) (by rfl) U.tBadCell.gC rfl) pa_nil)))) (pw_or1 (pt_val (pe_callB call_isV (by rfl) M.isinstance (by decide +kernel) (pa_cons (pe_ix ix_list (pv 5) pe_int (fun _ _ => rfl)) (pa_cons (pe_glob (v := .ref U.cBadTerm) (by rfl) U.tBadTerm.gC rfl) pa_nil)))))))) (pss_one (ps_ret pe_bl)) pss_nil))))))))))))))))
      (pss_one (ps_ret pe_bl)), ?_⟩
    refine ⟨.ref a, rfl, a, _, rfl, .inl hS, _, _, rfl, _, _, rfl, _, rfl, range_bounds.1, range_bounds.2, ?_⟩
    refine for_range (lo := 0) (n := _) (fun i σ H' => ∃ y1 y2 y3 y4 y5 y6 y7 y8, σ = [some (.ref a), y1, y2, y3, y4, y5, y6, y7, y8] ∧ Same H H')
      ⟨none, none, none, none, none, none, none, none, rfl, Same.refl H⟩ (fun i σ H0 hi hW => ?_) (fun σ H0 hW => q H0)
    obtain ⟨y1, y2, y3, y4, y5, y6, y7, y8, rfl, s0⟩ := hW
    have ht := turns hi
    rw [List.length_map] at ht
    refine ⟨.ref a, rfl, _, rfl, a, ns, i, (by show ([V.ref a, V.int (0 + (i : Int))] : List V) = _; rw [Int.zero_add]), s0.seq hS, ht.1, ht.2.imp id (fun e => List.eq_nil_of_length_eq_zero e), fun H1 p np s1 hp => ?_⟩
    have nHp : H p = none := s0.free np
    refine ⟨.ref p, rfl, _, _, rfl, rfl, ⟨by decide, by decide, by decide⟩, p, 1000000000, rfl, hp, by decide, by decide, fun v0 H2 b0 b9 bt2 hp2 fr2 => ?_⟩
    refine ⟨(by show 1 ≤ sizeLine; decide), fun l1 n1 => ⟨(by show 0 ≤ sizeLine; decide), fun t1 nt1 => ⟨(by show 6 ≤ sizeLine; decide), fun l2 n2 => ?_⟩⟩⟩
    have sA := same_upd (o := HO.lst [V.int 1]) n1
    have sB := same_upd (o := HO.tup []) nt1
    have sC := same_upd (o := HO.lst [V.int v0, .str "x", .non, .ref l1, .ref t1, .bl true]) n2
    have g1 := sC _ _ (sB _ _ (upd_same (H := H2) (a := l1) (o := HO.lst [V.int 1])))
    have g2 := sC _ _ (upd_same (H := L2.upd H2 l1 (HO.lst [V.int 1])) (a := t1) (o := HO.tup []))
    have g3 := upd_same (H := L2.upd (L2.upd H2 l1 (HO.lst [V.int 1])) t1 (HO.tup [])) (a := l2) (o := HO.lst [V.int v0, .str "x", .non, .ref l1, .ref t1, .bl true])
    have s5 := sA.trans (sB.trans sC)
    refine ⟨l2, rfl, ⟨_, .inl (.inl g3)⟩, ?_⟩
    generalize L2.upd (L2.upd (L2.upd H2 l1 (HO.lst [V.int 1])) t1 (HO.tup [])) l2 (HO.lst [V.int v0, .str "x", .non, .ref l1, .ref t1, .bl true]) = H5 at g1 g2 g3 s5 ⊢
    have b5 : But p H1 H5 := but_same bt2 s5
    refine for_list (K := K) (a := l2) (xs := [V.int v0, .str "x", .non, .ref l1, .ref t1, .bl true]) (fun k σ H' => ∃ z1 z3 z4 z5 z6 z7 z8, σ = [some (.ref a), z1, some (.ref p), z3, z4, z5, z6, z7, z8] ∧ Same H5 H')
      ⟨_, _, _, _, _, _, _, rfl, Same.refl H5⟩ (fun k σ H' _ hW => ?_) (fun k v σ H6 hk hW => ?_) (fun σ H6 hW => ?_)
    · obtain ⟨_, _, _, _, _, _, _, _, s'⟩ := hW
      exact .inl (.inl (s' _ _ g3))
    · obtain ⟨z1, z3, z4, z5, z6, z7, z8, rfl, s6⟩ := hW
      obtain ⟨d, hv0, sh⟩ := thing_row (K := K) (H := H6) b0 b9 (.inl (.inl (s6 _ _ g1))) (.inl (.inl (s6 _ _ g2))) k v hk
      refine ⟨v, rfl, v, d, rfl, hv0, sh, fun H7 s7 => ⟨_, rfl, iteF ?_⟩⟩
      have hv := dp_same s7 hv0
      have arg0 : ∀ (z0 z1 z2 z4 z5 z6 z7 z8 : Option V) (H : Hp) (Q : VK), Q v H → tVar 3 [z0, z1, z2, some v, z4, z5, z6, z7, z8] H Q := fun _ _ _ _ _ _ _ _ _ _ q => ⟨v, rfl, q⟩
      unfold tNext
      dsimp only
      refine q_tolds (K := K) (te := tVar 3) (v := v) 4 (rF1 U) (rF1_i U) rfl rfl (by decide) (arg0 _ _ _ _ _ _ _ _) (fun H1 l1 s1 n1 => ?_)
      have e1 := upd_same (H := H1) (a := l1) (o := HO.lst (List.replicate 4 v))
      refine q_toldsC (K := K) (te := tVar 3) (v := v) 3 4 (rF2 U) l1 (rF2_i U) rfl rfl (by decide) (arg0 _ _ _ _ _ _ _ _) rfl e1 (fun H2 l2 s2 n2 => ?_)
      have e2 := upd_same (H := H2) (a := l2) (o := HO.lst (List.replicate (4 + 3) v))
      refine q_toldsC (K := K) (te := tVar 3) (v := v) 4 7 (rF3 U) l2 (rF3_i U) rfl rfl (by decide) (arg0 _ _ _ _ _ _ _ _) rfl e2 (fun H3 l3 s3 n3 => ?_)
      have e3 : L2.upd H3 l3 (HO.lst (List.replicate (7 + 4) v)) l3 = some (HO.lst (List.replicate 11 v)) := upd_same
      have sT : Same H7 (L2.upd H3 l3 (HO.lst (List.replicate (7 + 4) v))) := s1.trans ((same_upd n1).trans (s2.trans ((same_upd n2).trans (s3.trans (same_upd n3)))))
      generalize L2.upd H3 l3 (HO.lst (List.replicate (7 + 4) v)) = H8 at e3 sT ⊢
      -- each of them is shown as the thing itself
      refine ⟨.ref l3, rfl, l3, rfl, ⟨_, .inl (.inl e3)⟩, fun D hD => lc_shown (n := 11) (vs := [8]) (j := 8) (by decide) sh e3 (dp_same sT hv) hD (fun x => rfl) (fun H Q q => ⟨v, rfl, q⟩) (fun H9 s9 e9 => ?_)⟩
      have sU := sT.trans s9
      refine ⟨v, rfl, v, d, rfl, dp_same sU hv, sh.sh, sh.nd, sh.dp, sh.sz, (by show 1 ≤ sizeLine; decide), fun l5 n5 => ⟨l5, 11, [.str d.shown], rfl, rfl, upd_same, by decide, by decide, (by show 1 * 11 ≤ sizeLine; decide), fun l6 n6 => ?_⟩⟩
      refine ⟨.list (List.replicate 11 (.str d.shown)), .list (List.replicate 11 (.str d.shown)), .lst (.inl (.inl (same_upd n6 _ _ (same_upd n5 _ _ e9)))) (rep_dp _ 11), .lst (.inl (.inl upd_same)) (rep_dp _ 11), rep_shaped sh.ok 11, rep_shaped sh.ok 11, _, rfl, ?_⟩
      rw [shown_eq d 11 sh]
      refine iteF ?_
      have sV := sU.trans ((same_upd n5).trans (same_upd (o := HO.lst (List.replicate (11 : Int).toNat [V.str d.shown]).flatten) n6))
      generalize (L2.upd (L2.upd H9 l5 (HO.lst [V.str d.shown])) l6 (HO.lst (List.replicate (11 : Int).toNat [V.str d.shown]).flatten)) = H10 at sV ⊢
      -- the errors
      dsimp only
      refine q_errs (te := tVar 3) (v := v) (eF1 U) rfl (by show 6 ≤ sizeLine; decide) (arg0 _ _ _ _ _ _ _ _) (fun xs1 H11 l7 s11 n7 h7 => ?_)
      have e7 := upd_same (H := H11) (a := l7) (o := HO.lst xs1)
      have sW : Same H7 (L2.upd H11 l7 (HO.lst xs1)) := sV.trans (s11.trans (same_upd n7))
      generalize L2.upd H11 l7 (HO.lst xs1) = H12 at h7 e7 sW ⊢
      refine q_forE (K := K) (te := tVar 3) (v := v) (eF2 U) (eF1 U) xs1 l7 rfl (by show 6 + 2 ≤ sizeLine; decide) (arg0 _ _ _ _ _ _ _ _) rfl e7 h7 (fun xs2 H13 q1 s13 nq1 hE => ?_)
      have eq1 := upd_same (H := H13) (a := q1) (o := HO.lst (xs1 ++ xs2))
      have sX : Same H12 (L2.upd H13 q1 (HO.lst (xs1 ++ xs2))) := s13.trans (same_upd nq1)
      generalize L2.upd H13 q1 (HO.lst (xs1 ++ xs2)) = H14 at hE eq1 sX ⊢
      refine ⟨fun k σ H' => ∃ z1 z4 z6 z7 z8, σ = [some (.ref a), z1, some (.ref p), some v, z4, some (.ref l7), z6, z7, z8] ∧ Same H14 H', ⟨_, _, _, _, _, rfl, Same.refl H14⟩, fun i σ H' hW => ?_, fun i x σ H' ex hW => ?_, fun σ H' hW => ?_⟩
      · obtain ⟨_, _, _, _, _, _, s'⟩ := hW
        exact s' _ _ eq1
      · obtain ⟨z1, z4, z6, z7, z8, rfl, s'⟩ := hW
        obtain ⟨C, fc, b, ec, rfl, at_⟩ := hE.item ex
        obtain ⟨erc, kS, kV⟩ := eF_k U _ (List.mem_of_getElem? ec)
        have at2 := at_.ext s'
        refine ⟨.ref b, rfl, b, C, fc, v, .ref S, .ref S, true, rfl, at2, erc, fun u r => r, kS, _, rfl, iteF ?_⟩
        exact ⟨.ref b, rfl, b, C, fc, v, .ty "ValueError", .type "ValueError", true, rfl, at2, erc, fun u r => r, kV, _, rfl, iteF ⟨_, _, _, _, _, rfl, s'⟩⟩
      · obtain ⟨z1, z4, z6, z7, z8, rfl, s'⟩ := hW
        dsimp only
        refine q_errs (te := tVar 3) (v := v) (eO U) rfl (by show 3 ≤ sizeLine; decide) (arg0 _ _ _ _ _ _ _ _) (fun xs3 H15 l8 s15 n8 h8 => ?_)
        have e8 := upd_same (H := H15) (a := l8) (o := HO.lst xs3)
        have sY : Same H14 (L2.upd H15 l8 (HO.lst xs3)) := s'.trans (s15.trans (same_upd n8))
        generalize L2.upd H15 l8 (HO.lst xs3) = H16 at h8 e8 sY ⊢
        refine ⟨.ref l8, rfl, l8, rfl, ⟨_, .inl (.inl e8)⟩, fun D9 hD9 => lc_it (walk_list (K := K) (a := l8) (xs := xs3)) (fun i H' => Same H16 H' ∧ H' D9 = some (.lst [])) ⟨same_upd hD9, upd_same⟩ (fun i H' _ p => p.1.seq (.inl (.inl e8))) (fun i x H2 H3 hi p y => ?_) (fun H17 p => ?_)⟩
        · obtain ⟨rfl, ex⟩ := y
          obtain ⟨C, fc, b, ec, rfl, at_⟩ := h8.item ex
          obtain ⟨erc, kS⟩ := eO_k U _ (List.mem_of_getElem? ec)
          have at2 := at_.ext p.1
          refine And.intro rfl ?_
          exact ⟨.ref b, rfl, b, C, fc, v, .ref S, .ref S, false, rfl, at2, erc, fun u r => r, kS, _, rfl, iteF p⟩
        · obtain ⟨s17, e17⟩ := p
          refine ⟨(by show 0 ≤ sizeLine; decide), fun l11 n11 => ?_⟩
          refine ⟨.list [], .list [], .lst (.inl (.inl (same_upd n11 _ _ e17))) .nil, .lst (.inl (.inl upd_same)) .nil, by decide +kernel, by decide +kernel, _, rfl, ?_⟩
          have ev : PyData.eqv (.list []) (.list []) = true := SeqAt.eqv_refl _ (by decide +kernel)
          rw [ev]
          refine iteF ?_
          have s18 : Same H16 (L2.upd H17 l11 (HO.lst [])) := s17.trans (same_upd n11)
          have hO := h8.ext s18
          have eO1 := s18 _ _ e8
          have hF := h7.ext (sX.trans (sY.trans s18))
          have eF := (sX.trans (sY.trans s18)) _ _ e7
          have sZ : Same H5 (L2.upd H17 l11 (HO.lst [])) := s6.trans (s7.trans (sW.trans (sX.trans (sY.trans s18))))
          generalize L2.upd H17 l11 (HO.lst []) = H19 at hO eO1 hF eF sZ ⊢
          have pickO : ∀ (k : Nat) (C : Addr) (fc : Str), (eO U)[k]? = some (C, fc) → ∃ a, atI xs3 (k : Int) = some (.ref a) ∧ ErrAt H19 C fc a v := fun k C fc ek => by
            obtain ⟨a, ea, at_⟩ := hO.2 k C fc ek
            exact ⟨a, atI_nat ea, at_⟩
          have pickF : ∀ (k : Nat) (C : Addr) (fc : Str), (eF1 U)[k]? = some (C, fc) → ∃ a, atI xs1 (k : Int) = some (.ref a) ∧ ErrAt H19 C fc a v := fun k C fc ek => by
            obtain ⟨a, ea, at_⟩ := hF.2 k C fc ek
            exact ⟨a, atI_nat ea, at_⟩
          obtain ⟨o0, x0, y0⟩ := pickO 0 U.cUnknownName "name" rfl
          obtain ⟨o1, x1, y1⟩ := pickO 1 U.cTooMany "limit" rfl
          obtain ⟨o2, x2, y2⟩ := pickO 2 U.cNothingToUndo "name" rfl
          obtain ⟨f1, u1, w1⟩ := pickF 1 U.cBadCell "index" rfl
          obtain ⟨f4, u4, w4⟩ := pickF 4 U.cBadFunction "index" rfl
          obtain ⟨f2, u2, w2⟩ := pickF 2 U.cBadPart "part" rfl
          refine ⟨.ref l8, rfl, l8, _, 0, .ref o0, rfl, rfl, .inl (.inl eO1), x0, o0, U.cUnknownName, _, v, .ty "KeyError", .type "KeyError", true, rfl, y0, U.tUnknownName.er, fun u r => r, U.vUnknownName, _, rfl, iteF ?_⟩
          refine ⟨.ref l8, rfl, l8, _, 1, .ref o1, rfl, rfl, .inl (.inl eO1), x1, o1, U.cTooMany, _, v, .ty "OverflowError", .type "OverflowError", true, rfl, y1, U.tTooMany.er, fun u r => r, U.vTooMany, _, rfl, iteF ?_⟩
          refine ⟨.ref l8, rfl, l8, _, 2, .ref o2, rfl, rfl, .inl (.inl eO1), x2, o2, U.cNothingToUndo, _, v, .ty "RuntimeError", .type "RuntimeError", true, rfl, y2, U.tNothingToUndo.er, fun u r => r, U.vNothingToUndo, _, rfl, iteF ?_⟩
          refine ⟨.ref l7, rfl, l7, _, 1, .ref f1, rfl, rfl, .inl (.inl eF), u1, f1, U.cBadCell, _, v, .ref U.cBadFunction, .ref U.cBadFunction, false, rfl, w1, U.tBadCell.er, fun u r => r, U.pBadCell_BadFunction, _, rfl, iteF ?_⟩
          refine ⟨.ref l7, rfl, l7, _, 4, .ref f4, rfl, rfl, .inl (.inl eF), u4, f4, U.cBadFunction, _, v, .ref U.cBadCell, .ref U.cBadCell, false, rfl, w4, U.tBadFunction.er, fun u r => r, U.pBadFunction_BadCell, _, rfl, iteF ?_⟩
          refine ⟨.ref l7, rfl, l7, _, 2, .ref f2, rfl, rfl, .inl (.inl eF), u2, f2, U.cBadPart, _, v, .ref U.cBadTerm, .ref U.cBadTerm, false, rfl, w2, U.tBadPart.er, fun u r => r, U.pBadPart_BadTerm, _, rfl, iteF ?_⟩
          exact ⟨_, _, _, _, _, _, _, rfl, sZ⟩
    · obtain ⟨z1, z3, z4, z5, z6, z7, z8, rfl, s6⟩ := hW
      exact ⟨_, _, _, _, _, _, _, _, rfl, same_but (s0.trans s1) nHp (but_same b5 s6)⟩
end
theorem errA_mk {P : Program} {w : World} {K : PySem.W.Frag} {mg : Str → Option Value} {base : Heap} {fam : Fam} {x f : Str} {C g : Addr} {fd : FuncData} (oex : OexG K fam C) (ini : PySem.W.findIn K (.ref C) "__init__" = some (some (.ref g))) (typ : PySem.W.typeIn K (.ref g) = some (.type "function"))
    (fn : FnOk P w K mg base CX0 1 g fd ["self", f] (spErr C f)) (gC : mg x = some (.ref C)) (ga : PySem.W.findIn K (.ref C) "__getattribute__" = some (some (.builtin "BaseException.__getattribute__"))) (gg : PySem.W.findIn K (.ref C) "__getattr__" = some none) (ex : PySem.W.subIn K (.ref C) (.type "BaseException") = some true)
    (hd : PySem.W.hasDictIn K C = true) (no : PySem.W.findIn K (.ref C) f = some none) (cl : (PySem.W.clsIn K C).isSome = true) (ca : PySem.W.findIn K (.ref C) "__class__" = some (some (.builtin "object.__class__"))) (cg : PySem.W.specialIn K (.builtin "object.__class__") "__get__" = some (some (.builtin "getset_descriptor.__get__"))) (ct : PySem.W.takesIn K (.builtin "object.__class__") = some true) (mo : PySem.W.mroIn K C (.type "object") = some true)
    (bP : ∀ (s : Shared) (y : Addr) (u : Value), K.In s.heap → BindsTo s fd ⟨[.ref y, u], []⟩ ((["self", f] : List Str).zip [.ref y, u])) (bK : ∀ (s : Shared) (y : Addr) (u : Value), K.In s.heap → BindsTo s fd ⟨[.ref y], [(f, u)]⟩ ((["self", f] : List Str).zip [.ref y, u])) : ErrA P w K mg base fam x f C g fd :=
  ⟨⟨oex, ini, typ, fn⟩, gC, ⟨ga, gg, ex, hd⟩, no, ⟨cl, ga, gg, ex, ca, cg, ct, mo⟩, bP, bK⟩
/-! ### what the top has written; the end -/
theorem all_mk {l : PySem.W.OpenLaw} {w : World} {K : PySem.W.Frag} {h : Heap} {mg : Str → Option Value} {fa : Addr} (X : K.In h) (G : h.Ns mainGlobals mg) (hfa : mg "law" = some (.ref fa))
    {cBadLabel cBadCell cBadPart cBadTerm cBadFunction cBadState cBadArguments cBadTick cBadCall cBadTree cBadOutput cBadOrder cBadMark cBadTable cBadPlan cBadToken cBadText cBadLine cBadChance cBadMove cBadRun cBadMoment cUnknownName cTooMany cNothingToUndo cStoreError : Addr}
    {fIBadLabel : Addr} {odIBadLabel anIBadLabel : Option Addr} {slIBadLabel : Array (Option Value)} {ocIBadLabel kVIBadLabel dcIBadLabel pmIBadLabel cdIBadLabel ctIBadLabel : Value}
    {fIBadCell : Addr} {odIBadCell anIBadCell : Option Addr} {slIBadCell : Array (Option Value)} {ocIBadCell kVIBadCell dcIBadCell pmIBadCell cdIBadCell ctIBadCell : Value}
    {fIBadPart : Addr} {odIBadPart anIBadPart : Option Addr} {slIBadPart : Array (Option Value)} {ocIBadPart kVIBadPart dcIBadPart pmIBadPart cdIBadPart ctIBadPart : Value}
    {fIBadTerm : Addr} {odIBadTerm anIBadTerm : Option Addr} {slIBadTerm : Array (Option Value)} {ocIBadTerm kVIBadTerm dcIBadTerm pmIBadTerm cdIBadTerm ctIBadTerm : Value}
    {fIBadFunction : Addr} {odIBadFunction anIBadFunction : Option Addr} {slIBadFunction : Array (Option Value)} {ocIBadFunction kVIBadFunction dcIBadFunction pmIBadFunction cdIBadFunction ctIBadFunction : Value}
    {fIBadState : Addr} {odIBadState anIBadState : Option Addr} {slIBadState : Array (Option Value)} {ocIBadState kVIBadState dcIBadState pmIBadState cdIBadState ctIBadState : Value}
    {fIBadArguments : Addr} {odIBadArguments anIBadArguments : Option Addr} {slIBadArguments : Array (Option Value)} {ocIBadArguments kVIBadArguments dcIBadArguments pmIBadArguments cdIBadArguments ctIBadArguments : Value}
    {fIBadTick : Addr} {odIBadTick anIBadTick : Option Addr} {slIBadTick : Array (Option Value)} {ocIBadTick kVIBadTick dcIBadTick pmIBadTick cdIBadTick ctIBadTick : Value}
    {fIBadCall : Addr} {odIBadCall anIBadCall : Option Addr} {slIBadCall : Array (Option Value)} {ocIBadCall kVIBadCall dcIBadCall pmIBadCall cdIBadCall ctIBadCall : Value}
    {fIBadTree : Addr} {odIBadTree anIBadTree : Option Addr} {slIBadTree : Array (Option Value)} {ocIBadTree kVIBadTree dcIBadTree pmIBadTree cdIBadTree ctIBadTree : Value}
    {fIBadOutput : Addr} {odIBadOutput anIBadOutput : Option Addr} {slIBadOutput : Array (Option Value)} {ocIBadOutput kVIBadOutput dcIBadOutput pmIBadOutput cdIBadOutput ctIBadOutput : Value}
    {fIBadOrder : Addr} {odIBadOrder anIBadOrder : Option Addr} {slIBadOrder : Array (Option Value)} {ocIBadOrder kVIBadOrder dcIBadOrder pmIBadOrder cdIBadOrder ctIBadOrder : Value}
    {fIBadMark : Addr} {odIBadMark anIBadMark : Option Addr} {slIBadMark : Array (Option Value)} {ocIBadMark kVIBadMark dcIBadMark pmIBadMark cdIBadMark ctIBadMark : Value}
    {fIBadTable : Addr} {odIBadTable anIBadTable : Option Addr} {slIBadTable : Array (Option Value)} {ocIBadTable kVIBadTable dcIBadTable pmIBadTable cdIBadTable ctIBadTable : Value}
    {fIBadPlan : Addr} {odIBadPlan anIBadPlan : Option Addr} {slIBadPlan : Array (Option Value)} {ocIBadPlan kVIBadPlan dcIBadPlan pmIBadPlan cdIBadPlan ctIBadPlan : Value}
    {fIBadToken : Addr} {odIBadToken anIBadToken : Option Addr} {slIBadToken : Array (Option Value)} {ocIBadToken kVIBadToken dcIBadToken pmIBadToken cdIBadToken ctIBadToken : Value}
    {fIBadText : Addr} {odIBadText anIBadText : Option Addr} {slIBadText : Array (Option Value)} {ocIBadText kVIBadText dcIBadText pmIBadText cdIBadText ctIBadText : Value}
    {fIBadLine : Addr} {odIBadLine anIBadLine : Option Addr} {slIBadLine : Array (Option Value)} {ocIBadLine kVIBadLine dcIBadLine pmIBadLine cdIBadLine ctIBadLine : Value}
    {fIBadChance : Addr} {odIBadChance anIBadChance : Option Addr} {slIBadChance : Array (Option Value)} {ocIBadChance kVIBadChance dcIBadChance pmIBadChance cdIBadChance ctIBadChance : Value}
    {fIBadMove : Addr} {odIBadMove anIBadMove : Option Addr} {slIBadMove : Array (Option Value)} {ocIBadMove kVIBadMove dcIBadMove pmIBadMove cdIBadMove ctIBadMove : Value}
    {fIBadRun : Addr} {odIBadRun anIBadRun : Option Addr} {slIBadRun : Array (Option Value)} {ocIBadRun kVIBadRun dcIBadRun pmIBadRun cdIBadRun ctIBadRun : Value}
    {fIBadMoment : Addr} {odIBadMoment anIBadMoment : Option Addr} {slIBadMoment : Array (Option Value)} {ocIBadMoment kVIBadMoment dcIBadMoment pmIBadMoment cdIBadMoment ctIBadMoment : Value}
    {fIUnknownName : Addr} {odIUnknownName anIUnknownName : Option Addr} {slIUnknownName : Array (Option Value)} {ocIUnknownName kVIUnknownName dcIUnknownName pmIUnknownName cdIUnknownName ctIUnknownName : Value}
    {fITooMany : Addr} {odITooMany anITooMany : Option Addr} {slITooMany : Array (Option Value)} {ocITooMany kVITooMany dcITooMany pmITooMany cdITooMany ctITooMany : Value}
    {fINothingToUndo : Addr} {odINothingToUndo anINothingToUndo : Option Addr} {slINothingToUndo : Array (Option Value)} {ocINothingToUndo kVINothingToUndo dcINothingToUndo pmINothingToUndo cdINothingToUndo ctINothingToUndo : Value}
    {fPl : Addr} {odPl anPl : Option Addr} {slPl : Array (Option Value)} {ocPl kVPl dcPl pmPl cdPl ctPl : Value}
    {fDr : Addr} {odDr anDr : Option Addr} {slDr : Array (Option Value)} {ocDr kVDr dcDr pmDr cdDr ctDr : Value}
    {fLt : Addr} {odLt anLt : Option Addr} {slLt : Array (Option Value)} {ocLt kVLt dcLt pmLt cdLt ctLt : Value}
    {fLa : Addr} {odLa anLa : Option Addr} {slLa : Array (Option Value)} {ocLa kVLa dcLa pmLa cdLa ctLa : Value}
    {nmBadLabel qqBadLabel : Str} {NNBadLabel : Addr} {bsBadLabel : List Value} {snBadLabel : List Str} {suBadLabel : List Value} {abBadLabel : Bool} {coBadLabel : Option Bool} {ddBadLabel : Option Addr} {maBadLabel mbBadLabel mcBadLabel mdBadLabel meBadLabel : Option Value} {nmBadCell qqBadCell : Str} {NNBadCell : Addr} {bsBadCell : List Value} {snBadCell : List Str} {suBadCell : List Value} {abBadCell : Bool} {coBadCell : Option Bool} {ddBadCell : Option Addr} {maBadCell mbBadCell mcBadCell mdBadCell meBadCell : Option Value} {nmBadPart qqBadPart : Str} {NNBadPart : Addr} {bsBadPart : List Value} {snBadPart : List Str} {suBadPart : List Value} {abBadPart : Bool} {coBadPart : Option Bool} {ddBadPart : Option Addr} {maBadPart mbBadPart mcBadPart mdBadPart meBadPart : Option Value} {nmBadTerm qqBadTerm : Str} {NNBadTerm : Addr} {bsBadTerm : List Value} {snBadTerm : List Str} {suBadTerm : List Value} {abBadTerm : Bool} {coBadTerm : Option Bool} {ddBadTerm : Option Addr} {maBadTerm mbBadTerm mcBadTerm mdBadTerm meBadTerm : Option Value} {nmBadFunction qqBadFunction : Str} {NNBadFunction : Addr} {bsBadFunction : List Value} {snBadFunction : List Str} {suBadFunction : List Value} {abBadFunction : Bool} {coBadFunction : Option Bool} {ddBadFunction : Option Addr} {maBadFunction mbBadFunction mcBadFunction mdBadFunction meBadFunction : Option Value} {nmBadState qqBadState : Str} {NNBadState : Addr} {bsBadState : List Value} {snBadState : List Str} {suBadState : List Value} {abBadState : Bool} {coBadState : Option Bool} {ddBadState : Option Addr} {maBadState mbBadState mcBadState mdBadState meBadState : Option Value} {nmBadArguments qqBadArguments : Str} {NNBadArguments : Addr} {bsBadArguments : List Value} {snBadArguments : List Str} {suBadArguments : List Value} {abBadArguments : Bool} {coBadArguments : Option Bool} {ddBadArguments : Option Addr} {maBadArguments mbBadArguments mcBadArguments mdBadArguments meBadArguments : Option Value} {nmBadTick qqBadTick : Str} {NNBadTick : Addr} {bsBadTick : List Value} {snBadTick : List Str} {suBadTick : List Value} {abBadTick : Bool} {coBadTick : Option Bool} {ddBadTick : Option Addr} {maBadTick mbBadTick mcBadTick mdBadTick meBadTick : Option Value} {nmBadCall qqBadCall : Str} {NNBadCall : Addr} {bsBadCall : List Value} {snBadCall : List Str} {suBadCall : List Value} {abBadCall : Bool} {coBadCall : Option Bool} {ddBadCall : Option Addr} {maBadCall mbBadCall mcBadCall mdBadCall meBadCall : Option Value} {nmBadTree qqBadTree : Str} {NNBadTree : Addr} {bsBadTree : List Value} {snBadTree : List Str} {suBadTree : List Value} {abBadTree : Bool} {coBadTree : Option Bool} {ddBadTree : Option Addr} {maBadTree mbBadTree mcBadTree mdBadTree meBadTree : Option Value} {nmBadOutput qqBadOutput : Str} {NNBadOutput : Addr} {bsBadOutput : List Value} {snBadOutput : List Str} {suBadOutput : List Value} {abBadOutput : Bool} {coBadOutput : Option Bool} {ddBadOutput : Option Addr} {maBadOutput mbBadOutput mcBadOutput mdBadOutput meBadOutput : Option Value} {nmBadOrder qqBadOrder : Str} {NNBadOrder : Addr} {bsBadOrder : List Value} {snBadOrder : List Str} {suBadOrder : List Value} {abBadOrder : Bool} {coBadOrder : Option Bool} {ddBadOrder : Option Addr} {maBadOrder mbBadOrder mcBadOrder mdBadOrder meBadOrder : Option Value} {nmBadMark qqBadMark : Str} {NNBadMark : Addr} {bsBadMark : List Value} {snBadMark : List Str} {suBadMark : List Value} {abBadMark : Bool} {coBadMark : Option Bool} {ddBadMark : Option Addr} {maBadMark mbBadMark mcBadMark mdBadMark meBadMark : Option Value} {nmBadTable qqBadTable : Str} {NNBadTable : Addr} {bsBadTable : List Value} {snBadTable : List Str} {suBadTable : List Value} {abBadTable : Bool} {coBadTable : Option Bool} {ddBadTable : Option Addr} {maBadTable mbBadTable mcBadTable mdBadTable meBadTable : Option Value} {nmBadPlan qqBadPlan : Str} {NNBadPlan : Addr} {bsBadPlan : List Value} {snBadPlan : List Str} {suBadPlan : List Value} {abBadPlan : Bool} {coBadPlan : Option Bool} {ddBadPlan : Option Addr} {maBadPlan mbBadPlan mcBadPlan mdBadPlan meBadPlan : Option Value} {nmBadToken qqBadToken : Str} {NNBadToken : Addr} {bsBadToken : List Value} {snBadToken : List Str} {suBadToken : List Value} {abBadToken : Bool} {coBadToken : Option Bool} {ddBadToken : Option Addr} {maBadToken mbBadToken mcBadToken mdBadToken meBadToken : Option Value} {nmBadText qqBadText : Str} {NNBadText : Addr} {bsBadText : List Value} {snBadText : List Str} {suBadText : List Value} {abBadText : Bool} {coBadText : Option Bool} {ddBadText : Option Addr} {maBadText mbBadText mcBadText mdBadText meBadText : Option Value} {nmBadLine qqBadLine : Str} {NNBadLine : Addr} {bsBadLine : List Value} {snBadLine : List Str} {suBadLine : List Value} {abBadLine : Bool} {coBadLine : Option Bool} {ddBadLine : Option Addr} {maBadLine mbBadLine mcBadLine mdBadLine meBadLine : Option Value} {nmBadChance qqBadChance : Str} {NNBadChance : Addr} {bsBadChance : List Value} {snBadChance : List Str} {suBadChance : List Value} {abBadChance : Bool} {coBadChance : Option Bool} {ddBadChance : Option Addr} {maBadChance mbBadChance mcBadChance mdBadChance meBadChance : Option Value} {nmBadMove qqBadMove : Str} {NNBadMove : Addr} {bsBadMove : List Value} {snBadMove : List Str} {suBadMove : List Value} {abBadMove : Bool} {coBadMove : Option Bool} {ddBadMove : Option Addr} {maBadMove mbBadMove mcBadMove mdBadMove meBadMove : Option Value} {nmBadRun qqBadRun : Str} {NNBadRun : Addr} {bsBadRun : List Value} {snBadRun : List Str} {suBadRun : List Value} {abBadRun : Bool} {coBadRun : Option Bool} {ddBadRun : Option Addr} {maBadRun mbBadRun mcBadRun mdBadRun meBadRun : Option Value} {nmBadMoment qqBadMoment : Str} {NNBadMoment : Addr} {bsBadMoment : List Value} {snBadMoment : List Str} {suBadMoment : List Value} {abBadMoment : Bool} {coBadMoment : Option Bool} {ddBadMoment : Option Addr} {maBadMoment mbBadMoment mcBadMoment mdBadMoment meBadMoment : Option Value} {nmUnknownName qqUnknownName : Str} {NNUnknownName : Addr} {bsUnknownName : List Value} {snUnknownName : List Str} {suUnknownName : List Value} {abUnknownName : Bool} {coUnknownName : Option Bool} {ddUnknownName : Option Addr} {maUnknownName mbUnknownName mcUnknownName mdUnknownName meUnknownName : Option Value} {nmTooMany qqTooMany : Str} {NNTooMany : Addr} {bsTooMany : List Value} {snTooMany : List Str} {suTooMany : List Value} {abTooMany : Bool} {coTooMany : Option Bool} {ddTooMany : Option Addr} {maTooMany mbTooMany mcTooMany mdTooMany meTooMany : Option Value} {nmNothingToUndo qqNothingToUndo : Str} {NNNothingToUndo : Addr} {bsNothingToUndo : List Value} {snNothingToUndo : List Str} {suNothingToUndo : List Value} {abNothingToUndo : Bool} {coNothingToUndo : Option Bool} {ddNothingToUndo : Option Addr} {maNothingToUndo mbNothingToUndo mcNothingToUndo mdNothingToUndo meNothingToUndo : Option Value}
    (a_BadLabel : PySem.W.nsIn K mainGlobals "BadLabel" = some (some (.ref cBadLabel)))
    (a_BadCell : PySem.W.nsIn K mainGlobals "BadCell" = some (some (.ref cBadCell)))
    (a_BadPart : PySem.W.nsIn K mainGlobals "BadPart" = some (some (.ref cBadPart)))
    (a_BadTerm : PySem.W.nsIn K mainGlobals "BadTerm" = some (some (.ref cBadTerm)))
    (a_BadFunction : PySem.W.nsIn K mainGlobals "BadFunction" = some (some (.ref cBadFunction)))
    (a_BadState : PySem.W.nsIn K mainGlobals "BadState" = some (some (.ref cBadState)))
    (a_BadArguments : PySem.W.nsIn K mainGlobals "BadArguments" = some (some (.ref cBadArguments)))
    (a_BadTick : PySem.W.nsIn K mainGlobals "BadTick" = some (some (.ref cBadTick)))
    (a_BadCall : PySem.W.nsIn K mainGlobals "BadCall" = some (some (.ref cBadCall)))
    (a_BadTree : PySem.W.nsIn K mainGlobals "BadTree" = some (some (.ref cBadTree)))
    (a_BadOutput : PySem.W.nsIn K mainGlobals "BadOutput" = some (some (.ref cBadOutput)))
    (a_BadOrder : PySem.W.nsIn K mainGlobals "BadOrder" = some (some (.ref cBadOrder)))
    (a_BadMark : PySem.W.nsIn K mainGlobals "BadMark" = some (some (.ref cBadMark)))
    (a_BadTable : PySem.W.nsIn K mainGlobals "BadTable" = some (some (.ref cBadTable)))
    (a_BadPlan : PySem.W.nsIn K mainGlobals "BadPlan" = some (some (.ref cBadPlan)))
    (a_BadToken : PySem.W.nsIn K mainGlobals "BadToken" = some (some (.ref cBadToken)))
    (a_BadText : PySem.W.nsIn K mainGlobals "BadText" = some (some (.ref cBadText)))
    (a_BadLine : PySem.W.nsIn K mainGlobals "BadLine" = some (some (.ref cBadLine)))
    (a_BadChance : PySem.W.nsIn K mainGlobals "BadChance" = some (some (.ref cBadChance)))
    (a_BadMove : PySem.W.nsIn K mainGlobals "BadMove" = some (some (.ref cBadMove)))
    (a_BadRun : PySem.W.nsIn K mainGlobals "BadRun" = some (some (.ref cBadRun)))
    (a_BadMoment : PySem.W.nsIn K mainGlobals "BadMoment" = some (some (.ref cBadMoment)))
    (a_UnknownName : PySem.W.nsIn K mainGlobals "UnknownName" = some (some (.ref cUnknownName)))
    (a_TooMany : PySem.W.nsIn K mainGlobals "TooMany" = some (some (.ref cTooMany)))
    (a_NothingToUndo : PySem.W.nsIn K mainGlobals "NothingToUndo" = some (some (.ref cNothingToUndo)))
    (a_StoreError : PySem.W.nsIn K mainGlobals "StoreError" = some (some (.ref cStoreError)))
    (aIBadLabel : PySem.W.findIn K (.ref cBadLabel) "__init__" = some (some (.ref fIBadLabel))) (iIBadLabel : PySem.W.isFn K (.ref fIBadLabel) = true)
    (lIBadLabel : K.lookup fIBadLabel = some ⟨ocIBadLabel, odIBadLabel, .func (PySem.W.fnOf "__init__" "BadLabel.__init__" (defArgs sBadLabel) (defBody sBadLabel) (defScope sBadLabel) .none kVIBadLabel dcIBadLabel pmIBadLabel anIBadLabel cdIBadLabel ctIBadLabel), slIBadLabel⟩) (cIBadLabel : PySem.W.codeIn K cdIBadLabel "BadLabel.__init__" = true) (kIBadLabel : PySem.W.keepIn K (.ref fIBadLabel) = true)
    (aIBadCell : PySem.W.findIn K (.ref cBadCell) "__init__" = some (some (.ref fIBadCell))) (iIBadCell : PySem.W.isFn K (.ref fIBadCell) = true)
    (lIBadCell : K.lookup fIBadCell = some ⟨ocIBadCell, odIBadCell, .func (PySem.W.fnOf "__init__" "BadCell.__init__" (defArgs sBadCell) (defBody sBadCell) (defScope sBadCell) .none kVIBadCell dcIBadCell pmIBadCell anIBadCell cdIBadCell ctIBadCell), slIBadCell⟩) (cIBadCell : PySem.W.codeIn K cdIBadCell "BadCell.__init__" = true) (kIBadCell : PySem.W.keepIn K (.ref fIBadCell) = true)
    (aIBadPart : PySem.W.findIn K (.ref cBadPart) "__init__" = some (some (.ref fIBadPart))) (iIBadPart : PySem.W.isFn K (.ref fIBadPart) = true)
    (lIBadPart : K.lookup fIBadPart = some ⟨ocIBadPart, odIBadPart, .func (PySem.W.fnOf "__init__" "BadPart.__init__" (defArgs sBadPart) (defBody sBadPart) (defScope sBadPart) .none kVIBadPart dcIBadPart pmIBadPart anIBadPart cdIBadPart ctIBadPart), slIBadPart⟩) (cIBadPart : PySem.W.codeIn K cdIBadPart "BadPart.__init__" = true) (kIBadPart : PySem.W.keepIn K (.ref fIBadPart) = true)
    (aIBadTerm : PySem.W.findIn K (.ref cBadTerm) "__init__" = some (some (.ref fIBadTerm))) (iIBadTerm : PySem.W.isFn K (.ref fIBadTerm) = true)
    (lIBadTerm : K.lookup fIBadTerm = some ⟨ocIBadTerm, odIBadTerm, .func (PySem.W.fnOf "__init__" "BadTerm.__init__" (defArgs sBadTerm) (defBody sBadTerm) (defScope sBadTerm) .none kVIBadTerm dcIBadTerm pmIBadTerm anIBadTerm cdIBadTerm ctIBadTerm), slIBadTerm⟩) (cIBadTerm : PySem.W.codeIn K cdIBadTerm "BadTerm.__init__" = true) (kIBadTerm : PySem.W.keepIn K (.ref fIBadTerm) = true)
    (aIBadFunction : PySem.W.findIn K (.ref cBadFunction) "__init__" = some (some (.ref fIBadFunction))) (iIBadFunction : PySem.W.isFn K (.ref fIBadFunction) = true)
    (lIBadFunction : K.lookup fIBadFunction = some ⟨ocIBadFunction, odIBadFunction, .func (PySem.W.fnOf "__init__" "BadFunction.__init__" (defArgs sBadFunction) (defBody sBadFunction) (defScope sBadFunction) .none kVIBadFunction dcIBadFunction pmIBadFunction anIBadFunction cdIBadFunction ctIBadFunction), slIBadFunction⟩) (cIBadFunction : PySem.W.codeIn K cdIBadFunction "BadFunction.__init__" = true) (kIBadFunction : PySem.W.keepIn K (.ref fIBadFunction) = true)
    (aIBadState : PySem.W.findIn K (.ref cBadState) "__init__" = some (some (.ref fIBadState))) (iIBadState : PySem.W.isFn K (.ref fIBadState) = true)
    (lIBadState : K.lookup fIBadState = some ⟨ocIBadState, odIBadState, .func (PySem.W.fnOf "__init__" "BadState.__init__" (defArgs sBadState) (defBody sBadState) (defScope sBadState) .none kVIBadState dcIBadState pmIBadState anIBadState cdIBadState ctIBadState), slIBadState⟩) (cIBadState : PySem.W.codeIn K cdIBadState "BadState.__init__" = true) (kIBadState : PySem.W.keepIn K (.ref fIBadState) = true)
    (aIBadArguments : PySem.W.findIn K (.ref cBadArguments) "__init__" = some (some (.ref fIBadArguments))) (iIBadArguments : PySem.W.isFn K (.ref fIBadArguments) = true)
    (lIBadArguments : K.lookup fIBadArguments = some ⟨ocIBadArguments, odIBadArguments, .func (PySem.W.fnOf "__init__" "BadArguments.__init__" (defArgs sBadArguments) (defBody sBadArguments) (defScope sBadArguments) .none kVIBadArguments dcIBadArguments pmIBadArguments anIBadArguments cdIBadArguments ctIBadArguments), slIBadArguments⟩) (cIBadArguments : PySem.W.codeIn K cdIBadArguments "BadArguments.__init__" = true) (kIBadArguments : PySem.W.keepIn K (.ref fIBadArguments) = true)
    (aIBadTick : PySem.W.findIn K (.ref cBadTick) "__init__" = some (some (.ref fIBadTick))) (iIBadTick : PySem.W.isFn K (.ref fIBadTick) = true)
    (lIBadTick : K.lookup fIBadTick = some ⟨ocIBadTick, odIBadTick, .func (PySem.W.fnOf "__init__" "BadTick.__init__" (defArgs sBadTick) (defBody sBadTick) (defScope sBadTick) .none kVIBadTick dcIBadTick pmIBadTick anIBadTick cdIBadTick ctIBadTick), slIBadTick⟩) (cIBadTick : PySem.W.codeIn K cdIBadTick "BadTick.__init__" = true) (kIBadTick : PySem.W.keepIn K (.ref fIBadTick) = true)
    (aIBadCall : PySem.W.findIn K (.ref cBadCall) "__init__" = some (some (.ref fIBadCall))) (iIBadCall : PySem.W.isFn K (.ref fIBadCall) = true)
    (lIBadCall : K.lookup fIBadCall = some ⟨ocIBadCall, odIBadCall, .func (PySem.W.fnOf "__init__" "BadCall.__init__" (defArgs sBadCall) (defBody sBadCall) (defScope sBadCall) .none kVIBadCall dcIBadCall pmIBadCall anIBadCall cdIBadCall ctIBadCall), slIBadCall⟩) (cIBadCall : PySem.W.codeIn K cdIBadCall "BadCall.__init__" = true) (kIBadCall : PySem.W.keepIn K (.ref fIBadCall) = true)
    (aIBadTree : PySem.W.findIn K (.ref cBadTree) "__init__" = some (some (.ref fIBadTree))) (iIBadTree : PySem.W.isFn K (.ref fIBadTree) = true)
    (lIBadTree : K.lookup fIBadTree = some ⟨ocIBadTree, odIBadTree, .func (PySem.W.fnOf "__init__" "BadTree.__init__" (defArgs sBadTree) (defBody sBadTree) (defScope sBadTree) .none kVIBadTree dcIBadTree pmIBadTree anIBadTree cdIBadTree ctIBadTree), slIBadTree⟩) (cIBadTree : PySem.W.codeIn K cdIBadTree "BadTree.__init__" = true) (kIBadTree : PySem.W.keepIn K (.ref fIBadTree) = true)
    (aIBadOutput : PySem.W.findIn K (.ref cBadOutput) "__init__" = some (some (.ref fIBadOutput))) (iIBadOutput : PySem.W.isFn K (.ref fIBadOutput) = true)
    (lIBadOutput : K.lookup fIBadOutput = some ⟨ocIBadOutput, odIBadOutput, .func (PySem.W.fnOf "__init__" "BadOutput.__init__" (defArgs sBadOutput) (defBody sBadOutput) (defScope sBadOutput) .none kVIBadOutput dcIBadOutput pmIBadOutput anIBadOutput cdIBadOutput ctIBadOutput), slIBadOutput⟩) (cIBadOutput : PySem.W.codeIn K cdIBadOutput "BadOutput.__init__" = true) (kIBadOutput : PySem.W.keepIn K (.ref fIBadOutput) = true)
    (aIBadOrder : PySem.W.findIn K (.ref cBadOrder) "__init__" = some (some (.ref fIBadOrder))) (iIBadOrder : PySem.W.isFn K (.ref fIBadOrder) = true)
    (lIBadOrder : K.lookup fIBadOrder = some ⟨ocIBadOrder, odIBadOrder, .func (PySem.W.fnOf "__init__" "BadOrder.__init__" (defArgs sBadOrder) (defBody sBadOrder) (defScope sBadOrder) .none kVIBadOrder dcIBadOrder pmIBadOrder anIBadOrder cdIBadOrder ctIBadOrder), slIBadOrder⟩) (cIBadOrder : PySem.W.codeIn K cdIBadOrder "BadOrder.__init__" = true) (kIBadOrder : PySem.W.keepIn K (.ref fIBadOrder) = true)
    (aIBadMark : PySem.W.findIn K (.ref cBadMark) "__init__" = some (some (.ref fIBadMark))) (iIBadMark : PySem.W.isFn K (.ref fIBadMark) = true)
    (lIBadMark : K.lookup fIBadMark = some ⟨ocIBadMark, odIBadMark, .func (PySem.W.fnOf "__init__" "BadMark.__init__" (defArgs sBadMark) (defBody sBadMark) (defScope sBadMark) .none kVIBadMark dcIBadMark pmIBadMark anIBadMark cdIBadMark ctIBadMark), slIBadMark⟩) (cIBadMark : PySem.W.codeIn K cdIBadMark "BadMark.__init__" = true) (kIBadMark : PySem.W.keepIn K (.ref fIBadMark) = true)
    (aIBadTable : PySem.W.findIn K (.ref cBadTable) "__init__" = some (some (.ref fIBadTable))) (iIBadTable : PySem.W.isFn K (.ref fIBadTable) = true)
    (lIBadTable : K.lookup fIBadTable = some ⟨ocIBadTable, odIBadTable, .func (PySem.W.fnOf "__init__" "BadTable.__init__" (defArgs sBadTable) (defBody sBadTable) (defScope sBadTable) .none kVIBadTable dcIBadTable pmIBadTable anIBadTable cdIBadTable ctIBadTable), slIBadTable⟩) (cIBadTable : PySem.W.codeIn K cdIBadTable "BadTable.__init__" = true) (kIBadTable : PySem.W.keepIn K (.ref fIBadTable) = true)
    (aIBadPlan : PySem.W.findIn K (.ref cBadPlan) "__init__" = some (some (.ref fIBadPlan))) (iIBadPlan : PySem.W.isFn K (.ref fIBadPlan) = true)
    (lIBadPlan : K.lookup fIBadPlan = some ⟨ocIBadPlan, odIBadPlan, .func (PySem.W.fnOf "__init__" "BadPlan.__init__" (defArgs sBadPlan) (defBody sBadPlan) (defScope sBadPlan) .none kVIBadPlan dcIBadPlan pmIBadPlan anIBadPlan cdIBadPlan ctIBadPlan), slIBadPlan⟩) (cIBadPlan : PySem.W.codeIn K cdIBadPlan "BadPlan.__init__" = true) (kIBadPlan : PySem.W.keepIn K (.ref fIBadPlan) = true)
    (aIBadToken : PySem.W.findIn K (.ref cBadToken) "__init__" = some (some (.ref fIBadToken))) (iIBadToken : PySem.W.isFn K (.ref fIBadToken) = true)
    (lIBadToken : K.lookup fIBadToken = some ⟨ocIBadToken, odIBadToken, .func (PySem.W.fnOf "__init__" "BadToken.__init__" (defArgs sBadToken) (defBody sBadToken) (defScope sBadToken) .none kVIBadToken dcIBadToken pmIBadToken anIBadToken cdIBadToken ctIBadToken), slIBadToken⟩) (cIBadToken : PySem.W.codeIn K cdIBadToken "BadToken.__init__" = true) (kIBadToken : PySem.W.keepIn K (.ref fIBadToken) = true)
    (aIBadText : PySem.W.findIn K (.ref cBadText) "__init__" = some (some (.ref fIBadText))) (iIBadText : PySem.W.isFn K (.ref fIBadText) = true)
    (lIBadText : K.lookup fIBadText = some ⟨ocIBadText, odIBadText, .func (PySem.W.fnOf "__init__" "BadText.__init__" (defArgs sBadText) (defBody sBadText) (defScope sBadText) .none kVIBadText dcIBadText pmIBadText anIBadText cdIBadText ctIBadText), slIBadText⟩) (cIBadText : PySem.W.codeIn K cdIBadText "BadText.__init__" = true) (kIBadText : PySem.W.keepIn K (.ref fIBadText) = true)
    (aIBadLine : PySem.W.findIn K (.ref cBadLine) "__init__" = some (some (.ref fIBadLine))) (iIBadLine : PySem.W.isFn K (.ref fIBadLine) = true)
    (lIBadLine : K.lookup fIBadLine = some ⟨ocIBadLine, odIBadLine, .func (PySem.W.fnOf "__init__" "BadLine.__init__" (defArgs sBadLine) (defBody sBadLine) (defScope sBadLine) .none kVIBadLine dcIBadLine pmIBadLine anIBadLine cdIBadLine ctIBadLine), slIBadLine⟩) (cIBadLine : PySem.W.codeIn K cdIBadLine "BadLine.__init__" = true) (kIBadLine : PySem.W.keepIn K (.ref fIBadLine) = true)
    (aIBadChance : PySem.W.findIn K (.ref cBadChance) "__init__" = some (some (.ref fIBadChance))) (iIBadChance : PySem.W.isFn K (.ref fIBadChance) = true)
    (lIBadChance : K.lookup fIBadChance = some ⟨ocIBadChance, odIBadChance, .func (PySem.W.fnOf "__init__" "BadChance.__init__" (defArgs sBadChance) (defBody sBadChance) (defScope sBadChance) .none kVIBadChance dcIBadChance pmIBadChance anIBadChance cdIBadChance ctIBadChance), slIBadChance⟩) (cIBadChance : PySem.W.codeIn K cdIBadChance "BadChance.__init__" = true) (kIBadChance : PySem.W.keepIn K (.ref fIBadChance) = true)
    (aIBadMove : PySem.W.findIn K (.ref cBadMove) "__init__" = some (some (.ref fIBadMove))) (iIBadMove : PySem.W.isFn K (.ref fIBadMove) = true)
    (lIBadMove : K.lookup fIBadMove = some ⟨ocIBadMove, odIBadMove, .func (PySem.W.fnOf "__init__" "BadMove.__init__" (defArgs sBadMove) (defBody sBadMove) (defScope sBadMove) .none kVIBadMove dcIBadMove pmIBadMove anIBadMove cdIBadMove ctIBadMove), slIBadMove⟩) (cIBadMove : PySem.W.codeIn K cdIBadMove "BadMove.__init__" = true) (kIBadMove : PySem.W.keepIn K (.ref fIBadMove) = true)
    (aIBadRun : PySem.W.findIn K (.ref cBadRun) "__init__" = some (some (.ref fIBadRun))) (iIBadRun : PySem.W.isFn K (.ref fIBadRun) = true)
    (lIBadRun : K.lookup fIBadRun = some ⟨ocIBadRun, odIBadRun, .func (PySem.W.fnOf "__init__" "BadRun.__init__" (defArgs sBadRun) (defBody sBadRun) (defScope sBadRun) .none kVIBadRun dcIBadRun pmIBadRun anIBadRun cdIBadRun ctIBadRun), slIBadRun⟩) (cIBadRun : PySem.W.codeIn K cdIBadRun "BadRun.__init__" = true) (kIBadRun : PySem.W.keepIn K (.ref fIBadRun) = true)
    (aIBadMoment : PySem.W.findIn K (.ref cBadMoment) "__init__" = some (some (.ref fIBadMoment))) (iIBadMoment : PySem.W.isFn K (.ref fIBadMoment) = true)
    (lIBadMoment : K.lookup fIBadMoment = some ⟨ocIBadMoment, odIBadMoment, .func (PySem.W.fnOf "__init__" "BadMoment.__init__" (defArgs sBadMoment) (defBody sBadMoment) (defScope sBadMoment) .none kVIBadMoment dcIBadMoment pmIBadMoment anIBadMoment cdIBadMoment ctIBadMoment), slIBadMoment⟩) (cIBadMoment : PySem.W.codeIn K cdIBadMoment "BadMoment.__init__" = true) (kIBadMoment : PySem.W.keepIn K (.ref fIBadMoment) = true)
    (aIUnknownName : PySem.W.findIn K (.ref cUnknownName) "__init__" = some (some (.ref fIUnknownName))) (iIUnknownName : PySem.W.isFn K (.ref fIUnknownName) = true)
    (lIUnknownName : K.lookup fIUnknownName = some ⟨ocIUnknownName, odIUnknownName, .func (PySem.W.fnOf "__init__" "UnknownName.__init__" (defArgs sUnknownName) (defBody sUnknownName) (defScope sUnknownName) .none kVIUnknownName dcIUnknownName pmIUnknownName anIUnknownName cdIUnknownName ctIUnknownName), slIUnknownName⟩) (cIUnknownName : PySem.W.codeIn K cdIUnknownName "UnknownName.__init__" = true) (kIUnknownName : PySem.W.keepIn K (.ref fIUnknownName) = true)
    (aITooMany : PySem.W.findIn K (.ref cTooMany) "__init__" = some (some (.ref fITooMany))) (iITooMany : PySem.W.isFn K (.ref fITooMany) = true)
    (lITooMany : K.lookup fITooMany = some ⟨ocITooMany, odITooMany, .func (PySem.W.fnOf "__init__" "TooMany.__init__" (defArgs sTooMany) (defBody sTooMany) (defScope sTooMany) .none kVITooMany dcITooMany pmITooMany anITooMany cdITooMany ctITooMany), slITooMany⟩) (cITooMany : PySem.W.codeIn K cdITooMany "TooMany.__init__" = true) (kITooMany : PySem.W.keepIn K (.ref fITooMany) = true)
    (aINothingToUndo : PySem.W.findIn K (.ref cNothingToUndo) "__init__" = some (some (.ref fINothingToUndo))) (iINothingToUndo : PySem.W.isFn K (.ref fINothingToUndo) = true)
    (lINothingToUndo : K.lookup fINothingToUndo = some ⟨ocINothingToUndo, odINothingToUndo, .func (PySem.W.fnOf "__init__" "NothingToUndo.__init__" (defArgs sNothingToUndo) (defBody sNothingToUndo) (defScope sNothingToUndo) .none kVINothingToUndo dcINothingToUndo pmINothingToUndo anINothingToUndo cdINothingToUndo ctINothingToUndo), slINothingToUndo⟩) (cINothingToUndo : PySem.W.codeIn K cdINothingToUndo "NothingToUndo.__init__" = true) (kINothingToUndo : PySem.W.keepIn K (.ref fINothingToUndo) = true)
    (aPl : PySem.W.nsIn K mainGlobals "_law_pool" = some (some (.ref fPl)))
    (lPl : K.lookup fPl = some ⟨ocPl, odPl, .func (PySem.W.fnOf "_law_pool" "_law_pool" (defArgs sPool) (defBody sPool) (defScope sPool) .none kVPl dcPl pmPl anPl cdPl ctPl), slPl⟩) (cPl : PySem.W.codeIn K cdPl "_law_pool" = true) (kPl : PySem.W.keepIn K (.ref fPl) = true)
    (aDr : PySem.W.nsIn K mainGlobals "_law_draw" = some (some (.ref fDr)))
    (lDr : K.lookup fDr = some ⟨ocDr, odDr, .func (PySem.W.fnOf "_law_draw" "_law_draw" (defArgs sDraw) (defBody sDraw) (defScope sDraw) .none kVDr dcDr pmDr anDr cdDr ctDr), slDr⟩) (cDr : PySem.W.codeIn K cdDr "_law_draw" = true) (kDr : PySem.W.keepIn K (.ref fDr) = true)
    (aLt : PySem.W.nsIn K mainGlobals "_law_later_right" = some (some (.ref fLt)))
    (lLt : K.lookup fLt = some ⟨ocLt, odLt, .func (PySem.W.fnOf "_law_later_right" "_law_later_right" (defArgs sLater) (defBody sLater) (defScope sLater) .none kVLt dcLt pmLt anLt cdLt ctLt), slLt⟩) (cLt : PySem.W.codeIn K cdLt "_law_later_right" = true) (kLt : PySem.W.keepIn K (.ref fLt) = true)
    (aLa : PySem.W.nsIn K mainGlobals "law" = some (some (.ref fLa)))
    (lLa : K.lookup fLa = some ⟨ocLa, odLa, .func (PySem.W.fnOf "law" "law" (defArgs sLaw) (defBody sLaw) (defScope sLaw) .none kVLa dcLa pmLa anLa cdLa ctLa), slLa⟩) (cLa : PySem.W.codeIn K cdLa "law" = true) (kLa : PySem.W.keepIn K (.ref fLa) = true)
    (z_abs : PySem.W.nsIn K mainGlobals "abs" = some none)
    (z_int : PySem.W.nsIn K mainGlobals "int" = some none)
    (z_len : PySem.W.nsIn K mainGlobals "len" = some none)
    (z_sum : PySem.W.nsIn K mainGlobals "sum" = some none)
    (z_max : PySem.W.nsIn K mainGlobals "max" = some none)
    (z_min : PySem.W.nsIn K mainGlobals "min" = some none)
    (z_range : PySem.W.nsIn K mainGlobals "range" = some none)
    (z_isinstance : PySem.W.nsIn K mainGlobals "isinstance" = some none)
    (z_bool : PySem.W.nsIn K mainGlobals "bool" = some none)
    (z_str : PySem.W.nsIn K mainGlobals "str" = some none)
    (z_tuple : PySem.W.nsIn K mainGlobals "tuple" = some none)
    (z_list : PySem.W.nsIn K mainGlobals "list" = some none)
    (z_dict : PySem.W.nsIn K mainGlobals "dict" = some none)
    (z_all : PySem.W.nsIn K mainGlobals "all" = some none)
    (z_sorted : PySem.W.nsIn K mainGlobals "sorted" = some none)
    (z_repr : PySem.W.nsIn K mainGlobals "repr" = some none)
    (z_zip : PySem.W.nsIn K mainGlobals "zip" = some none)
    (z_ValueError : PySem.W.nsIn K mainGlobals "ValueError" = some none)
    (z_KeyError : PySem.W.nsIn K mainGlobals "KeyError" = some none)
    (z_OverflowError : PySem.W.nsIn K mainGlobals "OverflowError" = some none)
    (z_RuntimeError : PySem.W.nsIn K mainGlobals "RuntimeError" = some none)
    (cgL : PySem.W.specialIn K (.builtin "object.__class__") "__get__" = some (some (.builtin "getset_descriptor.__get__")))
    (ctL : PySem.W.takesIn K (.builtin "object.__class__") = some true)
    (spS : PySem.W.specialIn K (.ref cStoreError) "__getattribute__" = some (some (.builtin "type.__getattribute__")))
    (tyS : PySem.W.typeIn K (.ref cStoreError) = some (.type "type"))
    (rdS : PySem.W.readsIn K cStoreError (.type "type") = true)
    (fiS : PySem.W.findCls K (.ref cStoreError) (.type "type") "__init__" = some (.val (.builtin "ValueError.__init__")))
    (fiUnknownName : PySem.W.findCls K (.type "KeyError") (.type "type") "__init__" = some (.val (.builtin "KeyError.__init__")))
    (fiTooMany : PySem.W.findCls K (.type "OverflowError") (.type "type") "__init__" = some (.val (.builtin "OverflowError.__init__")))
    (fiNothingToUndo : PySem.W.findCls K (.type "RuntimeError") (.type "type") "__init__" = some (.val (.builtin "RuntimeError.__init__")))
    (x_BadLabel : K.lookup cBadLabel = some (excClassObj nmBadLabel qqBadLabel cBadLabel NNBadLabel bsBadLabel [.ref cStoreError, .type "ValueError", .type "Exception", .type "BaseException", .type "object"] true snBadLabel suBadLabel abBadLabel coBadLabel ddBadLabel maBadLabel mbBadLabel mcBadLabel mdBadLabel meBadLabel "ValueError.__new__"))
    (saBadLabel : PySem.W.findIn K (.ref cBadLabel) "__setattr__" = some (some (.builtin "object.__setattr__")))
    (kcBadLabel : PySem.W.keepIn K (.ref cBadLabel) = true)
    (tyBadLabel : PySem.W.typeIn K (.ref fIBadLabel) = some (.type "function"))
    (gaBadLabel : PySem.W.findIn K (.ref cBadLabel) "__getattribute__" = some (some (.builtin "BaseException.__getattribute__")))
    (ggBadLabel : PySem.W.findIn K (.ref cBadLabel) "__getattr__" = some none)
    (exBadLabel : PySem.W.subIn K (.ref cBadLabel) (.type "BaseException") = some true)
    (hdBadLabel : PySem.W.hasDictIn K cBadLabel = true)
    (noBadLabel : PySem.W.findIn K (.ref cBadLabel) "label" = some none)
    (clBadLabel : (PySem.W.clsIn K cBadLabel).isSome = true)
    (caBadLabel : PySem.W.findIn K (.ref cBadLabel) "__class__" = some (some (.builtin "object.__class__")))
    (moBadLabel : PySem.W.mroIn K cBadLabel (.type "object") = some true)
    (ksBadLabel : PySem.W.kitOne K (.ref cBadLabel) (.ref cStoreError) = some true)
    (kvBadLabel : PySem.W.kitOne K (.ref cBadLabel) (.type "ValueError") = some true)
    (x_BadCell : K.lookup cBadCell = some (excClassObj nmBadCell qqBadCell cBadCell NNBadCell bsBadCell [.ref cStoreError, .type "ValueError", .type "Exception", .type "BaseException", .type "object"] true snBadCell suBadCell abBadCell coBadCell ddBadCell maBadCell mbBadCell mcBadCell mdBadCell meBadCell "ValueError.__new__"))
    (saBadCell : PySem.W.findIn K (.ref cBadCell) "__setattr__" = some (some (.builtin "object.__setattr__")))
    (kcBadCell : PySem.W.keepIn K (.ref cBadCell) = true)
    (tyBadCell : PySem.W.typeIn K (.ref fIBadCell) = some (.type "function"))
    (gaBadCell : PySem.W.findIn K (.ref cBadCell) "__getattribute__" = some (some (.builtin "BaseException.__getattribute__")))
    (ggBadCell : PySem.W.findIn K (.ref cBadCell) "__getattr__" = some none)
    (exBadCell : PySem.W.subIn K (.ref cBadCell) (.type "BaseException") = some true)
    (hdBadCell : PySem.W.hasDictIn K cBadCell = true)
    (noBadCell : PySem.W.findIn K (.ref cBadCell) "index" = some none)
    (clBadCell : (PySem.W.clsIn K cBadCell).isSome = true)
    (caBadCell : PySem.W.findIn K (.ref cBadCell) "__class__" = some (some (.builtin "object.__class__")))
    (moBadCell : PySem.W.mroIn K cBadCell (.type "object") = some true)
    (ksBadCell : PySem.W.kitOne K (.ref cBadCell) (.ref cStoreError) = some true)
    (kvBadCell : PySem.W.kitOne K (.ref cBadCell) (.type "ValueError") = some true)
    (x_BadPart : K.lookup cBadPart = some (excClassObj nmBadPart qqBadPart cBadPart NNBadPart bsBadPart [.ref cStoreError, .type "ValueError", .type "Exception", .type "BaseException", .type "object"] true snBadPart suBadPart abBadPart coBadPart ddBadPart maBadPart mbBadPart mcBadPart mdBadPart meBadPart "ValueError.__new__"))
    (saBadPart : PySem.W.findIn K (.ref cBadPart) "__setattr__" = some (some (.builtin "object.__setattr__")))
    (kcBadPart : PySem.W.keepIn K (.ref cBadPart) = true)
    (tyBadPart : PySem.W.typeIn K (.ref fIBadPart) = some (.type "function"))
    (gaBadPart : PySem.W.findIn K (.ref cBadPart) "__getattribute__" = some (some (.builtin "BaseException.__getattribute__")))
    (ggBadPart : PySem.W.findIn K (.ref cBadPart) "__getattr__" = some none)
    (exBadPart : PySem.W.subIn K (.ref cBadPart) (.type "BaseException") = some true)
    (hdBadPart : PySem.W.hasDictIn K cBadPart = true)
    (noBadPart : PySem.W.findIn K (.ref cBadPart) "part" = some none)
    (clBadPart : (PySem.W.clsIn K cBadPart).isSome = true)
    (caBadPart : PySem.W.findIn K (.ref cBadPart) "__class__" = some (some (.builtin "object.__class__")))
    (moBadPart : PySem.W.mroIn K cBadPart (.type "object") = some true)
    (ksBadPart : PySem.W.kitOne K (.ref cBadPart) (.ref cStoreError) = some true)
    (kvBadPart : PySem.W.kitOne K (.ref cBadPart) (.type "ValueError") = some true)
    (x_BadTerm : K.lookup cBadTerm = some (excClassObj nmBadTerm qqBadTerm cBadTerm NNBadTerm bsBadTerm [.ref cStoreError, .type "ValueError", .type "Exception", .type "BaseException", .type "object"] true snBadTerm suBadTerm abBadTerm coBadTerm ddBadTerm maBadTerm mbBadTerm mcBadTerm mdBadTerm meBadTerm "ValueError.__new__"))
    (saBadTerm : PySem.W.findIn K (.ref cBadTerm) "__setattr__" = some (some (.builtin "object.__setattr__")))
    (kcBadTerm : PySem.W.keepIn K (.ref cBadTerm) = true)
    (tyBadTerm : PySem.W.typeIn K (.ref fIBadTerm) = some (.type "function"))
    (gaBadTerm : PySem.W.findIn K (.ref cBadTerm) "__getattribute__" = some (some (.builtin "BaseException.__getattribute__")))
    (ggBadTerm : PySem.W.findIn K (.ref cBadTerm) "__getattr__" = some none)
    (exBadTerm : PySem.W.subIn K (.ref cBadTerm) (.type "BaseException") = some true)
    (hdBadTerm : PySem.W.hasDictIn K cBadTerm = true)
    (noBadTerm : PySem.W.findIn K (.ref cBadTerm) "term" = some none)
    (clBadTerm : (PySem.W.clsIn K cBadTerm).isSome = true)
    (caBadTerm : PySem.W.findIn K (.ref cBadTerm) "__class__" = some (some (.builtin "object.__class__")))
    (moBadTerm : PySem.W.mroIn K cBadTerm (.type "object") = some true)
    (ksBadTerm : PySem.W.kitOne K (.ref cBadTerm) (.ref cStoreError) = some true)
    (kvBadTerm : PySem.W.kitOne K (.ref cBadTerm) (.type "ValueError") = some true)
    (x_BadFunction : K.lookup cBadFunction = some (excClassObj nmBadFunction qqBadFunction cBadFunction NNBadFunction bsBadFunction [.ref cStoreError, .type "ValueError", .type "Exception", .type "BaseException", .type "object"] true snBadFunction suBadFunction abBadFunction coBadFunction ddBadFunction maBadFunction mbBadFunction mcBadFunction mdBadFunction meBadFunction "ValueError.__new__"))
    (saBadFunction : PySem.W.findIn K (.ref cBadFunction) "__setattr__" = some (some (.builtin "object.__setattr__")))
    (kcBadFunction : PySem.W.keepIn K (.ref cBadFunction) = true)
    (tyBadFunction : PySem.W.typeIn K (.ref fIBadFunction) = some (.type "function"))
    (gaBadFunction : PySem.W.findIn K (.ref cBadFunction) "__getattribute__" = some (some (.builtin "BaseException.__getattribute__")))
    (ggBadFunction : PySem.W.findIn K (.ref cBadFunction) "__getattr__" = some none)
    (exBadFunction : PySem.W.subIn K (.ref cBadFunction) (.type "BaseException") = some true)
    (hdBadFunction : PySem.W.hasDictIn K cBadFunction = true)
    (noBadFunction : PySem.W.findIn K (.ref cBadFunction) "index" = some none)
    (clBadFunction : (PySem.W.clsIn K cBadFunction).isSome = true)
    (caBadFunction : PySem.W.findIn K (.ref cBadFunction) "__class__" = some (some (.builtin "object.__class__")))
    (moBadFunction : PySem.W.mroIn K cBadFunction (.type "object") = some true)
    (ksBadFunction : PySem.W.kitOne K (.ref cBadFunction) (.ref cStoreError) = some true)
    (kvBadFunction : PySem.W.kitOne K (.ref cBadFunction) (.type "ValueError") = some true)
    (x_BadState : K.lookup cBadState = some (excClassObj nmBadState qqBadState cBadState NNBadState bsBadState [.ref cStoreError, .type "ValueError", .type "Exception", .type "BaseException", .type "object"] true snBadState suBadState abBadState coBadState ddBadState maBadState mbBadState mcBadState mdBadState meBadState "ValueError.__new__"))
    (saBadState : PySem.W.findIn K (.ref cBadState) "__setattr__" = some (some (.builtin "object.__setattr__")))
    (kcBadState : PySem.W.keepIn K (.ref cBadState) = true)
    (tyBadState : PySem.W.typeIn K (.ref fIBadState) = some (.type "function"))
    (gaBadState : PySem.W.findIn K (.ref cBadState) "__getattribute__" = some (some (.builtin "BaseException.__getattribute__")))
    (ggBadState : PySem.W.findIn K (.ref cBadState) "__getattr__" = some none)
    (exBadState : PySem.W.subIn K (.ref cBadState) (.type "BaseException") = some true)
    (hdBadState : PySem.W.hasDictIn K cBadState = true)
    (noBadState : PySem.W.findIn K (.ref cBadState) "name" = some none)
    (clBadState : (PySem.W.clsIn K cBadState).isSome = true)
    (caBadState : PySem.W.findIn K (.ref cBadState) "__class__" = some (some (.builtin "object.__class__")))
    (moBadState : PySem.W.mroIn K cBadState (.type "object") = some true)
    (ksBadState : PySem.W.kitOne K (.ref cBadState) (.ref cStoreError) = some true)
    (kvBadState : PySem.W.kitOne K (.ref cBadState) (.type "ValueError") = some true)
    (x_BadArguments : K.lookup cBadArguments = some (excClassObj nmBadArguments qqBadArguments cBadArguments NNBadArguments bsBadArguments [.ref cStoreError, .type "ValueError", .type "Exception", .type "BaseException", .type "object"] true snBadArguments suBadArguments abBadArguments coBadArguments ddBadArguments maBadArguments mbBadArguments mcBadArguments mdBadArguments meBadArguments "ValueError.__new__"))
    (saBadArguments : PySem.W.findIn K (.ref cBadArguments) "__setattr__" = some (some (.builtin "object.__setattr__")))
    (kcBadArguments : PySem.W.keepIn K (.ref cBadArguments) = true)
    (tyBadArguments : PySem.W.typeIn K (.ref fIBadArguments) = some (.type "function"))
    (gaBadArguments : PySem.W.findIn K (.ref cBadArguments) "__getattribute__" = some (some (.builtin "BaseException.__getattribute__")))
    (ggBadArguments : PySem.W.findIn K (.ref cBadArguments) "__getattr__" = some none)
    (exBadArguments : PySem.W.subIn K (.ref cBadArguments) (.type "BaseException") = some true)
    (hdBadArguments : PySem.W.hasDictIn K cBadArguments = true)
    (noBadArguments : PySem.W.findIn K (.ref cBadArguments) "arguments" = some none)
    (clBadArguments : (PySem.W.clsIn K cBadArguments).isSome = true)
    (caBadArguments : PySem.W.findIn K (.ref cBadArguments) "__class__" = some (some (.builtin "object.__class__")))
    (moBadArguments : PySem.W.mroIn K cBadArguments (.type "object") = some true)
    (ksBadArguments : PySem.W.kitOne K (.ref cBadArguments) (.ref cStoreError) = some true)
    (kvBadArguments : PySem.W.kitOne K (.ref cBadArguments) (.type "ValueError") = some true)
    (x_BadTick : K.lookup cBadTick = some (excClassObj nmBadTick qqBadTick cBadTick NNBadTick bsBadTick [.ref cStoreError, .type "ValueError", .type "Exception", .type "BaseException", .type "object"] true snBadTick suBadTick abBadTick coBadTick ddBadTick maBadTick mbBadTick mcBadTick mdBadTick meBadTick "ValueError.__new__"))
    (saBadTick : PySem.W.findIn K (.ref cBadTick) "__setattr__" = some (some (.builtin "object.__setattr__")))
    (kcBadTick : PySem.W.keepIn K (.ref cBadTick) = true)
    (tyBadTick : PySem.W.typeIn K (.ref fIBadTick) = some (.type "function"))
    (gaBadTick : PySem.W.findIn K (.ref cBadTick) "__getattribute__" = some (some (.builtin "BaseException.__getattribute__")))
    (ggBadTick : PySem.W.findIn K (.ref cBadTick) "__getattr__" = some none)
    (exBadTick : PySem.W.subIn K (.ref cBadTick) (.type "BaseException") = some true)
    (hdBadTick : PySem.W.hasDictIn K cBadTick = true)
    (noBadTick : PySem.W.findIn K (.ref cBadTick) "value" = some none)
    (clBadTick : (PySem.W.clsIn K cBadTick).isSome = true)
    (caBadTick : PySem.W.findIn K (.ref cBadTick) "__class__" = some (some (.builtin "object.__class__")))
    (moBadTick : PySem.W.mroIn K cBadTick (.type "object") = some true)
    (ksBadTick : PySem.W.kitOne K (.ref cBadTick) (.ref cStoreError) = some true)
    (kvBadTick : PySem.W.kitOne K (.ref cBadTick) (.type "ValueError") = some true)
    (x_BadCall : K.lookup cBadCall = some (excClassObj nmBadCall qqBadCall cBadCall NNBadCall bsBadCall [.ref cStoreError, .type "ValueError", .type "Exception", .type "BaseException", .type "object"] true snBadCall suBadCall abBadCall coBadCall ddBadCall maBadCall mbBadCall mcBadCall mdBadCall meBadCall "ValueError.__new__"))
    (saBadCall : PySem.W.findIn K (.ref cBadCall) "__setattr__" = some (some (.builtin "object.__setattr__")))
    (kcBadCall : PySem.W.keepIn K (.ref cBadCall) = true)
    (tyBadCall : PySem.W.typeIn K (.ref fIBadCall) = some (.type "function"))
    (gaBadCall : PySem.W.findIn K (.ref cBadCall) "__getattribute__" = some (some (.builtin "BaseException.__getattribute__")))
    (ggBadCall : PySem.W.findIn K (.ref cBadCall) "__getattr__" = some none)
    (exBadCall : PySem.W.subIn K (.ref cBadCall) (.type "BaseException") = some true)
    (hdBadCall : PySem.W.hasDictIn K cBadCall = true)
    (noBadCall : PySem.W.findIn K (.ref cBadCall) "index" = some none)
    (clBadCall : (PySem.W.clsIn K cBadCall).isSome = true)
    (caBadCall : PySem.W.findIn K (.ref cBadCall) "__class__" = some (some (.builtin "object.__class__")))
    (moBadCall : PySem.W.mroIn K cBadCall (.type "object") = some true)
    (ksBadCall : PySem.W.kitOne K (.ref cBadCall) (.ref cStoreError) = some true)
    (kvBadCall : PySem.W.kitOne K (.ref cBadCall) (.type "ValueError") = some true)
    (x_BadTree : K.lookup cBadTree = some (excClassObj nmBadTree qqBadTree cBadTree NNBadTree bsBadTree [.ref cStoreError, .type "ValueError", .type "Exception", .type "BaseException", .type "object"] true snBadTree suBadTree abBadTree coBadTree ddBadTree maBadTree mbBadTree mcBadTree mdBadTree meBadTree "ValueError.__new__"))
    (saBadTree : PySem.W.findIn K (.ref cBadTree) "__setattr__" = some (some (.builtin "object.__setattr__")))
    (kcBadTree : PySem.W.keepIn K (.ref cBadTree) = true)
    (tyBadTree : PySem.W.typeIn K (.ref fIBadTree) = some (.type "function"))
    (gaBadTree : PySem.W.findIn K (.ref cBadTree) "__getattribute__" = some (some (.builtin "BaseException.__getattribute__")))
    (ggBadTree : PySem.W.findIn K (.ref cBadTree) "__getattr__" = some none)
    (exBadTree : PySem.W.subIn K (.ref cBadTree) (.type "BaseException") = some true)
    (hdBadTree : PySem.W.hasDictIn K cBadTree = true)
    (noBadTree : PySem.W.findIn K (.ref cBadTree) "tree" = some none)
    (clBadTree : (PySem.W.clsIn K cBadTree).isSome = true)
    (caBadTree : PySem.W.findIn K (.ref cBadTree) "__class__" = some (some (.builtin "object.__class__")))
    (moBadTree : PySem.W.mroIn K cBadTree (.type "object") = some true)
    (ksBadTree : PySem.W.kitOne K (.ref cBadTree) (.ref cStoreError) = some true)
    (kvBadTree : PySem.W.kitOne K (.ref cBadTree) (.type "ValueError") = some true)
    (x_BadOutput : K.lookup cBadOutput = some (excClassObj nmBadOutput qqBadOutput cBadOutput NNBadOutput bsBadOutput [.ref cStoreError, .type "ValueError", .type "Exception", .type "BaseException", .type "object"] true snBadOutput suBadOutput abBadOutput coBadOutput ddBadOutput maBadOutput mbBadOutput mcBadOutput mdBadOutput meBadOutput "ValueError.__new__"))
    (saBadOutput : PySem.W.findIn K (.ref cBadOutput) "__setattr__" = some (some (.builtin "object.__setattr__")))
    (kcBadOutput : PySem.W.keepIn K (.ref cBadOutput) = true)
    (tyBadOutput : PySem.W.typeIn K (.ref fIBadOutput) = some (.type "function"))
    (gaBadOutput : PySem.W.findIn K (.ref cBadOutput) "__getattribute__" = some (some (.builtin "BaseException.__getattribute__")))
    (ggBadOutput : PySem.W.findIn K (.ref cBadOutput) "__getattr__" = some none)
    (exBadOutput : PySem.W.subIn K (.ref cBadOutput) (.type "BaseException") = some true)
    (hdBadOutput : PySem.W.hasDictIn K cBadOutput = true)
    (noBadOutput : PySem.W.findIn K (.ref cBadOutput) "index" = some none)
    (clBadOutput : (PySem.W.clsIn K cBadOutput).isSome = true)
    (caBadOutput : PySem.W.findIn K (.ref cBadOutput) "__class__" = some (some (.builtin "object.__class__")))
    (moBadOutput : PySem.W.mroIn K cBadOutput (.type "object") = some true)
    (ksBadOutput : PySem.W.kitOne K (.ref cBadOutput) (.ref cStoreError) = some true)
    (kvBadOutput : PySem.W.kitOne K (.ref cBadOutput) (.type "ValueError") = some true)
    (x_BadOrder : K.lookup cBadOrder = some (excClassObj nmBadOrder qqBadOrder cBadOrder NNBadOrder bsBadOrder [.ref cStoreError, .type "ValueError", .type "Exception", .type "BaseException", .type "object"] true snBadOrder suBadOrder abBadOrder coBadOrder ddBadOrder maBadOrder mbBadOrder mcBadOrder mdBadOrder meBadOrder "ValueError.__new__"))
    (saBadOrder : PySem.W.findIn K (.ref cBadOrder) "__setattr__" = some (some (.builtin "object.__setattr__")))
    (kcBadOrder : PySem.W.keepIn K (.ref cBadOrder) = true)
    (tyBadOrder : PySem.W.typeIn K (.ref fIBadOrder) = some (.type "function"))
    (gaBadOrder : PySem.W.findIn K (.ref cBadOrder) "__getattribute__" = some (some (.builtin "BaseException.__getattribute__")))
    (ggBadOrder : PySem.W.findIn K (.ref cBadOrder) "__getattr__" = some none)
    (exBadOrder : PySem.W.subIn K (.ref cBadOrder) (.type "BaseException") = some true)
    (hdBadOrder : PySem.W.hasDictIn K cBadOrder = true)
    (noBadOrder : PySem.W.findIn K (.ref cBadOrder) "index" = some none)
    (clBadOrder : (PySem.W.clsIn K cBadOrder).isSome = true)
    (caBadOrder : PySem.W.findIn K (.ref cBadOrder) "__class__" = some (some (.builtin "object.__class__")))
    (moBadOrder : PySem.W.mroIn K cBadOrder (.type "object") = some true)
    (ksBadOrder : PySem.W.kitOne K (.ref cBadOrder) (.ref cStoreError) = some true)
    (kvBadOrder : PySem.W.kitOne K (.ref cBadOrder) (.type "ValueError") = some true)
    (x_BadMark : K.lookup cBadMark = some (excClassObj nmBadMark qqBadMark cBadMark NNBadMark bsBadMark [.ref cStoreError, .type "ValueError", .type "Exception", .type "BaseException", .type "object"] true snBadMark suBadMark abBadMark coBadMark ddBadMark maBadMark mbBadMark mcBadMark mdBadMark meBadMark "ValueError.__new__"))
    (saBadMark : PySem.W.findIn K (.ref cBadMark) "__setattr__" = some (some (.builtin "object.__setattr__")))
    (kcBadMark : PySem.W.keepIn K (.ref cBadMark) = true)
    (tyBadMark : PySem.W.typeIn K (.ref fIBadMark) = some (.type "function"))
    (gaBadMark : PySem.W.findIn K (.ref cBadMark) "__getattribute__" = some (some (.builtin "BaseException.__getattribute__")))
    (ggBadMark : PySem.W.findIn K (.ref cBadMark) "__getattr__" = some none)
    (exBadMark : PySem.W.subIn K (.ref cBadMark) (.type "BaseException") = some true)
    (hdBadMark : PySem.W.hasDictIn K cBadMark = true)
    (noBadMark : PySem.W.findIn K (.ref cBadMark) "index" = some none)
    (clBadMark : (PySem.W.clsIn K cBadMark).isSome = true)
    (caBadMark : PySem.W.findIn K (.ref cBadMark) "__class__" = some (some (.builtin "object.__class__")))
    (moBadMark : PySem.W.mroIn K cBadMark (.type "object") = some true)
    (ksBadMark : PySem.W.kitOne K (.ref cBadMark) (.ref cStoreError) = some true)
    (kvBadMark : PySem.W.kitOne K (.ref cBadMark) (.type "ValueError") = some true)
    (x_BadTable : K.lookup cBadTable = some (excClassObj nmBadTable qqBadTable cBadTable NNBadTable bsBadTable [.ref cStoreError, .type "ValueError", .type "Exception", .type "BaseException", .type "object"] true snBadTable suBadTable abBadTable coBadTable ddBadTable maBadTable mbBadTable mcBadTable mdBadTable meBadTable "ValueError.__new__"))
    (saBadTable : PySem.W.findIn K (.ref cBadTable) "__setattr__" = some (some (.builtin "object.__setattr__")))
    (kcBadTable : PySem.W.keepIn K (.ref cBadTable) = true)
    (tyBadTable : PySem.W.typeIn K (.ref fIBadTable) = some (.type "function"))
    (gaBadTable : PySem.W.findIn K (.ref cBadTable) "__getattribute__" = some (some (.builtin "BaseException.__getattribute__")))
    (ggBadTable : PySem.W.findIn K (.ref cBadTable) "__getattr__" = some none)
    (exBadTable : PySem.W.subIn K (.ref cBadTable) (.type "BaseException") = some true)
    (hdBadTable : PySem.W.hasDictIn K cBadTable = true)
    (noBadTable : PySem.W.findIn K (.ref cBadTable) "index" = some none)
    (clBadTable : (PySem.W.clsIn K cBadTable).isSome = true)
    (caBadTable : PySem.W.findIn K (.ref cBadTable) "__class__" = some (some (.builtin "object.__class__")))
    (moBadTable : PySem.W.mroIn K cBadTable (.type "object") = some true)
    (ksBadTable : PySem.W.kitOne K (.ref cBadTable) (.ref cStoreError) = some true)
    (kvBadTable : PySem.W.kitOne K (.ref cBadTable) (.type "ValueError") = some true)
    (x_BadPlan : K.lookup cBadPlan = some (excClassObj nmBadPlan qqBadPlan cBadPlan NNBadPlan bsBadPlan [.ref cStoreError, .type "ValueError", .type "Exception", .type "BaseException", .type "object"] true snBadPlan suBadPlan abBadPlan coBadPlan ddBadPlan maBadPlan mbBadPlan mcBadPlan mdBadPlan meBadPlan "ValueError.__new__"))
    (saBadPlan : PySem.W.findIn K (.ref cBadPlan) "__setattr__" = some (some (.builtin "object.__setattr__")))
    (kcBadPlan : PySem.W.keepIn K (.ref cBadPlan) = true)
    (tyBadPlan : PySem.W.typeIn K (.ref fIBadPlan) = some (.type "function"))
    (gaBadPlan : PySem.W.findIn K (.ref cBadPlan) "__getattribute__" = some (some (.builtin "BaseException.__getattribute__")))
    (ggBadPlan : PySem.W.findIn K (.ref cBadPlan) "__getattr__" = some none)
    (exBadPlan : PySem.W.subIn K (.ref cBadPlan) (.type "BaseException") = some true)
    (hdBadPlan : PySem.W.hasDictIn K cBadPlan = true)
    (noBadPlan : PySem.W.findIn K (.ref cBadPlan) "plan" = some none)
    (clBadPlan : (PySem.W.clsIn K cBadPlan).isSome = true)
    (caBadPlan : PySem.W.findIn K (.ref cBadPlan) "__class__" = some (some (.builtin "object.__class__")))
    (moBadPlan : PySem.W.mroIn K cBadPlan (.type "object") = some true)
    (ksBadPlan : PySem.W.kitOne K (.ref cBadPlan) (.ref cStoreError) = some true)
    (kvBadPlan : PySem.W.kitOne K (.ref cBadPlan) (.type "ValueError") = some true)
    (x_BadToken : K.lookup cBadToken = some (excClassObj nmBadToken qqBadToken cBadToken NNBadToken bsBadToken [.ref cStoreError, .type "ValueError", .type "Exception", .type "BaseException", .type "object"] true snBadToken suBadToken abBadToken coBadToken ddBadToken maBadToken mbBadToken mcBadToken mdBadToken meBadToken "ValueError.__new__"))
    (saBadToken : PySem.W.findIn K (.ref cBadToken) "__setattr__" = some (some (.builtin "object.__setattr__")))
    (kcBadToken : PySem.W.keepIn K (.ref cBadToken) = true)
    (tyBadToken : PySem.W.typeIn K (.ref fIBadToken) = some (.type "function"))
    (gaBadToken : PySem.W.findIn K (.ref cBadToken) "__getattribute__" = some (some (.builtin "BaseException.__getattribute__")))
    (ggBadToken : PySem.W.findIn K (.ref cBadToken) "__getattr__" = some none)
    (exBadToken : PySem.W.subIn K (.ref cBadToken) (.type "BaseException") = some true)
    (hdBadToken : PySem.W.hasDictIn K cBadToken = true)
    (noBadToken : PySem.W.findIn K (.ref cBadToken) "token" = some none)
    (clBadToken : (PySem.W.clsIn K cBadToken).isSome = true)
    (caBadToken : PySem.W.findIn K (.ref cBadToken) "__class__" = some (some (.builtin "object.__class__")))
    (moBadToken : PySem.W.mroIn K cBadToken (.type "object") = some true)
    (ksBadToken : PySem.W.kitOne K (.ref cBadToken) (.ref cStoreError) = some true)
    (kvBadToken : PySem.W.kitOne K (.ref cBadToken) (.type "ValueError") = some true)
    (x_BadText : K.lookup cBadText = some (excClassObj nmBadText qqBadText cBadText NNBadText bsBadText [.ref cStoreError, .type "ValueError", .type "Exception", .type "BaseException", .type "object"] true snBadText suBadText abBadText coBadText ddBadText maBadText mbBadText mcBadText mdBadText meBadText "ValueError.__new__"))
    (saBadText : PySem.W.findIn K (.ref cBadText) "__setattr__" = some (some (.builtin "object.__setattr__")))
    (kcBadText : PySem.W.keepIn K (.ref cBadText) = true)
    (tyBadText : PySem.W.typeIn K (.ref fIBadText) = some (.type "function"))
    (gaBadText : PySem.W.findIn K (.ref cBadText) "__getattribute__" = some (some (.builtin "BaseException.__getattribute__")))
    (ggBadText : PySem.W.findIn K (.ref cBadText) "__getattr__" = some none)
    (exBadText : PySem.W.subIn K (.ref cBadText) (.type "BaseException") = some true)
    (hdBadText : PySem.W.hasDictIn K cBadText = true)
    (noBadText : PySem.W.findIn K (.ref cBadText) "index" = some none)
    (clBadText : (PySem.W.clsIn K cBadText).isSome = true)
    (caBadText : PySem.W.findIn K (.ref cBadText) "__class__" = some (some (.builtin "object.__class__")))
    (moBadText : PySem.W.mroIn K cBadText (.type "object") = some true)
    (ksBadText : PySem.W.kitOne K (.ref cBadText) (.ref cStoreError) = some true)
    (kvBadText : PySem.W.kitOne K (.ref cBadText) (.type "ValueError") = some true)
    (x_BadLine : K.lookup cBadLine = some (excClassObj nmBadLine qqBadLine cBadLine NNBadLine bsBadLine [.ref cStoreError, .type "ValueError", .type "Exception", .type "BaseException", .type "object"] true snBadLine suBadLine abBadLine coBadLine ddBadLine maBadLine mbBadLine mcBadLine mdBadLine meBadLine "ValueError.__new__"))
    (saBadLine : PySem.W.findIn K (.ref cBadLine) "__setattr__" = some (some (.builtin "object.__setattr__")))
    (kcBadLine : PySem.W.keepIn K (.ref cBadLine) = true)
    (tyBadLine : PySem.W.typeIn K (.ref fIBadLine) = some (.type "function"))
    (gaBadLine : PySem.W.findIn K (.ref cBadLine) "__getattribute__" = some (some (.builtin "BaseException.__getattribute__")))
    (ggBadLine : PySem.W.findIn K (.ref cBadLine) "__getattr__" = some none)
    (exBadLine : PySem.W.subIn K (.ref cBadLine) (.type "BaseException") = some true)
    (hdBadLine : PySem.W.hasDictIn K cBadLine = true)
    (noBadLine : PySem.W.findIn K (.ref cBadLine) "line" = some none)
    (clBadLine : (PySem.W.clsIn K cBadLine).isSome = true)
    (caBadLine : PySem.W.findIn K (.ref cBadLine) "__class__" = some (some (.builtin "object.__class__")))
    (moBadLine : PySem.W.mroIn K cBadLine (.type "object") = some true)
    (ksBadLine : PySem.W.kitOne K (.ref cBadLine) (.ref cStoreError) = some true)
    (kvBadLine : PySem.W.kitOne K (.ref cBadLine) (.type "ValueError") = some true)
    (x_BadChance : K.lookup cBadChance = some (excClassObj nmBadChance qqBadChance cBadChance NNBadChance bsBadChance [.ref cStoreError, .type "ValueError", .type "Exception", .type "BaseException", .type "object"] true snBadChance suBadChance abBadChance coBadChance ddBadChance maBadChance mbBadChance mcBadChance mdBadChance meBadChance "ValueError.__new__"))
    (saBadChance : PySem.W.findIn K (.ref cBadChance) "__setattr__" = some (some (.builtin "object.__setattr__")))
    (kcBadChance : PySem.W.keepIn K (.ref cBadChance) = true)
    (tyBadChance : PySem.W.typeIn K (.ref fIBadChance) = some (.type "function"))
    (gaBadChance : PySem.W.findIn K (.ref cBadChance) "__getattribute__" = some (some (.builtin "BaseException.__getattribute__")))
    (ggBadChance : PySem.W.findIn K (.ref cBadChance) "__getattr__" = some none)
    (exBadChance : PySem.W.subIn K (.ref cBadChance) (.type "BaseException") = some true)
    (hdBadChance : PySem.W.hasDictIn K cBadChance = true)
    (noBadChance : PySem.W.findIn K (.ref cBadChance) "index" = some none)
    (clBadChance : (PySem.W.clsIn K cBadChance).isSome = true)
    (caBadChance : PySem.W.findIn K (.ref cBadChance) "__class__" = some (some (.builtin "object.__class__")))
    (moBadChance : PySem.W.mroIn K cBadChance (.type "object") = some true)
    (ksBadChance : PySem.W.kitOne K (.ref cBadChance) (.ref cStoreError) = some true)
    (kvBadChance : PySem.W.kitOne K (.ref cBadChance) (.type "ValueError") = some true)
    (x_BadMove : K.lookup cBadMove = some (excClassObj nmBadMove qqBadMove cBadMove NNBadMove bsBadMove [.ref cStoreError, .type "ValueError", .type "Exception", .type "BaseException", .type "object"] true snBadMove suBadMove abBadMove coBadMove ddBadMove maBadMove mbBadMove mcBadMove mdBadMove meBadMove "ValueError.__new__"))
    (saBadMove : PySem.W.findIn K (.ref cBadMove) "__setattr__" = some (some (.builtin "object.__setattr__")))
    (kcBadMove : PySem.W.keepIn K (.ref cBadMove) = true)
    (tyBadMove : PySem.W.typeIn K (.ref fIBadMove) = some (.type "function"))
    (gaBadMove : PySem.W.findIn K (.ref cBadMove) "__getattribute__" = some (some (.builtin "BaseException.__getattribute__")))
    (ggBadMove : PySem.W.findIn K (.ref cBadMove) "__getattr__" = some none)
    (exBadMove : PySem.W.subIn K (.ref cBadMove) (.type "BaseException") = some true)
    (hdBadMove : PySem.W.hasDictIn K cBadMove = true)
    (noBadMove : PySem.W.findIn K (.ref cBadMove) "index" = some none)
    (clBadMove : (PySem.W.clsIn K cBadMove).isSome = true)
    (caBadMove : PySem.W.findIn K (.ref cBadMove) "__class__" = some (some (.builtin "object.__class__")))
    (moBadMove : PySem.W.mroIn K cBadMove (.type "object") = some true)
    (ksBadMove : PySem.W.kitOne K (.ref cBadMove) (.ref cStoreError) = some true)
    (kvBadMove : PySem.W.kitOne K (.ref cBadMove) (.type "ValueError") = some true)
    (x_BadRun : K.lookup cBadRun = some (excClassObj nmBadRun qqBadRun cBadRun NNBadRun bsBadRun [.ref cStoreError, .type "ValueError", .type "Exception", .type "BaseException", .type "object"] true snBadRun suBadRun abBadRun coBadRun ddBadRun maBadRun mbBadRun mcBadRun mdBadRun meBadRun "ValueError.__new__"))
    (saBadRun : PySem.W.findIn K (.ref cBadRun) "__setattr__" = some (some (.builtin "object.__setattr__")))
    (kcBadRun : PySem.W.keepIn K (.ref cBadRun) = true)
    (tyBadRun : PySem.W.typeIn K (.ref fIBadRun) = some (.type "function"))
    (gaBadRun : PySem.W.findIn K (.ref cBadRun) "__getattribute__" = some (some (.builtin "BaseException.__getattribute__")))
    (ggBadRun : PySem.W.findIn K (.ref cBadRun) "__getattr__" = some none)
    (exBadRun : PySem.W.subIn K (.ref cBadRun) (.type "BaseException") = some true)
    (hdBadRun : PySem.W.hasDictIn K cBadRun = true)
    (noBadRun : PySem.W.findIn K (.ref cBadRun) "index" = some none)
    (clBadRun : (PySem.W.clsIn K cBadRun).isSome = true)
    (caBadRun : PySem.W.findIn K (.ref cBadRun) "__class__" = some (some (.builtin "object.__class__")))
    (moBadRun : PySem.W.mroIn K cBadRun (.type "object") = some true)
    (ksBadRun : PySem.W.kitOne K (.ref cBadRun) (.ref cStoreError) = some true)
    (kvBadRun : PySem.W.kitOne K (.ref cBadRun) (.type "ValueError") = some true)
    (x_BadMoment : K.lookup cBadMoment = some (excClassObj nmBadMoment qqBadMoment cBadMoment NNBadMoment bsBadMoment [.ref cStoreError, .type "ValueError", .type "Exception", .type "BaseException", .type "object"] true snBadMoment suBadMoment abBadMoment coBadMoment ddBadMoment maBadMoment mbBadMoment mcBadMoment mdBadMoment meBadMoment "ValueError.__new__"))
    (saBadMoment : PySem.W.findIn K (.ref cBadMoment) "__setattr__" = some (some (.builtin "object.__setattr__")))
    (kcBadMoment : PySem.W.keepIn K (.ref cBadMoment) = true)
    (tyBadMoment : PySem.W.typeIn K (.ref fIBadMoment) = some (.type "function"))
    (gaBadMoment : PySem.W.findIn K (.ref cBadMoment) "__getattribute__" = some (some (.builtin "BaseException.__getattribute__")))
    (ggBadMoment : PySem.W.findIn K (.ref cBadMoment) "__getattr__" = some none)
    (exBadMoment : PySem.W.subIn K (.ref cBadMoment) (.type "BaseException") = some true)
    (hdBadMoment : PySem.W.hasDictIn K cBadMoment = true)
    (noBadMoment : PySem.W.findIn K (.ref cBadMoment) "moment" = some none)
    (clBadMoment : (PySem.W.clsIn K cBadMoment).isSome = true)
    (caBadMoment : PySem.W.findIn K (.ref cBadMoment) "__class__" = some (some (.builtin "object.__class__")))
    (moBadMoment : PySem.W.mroIn K cBadMoment (.type "object") = some true)
    (ksBadMoment : PySem.W.kitOne K (.ref cBadMoment) (.ref cStoreError) = some true)
    (kvBadMoment : PySem.W.kitOne K (.ref cBadMoment) (.type "ValueError") = some true)
    (x_UnknownName : K.lookup cUnknownName = some (excClassObj nmUnknownName qqUnknownName cUnknownName NNUnknownName bsUnknownName [.type "KeyError", .type "LookupError", .type "Exception", .type "BaseException", .type "object"] true snUnknownName suUnknownName abUnknownName coUnknownName ddUnknownName maUnknownName mbUnknownName mcUnknownName mdUnknownName meUnknownName "LookupError.__new__"))
    (saUnknownName : PySem.W.findIn K (.ref cUnknownName) "__setattr__" = some (some (.builtin "object.__setattr__")))
    (kcUnknownName : PySem.W.keepIn K (.ref cUnknownName) = true)
    (tyUnknownName : PySem.W.typeIn K (.ref fIUnknownName) = some (.type "function"))
    (gaUnknownName : PySem.W.findIn K (.ref cUnknownName) "__getattribute__" = some (some (.builtin "BaseException.__getattribute__")))
    (ggUnknownName : PySem.W.findIn K (.ref cUnknownName) "__getattr__" = some none)
    (exUnknownName : PySem.W.subIn K (.ref cUnknownName) (.type "BaseException") = some true)
    (hdUnknownName : PySem.W.hasDictIn K cUnknownName = true)
    (noUnknownName : PySem.W.findIn K (.ref cUnknownName) "name" = some none)
    (clUnknownName : (PySem.W.clsIn K cUnknownName).isSome = true)
    (caUnknownName : PySem.W.findIn K (.ref cUnknownName) "__class__" = some (some (.builtin "object.__class__")))
    (moUnknownName : PySem.W.mroIn K cUnknownName (.type "object") = some true)
    (ksUnknownName : PySem.W.kitOne K (.ref cUnknownName) (.ref cStoreError) = some false)
    (kvUnknownName : PySem.W.kitOne K (.ref cUnknownName) (.type "KeyError") = some true)
    (x_TooMany : K.lookup cTooMany = some (excClassObj nmTooMany qqTooMany cTooMany NNTooMany bsTooMany [.type "OverflowError", .type "ArithmeticError", .type "Exception", .type "BaseException", .type "object"] true snTooMany suTooMany abTooMany coTooMany ddTooMany maTooMany mbTooMany mcTooMany mdTooMany meTooMany "OverflowError.__new__"))
    (saTooMany : PySem.W.findIn K (.ref cTooMany) "__setattr__" = some (some (.builtin "object.__setattr__")))
    (kcTooMany : PySem.W.keepIn K (.ref cTooMany) = true)
    (tyTooMany : PySem.W.typeIn K (.ref fITooMany) = some (.type "function"))
    (gaTooMany : PySem.W.findIn K (.ref cTooMany) "__getattribute__" = some (some (.builtin "BaseException.__getattribute__")))
    (ggTooMany : PySem.W.findIn K (.ref cTooMany) "__getattr__" = some none)
    (exTooMany : PySem.W.subIn K (.ref cTooMany) (.type "BaseException") = some true)
    (hdTooMany : PySem.W.hasDictIn K cTooMany = true)
    (noTooMany : PySem.W.findIn K (.ref cTooMany) "limit" = some none)
    (clTooMany : (PySem.W.clsIn K cTooMany).isSome = true)
    (caTooMany : PySem.W.findIn K (.ref cTooMany) "__class__" = some (some (.builtin "object.__class__")))
    (moTooMany : PySem.W.mroIn K cTooMany (.type "object") = some true)
    (ksTooMany : PySem.W.kitOne K (.ref cTooMany) (.ref cStoreError) = some false)
    (kvTooMany : PySem.W.kitOne K (.ref cTooMany) (.type "OverflowError") = some true)
    (x_NothingToUndo : K.lookup cNothingToUndo = some (excClassObj nmNothingToUndo qqNothingToUndo cNothingToUndo NNNothingToUndo bsNothingToUndo [.type "RuntimeError", .type "Exception", .type "BaseException", .type "object"] true snNothingToUndo suNothingToUndo abNothingToUndo coNothingToUndo ddNothingToUndo maNothingToUndo mbNothingToUndo mcNothingToUndo mdNothingToUndo meNothingToUndo "RuntimeError.__new__"))
    (saNothingToUndo : PySem.W.findIn K (.ref cNothingToUndo) "__setattr__" = some (some (.builtin "object.__setattr__")))
    (kcNothingToUndo : PySem.W.keepIn K (.ref cNothingToUndo) = true)
    (tyNothingToUndo : PySem.W.typeIn K (.ref fINothingToUndo) = some (.type "function"))
    (gaNothingToUndo : PySem.W.findIn K (.ref cNothingToUndo) "__getattribute__" = some (some (.builtin "BaseException.__getattribute__")))
    (ggNothingToUndo : PySem.W.findIn K (.ref cNothingToUndo) "__getattr__" = some none)
    (exNothingToUndo : PySem.W.subIn K (.ref cNothingToUndo) (.type "BaseException") = some true)
    (hdNothingToUndo : PySem.W.hasDictIn K cNothingToUndo = true)
    (noNothingToUndo : PySem.W.findIn K (.ref cNothingToUndo) "name" = some none)
    (clNothingToUndo : (PySem.W.clsIn K cNothingToUndo).isSome = true)
    (caNothingToUndo : PySem.W.findIn K (.ref cNothingToUndo) "__class__" = some (some (.builtin "object.__class__")))
    (moNothingToUndo : PySem.W.mroIn K cNothingToUndo (.type "object") = some true)
    (ksNothingToUndo : PySem.W.kitOne K (.ref cNothingToUndo) (.ref cStoreError) = some false)
    (kvNothingToUndo : PySem.W.kitOne K (.ref cNothingToUndo) (.type "RuntimeError") = some true)
    (pBadRun_BadTable : PySem.W.kitOne K (.ref cBadRun) (.ref cBadTable) = some false)
    (pBadLine_BadText : PySem.W.kitOne K (.ref cBadLine) (.ref cBadText) = some false)
    (pBadOutput_BadCall : PySem.W.kitOne K (.ref cBadOutput) (.ref cBadCall) = some false)
    (pBadOrder_BadMark : PySem.W.kitOne K (.ref cBadOrder) (.ref cBadMark) = some false)
    (pBadMark_BadOrder : PySem.W.kitOne K (.ref cBadMark) (.ref cBadOrder) = some false)
    (pBadMove_BadMark : PySem.W.kitOne K (.ref cBadMove) (.ref cBadMark) = some false)
    (pBadPlan_BadCall : PySem.W.kitOne K (.ref cBadPlan) (.ref cBadCall) = some false)
    (pBadMoment_BadToken : PySem.W.kitOne K (.ref cBadMoment) (.ref cBadToken) = some false)
    (pBadChance_BadTable : PySem.W.kitOne K (.ref cBadChance) (.ref cBadTable) = some false)
    (pBadCell_BadFunction : PySem.W.kitOne K (.ref cBadCell) (.ref cBadFunction) = some false)
    (pBadFunction_BadCell : PySem.W.kitOne K (.ref cBadFunction) (.ref cBadCell) = some false)
    (pBadPart_BadTerm : PySem.W.kitOne K (.ref cBadPart) (.ref cBadTerm) = some false) :
    ∃ fd : FuncData, (∀ (s : Shared) (v : Value), BindsTo s fd ⟨[v], []⟩ [("_law_script", v)]) ∧ ∀ base : Heap, K.In base → base.Ns mainGlobals mg → FnG l.prog w K mg base 4 fa fd ["_law_script"] (spLaw K) := by
  have e := hfa.symm.trans (PySem.W.mg_of X G aLa)
  cases e
  have FIBadLabel := fun_mk (st := sBadLabel) lIBadLabel cIBadLabel kIBadLabel
  have bIBadLabel := FIBadLabel.binds (ps := ["self", "label"]) fun _ _ _ _ _ _ us hl => match us, hl with | [_, _], _ => rfl
  have FIBadCell := fun_mk (st := sBadCell) lIBadCell cIBadCell kIBadCell
  have bIBadCell := FIBadCell.binds (ps := ["self", "index"]) fun _ _ _ _ _ _ us hl => match us, hl with | [_, _], _ => rfl
  have FIBadPart := fun_mk (st := sBadPart) lIBadPart cIBadPart kIBadPart
  have bIBadPart := FIBadPart.binds (ps := ["self", "part"]) fun _ _ _ _ _ _ us hl => match us, hl with | [_, _], _ => rfl
  have FIBadTerm := fun_mk (st := sBadTerm) lIBadTerm cIBadTerm kIBadTerm
  have bIBadTerm := FIBadTerm.binds (ps := ["self", "term"]) fun _ _ _ _ _ _ us hl => match us, hl with | [_, _], _ => rfl
  have FIBadFunction := fun_mk (st := sBadFunction) lIBadFunction cIBadFunction kIBadFunction
  have bIBadFunction := FIBadFunction.binds (ps := ["self", "index"]) fun _ _ _ _ _ _ us hl => match us, hl with | [_, _], _ => rfl
  have FIBadState := fun_mk (st := sBadState) lIBadState cIBadState kIBadState
  have bIBadState := FIBadState.binds (ps := ["self", "name"]) fun _ _ _ _ _ _ us hl => match us, hl with | [_, _], _ => rfl
  have FIBadArguments := fun_mk (st := sBadArguments) lIBadArguments cIBadArguments kIBadArguments
  have bIBadArguments := FIBadArguments.binds (ps := ["self", "arguments"]) fun _ _ _ _ _ _ us hl => match us, hl with | [_, _], _ => rfl
  have FIBadTick := fun_mk (st := sBadTick) lIBadTick cIBadTick kIBadTick
  have bIBadTick := FIBadTick.binds (ps := ["self", "value"]) fun _ _ _ _ _ _ us hl => match us, hl with | [_, _], _ => rfl
  have FIBadCall := fun_mk (st := sBadCall) lIBadCall cIBadCall kIBadCall
  have bIBadCall := FIBadCall.binds (ps := ["self", "index"]) fun _ _ _ _ _ _ us hl => match us, hl with | [_, _], _ => rfl
  have FIBadTree := fun_mk (st := sBadTree) lIBadTree cIBadTree kIBadTree
  have bIBadTree := FIBadTree.binds (ps := ["self", "tree"]) fun _ _ _ _ _ _ us hl => match us, hl with | [_, _], _ => rfl
  have FIBadOutput := fun_mk (st := sBadOutput) lIBadOutput cIBadOutput kIBadOutput
  have bIBadOutput := FIBadOutput.binds (ps := ["self", "index"]) fun _ _ _ _ _ _ us hl => match us, hl with | [_, _], _ => rfl
  have FIBadOrder := fun_mk (st := sBadOrder) lIBadOrder cIBadOrder kIBadOrder
  have bIBadOrder := FIBadOrder.binds (ps := ["self", "index"]) fun _ _ _ _ _ _ us hl => match us, hl with | [_, _], _ => rfl
  have FIBadMark := fun_mk (st := sBadMark) lIBadMark cIBadMark kIBadMark
  have bIBadMark := FIBadMark.binds (ps := ["self", "index"]) fun _ _ _ _ _ _ us hl => match us, hl with | [_, _], _ => rfl
  have FIBadTable := fun_mk (st := sBadTable) lIBadTable cIBadTable kIBadTable
  have bIBadTable := FIBadTable.binds (ps := ["self", "index"]) fun _ _ _ _ _ _ us hl => match us, hl with | [_, _], _ => rfl
  have FIBadPlan := fun_mk (st := sBadPlan) lIBadPlan cIBadPlan kIBadPlan
  have bIBadPlan := FIBadPlan.binds (ps := ["self", "plan"]) fun _ _ _ _ _ _ us hl => match us, hl with | [_, _], _ => rfl
  have FIBadToken := fun_mk (st := sBadToken) lIBadToken cIBadToken kIBadToken
  have bIBadToken := FIBadToken.binds (ps := ["self", "token"]) fun _ _ _ _ _ _ us hl => match us, hl with | [_, _], _ => rfl
  have FIBadText := fun_mk (st := sBadText) lIBadText cIBadText kIBadText
  have bIBadText := FIBadText.binds (ps := ["self", "index"]) fun _ _ _ _ _ _ us hl => match us, hl with | [_, _], _ => rfl
  have FIBadLine := fun_mk (st := sBadLine) lIBadLine cIBadLine kIBadLine
  have bIBadLine := FIBadLine.binds (ps := ["self", "line"]) fun _ _ _ _ _ _ us hl => match us, hl with | [_, _], _ => rfl
  have FIBadChance := fun_mk (st := sBadChance) lIBadChance cIBadChance kIBadChance
  have bIBadChance := FIBadChance.binds (ps := ["self", "index"]) fun _ _ _ _ _ _ us hl => match us, hl with | [_, _], _ => rfl
  have FIBadMove := fun_mk (st := sBadMove) lIBadMove cIBadMove kIBadMove
  have bIBadMove := FIBadMove.binds (ps := ["self", "index"]) fun _ _ _ _ _ _ us hl => match us, hl with | [_, _], _ => rfl
  have FIBadRun := fun_mk (st := sBadRun) lIBadRun cIBadRun kIBadRun
  have bIBadRun := FIBadRun.binds (ps := ["self", "index"]) fun _ _ _ _ _ _ us hl => match us, hl with | [_, _], _ => rfl
  have FIBadMoment := fun_mk (st := sBadMoment) lIBadMoment cIBadMoment kIBadMoment
  have bIBadMoment := FIBadMoment.binds (ps := ["self", "moment"]) fun _ _ _ _ _ _ us hl => match us, hl with | [_, _], _ => rfl
  have FIUnknownName := fun_mk (st := sUnknownName) lIUnknownName cIUnknownName kIUnknownName
  have bIUnknownName := FIUnknownName.binds (ps := ["self", "name"]) fun _ _ _ _ _ _ us hl => match us, hl with | [_, _], _ => rfl
  have FITooMany := fun_mk (st := sTooMany) lITooMany cITooMany kITooMany
  have bITooMany := FITooMany.binds (ps := ["self", "limit"]) fun _ _ _ _ _ _ us hl => match us, hl with | [_, _], _ => rfl
  have FINothingToUndo := fun_mk (st := sNothingToUndo) lINothingToUndo cINothingToUndo kINothingToUndo
  have bINothingToUndo := FINothingToUndo.binds (ps := ["self", "name"]) fun _ _ _ _ _ _ us hl => match us, hl with | [_, _], _ => rfl
  have FPl := fun_mk (st := sPool) lPl cPl kPl
  have bPl := FPl.binds (ps := ["_law_script", "_law_k"]) fun _ _ _ _ _ _ us hl => match us, hl with | [_, _], _ => rfl
  have FDr := fun_mk (st := sDraw) lDr cDr kDr
  have bDr := FDr.binds (ps := ["_law_pool_here", "_law_many"]) fun _ _ _ _ _ _ us hl => match us, hl with | [_, _], _ => rfl
  have FLt := fun_mk (st := sLater) lLt cLt kLt
  have bLt := FLt.binds (ps := ["_law_thing"]) fun _ _ _ _ _ _ us hl => match us, hl with | [_], _ => rfl
  have FLa := fun_mk (st := sLaw) lLa cLa kLa
  have M : Blt mg := ⟨PySem.W.mg_none_of X G z_abs, PySem.W.mg_none_of X G z_int, PySem.W.mg_none_of X G z_len, PySem.W.mg_none_of X G z_sum, PySem.W.mg_none_of X G z_max, PySem.W.mg_none_of X G z_min, PySem.W.mg_none_of X G z_range, PySem.W.mg_none_of X G z_isinstance, PySem.W.mg_none_of X G z_bool, PySem.W.mg_none_of X G z_str, PySem.W.mg_none_of X G z_tuple, PySem.W.mg_none_of X G z_list, PySem.W.mg_none_of X G z_dict, PySem.W.mg_none_of X G z_all, PySem.W.mg_none_of X G z_sorted, PySem.W.mg_none_of X G z_repr, PySem.W.mg_none_of X G z_zip⟩
  have OB : OwnBase K mg "StoreError" cStoreError := ⟨(PySem.W.mg_of X G a_StoreError), spS, tyS, rdS, fiS⟩
  have BS : Bases mg := ⟨PySem.W.mg_none_of X G z_ValueError, PySem.W.mg_none_of X G z_KeyError, PySem.W.mg_none_of X G z_OverflowError, PySem.W.mg_none_of X G z_RuntimeError⟩
  have oBadLabel : OexG K (famV cStoreError) cBadLabel := ⟨⟨_, _, _, _, _, _, _, _, _, _, _, _, _, _, x_BadLabel⟩, saBadLabel, kcBadLabel⟩
  have oBadCell : OexG K (famV cStoreError) cBadCell := ⟨⟨_, _, _, _, _, _, _, _, _, _, _, _, _, _, x_BadCell⟩, saBadCell, kcBadCell⟩
  have oBadPart : OexG K (famV cStoreError) cBadPart := ⟨⟨_, _, _, _, _, _, _, _, _, _, _, _, _, _, x_BadPart⟩, saBadPart, kcBadPart⟩
  have oBadTerm : OexG K (famV cStoreError) cBadTerm := ⟨⟨_, _, _, _, _, _, _, _, _, _, _, _, _, _, x_BadTerm⟩, saBadTerm, kcBadTerm⟩
  have oBadFunction : OexG K (famV cStoreError) cBadFunction := ⟨⟨_, _, _, _, _, _, _, _, _, _, _, _, _, _, x_BadFunction⟩, saBadFunction, kcBadFunction⟩
  have oBadState : OexG K (famV cStoreError) cBadState := ⟨⟨_, _, _, _, _, _, _, _, _, _, _, _, _, _, x_BadState⟩, saBadState, kcBadState⟩
  have oBadArguments : OexG K (famV cStoreError) cBadArguments := ⟨⟨_, _, _, _, _, _, _, _, _, _, _, _, _, _, x_BadArguments⟩, saBadArguments, kcBadArguments⟩
  have oBadTick : OexG K (famV cStoreError) cBadTick := ⟨⟨_, _, _, _, _, _, _, _, _, _, _, _, _, _, x_BadTick⟩, saBadTick, kcBadTick⟩
  have oBadCall : OexG K (famV cStoreError) cBadCall := ⟨⟨_, _, _, _, _, _, _, _, _, _, _, _, _, _, x_BadCall⟩, saBadCall, kcBadCall⟩
  have oBadTree : OexG K (famV cStoreError) cBadTree := ⟨⟨_, _, _, _, _, _, _, _, _, _, _, _, _, _, x_BadTree⟩, saBadTree, kcBadTree⟩
  have oBadOutput : OexG K (famV cStoreError) cBadOutput := ⟨⟨_, _, _, _, _, _, _, _, _, _, _, _, _, _, x_BadOutput⟩, saBadOutput, kcBadOutput⟩
  have oBadOrder : OexG K (famV cStoreError) cBadOrder := ⟨⟨_, _, _, _, _, _, _, _, _, _, _, _, _, _, x_BadOrder⟩, saBadOrder, kcBadOrder⟩
  have oBadMark : OexG K (famV cStoreError) cBadMark := ⟨⟨_, _, _, _, _, _, _, _, _, _, _, _, _, _, x_BadMark⟩, saBadMark, kcBadMark⟩
  have oBadTable : OexG K (famV cStoreError) cBadTable := ⟨⟨_, _, _, _, _, _, _, _, _, _, _, _, _, _, x_BadTable⟩, saBadTable, kcBadTable⟩
  have oBadPlan : OexG K (famV cStoreError) cBadPlan := ⟨⟨_, _, _, _, _, _, _, _, _, _, _, _, _, _, x_BadPlan⟩, saBadPlan, kcBadPlan⟩
  have oBadToken : OexG K (famV cStoreError) cBadToken := ⟨⟨_, _, _, _, _, _, _, _, _, _, _, _, _, _, x_BadToken⟩, saBadToken, kcBadToken⟩
  have oBadText : OexG K (famV cStoreError) cBadText := ⟨⟨_, _, _, _, _, _, _, _, _, _, _, _, _, _, x_BadText⟩, saBadText, kcBadText⟩
  have oBadLine : OexG K (famV cStoreError) cBadLine := ⟨⟨_, _, _, _, _, _, _, _, _, _, _, _, _, _, x_BadLine⟩, saBadLine, kcBadLine⟩
  have oBadChance : OexG K (famV cStoreError) cBadChance := ⟨⟨_, _, _, _, _, _, _, _, _, _, _, _, _, _, x_BadChance⟩, saBadChance, kcBadChance⟩
  have oBadMove : OexG K (famV cStoreError) cBadMove := ⟨⟨_, _, _, _, _, _, _, _, _, _, _, _, _, _, x_BadMove⟩, saBadMove, kcBadMove⟩
  have oBadRun : OexG K (famV cStoreError) cBadRun := ⟨⟨_, _, _, _, _, _, _, _, _, _, _, _, _, _, x_BadRun⟩, saBadRun, kcBadRun⟩
  have oBadMoment : OexG K (famV cStoreError) cBadMoment := ⟨⟨_, _, _, _, _, _, _, _, _, _, _, _, _, _, x_BadMoment⟩, saBadMoment, kcBadMoment⟩
  have oUnknownName : OexG K famK cUnknownName := ⟨⟨_, _, _, _, _, _, _, _, _, _, _, _, _, _, x_UnknownName⟩, saUnknownName, kcUnknownName⟩
  have oTooMany : OexG K famO cTooMany := ⟨⟨_, _, _, _, _, _, _, _, _, _, _, _, _, _, x_TooMany⟩, saTooMany, kcTooMany⟩
  have oNothingToUndo : OexG K famR cNothingToUndo := ⟨⟨_, _, _, _, _, _, _, _, _, _, _, _, _, _, x_NothingToUndo⟩, saNothingToUndo, kcNothingToUndo⟩
  exact ⟨PySem.W.fnOf "law" "law" (defArgs sLaw) (defBody sLaw) (defScope sLaw) .none kVLa dcLa pmLa anLa cdLa ctLa, fun s v => .of_eq rfl, fun base _ _ => by
    have tBadLabel := errA_mk (x := "BadLabel") (f := "label") oBadLabel aIBadLabel tyBadLabel (ok_BadLabel (P := l.prog) (w := w) (base := base) FIBadLabel OB oBadLabel noBadLabel) (PySem.W.mg_of X G a_BadLabel) gaBadLabel ggBadLabel exBadLabel hdBadLabel noBadLabel clBadLabel caBadLabel cgL ctL moBadLabel (fun s y u X1 => .of_eq rfl) (fun s y u X1 => .of_eq rfl)
    have tBadCell := errA_mk (x := "BadCell") (f := "index") oBadCell aIBadCell tyBadCell (ok_BadCell (P := l.prog) (w := w) (base := base) FIBadCell OB oBadCell noBadCell) (PySem.W.mg_of X G a_BadCell) gaBadCell ggBadCell exBadCell hdBadCell noBadCell clBadCell caBadCell cgL ctL moBadCell (fun s y u X1 => .of_eq rfl) (fun s y u X1 => .of_eq rfl)
    have tBadPart := errA_mk (x := "BadPart") (f := "part") oBadPart aIBadPart tyBadPart (ok_BadPart (P := l.prog) (w := w) (base := base) FIBadPart OB oBadPart noBadPart) (PySem.W.mg_of X G a_BadPart) gaBadPart ggBadPart exBadPart hdBadPart noBadPart clBadPart caBadPart cgL ctL moBadPart (fun s y u X1 => .of_eq rfl) (fun s y u X1 => .of_eq rfl)
    have tBadTerm := errA_mk (x := "BadTerm") (f := "term") oBadTerm aIBadTerm tyBadTerm (ok_BadTerm (P := l.prog) (w := w) (base := base) FIBadTerm OB oBadTerm noBadTerm) (PySem.W.mg_of X G a_BadTerm) gaBadTerm ggBadTerm exBadTerm hdBadTerm noBadTerm clBadTerm caBadTerm cgL ctL moBadTerm (fun s y u X1 => .of_eq rfl) (fun s y u X1 => .of_eq rfl)
    have tBadFunction := errA_mk (x := "BadFunction") (f := "index") oBadFunction aIBadFunction tyBadFunction (ok_BadFunction (P := l.prog) (w := w) (base := base) FIBadFunction OB oBadFunction noBadFunction) (PySem.W.mg_of X G a_BadFunction) gaBadFunction ggBadFunction exBadFunction hdBadFunction noBadFunction clBadFunction caBadFunction cgL ctL moBadFunction (fun s y u X1 => .of_eq rfl) (fun s y u X1 => .of_eq rfl)
    have tBadState := errA_mk (x := "BadState") (f := "name") oBadState aIBadState tyBadState (ok_BadState (P := l.prog) (w := w) (base := base) FIBadState OB oBadState noBadState) (PySem.W.mg_of X G a_BadState) gaBadState ggBadState exBadState hdBadState noBadState clBadState caBadState cgL ctL moBadState (fun s y u X1 => .of_eq rfl) (fun s y u X1 => .of_eq rfl)
    have tBadArguments := errA_mk (x := "BadArguments") (f := "arguments") oBadArguments aIBadArguments tyBadArguments (ok_BadArguments (P := l.prog) (w := w) (base := base) FIBadArguments OB oBadArguments noBadArguments) (PySem.W.mg_of X G a_BadArguments) gaBadArguments ggBadArguments exBadArguments hdBadArguments noBadArguments clBadArguments caBadArguments cgL ctL moBadArguments (fun s y u X1 => .of_eq rfl) (fun s y u X1 => .of_eq rfl)
    have tBadTick := errA_mk (x := "BadTick") (f := "value") oBadTick aIBadTick tyBadTick (ok_BadTick (P := l.prog) (w := w) (base := base) FIBadTick OB oBadTick noBadTick) (PySem.W.mg_of X G a_BadTick) gaBadTick ggBadTick exBadTick hdBadTick noBadTick clBadTick caBadTick cgL ctL moBadTick (fun s y u X1 => .of_eq rfl) (fun s y u X1 => .of_eq rfl)
    have tBadCall := errA_mk (x := "BadCall") (f := "index") oBadCall aIBadCall tyBadCall (ok_BadCall (P := l.prog) (w := w) (base := base) FIBadCall OB oBadCall noBadCall) (PySem.W.mg_of X G a_BadCall) gaBadCall ggBadCall exBadCall hdBadCall noBadCall clBadCall caBadCall cgL ctL moBadCall (fun s y u X1 => .of_eq rfl) (fun s y u X1 => .of_eq rfl)
    have tBadTree := errA_mk (x := "BadTree") (f := "tree") oBadTree aIBadTree tyBadTree (ok_BadTree (P := l.prog) (w := w) (base := base) FIBadTree OB oBadTree noBadTree) (PySem.W.mg_of X G a_BadTree) gaBadTree ggBadTree exBadTree hdBadTree noBadTree clBadTree caBadTree cgL ctL moBadTree (fun s y u X1 => .of_eq rfl) (fun s y u X1 => .of_eq rfl)
    have tBadOutput := errA_mk (x := "BadOutput") (f := "index") oBadOutput aIBadOutput tyBadOutput (ok_BadOutput (P := l.prog) (w := w) (base := base) FIBadOutput OB oBadOutput noBadOutput) (PySem.W.mg_of X G a_BadOutput) gaBadOutput ggBadOutput exBadOutput hdBadOutput noBadOutput clBadOutput caBadOutput cgL ctL moBadOutput (fun s y u X1 => .of_eq rfl) (fun s y u X1 => .of_eq rfl)
    have tBadOrder := errA_mk (x := "BadOrder") (f := "index") oBadOrder aIBadOrder tyBadOrder (ok_BadOrder (P := l.prog) (w := w) (base := base) FIBadOrder OB oBadOrder noBadOrder) (PySem.W.mg_of X G a_BadOrder) gaBadOrder ggBadOrder exBadOrder hdBadOrder noBadOrder clBadOrder caBadOrder cgL ctL moBadOrder (fun s y u X1 => .of_eq rfl) (fun s y u X1 => .of_eq rfl)
    have tBadMark := errA_mk (x := "BadMark") (f := "index") oBadMark aIBadMark tyBadMark (ok_BadMark (P := l.prog) (w := w) (base := base) FIBadMark OB oBadMark noBadMark) (PySem.W.mg_of X G a_BadMark) gaBadMark ggBadMark exBadMark hdBadMark noBadMark clBadMark caBadMark cgL ctL moBadMark (fun s y u X1 => .of_eq rfl) (fun s y u X1 => .of_eq rfl)
    have tBadTable := errA_mk (x := "BadTable") (f := "index") oBadTable aIBadTable tyBadTable (ok_BadTable (P := l.prog) (w := w) (base := base) FIBadTable OB oBadTable noBadTable) (PySem.W.mg_of X G a_BadTable) gaBadTable ggBadTable exBadTable hdBadTable noBadTable clBadTable caBadTable cgL ctL moBadTable (fun s y u X1 => .of_eq rfl) (fun s y u X1 => .of_eq rfl)
    have tBadPlan := errA_mk (x := "BadPlan") (f := "plan") oBadPlan aIBadPlan tyBadPlan (ok_BadPlan (P := l.prog) (w := w) (base := base) FIBadPlan OB oBadPlan noBadPlan) (PySem.W.mg_of X G a_BadPlan) gaBadPlan ggBadPlan exBadPlan hdBadPlan noBadPlan clBadPlan caBadPlan cgL ctL moBadPlan (fun s y u X1 => .of_eq rfl) (fun s y u X1 => .of_eq rfl)
    have tBadToken := errA_mk (x := "BadToken") (f := "token") oBadToken aIBadToken tyBadToken (ok_BadToken (P := l.prog) (w := w) (base := base) FIBadToken OB oBadToken noBadToken) (PySem.W.mg_of X G a_BadToken) gaBadToken ggBadToken exBadToken hdBadToken noBadToken clBadToken caBadToken cgL ctL moBadToken (fun s y u X1 => .of_eq rfl) (fun s y u X1 => .of_eq rfl)
    have tBadText := errA_mk (x := "BadText") (f := "index") oBadText aIBadText tyBadText (ok_BadText (P := l.prog) (w := w) (base := base) FIBadText OB oBadText noBadText) (PySem.W.mg_of X G a_BadText) gaBadText ggBadText exBadText hdBadText noBadText clBadText caBadText cgL ctL moBadText (fun s y u X1 => .of_eq rfl) (fun s y u X1 => .of_eq rfl)
    have tBadLine := errA_mk (x := "BadLine") (f := "line") oBadLine aIBadLine tyBadLine (ok_BadLine (P := l.prog) (w := w) (base := base) FIBadLine OB oBadLine noBadLine) (PySem.W.mg_of X G a_BadLine) gaBadLine ggBadLine exBadLine hdBadLine noBadLine clBadLine caBadLine cgL ctL moBadLine (fun s y u X1 => .of_eq rfl) (fun s y u X1 => .of_eq rfl)
    have tBadChance := errA_mk (x := "BadChance") (f := "index") oBadChance aIBadChance tyBadChance (ok_BadChance (P := l.prog) (w := w) (base := base) FIBadChance OB oBadChance noBadChance) (PySem.W.mg_of X G a_BadChance) gaBadChance ggBadChance exBadChance hdBadChance noBadChance clBadChance caBadChance cgL ctL moBadChance (fun s y u X1 => .of_eq rfl) (fun s y u X1 => .of_eq rfl)
    have tBadMove := errA_mk (x := "BadMove") (f := "index") oBadMove aIBadMove tyBadMove (ok_BadMove (P := l.prog) (w := w) (base := base) FIBadMove OB oBadMove noBadMove) (PySem.W.mg_of X G a_BadMove) gaBadMove ggBadMove exBadMove hdBadMove noBadMove clBadMove caBadMove cgL ctL moBadMove (fun s y u X1 => .of_eq rfl) (fun s y u X1 => .of_eq rfl)
    have tBadRun := errA_mk (x := "BadRun") (f := "index") oBadRun aIBadRun tyBadRun (ok_BadRun (P := l.prog) (w := w) (base := base) FIBadRun OB oBadRun noBadRun) (PySem.W.mg_of X G a_BadRun) gaBadRun ggBadRun exBadRun hdBadRun noBadRun clBadRun caBadRun cgL ctL moBadRun (fun s y u X1 => .of_eq rfl) (fun s y u X1 => .of_eq rfl)
    have tBadMoment := errA_mk (x := "BadMoment") (f := "moment") oBadMoment aIBadMoment tyBadMoment (ok_BadMoment (P := l.prog) (w := w) (base := base) FIBadMoment OB oBadMoment noBadMoment) (PySem.W.mg_of X G a_BadMoment) gaBadMoment ggBadMoment exBadMoment hdBadMoment noBadMoment clBadMoment caBadMoment cgL ctL moBadMoment (fun s y u X1 => .of_eq rfl) (fun s y u X1 => .of_eq rfl)
    have tUnknownName := errA_mk (x := "UnknownName") (f := "name") oUnknownName aIUnknownName tyUnknownName (ok_UnknownName (P := l.prog) (w := w) (base := base) FIUnknownName (PySem.W.mg_none_of X G z_KeyError) fiUnknownName oUnknownName noUnknownName) (PySem.W.mg_of X G a_UnknownName) gaUnknownName ggUnknownName exUnknownName hdUnknownName noUnknownName clUnknownName caUnknownName cgL ctL moUnknownName (fun s y u X1 => .of_eq rfl) (fun s y u X1 => .of_eq rfl)
    have tTooMany := errA_mk (x := "TooMany") (f := "limit") oTooMany aITooMany tyTooMany (ok_TooMany (P := l.prog) (w := w) (base := base) FITooMany (PySem.W.mg_none_of X G z_OverflowError) fiTooMany oTooMany noTooMany) (PySem.W.mg_of X G a_TooMany) gaTooMany ggTooMany exTooMany hdTooMany noTooMany clTooMany caTooMany cgL ctL moTooMany (fun s y u X1 => .of_eq rfl) (fun s y u X1 => .of_eq rfl)
    have tNothingToUndo := errA_mk (x := "NothingToUndo") (f := "name") oNothingToUndo aINothingToUndo tyNothingToUndo (ok_NothingToUndo (P := l.prog) (w := w) (base := base) FINothingToUndo (PySem.W.mg_none_of X G z_RuntimeError) fiNothingToUndo oNothingToUndo noNothingToUndo) (PySem.W.mg_of X G a_NothingToUndo) gaNothingToUndo ggNothingToUndo exNothingToUndo hdNothingToUndo noNothingToUndo clNothingToUndo caNothingToUndo cgL ctL moNothingToUndo (fun s y u X1 => .of_eq rfl) (fun s y u X1 => .of_eq rfl)
    have U : AllE l.prog w K mg base cStoreError := { cBadLabel := cBadLabel, gBadLabel := fIBadLabel, dBadLabel := _, tBadLabel := tBadLabel, cBadCell := cBadCell, gBadCell := fIBadCell, dBadCell := _, tBadCell := tBadCell, cBadPart := cBadPart, gBadPart := fIBadPart, dBadPart := _, tBadPart := tBadPart, cBadTerm := cBadTerm, gBadTerm := fIBadTerm, dBadTerm := _, tBadTerm := tBadTerm, cBadFunction := cBadFunction, gBadFunction := fIBadFunction, dBadFunction := _, tBadFunction := tBadFunction, cBadState := cBadState, gBadState := fIBadState, dBadState := _, tBadState := tBadState, cBadArguments := cBadArguments, gBadArguments := fIBadArguments, dBadArguments := _, tBadArguments := tBadArguments, cBadTick := cBadTick, gBadTick := fIBadTick, dBadTick := _, tBadTick := tBadTick, cBadCall := cBadCall, gBadCall := fIBadCall, dBadCall := _, tBadCall := tBadCall, cBadTree := cBadTree, gBadTree := fIBadTree, dBadTree := _, tBadTree := tBadTree, cBadOutput := cBadOutput, gBadOutput := fIBadOutput, dBadOutput := _, tBadOutput := tBadOutput, cBadOrder := cBadOrder, gBadOrder := fIBadOrder, dBadOrder := _, tBadOrder := tBadOrder, cBadMark := cBadMark, gBadMark := fIBadMark, dBadMark := _, tBadMark := tBadMark, cBadTable := cBadTable, gBadTable := fIBadTable, dBadTable := _, tBadTable := tBadTable, cBadPlan := cBadPlan, gBadPlan := fIBadPlan, dBadPlan := _, tBadPlan := tBadPlan, cBadToken := cBadToken, gBadToken := fIBadToken, dBadToken := _, tBadToken := tBadToken, cBadText := cBadText, gBadText := fIBadText, dBadText := _, tBadText := tBadText, cBadLine := cBadLine, gBadLine := fIBadLine, dBadLine := _, tBadLine := tBadLine, cBadChance := cBadChance, gBadChance := fIBadChance, dBadChance := _, tBadChance := tBadChance, cBadMove := cBadMove, gBadMove := fIBadMove, dBadMove := _, tBadMove := tBadMove, cBadRun := cBadRun, gBadRun := fIBadRun, dBadRun := _, tBadRun := tBadRun, cBadMoment := cBadMoment, gBadMoment := fIBadMoment, dBadMoment := _, tBadMoment := tBadMoment, cUnknownName := cUnknownName, gUnknownName := fIUnknownName, dUnknownName := _, tUnknownName := tUnknownName, cTooMany := cTooMany, gTooMany := fITooMany, dTooMany := _, tTooMany := tTooMany, cNothingToUndo := cNothingToUndo, gNothingToUndo := fINothingToUndo, dNothingToUndo := _, tNothingToUndo := tNothingToUndo, sBadLabel := ksBadLabel, vBadLabel := kvBadLabel, sBadCell := ksBadCell, vBadCell := kvBadCell, sBadPart := ksBadPart, vBadPart := kvBadPart, sBadTerm := ksBadTerm, vBadTerm := kvBadTerm, sBadFunction := ksBadFunction, vBadFunction := kvBadFunction, sBadState := ksBadState, vBadState := kvBadState, sBadArguments := ksBadArguments, vBadArguments := kvBadArguments, sBadTick := ksBadTick, vBadTick := kvBadTick, sBadCall := ksBadCall, vBadCall := kvBadCall, sBadTree := ksBadTree, vBadTree := kvBadTree, sBadOutput := ksBadOutput, vBadOutput := kvBadOutput, sBadOrder := ksBadOrder, vBadOrder := kvBadOrder, sBadMark := ksBadMark, vBadMark := kvBadMark, sBadTable := ksBadTable, vBadTable := kvBadTable, sBadPlan := ksBadPlan, vBadPlan := kvBadPlan, sBadToken := ksBadToken, vBadToken := kvBadToken, sBadText := ksBadText, vBadText := kvBadText, sBadLine := ksBadLine, vBadLine := kvBadLine, sBadChance := ksBadChance, vBadChance := kvBadChance, sBadMove := ksBadMove, vBadMove := kvBadMove, sBadRun := ksBadRun, vBadRun := kvBadRun, sBadMoment := ksBadMoment, vBadMoment := kvBadMoment, sUnknownName := ksUnknownName, vUnknownName := kvUnknownName, sTooMany := ksTooMany, vTooMany := kvTooMany, sNothingToUndo := ksNothingToUndo, vNothingToUndo := kvNothingToUndo, pBadRun_BadTable := pBadRun_BadTable, pBadLine_BadText := pBadLine_BadText, pBadOutput_BadCall := pBadOutput_BadCall, pBadOrder_BadMark := pBadOrder_BadMark, pBadMark_BadOrder := pBadMark_BadOrder, pBadMove_BadMark := pBadMove_BadMark, pBadPlan_BadCall := pBadPlan_BadCall, pBadMoment_BadToken := pBadMoment_BadToken, pBadChance_BadTable := pBadChance_BadTable, pBadCell_BadFunction := pBadCell_BadFunction, pBadFunction_BadCell := pBadFunction_BadCell, pBadPart_BadTerm := pBadPart_BadTerm, gS := (PySem.W.mg_of X G a_StoreError) }
    exact ok_law FLa M BS U ⟨FPl, FDr, kLt, bPl, bDr, bLt, (PySem.W.mg_of X G aPl), (PySem.W.mg_of X G aDr), (PySem.W.mg_of X G aLt), ok_later FLt M BS U⟩⟩
end Sc
open PySem PySem.W PyProof.Rows
set_option maxHeartbeats 0 in
theorem PySem.Challenge.cw_steadycalls_k20_errors_holds : PySem.Challenge.rw_steadycalls_k20_errors.Holds := by
  w_on; o_law; k_head; (case hw => w_witness2)
  k_fill
  refine Sc.EndG.walk_told (l := PySem.Challenge.rw_steadycalls_k20_errors) (n := 63) (k := 4) (x := "_law_script") (sp := fun w => Sc.spLaw _) rfl (by decide) rfl ⟨rfl, by decide, by decide⟩ (fun w h Y => PySem.W.kIn_of Y) ?F (fun _ _ a ns hl hS => ⟨a, ns, rfl, hS, hl, fun _ => rfl⟩)
  case F =>
    intro w mg fa h KX G hmg
    refine' Sc.all_mk KX G hmg ?a_BadLabel ?a_BadCell ?a_BadPart ?a_BadTerm ?a_BadFunction ?a_BadState ?a_BadArguments ?a_BadTick ?a_BadCall ?a_BadTree ?a_BadOutput ?a_BadOrder ?a_BadMark ?a_BadTable ?a_BadPlan ?a_BadToken ?a_BadText ?a_BadLine ?a_BadChance ?a_BadMove ?a_BadRun ?a_BadMoment ?a_UnknownName ?a_TooMany ?a_NothingToUndo ?a_StoreError ?aIBadLabel ?iIBadLabel ?lIBadLabel ?cIBadLabel ?kIBadLabel ?aIBadCell ?iIBadCell ?lIBadCell ?cIBadCell ?kIBadCell ?aIBadPart ?iIBadPart ?lIBadPart ?cIBadPart ?kIBadPart ?aIBadTerm ?iIBadTerm ?lIBadTerm ?cIBadTerm ?kIBadTerm ?aIBadFunction ?iIBadFunction ?lIBadFunction ?cIBadFunction ?kIBadFunction ?aIBadState ?iIBadState ?lIBadState ?cIBadState ?kIBadState ?aIBadArguments ?iIBadArguments ?lIBadArguments ?cIBadArguments ?kIBadArguments ?aIBadTick ?iIBadTick ?lIBadTick ?cIBadTick ?kIBadTick ?aIBadCall ?iIBadCall ?lIBadCall ?cIBadCall ?kIBadCall ?aIBadTree ?iIBadTree ?lIBadTree ?cIBadTree ?kIBadTree ?aIBadOutput ?iIBadOutput ?lIBadOutput ?cIBadOutput ?kIBadOutput ?aIBadOrder ?iIBadOrder ?lIBadOrder ?cIBadOrder ?kIBadOrder ?aIBadMark ?iIBadMark ?lIBadMark ?cIBadMark ?kIBadMark ?aIBadTable ?iIBadTable ?lIBadTable ?cIBadTable ?kIBadTable ?aIBadPlan ?iIBadPlan ?lIBadPlan ?cIBadPlan ?kIBadPlan ?aIBadToken ?iIBadToken ?lIBadToken ?cIBadToken ?kIBadToken ?aIBadText ?iIBadText ?lIBadText ?cIBadText ?kIBadText ?aIBadLine ?iIBadLine ?lIBadLine ?cIBadLine ?kIBadLine ?aIBadChance ?iIBadChance ?lIBadChance ?cIBadChance ?kIBadChance ?aIBadMove ?iIBadMove ?lIBadMove ?cIBadMove ?kIBadMove ?aIBadRun ?iIBadRun ?lIBadRun ?cIBadRun ?kIBadRun ?aIBadMoment ?iIBadMoment ?lIBadMoment ?cIBadMoment ?kIBadMoment ?aIUnknownName ?iIUnknownName ?lIUnknownName ?cIUnknownName ?kIUnknownName ?aITooMany ?iITooMany ?lITooMany ?cITooMany ?kITooMany ?aINothingToUndo ?iINothingToUndo ?lINothingToUndo ?cINothingToUndo ?kINothingToUndo ?aPl ?lPl ?cPl ?kPl ?aDr ?lDr ?cDr ?kDr ?aLt ?lLt ?cLt ?kLt ?aLa ?lLa ?cLa ?kLa ?z_abs ?z_int ?z_len ?z_sum ?z_max ?z_min ?z_range ?z_isinstance ?z_bool ?z_str ?z_tuple ?z_list ?z_dict ?z_all ?z_sorted ?z_repr ?z_zip ?z_ValueError ?z_KeyError ?z_OverflowError ?z_RuntimeError ?cgL ?ctL ?spS ?tyS ?rdS ?fiS ?fiUnknownName ?fiTooMany ?fiNothingToUndo ?x_BadLabel ?saBadLabel ?kcBadLabel ?tyBadLabel ?gaBadLabel ?ggBadLabel ?exBadLabel ?hdBadLabel ?noBadLabel ?clBadLabel ?caBadLabel ?moBadLabel ?ksBadLabel ?kvBadLabel ?x_BadCell ?saBadCell ?kcBadCell ?tyBadCell ?gaBadCell ?ggBadCell ?exBadCell ?hdBadCell ?noBadCell ?clBadCell ?caBadCell ?moBadCell ?ksBadCell ?kvBadCell ?x_BadPart ?saBadPart ?kcBadPart ?tyBadPart ?gaBadPart ?ggBadPart ?exBadPart ?hdBadPart ?noBadPart ?clBadPart ?caBadPart ?moBadPart ?ksBadPart ?kvBadPart ?x_BadTerm ?saBadTerm ?kcBadTerm ?tyBadTerm ?gaBadTerm ?ggBadTerm ?exBadTerm ?hdBadTerm ?noBadTerm ?clBadTerm ?caBadTerm ?moBadTerm ?ksBadTerm ?kvBadTerm ?x_BadFunction ?saBadFunction ?kcBadFunction ?tyBadFunction ?gaBadFunction ?ggBadFunction ?exBadFunction ?hdBadFunction ?noBadFunction ?clBadFunction ?caBadFunction ?moBadFunction ?ksBadFunction ?kvBadFunction ?x_BadState ?saBadState ?kcBadState ?tyBadState ?gaBadState ?ggBadState ?exBadState ?hdBadState ?noBadState ?clBadState ?caBadState ?moBadState ?ksBadState ?kvBadState ?x_BadArguments ?saBadArguments ?kcBadArguments ?tyBadArguments ?gaBadArguments ?ggBadArguments ?exBadArguments ?hdBadArguments ?noBadArguments ?clBadArguments ?caBadArguments ?moBadArguments ?ksBadArguments ?kvBadArguments ?x_BadTick ?saBadTick ?kcBadTick ?tyBadTick ?gaBadTick ?ggBadTick ?exBadTick ?hdBadTick ?noBadTick ?clBadTick ?caBadTick ?moBadTick ?ksBadTick ?kvBadTick ?x_BadCall ?saBadCall ?kcBadCall ?tyBadCall ?gaBadCall ?ggBadCall ?exBadCall ?hdBadCall ?noBadCall ?clBadCall ?caBadCall ?moBadCall ?ksBadCall ?kvBadCall ?x_BadTree ?saBadTree ?kcBadTree ?tyBadTree ?gaBadTree ?ggBadTree ?exBadTree ?hdBadTree ?noBadTree ?clBadTree ?caBadTree ?moBadTree ?ksBadTree ?kvBadTree ?x_BadOutput ?saBadOutput ?kcBadOutput ?tyBadOutput ?gaBadOutput ?ggBadOutput ?exBadOutput ?hdBadOutput ?noBadOutput ?clBadOutput ?caBadOutput ?moBadOutput ?ksBadOutput ?kvBadOutput ?x_BadOrder ?saBadOrder ?kcBadOrder ?tyBadOrder ?gaBadOrder ?ggBadOrder ?exBadOrder ?hdBadOrder ?noBadOrder ?clBadOrder ?caBadOrder ?moBadOrder ?ksBadOrder ?kvBadOrder ?x_BadMark ?saBadMark ?kcBadMark ?tyBadMark ?gaBadMark ?ggBadMark ?exBadMark ?hdBadMark ?noBadMark ?clBadMark ?caBadMark ?moBadMark ?ksBadMark ?kvBadMark ?x_BadTable ?saBadTable ?kcBadTable ?tyBadTable ?gaBadTable ?ggBadTable ?exBadTable ?hdBadTable ?noBadTable ?clBadTable ?caBadTable ?moBadTable ?ksBadTable ?kvBadTable ?x_BadPlan ?saBadPlan ?kcBadPlan ?tyBadPlan ?gaBadPlan ?ggBadPlan ?exBadPlan ?hdBadPlan ?noBadPlan ?clBadPlan ?caBadPlan ?moBadPlan ?ksBadPlan ?kvBadPlan ?x_BadToken ?saBadToken ?kcBadToken ?tyBadToken ?gaBadToken ?ggBadToken ?exBadToken ?hdBadToken ?noBadToken ?clBadToken ?caBadToken ?moBadToken ?ksBadToken ?kvBadToken ?x_BadText ?saBadText ?kcBadText ?tyBadText ?gaBadText ?ggBadText ?exBadText ?hdBadText ?noBadText ?clBadText ?caBadText ?moBadText ?ksBadText ?kvBadText ?x_BadLine ?saBadLine ?kcBadLine ?tyBadLine ?gaBadLine ?ggBadLine ?exBadLine ?hdBadLine ?noBadLine ?clBadLine ?caBadLine ?moBadLine ?ksBadLine ?kvBadLine ?x_BadChance ?saBadChance ?kcBadChance ?tyBadChance ?gaBadChance ?ggBadChance ?exBadChance ?hdBadChance ?noBadChance ?clBadChance ?caBadChance ?moBadChance ?ksBadChance ?kvBadChance ?x_BadMove ?saBadMove ?kcBadMove ?tyBadMove ?gaBadMove ?ggBadMove ?exBadMove ?hdBadMove ?noBadMove ?clBadMove ?caBadMove ?moBadMove ?ksBadMove ?kvBadMove ?x_BadRun ?saBadRun ?kcBadRun ?tyBadRun ?gaBadRun ?ggBadRun ?exBadRun ?hdBadRun ?noBadRun ?clBadRun ?caBadRun ?moBadRun ?ksBadRun ?kvBadRun ?x_BadMoment ?saBadMoment ?kcBadMoment ?tyBadMoment ?gaBadMoment ?ggBadMoment ?exBadMoment ?hdBadMoment ?noBadMoment ?clBadMoment ?caBadMoment ?moBadMoment ?ksBadMoment ?kvBadMoment ?x_UnknownName ?saUnknownName ?kcUnknownName ?tyUnknownName ?gaUnknownName ?ggUnknownName ?exUnknownName ?hdUnknownName ?noUnknownName ?clUnknownName ?caUnknownName ?moUnknownName ?ksUnknownName ?kvUnknownName ?x_TooMany ?saTooMany ?kcTooMany ?tyTooMany ?gaTooMany ?ggTooMany ?exTooMany ?hdTooMany ?noTooMany ?clTooMany ?caTooMany ?moTooMany ?ksTooMany ?kvTooMany ?x_NothingToUndo ?saNothingToUndo ?kcNothingToUndo ?tyNothingToUndo ?gaNothingToUndo ?ggNothingToUndo ?exNothingToUndo ?hdNothingToUndo ?noNothingToUndo ?clNothingToUndo ?caNothingToUndo ?moNothingToUndo ?ksNothingToUndo ?kvNothingToUndo ?pBadRun_BadTable ?pBadLine_BadText ?pBadOutput_BadCall ?pBadOrder_BadMark ?pBadMark_BadOrder ?pBadMove_BadMark ?pBadPlan_BadCall ?pBadMoment_BadToken ?pBadChance_BadTable ?pBadCell_BadFunction ?pBadFunction_BadCell ?pBadPart_BadTerm
    case a_BadLabel => k_is
    case a_BadCell => k_is
    case a_BadPart => k_is
    case a_BadTerm => k_is
    case a_BadFunction => k_is
    case a_BadState => k_is
    case a_BadArguments => k_is
    case a_BadTick => k_is
    case a_BadCall => k_is
    case a_BadTree => k_is
    case a_BadOutput => k_is
    case a_BadOrder => k_is
    case a_BadMark => k_is
    case a_BadTable => k_is
    case a_BadPlan => k_is
    case a_BadToken => k_is
    case a_BadText => k_is
    case a_BadLine => k_is
    case a_BadChance => k_is
    case a_BadMove => k_is
    case a_BadRun => k_is
    case a_BadMoment => k_is
    case a_UnknownName => k_is
    case a_TooMany => k_is
    case a_NothingToUndo => k_is
    case a_StoreError => k_is
    case aIBadLabel => k_is
    case iIBadLabel => k_is
    case lIBadLabel => k_is
    case cIBadLabel => k_is
    case kIBadLabel => k_is
    case aIBadCell => k_is
    case iIBadCell => k_is
    case lIBadCell => k_is
    case cIBadCell => k_is
    case kIBadCell => k_is
    case aIBadPart => k_is
    case iIBadPart => k_is
    case lIBadPart => k_is
    case cIBadPart => k_is
    case kIBadPart => k_is
    case aIBadTerm => k_is
    case iIBadTerm => k_is
    case lIBadTerm => k_is
    case cIBadTerm => k_is
    case kIBadTerm => k_is
    case aIBadFunction => k_is
    case iIBadFunction => k_is
    case lIBadFunction => k_is
    case cIBadFunction => k_is
    case kIBadFunction => k_is
    case aIBadState => k_is
    case iIBadState => k_is
    case lIBadState => k_is
    case cIBadState => k_is
    case kIBadState => k_is
    case aIBadArguments => k_is
    case iIBadArguments => k_is
    case lIBadArguments => k_is
    case cIBadArguments => k_is
    case kIBadArguments => k_is
    case aIBadTick => k_is
    case iIBadTick => k_is
    case lIBadTick => k_is
    case cIBadTick => k_is
    case kIBadTick => k_is
    case aIBadCall => k_is
    case iIBadCall => k_is
    case lIBadCall => k_is
    case cIBadCall => k_is
    case kIBadCall => k_is
    case aIBadTree => k_is
    case iIBadTree => k_is
    case lIBadTree => k_is
    case cIBadTree => k_is
    case kIBadTree => k_is
    case aIBadOutput => k_is
    case iIBadOutput => k_is
    case lIBadOutput => k_is
    case cIBadOutput => k_is
    case kIBadOutput => k_is
    case aIBadOrder => k_is
    case iIBadOrder => k_is
    case lIBadOrder => k_is
    case cIBadOrder => k_is
    case kIBadOrder => k_is
    case aIBadMark => k_is
    case iIBadMark => k_is
    case lIBadMark => k_is
    case cIBadMark => k_is
    case kIBadMark => k_is
    case aIBadTable => k_is
    case iIBadTable => k_is
    case lIBadTable => k_is
    case cIBadTable => k_is
    case kIBadTable => k_is
    case aIBadPlan => k_is
    case iIBadPlan => k_is
    case lIBadPlan => k_is
    case cIBadPlan => k_is
    case kIBadPlan => k_is
    case aIBadToken => k_is
    case iIBadToken => k_is
    case lIBadToken => k_is
    case cIBadToken => k_is
    case kIBadToken => k_is
    case aIBadText => k_is
    case iIBadText => k_is
    case lIBadText => k_is
    case cIBadText => k_is
    case kIBadText => k_is
    case aIBadLine => k_is
    case iIBadLine => k_is
    case lIBadLine => k_is
    case cIBadLine => k_is
    case kIBadLine => k_is
    case aIBadChance => k_is
    case iIBadChance => k_is
    case lIBadChance => k_is
    case cIBadChance => k_is
    case kIBadChance => k_is
    case aIBadMove => k_is
    case iIBadMove => k_is
    case lIBadMove => k_is
    case cIBadMove => k_is
    case kIBadMove => k_is
    case aIBadRun => k_is
    case iIBadRun => k_is
    case lIBadRun => k_is
    case cIBadRun => k_is
    case kIBadRun => k_is
    case aIBadMoment => k_is
    case iIBadMoment => k_is
    case lIBadMoment => k_is
    case cIBadMoment => k_is
    case kIBadMoment => k_is
    case aIUnknownName => k_is
    case iIUnknownName => k_is
    case lIUnknownName => k_is
    case cIUnknownName => k_is
    case kIUnknownName => k_is
    case aITooMany => k_is
    case iITooMany => k_is
    case lITooMany => k_is
    case cITooMany => k_is
    case kITooMany => k_is
    case aINothingToUndo => k_is
    case iINothingToUndo => k_is
    case lINothingToUndo => k_is
    case cINothingToUndo => k_is
    case kINothingToUndo => k_is
    case aPl => k_is
    case lPl => k_is
    case cPl => k_is
    case kPl => k_is
    case aDr => k_is
    case lDr => k_is
    case cDr => k_is
    case kDr => k_is
    case aLt => k_is
    case lLt => k_is
    case cLt => k_is
    case kLt => k_is
    case aLa => k_is
    case lLa => k_is
    case cLa => k_is
    case kLa => k_is
    case z_abs => k_is
    case z_int => k_is
    case z_len => k_is
    case z_sum => k_is
    case z_max => k_is
    case z_min => k_is
    case z_range => k_is
    case z_isinstance => k_is
    case z_bool => k_is
    case z_str => k_is
    case z_tuple => k_is
    case z_list => k_is
    case z_dict => k_is
    case z_all => k_is
    case z_sorted => k_is
    case z_repr => k_is
    case z_zip => k_is
    case z_ValueError => k_is
    case z_KeyError => k_is
    case z_OverflowError => k_is
    case z_RuntimeError => k_is
    case cgL => k_is
    case ctL => k_is
    case spS => k_is
    case tyS => k_is
    case rdS => first | k_is | rfl | decide +kernel
    case fiS => first | k_is | rfl | decide +kernel
    case fiUnknownName => first | k_is | rfl | decide +kernel
    case fiTooMany => first | k_is | rfl | decide +kernel
    case fiNothingToUndo => first | k_is | rfl | decide +kernel
    case x_BadLabel => k_is
    case saBadLabel => k_is
    case kcBadLabel => k_is
    case tyBadLabel => k_is
    case gaBadLabel => k_is
    case ggBadLabel => k_is
    case exBadLabel => k_is
    case hdBadLabel => k_is
    case noBadLabel => k_is
    case clBadLabel => first | k_is | rfl | decide +kernel
    case caBadLabel => k_is
    case moBadLabel => k_is
    case ksBadLabel => first | k_is | rfl | decide +kernel
    case kvBadLabel => first | k_is | rfl | decide +kernel
    case x_BadCell => k_is
    case saBadCell => k_is
    case kcBadCell => k_is
    case tyBadCell => k_is
    case gaBadCell => k_is
    case ggBadCell => k_is
    case exBadCell => k_is
    case hdBadCell => k_is
    case noBadCell => k_is
    case clBadCell => first | k_is | rfl | decide +kernel
    case caBadCell => k_is
    case moBadCell => k_is
    case ksBadCell => first | k_is | rfl | decide +kernel
    case kvBadCell => first | k_is | rfl | decide +kernel
    case x_BadPart => k_is
    case saBadPart => k_is
    case kcBadPart => k_is
    case tyBadPart => k_is
    case gaBadPart => k_is
    case ggBadPart => k_is
    case exBadPart => k_is
    case hdBadPart => k_is
    case noBadPart => k_is
    case clBadPart => first | k_is | rfl | decide +kernel
    case caBadPart => k_is
    case moBadPart => k_is
    case ksBadPart => first | k_is | rfl | decide +kernel
    case kvBadPart => first | k_is | rfl | decide +kernel
    case x_BadTerm => k_is
    case saBadTerm => k_is
    case kcBadTerm => k_is
    case tyBadTerm => k_is
    case gaBadTerm => k_is
    case ggBadTerm => k_is
    case exBadTerm => k_is
    case hdBadTerm => k_is
    case noBadTerm => k_is
    case clBadTerm => first | k_is | rfl | decide +kernel
    case caBadTerm => k_is
    case moBadTerm => k_is
    case ksBadTerm => first | k_is | rfl | decide +kernel
    case kvBadTerm => first | k_is | rfl | decide +kernel
    case x_BadFunction => k_is
    case saBadFunction => k_is
    case kcBadFunction => k_is
    case tyBadFunction => k_is
    case gaBadFunction => k_is
    case ggBadFunction => k_is
    case exBadFunction => k_is
    case hdBadFunction => k_is
    case noBadFunction => k_is
    case clBadFunction => first | k_is | rfl | decide +kernel
    case caBadFunction => k_is
    case moBadFunction => k_is
    case ksBadFunction => first | k_is | rfl | decide +kernel
    case kvBadFunction => first | k_is | rfl | decide +kernel
    case x_BadState => k_is
    case saBadState => k_is
    case kcBadState => k_is
    case tyBadState => k_is
    case gaBadState => k_is
    case ggBadState => k_is
    case exBadState => k_is
    case hdBadState => k_is
    case noBadState => k_is
    case clBadState => first | k_is | rfl | decide +kernel
    case caBadState => k_is
    case moBadState => k_is
    case ksBadState => first | k_is | rfl | decide +kernel
    case kvBadState => first | k_is | rfl | decide +kernel
    case x_BadArguments => k_is
    case saBadArguments => k_is
    case kcBadArguments => k_is
    case tyBadArguments => k_is
    case gaBadArguments => k_is
    case ggBadArguments => k_is
    case exBadArguments => k_is
    case hdBadArguments => k_is
    case noBadArguments => k_is
    case clBadArguments => first | k_is | rfl | decide +kernel
    case caBadArguments => k_is
    case moBadArguments => k_is
    case ksBadArguments => first | k_is | rfl | decide +kernel
    case kvBadArguments => first | k_is | rfl | decide +kernel
    case x_BadTick => k_is
    case saBadTick => k_is
    case kcBadTick => k_is
    case tyBadTick => k_is
    case gaBadTick => k_is
    case ggBadTick => k_is
    case exBadTick => k_is
    case hdBadTick => k_is
    case noBadTick => k_is
    case clBadTick => first | k_is | rfl | decide +kernel
    case caBadTick => k_is
    case moBadTick => k_is
    case ksBadTick => first | k_is | rfl | decide +kernel
    case kvBadTick => first | k_is | rfl | decide +kernel
    case x_BadCall => k_is
    case saBadCall => k_is
    case kcBadCall => k_is
    case tyBadCall => k_is
    case gaBadCall => k_is
    case ggBadCall => k_is
    case exBadCall => k_is
    case hdBadCall => k_is
    case noBadCall => k_is
    case clBadCall => first | k_is | rfl | decide +kernel
    case caBadCall => k_is
    case moBadCall => k_is
    case ksBadCall => first | k_is | rfl | decide +kernel
    case kvBadCall => first | k_is | rfl | decide +kernel
    case x_BadTree => k_is
    case saBadTree => k_is
    case kcBadTree => k_is
    case tyBadTree => k_is
    case gaBadTree => k_is
    case ggBadTree => k_is
    case exBadTree => k_is
    case hdBadTree => k_is
    case noBadTree => k_is
    case clBadTree => first | k_is | rfl | decide +kernel
    case caBadTree => k_is
    case moBadTree => k_is
    case ksBadTree => first | k_is | rfl | decide +kernel
    case kvBadTree => first | k_is | rfl | decide +kernel
    case x_BadOutput => k_is
    case saBadOutput => k_is
    case kcBadOutput => k_is
    case tyBadOutput => k_is
    case gaBadOutput => k_is
    case ggBadOutput => k_is
    case exBadOutput => k_is
    case hdBadOutput => k_is
    case noBadOutput => k_is
    case clBadOutput => first | k_is | rfl | decide +kernel
    case caBadOutput => k_is
    case moBadOutput => k_is
    case ksBadOutput => first | k_is | rfl | decide +kernel
    case kvBadOutput => first | k_is | rfl | decide +kernel
    case x_BadOrder => k_is
    case saBadOrder => k_is
    case kcBadOrder => k_is
    case tyBadOrder => k_is
    case gaBadOrder => k_is
    case ggBadOrder => k_is
    case exBadOrder => k_is
    case hdBadOrder => k_is
    case noBadOrder => k_is
    case clBadOrder => first | k_is | rfl | decide +kernel
    case caBadOrder => k_is
    case moBadOrder => k_is
    case ksBadOrder => first | k_is | rfl | decide +kernel
    case kvBadOrder => first | k_is | rfl | decide +kernel
    case x_BadMark => k_is
    case saBadMark => k_is
    case kcBadMark => k_is
    case tyBadMark => k_is
    case gaBadMark => k_is
    case ggBadMark => k_is
    case exBadMark => k_is
    case hdBadMark => k_is
    case noBadMark => k_is
    case clBadMark => first | k_is | rfl | decide +kernel
    case caBadMark => k_is
    case moBadMark => k_is
    case ksBadMark => first | k_is | rfl | decide +kernel
    case kvBadMark => first | k_is | rfl | decide +kernel
    case x_BadTable => k_is
    case saBadTable => k_is
    case kcBadTable => k_is
    case tyBadTable => k_is
    case gaBadTable => k_is
    case ggBadTable => k_is
    case exBadTable => k_is
    case hdBadTable => k_is
    case noBadTable => k_is
    case clBadTable => first | k_is | rfl | decide +kernel
    case caBadTable => k_is
    case moBadTable => k_is
    case ksBadTable => first | k_is | rfl | decide +kernel
    case kvBadTable => first | k_is | rfl | decide +kernel
    case x_BadPlan => k_is
    case saBadPlan => k_is
    case kcBadPlan => k_is
    case tyBadPlan => k_is
    case gaBadPlan => k_is
    case ggBadPlan => k_is
    case exBadPlan => k_is
    case hdBadPlan => k_is
    case noBadPlan => k_is
    case clBadPlan => first | k_is | rfl | decide +kernel
    case caBadPlan => k_is
    case moBadPlan => k_is
    case ksBadPlan => first | k_is | rfl | decide +kernel
    case kvBadPlan => first | k_is | rfl | decide +kernel
    case x_BadToken => k_is
    case saBadToken => k_is
    case kcBadToken => k_is
    case tyBadToken => k_is
    case gaBadToken => k_is
    case ggBadToken => k_is
    case exBadToken => k_is
    case hdBadToken => k_is
    case noBadToken => k_is
    case clBadToken => first | k_is | rfl | decide +kernel
    case caBadToken => k_is
    case moBadToken => k_is
    case ksBadToken => first | k_is | rfl | decide +kernel
    case kvBadToken => first | k_is | rfl | decide +kernel
    case x_BadText => k_is
    case saBadText => k_is
    case kcBadText => k_is
    case tyBadText => k_is
    case gaBadText => k_is
    case ggBadText => k_is
    case exBadText => k_is
    case hdBadText => k_is
    case noBadText => k_is
    case clBadText => first | k_is | rfl | decide +kernel
    case caBadText => k_is
    case moBadText => k_is
    case ksBadText => first | k_is | rfl | decide +kernel
    case kvBadText => first | k_is | rfl | decide +kernel
    case x_BadLine => k_is
    case saBadLine => k_is
    case kcBadLine => k_is
    case tyBadLine => k_is
    case gaBadLine => k_is
    case ggBadLine => k_is
    case exBadLine => k_is
    case hdBadLine => k_is
    case noBadLine => k_is
    case clBadLine => first | k_is | rfl | decide +kernel
    case caBadLine => k_is
    case moBadLine => k_is
    case ksBadLine => first | k_is | rfl | decide +kernel
    case kvBadLine => first | k_is | rfl | decide +kernel
    case x_BadChance => k_is
    case saBadChance => k_is
    case kcBadChance => k_is
    case tyBadChance => k_is
    case gaBadChance => k_is
    case ggBadChance => k_is
    case exBadChance => k_is
    case hdBadChance => k_is
    case noBadChance => k_is
    case clBadChance => first | k_is | rfl | decide +kernel
    case caBadChance => k_is
    case moBadChance => k_is
    case ksBadChance => first | k_is | rfl | decide +kernel
    case kvBadChance => first | k_is | rfl | decide +kernel
    case x_BadMove => k_is
    case saBadMove => k_is
    case kcBadMove => k_is
    case tyBadMove => k_is
    case gaBadMove => k_is
    case ggBadMove => k_is
    case exBadMove => k_is
    case hdBadMove => k_is
    case noBadMove => k_is
    case clBadMove => first | k_is | rfl | decide +kernel
    case caBadMove => k_is
    case moBadMove => k_is
    case ksBadMove => first | k_is | rfl | decide +kernel
    case kvBadMove => first | k_is | rfl | decide +kernel
    case x_BadRun => k_is
    case saBadRun => k_is
    case kcBadRun => k_is
    case tyBadRun => k_is
    case gaBadRun => k_is
    case ggBadRun => k_is
    case exBadRun => k_is
    case hdBadRun => k_is
    case noBadRun => k_is
    case clBadRun => first | k_is | rfl | decide +kernel
    case caBadRun => k_is
    case moBadRun => k_is
    case ksBadRun => first | k_is | rfl | decide +kernel
    case kvBadRun => first | k_is | rfl | decide +kernel
    case x_BadMoment => k_is
    case saBadMoment => k_is
    case kcBadMoment => k_is
    case tyBadMoment => k_is
    case gaBadMoment => k_is
    case ggBadMoment => k_is
    case exBadMoment => k_is
    case hdBadMoment => k_is
    case noBadMoment => k_is
    case clBadMoment => first | k_is | rfl | decide +kernel
    case caBadMoment => k_is
    case moBadMoment => k_is
    case ksBadMoment => first | k_is | rfl | decide +kernel
    case kvBadMoment => first | k_is | rfl | decide +kernel
    case x_UnknownName => k_is
    case saUnknownName => k_is
    case kcUnknownName => k_is
    case tyUnknownName => k_is
    case gaUnknownName => k_is
    case ggUnknownName => k_is
    case exUnknownName => k_is
    case hdUnknownName => k_is
    case noUnknownName => k_is
    case clUnknownName => first | k_is | rfl | decide +kernel
    case caUnknownName => k_is
    case moUnknownName => k_is
    case ksUnknownName => first | k_is | rfl | decide +kernel
    case kvUnknownName => first | k_is | rfl | decide +kernel
    case x_TooMany => k_is
    case saTooMany => k_is
    case kcTooMany => k_is
    case tyTooMany => k_is
    case gaTooMany => k_is
    case ggTooMany => k_is
    case exTooMany => k_is
    case hdTooMany => k_is
    case noTooMany => k_is
    case clTooMany => first | k_is | rfl | decide +kernel
    case caTooMany => k_is
    case moTooMany => k_is
    case ksTooMany => first | k_is | rfl | decide +kernel
    case kvTooMany => first | k_is | rfl | decide +kernel
    case x_NothingToUndo => k_is
    case saNothingToUndo => k_is
    case kcNothingToUndo => k_is
    case tyNothingToUndo => k_is
    case gaNothingToUndo => k_is
    case ggNothingToUndo => k_is
    case exNothingToUndo => k_is
    case hdNothingToUndo => k_is
    case noNothingToUndo => k_is
    case clNothingToUndo => first | k_is | rfl | decide +kernel
    case caNothingToUndo => k_is
    case moNothingToUndo => k_is
    case ksNothingToUndo => first | k_is | rfl | decide +kernel
    case kvNothingToUndo => first | k_is | rfl | decide +kernel
    case pBadRun_BadTable => first | k_is | rfl | decide +kernel
    case pBadLine_BadText => first | k_is | rfl | decide +kernel
    case pBadOutput_BadCall => first | k_is | rfl | decide +kernel
    case pBadOrder_BadMark => first | k_is | rfl | decide +kernel
    case pBadMark_BadOrder => first | k_is | rfl | decide +kernel
    case pBadMove_BadMark => first | k_is | rfl | decide +kernel
    case pBadPlan_BadCall => first | k_is | rfl | decide +kernel
    case pBadMoment_BadToken => first | k_is | rfl | decide +kernel
    case pBadChance_BadTable => first | k_is | rfl | decide +kernel
    case pBadCell_BadFunction => first | k_is | rfl | decide +kernel
    case pBadFunction_BadCell => first | k_is | rfl | decide +kernel
    case pBadPart_BadTerm => first | k_is | rfl | decide +kernel


