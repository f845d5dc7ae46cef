import PyProof.Rows.All
import Wide.All
import OpenK.AllK
import Wide.FinOn
import PyProof.ReprRoads
import KE.KExcIs
import HandS.Base
import HandS.Call
import HandS.List
import HandS.Comp
import HandS.Ends
import HandS.Words
import HandS.Dict
import HandS.Iter
import HandS.Text
import HandS.Evl
import HandS.IsInst
import HandS.Walk
import HandS.More
import HandS.TupAny
import HandS.OwnEq
import HandS.SlotsOwn
import HandS.Exc
import HandS.ExcInit
import HandS.ExcField
import HandS.WordsExc
import HandS.CallSlots
import HandS.Strs
import HandS.Conv
import HandS.RaiseMore
import HandS.Style
import HandS.ExcIs
import PySem.Challenge.RW_steadycalls_k01_labels
set_option Elab.async false
set_option linter.all false
set_option maxRecDepth 100000
set_option maxHeartbeats 4000000
namespace Sc
open PySem PySem.Spec PyProof.Rows L2
def topS (i : Nat) : Stmt := PySem.Challenge.pw_steadycalls_k01_labels.main.body.getD i (.Pass ⟨0, 0, 0, 0⟩)
/-! ### an error of the text's own, over an own base -/
/-- what is written of the class B, whose __init__ is asked for by the class's name x -/
structure OwnBase (K : PySem.W.Frag) (mg : Str → Option Value) (x : Str) (B : Addr) : Prop where
  nam : mg x = some (.ref B)
  gta : PySem.W.specialIn K (.ref B) "__getattribute__" = some (some (.builtin "type.__getattribute__"))
  typ : PySem.W.typeIn K (.ref B) = some (.type "type")
  rds : PySem.W.readsIn K B (.type "type") = true
  ini : PySem.W.findCls K (.ref B) (.type "type") "__init__" = some (.val (.builtin "ValueError.__init__"))
section
variable {X : Cx} {e : Expr} {es : List Expr} {ta : TA} {p1 p2 pos : Pos}
theorem pe_baseI {pl : Sem Bool} {x : Str} {B : Addr} (vis : Gl X x) (T : OwnBase X.K X.mg x B) (arg : PA X (e :: es) ta)
    (run : eval (.Call (.Attribute (.Name x p1) "__init__" p2) (e :: es) [] pos) X.env = (do
      let cv ← eval (.Name x p1) X.env
      standAt p2.atName
      let (g, hd) ← holding [cv] (getMethod cv "__init__" pl)
      callWith pos g hd (backTo pos (starEach (e :: es) X.env)) (backToKw pos (keywordEach [] X.env))) := by rfl)
    (dbg : (x == ("__debug__" : Str)) = false := by decide) (one : starEach (e :: es) X.env = (false, eval e X.env) :: starEach es X.env := by rfl)
    (nos : (backTo pos (starEach es X.env)).any (·.1) = false := by rfl) : PE X (.Call (.Attribute (.Name x p1) "__init__" p2) (e :: es) [] pos) (tVeI X.K ta) := ⟨fun pins s σ H Q I h => by
  obtain ⟨m, fr⟩ := I.fr
  have kin := I.ok.mod.kin
  refine PySem.W.methodCall_KW (ld_glob I vis T.nam (PySem.W.method_of_cls fr kin T.gta (PySem.W.cls_val fr kin T.typ T.rds T.ini (by decide +kernel) ?_)) dbg) run
  exact PyProof.Rows.callWith_method1 (thn (arg.run pos pins _ σ H _ (I.tok _) h) fun us s1 z => by
    obtain ⟨vs, H1, I1, r1, a, C, ws, ev, hl, T1, ea, q⟩ := z
    subst ev
    cases r1 with
    | @cons _ u0 _ ur ra rw' =>
      cases (show u0 = Value.ref a from ra)
      have hlen : ur.length ≤ sizeLine := by rw [← Paired.length rw', sizeLine_eq]; omega
      exact oinit_ok T1 I1 ea hlen fun s' J => ⟨V.non, H1, J, rfl, q⟩) one nos⟩
end
/-- C(e, ..) in a try: what leaves __init__ goes to the wish at the present slots -/
def tMakeS (C : Addr) (sp : Sp) (E : L2.St → XK) (t : TA) : TE := fun σ H Q => t σ H fun vs H1 => ∀ x dx, H1 x = none → H1 dx = none → dx ≠ x → sp (.ref x :: vs) (upd (upd H1 dx (.own x)) x (.ins C dx [])) (fun v H2 => v = .non ∧ Q (.ref x) H2) (E σ)
theorem pe_makeS {X : Cx} {CX : CXT} {C f : Addr} {fd : FuncData} {k : Nat} {ps : List Str} {sp : Sp} {x : Str} {p pos : Pos} {e : Expr} {es : List Expr} {t : TA} {E : L2.St → XK} (M : Mk X.K C f) (F : FnOk X.prog X.w X.K X.mg X.base CX k f fd ps sp)
    (hr : Room (k + 1) X.A) (hg : Gl X x) (hm : X.mg x = some (.ref C)) (hb : Binds X.K fd ps []) (way : ∀ σ, PassesAt CX X σ (E σ)) (ha : PA X (e :: es) t) (hdb : (x == ("__debug__" : Str)) = false := by decide)
    (he : starEach (e :: es) X.env = (false, eval e X.env) :: starEach es X.env := by rfl) (hpl : (backTo pos (starEach es X.env)).any (·.1) = false := by rfl) : PE X (.Call (.Name x p) (e :: es) [] pos) (tMakeS C sp E t) := ⟨fun pins s σ H Q I h => by
  refine wpAny_Call_Name_kw (ld_glob I hg hm (PySem.W.callWith_K (h₀ := X.base) I.ok.mod.kin M.kp (thn (ha.run pos pins s σ H _ I h) fun us s1 z => ?_) he hpl) hdb)
  obtain ⟨vs, H1, I1, r, q⟩ := z
  let n := s1.heap.objs.size
  have here := q (n + 1) n (I1.hok.fresh (Nat.le_succ _)) (I1.hok.fresh (Nat.le_refl _)) (Nat.ne_of_lt (Nat.lt_succ_self _))
  have made := Inv.made (C := C) I1
  have rs : Vals (V.ref (n + 1) :: vs) (Value.ref (n + 1) :: us) := .cons rfl r
  have many : (Value.ref (n + 1) :: us).length = ps.length := rs.length.symm.trans (F.len _ _ _ _ here)
  have bind := hb ⟨_, s1.gens, s1.drawn, s1.toks, s1.os⟩ (Value.ref (n + 1) :: us) made.kIn (by rw [List.append_nil]; exact many)
  rw [List.append_nil] at bind
  refine ⟨I1.kIn, wpAny_call (make_map (f := f) I1.kIn M.makes M.init (beq_iff_eq.mp M.fn) (codeAny_mono (F.run _ X.stack _ _ ⟨Value.ref (n + 1) :: us, []⟩ (Value.ref (n + 1) :: us) _ _ (E σ) (hr.make C us []) (made.env0.make C us []) bind rs here) fun r s' z => ?_))⟩
  cases r with
  | error er => exact way σ pins _ _ er s' made z
  | ok fl =>
    cases fl with
    | ret u =>
      obtain ⟨v, H', J, rv, ev, q3⟩ := made.after z
      subst ev
      exact ⟨rv, V.ref (n + 1), H', J, rfl, q3⟩
    | next => exact False.elim z
    | brk => exact False.elim z
    | cont => exact False.elim z⟩
/-- a def that may raise, called where it doesn't -/
theorem pass00 {X : Cx} : Passes (L2.CX X.prog X.w) X (fun _ _ _ => False) := passes_call takes0 (fun _ _ _ _ h => h)
/-! ### isinstance of a caught error that has its dict -/
structure ErrC (K : PySem.W.Frag) (C : Addr) : Prop where
  cl : (PySem.W.clsIn K C).isSome = true
  ga : PySem.W.findIn K (.ref C) "__getattribute__" = some (some (.builtin "BaseException.__getattribute__"))
  gt : PySem.W.findIn K (.ref C) "__getattr__" = some none
  be : PySem.W.subIn K (.ref C) (.type "BaseException") = some true
  ca : PySem.W.findIn K (.ref C) "__class__" = some (some (.builtin "object.__class__"))
  cn : PySem.W.specialIn K (.builtin "object.__class__") "__get__" = some (some (.builtin "getset_descriptor.__get__"))
  tk : PySem.W.takesIn K (.builtin "object.__class__") = some true
  mo : PySem.W.mroIn K C (.type "object") = some true
def rIsD (K : PySem.W.Frag) (D a : Addr) (cls : Value) (d : Option Addr) : List V → Hp → VK → Prop := fun xs H Q => ∃ (c : V) (cv : Value) (b : Bool) (dd : Addr) (fs : List (Str × V)), xs = [.ref a, c] ∧ (∀ u, RelV c u → u = cv) ∧ cls = .ref D ∧ d = some dd ∧ H dd = some (.xd fs) ∧ PySem.W.kitOne K (.ref D) cv = some b ∧ Q (.bl b) H
theorem call_isD {X : Cx} {a D : Addr} {cls : Value} {d : Option Addr} {oe : Obj} {pn : List (Addr × Obj)} (T : ErrC X.K D) (hz : Zc cls d oe) (hf : ∃ vs, oe.data = .fields vs) : CallR (X.suite a ((a, oe) :: pn)) (.builtin "isinstance") (rIsD X.K D a cls d) := by
  intro pins s σ H xs us Q I r h
  obtain ⟨c, cv, b, dd, fs, rfl, hcv, rfl, rfl, hd, e, q⟩ := h
  obtain ⟨u1, u2, rfl, r1, r2⟩ := vals2 r
  cases (show u1 = Value.ref a from r1)
  cases hcv _ r2
  obtain ⟨hget, _⟩ := I.pin (a, oe) (List.mem_append_left _ List.mem_cons_self)
  obtain ⟨vs, hv⟩ := hf
  obtain ⟨mA, hns, _⟩ := (show ObjOk X.prog X.w H s.heap dd (.xd fs) from I.hok dd _ hd)
  obtain ⟨od, ho, _⟩ := lookIn_ns hns
  have J : PySem.W.InstAt s.heap a oe D (some od) := ⟨hget, hz.1, by unfold PySem.W.notCls; rw [hv] <;> rfl, by rw [hz.2]; exact ho⟩
  exact PySem.W.kia_one (PySem.W.kitx_exc T.cl T.ga T.gt T.be T.ca T.cn T.tk T.mo) I.kIn J e (fun z => nomatch z) fun tk => ⟨.bl b, H, I.kept (t' := tk) fun _ _ z => z, rfl, q⟩
/-! ### operators by own defs -/
section
variable {X : Cx} {n : Nat} {C g : Addr} {fd : FuncData} {ps : List Str} {sp : Sp}
def rOwnI (C : Addr) (sp : Sp) : R2 := fun x y H Q => ∃ a b dx dy fs gs, x = .ref a ∧ y = .ref b ∧ H a = some (.ins C dx fs) ∧ H b = some (.ins C dy gs) ∧ sp [x, y] H Q E0
theorem op_ownI {op : CmpOp} (hs : PySem.W.findIn X.K (.ref C) (cmpInfo op).2.1 = some (some (.ref g))) (hf : PySem.W.isFn X.K (.ref g) = true) (F : FnOk X.prog X.w X.K X.mg X.base CX0 n g fd ps sp) (hb : Binds X.K fd ps []) (hr : Room n X.A)
    (hop : ∀ a b, compareOp op a b = richCompare op a b := by intro _ _; rfl) : OpR X (compareOp op) (rOwnI C sp) := by
  intro pins s σ H x y v u Q I rx ry h
  obtain ⟨a, b, dx, dy, fs, gs, rfl, rfl, ea, eb, q⟩ := h
  cases (show v = Value.ref a from rx)
  cases (show u = Value.ref b from ry)
  obtain ⟨mA, J, _⟩ := ins_get I.hok ea
  obtain ⟨mB, J', _⟩ := ins_get I.hok eb
  obtain ⟨od, J, _⟩ := J.look
  obtain ⟨od', J', _⟩ := J'.look
  obtain ⟨m, hF⟩ := I.fr
  rw [hop]
  refine PySem.W.cmp_K (op := op) (tb := .ref C) hr.units0 hF I.ok.mod.kin J J'.type (by simp [PySem.W.notFirst]) hs hf ?_
  exact wpAny_mono (run_fn (vs := [.ref a, .ref b]) F hr hb .nil pass0 I (.cons rfl (.cons rfl .nil)) q) (fun w s' ⟨z', H', I', rz, qz⟩ => SlX.cmpback rz ⟨z', H', I', rz, qz⟩) fun _ _ x => x
end
/-! ### != by an own == -/
namespace NeX
open PySem.W
section
variable {prog : Program} {w : World} {A : Around} {E : Value → Shared → Prop} {s : Shared} {K : Frag} {x C L f : Addr} {h₀ : Heap} {m : Str → Option Value} {ox : Obj} {od : Option Obj} {b tb : Value}
theorem bound_blt {M : Model} {name : Str} {id : String} {args : List Value} {Q : Option Value → Shared → Prop} (X : K.In s.heap) (I : InstAt s.heap x ox C od) (hs : findIn K (.ref C) name = some (some (.builtin id)))
    (hb : bindSpecial (.builtin id) (.ref x) = pure (Value.builtin id, [Value.ref x])) (h : wpAny M A (call (.builtin id) (.ref x :: args)) (fun v => Q (some v)) E s) : wpAny M A (callSpecialIfBound? (.ref x) name args) Q E s := by
  simp only [callSpecialIfBound?, bindSpecialIfBound?]
  refine wpAny_holding (wpAny_bind (wpAny_bind (wpAny_bind (I.type.here ((looks_findIn X hs).here ?_)))))
  simp only [hb]
  have out : wpAny M A (call (.builtin id) ([.ref x] ++ args) >>= fun v => pure (some v)) Q E s := wpAny_bind (wpAny_mono h (fun _ _ z => wpAny_pure z) fun _ _ z => z)
  refine wpAny_bind (wpAny_askSetting (wpAny_ite ?_))
  split
  · exact wpAny_bind (wpAny_pure (wpAny_pure out))
  · exact wpAny_tryCatch (wpAny_bind (wpAny_pure (wpAny_pure out)))
theorem run_ne (hu : A.units < cLine) (X : K.In s.heap) (I : InstAt s.heap x ox C od) (he : findIn K (.ref C) "__eq__" = some (some (.ref f))) (hf : isFn K (.ref f) = true) {Q : Fin → Shared → Prop}
    (h : wpAny (model prog w) A (call (.ref f) [.ref x, b]) (fun v s' => ∃ k, v = .bool k ∧ Q (.done (.ret (.bool (!k)))) s') E s) : wpAny (model prog w) A (Builtin.«object.__ne__» ⟨[.ref x, b], []⟩) Q E s := by
  unfold Builtin.«object.__ne__»
  repeat (first
    | with_reducible refine wpAny_cRoomFor hu ?_
    | (refine wpAny_bind (m := callSpecialIfBound? (.ref x) (Str.ofString "__eq__") [b]) (ifBound_K X I he hf (wpAny_mono h (fun r s' hr => by
          obtain ⟨k, rfl, hq⟩ := hr
          repeat (first | exact hq | exact wpAny_pure hq | exact wpAny_truthy_bool hq | (refine wpAny_bind (m := truthy (.bool _)) (wpAny_truthy_bool ?_)) | wp_step)) fun _ _ z => z)))
    | wp_step)
theorem rich_ne (hu : A.units + 1 < cLine) (F : Fr h₀ L s.heap m) (X₀ : K.In h₀) (I : InstAt s.heap x ox C od) (hb : Looks (model prog w) s.heap (typeOf b) tb) (hn : notFirst K C tb = true)
    (hne : findIn K (.ref C) "__ne__" = some (some (.builtin "object.__ne__"))) (hso : subIn K (.ref C) (.type "object") = some true)
    (he : findIn K (.ref C) "__eq__" = some (some (.ref f))) (hf : isFn K (.ref f) = true) {Q : Value → Shared → Prop}
    (h : wpAny (model prog w) A.in1 (call (.ref f) [.ref x, b]) (fun v s' => ∃ k, v = .bool k ∧ Q (.bool (!k)) s') E s) : wpAny (model prog w) A (richCompare .NotEq (.ref x) b) Q E s := by
  have X := X₀.keeps F.keep
  have one : wpAny (model prog w) A (tryCompare (.ref x) "__ne__" b) (fun r s' => ∃ v, r = some v ∧ Q v s') E s := by
    unfold tryCompare
    refine wpAny_bind (bound_blt X I hne (PySem.F.cmp_object.ne.bind _) (wpAny_call (codeAny_call_builtin PySem.F.cmp_object.ne.plain PySem.F.cmpEntry_ne
      (check_slot PySem.F.cmpKind_ne PySem.F.cmpSplit_ne (I.type.andThen (looks_subIn X hso)) (PySem.F.cmpArgs_ne _ _) (run_ne (A := A.in1) (by show A.units + 1 < cLine; exact hu) X I he hf (wpAny_mono h (fun v s' hv => ?_) fun _ _ z => z))))))
    obtain ⟨k, rfl, hq⟩ := hv
    exact ⟨k, rfl, wpAny_pure ⟨_, rfl, hq⟩⟩
  unfold richCompare
  simp only [oneThing_ref]
  refine wpAny_holding (wpAny_bind (wpAny_cRoomFor (Nat.lt_of_succ_lt hu) ?_))
  rw [cmpInfo_NotEq]
  dsimp only
  refine wpAny_bind (I.type.here (wpAny_bind (hb.here ?_)))
  split
  · rename_i q
    have e : subIn K tb (.ref C) = some false := by
      rcases Bool.or_eq_true_iff.mp hn with z | z
      · rw [beq_iff_eq.mp z] at q; simp at q
      · exact beq_iff_eq.mp z
    refine wpAny_bind ((looks_subIn X e).here ?_)
    simp only [Bool.false_eq_true, if_false]
    exact wpAny_bind (wpAny_mono one (fun r s' ⟨v, z, hq⟩ => by subst z; exact wpAny_pure hq) fun _ _ z => z)
  · refine wpAny_bind (wpAny_pure ?_)
    simp only [Bool.false_eq_true, if_false]
    exact wpAny_bind (wpAny_mono one (fun r s' ⟨v, z, hq⟩ => by subst z; exact wpAny_pure hq) fun _ _ z => z)
end
end NeX
section
variable {X : Cx} {n : Nat} {C g : Addr} {fd : FuncData} {ps : List Str} {sp : Sp}
/-- what y, on the other side, is: an instance of the same class, or plain -/
def Other (K : PySem.W.Frag) (H : Hp) (C : Addr) (y : V) : Prop := (∃ b dy gs, y = .ref b ∧ H b = some (.ins C dy gs)) ∨ ∃ z, y = .str z
/-- x != y, by C's own == alone -/
def rNeI (K : PySem.W.Frag) (C : Addr) (sp : Sp) : R2 := fun x y H Q => ∃ a dx fs, x = .ref a ∧ H a = some (.ins C dx fs) ∧ Other K H C y ∧ sp [x, y] H (fun v H' => ∃ k, v = .bl k ∧ Q (.bl (!k)) H') E0
theorem op_neI (hne : PySem.W.findIn X.K (.ref C) "__ne__" = some (some (.builtin "object.__ne__"))) (hso : PySem.W.subIn X.K (.ref C) (.type "object") = some true) (hst : PySem.W.notFirst X.K C (.type "str") = true)
    (he : PySem.W.findIn X.K (.ref C) "__eq__" = some (some (.ref g))) (hf : PySem.W.isFn X.K (.ref g) = true) (F : FnOk X.prog X.w X.K X.mg X.base CX0 n g fd ps sp) (hb : Binds X.K fd ps []) (hr : Room (n + 1) X.A) : OpR X (compareOp .NotEq) (rNeI X.K C sp) := by
  intro pins s σ H x y v u Q I rx ry h
  obtain ⟨a, dx, fs, rfl, ea, ho, q⟩ := h
  cases (show v = Value.ref a from rx)
  obtain ⟨mA, J, _⟩ := ins_get I.hok ea
  obtain ⟨od, J, _⟩ := J.look
  obtain ⟨m, hF⟩ := I.fr
  have hu : X.A.units + 1 < cLine := by have := hr.units; omega
  have call1 : wpAny (model X.prog X.w) X.A.in1 (call (.ref g) [.ref a, u]) (fun v' s' => ∃ k, v' = .bool k ∧ EP X pins σ Q (.bool (!k)) s') X.xe s := by
    refine wpAny_mono (wpAny_call (SlX.run_at (us := [.ref a, u]) (ws := [.ref a, y]) (F.raw hb .nil) hr.in1 I.env0.in1 pass0 I (.cons rfl (.cons ry .nil)) q)) (fun w' s' z => ?_) fun _ _ z => z
    obtain ⟨z', H', I', rz, k, ez, qz⟩ := z
    subst ez
    cases rz
    exact ⟨k, rfl, .bl (!k), H', I', rfl, qz⟩
  rcases ho with ⟨b, dy, gs, rfl, eb⟩ | ⟨z, rfl⟩
  · cases (show u = Value.ref b from ry)
    obtain ⟨mB, J', _⟩ := ins_get I.hok eb
    obtain ⟨od', J', _⟩ := J'.look
    exact NeX.rich_ne hu hF I.ok.mod.kin J J'.type (by simp [PySem.W.notFirst]) hne hso he hf call1
  · obtain ⟨t, et⟩ := (show ∃ t, u = Value.str z t from ry)
    cases et
    exact NeX.rich_ne hu hF I.ok.mod.kin J (PySem.W.Looks.of_pure rfl) hst hne hso he hf call1
end

/-! ### != of two lists whose items are equal, one by one -/
namespace NlX
open PySem.SeqAt MeetsSeq MeetsSeq2 MeetsSeq3 SeqRoads2
open AutoSeq1 (wpAny_loadPart')
section
variable {prog : Program} {w : World} {A : Around} {R : Result → Shared → Prop}
/-- where the machine stands at the item number j of N: both lists as they are now, and the two items are seen to be equal -/
def Turns (prog : Program) (w : World) (A : Around) (E : Value → Shared → Prop) (p q : Addr) (N : Nat) (J : Nat → Shared → Prop) : Prop := GQ.ListI prog w A E p q N J
theorem ne_turns (p q : Addr) (N : Nat) (J : Nat → Shared → Prop) (T : Turns prog w A (fun e s' => R (.error e) s') p q N J) (out : ∀ s, J N s → R (.ok (.ret (.bool false))) s) :
    ∀ (left j : Nat), j + left = N → ∀ s, J j s → wpAny (model prog w) A.in1 (Builtin.«list.__eq__.loop» ⟨[.ref p, .ref q, rawInt j, rawInt 3], []⟩) (GQ.FinOf prog w A R) (fun e s' => R (.error e) s') s
  | 0, j, hj, s, h => by
    obtain ⟨xs, ys, m1, m2, e1, e2, z1, z2, _⟩ := T _ _ h
    have hjN : j = N := by omega
    subst hjN
    have fin := out s h
    obtain ⟨hp, g, d, tk, os⟩ := s
    wp_walk using wpAny_loadPart' e1, wpAny_loadPart' e2
    have a1 : xs[((j : Nat) : Int).toNat]? = none := by simp; omega
    have a2 : ys[((j : Nat) : Int).toNat]? = none := by simp; omega
    rw [a1, a2]
    wp_walk using wpAny_loadPart' e1, wpAny_loadPart' e2
    show R (.ok (.ret (.bool (xs.size != ys.size)))) _
    rw [z1, z2]
    simpa using fin
  | left + 1, j, hj, s, h => by
    obtain ⟨xs, ys, m1, m2, e1, e2, z1, z2, turn⟩ := T _ _ h
    have b1 : j < xs.size := by omega
    have b2 : j < ys.size := by omega
    have step := turn b1 b2
    obtain ⟨hp, g, d, tk, os⟩ := s
    wp_walk using wpAny_loadPart' e1, wpAny_loadPart' e2
    have a1 : xs[((j : Nat) : Int).toNat]? = some xs[j] := by simp [b1]
    have a2 : ys[((j : Nat) : Int).toNat]? = some ys[j] := by simp [b2]
    have up : ((j : Int) + 1) = ((j + 1 : Nat) : Int) := by omega
    rw [a1, a2]
    refine wpAny_bind (wpAny_mono step (fun r s2 z => ?_) fun _ _ z => z)
    obtain ⟨er, z⟩ := z
    subst er
    have more := ne_turns p q N J T out left (j + 1) (by omega) s2 z
    obtain ⟨hp2, g2, d2, tk2, os2⟩ := s2
    wp_walk
    rw [up]
    exact ⟨plainId_quiet plain_eq_loop _, codeAny_builtin entry_eq_loop (by
      rw [Around.under_plainId plain_eq_loop _]
      exact more)⟩
theorem ne_lists (p q : Addr) (N : Nat) (J : Nat → Shared → Prop) (T : Turns prog w A (fun e s' => R (.error e) s') p q N J) (out : ∀ s, J N s → R (.ok (.ret (.bool false))) s) {s : Shared} (h : J 0 s) :
    wpAny (model prog w) A.in1 (Builtin.«list.__ne__» ⟨[.ref p, .ref q], []⟩) (GQ.FinOf prog w A R) (fun e s' => R (.error e) s') s := by
  obtain ⟨xs, ys, m1, m2, e1, e2, z1, z2, _⟩ := T _ _ h
  have more := ne_turns (A := A) (R := R) p q N J T out N 0 (by omega) s h
  obtain ⟨hp, g, d, tk, os⟩ := s
  have sub := AutoSeq1.sub_list_list
  have same : ¬ (xs.size != ys.size) = true := by simp [z1, z2]
  wp_walk using wpAny_loadPart' e1, wpAny_loadPart' e2
  exact ⟨plainId_quiet plain_eq_loop _, codeAny_builtin entry_eq_loop (by
    rw [Around.under_plainId plain_eq_loop _]
    exact more)⟩
end
section
variable {prog : Program} {w : World} {A : Around} {E : Value → Shared → Prop} {s : Shared}
theorem rich_neL {p q : Addr} {N : Nat} {Q : Value → Shared → Prop} (hu : A.units < cLine) (J : Nat → Shared → Prop) (T : Turns prog w A E p q N J) (out : ∀ s, J N s → Q (.bool false) s) (h : J 0 s) :
    wpAny (model prog w) A (richCompare .NotEq (.ref p) (.ref q)) Q E s := by
  obtain ⟨xs, ys, m1, m2, e1, e2, _, _, _⟩ := T _ _ h
  refine wpAny_richCompare_same_room (op := .NotEq) ⟨_, e1, rfl⟩ ⟨_, e2, rfl⟩ F.slot_list_ne (GQ.call_here F.slot_list_ne ⟨_, e1, rfl⟩ F.entry_list_ne (F.args_list_ne_2 _ _) ?_) hu
  exact ne_lists (R := wants (fun v s' => v ≠ .notImplemented ∧ Q v s') E) p q N J T (fun s' z => ⟨(fun x => nomatch x), out s' z⟩) h
end
end NlX
section
variable {X : Cx} {n : Nat} {D : Eqv}
/-- xs != ys, lists whose items are equal by D -/
def rNeL (D : Eqv) : R2 := fun x y H Q => DList D x y H ∧ ∀ H', Ext H H' → Q (.bl false) H'
theorem op_neL (hD : Mon D) (h : EqG X n D) (hr : Room (n + 1) X.A) : OpR X (compareOp .NotEq) (rNeL D) := by
  intro pins s σ H x y v u Q I rx ry ⟨d, q⟩
  obtain ⟨a, b, xs, ys, rfl, rfl, ea, eb, p⟩ := d
  cases rx
  cases ry
  refine NlX.rich_neL (N := xs.length) hr.units0 (fun _ s' => LoopI X pins σ H s') (fun i s' z => ?_) (fun s' ⟨H', I', e⟩ => ⟨.bl false, H', I', rfl, q H' e⟩) ⟨H, I, Ext.rfl'⟩
  obtain ⟨H1, I1, e1⟩ := id z
  obtain ⟨_, its, k, r, o1⟩ := I1.hok a _ (e1 _ _ ea)
  obtain ⟨_, its2, k2, r2, o2⟩ := I1.hok b _ (e1 _ _ eb)
  exact ⟨its.toArray, its2.toArray, k, k2, o1, o2, by rw [List.size_toArray, ← r.length], by rw [List.size_toArray, ← r2.length, ← p.1], fun h1 h2 => turnG hD h ⟨hr, rfl⟩ p r r2 i h1 h2 s' z⟩
end
/-! ### defs that are run where no repr is under way: what repr of a list or tuple wants -/
/-- as FnOk, for a def that lets nothing out, called where no repr is under way -/
structure FnG (P : Program) (w : World) (K : PySem.W.Frag) (mg : Str → Option Value) (base : Heap) (k : Nat) (f : Addr) (fd : FuncData) (ps : List Str) (sp : Sp) : Prop where
  many : ∀ vs H Q, sp vs H Q E0 → vs.length = ps.length
  goes : ∀ (A : Around) (outer : List Env) (s : Shared) (H : Hp) (us : List Value) (vs : List V) (Q : VK), A.guards = some [] → Room k A → Env0 P w K mg base A outer s H → BindsTo s fd ⟨us, []⟩ (ps.zip us) → Vals vs us → sp vs H Q E0 →
    codeAny (model P w) A (.call (.ref f) ⟨us, []⟩) (CR CX0 outer P w H s Q E0) s
section
variable {P : Program} {w : World} {K : PySem.W.Frag} {mg : Str → Option Value} {base : Heap}
theorem Fun.okG {x qual : Str} {st : Stmt} {f : Addr} {fd : FuncData} {N ps : List Str} {k : Nat} {sp : Sp} (F : Fun K x qual st f fd) (S : FnScope N ps (defScope st)) (many : ∀ vs H Q, sp vs H Q E0 → vs.length = ps.length)
    (body : ∀ (cdv : Value) (A : Around) (outer : List Env) (s : Shared) (H : Hp) (vs : List V) (Q : VK), A.guards = some [] → Room k (A.deeper (envOfC qual (defScope st) s.heap.objs.size f cdv)) → sp vs H Q E0 →
      ∃ t, PSs (cxOf CX0 P w K mg base N qual (defScope st) f cdv A outer s H E0).nox (defBody st) t ∧ t { nx := fun _ H' => Q .non H', rt := Q } (start N vs) H) : FnG P w K mg base (k + 1) f fd ps sp := by
  obtain ⟨oc, od, kV, doc, pm, an, cdv, ct, osl, rfl, at_, cd⟩ := F.ex
  refine ⟨many, fun A outer s H us vs Q hg hr e0 hb r hs => ?_⟩
  have KX : K.In s.heap := e0.mod.kin.keeps fun b o e => (e0.bs b o e).1
  have lim : s.heap.NoLimit := e0.mod.nolimit.keeps fun b o e => (e0.bs b o e).1
  refine codeAny_call_function hr.depth (KX _ _ at_) rfl S.co S.gen rfl (PySem.W.codeRec_of KX cd) (hb _ _ _ _ ?_)
  refine wpAny_newFunctionEnv_cells S.kind (fun ⟨n, v⟩ hy => ?_) fun env he s1 x => ?_
  · rcases S.par n (List.of_mem_zip hy).1 with q | q
    · exact .inl q
    · exact .inr ⟨q, PySem.W.cellsFrom_some _ _ _ (.inl q)⟩
  · subst he
    obtain ⟨t, ht, hq⟩ := body cdv A outer s H vs Q hg (hr.deeper _) hs
    refine ⟨lim.keeps x.toInCall.keep, codeAny_func (wpAny_mono (ht.nox.run [] s1 (start N vs) H _ (inv_start S hr.hd e0 (many _ _ _ hs) r x) hq) (fun fl s' z => ?_) fun e s' z => z)⟩
    have out : ∀ {σ' : L2.St} {H' : Hp} {v : V} {u : Value}, Inv (cxOf CX0 P w K mg base N qual (defScope st) f cdv A outer s H E0) [] σ' H' s' → RelV v u → Q v H' → CE outer P w H s Q u s' := fun {σ' H' v u} J rv q => ⟨v, H', J.os, J.bare, J.base, J.hok, rv, q⟩
    cases fl with
    | ret u => exact let ⟨v, σ', H', J, rv, q⟩ := z; out J rv q
    | next => exact let ⟨σ', H', J, q⟩ := z; out (v := V.non) (u := Value.none) J rfl q
    | brk => exact let ⟨_, _, _, q⟩ := z; False.elim q
    | cont => exact let ⟨_, _, _, q⟩ := z; False.elim q
end
section
variable {X : Cx} {k : Nat} {f : Addr} {fd : FuncData} {ps : List Str} {sp : Sp} {x : Str} {e : Expr} {es : List Expr} {p pos : Pos} {t : TA}
theorem pe_callG (F : FnG X.prog X.w X.K X.mg X.base k f fd ps sp) (gu : X.A.guards = some []) (hr : Room k X.A) (hg : Gl X x) (hm : X.mg x = some (.ref f)) (hk : PySem.W.keepIn X.K (.ref f) = true) (hb : Binds X.K fd ps []) (ha : PA X (e :: es) t)
    (hdb : (x == ("__debug__" : Str)) = false := by decide) (he : starEach (e :: es) X.env = (false, eval e X.env) :: starEach es X.env := by rfl) (hpl : (backTo pos (starEach es X.env)).any (·.1) = false := by rfl) :
    PE X (.Call (.Name x p) (e :: es) [] pos) (tCall sp [] E0 t) := ⟨fun pins s σ H Q I h => by
  refine wpAny_Call_Name_kw (ld_glob I hg hm (PySem.W.callWith_K (h₀ := X.base) I.ok.mod.kin hk (thn (ha.run pos pins s σ H _ I h) fun us s1 z => ?_) he hpl) hdb)
  obtain ⟨vs, H1, I1, r, q⟩ := z
  have q' : sp vs H1 Q E0 := by
    have z : sp (vs ++ []) H1 Q E0 := q
    rwa [List.append_nil] at z
  have hl : (us ++ []).length = ps.length := by rw [List.append_nil, ← r.length]; exact F.many _ _ _ q'
  have bt := hb s1 us I1.kIn hl
  rw [List.append_nil] at bt
  refine ⟨I1.kIn, wpAny_call (codeAny_mono (F.goes X.A X.stack s1 H1 us vs Q gu hr I1.env0 bt r q') fun r s' z => ?_)⟩
  cases r with
  | error e => exact z.elim
  | ok fl =>
    cases fl with
    | ret u => exact I1.after z
    | next => exact False.elim z
    | brk => exact False.elim z
    | cont => exact False.elim z⟩
/-- repr of data -/
def rReprD (K : PySem.W.Frag) : List V → Hp → VK → Prop := fun xs H Q => ∃ (x : V) (d : PyData), xs = [x] ∧ Dp K H x d ∧ d.showable = true ∧ d.hasDict = false ∧ d.depth ≤ 60 ∧ d.shown.length ≤ sizeLine ∧ Q (.str d.shown) H
theorem call_reprD (gu : X.A.guards = some []) (un : X.A.units + 100 < cLine) : CallR X (.builtin "repr") (rReprD X.K) := by
  intro pins s σ H xs us Q I r h
  obtain ⟨x, d, rfl, hd, hs, hn, hdp, hz, q⟩ := h
  obtain ⟨u, rfl, ru⟩ := r.one

  obtain ⟨as, R⟩ := Dp.reads I d x u hd ru
  have put : ∀ {t : Tok} {z : Str}, z = d.shown → EP X pins σ Q (.str z t) { s with toks := s.toks + 1 } := fun {t z} e => by
    subst e
    exact ⟨.str d.shown, H, I.tok _, ⟨t, rfl⟩, q⟩
  cases hd with
  | non => cases (show u = Value.none from ru); exact PySem.P.repr_of_none (put rfl)
  | bl b => cases (show u = Value.bool b from ru); exact PySem.P.repr_of_bool (put rfl)
  | int i =>
    obtain ⟨t, e⟩ := (show ∃ t, u = Value.int i t from ru)
    cases e
    exact PySem.P.repr_of_int (by simpa [PyData.showable] using hs) (put rfl)
  | str z =>
    obtain ⟨t, e⟩ := (show ∃ t, u = Value.str z t from ru)
    cases e
    exact PySem.P.repr_of_str (put rfl) (by simpa [PyData.shown] using hz)
  | @lst a vs ds hS hD =>
    cases (show u = Value.ref a from ru)
    exact repr_of_reads' R hs (PyData.noDict_hsm hn) gu (by omega) (fun _ _ e => e) (fun h' t tk k => ⟨.str _, H, I.kept (t' := tk) k, ⟨t, rfl⟩, q⟩) hz
  | @tup a vs ds hS hD =>
    cases (show u = Value.ref a from ru)
    exact repr_of_reads' R hs (PyData.noDict_hsm hn) gu (by omega) (fun _ _ e => e) (fun h' t tk k => ⟨.str _, H, I.kept (t' := tk) k, ⟨t, rfl⟩, q⟩) hz
end
/-! ### the end, by a law's def that is run where no repr is under way -/
namespace EndG
section
variable {P : Program} {w : World} {K : PySem.W.Frag} {mg mb : Str → Option Value} {k : Nat} {fa a : Addr} {fd : FuncData} {x : Str} {sp : Sp} {s : Shared} {vs : List Value} {ns : List Int}
/-- what is asked of the run at last -/
def Told (s : Shared) (r : Result) (s' : Shared) : Prop := r = .ok (.ret (.bool true)) ∧ OldK s.heap s'.heap ∧ s'.os = s.os ∧ AllBare s'.gens
/-- from a heap of which at most the script is tracked -/
theorem told_at (KX : K.In s.heap) (n1 : s.heap.Ns mainGlobals mg) (n2 : s.heap.Ns builtinsNs mb) (bb : ∀ x : Str, x ≠ "__name__" → mb x = bootBuiltins x) (lim : s.heap.NoLimit) (gs : s.gens = #[])
    (oa : s.heap.get? a = some { cls := .type "list", data := .seq vs.toArray }) (hr : Room k callerA) (F : ∀ base : Heap, K.In base → base.Ns mainGlobals mg → FnG P w K mg base k fa fd [x] sp)
    (bind : ∀ (s : Shared) (u : Value), BindsTo s fd ⟨[u], []⟩ [(x, u)]) (H : Hp) (only : Only H) (ok : HOk P w H s.heap) (at_a : ∀ b, H b ≠ none → b = a) (notK : H a ≠ none → K.lookup a = none)
    (h : sp [.ref a] H (fun v _ => v = .bl true) E0) : codeAny (model P w) callerA (.call (.ref fa) ⟨[.ref a], []⟩) (Told s) s := by
  have none_or : ∀ b, H b = none ∨ b = a := fun b => by
    cases q : H b with
    | none => exact .inl rfl
    | some u => exact .inr (at_a b (by rw [q]; exact fun z => nomatch z))
  have free : ∀ {b : Addr} {o : Obj} {es : Array DictEntry} {ep : Nat}, s.heap.get? b = some o → o.data = .dict es ep → H b = none := fun {b o es ep} e d => by
    rcases none_or b with z | z
    · exact z
    · rw [z, oa] at e
      cases e
      exact absurd (show Data.seq vs.toArray _ = Data.dict es ep from d) (fun y => nomatch y)
  have ns0 : ∀ {b : Addr} {m : Str → Option Value}, s.heap.Ns b m → (hidT s.heap H).Ns b m := fun {b m} z => by
    obtain ⟨o, es, ep, e, d, r⟩ := z
    exact ⟨o, es, ep, hidT_get e (free e d), d, r⟩
  have kb : K.In (hidT s.heap H) := fun b o e => hidT_get (KX b o e) (by
    rcases none_or b with z | z
    · exact z
    · cases q : H b with
      | none => rfl
      | some u =>
        rw [z] at q e
        rw [notK (by rw [q]; exact fun y => nomatch y)] at e
        cases e)
  have md : Mod K mg (hidT s.heap H) := ⟨kb, ns0 n1, ⟨mb, ns0 n2, bb⟩, by
    obtain ⟨mc, c1, c2⟩ := lim
    exact ⟨mc, ns0 c1, c2⟩⟩
  have noF : ∀ b : Addr, b ∉ ([] : List Addr) := fun b => by simp
  have e0 : Env0 P w K mg (hidT s.heap H) callerA [] s H := ⟨rfl, md, fun b o z => of_hidT z, Nat.le_of_eq (hidT_size _ _), trivial, fun b z => absurd (show b ∈ ([] : List Addr) from z) (noF b), ok, .of_eq gs⟩
  refine codeAny_mono ((F _ kb (ns0 n1)).goes callerA [] s H [.ref a] [.ref a] _ rfl hr e0 (bind s (.ref a)) (.cons rfl .nil) h) fun r s' z => ?_
  cases r with
  | error e => exact z.elim
  | ok fl =>
    cases fl with
    | next => exact False.elim z
    | brk => exact False.elim z
    | cont => exact False.elim z
    | ret u =>
      obtain ⟨v, H', os, bare, un, ok', rv, ev⟩ := z
      cases (show v = .bl true from ev)
      cases (show u = Value.bool true from rv)
      refine ⟨rfl, OldK.of_keep fun b o e => ?_, os, bare⟩
      cases q : H b with
      | none => exact un.keep b o e q (fun y => absurd (show b ∈ ([] : List Addr) from y) (noF b)) (noF b)
      | some u =>
        rcases only b with y | ⟨ob, xs, y⟩
        · rw [q] at y
          cases y
        · obtain ⟨g1, _⟩ := ok b _ y
          obtain ⟨g2, _⟩ := ok' b _ (un.frzs b ob _ y)
          rw [e] at g1
          cases g1
          exact g2
theorem law_told (KX : K.In s.heap) (n1 : s.heap.Ns mainGlobals mg) (n2 : s.heap.Ns builtinsNs mb) (bb : ∀ x : Str, x ≠ "__name__" → mb x = bootBuiltins x) (lim : s.heap.NoLimit) (gs : s.gens = #[])
    (oa : s.heap.get? a = some { cls := .type "list", data := .seq vs.toArray }) (isI : IntsAre vs ns) (few : ns.length ≤ sizeLine) (hr : Room k callerA) (F : ∀ base : Heap, K.In base → base.Ns mainGlobals mg → FnG P w K mg base k fa fd [x] sp)
    (bind : ∀ (s : Shared) (u : Value), BindsTo s fd ⟨[u], []⟩ [(x, u)]) (h : ∀ H : Hp, Only H → SqL K H a (ns.map V.int) → sp [.ref a] H (fun v _ => v = .bl true) E0) : codeAny (model P w) callerA (.call (.ref fa) ⟨[.ref a], []⟩) (Told s) s := by
  have rv := vals_ints isI
  have len := isI.length
  cases inK : K.lookup a with
  | some o =>
    have e := KX a o inK
    rw [oa] at e
    cases e
    have only : Only (fun _ => none) := fun _ => .inl rfl
    refine told_at KX n1 n2 bb lim gs oa hr F bind (fun _ => none) only (fun b u z => nomatch (show (none : Option HO) = some u from z)) (fun b z => absurd rfl z) (fun z => absurd rfl z) (h _ only ?_)
    exact .inr ⟨_, vs.toArray, _, inK, rfl, rfl, rfl, by rw [List.size_toArray, len]; exact few, by simpa using rv⟩
  | none =>
    let scr : Obj := { cls := .type "list", data := .seq vs.toArray }
    let H : Hp := fun b => if b = a then some (.frz scr (.lst (ns.map V.int))) else none
    have Ha : H a = some (.frz scr (.lst (ns.map V.int))) := if_pos rfl
    have Hb : ∀ b, b ≠ a → H b = none := fun b z => if_neg z
    have only : Only H := fun b => by
      by_cases z : b = a
      · exact .inr ⟨scr, _, by rw [z]; exact Ha⟩
      · exact .inl (Hb b z)
    refine told_at KX n1 n2 bb lim gs oa hr F bind H only (fun b u z => ?_) (fun b z => ?_) (fun _ => inK) (h H only (.inl (.inr ⟨scr, Ha⟩)))
    · by_cases y : b = a
      · subst y
        rw [Ha] at z
        cases z
        exact ⟨oa, by rw [List.length_map]; exact few, vs, _, rv, oa⟩
      · rw [Hb b y] at z
        cases z
    · by_cases y : b = a
      · exact y
      · exact absurd (Hb b y) z
end
theorem walk_told {l : PySem.W.OpenLaw} {n k : Nat} {q : Program} {loose : List Str} {XP : (Str → Option Value) → Heap → Prop} {YP : World → Heap → Prop} {d : DefRec} {K : Params → PySem.W.Frag} {sp : World → Sp} {x : Str} (most : l.most = some n) (few : n ≤ sizeLine) (nod : d.params.defaults = []) (hr : Room k callerA)
    (KI : ∀ (w : World) (h : Heap), YP w h → (K w.params).In h)
    (F : ∀ (w : World) (mg : Str → Option Value) (fa : Addr) (h : Heap), (K w.params).In h → h.Ns mainGlobals mg → mg d.name = some (.ref fa) → ∃ fd : FuncData, (∀ (s : Shared) (u : Value), BindsTo s fd ⟨[u], []⟩ [(x, u)]) ∧ ∀ base : Heap, (K w.params).In base → base.Ns mainGlobals mg → FnG l.prog w (K w.params) mg base k fa fd [x] (sp w))
    (holds : ∀ (w : World) (H : Hp) (a : Addr) (ns : List Int), ns.length ≤ n → SqL (K w.params) H a (ns.map V.int) → sp w [.ref a] H (fun v _ => v = .bl true) E0) : PySem.W.WalkO q loose XP YP l.row.toRowW d [] (fun f vs => PySem.call f vs) := Att.attach_call most nod fun w s₀ s₁ mg mb fa o pm cd doc a vs ns G Y ho hd hcd hmg hobj hints hlen hg => by
  obtain ⟨fd, bind, F1⟩ := F w mg fa _ (KI w _ Y) G.T.g hmg
  exact law_told (KI w _ Y) G.T.g G.T.b G.T.builtins G.T.nolimit hg hobj hints (Nat.le_trans hlen few) hr F1 bind fun H _ hS => holds w H a ns hlen hS
end EndG
/-! ### a tuple from behind: t[::-1] -/
namespace RvT
section
variable {prog : Program} {w : World} {A : Around} {E : Value → Shared → Prop} {s : Shared}
theorem from_end (n : Nat) : Builtin.Slice.sliceAdjust none none (-1) (n : Int) = ((n : Int) - 1, -1) := by
  unfold Builtin.Slice.sliceAdjust
  simp
theorem as_many (n : Nat) : Builtin.Slice.slicePlaces ((n : Int) - 1) (-1) (-1) = n := by
  unfold Builtin.Slice.slicePlaces
  simp
  omega
theorem applied_back {sl : Addr} {vk : Value} {n : Nat} {Q : Int × Int × Nat → Shared → Prop} (hs : s.heap.IsSliceOf sl .none .none vk) (pk : IsPart vk (some (-1))) (h : Q ((n : Int) - 1, -1, n) s) :
    wpAny (model prog w) A (Builtin.Slice.sliceApplied (.ref sl) (pure (n : Int))) Q E s := by
  obtain ⟨os, o1, _, o2⟩ := id hs
  unfold Builtin.Slice.sliceApplied Builtin.Slice.sliceFields
  refine wpAny_bind (wpAny_bind (wpAny_field o1 o2 (x := .none) rfl (wpAny_bind (wpAny_field o1 o2 (x := .none) rfl (wpAny_bind (wpAny_field o1 o2 (x := vk) rfl (wpAny_pure ?_)))))))
  refine wpAny_bind (HT.slicePart_ pk ?_)
  show wpAny _ _ (if ((-1 : Int) == 0) = true then _ else _) _ _ s
  rw [if_neg (by decide)]
  refine wpAny_bind (slicePart_none (wpAny_bind (slicePart_none (wpAny_bind (wpAny_pure ?_)))))
  show wpAny _ _ (match Builtin.Slice.sliceAdjust none none (-1) (n : Int) with | (a, b) => pure (a, (-1 : Int), Builtin.Slice.slicePlaces a b (-1))) _ _ s
  rw [from_end n]
  show wpAny _ _ (pure ((n : Int) - 1, (-1 : Int), Builtin.Slice.slicePlaces ((n : Int) - 1) (-1) (-1))) _ _ s
  rw [as_many]
  exact wpAny_pure h
theorem picked (xs : Array Value) : ((List.range xs.size).filterMap fun (m : Nat) => xs[(((xs.size : Int) - 1) + (m : Int) * (-1)).toNat]?).toArray = xs.toList.reverse.toArray := by
  have e : (List.range xs.size).filterMap (fun (m : Nat) => xs[(((xs.size : Int) - 1) + (m : Int) * (-1)).toNat]?) = ((List.range xs.size).map fun m => xs.size - 1 - m).filterMap (xs[·]?) := by
    rw [List.filterMap_map]
    have all : ∀ l : List Nat, (∀ m ∈ l, m < xs.size) → l.filterMap (fun (m : Nat) => xs[(((xs.size : Int) - 1) + (m : Int) * (-1)).toNat]?) = l.filterMap ((xs[·]?) ∘ fun m => xs.size - 1 - m) := by
      intro l
      induction l with
      | nil => exact fun _ => rfl
      | cons m l ih =>
        intro hl
        have lt := hl m List.mem_cons_self
        have z : (((xs.size : Int) - 1) + (m : Int) * (-1)).toNat = xs.size - 1 - m := by omega
        rw [List.filterMap_cons, List.filterMap_cons, z, ih fun m' h' => hl m' (List.mem_cons_of_mem _ h')]
        rfl
    exact all _ fun m hm => List.mem_range.mp hm
  rw [e, PySem.W.krv_range, List.filterMap_reverse, PySem.W.krv_all]
theorem item_back {t sl : Addr} {items : Array Value} {vk : Value} {Q : Value → Shared → Prop} (ht : IsTup s.heap t items) (hs : s.heap.IsSliceOf sl .none .none vk) (pk : IsPart vk (some (-1))) (hz : items.size ≤ sizeLine)
    (h : Q (.ref s.heap.objs.size) { s with heap := s.heap.push { cls := .type "tuple", data := .seq items.toList.reverse.toArray } }) : wpAny (model prog w) A (getItem (.ref t) (.ref sl)) Q E s := by
  have room : sizeOk (.seq items.toList.reverse.toArray) := by
    show items.toList.reverse.toArray.size ≤ sizeLine
    rw [List.size_toArray, List.length_reverse, Array.length_toList]
    exact hz
  obtain ⟨os, o1, o2, _⟩ := id hs
  have isSl : s.TypeIs (.ref sl) "slice" := ⟨os, o1, o2⟩
  unfold getItem
  try with_reducible refine wpAny_holding ?_
  first | refine wpAny_bind (wpAny_pure ?_) | skip
  refine wpAny_bind (wpAny_sequenceKey ht.typeIs (by decide) ?_)
  refine wpAny_bind (wpAny_callSpecial?_slot (name := Str.ofString "__getitem__") ht.typeIs slot_tuple_getitem (wpAny_call_entry slot_tuple_getitem ht.typeIs entry_tuple_getitem ?_ (args_tuple_getitem _ _)))
  show wpAny _ _ (Builtin.Tuple.tupleItemsOf (.ref t) >>= _) _ _ s
  refine wpAny_bind (tupleItemsOf_ ht (wpAny_bind (wpAny_typeOf isSl ?_)))
  rw [if_pos (by decide)]
  refine wpAny_bind (applied_back hs pk ?_)
  show wpAny _ _ (if (((items.size : Int) - 1) == 0 && (-1 : Int) == 1 && items.size == items.size) = true then _ else _) _ _ s
  rw [if_neg (by simp), picked]
  first
    | exact wpAny_bind (m := Builtin.Tuple.tupleExact _) (wpAny_newObj_type (wpAny_pure ⟨_, rfl, wpAny_pure h⟩) room)
    | exact wpAny_bind (m := Builtin.Tuple.tupleExact _) (wpAny_newObj_type (wpAny_bind (wpAny_pure (wpAny_pure ⟨_, rfl, wpAny_pure h⟩))) room)
    | exact wpAny_bind (wpAny_bind (m := Builtin.Tuple.tupleExact _) (wpAny_newObj_type (wpAny_pure (wpAny_pure ⟨_, rfl, wpAny_pure h⟩)) room))
    | exact wpAny_bind (wpAny_bind (m := Builtin.Tuple.tupleExact _) (wpAny_newObj_type (wpAny_pure ⟨_, rfl, wpAny_pure h⟩) room))
end
end RvT
section
variable {X : Cx}
def tRevT (K : PySem.W.Frag) (te : TE) : TE := fun σ H Q => te σ H fun x H1 => ∃ a xs, x = .ref a ∧ SqT K H1 a xs ∧ ∀ p, H1 p = none → Q (.ref p) (upd H1 p (.tup xs.reverse))
theorem pe_revT {e : Expr} {te : TE} {k : Nat} {p1 p2 p3 pos : Pos} (he : PE X e te) : PE X (.Subscript e (.Slice none none (some (.UnaryOp .USub (.Constant (.int 1) k p1) p2)) p3) pos) (tRevT X.K te) := ⟨fun pins s σ H Q I h => by
  refine Subscript_ (thn (he.run pins s σ H _ I h) fun v s1 ⟨x, H1, I1, r1, q1⟩ => ?_)
  obtain ⟨a, xs, ex, hx, q⟩ := q1
  subst ex
  cases r1
  have none_at : ∀ (sA : Shared) (HA : Hp), Inv X pins σ HA sA → tNoPart σ HA (fun o HB => o = none ∧ HB = HA) := fun _ _ _ => ⟨rfl, rfl⟩
  have back : PO X (some (.UnaryOp .USub (.Constant (.int 1) k p1) p2)) (tPart (tUn (rU fun i => .int (-i)) (tC (.int 1)))) := po_some (pe_un un_neg pe_int)
  refine wpAny_Slice (thn (po_none.run pins s1 σ H1 _ I1 (none_at _ _ I1)) fun vl s2 ⟨l, H2, I2, pl, e1⟩ => ?_)
  obtain ⟨el, e2⟩ := e1
  subst el e2
  refine thn (po_none.run pins s2 σ H2 _ I2 (none_at _ _ I2)) fun vu s3 ⟨u, H3, I3, pu, e3⟩ => ?_
  obtain ⟨eu, e4⟩ := e3
  subst eu e4
  refine thn (back.run pins s3 σ H3 (fun o H4 => o = some (-1) ∧ H4 = H3) I3 ⟨1, rfl, -1, rfl, rfl, rfl⟩) fun vk s4 ⟨o, H4, I4, pk, e5⟩ => ?_
  obtain ⟨eo, e6⟩ := e5
  subst eo e6
  cases pl
  cases pu
  have I5 : Inv X pins σ H4 { s4 with heap := s4.heap.push { cls := .type "slice", data := .fields #[Value.none, .none, vk] } } := I4.kept (t' := s4.toks) fun b ob z => Heap.get?_push_of_some _ z
  obtain ⟨its, r, ht, hz⟩ := I5.tuple hx
  have len : its.toArray.size = xs.length := by rw [List.size_toArray]; exact r.length.symm
  show wpAny (model X.prog X.w) X.A (subscriptTail e (.Slice none none (some (.UnaryOp .USub (.Constant (.int 1) k p1) p2)) p3) (.ref a) (.ref s4.heap.objs.size)) (EP X pins σ Q) X.xe { s4 with heap := s4.heap.push { cls := .type "slice", data := .fields #[Value.none, .none, vk] } }
  refine tail_any (ops := [.ref a, .ref s4.heap.objs.size]) ht.typeIs slot_tuple_getitem.lookup ?_ (by with_unfolding_all rfl)
  refine RvT.item_back ht (Heap.IsSliceOf.new _ .none .none vk) pk (by rw [len]; exact hz) ?_
  refine ⟨.ref _, _, I5.laid (t' := s4.toks) (o := .tup xs.reverse) (fun b ob z => Heap.get?_push_of_some _ z) (Nat.le_refl _) ?_, rfl, q _ (I5.hok.fresh (Nat.le_refl _))⟩
  exact ⟨by rw [List.length_reverse]; exact hz, _, r.reverse, IsTup.new _ _⟩⟩
end
abbrev sPool : Stmt := topS 8
abbrev sDraw : Stmt := topS 9
abbrev sPick : Stmt := topS 10
theorem scPool : FnScope ["_law_script", "_law_k", "_law_cell", "_law_size", "_law_mixed"] ["_law_script", "_law_k"] (defScope sPool) := ⟨rfl, rfl, rfl, by decide +kernel, rfl, by decide +kernel, by decide +kernel⟩
theorem scDraw : FnScope ["_law_pool_here", "_law_many", "_law_found"] ["_law_pool_here", "_law_many"] (defScope sDraw) := ⟨rfl, rfl, rfl, by decide +kernel, rfl, by decide +kernel, by decide +kernel⟩
theorem scPick : FnScope ["_law_pool_here", "_law_row"] ["_law_pool_here", "_law_row"] (defScope sPick) := ⟨rfl, rfl, rfl, by decide +kernel, rfl, by decide +kernel, by decide +kernel⟩
/-- a pool of draws stands at p -/
def PoolAt (H : Hp) (p : Addr) : Prop := ∃ x y : Int, H p = some (.lst [.int x, .int y]) ∧ 0 ≤ x ∧ 0 ≤ y ∧ y < 2147483648
/-- all that was known but for p is as it was -/
def But (p : Addr) (H H' : Hp) : Prop := ∀ b o, H b = some o → b ≠ p → H' b = some o
theorem But.refl (p : Addr) (H : Hp) : But p H H := fun _ _ h _ => h
theorem But.trans {p : Addr} {H H1 H2 : Hp} (a : But p H H1) (b : But p H1 H2) : But p H H2 := fun c o h n => b c o (a c o h n) n
theorem But.of {p : Addr} {H H' : Hp} (s : Same H H') : But p H H' := fun b o h _ => s b o h
theorem same_upd {H : Hp} {p : Addr} {o : HO} (h : H p = none) : Same H (upd H p o) := fun b x e => by
  rw [upd_ne (ne_of_none e h)]
  exact e
theorem But.upd {p : Addr} {H : Hp} {o : HO} : But p H (L2.upd H p o) := fun b x e n => by
  rw [upd_ne n]
  exact e
/-- what an expression gives, by what is true of it -/
theorem q_asgP {te : TE} {tz : TS} {D : Ends} {σ : L2.St} {H : Hp} {i : Nat} (Pr : V → Hp → Prop) (h : ∀ Q : VK, (∀ v H', Pr v H' → Q v H') → te σ H Q) (k : ∀ v H1, Pr v H1 → tz D (σ.set i (some v)) H1) : tSeq (tAsg te (gName i)) tz D σ H := h _ k
theorem But.rd {p : Addr} {H H' : Hp} (b : But p H H') {a : Addr} {u : HO} (n : a ≠ p) (h : Rd H a u) : Rd H' a u := by
  rcases h with h | ⟨o, h⟩
  · exact .inl (b _ _ h n)
  · exact .inr ⟨o, b _ _ h n⟩
theorem But.seq {p : Addr} {H H' : Hp} (b : But p H H') {K : PySem.W.Frag} {a : Addr} {xs : List V} (n : a ≠ p) (h : SqL K H a xs) : SqL K H' a xs := h.imp (b.rd n) id
theorem But.seqT {p : Addr} {H H' : Hp} (b : But p H H') {K : PySem.W.Frag} {a : Addr} {xs : List V} (n : a ≠ p) (h : SqT K H a xs) : SqT K H' a xs := h.imp (b.rd n) id
theorem at_nn {xs : List V} {v : Int} {x : V} (h0 : 0 ≤ v) (h : xs[v.toNat]? = some x) : atI xs v = some x := by
  obtain ⟨n, rfl⟩ := Int.eq_ofNat_of_zero_le h0
  exact atI_nat h
theorem b01 (b : Bool) : 0 ≤ (if b = true then (1 : Int) else 0) ∧ (if b = true then (1 : Int) else 0) ≤ 1 := by cases b <;> decide
structure Blt (mg : Str → Option Value) : Prop where
  abs : mg "abs" = none
  int : mg "int" = none
  len : mg "len" = none
  sum : mg "sum" = none
  max : mg "max" = none
  min : mg "min" = none
  range : mg "range" = none
  isinstance : mg "isinstance" = none
  bool : mg "bool" = none
  str : mg "str" = none
  tuple : mg "tuple" = none
  list : mg "list" = none
  dict : mg "dict" = none
  all : mg "all" = none
  sorted : mg "sorted" = none
  repr : mg "repr" = none
  zip : mg "zip" = none
section
variable {P : Program} {w : World} {K : PySem.W.Frag} {mg : Str → Option Value} {base : Heap}
def spPool (K : PySem.W.Frag) : Sp := fun vs H Q _ => ∃ (a : Addr) (ns : List Int) (k : Nat), vs = [.ref a, .int k] ∧ SqL K H a (ns.map V.int) ∧ k ≤ 1 ∧ (k < ns.length ∨ ns = []) ∧
  ∀ H' p, H p = none → Same H H' → PoolAt H' p → Q (.ref p) H'
theorem ok_pool {f : Addr} {fd : FuncData} (F : Fun K "_law_pool" "_law_pool" sPool f fd) (M : Blt mg) : FnOk P w K mg base CX0 1 f fd ["_law_script", "_law_k"] (spPool K) := by
  refine F.ok scPool (fun vs H Q E h => ?_) (fun cdv A outer s H vs Q E hr h => ?_)
  · obtain ⟨a, ns, k, rfl, _⟩ := h
    rfl
  · obtain ⟨a, ns, k, rfl, hS, hk, hin, q⟩ := h
    refine ⟨_, pss_cons (ps_set (i := 2) scPool.nd rfl (.inl rfl) (pe_ifExp (pt_cmpR op_lt (pv 1) (pe_callB call_len_seq (by rfl) M.len PySem.boot_len (pa_cons (pv 0) pa_nil)) (nomark _))
        (pe_ix ix_list (pv 0) (pv 1) (fun _ _ => rfl))
        (pe_op op_add (pe_op op_mul pe_int (pe_callB (cr_sum rfl) (by rfl) M.sum (by decide +kernel) (pa_cons (pe_slice sl_list (pv 0) po_none (po_some pe_int)) pa_nil))) (pv 1))))
      (pss_cons (ps_set (i := 3) scPool.nd rfl (.inl rfl) (pe_callB call_abs (by rfl) M.abs (by decide +kernel) (pa_cons (pv 2) pa_nil)))
      (pss_cons (ps_set (i := 4) scPool.nd rfl (.inl rfl)
        (pe_op op_add (pe_op op_add (pe_op op_add (pe_op op_mod (pe_callTy call_int1 (by rfl) M.int (by decide +kernel) (pa_cons (pv 3) pa_nil)) pe_int)
          (pe_op op_mul (pe_op op_mul pe_int (pv 1)) (pv 1))) (pe_op op_mul pe_int (pv 1))) pe_int))
      (pss_cons (ps_set (i := 4) scPool.nd rfl (.inl rfl)
        (pe_op op_mod (pe_callTy call_int1 (by rfl) M.int (by decide +kernel) (pa_cons (pe_op op_mul (pv 4) pe_int) pa_nil)) pe_int))
      (pss_one (ps_ret (pe_lst (pa_cons
          (pe_op op_mul (pv 3) (pe_callTy call_int1 (by rfl) M.int (by decide +kernel) (pa_cons (pe_cmpR op_ge (pv 3) (pe_op op_pow pe_int pe_int) (nomark _)) pa_nil)))
          (pa_cons (pe_op op_mod (pe_callTy call_int1 (by rfl) M.int (by decide +kernel) (pa_cons (pe_op op_mul (pv 4) (pv 4)) pa_nil)) pe_int) pa_nil)))))))), ?_⟩
    refine q_asgP (Pr := fun v H1 => (∃ c : Int, v = .int c) ∧ Same H H1) (fun Q' hq => ?_) (fun v H1 hv => ?_)
    · refine ⟨_, rfl, _, rfl, _, _, rfl, .inl hS, _, _, rfl, rfl, _, rfl, ite2 (fun e => ?_) (fun e => ?_)⟩
      · have e1 := of_decide_eq_true e
        rw [List.length_map] at e1
        have e2 : k < ns.length := by omega
        refine ⟨_, rfl, _, rfl, a, ns.map V.int, k, .int ns[k], rfl, rfl, hS, atI_nat ?_, hq _ _ ⟨⟨_, rfl⟩, Same.refl H⟩⟩
        rw [List.getElem?_map, List.getElem?_eq_getElem e2]
        rfl
      · have e1 : ns = [] := by
          rcases hin with h | h
          · refine absurd (decide_eq_true ?_) e
            rw [List.length_map]
            omega
          · exact h
        subst e1
        refine ⟨_, rfl, 63, rfl, a, _, rfl, hS, fun p np => ?_⟩
        refine ⟨p, [], rfl, .inl (.inl (upd_same.trans ?_)), _, _, rfl, rfl, .inl ⟨by decide, by decide⟩, _, rfl, _, _, rfl, rfl, hq _ _ ⟨⟨_, rfl⟩, same_upd np⟩⟩
        rfl
    · obtain ⟨⟨c, rfl⟩, s1⟩ := hv
      have hz : 0 ≤ (if c < 0 then -c else c) := by split <;> omega
      have fin : ∀ (x y : Int), 0 ≤ x → 0 ≤ y → y < 2147483648 → ∀ p, H1 p = none → Q (.ref p) (upd H1 p (.lst [.int x, .int y])) := fun x y hx hy hy2 p np =>
        q _ p (s1.free np) (s1.trans (same_upd np)) ⟨x, y, upd_same, hx, hy, hy2⟩
      refine ⟨.int c, rfl, _, rfl, ?_⟩
      refine ⟨_, rfl, .inl ⟨_, rfl, _, _, rfl, rfl, (by show (0 : Int) < 2147483629; decide), ?_⟩⟩
      have m1 : 0 ≤ (if c < 0 then -c else c) % 2147483629 := Int.emod_nonneg _ (by decide)
      have m2 : (if c < 0 then -c else c) % 2147483629 < 2147483629 := Int.emod_lt_of_pos _ (by decide)
      have k0 : (7919 * (k : Int) * (k : Int)) ≤ 7919 ∧ 0 ≤ (7919 * (k : Int) * (k : Int)) := by
        rcases (show k = 0 ∨ k = 1 by omega) with e | e <;> subst e <;> decide
      refine ⟨_, rfl, _, _, rfl, rfl, .inl ⟨by decide, by decide⟩, _, rfl, _, _, rfl, rfl, .inr ⟨by omega, by omega⟩, _, _, rfl, rfl, _, rfl, _, _, rfl, rfl, .inl ⟨by decide, by decide⟩, _, _, rfl, rfl, _, _, rfl, rfl, ?_⟩
      refine ⟨_, rfl, _, _, rfl, rfl, .inr ⟨by decide, by decide⟩, .inl ⟨_, rfl, _, _, rfl, rfl, (by show (0 : Int) < 2147483647; decide), ?_⟩⟩
      have n1 : 0 ≤ ((if c < 0 then -c else c) % 2147483629 + 7919 * (k : Int) * (k : Int) + 31 * (k : Int) + 17) * 48271 % 2147483647 := Int.emod_nonneg _ (by decide)
      have n2 : ((if c < 0 then -c else c) % 2147483629 + 7919 * (k : Int) * (k : Int) + 31 * (k : Int) + 17) * 48271 % 2147483647 < 2147483647 := Int.emod_lt_of_pos _ (by decide)
      refine ⟨_, rfl, _, rfl, _, _, rfl, rfl, ⟨by decide, by decide, by decide⟩, _, _, rfl, rfl, ?_⟩
      refine .inr ⟨_, rfl, ?_⟩
      refine ⟨_, _, rfl, rfl, .inr ?_, _, rfl, _, rfl, _, _, rfl, rfl, .inl ⟨by omega, by omega⟩, .inl ⟨_, rfl, _, _, rfl, rfl, (by show (0 : Int) < 2147483629; decide), (by show 2 ≤ sizeLine; decide), fun p np => ?_⟩⟩
      · exact ⟨Int.lt_of_lt_of_le (by decide) (b01 _).1, Int.lt_of_le_of_lt (b01 _).2 (by decide)⟩
      · refine fin _ _ (Int.mul_nonneg hz (b01 _).1) (Int.emod_nonneg _ (by decide)) ?_ p np
        exact Int.lt_trans (Int.emod_lt_of_pos _ (by decide)) (by decide)
def spDraw : Sp := fun vs H Q _ => ∃ (p : Addr) (n : Int), vs = [.ref p, .int n] ∧ PoolAt H p ∧ 0 < n ∧ n ≤ 1000000000 ∧
  ∀ (v : Int) H', 0 ≤ v → v < n → But p H H' → PoolAt H' p → (∀ b, H b = none → H' b = none) → Q (.int v) H'
theorem ok_draw {f : Addr} {fd : FuncData} (F : Fun K "_law_draw" "_law_draw" sDraw f fd) (M : Blt mg) : FnOk P w K mg base CX0 1 f fd ["_law_pool_here", "_law_many"] spDraw := by
  refine F.ok scDraw (fun vs H Q E h => ?_) (fun cdv A outer s H vs Q E hr h => ?_)
  · obtain ⟨p, n, rfl, _⟩ := h
    rfl
  · obtain ⟨p, n, rfl, ⟨x, y, hp, hx, hy, hy2⟩, hn, hn2, q⟩ := h
    refine ⟨_, pss_cons (ps_if (pt_cmpR op_gt (pe_ix ix_list (pv 0) pe_int (fun _ _ => rfl)) pe_int (nomark _))
        (pss_cons (ps_set (i := 2) scDraw.nd rfl (.inl rfl) (pe_op op_mod (pe_callTy call_int1 (by rfl) M.int (by decide +kernel) (pa_cons (pe_ix ix_list (pv 0) pe_int (fun _ _ => rfl)) pa_nil)) (pv 1)))
        (pss_cons (ps_asg (pe_op op_fdiv (pe_ix ix_list (pv 0) pe_int (fun _ _ => rfl)) (pv 1)) (pg_sub (pv 0) pe_int set_list))
        (pss_one (ps_ret (pv 2))))) pss_nil)
      (pss_cons (ps_asg (pe_op op_mod (pe_callTy call_int1 (by rfl) M.int (by decide +kernel) (pa_cons (pe_op op_add (pe_op op_mul (pe_ix ix_list (pv 0) pe_int (fun _ _ => rfl)) pe_int) pe_int) pa_nil)) pe_int) (pg_sub (pv 0) pe_int set_list))
      (pss_one (ps_ret (pe_op op_mod (pe_callTy call_int1 (by rfl) M.int (by decide +kernel) (pa_cons (pe_op op_fdiv (pe_op op_mod (pe_callTy call_int1 (by rfl) M.int (by decide +kernel)
          (pa_cons (pe_op op_mul (pe_ix ix_list (pv 0) pe_int (fun _ _ => rfl)) (pe_ix ix_list (pv 0) pe_int (fun _ _ => rfl))) pa_nil)) pe_int) pe_int) pa_nil)) (pv 1))))), ?_⟩
    have hS : SqL K H p [.int x, .int y] := .inl (.inl hp)
    have fr : ∀ o b, H b = none → upd H p o b = none := fun o b hb => by
      rw [upd_ne (fun e => by rw [e, hp] at hb; cases hb)]
      exact hb
    refine ⟨.ref p, rfl, p, _, 0, .int x, rfl, rfl, hS, rfl, x, 0, rfl, rfl, _, rfl, ite2 (fun e => ?_) (fun e => ?_)⟩
    · refine ⟨.ref p, rfl, p, _, 0, .int x, rfl, rfl, hS, rfl, .inl ⟨x, rfl, _, rfl, x, n, rfl, rfl, hn, ?_⟩⟩
      refine ⟨.ref p, rfl, p, _, 0, .int x, rfl, rfl, hS, rfl, .int n, rfl, x, n, rfl, rfl, ⟨hn, by omega⟩, ?_⟩
      refine ⟨.ref p, rfl, p, _, 0, 0, rfl, rfl, hp, rfl, ?_⟩
      refine ⟨_, rfl, q _ _ (Int.emod_nonneg _ (by omega)) (Int.emod_lt_of_pos _ hn) But.upd ⟨_, y, upd_same, ?_, hy, hy2⟩ (fr _)⟩
      exact Int.ediv_nonneg hx (by omega)
    · refine ⟨.ref p, rfl, p, _, 1, .int y, rfl, rfl, hS, rfl, y, _, rfl, rfl, .inl ⟨by omega, by omega⟩, _, _, rfl, rfl, .inl ⟨_, rfl, _, _, rfl, rfl, (by show (0 : Int) < 2147483647; decide), ?_⟩⟩
      refine ⟨.ref p, rfl, p, _, 1, 1, rfl, rfl, hp, rfl, ?_⟩
      have b1 : 0 ≤ (y * 48271 + 11) % 2147483647 := Int.emod_nonneg _ (by decide)
      have b2 : (y * 48271 + 11) % 2147483647 < 2147483647 := Int.emod_lt_of_pos _ (by decide)
      have hS2 : SqL K (upd H p (.lst ([V.int x, .int y].set 1 (.int ((y * 48271 + 11) % 2147483647))))) p [.int x, .int ((y * 48271 + 11) % 2147483647)] := .inl (.inl upd_same)
      refine ⟨.ref p, rfl, p, _, 1, _, rfl, rfl, hS2, rfl, .ref p, rfl, p, _, 1, _, rfl, rfl, hS2, rfl, _, _, rfl, rfl, .inl ⟨by omega, by omega⟩, .inl ⟨_, rfl, _, _, rfl, rfl, (by show (0 : Int) < 2147483629; decide), _, _, rfl, rfl, ⟨by decide, by decide⟩, .inl ⟨_, rfl, ?_⟩⟩⟩
      refine ⟨.int n, rfl, _, n, rfl, rfl, hn, ?_⟩
      exact q _ _ (Int.emod_nonneg _ (by omega)) (Int.emod_lt_of_pos _ hn) But.upd ⟨x, _, upd_same, hx, b1, by omega⟩ (fr _)
def spPick (K : PySem.W.Frag) : Sp := fun vs H Q _ => ∃ (p r : Addr) (xs : List V), vs = [.ref p, .ref r] ∧ PoolAt H p ∧ p ≠ r ∧ (SqL K H r xs ∨ SqT K H r xs) ∧ 0 < xs.length ∧ xs.length ≤ 1000000 ∧
  ∀ (i : Nat) (hi : i < xs.length) H', But p H H' → PoolAt H' p → (∀ b, H b = none → H' b = none) → Q xs[i] H'
theorem ok_pick {f fD : Addr} {fd fdD : FuncData} (F : Fun K "_law_pick" "_law_pick" sPick f fd) (M : Blt mg) (FD : Fun K "_law_draw" "_law_draw" sDraw fD fdD) (bD : Binds K fdD ["_law_pool_here", "_law_many"] []) (gD : mg "_law_draw" = some (.ref fD)) :
    FnOk P w K mg base CX0 2 f fd ["_law_pool_here", "_law_row"] (spPick K) := by
  have GD : FnOk P w K mg base CX0 1 fD fdD ["_law_pool_here", "_law_many"] spDraw := ok_draw FD M
  refine F.ok scPick (fun vs H Q E h => ?_) (fun cdv A outer s H vs Q E hr h => ?_)
  · obtain ⟨p, r, xs, rfl, _⟩ := h
    rfl
  · obtain ⟨p, r, xs, rfl, hp, npr, hS, hl, hl2, q⟩ := h
    refine ⟨_, pss_one (ps_ret (pe_ix ix_seq (pv 1) (pe_call GD hr (by rfl) gD FD.kp bD .nil pass0 (pa_cons (pv 0) (pa_cons (pe_callB call_len_seq (by rfl) M.len PySem.boot_len (pa_cons (pv 1) pa_nil)) pa_nil))) (fun _ _ => rfl))), ?_⟩
    refine ⟨_, rfl, _, rfl, _, rfl, _, _, rfl, hS, p, _, rfl, hp, by omega, by omega, fun v H' v0 v1 bt hp' fr => ?_⟩
    have hv : v.toNat < xs.length := by omega
    have ha : atI xs v = some xs[v.toNat] := at_nn v0 (List.getElem?_eq_getElem hv)
    have sk : SqL K H' r xs ∨ SqT K H' r xs := hS.imp (bt.seq npr.symm) (bt.seqT npr.symm)
    rcases sk with sk | sk
    · exact .inl ⟨_, _, _, _, rfl, rfl, sk, ha, q _ hv _ bt hp' fr⟩
    · exact .inr (.inl ⟨_, _, _, _, rfl, rfl, sk, ha, q _ hv _ bt hp' fr⟩)
end
/-! ### data -/
mutual
theorem dp_mono {K : PySem.W.Frag} {H H' : Hp} (ht : ∀ a xs, SqT K H a xs → SqT K H' a xs) (hl : ∀ a xs, SqL K H a xs → SqL K H' a xs) : ∀ (d : PyData) (v : V), Dp K H v d → Dp K H' v d
  | .none, _, h => by
    cases h
    exact .non
  | .bool b, _, h => by
    cases h
    exact .bl b
  | .int i, _, h => by
    cases h
    exact .int i
  | .str x, _, h => by
    cases h
    exact .str x
  | .list ds, _, h => by
    cases h with
    | lst hs ha => exact .lst (hl _ _ hs) (dpAll_mono ht hl ds _ ha)
  | .tuple ds, _, h => by
    cases h with
    | tup hs ha => exact .tup (ht _ _ hs) (dpAll_mono ht hl ds _ ha)
  | .dict _, _, h => by cases h
theorem dpAll_mono {K : PySem.W.Frag} {H H' : Hp} (ht : ∀ a xs, SqT K H a xs → SqT K H' a xs) (hl : ∀ a xs, SqL K H a xs → SqL K H' a xs) : ∀ (ds : List PyData) (vs : List V), DpAll K H vs ds → DpAll K H' vs ds
  | [], _, h => by
    cases h
    exact .nil
  | d :: ds, _, h => by
    cases h with
    | cons h1 h2 => exact .cons (dp_mono ht hl d _ h1) (dpAll_mono ht hl ds _ h2)
end
theorem same_sqT {K : PySem.W.Frag} {H H' : Hp} (s : Same H H') {a : Addr} {xs : List V} (h : SqT K H a xs) : SqT K H' a xs := by
  rcases h with (h | ⟨o, h⟩) | h
  · exact .inl (.inl (s _ _ h))
  · exact .inl (.inr ⟨o, s _ _ h⟩)
  · exact .inr h
theorem dp_same {K : PySem.W.Frag} {H H' : Hp} (s : Same H H') {d : PyData} {v : V} (h : Dp K H v d) : Dp K H' v d := dp_mono (fun _ _ => same_sqT s) (fun _ _ => s.seq) d v h
theorem dpA_same {K : PySem.W.Frag} {H H' : Hp} (s : Same H H') {ds : List PyData} {vs : List V} (h : DpAll K H vs ds) : DpAll K H' vs ds := dpAll_mono (fun _ _ => same_sqT s) (fun _ _ => s.seq) ds vs h
/-! data without lists -/
mutual
def noL : PyData → Bool
  | .list _ => false
  | .tuple ds => noLs ds
  | .dict _ => false
  | _ => true
def noLs : List PyData → Bool
  | [] => true
  | d :: ds => noL d && noLs ds
end
mutual
theorem dp_tups {K : PySem.W.Frag} {H H' : Hp} (ht : ∀ a xs, SqT K H a xs → SqT K H' a xs) : ∀ (d : PyData) (v : V), noL d = true → Dp K H v d → Dp K H' v d
  | .none, _, _, h => by
    cases h
    exact .non
  | .bool b, _, _, h => by
    cases h
    exact .bl b
  | .int i, _, _, h => by
    cases h
    exact .int i
  | .str x, _, _, h => by
    cases h
    exact .str x
  | .list ds, _, n, _ => by cases n
  | .tuple ds, _, n, h => by
    cases h with
    | tup hs ha => exact .tup (ht _ _ hs) (dpAll_tups ht ds _ n ha)
  | .dict _, _, _, h => by cases h
theorem dpAll_tups {K : PySem.W.Frag} {H H' : Hp} (ht : ∀ a xs, SqT K H a xs → SqT K H' a xs) : ∀ (ds : List PyData) (vs : List V), noLs ds = true → DpAll K H vs ds → DpAll K H' vs ds
  | [], _, _, h => by
    cases h
    exact .nil
  | d :: ds, _, n, h => by
    have n1 : noL d = true := (Bool.and_eq_true _ _ ▸ n : noL d = true ∧ noLs ds = true).1
    have n2 : noLs ds = true := (Bool.and_eq_true _ _ ▸ n : noL d = true ∧ noLs ds = true).2
    cases h with
    | cons h1 h2 => exact .cons (dp_tups ht d _ n1 h1) (dpAll_tups ht ds _ n2 h2)
end
/-- tuples stand while a list is changed -/
theorem but_sqT {K : PySem.W.Frag} {p : Addr} {H H' : Hp} {ys : List V} (hp : H p = some (.lst ys)) (b : But p H H') {a : Addr} {xs : List V} (h : SqT K H a xs) : SqT K H' a xs := by
  rcases h with (h | ⟨o, h⟩) | h
  · exact .inl (.inl (b _ _ h (ne_of h hp (fun z => nomatch z))))
  · exact .inl (.inr ⟨o, b _ _ h (ne_of h hp (fun z => nomatch z))⟩)
  · exact .inr h
theorem dp_but {K : PySem.W.Frag} {p : Addr} {H H' : Hp} (hp : PoolAt H p) (b : But p H H') {d : PyData} {v : V} (n : noL d = true) (h : Dp K H v d) : Dp K H' v d := by
  obtain ⟨x, y, e, _⟩ := hp
  exact dp_tups (fun _ _ => but_sqT e b) d v n h
/-- a value's own name of its class -/
def kind : PyData → String
  | .none => "NoneType"
  | .bool _ => "bool"
  | .int _ => "int"
  | .str _ => "str"
  | .list _ => "list"
  | .tuple _ => "tuple"
  | .dict _ => "dict"
theorem tyx_sqT {K : PySem.W.Frag} {H : Hp} {a : Addr} {xs : List V} (h : SqT K H a xs) : TyX K H (.ref a) (.type "tuple") := by
  rcases h with (h | ⟨o, h⟩) | ⟨o, _, _, h, c, _⟩
  · exact .base (.tup h)
  · exact .fTuple h
  · exact .kTuple h c
theorem tyx_sqL {K : PySem.W.Frag} {H : Hp} {a : Addr} {xs : List V} (h : SqL K H a xs) : TyX K H (.ref a) (.type "list") := by
  rcases h with (h | ⟨o, h⟩) | ⟨o, _, _, h, c, _⟩
  · exact .base (.lst h)
  · exact .base (.frz h)
  · exact .kList h c
theorem dp_ty {K : PySem.W.Frag} {H : Hp} {d : PyData} {v : V} (h : Dp K H v d) : TyX K H v (.type (kind d)) := by
  cases h with
  | non => exact .base .non
  | bl b => exact .base (.bl b)
  | int i => exact .base (.int i)
  | str x => exact .base (.str x)
  | lst hs _ => exact tyx_sqL hs
  | tup hs _ => exact tyx_sqT hs
def isInt : PyData → Bool
  | .int _ => true
  | .bool _ => true
  | _ => false
def isBool : PyData → Bool
  | .bool _ => true
  | _ => false
def isStr : PyData → Bool
  | .str _ => true
  | _ => false
def isTup : PyData → Bool
  | .tuple _ => true
  | _ => false
theorem kit_int (K : PySem.W.Frag) : ∀ d : PyData, PySem.W.kitOne K (.type (kind d)) (.type "int") = some (isInt d)
  | .none => kit_ty (show kitB "NoneType" "int" = some false by decide +kernel)
  | .bool _ => kit_ty (show kitB "bool" "int" = some true by decide +kernel)
  | .int _ => kit_ty (show kitB "int" "int" = some true by decide +kernel)
  | .str _ => kit_ty (show kitB "str" "int" = some false by decide +kernel)
  | .list _ => kit_ty (show kitB "list" "int" = some false by decide +kernel)
  | .tuple _ => kit_ty (show kitB "tuple" "int" = some false by decide +kernel)
  | .dict _ => kit_ty (show kitB "dict" "int" = some false by decide +kernel)
theorem kit_bool (K : PySem.W.Frag) : ∀ d : PyData, PySem.W.kitOne K (.type (kind d)) (.type "bool") = some (isBool d)
  | .none => kit_ty (show kitB "NoneType" "bool" = some false by decide +kernel)
  | .bool _ => kit_ty (show kitB "bool" "bool" = some true by decide +kernel)
  | .int _ => kit_ty (show kitB "int" "bool" = some false by decide +kernel)
  | .str _ => kit_ty (show kitB "str" "bool" = some false by decide +kernel)
  | .list _ => kit_ty (show kitB "list" "bool" = some false by decide +kernel)
  | .tuple _ => kit_ty (show kitB "tuple" "bool" = some false by decide +kernel)
  | .dict _ => kit_ty (show kitB "dict" "bool" = some false by decide +kernel)
theorem kit_str (K : PySem.W.Frag) : ∀ d : PyData, PySem.W.kitOne K (.type (kind d)) (.type "str") = some (isStr d)
  | .none => kit_ty (show kitB "NoneType" "str" = some false by decide +kernel)
  | .bool _ => kit_ty (show kitB "bool" "str" = some false by decide +kernel)
  | .int _ => kit_ty (show kitB "int" "str" = some false by decide +kernel)
  | .str _ => kit_ty (show kitB "str" "str" = some true by decide +kernel)
  | .list _ => kit_ty (show kitB "list" "str" = some false by decide +kernel)
  | .tuple _ => kit_ty (show kitB "tuple" "str" = some false by decide +kernel)
  | .dict _ => kit_ty (show kitB "dict" "str" = some false by decide +kernel)
theorem kit_tup (K : PySem.W.Frag) : ∀ d : PyData, PySem.W.kitOne K (.type (kind d)) (.type "tuple") = some (isTup d)
  | .none => kit_ty (show kitB "NoneType" "tuple" = some false by decide +kernel)
  | .bool _ => kit_ty (show kitB "bool" "tuple" = some false by decide +kernel)
  | .int _ => kit_ty (show kitB "int" "tuple" = some false by decide +kernel)
  | .str _ => kit_ty (show kitB "str" "tuple" = some false by decide +kernel)
  | .list _ => kit_ty (show kitB "list" "tuple" = some false by decide +kernel)
  | .tuple _ => kit_ty (show kitB "tuple" "tuple" = some true by decide +kernel)
  | .dict _ => kit_ty (show kitB "dict" "tuple" = some false by decide +kernel)
/-- a block that goes through an iterator: what each turn asks, and what holds at the end -/
abbrev Turns (J : It) (H0 : Hp) (End : Hp → Prop) (Body : (Hp → Prop) → V → Hp → Prop) : Prop :=
  ∃ Wk : Nat → Nat → Hp → Prop, (∃ left, Wk 0 left H0) ∧
    ∀ at_ left Hn, Wk at_ left Hn → (J.stop at_ Hn ∧ End Hn) ∨ (J.go at_ Hn ∧
      ∃ Then : Hp → Prop, (∀ Hb, Then Hb → ∃ fewer, fewer < left ∧ Wk (at_ + 1) fewer Hb) ∧ ∀ item Hi, J.yld at_ Hn item Hi → Body Then item Hi)
/-- a turn of a list's comprehension without a test -/
abbrev LcBody (D : Addr) (te : TE) (vs : List Nat) (j : Nat) (σ : L2.St) : (Hp → Prop) → V → Hp → Prop := fun Then item Hi =>
  gName j item (wipe σ vs) Hi fun σn Hn => wipe σn vs = wipe σ vs ∧ tYes σn Hn fun yes Hy =>
    if yes = true then te σn Hy (fun made Hm => ∃ sofar, Hm D = some (.lst sofar) ∧ sofar.length < sizeLine ∧ Then (upd Hm D (.lst (sofar ++ [made])))) else Then Hy
/-- a comprehension whose i-th item is f i -/
theorem lc_vals {J : It} {n : Nat} {G : Hp → Prop} {Y : Nat → Hp → V → Hp → Prop} (w : Walk J n G Y) {j : Nat} {te : TE} {vs : List Nat} {σ : L2.St} {H1 : Hp} {D : Addr} {Qd : Hp → Prop} (f : Nat → V) (hz : n ≤ 50000)
    (hD : H1 D = none) (hw : ∀ x, wipe ((wipe σ vs).set j (some x)) vs = wipe σ vs) (hG : ∀ H, Same H1 H → G H)
    (he : ∀ i x H H', i < n → Same H1 H → Y i H x H' → Same H H' ∧ ∀ Q : VK, (∀ H2, Same H' H2 → Q (f i) H2) → te ((wipe σ vs).set j (some x)) H' Q)
    (hd : ∀ H, Same H1 H → H D = some (.lst ((List.range n).map f)) → Qd H)  :
    Turns J (upd H1 D (.lst [])) Qd (LcBody D te vs j σ) := by
  refine lc_it w (fun i H => Same H1 H ∧ H D = some (.lst ((List.range i).map f))) ⟨same_upd hD, upd_same⟩ (fun i H _ p => hG H p.1) (fun i x H H' hi p y => ?_) (fun H p => hd H p.1 p.2)
  obtain ⟨s1, e1⟩ := p
  obtain ⟨s2, k⟩ := he i x H H' hi s1 y
  refine And.intro (hw x) ?_
  unfold tYes
  refine iteT ?_
  refine k _ fun H2 s3 => ⟨_, s3 _ _ (s2 _ _ e1), ?_, fun b o e => ?_, ?_⟩
  · rw [List.length_map, List.length_range]
    exact Nat.lt_of_lt_of_le (show i < 50000 by omega) (by decide)
  · have hb : b ≠ D := ne_of_none e hD
    rw [upd_ne hb]
    exact s3 _ _ (s2 _ _ (s1 _ _ e))
  · rw [upd_same, List.range_succ, List.map_append]
    rfl
theorem range_get {α : Type} (xs : List α) (f : Nat → α) (h : ∀ i x, xs[i]? = some x → f i = x) : (List.range xs.length).map f = xs := by
  apply List.ext_getElem?
  intro i
  rw [List.getElem?_map]
  by_cases hi : i < xs.length
  · rw [List.getElem?_range hi, List.getElem?_eq_getElem hi]
    exact congrArg some (h i _ (List.getElem?_eq_getElem hi))
  · rw [List.getElem?_eq_none (by simpa using hi), List.getElem?_eq_none (by simpa using hi)]
    rfl
theorem dpA_len {K : PySem.W.Frag} {H : Hp} : ∀ {ds : List PyData} {vs : List V}, DpAll K H vs ds → vs.length = ds.length
  | [], _, h => by
    cases h
    rfl
  | d :: ds, _, h => by
    cases h with
    | cons _ h2 => rw [List.length_cons, List.length_cons, dpA_len h2]
theorem dpA_get {K : PySem.W.Frag} {H : Hp} : ∀ {ds : List PyData} {vs : List V} {i : Nat} {d : PyData}, DpAll K H vs ds → ds[i]? = some d → ∃ v, vs[i]? = some v ∧ Dp K H v d
  | [], _, _, _, _, e => by simp at e
  | d :: ds, _, 0, _, h, e => by
    cases h with
    | cons h1 _ =>
      have e1 : d = _ := Option.some.inj e
      subst e1
      exact ⟨_, rfl, h1⟩
  | d :: ds, _, i + 1, _, h, e => by
    cases h with
    | cons _ h2 => exact dpA_get (i := i) h2 e
theorem dpA_app {K : PySem.W.Frag} {H : Hp} : ∀ {ds es : List PyData} {vs us : List V}, DpAll K H vs ds → DpAll K H us es → DpAll K H (vs ++ us) (ds ++ es)
  | [], _, _, _, h, h' => by
    cases h
    exact h'
  | d :: ds, _, _, _, h, h' => by
    cases h with
    | cons h1 h2 => exact .cons h1 (dpA_app h2 h')
/-- a walk by its turns, whatever a turn asks -/
theorem walk_gen {J : It} {n : Nat} {G : Hp → Prop} {Y : Nat → Hp → V → Hp → Prop} (w : Walk J n G Y) {H0 : Hp} {End : Hp → Prop} {Body : (Hp → Prop) → V → Hp → Prop} (Pv : Nat → Hp → Prop) (h0 : Pv 0 H0) (hG : ∀ i H, i ≤ n → Pv i H → G H)
    (hs : ∀ i x H H', i < n → Pv i H → Y i H x H' → Body (Pv (i + 1)) x H') (hd : ∀ H, Pv n H → End H) : Turns J H0 End Body := by
  refine ⟨fun at_ left Hn => at_ + left = n ∧ Pv at_ Hn, ⟨n, Nat.zero_add n, h0⟩, fun at_ left Hn ⟨sum, holds⟩ => ?_⟩
  cases left with
  | zero =>
    have all : at_ = n := sum
    subst all
    exact Or.inl (And.intro (w.stops Hn (hG _ Hn (Nat.le_refl _) holds)) (hd Hn holds))
  | succ less =>
    have more : at_ < n := by omega
    have good := hG at_ Hn (Nat.le_of_lt more) holds
    refine Or.inr (And.intro (w.goes at_ Hn more good) ⟨Pv (at_ + 1), fun Hb next => ⟨less, Nat.lt_succ_self less, by omega, next⟩, fun item Hi given => ?_⟩)
    exact hs at_ item Hn Hi more holds (w.yields at_ Hn item Hi more good given)
theorem dpA_at {K : PySem.W.Frag} {H : Hp} : ∀ {ds : List PyData} {vs : List V} {i : Nat} {v : V}, DpAll K H vs ds → vs[i]? = some v → ∃ d, ds[i]? = some d ∧ Dp K H v d
  | _, [], _, _, _, e => by simp at e
  | _, _ :: _, 0, _, h, e => by
    cases h with
    | cons h1 _ =>
      have e1 := Option.some.inj e
      subst e1
      exact ⟨_, rfl, h1⟩
  | _, _ :: _, i + 1, _, h, e => by
    cases h with
    | cons _ h2 => exact dpA_at (i := i) h2 e
theorem take_snoc {α : Type} : ∀ {l : List α} {i : Nat} {x : α}, l[i]? = some x → l.take (i + 1) = l.take i ++ [x]
  | [], i, x, h => by simp at h
  | a :: l, 0, x, h => by
    have e : a = x := Option.some.inj h
    subst e
    rfl
  | a :: l, i + 1, x, h => by
    have ih := take_snoc (l := l) (i := i) (x := x) h
    show a :: l.take (i + 1) = a :: l.take i ++ [x]
    rw [ih]
    rfl
theorem cut1 (xs : List V) : cutV xs (some 1) none = xs.drop 1 := by
  unfold cutV
  rw [show HT.sIx xs.length 0 (some 1) = min 1 xs.length from HT.sIx_nat xs.length 0 1, HT.sIx_none]
  cases xs with
  | nil => rfl
  | cons x r =>
    rw [show min 1 (x :: r).length = 1 by
      rw [List.length_cons]
      omega]
    show (List.take ((x :: r).length - 1) r) = r
    rw [List.length_cons, Nat.add_sub_cancel]
    exact List.take_length
theorem q_c {tz : TS} {D : Ends} {σ : L2.St} {H : Hp} {i : Nat} {v : V} (h : tz D (σ.set i (some v)) H) : tSeq (tAsg (tC v) (gName i)) tz D σ H := h
theorem q_w {c : TT} {tb tz : TS} {D : Ends} {σ : L2.St} {H : Hp} (h : tWhile c tb { D with nx := tz D } σ H) : tSeq (tWhile c tb) tz D σ H := h
theorem wh_by {c : TT} {tb : TS} {D : Ends} {σ : L2.St} {H : Hp} (W : Nat → L2.St → Hp → Prop) (m0 : Nat) (h0 : W m0 σ H)
    (hs : ∀ m σ H, W m σ H → c σ H fun b H1 => if b = true then tb { D with nx := fun σ' H' => ∃ m', m' < m ∧ W m' σ' H', ct := fun σ' H' => ∃ m', m' < m ∧ W m' σ' H', bk := D.nx } σ H1 else D.nx σ H1)
    (mono : ∀ σ H Q Q', (∀ b H1, Q b H1 → Q' b H1) → c σ H Q → c σ H Q') : tWhile c tb D σ H :=
  ⟨W, ⟨m0, h0⟩, fun m σ H hw => mono _ _ _ _ (fun b H1 q => by
    cases b with
    | true => exact ⟨_, fun σ' H' h => h, q⟩
    | false => exact q) (hs m σ H hw)⟩
/-- a comprehension whose i-th item is as R says -/
theorem lc_rel {J : It} {n : Nat} {G : Hp → Prop} {Y : Nat → Hp → V → Hp → Prop} (w : Walk J n G Y) {j : Nat} {te : TE} {vs : List Nat} {σ : L2.St} {H1 : Hp} {D : Addr} {Qd : Hp → Prop} (R : Nat → V → Hp → Prop) (hz : n ≤ 50000)
    (hD : H1 D = none) (hw : ∀ x, wipe ((wipe σ vs).set j (some x)) vs = wipe σ vs) (hG : ∀ H, Same H1 H → G H) (hR : ∀ i v H H' zs, H D = some (.lst zs) → But D H H' → R i v H → R i v H')
    (he : ∀ i x H H', i < n → Same H1 H → Y i H x H' → Same H H' ∧ ∀ Q : VK, (∀ v H2, Same H' H2 → R i v H2 → Q v H2) → te ((wipe σ vs).set j (some x)) H' Q)
    (hd : ∀ ys H, Same H1 H → H D = some (.lst ys) → ys.length = n → (∀ i v, ys[i]? = some v → R i v H) → Qd H)  :
    Turns J (upd H1 D (.lst [])) Qd (LcBody D te vs j σ) := by
  refine lc_it w (fun i H => Same H1 H ∧ ∃ ys, H D = some (.lst ys) ∧ ys.length = i ∧ ∀ k v, ys[k]? = some v → R k v H) ⟨same_upd hD, [], upd_same, rfl, fun k v e => by simp at e⟩ (fun i H _ p => hG H p.1) (fun i x H H' hi p y => ?_) (fun H p => ?_)
  · obtain ⟨s1, ys, e1, el, er⟩ := p
    obtain ⟨s2, k⟩ := he i x H H' hi s1 y
    refine And.intro (hw x) ?_
    unfold tYes
    refine iteT ?_
    refine k _ fun v H2 s3 rv => ⟨ys, s3 _ _ (s2 _ _ e1), ?_, fun b o e => ?_, ys ++ [v], upd_same, ?_, fun k u eu => ?_⟩
    · exact Nat.lt_of_lt_of_le (show ys.length < 50000 by omega) (by decide)
    · have hb : b ≠ D := ne_of_none e hD
      rw [upd_ne hb]
      exact s3 _ _ (s2 _ _ (s1 _ _ e))
    · rw [List.length_append, el]
      rfl
    · have e2 : H2 D = some (.lst ys) := s3 _ _ (s2 _ _ e1)
      refine hR k u H2 _ ys e2 But.upd ?_
      by_cases hk : k < ys.length
      · rw [List.getElem?_append_left hk] at eu
        exact hR k u H H2 ys e1 (But.of (s2.trans s3)) (er k u eu)
      · have hk2 : k = ys.length := by
          have := (List.getElem?_eq_some_iff.mp eu).1
          rw [List.length_append] at this
          simp at this
          omega
        rw [hk2, List.getElem?_append_right (Nat.le_refl _), Nat.sub_self] at eu
        have eu2 := Option.some.inj eu
        subst eu2
        rw [hk2, el]
        exact rv
  · obtain ⟨s1, ys, e1, el, er⟩ := p
    exact hd ys H s1 e1 el er
theorem PoolAt.upd {H : Hp} {p l : Addr} {o : HO} (h : PoolAt H p) (n : H l = none) : PoolAt (L2.upd H l o) p := by
  obtain ⟨x, y, e, r⟩ := h
  refine ⟨x, y, ?_, r⟩
  rw [upd_ne (ne_of_none e n)]
  exact e
theorem PoolAt.ne {H : Hp} {p l : Addr} (h : PoolAt H p) (n : H l = none) : p ≠ l := by
  obtain ⟨x, y, e, r⟩ := h
  exact ne_of_none e n
theorem PoolAt.same {H H' : Hp} {p : Addr} (h : PoolAt H p) (s : Same H H') : PoolAt H' p := by
  obtain ⟨x, y, e, r⟩ := h
  exact ⟨x, y, s _ _ e, r⟩
/-- a comprehension that draws: its items are as R says, whatever is drawn -/
theorem lc_pool {J : It} {n : Nat} {Y : Nat → Hp → V → Hp → Prop} (w : Walk J n (fun _ => True) Y) {j : Nat} {te : TE} {vs : List Nat} {σ : L2.St} {H1 : Hp} {D p : Addr} {Qd : Hp → Prop} (R : V → Prop) (hz : n ≤ 50000)
    (hD : H1 D = none) (hp : PoolAt H1 p) (hw : ∀ x, wipe ((wipe σ vs).set j (some x)) vs = wipe σ vs)
    (he : ∀ i x H H', i < n → PoolAt H p → Y i H x H' → H' = H ∧ ∀ Q : VK, (∀ v H2, But p H H2 → PoolAt H2 p → R v → Q v H2) → te ((wipe σ vs).set j (some x)) H Q)
    (hd : ∀ ys H, But p H1 H → PoolAt H p → H D = some (.lst ys) → ys.length = n → (∀ v ∈ ys, R v) → Qd H)  :
    Turns J (upd H1 D (.lst [])) Qd (LcBody D te vs j σ) := by
  have npD : D ≠ p := (hp.ne hD).symm
  refine lc_it w (fun i H => But p H1 H ∧ PoolAt H p ∧ ∃ ys, H D = some (.lst ys) ∧ ys.length = i ∧ ∀ v ∈ ys, R v) ⟨But.of (same_upd hD), hp.upd hD, [], upd_same, rfl, fun v e => by simp at e⟩ (fun i H _ p => True.intro) (fun i x H H' hi q y => ?_) (fun H q => ?_)
  · obtain ⟨s1, h1, ys, e1, el, er⟩ := q
    obtain ⟨rfl, k⟩ := he i x H H' hi h1 y
    refine And.intro (hw x) ?_
    unfold tYes
    refine iteT ?_
    refine k _ fun v H2 s3 h3 rv => ⟨ys, s3 _ _ e1 npD, ?_, fun b o e nb => ?_, ?_, ys ++ [v], upd_same, ?_, fun u hu => ?_⟩
    · exact Nat.lt_of_lt_of_le (show ys.length < 50000 by omega) (by decide)
    · have hb : b ≠ D := ne_of_none e hD
      rw [upd_ne hb]
      exact s3 _ _ (s1 _ _ e nb) nb
    · obtain ⟨x, y, e, r⟩ := h3
      exact ⟨x, y, by rw [upd_ne npD.symm]; exact e, r⟩
    · rw [List.length_append, el]
      rfl
    · rcases List.mem_append.mp hu with hu | hu
      · exact er u hu
      · rw [List.mem_singleton.mp hu]
        exact rv
  · obtain ⟨s1, h1, ys, e1, el, er⟩ := q
    exact hd ys H s1 h1 e1 el er
theorem at_of {j : Nat} {xs : List V} {v : V} {z : Int} (same : z = (j : Int)) (there : xs[j]? = some v) : atI xs z = some v := same ▸ atI_nat there
/-! ### BadLabel -/
abbrev sBL : Stmt := inClass (topS 2) 0
abbrev sLab : Stmt := inClass (topS 5) 0
abbrev sHigh : Stmt := inClass (topS 5) 5
abbrev sLeast : Stmt := topS 6
theorem scBL : FnScope ["self", "label"] ["self", "label"] (defScope sBL) := ⟨rfl, rfl, rfl, by decide +kernel, rfl, by decide +kernel, by decide +kernel⟩
theorem scLab : FnScope ["self", "name"] ["self", "name"] (defScope sLab) := ⟨rfl, rfl, rfl, by decide +kernel, rfl, by decide +kernel, by decide +kernel⟩
theorem scHigh : FnScope ["self", "above", "name"] ["self"] (defScope sHigh) := ⟨rfl, rfl, rfl, by decide +kernel, rfl, by decide +kernel, by decide +kernel⟩
theorem scLeast : FnScope ["labels", "lowest", "label"] ["labels"] (defScope sLeast) := ⟨rfl, rfl, rfl, by decide +kernel, rfl, by decide +kernel, by decide +kernel⟩
/-- an error of the class C that keeps its argument under the name f: what its __init__ leaves -/
def spErr (C : Addr) (f : Str) : Sp := fun vs H Q _ => ∃ a v, vs = [.ref a, v] ∧ H a = some (exo a C none) ∧ ∀ d, H d = none → d ≠ a → Q .non (upd (upd H d (exd d [(f, v)])) a (exo a C (some d)))
/-- what is written of an error's class -/
structure ErrT (K : PySem.W.Frag) (mg : Str → Option Value) (x : Str) (f : Str) (C fI : Addr) : Prop where
  oex : OexC K C
  nof : PySem.W.findIn K (.ref C) f = some none
  ini : PySem.W.findIn K (.ref C) "__init__" = some (some (.ref fI))
  typ : PySem.W.typeIn K (.ref fI) = some (.type "function")
  nam : mg x = some (.ref C)
/-- what comes of raise C(v): its dict, new, holds v -/
def Left (H : Hp) (d : Addr) (f : Str) (v : V) (H' : Hp) : Prop := H d = none ∧ Same H H' ∧ H' d = some (.xd [(f, v)])
theorem mk_left {H : Hp} {C : Addr} {f : Str} {v : V} {Q : XK} (h : ∀ d H', Left H d f v H' → Q (.ref C) (some d) H') : ∀ a, H a = none → spErr C f [.ref a, v] (upd H a (exo a C none))
    (fun w H2 => w = .non ∧ ∃ (d : Addr) (fs : List (Str × V)), H2 a = some (exo a C (some d)) ∧ H2 d = some (exd d fs) ∧ H d = none ∧ Q (.ref C) (some d) (upd (L2.del H2 a) d (.xd fs))) (fun _ _ _ => False) := fun a na => by
  refine ⟨a, v, rfl, upd_same, fun d nd hda => ?_⟩
  have nd0 : H d = none := by rw [upd_ne hda] at nd; exact nd
  refine ⟨rfl, d, _, upd_same, by rw [upd_ne hda]; exact upd_same, nd0, h d _ ⟨nd0, fun b o e => ?_, upd_same⟩⟩
  have b1 : b ≠ d := ne_of_none e nd0
  have b2 : b ≠ a := ne_of_none e na
  rw [upd_ne b1, L2.del_ne b2, upd_ne b2, upd_ne b1, upd_ne b2]
  exact e
/-! ### labels -/
def labRow : List Str := ["always", "session", "statement", "changing"]
/-- no name of a label -/
def noLab : PyData → Bool
  | .str z => decide (z ∉ labRow)
  | _ => true
/-- what is written of the class Label -/
structure LabC (K : PySem.W.Frag) (mg : Str → Option Value) (C : Addr) : Prop where
  cl : Cls K C
  nh : NoAttr K C "_height"
  nn : NoAttr K C "name"
  me : PySem.W.kitOne K (.ref C) (.ref C) = some true
  ot : PySem.W.kitOne K (.type "str") (.ref C) = some false
  gC : mg "Label" = some (.ref C)
  ca : PySem.W.findIn K (.ref C) "__class__" = some (some (.builtin "object.__class__"))
  cg : PySem.W.specialIn K (.builtin "object.__class__") "__get__" = some (some (.builtin "getset_descriptor.__get__"))
  ct : PySem.W.takesIn K (.builtin "object.__class__") = some true
  cm : PySem.W.mroIn K C (.type "object") = some true
  ne : PySem.W.findIn K (.ref C) "__ne__" = some (some (.builtin "object.__ne__"))
  so : PySem.W.subIn K (.ref C) (.type "object") = some true
  nf : PySem.W.notFirst K C (.type "str") = true
/-- the table of the names -/
def RowT (K : PySem.W.Frag) (mg : Str → Option Value) : Prop := ∃ a o, mg "LABELS" = some (.ref a) ∧ K.lookup a = some o ∧ o.cls = .type "tuple" ∧ o.dict = none ∧ ∀ H : Hp, SqT K H a (labRow.map V.str)
/-- the label number i of the row, at a -/
def LabAt (H : Hp) (C a : Addr) (i : Nat) : Prop := ∃ dx fs z, H a = some (.ins C dx fs) ∧ labRow[i]? = some z ∧ fs.lookup ("_height" : Str) = some (V.int (4 - (i : Int))) ∧ fs.lookup ("name" : Str) = some (V.str z) ∧
  fs.lookup ("is_steady" : Str) = none ∧ fs.lookup ("higher" : Str) = none
theorem LabAt.ext {H H' : Hp} {C a : Addr} {i : Nat} (h : LabAt H C a i) (s : Ext H H') : LabAt H' C a i := by
  obtain ⟨dx, fs, z, e, r⟩ := h
  exact ⟨dx, fs, z, s _ _ e, r⟩
theorem LabAt.but {H H' : Hp} {C a D : Addr} {i : Nat} {zs : List V} (h : LabAt H C a i) (e : H D = some (.lst zs)) (b : But D H H') : LabAt H' C a i := by
  obtain ⟨dx, fs, z, ea, r⟩ := h
  exact ⟨dx, fs, z, b _ _ ea (fun q => by rw [q, e] at ea; cases ea), r⟩
theorem LabAt.lt {H : Hp} {C a : Addr} {i : Nat} (h : LabAt H C a i) : i < 4 := by
  obtain ⟨dx, fs, z, e, r, _⟩ := h
  exact List.getElem?_eq_some_iff.mp r |>.1
theorem LabAt.at {H : Hp} {C a : Addr} {i j : Nat} (h : LabAt H C a i) (e : j = i) : LabAt H C a j := e ▸ h
abbrev spOut (H : Hp) (v : V) (CB : Addr) (E : XK) : Prop := ∀ dd H', Left H dd "label" v H' → E (.ref CB) (some dd) H'
theorem upd_twice {H : Hp} {a : Addr} {x y : HO} : upd (upd H a x) a y = upd H a y := by
  funext b
  by_cases h : b = a
  · subst h
    rw [upd_same, upd_same]
  · rw [upd_ne h, upd_ne h, upd_ne h]
def spLab (K : PySem.W.Frag) (C CB : Addr) : Sp := fun vs H Q E => ∃ a dx v d, vs = [.ref a, v] ∧ H a = some (.ins C dx []) ∧ Dp K H v d ∧
  ((∃ (i : Nat) (z : Str), labRow[i]? = some z ∧ v = .str z ∧ ∀ fs, fs.lookup ("_height" : Str) = some (V.int (4 - (i : Int))) → fs.lookup ("name" : Str) = some (V.str z) → fs.lookup ("is_steady" : Str) = none → fs.lookup ("higher" : Str) = none → Q .non (upd H a (.ins C dx fs))) ∨
   (noLab d = true ∧ ∀ dd H', Left H dd "label" v H' → E (.ref CB) (some dd) H'))
def spLabEq (K : PySem.W.Frag) (C : Addr) : Sp := fun vs H Q _ => ∃ (a : Addr) (i : Nat) (y : V), vs = [.ref a, y] ∧ LabAt H C a i ∧ ((∃ b j, y = .ref b ∧ LabAt H C b j ∧ Q (.bl (decide (i = j))) H) ∨ ∃ z, y = .str z ∧ Q (.bl false) H)
def spLabLt (C : Addr) : Sp := fun vs H Q _ => ∃ (a b : Addr) (i j : Nat), vs = [.ref a, .ref b] ∧ LabAt H C a i ∧ LabAt H C b j ∧ Q (.bl (decide (j < i))) H
def spLabLe (C : Addr) : Sp := fun vs H Q _ => ∃ (a b : Addr) (i j : Nat), vs = [.ref a, .ref b] ∧ LabAt H C a i ∧ LabAt H C b j ∧ Q (.bl (decide (j ≤ i))) H
def spSteady (C : Addr) : Sp := fun vs H Q _ => ∃ (a : Addr) (i : Nat), vs = [.ref a] ∧ LabAt H C a i ∧ Q (.bl (decide (i ≠ 3))) H
abbrev sLabEq : Stmt := inClass (topS 5) 1
abbrev sLabLt : Stmt := inClass (topS 5) 2
abbrev sLabLe : Stmt := inClass (topS 5) 3
abbrev sSteady : Stmt := inClass (topS 5) 4
theorem scLabEq : FnScope ["self", "other"] ["self", "other"] (defScope sLabEq) := ⟨rfl, rfl, rfl, by decide +kernel, rfl, by decide +kernel, by decide +kernel⟩
theorem scLabLt : FnScope ["self", "other"] ["self", "other"] (defScope sLabLt) := ⟨rfl, rfl, rfl, by decide +kernel, rfl, by decide +kernel, by decide +kernel⟩
theorem scLabLe : FnScope ["self", "other"] ["self", "other"] (defScope sLabLe) := ⟨rfl, rfl, rfl, by decide +kernel, rfl, by decide +kernel, by decide +kernel⟩
theorem scSteady : FnScope ["self"] ["self"] (defScope sSteady) := ⟨rfl, rfl, rfl, by decide +kernel, rfl, by decide +kernel, by decide +kernel⟩
theorem row_str {i : Nat} {z : Str} (h : labRow[i]? = some z) : (i = 0 ∧ z = "always") ∨ (i = 1 ∧ z = "session") ∨ (i = 2 ∧ z = "statement") ∨ (i = 3 ∧ z = "changing") := by
  rcases i with _ | _ | _ | _ | i
  · exact .inl ⟨rfl, (Option.some.inj h).symm⟩
  · exact .inr (.inl ⟨rfl, (Option.some.inj h).symm⟩)
  · exact .inr (.inr (.inl ⟨rfl, (Option.some.inj h).symm⟩))
  · exact .inr (.inr (.inr ⟨rfl, (Option.some.inj h).symm⟩))
  · simp [labRow] at h
theorem inV_row (z : Str) : inV (V.str z) (labRow.map V.str) = decide (z ∈ labRow) := by
  rw [Bool.eq_iff_iff]
  unfold inV
  rw [List.any_eq_true, decide_eq_true_eq]
  constructor
  · rintro ⟨y, hy, e⟩
    obtain ⟨w, hw, rfl⟩ := List.mem_map.mp hy
    have e2 : w = z := by
      have e' : (w == z) = true := e
      exact beq_iff_eq.mp e'
    exact e2 ▸ hw
  · intro h
    exact ⟨V.str z, List.mem_map.mpr ⟨z, h, rfl⟩, (beq_self_eq_true z : (z == z) = true)⟩
section
variable {P : Program} {w : World} {K : PySem.W.Frag} {mg : Str → Option Value} {base : Heap}
theorem ok_badL {C f B : Addr} {fd : FuncData} (F : Fun K "__init__" "BadLabel.__init__" sBL f fd) (TB : OwnBase K mg "StoreError" B) (oex : OexC K C) (nof : PySem.W.findIn K (.ref C) "label" = some none) :
    FnOk P w K mg base CX0 1 f fd ["self", "label"] (spErr C "label") := by
  refine F.ok scBL (fun vs H Q E h => ?_) (fun cdv A outer s H vs Q E hr h => ?_)
  · obtain ⟨a, v, rfl, _⟩ := h
    rfl
  · obtain ⟨a, v, rfl, e, q⟩ := h
    refine ⟨_, pss_cons (ps_expr (pe_baseI (by rfl) TB (pa_cons (pv 0) (pa_cons pe_str pa_nil)))) (pss_one (ps_ost (pv 0) (pv 1))), ?_⟩
    refine ⟨.ref a, rfl, a, C, _, rfl, by show (1 : Nat) ≤ 1000; decide, oex, e, ?_⟩
    exact ⟨v, rfl, .ref a, rfl, a, C, rfl, oex, nof, .inl ⟨e, fun d nd ne => q d nd ne⟩⟩
theorem ok_lab {C CB f fB : Addr} {fd fdB : FuncData} (F : Fun K "__init__" "Label.__init__" sLab f fd) (M : Blt mg) (T : LabC K mg C) (R : RowT K mg) (TE : ErrT K mg "BadLabel" "label" CB fB)
    (GB : FnOk P w K mg base CX0 1 fB fdB ["self", "label"] (spErr CB "label")) (bB : Binds K fdB ["self", "label"] []) : FnOk P w K mg base (L2.CX P w) 3 f fd ["self", "name"] (spLab K C CB) := by
  obtain ⟨aR, oR, gR, lR, cR, dR, hR⟩ := R
  refine F.okX scLab (fun vs H Q E h => ?_) (fun cdv A outer s H vs Q E hr h => ?_)
  · obtain ⟨a, dx, v, d, rfl, _⟩ := h
    rfl
  · obtain ⟨a, dx, v, d, rfl, ea, hv, h⟩ := h
    have gl : ∀ {X : Cx}, X.mg = mg → X.mg "LABELS" = some (.ref aR) := fun e => e ▸ gR
    refine ⟨_, pss_cons (ps_if (PW.pt (pw_or (pt_not (pt_val (pe_callB call_isi (by rfl) M.isinstance (by decide +kernel) (pa_cons (pv 1) (pa_cons (pe_bltn (v := .ty "str") (by rfl) M.str (by decide +kernel) rfl) pa_nil)))))
        (pw_or1 (pt_cmpR op_notIn_seq (pv 1) (pe_glob (v := .ref aR) (by rfl) gR rfl) (by rfl))))) (pss_one (ps_raise rfl (takes_of rfl rfl rfl rfl) (pmk_oex (k := 1) (ps := ["self", "label"]) (sp := spErr CB "label") (ds := []) (dvs := []) TE.oex TE.ini TE.typ GB hr bB .nil pass0 (by rfl) TE.nam (pa_cons (pv 1) pa_nil)))) pss_nil)
      (pss_cons (ps_fld (pv 0) (pv 1) (by rfl))
      (pss_one (ps_fld (pv 0) (pe_op op_sub (pe_callB call_len_seq (by rfl) M.len PySem.boot_len (pa_cons (pe_glob (v := .ref aR) (by rfl) gR rfl) pa_nil))
        (pe_bm PySem.F.plainAttrs_tuple PySem.F.slot_tuple_index PySem.F.type_tuple_index mt_tup_index (pe_glob (v := .ref aR) (by rfl) gR rfl) (pa_cons (pv 1) pa_nil))) (by rfl)))), ?_⟩
    refine ⟨v, rfl, v, .ty "str", _, _, _, rfl, .ty "str", dp_ty hv, kit_str K d, _, rfl, ?_⟩
    rcases h with ⟨i, z, hi, rfl, q⟩ | ⟨hno, q⟩
    · have hd : d = .str z := by cases hv; rfl
      subst hd
      have hz : z ∈ labRow := List.mem_of_getElem? hi
      have i4 : i < 4 := List.getElem?_eq_some_iff.mp hi |>.1
      refine iteF ⟨V.str z, rfl, aR, _, rfl, .inr (hR H), rfl, by decide, _, rfl, ?_⟩
      have e1 : inV (V.str z) (labRow.map V.str) = true := by rw [inV_row, decide_eq_true hz]
      simp only [e1]
      refine iteF ⟨V.str z, rfl, .ref a, rfl, a, C, dx, [], rfl, ea, T.cl, T.nn, by decide, ?_⟩
      refine ⟨aR, _, rfl, .inr (hR _), .inr (.inl ⟨rfl, oR, lR, cR, dR⟩), V.str z, rfl, ?_⟩
      have at_ : ∀ m, m < i → labRow[m]? ≠ some z := fun m hm => by
        rcases row_str hi with ⟨e, e'⟩ | ⟨e, e'⟩ | ⟨e, e'⟩ | ⟨e, e'⟩ <;> subst e e'
        · omega
        · obtain rfl : m = 0 := by omega
          decide
        · rcases (show m = 0 ∨ m = 1 by omega) with e | e <;> subst e <;> decide
        · rcases (show m = 0 ∨ m = 1 ∨ m = 2 by omega) with e | e | e <;> subst e <;> decide
      refine ⟨aR, labRow, z, i, rfl, rfl, hR _, hi, at_, ?_⟩
      refine ⟨_, _, rfl, rfl, .ref a, rfl, a, C, dx, _, rfl, upd_same, T.cl, T.nh, (by show (1 : Nat) < 1000; decide), ?_⟩
      rw [upd_twice]
      refine q _ ?_ rfl rfl rfl
      have e4 : ((List.map V.str labRow).length : Int) = 4 := by decide
      rw [e4]
      rfl
    · have out : spOut H v CB E := q
      cases hv with
      | str z =>
        have hz : z ∉ labRow := of_decide_eq_true hno
        refine iteF ⟨V.str z, rfl, aR, _, rfl, .inr (hR H), rfl, by decide, _, rfl, ?_⟩
        have e1 : inV (V.str z) (labRow.map V.str) = false := by rw [inV_row, decide_eq_false hz]
        simp only [e1]
        exact iteT ⟨V.str z, rfl, by show (1 : Nat) ≤ 1000; decide, mk_left out⟩
      | non => exact iteT (iteT ⟨_, rfl, by show (1 : Nat) ≤ 1000; decide, mk_left out⟩)
      | bl b => exact iteT (iteT ⟨_, rfl, by show (1 : Nat) ≤ 1000; decide, mk_left out⟩)
      | int b => exact iteT (iteT ⟨_, rfl, by show (1 : Nat) ≤ 1000; decide, mk_left out⟩)
      | lst h1 h2 => exact iteT (iteT ⟨_, rfl, by show (1 : Nat) ≤ 1000; decide, mk_left out⟩)
      | tup h1 h2 => exact iteT (iteT ⟨_, rfl, by show (1 : Nat) ≤ 1000; decide, mk_left out⟩)
theorem ok_labEq {C f : Addr} {fd : FuncData} (F : Fun K "__eq__" "Label.__eq__" sLabEq f fd) (M : Blt mg) (T : LabC K mg C) : FnOk P w K mg base CX0 1 f fd ["self", "other"] (spLabEq K C) := by
  refine F.ok scLabEq (fun vs H Q E h => ?_) (fun cdv A outer s H vs Q E hr h => ?_)
  · obtain ⟨a, i, y, rfl, _⟩ := h
    rfl
  · obtain ⟨a, i, y, rfl, ⟨dx, fs, z, ea, hi, ha, na, _⟩, h⟩ := h
    refine ⟨_, pss_one (ps_ret (pe_and (pe_callB call_isi (by rfl) M.isinstance (by decide +kernel) (pa_cons (pv 1) (pa_cons (pe_glob (v := .ref C) (by rfl) T.gC rfl) pa_nil)))
      (pe_one (pe_cmpR op_eq (pe_fld (pv 0) (by rfl)) (pe_fld (pv 1) (by rfl)) (nomark _))))), ?_⟩
    rcases h with ⟨b, j, rfl, ⟨dy, gs, z2, eb, hj, hb, nb, _⟩, q⟩ | ⟨z2, rfl, q⟩
    · refine ⟨_, rfl, _, _, _, _, _, rfl, .own C, .base (.ins eb T.cl T.ca T.cg T.ct T.cm), T.me, _, rfl, iteT ?_⟩
      refine ⟨_, rfl, a, C, dx, fs, _, rfl, ea, T.cl, T.nh, ha, _, rfl, b, C, dy, gs, _, rfl, eb, T.cl, T.nh, hb, rfl, ?_⟩
      have e : decide (V.int (4 - (i : Int)) = V.int (4 - (j : Int))) = decide (i = j) := by
        by_cases h : i = j
        · subst h
          rw [decide_eq_true rfl, decide_eq_true rfl]
        · rw [decide_eq_false h, decide_eq_false (fun z => h (by have := V.int.inj z; omega))]
      rw [e]
      exact q
    · exact ⟨_, rfl, _, _, _, _, _, rfl, .own C, .base (.str z2), T.ot, _, rfl, iteF q⟩
theorem ok_labLt {C f : Addr} {fd : FuncData} (F : Fun K "__lt__" "Label.__lt__" sLabLt f fd) (M : Blt mg) (T : LabC K mg C) : FnOk P w K mg base CX0 1 f fd ["self", "other"] (spLabLt C) := by
  refine F.ok scLabLt (fun vs H Q E h => ?_) (fun cdv A outer s H vs Q E hr h => ?_)
  · obtain ⟨a, b, i, j, rfl, _⟩ := h
    rfl
  · obtain ⟨a, b, i, j, rfl, ⟨dx, fs, z, ea, hi, ha, na, _⟩, ⟨dy, gs, z2, eb, hj, hb, nb, _⟩, q⟩ := h
    refine ⟨_, pss_cons (ps_if (pt_not (pt_val (pe_callB call_isi (by rfl) M.isinstance (by decide +kernel) (pa_cons (pv 1) (pa_cons (pe_glob (v := .ref C) (by rfl) T.gC rfl) pa_nil))))) (pss_one ps_never) pss_nil)
      (pss_one (ps_ret (pe_cmpR op_lt (pe_fld (pv 0) (by rfl)) (pe_fld (pv 1) (by rfl)) (nomark _)))), ?_⟩
    refine ⟨_, rfl, _, _, _, _, _, rfl, .own C, .base (.ins eb T.cl T.ca T.cg T.ct T.cm), T.me, _, rfl, iteF ?_⟩
    refine ⟨_, rfl, a, C, dx, fs, _, rfl, ea, T.cl, T.nh, ha, _, rfl, b, C, dy, gs, _, rfl, eb, T.cl, T.nh, hb, _, _, rfl, rfl, ?_⟩
    have e : decide ((4 - (i : Int)) < 4 - (j : Int)) = decide (j < i) := by
      by_cases h : j < i
      · rw [decide_eq_true h, decide_eq_true (by omega)]
      · rw [decide_eq_false h, decide_eq_false (by omega)]
    rw [← e] at q
    exact q
theorem ok_labLe {C f : Addr} {fd : FuncData} (F : Fun K "__le__" "Label.__le__" sLabLe f fd) (M : Blt mg) (T : LabC K mg C) : FnOk P w K mg base CX0 1 f fd ["self", "other"] (spLabLe C) := by
  refine F.ok scLabLe (fun vs H Q E h => ?_) (fun cdv A outer s H vs Q E hr h => ?_)
  · obtain ⟨a, b, i, j, rfl, _⟩ := h
    rfl
  · obtain ⟨a, b, i, j, rfl, ⟨dx, fs, z, ea, hi, ha, na, _⟩, ⟨dy, gs, z2, eb, hj, hb, nb, _⟩, q⟩ := h
    refine ⟨_, pss_cons (ps_if (pt_not (pt_val (pe_callB call_isi (by rfl) M.isinstance (by decide +kernel) (pa_cons (pv 1) (pa_cons (pe_glob (v := .ref C) (by rfl) T.gC rfl) pa_nil))))) (pss_one ps_never) pss_nil)
      (pss_one (ps_ret (pe_cmpR op_le (pe_fld (pv 0) (by rfl)) (pe_fld (pv 1) (by rfl)) (nomark _)))), ?_⟩
    refine ⟨_, rfl, _, _, _, _, _, rfl, .own C, .base (.ins eb T.cl T.ca T.cg T.ct T.cm), T.me, _, rfl, iteF ?_⟩
    refine ⟨_, rfl, a, C, dx, fs, _, rfl, ea, T.cl, T.nh, ha, _, rfl, b, C, dy, gs, _, rfl, eb, T.cl, T.nh, hb, _, _, rfl, rfl, ?_⟩
    have e : decide ((4 - (i : Int)) ≤ 4 - (j : Int)) = decide (j ≤ i) := by
      by_cases h : j ≤ i
      · rw [decide_eq_true h, decide_eq_true (by omega)]
      · rw [decide_eq_false h, decide_eq_false (by omega)]
    rw [← e] at q
    exact q
theorem ok_steady {C f : Addr} {fd : FuncData} (F : Fun K "is_steady" "Label.is_steady" sSteady f fd) (T : LabC K mg C) : FnOk P w K mg base CX0 1 f fd ["self"] (spSteady C) := by
  refine F.ok scSteady (fun vs H Q E h => ?_) (fun cdv A outer s H vs Q E hr h => ?_)
  · obtain ⟨a, i, rfl, _⟩ := h
    rfl
  · obtain ⟨a, i, rfl, ⟨dx, fs, z, ea, hi, ha, na, _⟩, q⟩ := h
    refine ⟨_, pss_one (ps_ret (pe_cmpR op_ne (pe_fld (pv 0) (by rfl)) pe_str (nomark _))), ?_⟩
    refine ⟨_, rfl, a, C, dx, fs, _, rfl, ea, T.cl, T.nn, na, rfl, ?_⟩
    have e : (!decide (V.str z = V.str "changing")) = decide (i ≠ 3) := by
      rcases row_str hi with ⟨e, e'⟩ | ⟨e, e'⟩ | ⟨e, e'⟩ | ⟨e, e'⟩ <;> subst e e' <;> decide
    rw [e]
    exact q
/-- Label(name), the name number i, in a def that lets nothing out: a new label -/
theorem lab_made {H H1 : Hp} {C CB : Addr} {E : XK} {Q : VK} {i : Nat} {z : Str} (hi : labRow[i]? = some z) (s0 : Same H H1) (h : ∀ x H', H1 x = none → Same H H' → Same H1 H' → LabAt H' C x i → Q (.ref x) H') :
    ∀ x dx, H1 x = none → H1 dx = none → dx ≠ x → spLab K C CB [.ref x, .str z] (upd (upd H1 dx (.own x)) x (.ins C dx [])) (fun v H2 => v = .non ∧ Q (.ref x) H2) E := fun x dx nx nd ne => by
  refine ⟨x, dx, _, _, rfl, upd_same, .str z, .inl ⟨i, z, hi, rfl, fun fs f1 f2 f3 f4 => ⟨rfl, ?_⟩⟩⟩
  have s1 : Same H1 (upd (upd (upd H1 dx (.own x)) x (.ins C dx [])) x (.ins C dx fs)) := fun b o e => by
    rw [upd_ne (ne_of_none e nx), upd_ne (ne_of_none e nx), upd_ne (ne_of_none e nd)]
    exact e
  exact h x _ nx (s0.trans s1) s1 ⟨dx, fs, z, upd_same, hi, f1, f2, f3, f4⟩
/-- what is at hand of the class Label, its __init__ with its promise -/
structure LabM (P : Program) (w : World) (K : PySem.W.Frag) (mg : Str → Option Value) (base : Heap) (C CB f : Addr) (fd : FuncData) : Prop where
  make : Mk K C f
  ok : FnOk P w K mg base (L2.CX P w) 3 f fd ["self", "name"] (spLab K C CB)
  bi : Binds K fd ["self", "name"] []
  gC : mg "Label" = some (.ref C)
/-- the labels above the one number i, from the next one up: a new list -/
def Higher (H : Hp) (C : Addr) (i : Nat) (ys : List V) : Prop := ys.length = i ∧ ∀ k v, ys[k]? = some v → ∃ a, v = .ref a ∧ LabAt H C a (i - 1 - k)
def spHigh (K : PySem.W.Frag) (C : Addr) : Sp := fun vs H Q _ => ∃ (a : Addr) (i : Nat), vs = [.ref a] ∧ LabAt H C a i ∧ ∀ l ys H', Same H H' → H' l = some (.lst ys) → Higher H' C i ys → Q (.ref l) H'
theorem take_rev {i k : Nat} (hi : i ≤ 4) (hk : k < i) : ((labRow.map V.str).take i).reverse[k]? = (labRow[i - 1 - k]?).map V.str := by
  have len : (labRow.map V.str).length = 4 := rfl
  rw [List.getElem?_reverse (by rw [List.length_take, len]; omega), List.length_take, len, List.getElem?_take_of_lt (by omega), List.getElem?_map]
  congr 2
  omega
theorem cut_to (i : Nat) (hi : i < 4) : cutV (labRow.map V.str) none (some (i : Int)) = (labRow.map V.str).take i := by
  rcases (show i = 0 ∨ i = 1 ∨ i = 2 ∨ i = 3 by omega) with e | e | e | e <;> subst e <;> rfl
theorem ok_high {C CB f fL : Addr} {fd fdL : FuncData} (F : Fun K "higher" "Label.higher" sHigh f fd) (T : LabC K mg C) (R : RowT K mg) (L : LabM P w K mg base C CB fL fdL) : FnOk P w K mg base CX0 5 f fd ["self"] (spHigh K C) := by
  obtain ⟨aR, oR, gR, lR, cR, dR, hR⟩ := R
  refine F.ok scHigh (fun vs H Q E h => ?_) (fun cdv A outer s H vs Q E hr h => ?_)
  · obtain ⟨a, i, rfl, _⟩ := h
    rfl
  · obtain ⟨a, i, rfl, hl, q⟩ := h
    have i4 := hl.lt
    obtain ⟨dx, fs, z, ea, hi, ha, na, _⟩ := id hl
    refine ⟨_, pss_cons (ps_set (i := 1) scHigh.nd rfl (.inl rfl) (pe_slice sl_tup (pe_glob (v := .ref aR) (by rfl) gR rfl) po_none (po_some
          (pe_bm PySem.F.plainAttrs_tuple PySem.F.slot_tuple_index PySem.F.type_tuple_index mt_tup_index (pe_glob (v := .ref aR) (by rfl) gR rfl) (pa_cons (pe_fld (pv 0) (by rfl)) pa_nil)))))
      (pss_one (ps_ret (pe_lc (own := [("name", 2)]) (g := gName 2) (te := tMake C (spLab K C CB) [] (fun _ _ _ => False) (tCons (tVar 2) tNil)) (by rfl) scHigh.nd (pi_tup (pe_revT (pv 1))) (blkOk_by (own := [("name", 2)]) (N := ["self", "above", "name"]) (sc := defScope sHigh) (by decide +kernel))
        (fun _ _ _ _ _ => pg_name (i := 2) scHigh.nd rfl (Or.inl rfl)) (fun _ _ _ _ _ => pts_nil) (fun _ _ _ _ _ => pe_make (dvs := []) L.make L.ok hr (by rfl) L.gC L.bi .nil pass00 (pa_cons (pv 2) pa_nil))))), ?_⟩
    have at_ : ∀ m, m < i → labRow[m]? ≠ some z := fun m hm => by
      rcases row_str hi with ⟨e, e'⟩ | ⟨e, e'⟩ | ⟨e, e'⟩ | ⟨e, e'⟩ <;> subst e e'
      · omega
      · obtain rfl : m = 0 := by omega
        decide
      · rcases (show m = 0 ∨ m = 1 by omega) with e | e <;> subst e <;> decide
      · rcases (show m = 0 ∨ m = 1 ∨ m = 2 by omega) with e | e | e <;> subst e <;> decide
    refine ⟨.inr (.inl ⟨rfl, oR, lR, cR, dR⟩), .ref a, rfl, a, C, dx, fs, _, rfl, ea, T.cl, T.nn, na, aR, labRow, z, i, rfl, rfl, hR _, hi, at_, ?_⟩
    refine ⟨_, rfl, aR, _, rfl, hR _, ?_, fun p np => ?_⟩
    · rcases (show i = 0 ∨ i = 1 ∨ i = 2 ∨ i = 3 by omega) with e | e | e | e <;> subst e <;> decide
    · rw [cut_to i i4]
      refine ⟨.ref p, rfl, p, _, rfl, .inl (.inl upd_same), fun r nr => ?_⟩
      have len : ((labRow.map V.str).take i).reverse.length = i := by
        rw [List.length_reverse, List.length_take]
        show min i 4 = i
        omega
      refine ⟨r, rfl, ⟨_, .inl (.inl upd_same)⟩, fun D hD => ?_⟩
      refine lc_rel (vs := [2]) (j := 2) (D := D) (walk_tup (K := K) (a := r) (xs := ((labRow.map V.str).take i).reverse)) (fun k v H' => ∃ a, v = .ref a ∧ LabAt H' C a (i - 1 - k)) (by rw [len]; omega) hD (fun x => rfl)
        (fun H' s' => same_sqT s' (.inl (.inl upd_same))) (fun k v H2 H3 zs eD b d => ?_) (fun k x H2 H3 hk s2 y => ?_) (fun ys H2 s2 eD el hy => ?_)
      · obtain ⟨a2, rfl, l2⟩ := d
        exact ⟨a2, rfl, l2.but eD b⟩
      · rw [len] at hk
        obtain ⟨rfl, ex⟩ := y
        rw [take_rev (by omega) hk] at ex
        obtain ⟨z2, hz2, ex2⟩ := Option.map_eq_some_iff.mp ex
        subst ex2
        refine ⟨Same.refl _, fun Q2 q2 => ⟨V.str z2, rfl, lab_made hz2 (Same.refl _) fun x H' nx s3 s4 l3 => q2 _ _ s4 ⟨x, rfl, l3⟩⟩⟩
      · have b1 : Same H H2 := (same_upd np).trans ((same_upd nr).trans s2)
        exact q D ys H2 b1 eD ⟨el.trans len, fun k v e => hy k v e⟩
/-- Label's comparison < -/
structure LabLt (P : Program) (w : World) (K : PySem.W.Frag) (mg : Str → Option Value) (base : Heap) (C g : Addr) (fd : FuncData) : Prop where
  at_ : PySem.W.findIn K (.ref C) (cmpInfo .Lt).2.1 = some (some (.ref g))
  fn : PySem.W.isFn K (.ref g) = true
  ok : FnOk P w K mg base CX0 1 g fd ["self", "other"] (spLabLt C)
  bi : Binds K fd ["self", "other"] []
/-- a row of labels with the numbers ms -/
def LabsAt (H : Hp) (C : Addr) (xs : List V) (ms : List Nat) : Prop := xs.length = ms.length ∧ ∀ (k : Nat) v m, xs[k]? = some v → ms[k]? = some m → ∃ b, v = .ref b ∧ LabAt H C b m
def deepest (ms : List Nat) : Nat := ms.foldl (fun a b => max a b) 0
theorem deepest_snoc {ms : List Nat} {k m : Nat} (h : ms[k]? = some m) : deepest (ms.take (k + 1)) = max (deepest (ms.take k)) m := by
  unfold deepest
  rw [take_snoc h, List.foldl_append]
  rfl
def spLeast (K : PySem.W.Frag) (C : Addr) : Sp := fun vs H Q _ => ∃ (a : Addr) (xs : List V) (ms : List Nat), vs = [.ref a] ∧ (SqL K H a xs ∨ SqT K H a xs) ∧ LabsAt H C xs ms ∧ ∀ x H', Same H H' → LabAt H' C x (deepest ms) → Q (.ref x) H'
theorem ok_least {C CB f fL g : Addr} {fd fdL fdg : FuncData} (F : Fun K "least" "least" sLeast f fd) (L : LabM P w K mg base C CB fL fdL) (T : LabLt P w K mg base C g fdg) : FnOk P w K mg base CX0 5 f fd ["labels"] (spLeast K C) := by
  refine F.ok scLeast (fun vs H Q E h => ?_) (fun cdv A outer s H vs Q E hr h => ?_)
  · obtain ⟨a, xs, ms, rfl, _⟩ := h
    rfl
  · obtain ⟨a, xs, ms, rfl, hS, ⟨hlen, hat⟩, q⟩ := h
    have turn : ∀ (k : Nat) (v : V) (σ : L2.St) (H2 : Hp) (D : Ends), xs[k]? = some v → (∃ x y, σ = [some (.ref a), some (.ref x), y] ∧ Same H H2 ∧ LabAt H2 C x (deepest (ms.take k))) →
        (∀ σ' H', (∃ x y, σ' = [some (.ref a), some (.ref x), y] ∧ Same H H' ∧ LabAt H' C x (deepest (ms.take (k + 1)))) → D.nx σ' H') →
        gName 2 v σ H2 fun σ2 H3 => tIfS (tTest (tOp (rOwnI C (spLabLt C)) (tVar 2) (tVar 1))) (tAsg (tVar 2) (gName 1)) tNext D σ2 H3 := fun k v σ H2 D hk hW next => by
      obtain ⟨x, y, rfl, s2, lx⟩ := hW
      have hk' : k < ms.length := by
        have := (List.getElem?_eq_some_iff.mp hk).1
        omega
      obtain ⟨b, rfl, lb⟩ := hat k v ms[k] hk (List.getElem?_eq_getElem hk')
      have lb2 : LabAt H2 C b ms[k] := by
        obtain ⟨dx, fs, z, e, r⟩ := lb
        exact ⟨dx, fs, z, s2 _ _ e, r⟩
      obtain ⟨dx, fs, z, e1, r1⟩ := id lx
      obtain ⟨dy, gs, z2, e2, r2⟩ := id lb2
      have ed := deepest_snoc (ms := ms) (List.getElem?_eq_getElem hk')
      refine ⟨.ref b, rfl, .ref x, rfl, b, x, dy, dx, gs, fs, rfl, rfl, e2, e1, b, x, ms[k], deepest (ms.take k), rfl, lb2, lx, _, rfl, ite2 (fun t => ?_) (fun t => ?_)⟩
      · have lt := of_decide_eq_true t
        refine ⟨.ref b, rfl, next _ _ ⟨b, some (.ref b), rfl, s2, ?_⟩⟩
        rw [ed, Nat.max_eq_right (by omega)]
        exact lb2
      · have nlt : ¬ (deepest (ms.take k) < ms[k]) := fun h => t (decide_eq_true h)
        refine next _ _ ⟨x, some (.ref b), rfl, s2, ?_⟩
        rw [ed, Nat.max_eq_left (by omega)]
        exact lx
    have fin : ∀ (σ : L2.St) (H' : Hp), (∃ x y, σ = [some (.ref a), some (.ref x), y] ∧ Same H H' ∧ LabAt H' C x (deepest (ms.take xs.length))) → tRet (tVar 1) { nx := fun _ H' => Q .non H', rt := Q } σ H' := fun σ H' ⟨x, y, e, s2, lx⟩ => by
      subst e
      rw [hlen, List.take_length] at lx
      exact ⟨.ref x, rfl, q x H' s2 lx⟩
    rcases hS with hS | hS
    · refine ⟨_, pss_cons (ps_set (i := 1) scLeast.nd rfl (.inl rfl) (pe_make (dvs := []) L.make L.ok hr (by rfl) L.gC L.bi .nil pass00 (pa_cons pe_str pa_nil)))
        (pss_cons (ps_for PassesOwn.never rfl (pi_list (pv 0)) (pg_name (i := 2) scLeast.nd rfl (.inl rfl))
          (pss_one (ps_if (pt_cmpR (op_ownI (op := .Lt) T.at_ T.fn T.ok T.bi (hr.mono (by decide))) (pv 2) (pv 1) (nomark _)) (pss_one (ps_set (i := 1) scLeast.nd rfl (.inl rfl) (pv 2))) pss_nil)))
        (pss_one (ps_ret (pv 1)))), ?_⟩
      refine q_asgP (Pr := fun v H1 => ∃ x0, v = .ref x0 ∧ Same H H1 ∧ LabAt H1 C x0 0) (fun Q' hq => lab_made (i := 0) rfl (Same.refl H) fun x0 H1 nx s1 _ l0 => hq _ _ ⟨x0, rfl, s1, l0⟩) (fun v H1 hv => ?_)
      obtain ⟨x0, rfl, s1, l0⟩ := hv
      refine ⟨.ref a, rfl, a, rfl, ⟨_, s1.seq hS⟩, ?_⟩
      exact for_list (K := K) (a := a) (xs := xs) (fun k σ H' => ∃ x y, σ = [some (.ref a), some (.ref x), y] ∧ Same H H' ∧ LabAt H' C x (deepest (ms.take k))) ⟨x0, none, rfl, s1, l0⟩ (fun k σ H' _ ⟨_, _, _, s2, _⟩ => s2.seq hS)
        (fun k v σ H2 hk hW => turn k v σ H2 _ hk hW fun σ' H' h => h) (fun σ H' h => fin σ H' h)
    · refine ⟨_, pss_cons (ps_set (i := 1) scLeast.nd rfl (.inl rfl) (pe_make (dvs := []) L.make L.ok hr (by rfl) L.gC L.bi .nil pass00 (pa_cons pe_str pa_nil)))
        (pss_cons (ps_for PassesOwn.never rfl (pi_tup (pv 0)) (pg_name (i := 2) scLeast.nd rfl (.inl rfl))
          (pss_one (ps_if (pt_cmpR (op_ownI (op := .Lt) T.at_ T.fn T.ok T.bi (hr.mono (by decide))) (pv 2) (pv 1) (nomark _)) (pss_one (ps_set (i := 1) scLeast.nd rfl (.inl rfl) (pv 2))) pss_nil)))
        (pss_one (ps_ret (pv 1)))), ?_⟩
      refine q_asgP (Pr := fun v H1 => ∃ x0, v = .ref x0 ∧ Same H H1 ∧ LabAt H1 C x0 0) (fun Q' hq => lab_made (i := 0) rfl (Same.refl H) fun x0 H1 nx s1 _ l0 => hq _ _ ⟨x0, rfl, s1, l0⟩) (fun v H1 hv => ?_)
      obtain ⟨x0, rfl, s1, l0⟩ := hv
      refine ⟨.ref a, rfl, a, rfl, ⟨_, same_sqT s1 hS⟩, ?_⟩
      exact for_tup (K := K) (a := a) (xs := xs) (fun k σ H' => ∃ x y, σ = [some (.ref a), some (.ref x), y] ∧ Same H H' ∧ LabAt H' C x (deepest (ms.take k))) ⟨x0, none, rfl, s1, l0⟩ (fun k σ H' _ ⟨_, _, _, s2, _⟩ => same_sqT s2 hS)
        (fun k v σ H2 hk hW => turn k v σ H2 _ hk hW fun σ' H' h => h) (fun σ H' h => fin σ H' h)
end
/-! ### the law of labels: its own defs -/
abbrev sRef : Stmt := topS 11
abbrev sPair : Stmt := topS 12
theorem scRef : FnScope ["_law_odd", "e"] ["_law_odd"] (defScope sRef) := ⟨rfl, rfl, rfl, by decide +kernel, rfl, by decide +kernel, by decide +kernel⟩
theorem scPair : FnScope ["_law_row", "_law_one", "_law_other", "_law_here", "_law_there"] ["_law_row", "_law_one", "_law_other"] (defScope sPair) := ⟨rfl, rfl, rfl, by decide +kernel, rfl, by decide +kernel, by decide +kernel⟩
/-- what is asked of a datum that is shown twice -/
structure Shown (d : PyData) : Prop where
  sh : d.showable = true
  nd : d.hasDict = false
  dp : d.depth ≤ 60
  sz : d.shown.length ≤ sizeLine
def spRefused (K : PySem.W.Frag) : Sp := fun vs H Q _ => ∃ v d, vs = [v] ∧ Dp K H v d ∧ noLab d = true ∧ Shown d ∧ ∀ H', Same H H' → Q (.bl true) H'
theorem iteT' {c : Bool} {A B : Prop} (hc : c = true) (h : A) : if c = true then A else B := by
  rw [if_pos hc]
  exact h
section
variable {P : Program} {w : World} {K : PySem.W.Frag} {mg : Str → Option Value} {base : Heap}
/-- what the law asks of BadLabel besides -/
structure BadC (K : PySem.W.Frag) (mg : Str → Option Value) (CB S : Addr) : Prop where
  gC : mg "BadLabel" = some (.ref CB)
  gS : mg "StoreError" = some (.ref S)
  gV : mg "ValueError" = none
  xf : XfC K CB
  no : PySem.W.findIn K (.ref CB) "label" = some none
  er : ErrC K CB
  ex : PySem.W.exmOne K (.ref CB) (.ref CB) = some true
  iS : PySem.W.kitOne K (.ref CB) (.ref S) = some true
  iV : PySem.W.kitOne K (.ref CB) (.type "ValueError") = some true
theorem ok_refused {C CB S f fL : Addr} {fd fdL : FuncData} (F : Fun K "_law_refused" "_law_refused" sRef f fd) (M : Blt mg) (B : BadC K mg CB S) (L : LabM P w K mg base C CB fL fdL) : FnG P w K mg base 5 f fd ["_law_odd"] (spRefused K) := by
  refine Fun.okG F scRef (fun vs H Q h => ?_) (fun cdv A outer s H vs Q gu hr h => ?_)
  · obtain ⟨v, d, rfl, _⟩ := h
    rfl
  · obtain ⟨v, d, rfl, hv, hno, sh, q⟩ := h
    have un0 : (A.deeper (envOfC "_law_refused" (defScope sRef) s.heap.objs.size f cdv)).units + 100 < cLine := by have := hr.un; omega
    refine ⟨_, pss_cons (ps_try_as (i := 1) (tb := fun W => tDrop (tMakeS C (spLab K C CB) (WE W) (tCons (tVar 0) tNil))) (Wout := fun _ _ _ _ => False) rfl rfl scRef.nd rfl rfl ⟨rfl, by decide, Or.inl B.gC⟩ takes0
        (fun W pn xe tk _ => pss_one (ps_expr (pe_makeS L.make L.ok hr (by rfl) L.gC L.bi (fun σ => passAt tk σ) (pa_cons (pv 0) pa_nil))))
        (fun a oe cls d pn hz hf => pss_one (ps_ret (pe_and (pe_cmpR op_eq (pe_callB (id := "repr") (r := rReprD K) (call_reprD (by exact gu) (by exact un0)) (by rfl) M.repr (by decide +kernel) (pa_cons (pe_xf B.xf B.no hz hf (pv 1)) pa_nil)) (pe_callB (id := "repr") (r := rReprD K) (call_reprD (by exact gu) (by exact un0)) (by rfl) M.repr (by decide +kernel) (pa_cons (pv 0) pa_nil)) (nomark _))
          (pe_and (pe_callB (id := "isinstance") (r := rIsD K CB a cls d) (call_isD B.er hz hf) (by rfl) M.isinstance (by decide +kernel) (pa_cons (pv 1) (pa_cons (pe_glob (v := .ref S) (by rfl) B.gS rfl) pa_nil)))
            (pe_one (pe_callB (id := "isinstance") (r := rIsD K CB a cls d) (call_isD B.er hz hf) (by rfl) M.isinstance (by decide +kernel) (pa_cons (pv 1) (pa_cons (pe_bltn (v := .ty "ValueError") (by rfl) B.gV (by decide +kernel) rfl) pa_nil)))))))))
      (pss_one (ps_ret pe_bl)), ?_⟩
    have s1 : ∀ x dx, H x = none → H dx = none → dx ≠ x → Same H (upd (upd H dx (.own x)) x (.ins C dx [])) := fun x dx nx nd ne b o e => by
      rw [upd_ne (ne_of_none e nx), upd_ne (ne_of_none e nd)]
      exact e
    refine ⟨v, rfl, fun x dx nx nd ne => ⟨x, dx, v, d, rfl, upd_same, dp_same (s1 x dx nx nd ne) hv, .inr ⟨hno, fun dd H' left => ?_⟩⟩⟩
    obtain ⟨nd0, s2, ed⟩ := left
    have s3 : Same H H' := (s1 x dx nx nd ne).trans s2
    have hv' : Dp K H' v d := dp_same s3 hv
    refine ⟨true, B.ex, fun _ a na => ?_, fun z => Bool.noConfusion z⟩
    refine ⟨.ref a, rfl, rfl, rfl, dd, _, v, rfl, ed, rfl, v, d, rfl, hv', sh.sh, sh.nd, sh.dp, sh.sz, ?_⟩
    refine ⟨v, rfl, v, d, rfl, hv', sh.sh, sh.nd, sh.dp, sh.sz, rfl, _, rfl, ?_⟩
    refine iteT' (decide_eq_true rfl) ?_
    refine ⟨.ref a, rfl, .ref S, .ref S, true, dd, _, rfl, fun u r => r, rfl, rfl, ed, B.iS, _, rfl, iteT ?_⟩
    exact ⟨.ref a, rfl, .ty "ValueError", .type "ValueError", true, dd, _, rfl, fun u r => r, rfl, rfl, ed, B.iV, q H' s3⟩
end
section
variable {P : Program} {w : World} {K : PySem.W.Frag} {mg : Str → Option Value} {base : Heap}
/-- the other operators of labels -/
structure LabO (P : Program) (w : World) (K : PySem.W.Frag) (mg : Str → Option Value) (base : Heap) (C gE gL gS gH : Addr) (dE dL dS dH : FuncData) : Prop where
  eq_ : PySem.W.findIn K (.ref C) (cmpInfo .Eq).2.1 = some (some (.ref gE))
  eqf : PySem.W.isFn K (.ref gE) = true
  eqo : FnOk P w K mg base CX0 1 gE dE ["self", "other"] (spLabEq K C)
  eqb : Binds K dE ["self", "other"] []
  le_ : PySem.W.findIn K (.ref C) (cmpInfo .LtE).2.1 = some (some (.ref gL))
  lef : PySem.W.isFn K (.ref gL) = true
  leo : FnOk P w K mg base CX0 1 gL dL ["self", "other"] (spLabLe C)
  leb : Binds K dL ["self", "other"] []
  stm : Meth K C "is_steady" gS
  sto : FnOk P w K mg base CX0 1 gS dS ["self"] (spSteady C)
  stb : Binds K dS ["self"] []
  him : Meth K C "higher" gH
  hio : FnOk P w K mg base CX0 5 gH dH ["self"] (spHigh K C)
  hib : Binds K dH ["self"] []
def spPair (K : PySem.W.Frag) : Sp := fun vs H Q _ => ∃ (r : Addr) (i j : Nat), vs = [.ref r, .int i, .int j] ∧ SqL K H r (labRow.map V.str) ∧ i < 4 ∧ j < 4 ∧ ∀ H', Same H H' → Q (.bl true) H'
theorem q_parP {ta : TA} {tz : TS} {D : Ends} {σ : L2.St} {H : Hp} {i j : Nat} (Pr : List V → Hp → Prop) (h : ∀ Q : List V → Hp → Prop, (∀ vs H', Pr vs H' → Q vs H') → ta σ H Q)
    (k : ∀ vs H1, Pr vs H1 → ∃ v w, vs = [v, w] ∧ tz D ((σ.set i (some v)).set j (some w)) H1) : tSeq (tPar i j ta) tz D σ H := h _ k
theorem a_consP {te : TE} {ta : TA} {σ : L2.St} {H : Hp} {Q : List V → Hp → Prop} (Pr : V → Hp → Prop) (h : ∀ Q' : VK, (∀ v H', Pr v H' → Q' v H') → te σ H Q') (k : ∀ v H1, Pr v H1 → ta σ H1 fun vs H2 => Q (v :: vs) H2) : tCons te ta σ H Q := h _ k
theorem row_at {i : Nat} (h : i < 4) : ∃ z, labRow[i]? = some z ∧ (labRow.map V.str)[i]? = some (V.str z) := by
  refine ⟨labRow[i], List.getElem?_eq_getElem h, ?_⟩
  rw [List.getElem?_map, List.getElem?_eq_getElem h]
  rfl
theorem ok_pair {C CB f fL gLt gE gL gS gH : Addr} {fd fdL fdLt dE dL dS dH : FuncData} (F : Fun K "_law_pair_right" "_law_pair_right" sPair f fd) (M : Blt mg) (T : LabC K mg C) (L : LabM P w K mg base C CB fL fdL) (Lt : LabLt P w K mg base C gLt fdLt) (O : LabO P w K mg base C gE gL gS gH dE dL dS dH) :
    FnOk P w K mg base CX0 5 f fd ["_law_row", "_law_one", "_law_other"] (spPair K) := by
  refine F.ok scPair (fun vs H Q E h => ?_) (fun cdv A outer s H vs Q E hr h => ?_)
  · obtain ⟨r, i, j, rfl, _⟩ := h
    rfl
  · obtain ⟨r, i, j, rfl, hS, hi, hj, q⟩ := h
    obtain ⟨y, yi, yv⟩ := row_at hi
    obtain ⟨z, zj, zv⟩ := row_at hj
    have h1 : Room 1 (A.deeper (envOfC "_law_pair_right" (defScope sPair) s.heap.objs.size f cdv)) := hr.mono (by decide)
    have h2 : Room 2 (A.deeper (envOfC "_law_pair_right" (defScope sPair) s.heap.objs.size f cdv)) := hr.mono (by decide)
    refine ⟨_, pss_cons (ps_par (i := 3) (j := 4) (by rfl) scPair.nd rfl rfl (by decide) rfl rfl (pa_cons (pe_make (dvs := []) L.make L.ok hr (by rfl) L.gC L.bi .nil pass00 (pa_cons (pe_ix ix_list (pv 0) (pv 1) (fun _ _ => rfl)) pa_nil))
          (pa_cons (pe_make (dvs := []) L.make L.ok hr (by rfl) L.gC L.bi .nil pass00 (pa_cons (pe_ix ix_list (pv 0) (pv 2) (fun _ _ => rfl)) pa_nil)) pa_nil)) (by with_unfolding_all rfl))
      (pss_cons (ps_if (PW.pt (pw_or (pt_cmpR op_ne (pe_cmpR (op_ownI (op := .Eq) O.eq_ O.eqf O.eqo O.eqb h1) (pv 3) (pv 4) (nomark _)) (pe_cmpR op_eq (pv 1) (pv 2) (nomark _)) (nomark _))
          (pw_or (pt_cmpR op_ne (pe_cmpR (op_ownI (op := .Lt) Lt.at_ Lt.fn Lt.ok Lt.bi h1) (pv 3) (pv 4) (nomark _)) (pe_cmpR op_gt (pv 1) (pv 2) (nomark _)) (nomark _))
          (pw_or1 (pt_cmpR op_ne (pe_cmpR (op_ownI (op := .LtE) O.le_ O.lef O.leo O.leb h1) (pv 3) (pv 4) (nomark _)) (pe_cmpR op_ge (pv 1) (pv 2) (nomark _)) (nomark _)))))) (pss_one (ps_ret pe_bl)) pss_nil)
      (pss_one (ps_ret (pe_and (pe_cmpR op_eq (pe_fld (pv 3) (by rfl)) (pe_ix ix_list (pv 0) (pv 1) (fun _ _ => rfl)) (nomark _))
        (pe_and (pe_cmpR op_eq (pe_meth0 (pv 3) T.cl O.stm O.sto h1 O.stb .nil pass0) (pe_cmpR op_ne (pe_ix ix_list (pv 0) (pv 1) (fun _ _ => rfl)) pe_str (nomark _)) (nomark _))
        (pe_one (pe_cmpR (op_neI T.ne T.so T.nf O.eq_ O.eqf O.eqo O.eqb h2) (pv 3) (pe_ix ix_list (pv 0) (pv 1) (fun _ _ => rfl)) (nomark _)))))))), ?_⟩
    have at1 : atI (labRow.map V.str) (i : Int) = some (V.str y) := atI_nat yv
    have at2 : atI (labRow.map V.str) (j : Int) = some (V.str z) := atI_nat zv
    refine q_parP (fun vs H' => ∃ a b, vs = [.ref a, .ref b] ∧ Same H H' ∧ LabAt H' C a i ∧ LabAt H' C b j) (fun Q' hq => ?_) (fun vs H1 hv => ?_)
    · refine a_consP (fun v H' => ∃ a, v = .ref a ∧ Same H H' ∧ LabAt H' C a i) (fun Q2 h2 => ⟨_, rfl, _, rfl, r, _, _, _, rfl, rfl, hS, at1, lab_made yi (Same.refl H) fun x H' nx s3 s4 l => h2 _ _ ⟨x, rfl, s4, l⟩⟩) (fun v H2 hv => ?_)
      obtain ⟨a, rfl, s2, la⟩ := hv
      refine a_consP (fun v H' => ∃ b, v = .ref b ∧ Same H2 H' ∧ LabAt H' C b j) (fun Q2 h2 => ⟨_, rfl, _, rfl, r, _, _, _, rfl, rfl, s2.seq hS, at2, lab_made zj (Same.refl H2) fun x H' nx s3 s4 l => h2 _ _ ⟨x, rfl, s4, l⟩⟩) (fun v H3 hv => ?_)
      obtain ⟨b, rfl, s3, lb⟩ := hv
      exact hq _ _ ⟨a, b, rfl, s2.trans s3, la.ext s3, lb⟩
    · obtain ⟨a, b, rfl, s1, la, lb⟩ := hv
      have hS1 := s1.seq hS
      obtain ⟨dx, fs, y', ea, r1, r2, r3, r4, r5⟩ := id la
      obtain ⟨dy, gs, z', eb, _⟩ := id lb
      have ey : y' = y := by rw [yi] at r1; exact (Option.some.inj r1).symm
      subst ey
      have d1 : decide (V.int (i : Int) = V.int (j : Int)) = decide (i = j) := by
        by_cases h : i = j
        · subst h
          rw [decide_eq_true rfl, decide_eq_true rfl]
        · rw [decide_eq_false h, decide_eq_false (fun q => h (by have := V.int.inj q; omega))]
      have d2 : decide ((j : Int) < (i : Int)) = decide (j < i) := by
        by_cases h : j < i
        · rw [decide_eq_true h, decide_eq_true (by omega)]
        · rw [decide_eq_false h, decide_eq_false (by omega)]
      have d3 : decide ((j : Int) ≤ (i : Int)) = decide (j ≤ i) := by
        by_cases h : j ≤ i
        · rw [decide_eq_true h, decide_eq_true (by omega)]
        · rw [decide_eq_false h, decide_eq_false (by omega)]
      refine ⟨_, _, rfl, ?_⟩
      refine ⟨.ref a, rfl, .ref b, rfl, a, b, dx, dy, fs, gs, rfl, rfl, ea, eb, a, i, .ref b, rfl, la, .inl ⟨b, j, rfl, lb, ?_⟩⟩
      refine ⟨_, rfl, _, rfl, rfl, rfl, _, rfl, iteNS (congrArg V.bl d1.symm) ?_⟩
      refine ⟨.ref a, rfl, .ref b, rfl, a, b, dx, dy, fs, gs, rfl, rfl, ea, eb, a, b, i, j, rfl, la, lb, ?_⟩
      refine ⟨_, rfl, _, rfl, _, _, rfl, rfl, rfl, _, rfl, iteNS (congrArg V.bl d2.symm) ?_⟩
      refine ⟨.ref a, rfl, .ref b, rfl, a, b, dx, dy, fs, gs, rfl, rfl, ea, eb, a, b, i, j, rfl, la, lb, ?_⟩
      refine ⟨_, rfl, _, rfl, _, _, rfl, rfl, rfl, _, rfl, iteNS (congrArg V.bl d3.symm) ?_⟩
      -- what is handed back
      refine ⟨.ref a, rfl, a, C, dx, fs, _, rfl, ea, T.cl, T.nn, r3, _, rfl, _, rfl, r, _, _, _, rfl, rfl, hS1, at1, rfl, _, rfl, iteT' (decide_eq_true rfl) ?_⟩
      refine ⟨.ref a, rfl, a, dx, fs, rfl, ea, r4, a, i, rfl, la, ?_⟩
      have st : decide (i ≠ 3) = !decide (V.str y' = V.str "changing") := by
        rcases row_str yi with ⟨e, e'⟩ | ⟨e, e'⟩ | ⟨e, e'⟩ | ⟨e, e'⟩ <;> subst e e' <;> decide
      refine ⟨_, rfl, _, rfl, r, _, _, _, rfl, rfl, hS1, at1, rfl, rfl, _, rfl, iteT' (decide_eq_true (congrArg V.bl st)) ?_⟩
      refine ⟨.ref a, rfl, _, rfl, _, rfl, r, _, _, _, rfl, rfl, hS1, at1, a, dx, fs, rfl, ea, .inr ⟨y', rfl⟩, a, i, _, rfl, la, .inr ⟨y', rfl, false, rfl, ?_⟩⟩
      exact q _ s1
end
/-! ### the law of labels -/
abbrev sLaw : Stmt := topS 13
theorem scLaw : FnScope ["_law_script", "_law_k", "_law_pool_here", "_law_row", "_law_one", "_law_other", "_law_odd", "_law_some", "_law_deepest", "_law_at", "_law_word", "_law_turn"] ["_law_script"] (defScope sLaw) := ⟨rfl, rfl, rfl, by decide +kernel, rfl, by decide +kernel, by decide +kernel⟩
def spLaw (K : PySem.W.Frag) : Sp := fun vs H Q _ => ∃ (a : Addr) (ns : List Int), vs = [.ref a] ∧ SqL K H a (ns.map V.int) ∧ ns.length ≤ 63 ∧ ∀ H', Q (.bl true) H'
theorem same_but {p : Addr} {H H1 H2 : Hp} (s : Same H H1) (n : H p = none) (h2 : But p H1 H2) : Same H H2 := fun b o e => h2 b o (s b o e) (ne_of_none e n)
theorem but_same {p : Addr} {H H1 H2 : Hp} (b : But p H H1) (s : Same H1 H2) : But p H H2 := b.trans (But.of s)
theorem turns {L i : Nat} (h : i < (if (if (2 : Int) < (L : Int) then (2 : Int) else (L : Int)) > 1 then (if (2 : Int) < (L : Int) then (2 : Int) else (L : Int)) else 1).toNat) : i ≤ 1 ∧ (i < L ∨ L = 0) := by
  split at h <;> split at h <;> omega
theorem dpT {K : PySem.W.Frag} {H : Hp} {t : Addr} {xs : List V} {ds : List PyData} (n : H t = none) (h : DpAll K H xs ds) : Dp K (upd H t (.tup xs)) (.ref t) (.tuple ds) := .tup (.inl (.inl upd_same)) (dpA_same (same_upd n) h)
theorem dpL {K : PySem.W.Frag} {H : Hp} {t : Addr} {xs : List V} {ds : List PyData} (n : H t = none) (h : DpAll K H xs ds) : Dp K (upd H t (.lst xs)) (.ref t) (.list ds) := .lst (.inl (.inl upd_same)) (dpA_same (same_upd n) h)
theorem range_bounds {L : Nat} : -(2 ^ 62) ≤ (if (if (2 : Int) < (L : Int) then (2 : Int) else (L : Int)) > 1 then (if (2 : Int) < (L : Int) then (2 : Int) else (L : Int)) else 1) ∧ (if (if (2 : Int) < (L : Int) then (2 : Int) else (L : Int)) > 1 then (if (2 : Int) < (L : Int) then (2 : Int) else (L : Int)) else 1) < 2 ^ 62 := by
  split <;> split <;> omega
theorem op_P {r : R2} {ta tb : TE} {σ : L2.St} {H : Hp} {Q : VK} (P1 : V → Hp → Prop) (P2 : V → Hp → V → Hp → Prop) (h1 : ∀ Q' : VK, (∀ v H', P1 v H' → Q' v H') → ta σ H Q')
    (h2 : ∀ v H1, P1 v H1 → ∀ Q' : VK, (∀ u H', P2 v H1 u H' → Q' u H') → tb σ H1 Q') (k : ∀ v H1 u H2, P1 v H1 → P2 v H1 u H2 → r v u H2 Q) : tOp r ta tb σ H Q :=
  h1 _ fun v H1 p1 => h2 v H1 p1 _ fun u H2 p2 => k v H1 u H2 p1 p2
theorem ifop_P {r : R2} {ta tb : TE} {t1 t2 : TS} {D : Ends} {σ : L2.St} {H : Hp} (P1 : V → Hp → Prop) (P2 : V → Hp → V → Hp → Prop) (h1 : ∀ Q' : VK, (∀ v H', P1 v H' → Q' v H') → ta σ H Q')
    (h2 : ∀ v H1, P1 v H1 → ∀ Q' : VK, (∀ u H', P2 v H1 u H' → Q' u H') → tb σ H1 Q') (k : ∀ v H1 u H2, P1 v H1 → P2 v H1 u H2 → r v u H2 fun x H' => ∃ b, x = .bl b ∧ if b = true then t1 D σ H' else t2 D σ H') : tIfS (tTest (tOp r ta tb)) t1 t2 D σ H :=
  op_P P1 P2 h1 h2 k
theorem ifor_P {r : R2} {ta tb : TE} {c2 : TT} {t1 t2 : TS} {D : Ends} {σ : L2.St} {H : Hp} (P1 : V → Hp → Prop) (P2 : V → Hp → V → Hp → Prop) (h1 : ∀ Q' : VK, (∀ v H', P1 v H' → Q' v H') → ta σ H Q')
    (h2 : ∀ v H1, P1 v H1 → ∀ Q' : VK, (∀ u H', P2 v H1 u H' → Q' u H') → tb σ H1 Q') (k : ∀ v H1 u H2, P1 v H1 → P2 v H1 u H2 → r v u H2 fun x H' => ∃ b, x = .bl b ∧ if b = true then (if true = true then t1 D σ H' else t2 D σ H') else tIfS c2 t1 t2 D σ H') : tIfS (tOr (tTest (tOp r ta tb)) c2) t1 t2 D σ H :=
  h1 _ fun v H1 p1 => h2 v H1 p1 _ fun u H2 p2 => k v H1 u H2 p1 p2
theorem call_tl {sp : Sp} {r : List V → Hp → VK → Prop} {te : TE} {σ : L2.St} {H : Hp} {Q : VK} (h : te σ H fun v H1 => [v].length ≤ sizeLine ∧ ∀ l, H1 l = none → r [.ref l] (L2.upd H1 l (.lst [v])) fun x H2 => sp ([x] ++ []) H2 Q E0) :
    tCall sp [] E0 (tCons (tCB r (tCons (tLst (tCons te tNil)) tNil)) tNil) σ H Q := h
theorem lab_te {K : PySem.W.Frag} {C CB : Addr} {targ : TE} {σ : L2.St} {H : Hp} {i : Nat} {z : Str} {Q : VK} (hi : labRow[i]? = some z) (arg : ∀ Q' : VK, Q' (.str z) H → targ σ H Q') (h : ∀ x H', H x = none → Same H H' → LabAt H' C x i → Q (.ref x) H') :
    tMake C (spLab K C CB) [] (fun _ _ _ => False) (tCons targ tNil) σ H Q := arg _ (lab_made hi (Same.refl H) fun x H' nx _ s l => h x H' nx s l)
theorem nat_row {n : Nat} : ∀ {ys : List V}, (∀ v ∈ ys, ∃ z : Int, v = .int z ∧ 0 ≤ z ∧ z < (n : Int)) → ∃ ms : List Nat, ys = ms.map (fun m : Nat => V.int (m : Int)) ∧ ∀ m ∈ ms, m < n
  | [], _ => ⟨[], rfl, fun m h => by simp at h⟩
  | v :: ys, h => by
    obtain ⟨z, rfl, z0, zn⟩ := h v List.mem_cons_self
    obtain ⟨ms, e, hm⟩ := nat_row (n := n) (ys := ys) fun u hu => h u (List.mem_cons_of_mem _ hu)
    refine ⟨z.toNat :: ms, ?_, fun m hm' => ?_⟩
    · rw [List.map_cons, ← e]
      have e2 : ((z.toNat : Nat) : Int) = z := Int.toNat_of_nonneg z0
      rw [e2]
    · rcases List.mem_cons.mp hm' with r | r
      · rw [r]
        omega
      · exact hm m r
theorem deepest_lt {ms : List Nat} {n : Nat} (hn : 0 < n) (h : ∀ m ∈ ms, m < n) : deepest ms < n := by
  have go : ∀ (l : List Nat) (a : Nat), a < n → (∀ m ∈ l, m < n) → l.foldl (fun a b => max a b) a < n := by
    intro l
    induction l with
    | nil => exact fun a ha _ => ha
    | cons m l ih =>
      intro a ha hl
      refine ih _ ?_ fun m' h' => hl m' (List.mem_cons_of_mem _ h')
      have := hl m List.mem_cons_self
      show max a m < n
      omega
  exact go ms 0 hn h
/-- what the law takes for no label -/
theorem odd_row {K : PySem.W.Frag} {H : Hp} {l t : Addr} (hl : SqL K H l [.str "always"]) (ht : SqT K H t [.str "always"]) : ∀ (k : Nat) (v : V), [V.non, .int 5, .str "", .str "Always", .str "steady", .bl true, .ref l, .ref t][k]? = some v → ∃ d, Dp K H v d ∧ noLab d = true ∧ Shown d
  | 0, _, e => by cases e; exact ⟨_, .non, rfl, ⟨rfl, rfl, by decide, by decide +kernel⟩⟩
  | 1, _, e => by cases e; exact ⟨_, .int 5, rfl, ⟨by decide +kernel, rfl, by decide, by decide +kernel⟩⟩
  | 2, _, e => by cases e; exact ⟨_, .str "", by decide +kernel, ⟨rfl, rfl, by decide, by decide +kernel⟩⟩
  | 3, _, e => by cases e; exact ⟨_, .str "Always", by decide +kernel, ⟨rfl, rfl, by decide, by decide +kernel⟩⟩
  | 4, _, e => by cases e; exact ⟨_, .str "steady", by decide +kernel, ⟨rfl, rfl, by decide, by decide +kernel⟩⟩
  | 5, _, e => by cases e; exact ⟨_, .bl true, rfl, ⟨rfl, rfl, by decide, by decide +kernel⟩⟩
  | 6, _, e => by cases e; exact ⟨_, .lst hl (.cons (.str "always") .nil), rfl, ⟨by decide +kernel, by decide +kernel, by decide +kernel, by decide +kernel⟩⟩
  | 7, _, e => by cases e; exact ⟨_, .tup ht (.cons (.str "always") .nil), rfl, ⟨by decide +kernel, by decide +kernel, by decide +kernel, by decide +kernel⟩⟩
  | k + 8, _, e => by simp at e
theorem row_dp {K : PySem.W.Frag} {H : Hp} : DpAll K H (labRow.map V.str) (labRow.map PyData.str) := .cons (.str _) (.cons (.str _) (.cons (.str _) (.cons (.str _) .nil)))
theorem Higher.ext {H H' : Hp} {C : Addr} {i : Nat} {ys : List V} (h : Higher H C i ys) (s : Same H H') : Higher H' C i ys := ⟨h.1, fun k v e => by
  obtain ⟨a, ev, l⟩ := h.2 k v e
  exact ⟨a, ev, l.ext s⟩⟩
/-- two labels with the same number -/
def TwoL (C : Addr) : Addr → Addr → Hp → Prop := fun a b H => ∃ i, LabAt H C a i ∧ LabAt H C b i
theorem eq_two {K : PySem.W.Frag} {C : Addr} : ∀ vs H Q E, spEq (TwoL C) vs H Q E → spLabEq K C vs H Q E := fun vs H Q E ⟨a, b, ev, ⟨i, la, lb⟩, q⟩ => by
  refine ⟨a, i, .ref b, ev, la, .inl ⟨b, i, rfl, lb, ?_⟩⟩
  rw [decide_eq_true rfl]
  exact q H Ext.rfl'
theorem higher_prs {C : Addr} {H : Hp} {i : Nat} {xs ys : List V} (hx : Higher H C i xs) (hy : Higher H C i ys) : Prs (DIns C (TwoL C)) xs ys H := ⟨hx.1.trans hy.1.symm, fun k x y e1 e2 => by
  obtain ⟨a, rfl, la⟩ := hx.2 k x e1
  obtain ⟨b, rfl, lb⟩ := hy.2 k y e2
  obtain ⟨dx, fs, _, ea, _⟩ := id la
  obtain ⟨dy, gs, _, eb, _⟩ := id lb
  exact ⟨a, b, dx, dy, fs, gs, rfl, rfl, ea, eb, _, la, lb⟩⟩
section
variable {P : Program} {w : World} {K : PySem.W.Frag} {mg : Str → Option Value} {base : Heap}
structure LawFns (P : Program) (w : World) (K : PySem.W.Frag) (mg : Str → Option Value) (base : Heap) (C fPl fDr fRf fPr fLs : Addr) (dPl dDr dRf dPr dLs : FuncData) : Prop where
  Pl : Fun K "_law_pool" "_law_pool" sPool fPl dPl
  Dr : Fun K "_law_draw" "_law_draw" sDraw fDr dDr
  kRf : PySem.W.keepIn K (.ref fRf) = true
  kPr : PySem.W.keepIn K (.ref fPr) = true
  kLs : PySem.W.keepIn K (.ref fLs) = true
  bPl : Binds K dPl ["_law_script", "_law_k"] []
  bDr : Binds K dDr ["_law_pool_here", "_law_many"] []
  bRf : Binds K dRf ["_law_odd"] []
  bPr : Binds K dPr ["_law_row", "_law_one", "_law_other"] []
  bLs : Binds K dLs ["labels"] []
  gPl : mg "_law_pool" = some (.ref fPl)
  gDr : mg "_law_draw" = some (.ref fDr)
  gRf : mg "_law_refused" = some (.ref fRf)
  gPr : mg "_law_pair_right" = some (.ref fPr)
  gLs : mg "least" = some (.ref fLs)
  GRf : FnG P w K mg base 5 fRf dRf ["_law_odd"] (spRefused K)
  GPr : FnOk P w K mg base CX0 5 fPr dPr ["_law_row", "_law_one", "_law_other"] (spPair K)
  GLs : FnOk P w K mg base CX0 5 fLs dLs ["labels"] (spLeast K C)
theorem ok_law {C CB f fL gE gL gS gH fPl fDr fRf fPr fLs : Addr} {fd fdL dE dL dS dH dPl dDr dRf dPr dLs : FuncData} (F : Fun K "law" "law" sLaw f fd) (M : Blt mg) (T : LabC K mg C) (R : RowT K mg) (L : LabM P w K mg base C CB fL fdL) (O : LabO P w K mg base C gE gL gS gH dE dL dS dH)
    (W : LawFns P w K mg base C fPl fDr fRf fPr fLs dPl dDr dRf dPr dLs) : FnG P w K mg base 6 f fd ["_law_script"] (spLaw K) := by
  obtain ⟨aR, oR, gR, lR, cR, dR, hR⟩ := R
  have GP := ok_pool (P := P) (w := w) (base := base) W.Pl M
  have GD := ok_draw (P := P) (w := w) (base := base) W.Dr M
  refine Fun.okG F scLaw (fun vs H Q h => ?_) (fun cdv A outer s H vs Q gu hr h => ?_)
  · obtain ⟨a, ns, rfl, _⟩ := h
    rfl
  · obtain ⟨a, ns, rfl, hS, hlen, q⟩ := h
    have hr1 : Room 1 (A.deeper (envOfC "law" (defScope sLaw) s.heap.objs.size f cdv)) := hr.mono (by decide)
    have hr2 : Room 2 (A.deeper (envOfC "law" (defScope sLaw) s.heap.objs.size f cdv)) := hr.mono (by decide)
    have hr4 : Room 4 (A.deeper (envOfC "law" (defScope sLaw) s.heap.objs.size f cdv)) := hr.mono (by decide)
    refine ⟨_, pss_cons (ps_for PassesOwn.never rfl (pi_range1 (by rfl) M.range (pa_cons (pe_callB (call_max2 rfl) (by rfl) M.max (by decide +kernel) (pa_cons pe_int (pa_cons (pe_callB (call_min2 rfl) (by rfl) M.min (by decide +kernel) (pa_cons (pe_callB call_len_seq (by rfl) M.len PySem.boot_len (pa_cons (pv 0) pa_nil)) (pa_cons pe_int pa_nil))) pa_nil))) pa_nil)) (pg_name (i := 1) scLaw.nd rfl (.inl rfl))
        (pss_cons (ps_set (i := 2) scLaw.nd rfl (.inr rfl) (pe_call GP hr1 (by rfl) W.gPl W.Pl.kp W.bPl .nil pass0 (pa_cons (pv 0) (pa_cons (pv 1) pa_nil))))
        (pss_cons (ps_set (i := 3) scLaw.nd rfl (.inr rfl) (pe_lst (pa_cons pe_str (pa_cons pe_str (pa_cons pe_str (pa_cons pe_str pa_nil))))))
        (pss_cons (ps_if (pt_cmpR (op_neD hr.units) (pe_glob (v := .ref aR) (by rfl) gR rfl) (pe_callTy call_tuple_of (by rfl) M.tuple (by decide +kernel) (pa_cons (pv 3) pa_nil)) (nomark _)) (pss_one (ps_ret pe_bl)) pss_nil)
        -- each beside each
        (pss_cons (ps_for PassesOwn.never rfl (pi_range1 (by rfl) M.range (pa_cons pe_int pa_nil)) (pg_name (i := 4) scLaw.nd rfl (.inl rfl))
          (pss_cons (ps_for PassesOwn.never rfl (pi_range1 (by rfl) M.range (pa_cons pe_int pa_nil)) (pg_name (i := 5) scLaw.nd rfl (.inl rfl))
            (pss_one (ps_if (pt_not (pt_val (pe_call W.GPr hr (by rfl) W.gPr W.kPr W.bPr .nil pass0 (pa_cons (pv 3) (pa_cons (pv 4) (pa_cons (pv 5) pa_nil)))))) (pss_one (ps_ret pe_bl)) pss_nil)))
          (pss_one (ps_if (pt_cmpR (op_neL (mon_ins (R := TwoL C) fun _ _ _ _ e ⟨i, la, lb⟩ => ⟨i, la.ext e, lb.ext e⟩) (eqG_ins (O.eqo.imp eq_two) O.eq_ O.eqf O.eqb pass0) hr2)
              (pe_meth0 (pe_make (dvs := []) L.make L.ok hr4 (by rfl) L.gC L.bi .nil pass00 (pa_cons (pe_ix ix_list (pv 3) (pv 4) (fun _ _ => rfl)) pa_nil)) T.cl O.him O.hio hr O.hib .nil pass0)
              (pe_lc (own := [("_law_word", 10)]) (g := gName 10) (te := tMake C (spLab K C CB) [] (fun _ _ _ => False) (tCons (tVar 10) tNil)) (by rfl) scLaw.nd (pi_list (pe_revL (pe_slice sl_list (pv 3) po_none (po_some (pv 4))))) (blkOk_by (own := [("_law_word", 10)]) (N := ["_law_script", "_law_k", "_law_pool_here", "_law_row", "_law_one", "_law_other", "_law_odd", "_law_some", "_law_deepest", "_law_at", "_law_word", "_law_turn"]) (sc := defScope sLaw) (by decide +kernel))
                (fun _ _ _ _ _ => pg_name (i := 10) scLaw.nd rfl (Or.inl rfl)) (fun _ _ _ _ _ => pts_nil) (fun _ _ _ _ _ => pe_make (dvs := []) L.make L.ok hr4 (by rfl) L.gC L.bi .nil pass00 (pa_cons (pv 10) pa_nil))) (nomark _)) (pss_one (ps_ret pe_bl)) pss_nil))))
        -- what is none
        (pss_cons (ps_for PassesOwn.never rfl (pi_list (pe_lst (pa_cons pe_non (pa_cons pe_int (pa_cons pe_str (pa_cons pe_str (pa_cons pe_str (pa_cons pe_bl (pa_cons (pe_lst (pa_cons pe_str pa_nil)) (pa_cons (pe_tup (pa_cons pe_str pa_nil)) pa_nil)))))))))) (pg_name (i := 6) scLaw.nd rfl (.inl rfl))
          (pss_one (ps_if (pt_not (pt_val (pe_callG W.GRf gu hr (by rfl) W.gRf W.kRf W.bRf (pa_cons (pv 6) pa_nil)))) (pss_one (ps_ret pe_bl)) pss_nil)))
        -- some that are drawn
        (pss_cons (ps_setLc (i := 7) (own := [("_law_turn", 11)]) (g := gName 11) (te := tCall spDraw [] E0 (tCons (tVar 2) (tCons (tC (.int 4)) tNil))) (by rfl) scLaw.nd rfl rfl (sw_true rfl rfl rfl (by decide +kernel))
              (pi_range1 (by rfl) M.range (pa_cons (pe_call GD hr1 (by rfl) W.gDr W.Dr.kp W.bDr .nil pass0 (pa_cons (pv 2) (pa_cons pe_int pa_nil))) pa_nil)) (blkOk_by (own := [("_law_turn", 11)]) (N := ["_law_script", "_law_k", "_law_pool_here", "_law_row", "_law_one", "_law_other", "_law_odd", "_law_some", "_law_deepest", "_law_at", "_law_word", "_law_turn"]) (sc := defScope sLaw) (by decide +kernel))
              (fun _ _ _ _ _ => pg_name (i := 11) scLaw.nd rfl (Or.inl rfl)) (fun _ _ _ _ _ => pts_nil) (fun _ _ _ _ _ => pe_call GD hr1 (by rfl) W.gDr W.Dr.kp W.bDr .nil pass0 (pa_cons (pv 2) (pa_cons pe_int pa_nil))))
        (pss_cons (ps_set (i := 8) scLaw.nd rfl (.inl rfl) pe_int)
        (pss_cons (ps_for PassesOwn.never rfl (pi_list (pv 7)) (pg_name (i := 9) scLaw.nd rfl (.inl rfl))
          (pss_one (ps_set (i := 8) scLaw.nd rfl (.inl rfl) (pe_callB (call_max2 rfl) (by rfl) M.max (by decide +kernel) (pa_cons (pe_callTy call_int1 (by rfl) M.int (by decide +kernel) (pa_cons (pv 8) pa_nil)) (pa_cons (pe_callTy call_int1 (by rfl) M.int (by decide +kernel) (pa_cons (pv 9) pa_nil)) pa_nil))))))
        (pss_cons (ps_if (pt_cmpR (op_neI T.ne T.so T.nf O.eq_ O.eqf O.eqo O.eqb hr2)
            (pe_call W.GLs hr (by rfl) W.gLs W.kLs W.bLs .nil pass0 (pa_cons (pe_lc (own := [("_law_at", 9)]) (g := gName 9) (te := tMake C (spLab K C CB) [] (fun _ _ _ => False) (tCons (tOp (rIxL K) (tVar 3) (tVar 9)) tNil)) (by rfl) scLaw.nd (pi_list (pv 7)) (blkOk_by (own := [("_law_at", 9)]) (N := ["_law_script", "_law_k", "_law_pool_here", "_law_row", "_law_one", "_law_other", "_law_odd", "_law_some", "_law_deepest", "_law_at", "_law_word", "_law_turn"]) (sc := defScope sLaw) (by decide +kernel))
                (fun _ _ _ _ _ => pg_name (i := 9) scLaw.nd rfl (Or.inl rfl)) (fun _ _ _ _ _ => pts_nil) (fun _ _ _ _ _ => pe_make (dvs := []) L.make L.ok hr4 (by rfl) L.gC L.bi .nil pass00 (pa_cons (pe_ix ix_list (pv 3) (pv 9) (fun _ _ => rfl)) pa_nil))) pa_nil))
            (pe_make (dvs := []) L.make L.ok hr4 (by rfl) L.gC L.bi .nil pass00 (pa_cons (pe_ix ix_list (pv 3) (pv 8) (fun _ _ => rfl)) pa_nil)) (nomark _)) (pss_one (ps_ret pe_bl)) pss_nil)
        (pss_one (ps_if (PW.pt (pw_or (pt_cmpR (op_neI T.ne T.so T.nf O.eq_ O.eqf O.eqo O.eqb hr2)
            (pe_call W.GLs hr (by rfl) W.gLs W.kLs W.bLs .nil pass0 (pa_cons (pe_callTy call_tuple_of (by rfl) M.tuple (by decide +kernel) (pa_cons (pe_lst (pa_cons (pe_make (dvs := []) L.make L.ok hr4 (by rfl) L.gC L.bi .nil pass00 (pa_cons pe_str pa_nil)) pa_nil)) pa_nil)) pa_nil))
            (pe_make (dvs := []) L.make L.ok hr4 (by rfl) L.gC L.bi .nil pass00 (pa_cons pe_str pa_nil)) (nomark _))
            (pw_or1 (pt_cmpR op_ne (pe_fld (pe_call W.GLs hr (by rfl) W.gLs W.kLs W.bLs .nil pass0 (pa_cons (pe_lst pa_nil) pa_nil)) (by rfl)) pe_str (nomark _))))) (pss_one (ps_ret pe_bl)) pss_nil))))))))))))
      (pss_one (ps_ret pe_bl)), ?_⟩
    refine ⟨.ref a, rfl, a, _, rfl, .inl hS, _, _, rfl, _, _, rfl, _, rfl, range_bounds.1, range_bounds.2, ?_⟩
    refine for_range (lo := 0) (n := _) (fun i σ H' => ∃ y1 y2 y3 y4 y5 y6 y7 y8 y9 y10 y11, σ = [some (.ref a), y1, y2, y3, y4, y5, y6, y7, y8, y9, y10, y11] ∧ Same H H')
      ⟨none, none, none, none, none, none, none, none, none, none, none, rfl, Same.refl H⟩ (fun i σ H0 hi hW => ?_) (fun σ H0 hW => q H0)
    obtain ⟨y1, y2, y3, y4, y5, y6, y7, y8, y9, y10, y11, rfl, s0⟩ := hW
    have ht := turns hi
    rw [List.length_map] at ht
    refine ⟨.ref a, rfl, _, rfl, a, ns, i, (by show ([V.ref a, V.int (0 + (i : Int))] : List V) = _; rw [Int.zero_add]), s0.seq hS, ht.1, ht.2.imp id (fun e => List.eq_nil_of_length_eq_zero e), fun H1 p np s1 hp => ?_⟩
    have nHp : H p = none := s0.free np
    refine ⟨(by show 4 ≤ sizeLine; decide), fun r nr => ?_⟩
    have npr : r ≠ p := (hp.ne nr).symm
    refine ⟨_, rfl, r, _, rfl, .inl ⟨.inl (.inl upd_same), fun t nt => ?_⟩⟩
    have hp3 : PoolAt (upd (upd H1 r (HO.lst [V.str "always", V.str "session", V.str "statement", V.str "changing"])) t (HO.tup [V.str "always", V.str "session", V.str "statement", V.str "changing"])) p := (hp.upd nr).upd nt
    have b3 : But p H1 (upd (upd H1 r (HO.lst [V.str "always", V.str "session", V.str "statement", V.str "changing"])) t (HO.tup [V.str "always", V.str "session", V.str "statement", V.str "changing"])) := But.of ((same_upd nr).trans (same_upd nt))
    have e3 : (upd (upd H1 r (HO.lst [V.str "always", V.str "session", V.str "statement", V.str "changing"])) t (HO.tup [V.str "always", V.str "session", V.str "statement", V.str "changing"])) r = some (.lst (labRow.map V.str)) := same_upd nt _ _ upd_same
    refine ⟨.tuple (labRow.map .str), .tuple (labRow.map .str), .tup (hR _) row_dp, .tup (.inl (.inl upd_same)) row_dp, by decide +kernel, by decide +kernel, _, rfl, ?_⟩
    have ev : PyData.eqv (.tuple (labRow.map .str)) (.tuple (labRow.map .str)) = true := SeqAt.eqv_refl _ (by decide +kernel)
    rw [ev]
    refine iteF ?_
    generalize (upd (upd H1 r (HO.lst [V.str "always", V.str "session", V.str "statement", V.str "changing"])) t (HO.tup [V.str "always", V.str "session", V.str "statement", V.str "changing"])) = H3 at hp3 b3 e3 ⊢
    -- each beside each
    refine ⟨4, rfl, by decide, by decide, ?_⟩
    refine for_range (lo := 0) (n := (4 : Int).toNat) (fun j σ H' => ∃ z1 z4 z5 z6 z7 z8 z9 z10 z11, σ = [some (.ref a), z1, some (.ref p), some (.ref r), z4, z5, z6, z7, z8, z9, z10, z11] ∧ Same H3 H')
      ⟨_, _, _, _, _, _, _, _, _, rfl, Same.refl H3⟩ (fun j σ H4 hj hW => ?_) (fun σ H4 hW => ?_)
    · obtain ⟨z1, z4, z5, z6, z7, z8, z9, z10, z11, rfl, s4⟩ := hW
      have hj4 : j < 4 := hj
      rw [Int.zero_add]
      refine ⟨4, rfl, by decide, by decide, ?_⟩
      refine for_range (lo := 0) (n := (4 : Int).toNat) (fun k σ H' => ∃ z1 z5 z6 z7 z8 z9 z10 z11, σ = [some (.ref a), z1, some (.ref p), some (.ref r), some (.int (j : Int)), z5, z6, z7, z8, z9, z10, z11] ∧ Same H3 H')
        ⟨_, _, _, _, _, _, _, _, rfl, s4⟩ (fun k σ H5 hk hW => ?_) (fun σ H5 hW => ?_)
      · obtain ⟨z1, z5, z6, z7, z8, z9, z10, z11, rfl, s5⟩ := hW
        have hk4 : k < 4 := hk
        rw [Int.zero_add]
        refine ⟨_, rfl, _, rfl, _, rfl, r, j, k, rfl, .inl (.inl (s5 _ _ e3)), hj4, hk4, fun H6 s6 => ⟨_, rfl, iteF ⟨_, _, _, _, _, _, _, _, rfl, s5.trans s6⟩⟩⟩
      · obtain ⟨z1, z5, z6, z7, z8, z9, z10, z11, rfl, s5⟩ := hW
        obtain ⟨y, yj, yv⟩ := row_at hj4
        have er : H5 r = some (.lst (labRow.map V.str)) := s5 _ _ e3
        dsimp only
        refine ifop_P (fun v H' => ∃ l ys, v = .ref l ∧ Same H5 H' ∧ H' l = some (.lst ys) ∧ Higher H' C j ys) (fun v H1' u H' => ∃ l ys, u = .ref l ∧ Same H1' H' ∧ H' l = some (.lst ys) ∧ Higher H' C j ys) (fun Q' hq => ?_) (fun v H6 hv Q' hq => ?_) (fun v H6 u H7 hv hu => ?_)
        · refine lab_te yj (fun Q2 q2 => ⟨_, rfl, _, rfl, r, _, _, _, rfl, rfl, .inl (.inl er), atI_nat yv, q2⟩) (fun x H' nx s6 lx => ?_)
          obtain ⟨dx, fs, _, ea, _, _, _, _, r5⟩ := id lx
          exact ⟨x, dx, fs, rfl, ea, r5, x, j, rfl, lx, fun l ys H8 s8 e8 h8 => hq _ _ ⟨l, ys, rfl, s6.trans s8, e8, h8⟩⟩
        · obtain ⟨l0, ys0, rfl, s6, e6, h6⟩ := hv
          refine ⟨_, rfl, _, rfl, j, rfl, r, _, rfl, .inl (.inl (s6 _ _ er)), fun l1 n1 => ?_⟩
          rw [cut_to j hj4]
          refine ⟨l1, _, rfl, .inl (.inl upd_same), fun l2 n2 => ?_⟩
          refine ⟨l2, rfl, ⟨_, .inl (.inl upd_same)⟩, fun D hD => ?_⟩
          have len : ((labRow.map V.str).take j).reverse.length = j := by
            rw [List.length_reverse, List.length_take]
            show min j 4 = j
            omega
          refine lc_rel (vs := [10]) (j := 10) (D := D) (walk_list (K := K) (a := l2) (xs := ((labRow.map V.str).take j).reverse)) (fun k v H' => ∃ a, v = .ref a ∧ LabAt H' C a (j - 1 - k)) (by rw [len]; omega) hD (fun x => rfl)
            (fun H' s' => s'.seq (.inl (.inl upd_same))) (fun k v H2 H3 zs eD b d => ?_) (fun k x H2 H3 hk s2 y => ?_) (fun ys H2 s2 eD el hy => ?_)
          · obtain ⟨a2, rfl, l2⟩ := d
            exact ⟨a2, rfl, l2.but eD b⟩
          · rw [len] at hk
            obtain ⟨rfl, ex⟩ := y
            rw [take_rev (by omega) hk] at ex
            obtain ⟨z2, hz2, ex2⟩ := Option.map_eq_some_iff.mp ex
            subst ex2
            exact ⟨Same.refl _, fun Q2 q2 => lab_te hz2 (fun Q3 q3 => ⟨V.str z2, rfl, q3⟩) fun x H' nx s4 l3 => q2 _ _ s4 ⟨x, rfl, l3⟩⟩
          · have s7 : Same H6 H2 := (same_upd n1).trans ((same_upd n2).trans s2)
            exact hq _ _ ⟨D, ys, rfl, s7, eD, el.trans len, fun k v e => hy k v e⟩
        · obtain ⟨l0, ys0, rfl, s6, e6, h6⟩ := hv
          obtain ⟨l1, ys1, rfl, s7, e7, h7⟩ := hu
          refine ⟨⟨l0, l1, ys0, ys1, rfl, rfl, s7 _ _ e6, e7, higher_prs (h6.ext s7) h7⟩, fun H8 s8 => ⟨_, rfl, iteF ?_⟩⟩
          exact ⟨_, _, _, _, _, _, _, _, _, rfl, s5.trans (s6.trans (s7.trans s8))⟩
    · obtain ⟨z1, z4, z5, z6, z7, z8, z9, z10, z11, rfl, s4⟩ := hW
      -- what is none
      refine ⟨(by show 1 ≤ sizeLine; decide), fun l1 n1 => ⟨(by show 1 ≤ sizeLine; decide), fun t1 nt1 => ⟨(by show 8 ≤ sizeLine; decide), fun l2 n2 => ?_⟩⟩⟩
      have sA := same_upd (o := HO.lst [V.str "always"]) n1
      have sB := same_upd (o := HO.tup [V.str "always"]) nt1
      have sC := same_upd (o := HO.lst [V.non, .int 5, .str "", .str "Always", .str "steady", .bl true, .ref l1, .ref t1]) n2
      have g1 := sC _ _ (sB _ _ (upd_same (H := H4) (a := l1) (o := HO.lst [V.str "always"])))
      have g2 := sC _ _ (upd_same (H := L2.upd H4 l1 (HO.lst [V.str "always"])) (a := t1) (o := HO.tup [V.str "always"]))
      have g3 := upd_same (H := L2.upd (L2.upd H4 l1 (HO.lst [V.str "always"])) t1 (HO.tup [V.str "always"])) (a := l2) (o := HO.lst [V.non, .int 5, .str "", .str "Always", .str "steady", .bl true, .ref l1, .ref t1])
      have s5 := s4.trans (sA.trans (sB.trans sC))
      refine ⟨l2, rfl, ⟨_, .inl (.inl g3)⟩, ?_⟩
      generalize L2.upd (L2.upd (L2.upd H4 l1 (HO.lst [V.str "always"])) t1 (HO.tup [V.str "always"])) l2 (HO.lst [V.non, .int 5, .str "", .str "Always", .str "steady", .bl true, .ref l1, .ref t1]) = H5 at g1 g2 g3 s5 ⊢
      refine for_list (K := K) (a := l2) (xs := [V.non, .int 5, .str "", .str "Always", .str "steady", .bl true, .ref l1, .ref t1]) (fun k σ H' => ∃ z1 z4 z5 z6 z7 z8 z9 z10 z11, σ = [some (.ref a), z1, some (.ref p), some (.ref r), z4, z5, z6, z7, z8, z9, z10, z11] ∧ Same H5 H')
        ⟨_, _, _, _, _, _, _, _, _, rfl, Same.refl H5⟩ (fun k σ H' _ hW => ?_) (fun k v σ H6 hk hW => ?_) (fun σ H6 hW => ?_)
      · obtain ⟨_, _, _, _, _, _, _, _, _, _, s'⟩ := hW
        exact .inl (.inl (s' _ _ g3))
      · obtain ⟨z1, z4, z5, z6, z7, z8, z9, z10, z11, rfl, s6⟩ := hW
        obtain ⟨d, dv, nl, sh⟩ := odd_row (K := K) (H := H6) (.inl (.inl (s6 _ _ g1))) (.inl (.inl (s6 _ _ g2))) k v hk
        exact ⟨v, rfl, v, d, rfl, dv, nl, sh, fun H7 s7 => ⟨_, rfl, iteF ⟨_, _, _, _, _, _, _, _, _, rfl, s6.trans s7⟩⟩⟩
      · obtain ⟨z1, z4, z5, z6, z7, z8, z9, z10, z11, rfl, s6⟩ := hW
        -- some that are drawn
        have hp6 : PoolAt H6 p := hp3.same (s5.trans s6)
        have b6 : But p H1 H6 := but_same b3 (s5.trans s6)
        have e6 : H6 r = some (.lst (labRow.map V.str)) := (s5.trans s6) _ _ e3
        refine ⟨.ref p, rfl, p, 6, rfl, hp6, by decide, by decide, fun v H7 v0 v6 b7 hp7 fr7 => ⟨v, rfl, by omega, by omega, fun D hD => ?_⟩⟩
        refine lc_pool (vs := [11]) (j := 11) (D := D) (p := p) walk_range (fun v => ∃ z : Int, v = .int z ∧ 0 ≤ z ∧ z < ((4 : Nat) : Int)) (by omega) hD hp7 (fun x => rfl) (fun k x H4 H5 hk hp4 y => ⟨y.1, fun Q2 q2 => ⟨.ref p, rfl, p, 4, rfl, hp4, by omega, by omega, fun z H6 z0 z4 b6 hp6 fr6 => q2 _ H6 b6 hp6 ⟨z, rfl, z0, z4⟩⟩⟩) (fun ys H8 b8 hp8 e8 el hl => ?_)
        obtain ⟨ms, rfl, hms⟩ := nat_row (n := 4) hl
        have er : H8 r = some (.lst (labRow.map V.str)) := b8 _ _ (b7 _ _ e6 npr) npr
        have bA : But p H1 H8 := (b6.trans b7).trans b8
        have dl : deepest ms < 4 := deepest_lt (by decide) hms
        refine ⟨.ref D, rfl, D, rfl, ⟨_, .inl (.inl e8)⟩, ?_⟩
        refine for_list (K := K) (a := D) (xs := ms.map (fun m : Nat => V.int (m : Int))) (fun k σ H' => ∃ z1 z4 z5 z6 z9 z10 z11, σ = [some (.ref a), z1, some (.ref p), some (.ref r), z4, z5, z6, some (.ref D), some (.int ((deepest (ms.take k) : Nat) : Int)), z9, z10, z11] ∧ H' = H8)
          ⟨_, _, _, _, _, _, _, rfl, rfl⟩ (fun k σ H' _ hW => ?_) (fun k v σ H9 hk hW => ?_) (fun σ H9 hW => ?_)
        · obtain ⟨_, _, _, _, _, _, _, _, e'⟩ := hW
          rw [e']
          exact .inl (.inl e8)
        · obtain ⟨z1, z4, z5, z6, z9, z10, z11, rfl, rfl⟩ := hW
          rw [List.getElem?_map] at hk
          obtain ⟨m, hm, rfl⟩ := Option.map_eq_some_iff.mp hk
          refine ⟨_, rfl, .inl ⟨_, rfl, _, rfl, .inl ⟨_, rfl, _, _, rfl, ?_⟩⟩⟩
          refine ⟨z1, z4, z5, z6, some (.int (m : Int)), z10, z11, ?_, rfl⟩
          have e : (if ((m : Nat) : Int) > ((deepest (ms.take k) : Nat) : Int) then ((m : Nat) : Int) else ((deepest (ms.take k) : Nat) : Int)) = ((deepest (ms.take (k + 1)) : Nat) : Int) := by
            rw [deepest_snoc hm]
            split <;> omega
          rw [← e]
          rfl
        · obtain ⟨z1, z4, z5, z6, z9, z10, z11, rfl, rfl⟩ := hW
          have hlm : (ms.map (fun m : Nat => V.int (m : Int))).length = ms.length := List.length_map ..
          rw [hlm, List.take_length]
          obtain ⟨y, yj, yv⟩ := row_at dl
          have ms_le : ms.length ≤ 6 := by rw [← hlm, el]; omega
          dsimp only
          refine ifop_P (fun v H' => ∃ x, v = .ref x ∧ Same H9 H' ∧ LabAt H' C x (deepest ms)) (fun v H1' u H' => ∃ x, u = .ref x ∧ Same H1' H' ∧ LabAt H' C x (deepest ms)) (fun Q' hq => ?_) (fun v H10 hv Q' hq => ?_) (fun v H10 u H11 hv hu => ?_)
          · refine ⟨.ref D, rfl, D, rfl, ⟨_, .inl (.inl e8)⟩, fun D2 hD2 => ?_⟩
            refine lc_rel (vs := [9]) (j := 9) (D := D2) (walk_list (K := K) (a := D) (xs := ms.map (fun m : Nat => V.int (m : Int)))) (fun k v H' => ∃ b m, v = .ref b ∧ ms[k]? = some m ∧ LabAt H' C b m) (by rw [hlm]; omega) hD2 (fun x => rfl)
              (fun H' s' => s'.seq (.inl (.inl e8))) (fun k v H2 H3 zs eD b d => ?_) (fun k x H2 H3 hk s2 y => ?_) (fun ys H2 s2 eD el2 hy => ?_)
            · obtain ⟨b2, m, rfl, hm, lb⟩ := d
              exact ⟨b2, m, rfl, hm, lb.but eD b⟩
            · obtain ⟨rfl, ex⟩ := y
              rw [List.getElem?_map] at ex
              obtain ⟨m, hm, rfl⟩ := Option.map_eq_some_iff.mp ex
              obtain ⟨y2, yj2, yv2⟩ := row_at (hms m (List.mem_of_getElem? hm))
              exact ⟨Same.refl _, fun Q2 q2 => lab_te yj2 (fun Q3 q3 => ⟨_, rfl, _, rfl, r, _, _, _, rfl, rfl, .inl (.inl (s2 _ _ er)), atI_nat yv2, q3⟩) fun x H' nx s4 l3 => q2 _ _ s4 ⟨x, m, rfl, hm, l3⟩⟩
            · exact ⟨D2, ys, ms, rfl, .inl (.inl (.inl eD)), ⟨el2.trans hlm, fun k v m e1 e2 => by
                obtain ⟨b, m2, ev, hm2, lb⟩ := hy k v e1
                rw [hm2] at e2
                cases e2
                exact ⟨b, ev, lb⟩⟩, fun x H' s' lx => hq _ _ ⟨x, rfl, s2.trans s', lx⟩⟩
          · obtain ⟨x, rfl, s10, lx⟩ := hv
            exact lab_te yj (fun Q2 q2 => ⟨_, rfl, _, rfl, r, _, _, _, rfl, rfl, .inl (.inl (s10 _ _ er)), atI_nat yv, q2⟩) fun x2 H' nx s' l2 => hq _ _ ⟨x2, rfl, s', l2⟩
          · obtain ⟨x, rfl, s10, lx⟩ := hv
            obtain ⟨x2, rfl, s11, lx2⟩ := hu
            have lx' := lx.ext s11
            obtain ⟨dx, fs, _, ea, _⟩ := id lx'
            obtain ⟨dy, gs, _, eb, _⟩ := id lx2
            refine ⟨x, dx, fs, rfl, ea, .inl ⟨x2, dy, gs, rfl, eb⟩, x, _, .ref x2, rfl, lx', .inl ⟨x2, _, rfl, lx2, _, rfl, _, rfl, iteNS rfl ?_⟩⟩
            have b11 : But p H1 H11 := but_same bA (s10.trans s11)
            unfold tNext
            dsimp only
            refine ifor_P (fun v H' => ∃ x, v = .ref x ∧ Same H11 H' ∧ LabAt H' C x 1) (fun v H1' u H' => ∃ x, u = .ref x ∧ Same H1' H' ∧ LabAt H' C x 1) (fun Q' hq => ?_) (fun v H12 hv Q' hq => ?_) (fun v H12 u H13 hv hu => ?_)
            · refine call_tl (lab_te (targ := tC (V.str "session")) (i := 1) (z := "session") rfl (fun Q2 q2 => q2) (fun x3 H' nx s12 l3 => ?_))
              refine ⟨(by show 1 ≤ sizeLine; decide), fun l nl => ⟨l, _, rfl, .inl ⟨.inl (.inl upd_same), fun t2 nt2 => ?_⟩⟩⟩
              refine ⟨t2, [.ref x3], [1], rfl, .inr (.inl (.inl upd_same)), ⟨rfl, fun k v m e1 e2 => ?_⟩, fun x4 H'' s13 l4 => hq _ _ ⟨x4, rfl, s12.trans ((same_upd nl).trans ((same_upd nt2).trans s13)), l4⟩⟩
              rcases k with _ | k
              · cases e1
                cases e2
                exact ⟨x3, rfl, l3.ext ((same_upd nl).trans (same_upd nt2))⟩
              · simp at e1
            · obtain ⟨x3, rfl, s12, l3⟩ := hv
              exact lab_te (targ := tC (V.str "session")) (i := 1) (z := "session") rfl (fun Q2 q2 => q2) fun x4 H' nx s' l4 => hq _ _ ⟨x4, rfl, s', l4⟩
            · obtain ⟨x3, rfl, s12, l3⟩ := hv
              obtain ⟨x4, rfl, s13, l4⟩ := hu
              have l3' := l3.ext s13
              obtain ⟨dx3, fs3, _, ea3, _⟩ := id l3'
              obtain ⟨dx4, fs4, _, ea4, _⟩ := id l4
              refine ⟨x3, dx3, fs3, rfl, ea3, .inl ⟨x4, dx4, fs4, rfl, ea4⟩, x3, 1, .ref x4, rfl, l3', .inl ⟨x4, 1, rfl, l4, _, rfl, _, rfl, iteNS rfl ?_⟩⟩
              refine ⟨(by show 0 ≤ sizeLine; decide), fun l nl => ⟨l, [], [], rfl, .inl (.inl (.inl upd_same)), ⟨rfl, fun k v m e1 e2 => by simp at e1⟩, fun x5 H14 s14 l5 => ?_⟩⟩
              obtain ⟨dx5, fs5, z5', ea5, r1, _, r3, _, _⟩ := id l5
              have ez : z5' = "always" := (Option.some.inj r1).symm
              subst ez
              refine ⟨x5, C, dx5, fs5, _, rfl, ea5, T.cl, T.nn, r3, rfl, _, rfl, iteNS rfl ?_⟩
              have b14 : But p H1 H14 := but_same b11 (s12.trans (s13.trans ((same_upd nl).trans s14)))
              exact ⟨_, _, _, _, _, _, _, _, _, _, _, rfl, same_but (s0.trans s1) nHp b14⟩
end
/-! ### what the top has written; the end -/
theorem all_mk {l : PySem.W.OpenLaw} {w : World} {K : PySem.W.Frag} {h : Heap} {mg : Str → Option Value} {fa : Addr} (X : K.In h) (G : h.Ns mainGlobals mg) (hfa : mg "law" = some (.ref fa))
    {cL cB cS : Addr}
    {fBI : Addr} {odBI anBI : Option Addr} {slBI : Array (Option Value)} {ocBI kVBI dcBI pmBI cdBI ctBI : Value}
    {fLI : Addr} {odLI anLI : Option Addr} {slLI : Array (Option Value)} {ocLI kVLI dcLI pmLI cdLI ctLI : Value}
    {fLE : Addr} {odLE anLE : Option Addr} {slLE : Array (Option Value)} {ocLE kVLE dcLE pmLE cdLE ctLE : Value}
    {fLT : Addr} {odLT anLT : Option Addr} {slLT : Array (Option Value)} {ocLT kVLT dcLT pmLT cdLT ctLT : Value}
    {fLL : Addr} {odLL anLL : Option Addr} {slLL : Array (Option Value)} {ocLL kVLL dcLL pmLL cdLL ctLL : Value}
    {fLS : Addr} {odLS anLS : Option Addr} {slLS : Array (Option Value)} {ocLS kVLS dcLS pmLS cdLS ctLS : Value}
    {fLH : Addr} {odLH anLH : Option Addr} {slLH : Array (Option Value)} {ocLH kVLH dcLH pmLH cdLH ctLH : Value}
    {fLs : Addr} {odLs anLs : Option Addr} {slLs : Array (Option Value)} {ocLs kVLs dcLs pmLs cdLs ctLs : Value}
    {fPl : Addr} {odPl anPl : Option Addr} {slPl : Array (Option Value)} {ocPl kVPl dcPl pmPl cdPl ctPl : Value}
    {fDr : Addr} {odDr anDr : Option Addr} {slDr : Array (Option Value)} {ocDr kVDr dcDr pmDr cdDr ctDr : Value}
    {fRf : Addr} {odRf anRf : Option Addr} {slRf : Array (Option Value)} {ocRf kVRf dcRf pmRf cdRf ctRf : Value}
    {fPr : Addr} {odPr anPr : Option Addr} {slPr : Array (Option Value)} {ocPr kVPr dcPr pmPr cdPr ctPr : Value}
    {fLa : Addr} {odLa anLa : Option Addr} {slLa : Array (Option Value)} {ocLa kVLa dcLa pmLa cdLa ctLa : Value}
    {nmB qB : Str} {NB : Addr} {bsB : List Value} {snB : List Str} {subB : List Value} {abB : Bool} {colB : Option Bool} {ddB : Option Addr} {m0 m1 m2 m3 m5 : Option Value} {aR : Addr} {itsR : Array Value} {nR : Nat} {slR : Array (Option Value)}
    (a_L : PySem.W.nsIn K mainGlobals "Label" = some (some (.ref cL)))
    (a_B : PySem.W.nsIn K mainGlobals "BadLabel" = some (some (.ref cB)))
    (a_S : PySem.W.nsIn K mainGlobals "StoreError" = some (some (.ref cS)))
    (aBI : PySem.W.findIn K (.ref cB) "__init__" = some (some (.ref fBI))) (iBI : PySem.W.isFn K (.ref fBI) = true)
    (lBI : K.lookup fBI = some ⟨ocBI, odBI, .func (PySem.W.fnOf "__init__" "BadLabel.__init__" (defArgs sBL) (defBody sBL) (defScope sBL) .none kVBI dcBI pmBI anBI cdBI ctBI), slBI⟩) (cBI : PySem.W.codeIn K cdBI "BadLabel.__init__" = true) (kBI : PySem.W.keepIn K (.ref fBI) = true)
    (aLI : PySem.W.findIn K (.ref cL) "__init__" = some (some (.ref fLI))) (iLI : PySem.W.isFn K (.ref fLI) = true)
    (lLI : K.lookup fLI = some ⟨ocLI, odLI, .func (PySem.W.fnOf "__init__" "Label.__init__" (defArgs sLab) (defBody sLab) (defScope sLab) .none kVLI dcLI pmLI anLI cdLI ctLI), slLI⟩) (cLI : PySem.W.codeIn K cdLI "Label.__init__" = true) (kLI : PySem.W.keepIn K (.ref fLI) = true)
    (aLE : PySem.W.findIn K (.ref cL) "__eq__" = some (some (.ref fLE))) (iLE : PySem.W.isFn K (.ref fLE) = true)
    (lLE : K.lookup fLE = some ⟨ocLE, odLE, .func (PySem.W.fnOf "__eq__" "Label.__eq__" (defArgs sLabEq) (defBody sLabEq) (defScope sLabEq) .none kVLE dcLE pmLE anLE cdLE ctLE), slLE⟩) (cLE : PySem.W.codeIn K cdLE "Label.__eq__" = true) (kLE : PySem.W.keepIn K (.ref fLE) = true)
    (aLT : PySem.W.findIn K (.ref cL) "__lt__" = some (some (.ref fLT))) (iLT : PySem.W.isFn K (.ref fLT) = true)
    (lLT : K.lookup fLT = some ⟨ocLT, odLT, .func (PySem.W.fnOf "__lt__" "Label.__lt__" (defArgs sLabLt) (defBody sLabLt) (defScope sLabLt) .none kVLT dcLT pmLT anLT cdLT ctLT), slLT⟩) (cLT : PySem.W.codeIn K cdLT "Label.__lt__" = true) (kLT : PySem.W.keepIn K (.ref fLT) = true)
    (aLL : PySem.W.findIn K (.ref cL) "__le__" = some (some (.ref fLL))) (iLL : PySem.W.isFn K (.ref fLL) = true)
    (lLL : K.lookup fLL = some ⟨ocLL, odLL, .func (PySem.W.fnOf "__le__" "Label.__le__" (defArgs sLabLe) (defBody sLabLe) (defScope sLabLe) .none kVLL dcLL pmLL anLL cdLL ctLL), slLL⟩) (cLL : PySem.W.codeIn K cdLL "Label.__le__" = true) (kLL : PySem.W.keepIn K (.ref fLL) = true)
    (aLS : PySem.W.findIn K (.ref cL) "is_steady" = some (some (.ref fLS))) (iLS : PySem.W.isFn K (.ref fLS) = true)
    (lLS : K.lookup fLS = some ⟨ocLS, odLS, .func (PySem.W.fnOf "is_steady" "Label.is_steady" (defArgs sSteady) (defBody sSteady) (defScope sSteady) .none kVLS dcLS pmLS anLS cdLS ctLS), slLS⟩) (cLS : PySem.W.codeIn K cdLS "Label.is_steady" = true) (kLS : PySem.W.keepIn K (.ref fLS) = true)
    (aLH : PySem.W.findIn K (.ref cL) "higher" = some (some (.ref fLH))) (iLH : PySem.W.isFn K (.ref fLH) = true)
    (lLH : K.lookup fLH = some ⟨ocLH, odLH, .func (PySem.W.fnOf "higher" "Label.higher" (defArgs sHigh) (defBody sHigh) (defScope sHigh) .none kVLH dcLH pmLH anLH cdLH ctLH), slLH⟩) (cLH : PySem.W.codeIn K cdLH "Label.higher" = true) (kLH : PySem.W.keepIn K (.ref fLH) = true)
    (aLs : PySem.W.nsIn K mainGlobals "least" = some (some (.ref fLs)))
    (lLs : K.lookup fLs = some ⟨ocLs, odLs, .func (PySem.W.fnOf "least" "least" (defArgs sLeast) (defBody sLeast) (defScope sLeast) .none kVLs dcLs pmLs anLs cdLs ctLs), slLs⟩) (cLs : PySem.W.codeIn K cdLs "least" = true) (kLs : PySem.W.keepIn K (.ref fLs) = true)
    (aPl : PySem.W.nsIn K mainGlobals "_law_pool" = some (some (.ref fPl)))
    (lPl : K.lookup fPl = some ⟨ocPl, odPl, .func (PySem.W.fnOf "_law_pool" "_law_pool" (defArgs sPool) (defBody sPool) (defScope sPool) .none kVPl dcPl pmPl anPl cdPl ctPl), slPl⟩) (cPl : PySem.W.codeIn K cdPl "_law_pool" = true) (kPl : PySem.W.keepIn K (.ref fPl) = true)
    (aDr : PySem.W.nsIn K mainGlobals "_law_draw" = some (some (.ref fDr)))
    (lDr : K.lookup fDr = some ⟨ocDr, odDr, .func (PySem.W.fnOf "_law_draw" "_law_draw" (defArgs sDraw) (defBody sDraw) (defScope sDraw) .none kVDr dcDr pmDr anDr cdDr ctDr), slDr⟩) (cDr : PySem.W.codeIn K cdDr "_law_draw" = true) (kDr : PySem.W.keepIn K (.ref fDr) = true)
    (aRf : PySem.W.nsIn K mainGlobals "_law_refused" = some (some (.ref fRf)))
    (lRf : K.lookup fRf = some ⟨ocRf, odRf, .func (PySem.W.fnOf "_law_refused" "_law_refused" (defArgs sRef) (defBody sRef) (defScope sRef) .none kVRf dcRf pmRf anRf cdRf ctRf), slRf⟩) (cRf : PySem.W.codeIn K cdRf "_law_refused" = true) (kRf : PySem.W.keepIn K (.ref fRf) = true)
    (aPr : PySem.W.nsIn K mainGlobals "_law_pair_right" = some (some (.ref fPr)))
    (lPr : K.lookup fPr = some ⟨ocPr, odPr, .func (PySem.W.fnOf "_law_pair_right" "_law_pair_right" (defArgs sPair) (defBody sPair) (defScope sPair) .none kVPr dcPr pmPr anPr cdPr ctPr), slPr⟩) (cPr : PySem.W.codeIn K cdPr "_law_pair_right" = true) (kPr : PySem.W.keepIn K (.ref fPr) = true)
    (aLa : PySem.W.nsIn K mainGlobals "law" = some (some (.ref fLa)))
    (lLa : K.lookup fLa = some ⟨ocLa, odLa, .func (PySem.W.fnOf "law" "law" (defArgs sLaw) (defBody sLaw) (defScope sLaw) .none kVLa dcLa pmLa anLa cdLa ctLa), slLa⟩) (cLa : PySem.W.codeIn K cdLa "law" = true) (kLa : PySem.W.keepIn K (.ref fLa) = true)
    (z_abs : PySem.W.nsIn K mainGlobals "abs" = some none)
    (z_int : PySem.W.nsIn K mainGlobals "int" = some none)
    (z_len : PySem.W.nsIn K mainGlobals "len" = some none)
    (z_sum : PySem.W.nsIn K mainGlobals "sum" = some none)
    (z_max : PySem.W.nsIn K mainGlobals "max" = some none)
    (z_min : PySem.W.nsIn K mainGlobals "min" = some none)
    (z_range : PySem.W.nsIn K mainGlobals "range" = some none)
    (z_isinstance : PySem.W.nsIn K mainGlobals "isinstance" = some none)
    (z_bool : PySem.W.nsIn K mainGlobals "bool" = some none)
    (z_str : PySem.W.nsIn K mainGlobals "str" = some none)
    (z_tuple : PySem.W.nsIn K mainGlobals "tuple" = some none)
    (z_list : PySem.W.nsIn K mainGlobals "list" = some none)
    (z_dict : PySem.W.nsIn K mainGlobals "dict" = some none)
    (z_all : PySem.W.nsIn K mainGlobals "all" = some none)
    (z_sorted : PySem.W.nsIn K mainGlobals "sorted" = some none)
    (z_repr : PySem.W.nsIn K mainGlobals "repr" = some none)
    (z_zip : PySem.W.nsIn K mainGlobals "zip" = some none)
    (z_ValueError : PySem.W.nsIn K mainGlobals "ValueError" = some none)
    (pgL : PySem.W.plainGet K cL Str.empty = true)
    (hdL : PySem.W.hasDictIn K cL = true)
    (poL : PySem.W.plainOver K cL = true)
    (saL : PySem.W.findIn K (.ref cL) "__setattr__" = some (some (.builtin "object.__setattr__")))
    (mkL : PySem.W.makesIn K cL = true)
    (kcL : PySem.W.keepIn K (.ref cL) = true)
    (nhL : PySem.W.findIn K (.ref cL) "_height" = some none)
    (nnL : PySem.W.findIn K (.ref cL) "name" = some none)
    (meL : PySem.W.kitOne K (.ref cL) (.ref cL) = some true)
    (otL : PySem.W.kitOne K (.type "str") (.ref cL) = some false)
    (caL : PySem.W.findIn K (.ref cL) "__class__" = some (some (.builtin "object.__class__")))
    (cgL : PySem.W.specialIn K (.builtin "object.__class__") "__get__" = some (some (.builtin "getset_descriptor.__get__")))
    (ctL : PySem.W.takesIn K (.builtin "object.__class__") = some true)
    (cmL : PySem.W.mroIn K cL (.type "object") = some true)
    (neL : PySem.W.findIn K (.ref cL) "__ne__" = some (some (.builtin "object.__ne__")))
    (soL : PySem.W.subIn K (.ref cL) (.type "object") = some true)
    (nfL : PySem.W.notFirst K cL (.type "str") = true)
    (xB : K.lookup cB = some (excClassObj nmB qB cB NB bsB [.ref cS, .type "ValueError", .type "Exception", .type "BaseException", .type "object"] true snB subB abB colB ddB m0 m1 m2 m3 m5 "ValueError.__new__"))
    (saB : PySem.W.findIn K (.ref cB) "__setattr__" = some (some (.builtin "object.__setattr__")))
    (exB : PySem.W.subIn K (.ref cB) (.type "BaseException") = some true)
    (tyB : PySem.W.typeIn K (.ref cB) = some (.type "type"))
    (kcB : PySem.W.keepIn K (.ref cB) = true)
    (nlB : PySem.W.findIn K (.ref cB) "label" = some none)
    (tfB : PySem.W.typeIn K (.ref fBI) = some (.type "function"))
    (gaB : PySem.W.findIn K (.ref cB) "__getattribute__" = some (some (.builtin "BaseException.__getattribute__")))
    (ggB : PySem.W.findIn K (.ref cB) "__getattr__" = some none)
    (hdB : PySem.W.hasDictIn K cB = true)
    (clB : (PySem.W.clsIn K cB).isSome = true)
    (caB : PySem.W.findIn K (.ref cB) "__class__" = some (some (.builtin "object.__class__")))
    (moB : PySem.W.mroIn K cB (.type "object") = some true)
    (icB : PySem.W.isClsIn K cB = true)
    (sfB : PySem.W.subIn K (.ref cB) (.ref cB) = some true)
    (iSB : PySem.W.kitOne K (.ref cB) (.ref cS) = some true)
    (iVB : PySem.W.kitOne K (.ref cB) (.type "ValueError") = some true)
    (spS : PySem.W.specialIn K (.ref cS) "__getattribute__" = some (some (.builtin "type.__getattribute__")))
    (tyS : PySem.W.typeIn K (.ref cS) = some (.type "type"))
    (rdS : PySem.W.readsIn K cS (.type "type") = true)
    (fiS : PySem.W.findCls K (.ref cS) (.type "type") "__init__" = some (.val (.builtin "ValueError.__init__")))
    (vR : PySem.W.nsIn K mainGlobals "LABELS" = some (some (.ref aR)))
    (lR : K.lookup aR = some ⟨.type "tuple", none, .seq itsR nR, slR⟩)
    (rR : Vals (labRow.map V.str) itsR.toList)
    (sR : itsR.size ≤ sizeLine) :
    ∃ fd : FuncData, (∀ (s : Shared) (v : Value), BindsTo s fd ⟨[v], []⟩ [("_law_script", v)]) ∧ ∀ base : Heap, K.In base → base.Ns mainGlobals mg → FnG l.prog w K mg base 6 fa fd ["_law_script"] (spLaw K) := by
  have e := hfa.symm.trans (PySem.W.mg_of X G aLa)
  cases e
  have FBI := fun_mk (st := sBL) lBI cBI kBI
  have bBI := FBI.binds (ps := ["self", "label"]) fun _ _ _ _ _ _ us hl => match us, hl with | [_, _], _ => rfl
  have FLI := fun_mk (st := sLab) lLI cLI kLI
  have bLI := FLI.binds (ps := ["self", "name"]) fun _ _ _ _ _ _ us hl => match us, hl with | [_, _], _ => rfl
  have FLE := fun_mk (st := sLabEq) lLE cLE kLE
  have bLE := FLE.binds (ps := ["self", "other"]) fun _ _ _ _ _ _ us hl => match us, hl with | [_, _], _ => rfl
  have FLT := fun_mk (st := sLabLt) lLT cLT kLT
  have bLT := FLT.binds (ps := ["self", "other"]) fun _ _ _ _ _ _ us hl => match us, hl with | [_, _], _ => rfl
  have FLL := fun_mk (st := sLabLe) lLL cLL kLL
  have bLL := FLL.binds (ps := ["self", "other"]) fun _ _ _ _ _ _ us hl => match us, hl with | [_, _], _ => rfl
  have FLS := fun_mk (st := sSteady) lLS cLS kLS
  have bLS := FLS.binds (ps := ["self"]) fun _ _ _ _ _ _ us hl => match us, hl with | [_], _ => rfl
  have FLH := fun_mk (st := sHigh) lLH cLH kLH
  have bLH := FLH.binds (ps := ["self"]) fun _ _ _ _ _ _ us hl => match us, hl with | [_], _ => rfl
  have FLs := fun_mk (st := sLeast) lLs cLs kLs
  have bLs := FLs.binds (ps := ["labels"]) fun _ _ _ _ _ _ us hl => match us, hl with | [_], _ => rfl
  have FPl := fun_mk (st := sPool) lPl cPl kPl
  have bPl := FPl.binds (ps := ["_law_script", "_law_k"]) fun _ _ _ _ _ _ us hl => match us, hl with | [_, _], _ => rfl
  have FDr := fun_mk (st := sDraw) lDr cDr kDr
  have bDr := FDr.binds (ps := ["_law_pool_here", "_law_many"]) fun _ _ _ _ _ _ us hl => match us, hl with | [_, _], _ => rfl
  have FRf := fun_mk (st := sRef) lRf cRf kRf
  have bRf := FRf.binds (ps := ["_law_odd"]) fun _ _ _ _ _ _ us hl => match us, hl with | [_], _ => rfl
  have FPr := fun_mk (st := sPair) lPr cPr kPr
  have bPr := FPr.binds (ps := ["_law_row", "_law_one", "_law_other"]) fun _ _ _ _ _ _ us hl => match us, hl with | [_, _, _], _ => rfl
  have FLa := fun_mk (st := sLaw) lLa cLa kLa
  have M : Blt mg := ⟨PySem.W.mg_none_of X G z_abs, PySem.W.mg_none_of X G z_int, PySem.W.mg_none_of X G z_len, PySem.W.mg_none_of X G z_sum, PySem.W.mg_none_of X G z_max, PySem.W.mg_none_of X G z_min, PySem.W.mg_none_of X G z_range, PySem.W.mg_none_of X G z_isinstance, PySem.W.mg_none_of X G z_bool, PySem.W.mg_none_of X G z_str, PySem.W.mg_none_of X G z_tuple, PySem.W.mg_none_of X G z_list, PySem.W.mg_none_of X G z_dict, PySem.W.mg_none_of X G z_all, PySem.W.mg_none_of X G z_sorted, PySem.W.mg_none_of X G z_repr, PySem.W.mg_none_of X G z_zip⟩
  have T : LabC K mg cL := ⟨⟨pgL, hdL, poL, saL⟩, nhL, nnL, meL, otL, (PySem.W.mg_of X G a_L), caL, cgL, ctL, cmL, neL, soL, nfL⟩
  have R : RowT K mg := ⟨aR, _, (PySem.W.mg_of X G vR), lR, rfl, rfl, fun H => .inr ⟨_, itsR, nR, lR, rfl, rfl, sR, rR⟩⟩
  have oex : OexC K cB := ⟨⟨nmB, qB, NB, bsB, _, snB, subB, abB, colB, ddB, m0, m1, m2, m3, m5, xB, by rfl⟩, saB, exB, tyB, kcB⟩
  have TE : ErrT K mg "BadLabel" "label" cB fBI := ⟨oex, nlB, aBI, tfB, (PySem.W.mg_of X G a_B)⟩
  have OB : OwnBase K mg "StoreError" cS := ⟨(PySem.W.mg_of X G a_S), spS, tyS, rdS, fiS⟩
  have BC : BadC K mg cB cS := ⟨(PySem.W.mg_of X G a_B), (PySem.W.mg_of X G a_S), PySem.W.mg_none_of X G z_ValueError, ⟨gaB, ggB, exB, hdB⟩, nlB, ⟨clB, gaB, ggB, exB, caB, cgL, ctL, moB⟩, PySem.W.exm_ref exB hdB tyB sfB, iSB, iVB⟩
  exact ⟨PySem.W.fnOf "law" "law" (defArgs sLaw) (defBody sLaw) (defScope sLaw) .none kVLa dcLa pmLa anLa cdLa ctLa, fun s v => .of_eq rfl, fun base _ _ => by
    have GB := ok_badL (P := l.prog) (w := w) (base := base) FBI OB oex nlB
    have GL := ok_lab (P := l.prog) (w := w) (base := base) FLI M T R TE GB bBI
    have LM : LabM l.prog w K mg base cL cB fLI _ := ⟨⟨mkL, aLI, iLI, kcL⟩, GL, bLI, (PySem.W.mg_of X G a_L)⟩
    have LLt : LabLt l.prog w K mg base cL fLT _ := ⟨aLT, iLT, ok_labLt FLT M T, bLT⟩
    have LO : LabO l.prog w K mg base cL fLE fLL fLS fLH _ _ _ _ := ⟨aLE, iLE, ok_labEq FLE M T, bLE, aLL, iLL, ok_labLe FLL M T, bLL, ⟨aLS, iLS, kLS⟩, ok_steady FLS T, bLS, ⟨aLH, iLH, kLH⟩, ok_high FLH T R LM, bLH⟩
    exact ok_law FLa M T R LM LO ⟨FPl, FDr, kRf, kPr, kLs, bPl, bDr, bRf, bPr, bLs, (PySem.W.mg_of X G aPl), (PySem.W.mg_of X G aDr), (PySem.W.mg_of X G aRf), (PySem.W.mg_of X G aPr), (PySem.W.mg_of X G aLs), ok_refused FRf M BC LM, ok_pair FPr M T LM LLt LO, ok_least FLs LM LLt⟩⟩
end Sc
open PySem PySem.W PyProof.Rows
set_option maxHeartbeats 0 in
theorem PySem.Challenge.cw_steadycalls_k01_labels_holds : PySem.Challenge.rw_steadycalls_k01_labels.Holds := by
  w_on; o_law; k_head; (case hw => w_witness2)
  k_fill
  refine Sc.EndG.walk_told (l := PySem.Challenge.rw_steadycalls_k01_labels) (n := 63) (k := 6) (x := "_law_script") (sp := fun w => Sc.spLaw _) rfl (by decide) rfl ⟨rfl, by decide, by decide⟩ (fun w h Y => PySem.W.kIn_of Y) ?F (fun _ _ a ns hl hS => ⟨a, ns, rfl, hS, hl, fun _ => rfl⟩)
  case F =>
    intro w mg fa h KX G hmg
    refine' Sc.all_mk KX G hmg ?a_L ?a_B ?a_S ?aBI ?iBI ?lBI ?cBI ?kBI ?aLI ?iLI ?lLI ?cLI ?kLI ?aLE ?iLE ?lLE ?cLE ?kLE ?aLT ?iLT ?lLT ?cLT ?kLT ?aLL ?iLL ?lLL ?cLL ?kLL ?aLS ?iLS ?lLS ?cLS ?kLS ?aLH ?iLH ?lLH ?cLH ?kLH ?aLs ?lLs ?cLs ?kLs ?aPl ?lPl ?cPl ?kPl ?aDr ?lDr ?cDr ?kDr ?aRf ?lRf ?cRf ?kRf ?aPr ?lPr ?cPr ?kPr ?aLa ?lLa ?cLa ?kLa ?z_abs ?z_int ?z_len ?z_sum ?z_max ?z_min ?z_range ?z_isinstance ?z_bool ?z_str ?z_tuple ?z_list ?z_dict ?z_all ?z_sorted ?z_repr ?z_zip ?z_ValueError ?pgL ?hdL ?poL ?saL ?mkL ?kcL ?nhL ?nnL ?meL ?otL ?caL ?cgL ?ctL ?cmL ?neL ?soL ?nfL ?xB ?saB ?exB ?tyB ?kcB ?nlB ?tfB ?gaB ?ggB ?hdB ?clB ?caB ?moB ?icB ?sfB ?iSB ?iVB ?spS ?tyS ?rdS ?fiS ?vR ?lR ?rR ?sR
    case a_L => k_is
    case a_B => k_is
    case a_S => k_is
    case aBI => k_is
    case iBI => k_is
    case lBI => k_is
    case cBI => k_is
    case kBI => k_is
    case aLI => k_is
    case iLI => k_is
    case lLI => k_is
    case cLI => k_is
    case kLI => k_is
    case aLE => k_is
    case iLE => k_is
    case lLE => k_is
    case cLE => k_is
    case kLE => k_is
    case aLT => k_is
    case iLT => k_is
    case lLT => k_is
    case cLT => k_is
    case kLT => k_is
    case aLL => k_is
    case iLL => k_is
    case lLL => k_is
    case cLL => k_is
    case kLL => k_is
    case aLS => k_is
    case iLS => k_is
    case lLS => k_is
    case cLS => k_is
    case kLS => k_is
    case aLH => k_is
    case iLH => k_is
    case lLH => k_is
    case cLH => k_is
    case kLH => k_is
    case aLs => k_is
    case lLs => k_is
    case cLs => k_is
    case kLs => k_is
    case aPl => k_is
    case lPl => k_is
    case cPl => k_is
    case kPl => k_is
    case aDr => k_is
    case lDr => k_is
    case cDr => k_is
    case kDr => k_is
    case aRf => k_is
    case lRf => k_is
    case cRf => k_is
    case kRf => k_is
    case aPr => k_is
    case lPr => k_is
    case cPr => k_is
    case kPr => k_is
    case aLa => k_is
    case lLa => k_is
    case cLa => k_is
    case kLa => k_is
    case z_abs => k_is
    case z_int => k_is
    case z_len => k_is
    case z_sum => k_is
    case z_max => k_is
    case z_min => k_is
    case z_range => k_is
    case z_isinstance => k_is
    case z_bool => k_is
    case z_str => k_is
    case z_tuple => k_is
    case z_list => k_is
    case z_dict => k_is
    case z_all => k_is
    case z_sorted => k_is
    case z_repr => k_is
    case z_zip => k_is
    case z_ValueError => k_is
    case pgL => k_is
    case hdL => k_is
    case poL => k_is
    case saL => k_is
    case mkL => k_is
    case kcL => k_is
    case nhL => k_is
    case nnL => k_is
    case meL => first | k_is | rfl | decide +kernel
    case otL => first | k_is | rfl | decide +kernel
    case caL => k_is
    case cgL => k_is
    case ctL => k_is
    case cmL => k_is
    case neL => k_is
    case soL => k_is
    case nfL => first | k_is | rfl | decide +kernel
    case xB => k_is
    case saB => k_is
    case exB => k_is
    case tyB => k_is
    case kcB => k_is
    case nlB => k_is
    case tfB => k_is
    case gaB => k_is
    case ggB => k_is
    case hdB => k_is
    case clB => first | k_is | rfl | decide +kernel
    case caB => k_is
    case moB => k_is
    case icB => k_is
    case sfB => first | k_is | rfl | decide +kernel
    case iSB => first | k_is | rfl | decide +kernel
    case iVB => first | k_is | rfl | decide +kernel
    case spS => k_is
    case tyS => k_is
    case rdS => first | k_is | rfl | decide +kernel
    case fiS => first | k_is | rfl | decide +kernel
    case vR => k_is
    case lR => k_is
    case rR => exact .cons ⟨_, rfl⟩ (.cons ⟨_, rfl⟩ (.cons ⟨_, rfl⟩ (.cons ⟨_, rfl⟩ .nil)))
    case sR => decide +kernel


