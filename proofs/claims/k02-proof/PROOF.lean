import PyProof.Rows.All
import Wide.All
import OpenK.AllK
import Wide.FinOn
import PyProof.ReprRoads
import KE.KExcIs
import HandS.Base
import HandS.Call
import HandS.List
import HandS.Comp
import HandS.Ends
import HandS.Words
import HandS.Dict
import HandS.Iter
import HandS.Text
import HandS.Evl
import HandS.IsInst
import HandS.Walk
import HandS.More
import HandS.TupAny
import HandS.OwnEq
import HandS.SlotsOwn
import HandS.Exc
import HandS.ExcInit
import HandS.ExcField
import HandS.WordsExc
import HandS.CallSlots
import HandS.Strs
import HandS.Conv
import HandS.RaiseMore
import HandS.Style
import HandS.ExcIs
import HandS.MakeKw
import HandS.MakeKwOnly
import PyProof.ExcBaseAll.LookupError
import PyProof.Rows.FactsExc_KeyError
import PyProof.ExcBaseAll.RuntimeError
import PyProof.ExcBaseAll.OverflowError
import HandS.TupMul
import HandS.TupLe
import HandS.DictComp
import HandS.LawCells
import HandS.Small
import HandS.TryMany
import HandS.TryOnly
import HandS.GenBody
import HandS.GenYield
import HandS.GenCall
import HandS.GenList
import HandS.ListEq
import HandS.DictEq
import HandS.WordsDict
import PySem.Challenge.RW_steadycalls_k02_cells_and_states
set_option Elab.async false
set_option linter.all false
set_option maxRecDepth 100000
set_option maxHeartbeats 4000000
namespace Sc
open PySem PySem.Spec PyProof.Rows L2
def topS (i : Nat) : Stmt := PySem.Challenge.pw_steadycalls_k02_cells_and_states.main.body.getD i (.Pass ⟨0, 0, 0, 0⟩)
/-! ### for in a generator's body -/
namespace GfX
open GenW
/-- what is wanted of a generator's for -/
def tGFor (wi : TI) (g : TG) (tb : TGn) : TGn := fun D ys σ H => wi σ H fun J H1 => ∃ W : Nat → Nat → List V → L2.St → Hp → Prop, (∃ m, W 0 m ys σ H1) ∧ ∀ i m ys σ H, W i m ys σ H →
  (J.stop i H ∧ D.nx ys σ H) ∨ (J.go i H ∧ ∃ N : List V → L2.St → Hp → Prop, (∀ ys' σ' H', N ys' σ' H' → ∃ m', m' < m ∧ W (i + 1) m' ys' σ' H') ∧ ∀ x H', J.yld i H x H' → g x σ H' fun σ2 H2 => tb { D with nx := N, ct := N, bk := D.nx } ys σ2 H2)
section
variable {M : Model} {A : Around} {R : GenEnd} {Y : Protocol} {n : Nat} {s₀ s : Shared} {c : Code} {fs : List Frame} {env : Env} {K : Flow → Sem PySem.Fin} {H : Value → Sem PySem.Fin} {gd : Bool → Bool} {lv : List Value → List Value}
/-- a statement for: its iterator, then the loop's own code -/
theorem seg_ForG {target iter : Expr} {body : List Stmt} {pos : Pos} (hs : ∀ x, foldedSetIterable iter env x = pure x)
    (h : wpAny M (A.over c fs) (eval iter env) (fun x s1 => wpAny M (A.over c fs) (pyIter x) (fun it s2 => ∀ p, Seg M A R Y n s₀ (.forLoop target it body [] env) (M.den (.forLoop target it body [] env))
      (.ret (fun r => ((match r with | .ok f => (.pure f : Sem Flow) | .error e => .raise e).onRaise (cameBack env)).wrap K H gd lv) none (gd false) (lv []) c p [] :: fs) s2) (fun x s' => Seg M A R Y n s₀ c (H x) fs s') s1) (fun x s' => Seg M A R Y n s₀ c (H x) fs s') s) :
    Seg M A R Y n s₀ c ((exec (.For target iter body [] pos) env).wrap K H gd lv) fs s := by
  rw [exec_For]
  refine seg_bind_wrap (wpAny_standAt ?_)
  refine seg_bind_wrap (wpAny_mono h (fun x s1 h1 => ?_) fun _ _ q => q)
  refine seg_bind_wrap (wpAny_of_eq (hs x) ?_)
  refine seg_bind_wrap (wpAny_standAt ?_)
  refine seg_bind_wrap (wpAny_holding (wpAny_mono h1 (fun it s2 h2 => ?_) fun _ _ q => q))
  exact seg_call h2
/-- what leaves a loop's code -/
def gone (env : Env) : Value → Sem PySem.Fin := fun x => ((do noteFrame x env; theTreesLotGoes x : Sem Unit).bind fun _ => .raise x)
end
section
variable {prog : Program} {w : World} {A : Around} {R : GenEnd} {Y : Protocol} {n : Nat} {s₀ s : Shared} {fs : List Frame} {env : Env}
theorem seg_blockG {c' : Code} (h : Seg (model prog w) A R Y n s₀ (.block [] env) (.pure (.done .next)) fs s) : Seg (model prog w) A R Y n s₀ (.block [] env) ((model prog w).den (.block [] env)) fs s := h
/-- one turn of a loop's code -/
theorem seg_forLoopG {target : Expr} {it : Value} {body : List Stmt}
    (h : wpAny (model prog w) (A.over (.forLoop target it body [] env) fs) (pyNext it) (fun r s1 => match r with
        | none => Seg (model prog w) A R Y n s₀ (.forLoop target it body [] env) (.pure (.again (.block [] env))) fs s1
        | some v => wpAny (model prog w) (A.over (.forLoop target it body [] env) fs) (letOwnedTupleGo target it v) (fun _ s2 => wpAny (model prog w) (A.over (.forLoop target it body [] env) fs) (assign target env v) (fun _ s3 =>
            Seg (model prog w) A R Y n s₀ (.forLoop target it body [] env) ((execs body env).wrap (fun f => match f with
              | .next | .cont => .pure (.again (.forLoop target it body [] env))
              | .brk => .pure (.done .next)
              | .ret v => .pure (.done (.ret v))) (gone env) id id) fs s3)
          (fun x s' => Seg (model prog w) A R Y n s₀ (.forLoop target it body [] env) (gone env x) fs s') s2) (fun x s' => Seg (model prog w) A R Y n s₀ (.forLoop target it body [] env) (gone env x) fs s') s1)
      (fun x s' => Seg (model prog w) A R Y n s₀ (.forLoop target it body [] env) (gone env x) fs s') s) :
    Seg (model prog w) A R Y n s₀ (.forLoop target it body [] env) ((model prog w).den (.forLoop target it body [] env)) fs s := by
  show Seg _ A R Y n s₀ _ ((forTurn target it body [] env).onRaise (fun x => do noteFrame x env; theTreesLotGoes x)) fs s
  rw [Sem.onRaise_eq_wrap]
  unfold forTurn
  refine seg_bind_wrap (wpAny_standAt ?_)
  refine seg_bind_wrap (wpAny_onRaise (wpAny_mono h (fun r s1 h1 => ?_) fun x s' hx => wpAny_standAt hx))
  cases r with
  | none => exact h1
  | some v =>
    refine seg_bind_wrap (wpAny_mono h1 (fun _ s2 h2 => ?_) fun x s' hx => hx)
    refine seg_bind_wrap (wpAny_mono h2 (fun _ s3 h3 => ?_) fun x s' hx => hx)
    rw [Sem.bind_eq_wrap', Sem.wrap_wrap]
    rw [Sem.wrap_congr (execs body env) _ _ (K' := fun f => match f with
              | .next | .cont => .pure (.again (.forLoop target it body [] env))
              | .brk => .pure (.done .next)
              | .ret v => .pure (.done (.ret v))) (H' := gone env) (fun f => by cases f <;> rfl) (fun e => by rfl)]
    exact h3
end
section
variable {X : Cx}
theorem gs_for {tg iter : Expr} {body : List Stmt} {wi : TI} {g : TG} {tb : TGn} {pos : Pos} (hp : PassesOwn (model X.prog X.w) X.A X.env X.xe) (hcalm : X.calm = true) (hi : PI X tg iter wi) (hg : PG X tg g) (hb : GSs X body tb)
    (hs : ∀ x, foldedSetIterable iter X.env x = pure x := by intro _; rfl) : GS X (.For tg iter body [] pos) (tGFor wi g tb) := by
  refine ⟨fun A S ip R n ys s₀ c fs K J gd lv s σ H D gc hn k hI ht => ?_⟩
  obtain ⟨acc0, cc0, r0, I0⟩ := hI
  refine seg_ForG hs ?_
  rw [gc.over]
  refine wpAny_mono (hi.run _ s σ H _ I0 ht) (fun v s1 h1 => wpAny_mono h1 (fun itv s2 h2 => fun p => ?_) fun x s' hx => k.exc n s₀ x s' hx) fun x s' hx => k.exc n s₀ x s' hx
  obtain ⟨it, fp, tn, JJ, H2, e, I2, T, st2, f2, W, ⟨m0, w0⟩, turn⟩ := h2
  subst e
  have stat : ∀ {H' : Hp} {acc : Array Value} {cc : Nat}, (∀ b ∈ fp, H' b = none) → ∀ b ∈ fp, FpOk X ((S, lstObj acc cc) :: ip) H' b := fun {H' acc cc} hn b hb => by
    obtain ⟨q0, q1, q2, q3, q4, q5⟩ := f2 b hb
    refine ⟨hn b hb, q1, q2, q3, q4, fun p hp => ?_⟩
    rcases List.mem_append.mp hp with hp | hp
    · exact q5 p (List.mem_append_left _ hp)
    · rcases List.mem_cons.mp hp with hp | hp
      · rw [hp]
        exact q5 (S, lstObj acc0 cc0) (List.mem_append_right _ List.mem_cons_self)
      · exact q5 p (List.mem_append_right _ (List.mem_cons_of_mem _ hp))
  have fpS : ∀ b ∈ fp, b ≠ S := fun b hb z => (f2 b hb).2.2.2.2.2 (S, lstObj acc0 cc0) (List.mem_append_right _ List.mem_cons_self) z.symm
  have gl := fun (kk : Result → Sem PySem.Fin) => gc_loop (k := kk) (c' := .forLoop tg (.ref it) body [] X.env) (l := lv []) (kp := []) (p := p) gc rfl rfl
  have gl2 := fun (kk : Result → Sem PySem.Fin) => gc_loop (k := kk) (c' := .block [] X.env) (l := lv []) (kp := []) (p := p) gc rfl rfl
  have ee : ∀ (n : Nat) (s₀ : Shared) (x : Value) (s' : Shared), X.xe x s' → Seg (model X.prog X.w) A R (GY X S) n s₀ (.forLoop tg (.ref it) body [] X.env) (gone X.env x)
      (.ret (fun r => ((match r with | .ok f => (.pure f : Sem Flow) | .error e => .raise e).onRaise (cameBack X.env)).wrap K J gd lv) none (gd false) (lv []) c p [] :: fs) s' := fun n s₀ x s' hx => by
    unfold gone
    rw [Sem.bind_eq_wrap]
    refine seg_wrap ?_
    rw [(gl _).over]
    refine wpAny_bind (wpAny_mono (hp x s' hx) (fun _ s'' hcb => wpAny_theTreesLotGoes ?_) fun y s'' hcb => ?_)
    · exact seg_leaf (.error x) (seg_cameBack gc k hcb)
    · exact seg_leaf (.error y) (seg_cameBack gc k hcb)
  have loop : ∀ (m i n : Nat) (ys : List V) (s₀ s : Shared) (σ : L2.St) (H : Hp), n + ys.length = sizeLine → W i m ys σ H → GI X S ip ys σ H s → tn i s.heap → (∀ b ∈ fp, H b = none) →
      Seg (model X.prog X.w) A R (GY X S) n s₀ (.forLoop tg (.ref it) body [] X.env) ((model X.prog X.w).den (.forLoop tg (.ref it) body [] X.env))
        (.ret (fun r => ((match r with | .ok f => (.pure f : Sem Flow) | .error e => .raise e).onRaise (cameBack X.env)).wrap K J gd lv) none (gd false) (lv []) c p [] :: fs) s := by
    intro m
    induction m using Nat.strongRecOn with
    | ind m ih =>
      intro i n ys s₀ s3 σ3 H3 hn w3 hI st3 fr3
      refine seg_forLoopG ?_
      rw [(gl _).over]
      obtain ⟨acc, cc, r, I3⟩ := hI
      rcases turn i m ys σ3 H3 w3 with ⟨stop, qn⟩ | ⟨go, N, hN, step⟩
      · refine wpAny_mono (T.done X rfl rfl rfl hcalm i _ s3 σ3 H3 X.xe I3 (stat fr3) st3 stop) (fun r s4 ⟨hr, I4⟩ => ?_) fun x s' hx => ee n s₀ x s' hx
        subst hr
        refine seg_again rfl (seg_blockG (c' := c) ?_)
        exact seg_leaf (.ok .next) (k.ok n ys s₀ s4 .next hn ⟨σ3, H3, ⟨acc, cc, by assumption, I4⟩, qn⟩)
      · refine wpAny_mono (T.item X rfl rfl rfl hcalm i _ s3 σ3 H3 X.xe I3 (stat fr3) st3 go) (fun r s4 ⟨u, hr, h4⟩ => ?_) fun x s' hx => ee n s₀ x s' hx
        subst hr
        refine wpAny_mono h4 (fun _ s5 ⟨x, H5, I5, r5, y5, st5, fr5⟩ => ?_) fun x s' hx => ee n s₀ x s' hx
        have I5' := I5.pinned (stat fr5) (T.obj _ _ st5)
        refine wpAny_mono (hg.run _ s5 σ3 H5 x u _ I5' r5 (step x H5 y5)) (fun _ s6 ⟨σ6, H6, I6, q6⟩ => ?_) fun x s' hx => ee n s₀ x s' hx
        have gcp : GC X S (ip ++ pinsAt fp s5.heap) A (.forLoop tg (.ref it) body [] X.env) (.ret (fun r => ((match r with | .ok f => (.pure f : Sem Flow) | .error e => .raise e).onRaise (cameBack X.env)).wrap K J gd lv) none (gd false) (lv []) c p [] :: fs) id := by
          obtain ⟨a1, a2, a3, a4, a5, a6, a7⟩ := gl (fun r => ((match r with | .ok f => (.pure f : Sem Flow) | .error e => .raise e).onRaise (cameBack X.env)).wrap K J gd lv)
          refine ⟨a1, fun p hp => ?_, a3, a4, a5, a6, a7⟩
          rcases List.mem_append.mp hp with hp | hp
          · exact a2 p hp
          · exact fpS _ (of_pinsAt hp).1
        have unp : ∀ {ys7 : List V} {σ7 : L2.St} {H7 : Hp} {s7 : Shared}, GI X S (ip ++ pinsAt fp s5.heap) ys7 σ7 H7 s7 → GI X S ip ys7 σ7 H7 s7 := fun {ys7 σ7 H7 s7} ⟨acc, cc, r, I⟩ => ⟨acc, cc, r, Inv.unpinned (pins := (S, lstObj acc cc) :: ip) (by rw [List.cons_append]; exact I)⟩
        have pin7 : ∀ {ys7 : List V} {σ7 : L2.St} {H7 : Hp} {s7 : Shared}, GI X S (ip ++ pinsAt fp s5.heap) ys7 σ7 H7 s7 → ∀ q ∈ pinsAt fp s5.heap, s7.heap.get? q.1 = some q.2 ∧ H7 q.1 = none := fun {ys7 σ7 H7 s7} ⟨acc, cc, r, I⟩ q hq => by
          obtain ⟨z1, z2, _⟩ := I.pin q (List.mem_append_right _ (List.mem_cons_of_mem _ (List.mem_append_right _ hq)))
          exact ⟨z1, z2⟩
        refine hb.run A S (ip ++ pinsAt fp s5.heap) R n ys s₀ _ _ _ _ id id s6 σ6 H6 { D with nx := N, ct := N, bk := D.nx } gcp hn ⟨fun n' ys' s₀' s7 f hn' hs => ?_, fun n' s₀' x s7 hx => ee n' s₀' x s7 hx⟩ ⟨acc, cc, by assumption, by rw [← List.cons_append]; exact I6⟩ q6
        have again : ∀ {σ7 : L2.St} {H7 : Hp}, GI X S (ip ++ pinsAt fp s5.heap) ys' σ7 H7 s7 → N ys' σ7 H7 → Seg (model X.prog X.w) A R (GY X S) n' s₀' (.forLoop tg (.ref it) body [] X.env) (.pure (.again (.forLoop tg (.ref it) body [] X.env)))
            (.ret (fun r => ((match r with | .ok f => (.pure f : Sem Flow) | .error e => .raise e).onRaise (cameBack X.env)).wrap K J gd lv) none (gd false) (lv []) c p [] :: fs) s7 := fun {σ7 H7} I7 n7 => by
          obtain ⟨m', hm, w7⟩ := hN ys' σ7 H7 n7
          refine seg_again rfl (ih m' hm (i + 1) n' ys' s₀' s7 σ7 H7 hn' w7 (unp I7) (T.keep _ _ _ st5 fun b hb o e => (pin7 I7 (b, o) (mem_pinsAt hb e)).1) fun b hb => ?_)
          obtain ⟨o, e, d⟩ := T.obj _ _ st5 b hb
          exact (pin7 I7 (b, o) (mem_pinsAt hb e)).2
        cases f with
        | next =>
          obtain ⟨σ7, H7, I7, n7⟩ := hs
          exact again I7 n7
        | cont =>
          obtain ⟨σ7, H7, I7, n7⟩ := hs
          exact again I7 n7
        | brk =>
          obtain ⟨σ7, H7, I7, n7⟩ := hs
          exact seg_leaf (.ok .next) (k.ok n' ys' s₀' s7 .next hn' ⟨σ7, H7, unp I7, n7⟩)
        | ret v =>
          obtain ⟨x7, σ7, H7, I7, r7, n7⟩ := hs
          exact seg_leaf (.ok (.ret v)) (k.ok n' ys' s₀' s7 (.ret v) hn' ⟨x7, σ7, H7, unp I7, r7, n7⟩)
  exact loop m0 0 n ys s₀ s2 σ H2 hn w0 ⟨acc0, cc0, r0, I2⟩ st2 fun b hb => (f2 b hb).1
end
end GfX
/-! ### an error of the text's own, over an own base -/
/-- what is written of the class B, whose __init__ is asked for by the class's name x -/
structure OwnBase (K : PySem.W.Frag) (mg : Str → Option Value) (x : Str) (B : Addr) : Prop where
  nam : mg x = some (.ref B)
  gta : PySem.W.specialIn K (.ref B) "__getattribute__" = some (some (.builtin "type.__getattribute__"))
  typ : PySem.W.typeIn K (.ref B) = some (.type "type")
  rds : PySem.W.readsIn K B (.type "type") = true
  ini : PySem.W.findCls K (.ref B) (.type "type") "__init__" = some (.val (.builtin "ValueError.__init__"))
section
variable {X : Cx} {e : Expr} {es : List Expr} {ta : TA} {p1 p2 pos : Pos}
theorem pe_baseI {pl : Sem Bool} {x : Str} {B : Addr} (vis : Gl X x) (T : OwnBase X.K X.mg x B) (arg : PA X (e :: es) ta)
    (run : eval (.Call (.Attribute (.Name x p1) "__init__" p2) (e :: es) [] pos) X.env = (do
      let cv ← eval (.Name x p1) X.env
      standAt p2.atName
      let (g, hd) ← holding [cv] (getMethod cv "__init__" pl)
      callWith pos g hd (backTo pos (starEach (e :: es) X.env)) (backToKw pos (keywordEach [] X.env))) := by rfl)
    (dbg : (x == ("__debug__" : Str)) = false := by decide) (one : starEach (e :: es) X.env = (false, eval e X.env) :: starEach es X.env := by rfl)
    (nos : (backTo pos (starEach es X.env)).any (·.1) = false := by rfl) : PE X (.Call (.Attribute (.Name x p1) "__init__" p2) (e :: es) [] pos) (tVeI X.K ta) := ⟨fun pins s σ H Q I h => by
  obtain ⟨m, fr⟩ := I.fr
  have kin := I.ok.mod.kin
  refine PySem.W.methodCall_KW (ld_glob I vis T.nam (PySem.W.method_of_cls fr kin T.gta (PySem.W.cls_val fr kin T.typ T.rds T.ini (by decide +kernel) ?_)) dbg) run
  exact PyProof.Rows.callWith_method1 (thn (arg.run pos pins _ σ H _ (I.tok _) h) fun us s1 z => by
    obtain ⟨vs, H1, I1, r1, a, C, ws, ev, hl, T1, ea, q⟩ := z
    subst ev
    cases r1 with
    | @cons _ u0 _ ur ra rw' =>
      cases (show u0 = Value.ref a from ra)
      have hlen : ur.length ≤ sizeLine := by rw [← Paired.length rw', sizeLine_eq]; omega
      exact oinit_ok T1 I1 ea hlen fun s' J => ⟨V.non, H1, J, rfl, q⟩) one nos⟩
end
/-- C(e, ..) in a try: what leaves __init__ goes to the wish at the present slots -/
def tMakeS (C : Addr) (sp : Sp) (E : L2.St → XK) (t : TA) : TE := fun σ H Q => t σ H fun vs H1 => ∀ x dx, H1 x = none → H1 dx = none → dx ≠ x → sp (.ref x :: vs) (upd (upd H1 dx (.own x)) x (.ins C dx [])) (fun v H2 => v = .non ∧ Q (.ref x) H2) (E σ)
theorem pe_makeS {X : Cx} {CX : CXT} {C f : Addr} {fd : FuncData} {k : Nat} {ps : List Str} {sp : Sp} {x : Str} {p pos : Pos} {e : Expr} {es : List Expr} {t : TA} {E : L2.St → XK} (M : Mk X.K C f) (F : FnOk X.prog X.w X.K X.mg X.base CX k f fd ps sp)
    (hr : Room (k + 1) X.A) (hg : Gl X x) (hm : X.mg x = some (.ref C)) (hb : Binds X.K fd ps []) (way : ∀ σ, PassesAt CX X σ (E σ)) (ha : PA X (e :: es) t) (hdb : (x == ("__debug__" : Str)) = false := by decide)
    (he : starEach (e :: es) X.env = (false, eval e X.env) :: starEach es X.env := by rfl) (hpl : (backTo pos (starEach es X.env)).any (·.1) = false := by rfl) : PE X (.Call (.Name x p) (e :: es) [] pos) (tMakeS C sp E t) := ⟨fun pins s σ H Q I h => by
  refine wpAny_Call_Name_kw (ld_glob I hg hm (PySem.W.callWith_K (h₀ := X.base) I.ok.mod.kin M.kp (thn (ha.run pos pins s σ H _ I h) fun us s1 z => ?_) he hpl) hdb)
  obtain ⟨vs, H1, I1, r, q⟩ := z
  let n := s1.heap.objs.size
  have here := q (n + 1) n (I1.hok.fresh (Nat.le_succ _)) (I1.hok.fresh (Nat.le_refl _)) (Nat.ne_of_lt (Nat.lt_succ_self _))
  have made := Inv.made (C := C) I1
  have rs : Vals (V.ref (n + 1) :: vs) (Value.ref (n + 1) :: us) := .cons rfl r
  have many : (Value.ref (n + 1) :: us).length = ps.length := rs.length.symm.trans (F.len _ _ _ _ here)
  have bind := hb ⟨_, s1.gens, s1.drawn, s1.toks, s1.os⟩ (Value.ref (n + 1) :: us) made.kIn (by rw [List.append_nil]; exact many)
  rw [List.append_nil] at bind
  refine ⟨I1.kIn, wpAny_call (make_map (f := f) I1.kIn M.makes M.init (beq_iff_eq.mp M.fn) (codeAny_mono (F.run _ X.stack _ _ ⟨Value.ref (n + 1) :: us, []⟩ (Value.ref (n + 1) :: us) _ _ (E σ) (hr.make C us []) (made.env0.make C us []) bind rs here) fun r s' z => ?_))⟩
  cases r with
  | error er => exact way σ pins _ _ er s' made z
  | ok fl =>
    cases fl with
    | ret u =>
      obtain ⟨v, H', J, rv, ev, q3⟩ := made.after z
      subst ev
      exact ⟨rv, V.ref (n + 1), H', J, rfl, q3⟩
    | next => exact False.elim z
    | brk => exact False.elim z
    | cont => exact False.elim z⟩
/-- a def that may raise, called where it doesn't -/
theorem pass00 {X : Cx} : Passes (L2.CX X.prog X.w) X (fun _ _ _ => False) := passes_call takes0 (fun _ _ _ _ h => h)
/-! ### isinstance of a caught error that has its dict -/
structure ErrC (K : PySem.W.Frag) (C : Addr) : Prop where
  cl : (PySem.W.clsIn K C).isSome = true
  ga : PySem.W.findIn K (.ref C) "__getattribute__" = some (some (.builtin "BaseException.__getattribute__"))
  gt : PySem.W.findIn K (.ref C) "__getattr__" = some none
  be : PySem.W.subIn K (.ref C) (.type "BaseException") = some true
  ca : PySem.W.findIn K (.ref C) "__class__" = some (some (.builtin "object.__class__"))
  cn : PySem.W.specialIn K (.builtin "object.__class__") "__get__" = some (some (.builtin "getset_descriptor.__get__"))
  tk : PySem.W.takesIn K (.builtin "object.__class__") = some true
  mo : PySem.W.mroIn K C (.type "object") = some true
def rIsD (K : PySem.W.Frag) (D a : Addr) (cls : Value) (d : Option Addr) : List V → Hp → VK → Prop := fun xs H Q => ∃ (c : V) (cv : Value) (b : Bool) (dd : Addr) (fs : List (Str × V)), xs = [.ref a, c] ∧ (∀ u, RelV c u → u = cv) ∧ cls = .ref D ∧ d = some dd ∧ H dd = some (.xd fs) ∧ PySem.W.kitOne K (.ref D) cv = some b ∧ Q (.bl b) H
theorem call_isD {X : Cx} {a D : Addr} {cls : Value} {d : Option Addr} {oe : Obj} {pn : List (Addr × Obj)} (T : ErrC X.K D) (hz : Zc cls d oe) (hf : ∃ vs, oe.data = .fields vs) : CallR (X.suite a ((a, oe) :: pn)) (.builtin "isinstance") (rIsD X.K D a cls d) := by
  intro pins s σ H xs us Q I r h
  obtain ⟨c, cv, b, dd, fs, rfl, hcv, rfl, rfl, hd, e, q⟩ := h
  obtain ⟨u1, u2, rfl, r1, r2⟩ := vals2 r
  cases (show u1 = Value.ref a from r1)
  cases hcv _ r2
  obtain ⟨hget, _⟩ := I.pin (a, oe) (List.mem_append_left _ List.mem_cons_self)
  obtain ⟨vs, hv⟩ := hf
  obtain ⟨mA, hns, _⟩ := (show ObjOk X.prog X.w H s.heap dd (.xd fs) from I.hok dd _ hd)
  obtain ⟨od, ho, _⟩ := lookIn_ns hns
  have J : PySem.W.InstAt s.heap a oe D (some od) := ⟨hget, hz.1, by unfold PySem.W.notCls; rw [hv] <;> rfl, by rw [hz.2]; exact ho⟩
  exact PySem.W.kia_one (PySem.W.kitx_exc T.cl T.ga T.gt T.be T.ca T.cn T.tk T.mo) I.kIn J e (fun z => nomatch z) fun tk => ⟨.bl b, H, I.kept (t' := tk) fun _ _ z => z, rfl, q⟩
/-! ### operators by own defs -/
section
variable {X : Cx} {n : Nat} {C g : Addr} {fd : FuncData} {ps : List Str} {sp : Sp}
def rOwnI (C : Addr) (sp : Sp) : R2 := fun x y H Q => ∃ a b dx dy fs gs, x = .ref a ∧ y = .ref b ∧ H a = some (.ins C dx fs) ∧ H b = some (.ins C dy gs) ∧ sp [x, y] H Q E0
theorem op_ownI {op : CmpOp} (hs : PySem.W.findIn X.K (.ref C) (cmpInfo op).2.1 = some (some (.ref g))) (hf : PySem.W.isFn X.K (.ref g) = true) (F : FnOk X.prog X.w X.K X.mg X.base CX0 n g fd ps sp) (hb : Binds X.K fd ps []) (hr : Room n X.A)
    (hop : ∀ a b, compareOp op a b = richCompare op a b := by intro _ _; rfl) : OpR X (compareOp op) (rOwnI C sp) := by
  intro pins s σ H x y v u Q I rx ry h
  obtain ⟨a, b, dx, dy, fs, gs, rfl, rfl, ea, eb, q⟩ := h
  cases (show v = Value.ref a from rx)
  cases (show u = Value.ref b from ry)
  obtain ⟨mA, J, _⟩ := ins_get I.hok ea
  obtain ⟨mB, J', _⟩ := ins_get I.hok eb
  obtain ⟨od, J, _⟩ := J.look
  obtain ⟨od', J', _⟩ := J'.look
  obtain ⟨m, hF⟩ := I.fr
  rw [hop]
  refine PySem.W.cmp_K (op := op) (tb := .ref C) hr.units0 hF I.ok.mod.kin J J'.type (by simp [PySem.W.notFirst]) hs hf ?_
  exact wpAny_mono (run_fn (vs := [.ref a, .ref b]) F hr hb .nil pass0 I (.cons rfl (.cons rfl .nil)) q) (fun w s' ⟨z', H', I', rz, qz⟩ => SlX.cmpback rz ⟨z', H', I', rz, qz⟩) fun _ _ x => x
end
/-! ### != by an own == -/
namespace NeX
open PySem.W
section
variable {prog : Program} {w : World} {A : Around} {E : Value → Shared → Prop} {s : Shared} {K : Frag} {x C L f : Addr} {h₀ : Heap} {m : Str → Option Value} {ox : Obj} {od : Option Obj} {b tb : Value}
theorem bound_blt {M : Model} {name : Str} {id : String} {args : List Value} {Q : Option Value → Shared → Prop} (X : K.In s.heap) (I : InstAt s.heap x ox C od) (hs : findIn K (.ref C) name = some (some (.builtin id)))
    (hb : bindSpecial (.builtin id) (.ref x) = pure (Value.builtin id, [Value.ref x])) (h : wpAny M A (call (.builtin id) (.ref x :: args)) (fun v => Q (some v)) E s) : wpAny M A (callSpecialIfBound? (.ref x) name args) Q E s := by
  simp only [callSpecialIfBound?, bindSpecialIfBound?]
  refine wpAny_holding (wpAny_bind (wpAny_bind (wpAny_bind (I.type.here ((looks_findIn X hs).here ?_)))))
  simp only [hb]
  have out : wpAny M A (call (.builtin id) ([.ref x] ++ args) >>= fun v => pure (some v)) Q E s := wpAny_bind (wpAny_mono h (fun _ _ z => wpAny_pure z) fun _ _ z => z)
  refine wpAny_bind (wpAny_askSetting (wpAny_ite ?_))
  split
  · exact wpAny_bind (wpAny_pure (wpAny_pure out))
  · exact wpAny_tryCatch (wpAny_bind (wpAny_pure (wpAny_pure out)))
theorem run_ne (hu : A.units < cLine) (X : K.In s.heap) (I : InstAt s.heap x ox C od) (he : findIn K (.ref C) "__eq__" = some (some (.ref f))) (hf : isFn K (.ref f) = true) {Q : Fin → Shared → Prop}
    (h : wpAny (model prog w) A (call (.ref f) [.ref x, b]) (fun v s' => ∃ k, v = .bool k ∧ Q (.done (.ret (.bool (!k)))) s') E s) : wpAny (model prog w) A (Builtin.«object.__ne__» ⟨[.ref x, b], []⟩) Q E s := by
  unfold Builtin.«object.__ne__»
  repeat (first
    | with_reducible refine wpAny_cRoomFor hu ?_
    | (refine wpAny_bind (m := callSpecialIfBound? (.ref x) (Str.ofString "__eq__") [b]) (ifBound_K X I he hf (wpAny_mono h (fun r s' hr => by
          obtain ⟨k, rfl, hq⟩ := hr
          repeat (first | exact hq | exact wpAny_pure hq | exact wpAny_truthy_bool hq | (refine wpAny_bind (m := truthy (.bool _)) (wpAny_truthy_bool ?_)) | wp_step)) fun _ _ z => z)))
    | wp_step)
theorem rich_ne (hu : A.units + 1 < cLine) (F : Fr h₀ L s.heap m) (X₀ : K.In h₀) (I : InstAt s.heap x ox C od) (hb : Looks (model prog w) s.heap (typeOf b) tb) (hn : notFirst K C tb = true)
    (hne : findIn K (.ref C) "__ne__" = some (some (.builtin "object.__ne__"))) (hso : subIn K (.ref C) (.type "object") = some true)
    (he : findIn K (.ref C) "__eq__" = some (some (.ref f))) (hf : isFn K (.ref f) = true) {Q : Value → Shared → Prop}
    (h : wpAny (model prog w) A.in1 (call (.ref f) [.ref x, b]) (fun v s' => ∃ k, v = .bool k ∧ Q (.bool (!k)) s') E s) : wpAny (model prog w) A (richCompare .NotEq (.ref x) b) Q E s := by
  have X := X₀.keeps F.keep
  have one : wpAny (model prog w) A (tryCompare (.ref x) "__ne__" b) (fun r s' => ∃ v, r = some v ∧ Q v s') E s := by
    unfold tryCompare
    refine wpAny_bind (bound_blt X I hne (PySem.F.cmp_object.ne.bind _) (wpAny_call (codeAny_call_builtin PySem.F.cmp_object.ne.plain PySem.F.cmpEntry_ne
      (check_slot PySem.F.cmpKind_ne PySem.F.cmpSplit_ne (I.type.andThen (looks_subIn X hso)) (PySem.F.cmpArgs_ne _ _) (run_ne (A := A.in1) (by show A.units + 1 < cLine; exact hu) X I he hf (wpAny_mono h (fun v s' hv => ?_) fun _ _ z => z))))))
    obtain ⟨k, rfl, hq⟩ := hv
    exact ⟨k, rfl, wpAny_pure ⟨_, rfl, hq⟩⟩
  unfold richCompare
  simp only [oneThing_ref]
  refine wpAny_holding (wpAny_bind (wpAny_cRoomFor (Nat.lt_of_succ_lt hu) ?_))
  rw [cmpInfo_NotEq]
  dsimp only
  refine wpAny_bind (I.type.here (wpAny_bind (hb.here ?_)))
  split
  · rename_i q
    have e : subIn K tb (.ref C) = some false := by
      rcases Bool.or_eq_true_iff.mp hn with z | z
      · rw [beq_iff_eq.mp z] at q; simp at q
      · exact beq_iff_eq.mp z
    refine wpAny_bind ((looks_subIn X e).here ?_)
    simp only [Bool.false_eq_true, if_false]
    exact wpAny_bind (wpAny_mono one (fun r s' ⟨v, z, hq⟩ => by subst z; exact wpAny_pure hq) fun _ _ z => z)
  · refine wpAny_bind (wpAny_pure ?_)
    simp only [Bool.false_eq_true, if_false]
    exact wpAny_bind (wpAny_mono one (fun r s' ⟨v, z, hq⟩ => by subst z; exact wpAny_pure hq) fun _ _ z => z)
end
end NeX
section
variable {X : Cx} {n : Nat} {C g : Addr} {fd : FuncData} {ps : List Str} {sp : Sp}
/-- what y, on the other side, is: an instance of the same class, or plain -/
def Other (K : PySem.W.Frag) (H : Hp) (C : Addr) (y : V) : Prop := (∃ b dy gs, y = .ref b ∧ H b = some (.ins C dy gs)) ∨ ∃ z, y = .str z
/-- x != y, by C's own == alone -/
def rNeI (K : PySem.W.Frag) (C : Addr) (sp : Sp) : R2 := fun x y H Q => ∃ a dx fs, x = .ref a ∧ H a = some (.ins C dx fs) ∧ Other K H C y ∧ sp [x, y] H (fun v H' => ∃ k, v = .bl k ∧ Q (.bl (!k)) H') E0
theorem op_neI (hne : PySem.W.findIn X.K (.ref C) "__ne__" = some (some (.builtin "object.__ne__"))) (hso : PySem.W.subIn X.K (.ref C) (.type "object") = some true) (hst : PySem.W.notFirst X.K C (.type "str") = true)
    (he : PySem.W.findIn X.K (.ref C) "__eq__" = some (some (.ref g))) (hf : PySem.W.isFn X.K (.ref g) = true) (F : FnOk X.prog X.w X.K X.mg X.base CX0 n g fd ps sp) (hb : Binds X.K fd ps []) (hr : Room (n + 1) X.A) : OpR X (compareOp .NotEq) (rNeI X.K C sp) := by
  intro pins s σ H x y v u Q I rx ry h
  obtain ⟨a, dx, fs, rfl, ea, ho, q⟩ := h
  cases (show v = Value.ref a from rx)
  obtain ⟨mA, J, _⟩ := ins_get I.hok ea
  obtain ⟨od, J, _⟩ := J.look
  obtain ⟨m, hF⟩ := I.fr
  have hu : X.A.units + 1 < cLine := by have := hr.units; omega
  have call1 : wpAny (model X.prog X.w) X.A.in1 (call (.ref g) [.ref a, u]) (fun v' s' => ∃ k, v' = .bool k ∧ EP X pins σ Q (.bool (!k)) s') X.xe s := by
    refine wpAny_mono (wpAny_call (SlX.run_at (us := [.ref a, u]) (ws := [.ref a, y]) (F.raw hb .nil) hr.in1 I.env0.in1 pass0 I (.cons rfl (.cons ry .nil)) q)) (fun w' s' z => ?_) fun _ _ z => z
    obtain ⟨z', H', I', rz, k, ez, qz⟩ := z
    subst ez
    cases rz
    exact ⟨k, rfl, .bl (!k), H', I', rfl, qz⟩
  rcases ho with ⟨b, dy, gs, rfl, eb⟩ | ⟨z, rfl⟩
  · cases (show u = Value.ref b from ry)
    obtain ⟨mB, J', _⟩ := ins_get I.hok eb
    obtain ⟨od', J', _⟩ := J'.look
    exact NeX.rich_ne hu hF I.ok.mod.kin J J'.type (by simp [PySem.W.notFirst]) hne hso he hf call1
  · obtain ⟨t, et⟩ := (show ∃ t, u = Value.str z t from ry)
    cases et
    exact NeX.rich_ne hu hF I.ok.mod.kin J (PySem.W.Looks.of_pure rfl) hst hne hso he hf call1
end

/-! ### != of two lists whose items are equal, one by one -/
namespace NlX
open PySem.SeqAt MeetsSeq MeetsSeq2 MeetsSeq3 SeqRoads2
open AutoSeq1 (wpAny_loadPart')
section
variable {prog : Program} {w : World} {A : Around} {R : Result → Shared → Prop}
/-- where the machine stands at the item number j of N: both lists as they are now, and the two items are seen to be equal -/
def Turns (prog : Program) (w : World) (A : Around) (E : Value → Shared → Prop) (p q : Addr) (N : Nat) (J : Nat → Shared → Prop) : Prop := GQ.ListI prog w A E p q N J
theorem ne_turns (p q : Addr) (N : Nat) (J : Nat → Shared → Prop) (T : Turns prog w A (fun e s' => R (.error e) s') p q N J) (out : ∀ s, J N s → R (.ok (.ret (.bool false))) s) :
    ∀ (left j : Nat), j + left = N → ∀ s, J j s → wpAny (model prog w) A.in1 (Builtin.«list.__eq__.loop» ⟨[.ref p, .ref q, rawInt j, rawInt 3], []⟩) (GQ.FinOf prog w A R) (fun e s' => R (.error e) s') s
  | 0, j, hj, s, h => by
    obtain ⟨xs, ys, m1, m2, e1, e2, z1, z2, _⟩ := T _ _ h
    have hjN : j = N := by omega
    subst hjN
    have fin := out s h
    obtain ⟨hp, g, d, tk, os⟩ := s
    wp_walk using wpAny_loadPart' e1, wpAny_loadPart' e2
    have a1 : xs[((j : Nat) : Int).toNat]? = none := by simp; omega
    have a2 : ys[((j : Nat) : Int).toNat]? = none := by simp; omega
    rw [a1, a2]
    wp_walk using wpAny_loadPart' e1, wpAny_loadPart' e2
    show R (.ok (.ret (.bool (xs.size != ys.size)))) _
    rw [z1, z2]
    simpa using fin
  | left + 1, j, hj, s, h => by
    obtain ⟨xs, ys, m1, m2, e1, e2, z1, z2, turn⟩ := T _ _ h
    have b1 : j < xs.size := by omega
    have b2 : j < ys.size := by omega
    have step := turn b1 b2
    obtain ⟨hp, g, d, tk, os⟩ := s
    wp_walk using wpAny_loadPart' e1, wpAny_loadPart' e2
    have a1 : xs[((j : Nat) : Int).toNat]? = some xs[j] := by simp [b1]
    have a2 : ys[((j : Nat) : Int).toNat]? = some ys[j] := by simp [b2]
    have up : ((j : Int) + 1) = ((j + 1 : Nat) : Int) := by omega
    rw [a1, a2]
    refine wpAny_bind (wpAny_mono step (fun r s2 z => ?_) fun _ _ z => z)
    obtain ⟨er, z⟩ := z
    subst er
    have more := ne_turns p q N J T out left (j + 1) (by omega) s2 z
    obtain ⟨hp2, g2, d2, tk2, os2⟩ := s2
    wp_walk
    rw [up]
    exact ⟨plainId_quiet plain_eq_loop _, codeAny_builtin entry_eq_loop (by
      rw [Around.under_plainId plain_eq_loop _]
      exact more)⟩
theorem ne_lists (p q : Addr) (N : Nat) (J : Nat → Shared → Prop) (T : Turns prog w A (fun e s' => R (.error e) s') p q N J) (out : ∀ s, J N s → R (.ok (.ret (.bool false))) s) {s : Shared} (h : J 0 s) :
    wpAny (model prog w) A.in1 (Builtin.«list.__ne__» ⟨[.ref p, .ref q], []⟩) (GQ.FinOf prog w A R) (fun e s' => R (.error e) s') s := by
  obtain ⟨xs, ys, m1, m2, e1, e2, z1, z2, _⟩ := T _ _ h
  have more := ne_turns (A := A) (R := R) p q N J T out N 0 (by omega) s h
  obtain ⟨hp, g, d, tk, os⟩ := s
  have sub := AutoSeq1.sub_list_list
  have same : ¬ (xs.size != ys.size) = true := by simp [z1, z2]
  wp_walk using wpAny_loadPart' e1, wpAny_loadPart' e2
  exact ⟨plainId_quiet plain_eq_loop _, codeAny_builtin entry_eq_loop (by
    rw [Around.under_plainId plain_eq_loop _]
    exact more)⟩
end
section
variable {prog : Program} {w : World} {A : Around} {E : Value → Shared → Prop} {s : Shared}
theorem rich_neL {p q : Addr} {N : Nat} {Q : Value → Shared → Prop} (hu : A.units < cLine) (J : Nat → Shared → Prop) (T : Turns prog w A E p q N J) (out : ∀ s, J N s → Q (.bool false) s) (h : J 0 s) :
    wpAny (model prog w) A (richCompare .NotEq (.ref p) (.ref q)) Q E s := by
  obtain ⟨xs, ys, m1, m2, e1, e2, _, _, _⟩ := T _ _ h
  refine wpAny_richCompare_same_room (op := .NotEq) ⟨_, e1, rfl⟩ ⟨_, e2, rfl⟩ F.slot_list_ne (GQ.call_here F.slot_list_ne ⟨_, e1, rfl⟩ F.entry_list_ne (F.args_list_ne_2 _ _) ?_) hu
  exact ne_lists (R := wants (fun v s' => v ≠ .notImplemented ∧ Q v s') E) p q N J T (fun s' z => ⟨(fun x => nomatch x), out s' z⟩) h
end
end NlX
section
variable {X : Cx} {n : Nat} {D : Eqv}
/-- xs != ys, lists whose items are equal by D -/
def rNeL (D : Eqv) : R2 := fun x y H Q => DList D x y H ∧ ∀ H', Ext H H' → Q (.bl false) H'
theorem op_neL (hD : Mon D) (h : EqG X n D) (hr : Room (n + 1) X.A) : OpR X (compareOp .NotEq) (rNeL D) := by
  intro pins s σ H x y v u Q I rx ry ⟨d, q⟩
  obtain ⟨a, b, xs, ys, rfl, rfl, ea, eb, p⟩ := d
  cases rx
  cases ry
  refine NlX.rich_neL (N := xs.length) hr.units0 (fun _ s' => LoopI X pins σ H s') (fun i s' z => ?_) (fun s' ⟨H', I', e⟩ => ⟨.bl false, H', I', rfl, q H' e⟩) ⟨H, I, Ext.rfl'⟩
  obtain ⟨H1, I1, e1⟩ := id z
  obtain ⟨_, its, k, r, o1⟩ := I1.hok a _ (e1 _ _ ea)
  obtain ⟨_, its2, k2, r2, o2⟩ := I1.hok b _ (e1 _ _ eb)
  exact ⟨its.toArray, its2.toArray, k, k2, o1, o2, by rw [List.size_toArray, ← r.length], by rw [List.size_toArray, ← r2.length, ← p.1], fun h1 h2 => turnG hD h ⟨hr, rfl⟩ p r r2 i h1 h2 s' z⟩
end
abbrev sPool : Stmt := topS 16
abbrev sDraw : Stmt := topS 17
abbrev sPick : Stmt := topS 18
theorem scPool : FnScope ["_law_script", "_law_k", "_law_cell", "_law_size", "_law_mixed"] ["_law_script", "_law_k"] (defScope sPool) := ⟨rfl, rfl, rfl, by decide +kernel, rfl, by decide +kernel, by decide +kernel⟩
theorem scDraw : FnScope ["_law_pool_here", "_law_many", "_law_found"] ["_law_pool_here", "_law_many"] (defScope sDraw) := ⟨rfl, rfl, rfl, by decide +kernel, rfl, by decide +kernel, by decide +kernel⟩
theorem scPick : FnScope ["_law_pool_here", "_law_row"] ["_law_pool_here", "_law_row"] (defScope sPick) := ⟨rfl, rfl, rfl, by decide +kernel, rfl, by decide +kernel, by decide +kernel⟩
/-- a pool of draws stands at p -/
def PoolAt (H : Hp) (p : Addr) : Prop := ∃ x y : Int, H p = some (.lst [.int x, .int y]) ∧ 0 ≤ x ∧ 0 ≤ y ∧ y < 2147483648
/-- all that was known but for p is as it was -/
def But (p : Addr) (H H' : Hp) : Prop := ∀ b o, H b = some o → b ≠ p → H' b = some o
theorem But.refl (p : Addr) (H : Hp) : But p H H := fun _ _ h _ => h
theorem But.trans {p : Addr} {H H1 H2 : Hp} (a : But p H H1) (b : But p H1 H2) : But p H H2 := fun c o h n => b c o (a c o h n) n
theorem But.of {p : Addr} {H H' : Hp} (s : Same H H') : But p H H' := fun b o h _ => s b o h
theorem same_upd {H : Hp} {p : Addr} {o : HO} (h : H p = none) : Same H (upd H p o) := fun b x e => by
  rw [upd_ne (ne_of_none e h)]
  exact e
theorem But.upd {p : Addr} {H : Hp} {o : HO} : But p H (L2.upd H p o) := fun b x e n => by
  rw [upd_ne n]
  exact e
/-- what an expression gives, by what is true of it -/
theorem q_asgP {te : TE} {tz : TS} {D : Ends} {σ : L2.St} {H : Hp} {i : Nat} (Pr : V → Hp → Prop) (h : ∀ Q : VK, (∀ v H', Pr v H' → Q v H') → te σ H Q) (k : ∀ v H1, Pr v H1 → tz D (σ.set i (some v)) H1) : tSeq (tAsg te (gName i)) tz D σ H := h _ k
theorem But.rd {p : Addr} {H H' : Hp} (b : But p H H') {a : Addr} {u : HO} (n : a ≠ p) (h : Rd H a u) : Rd H' a u := by
  rcases h with h | ⟨o, h⟩
  · exact .inl (b _ _ h n)
  · exact .inr ⟨o, b _ _ h n⟩
theorem But.seq {p : Addr} {H H' : Hp} (b : But p H H') {K : PySem.W.Frag} {a : Addr} {xs : List V} (n : a ≠ p) (h : SqL K H a xs) : SqL K H' a xs := h.imp (b.rd n) id
theorem But.seqT {p : Addr} {H H' : Hp} (b : But p H H') {K : PySem.W.Frag} {a : Addr} {xs : List V} (n : a ≠ p) (h : SqT K H a xs) : SqT K H' a xs := h.imp (b.rd n) id
theorem at_nn {xs : List V} {v : Int} {x : V} (h0 : 0 ≤ v) (h : xs[v.toNat]? = some x) : atI xs v = some x := by
  obtain ⟨n, rfl⟩ := Int.eq_ofNat_of_zero_le h0
  exact atI_nat h
theorem b01 (b : Bool) : 0 ≤ (if b = true then (1 : Int) else 0) ∧ (if b = true then (1 : Int) else 0) ≤ 1 := by cases b <;> decide
structure Blt (mg : Str → Option Value) : Prop where
  abs : mg "abs" = none
  int : mg "int" = none
  len : mg "len" = none
  sum : mg "sum" = none
  max : mg "max" = none
  min : mg "min" = none
  range : mg "range" = none
  isinstance : mg "isinstance" = none
  bool : mg "bool" = none
  str : mg "str" = none
  tuple : mg "tuple" = none
  list : mg "list" = none
  dict : mg "dict" = none
  all : mg "all" = none
  sorted : mg "sorted" = none
  repr : mg "repr" = none
  zip : mg "zip" = none
section
variable {P : Program} {w : World} {K : PySem.W.Frag} {mg : Str → Option Value} {base : Heap}
def spPool (K : PySem.W.Frag) : Sp := fun vs H Q _ => ∃ (a : Addr) (ns : List Int) (k : Nat), vs = [.ref a, .int k] ∧ SqL K H a (ns.map V.int) ∧ k ≤ 1 ∧ (k < ns.length ∨ ns = []) ∧
  ∀ H' p, H p = none → Same H H' → PoolAt H' p → Q (.ref p) H'
theorem ok_pool {f : Addr} {fd : FuncData} (F : Fun K "_law_pool" "_law_pool" sPool f fd) (M : Blt mg) : FnOk P w K mg base CX0 1 f fd ["_law_script", "_law_k"] (spPool K) := by
  refine F.ok scPool (fun vs H Q E h => ?_) (fun cdv A outer s H vs Q E hr h => ?_)
  · obtain ⟨a, ns, k, rfl, _⟩ := h
    rfl
  · obtain ⟨a, ns, k, rfl, hS, hk, hin, q⟩ := h
    refine ⟨_, pss_cons (ps_set (i := 2) scPool.nd rfl (.inl rfl) (pe_ifExp (pt_cmpR op_lt (pv 1) (pe_callB call_len_seq (by rfl) M.len PySem.boot_len (pa_cons (pv 0) pa_nil)) (nomark _))
        (pe_ix ix_list (pv 0) (pv 1) (fun _ _ => rfl))
        (pe_op op_add (pe_op op_mul pe_int (pe_callB (cr_sum rfl) (by rfl) M.sum (by decide +kernel) (pa_cons (pe_slice sl_list (pv 0) po_none (po_some pe_int)) pa_nil))) (pv 1))))
      (pss_cons (ps_set (i := 3) scPool.nd rfl (.inl rfl) (pe_callB call_abs (by rfl) M.abs (by decide +kernel) (pa_cons (pv 2) pa_nil)))
      (pss_cons (ps_set (i := 4) scPool.nd rfl (.inl rfl)
        (pe_op op_add (pe_op op_add (pe_op op_add (pe_op op_mod (pe_callTy call_int1 (by rfl) M.int (by decide +kernel) (pa_cons (pv 3) pa_nil)) pe_int)
          (pe_op op_mul (pe_op op_mul pe_int (pv 1)) (pv 1))) (pe_op op_mul pe_int (pv 1))) pe_int))
      (pss_cons (ps_set (i := 4) scPool.nd rfl (.inl rfl)
        (pe_op op_mod (pe_callTy call_int1 (by rfl) M.int (by decide +kernel) (pa_cons (pe_op op_mul (pv 4) pe_int) pa_nil)) pe_int))
      (pss_one (ps_ret (pe_lst (pa_cons
          (pe_op op_mul (pv 3) (pe_callTy call_int1 (by rfl) M.int (by decide +kernel) (pa_cons (pe_cmpR op_ge (pv 3) (pe_op op_pow pe_int pe_int) (nomark _)) pa_nil)))
          (pa_cons (pe_op op_mod (pe_callTy call_int1 (by rfl) M.int (by decide +kernel) (pa_cons (pe_op op_mul (pv 4) (pv 4)) pa_nil)) pe_int) pa_nil)))))))), ?_⟩
    refine q_asgP (Pr := fun v H1 => (∃ c : Int, v = .int c) ∧ Same H H1) (fun Q' hq => ?_) (fun v H1 hv => ?_)
    · refine ⟨_, rfl, _, rfl, _, _, rfl, .inl hS, _, _, rfl, rfl, _, rfl, ite2 (fun e => ?_) (fun e => ?_)⟩
      · have e1 := of_decide_eq_true e
        rw [List.length_map] at e1
        have e2 : k < ns.length := by omega
        refine ⟨_, rfl, _, rfl, a, ns.map V.int, k, .int ns[k], rfl, rfl, hS, atI_nat ?_, hq _ _ ⟨⟨_, rfl⟩, Same.refl H⟩⟩
        rw [List.getElem?_map, List.getElem?_eq_getElem e2]
        rfl
      · have e1 : ns = [] := by
          rcases hin with h | h
          · refine absurd (decide_eq_true ?_) e
            rw [List.length_map]
            omega
          · exact h
        subst e1
        refine ⟨_, rfl, 63, rfl, a, _, rfl, hS, fun p np => ?_⟩
        refine ⟨p, [], rfl, .inl (.inl (upd_same.trans ?_)), _, _, rfl, rfl, .inl ⟨by decide, by decide⟩, _, rfl, _, _, rfl, rfl, hq _ _ ⟨⟨_, rfl⟩, same_upd np⟩⟩
        rfl
    · obtain ⟨⟨c, rfl⟩, s1⟩ := hv
      have hz : 0 ≤ (if c < 0 then -c else c) := by split <;> omega
      have fin : ∀ (x y : Int), 0 ≤ x → 0 ≤ y → y < 2147483648 → ∀ p, H1 p = none → Q (.ref p) (upd H1 p (.lst [.int x, .int y])) := fun x y hx hy hy2 p np =>
        q _ p (s1.free np) (s1.trans (same_upd np)) ⟨x, y, upd_same, hx, hy, hy2⟩
      refine ⟨.int c, rfl, _, rfl, ?_⟩
      refine ⟨_, rfl, .inl ⟨_, rfl, _, _, rfl, rfl, (by show (0 : Int) < 2147483629; decide), ?_⟩⟩
      have m1 : 0 ≤ (if c < 0 then -c else c) % 2147483629 := Int.emod_nonneg _ (by decide)
      have m2 : (if c < 0 then -c else c) % 2147483629 < 2147483629 := Int.emod_lt_of_pos _ (by decide)
      have k0 : (7919 * (k : Int) * (k : Int)) ≤ 7919 ∧ 0 ≤ (7919 * (k : Int) * (k : Int)) := by
        rcases (show k = 0 ∨ k = 1 by omega) with e | e <;> subst e <;> decide
      refine ⟨_, rfl, _, _, rfl, rfl, .inl ⟨by decide, by decide⟩, _, rfl, _, _, rfl, rfl, .inr ⟨by omega, by omega⟩, _, _, rfl, rfl, _, rfl, _, _, rfl, rfl, .inl ⟨by decide, by decide⟩, _, _, rfl, rfl, _, _, rfl, rfl, ?_⟩
      refine ⟨_, rfl, _, _, rfl, rfl, .inr ⟨by decide, by decide⟩, .inl ⟨_, rfl, _, _, rfl, rfl, (by show (0 : Int) < 2147483647; decide), ?_⟩⟩
      have n1 : 0 ≤ ((if c < 0 then -c else c) % 2147483629 + 7919 * (k : Int) * (k : Int) + 31 * (k : Int) + 17) * 48271 % 2147483647 := Int.emod_nonneg _ (by decide)
      have n2 : ((if c < 0 then -c else c) % 2147483629 + 7919 * (k : Int) * (k : Int) + 31 * (k : Int) + 17) * 48271 % 2147483647 < 2147483647 := Int.emod_lt_of_pos _ (by decide)
      refine ⟨_, rfl, _, rfl, _, _, rfl, rfl, ⟨by decide, by decide, by decide⟩, _, _, rfl, rfl, ?_⟩
      refine .inr ⟨_, rfl, ?_⟩
      refine ⟨_, _, rfl, rfl, .inr ?_, _, rfl, _, rfl, _, _, rfl, rfl, .inl ⟨by omega, by omega⟩, .inl ⟨_, rfl, _, _, rfl, rfl, (by show (0 : Int) < 2147483629; decide), (by show 2 ≤ sizeLine; decide), fun p np => ?_⟩⟩
      · exact ⟨Int.lt_of_lt_of_le (by decide) (b01 _).1, Int.lt_of_le_of_lt (b01 _).2 (by decide)⟩
      · refine fin _ _ (Int.mul_nonneg hz (b01 _).1) (Int.emod_nonneg _ (by decide)) ?_ p np
        exact Int.lt_trans (Int.emod_lt_of_pos _ (by decide)) (by decide)
def spDraw : Sp := fun vs H Q _ => ∃ (p : Addr) (n : Int), vs = [.ref p, .int n] ∧ PoolAt H p ∧ 0 < n ∧ n ≤ 1000000000 ∧
  ∀ (v : Int) H', 0 ≤ v → v < n → But p H H' → PoolAt H' p → (∀ b, H b = none → H' b = none) → Q (.int v) H'
theorem ok_draw {f : Addr} {fd : FuncData} (F : Fun K "_law_draw" "_law_draw" sDraw f fd) (M : Blt mg) : FnOk P w K mg base CX0 1 f fd ["_law_pool_here", "_law_many"] spDraw := by
  refine F.ok scDraw (fun vs H Q E h => ?_) (fun cdv A outer s H vs Q E hr h => ?_)
  · obtain ⟨p, n, rfl, _⟩ := h
    rfl
  · obtain ⟨p, n, rfl, ⟨x, y, hp, hx, hy, hy2⟩, hn, hn2, q⟩ := h
    refine ⟨_, pss_cons (ps_if (pt_cmpR op_gt (pe_ix ix_list (pv 0) pe_int (fun _ _ => rfl)) pe_int (nomark _))
        (pss_cons (ps_set (i := 2) scDraw.nd rfl (.inl rfl) (pe_op op_mod (pe_callTy call_int1 (by rfl) M.int (by decide +kernel) (pa_cons (pe_ix ix_list (pv 0) pe_int (fun _ _ => rfl)) pa_nil)) (pv 1)))
        (pss_cons (ps_asg (pe_op op_fdiv (pe_ix ix_list (pv 0) pe_int (fun _ _ => rfl)) (pv 1)) (pg_sub (pv 0) pe_int set_list))
        (pss_one (ps_ret (pv 2))))) pss_nil)
      (pss_cons (ps_asg (pe_op op_mod (pe_callTy call_int1 (by rfl) M.int (by decide +kernel) (pa_cons (pe_op op_add (pe_op op_mul (pe_ix ix_list (pv 0) pe_int (fun _ _ => rfl)) pe_int) pe_int) pa_nil)) pe_int) (pg_sub (pv 0) pe_int set_list))
      (pss_one (ps_ret (pe_op op_mod (pe_callTy call_int1 (by rfl) M.int (by decide +kernel) (pa_cons (pe_op op_fdiv (pe_op op_mod (pe_callTy call_int1 (by rfl) M.int (by decide +kernel)
          (pa_cons (pe_op op_mul (pe_ix ix_list (pv 0) pe_int (fun _ _ => rfl)) (pe_ix ix_list (pv 0) pe_int (fun _ _ => rfl))) pa_nil)) pe_int) pe_int) pa_nil)) (pv 1))))), ?_⟩
    have hS : SqL K H p [.int x, .int y] := .inl (.inl hp)
    have fr : ∀ o b, H b = none → upd H p o b = none := fun o b hb => by
      rw [upd_ne (fun e => by rw [e, hp] at hb; cases hb)]
      exact hb
    refine ⟨.ref p, rfl, p, _, 0, .int x, rfl, rfl, hS, rfl, x, 0, rfl, rfl, _, rfl, ite2 (fun e => ?_) (fun e => ?_)⟩
    · refine ⟨.ref p, rfl, p, _, 0, .int x, rfl, rfl, hS, rfl, .inl ⟨x, rfl, _, rfl, x, n, rfl, rfl, hn, ?_⟩⟩
      refine ⟨.ref p, rfl, p, _, 0, .int x, rfl, rfl, hS, rfl, .int n, rfl, x, n, rfl, rfl, ⟨hn, by omega⟩, ?_⟩
      refine ⟨.ref p, rfl, p, _, 0, 0, rfl, rfl, hp, rfl, ?_⟩
      refine ⟨_, rfl, q _ _ (Int.emod_nonneg _ (by omega)) (Int.emod_lt_of_pos _ hn) But.upd ⟨_, y, upd_same, ?_, hy, hy2⟩ (fr _)⟩
      exact Int.ediv_nonneg hx (by omega)
    · refine ⟨.ref p, rfl, p, _, 1, .int y, rfl, rfl, hS, rfl, y, _, rfl, rfl, .inl ⟨by omega, by omega⟩, _, _, rfl, rfl, .inl ⟨_, rfl, _, _, rfl, rfl, (by show (0 : Int) < 2147483647; decide), ?_⟩⟩
      refine ⟨.ref p, rfl, p, _, 1, 1, rfl, rfl, hp, rfl, ?_⟩
      have b1 : 0 ≤ (y * 48271 + 11) % 2147483647 := Int.emod_nonneg _ (by decide)
      have b2 : (y * 48271 + 11) % 2147483647 < 2147483647 := Int.emod_lt_of_pos _ (by decide)
      have hS2 : SqL K (upd H p (.lst ([V.int x, .int y].set 1 (.int ((y * 48271 + 11) % 2147483647))))) p [.int x, .int ((y * 48271 + 11) % 2147483647)] := .inl (.inl upd_same)
      refine ⟨.ref p, rfl, p, _, 1, _, rfl, rfl, hS2, rfl, .ref p, rfl, p, _, 1, _, rfl, rfl, hS2, rfl, _, _, rfl, rfl, .inl ⟨by omega, by omega⟩, .inl ⟨_, rfl, _, _, rfl, rfl, (by show (0 : Int) < 2147483629; decide), _, _, rfl, rfl, ⟨by decide, by decide⟩, .inl ⟨_, rfl, ?_⟩⟩⟩
      refine ⟨.int n, rfl, _, n, rfl, rfl, hn, ?_⟩
      exact q _ _ (Int.emod_nonneg _ (by omega)) (Int.emod_lt_of_pos _ hn) But.upd ⟨x, _, upd_same, hx, b1, by omega⟩ (fr _)
def spPick (K : PySem.W.Frag) : Sp := fun vs H Q _ => ∃ (p r : Addr) (xs : List V), vs = [.ref p, .ref r] ∧ PoolAt H p ∧ p ≠ r ∧ (SqL K H r xs ∨ SqT K H r xs) ∧ 0 < xs.length ∧ xs.length ≤ 1000000 ∧
  ∀ (i : Nat) (hi : i < xs.length) H', But p H H' → PoolAt H' p → (∀ b, H b = none → H' b = none) → Q xs[i] H'
theorem ok_pick {f fD : Addr} {fd fdD : FuncData} (F : Fun K "_law_pick" "_law_pick" sPick f fd) (M : Blt mg) (FD : Fun K "_law_draw" "_law_draw" sDraw fD fdD) (bD : Binds K fdD ["_law_pool_here", "_law_many"] []) (gD : mg "_law_draw" = some (.ref fD)) :
    FnOk P w K mg base CX0 2 f fd ["_law_pool_here", "_law_row"] (spPick K) := by
  have GD : FnOk P w K mg base CX0 1 fD fdD ["_law_pool_here", "_law_many"] spDraw := ok_draw FD M
  refine F.ok scPick (fun vs H Q E h => ?_) (fun cdv A outer s H vs Q E hr h => ?_)
  · obtain ⟨p, r, xs, rfl, _⟩ := h
    rfl
  · obtain ⟨p, r, xs, rfl, hp, npr, hS, hl, hl2, q⟩ := h
    refine ⟨_, pss_one (ps_ret (pe_ix ix_seq (pv 1) (pe_call GD hr (by rfl) gD FD.kp bD .nil pass0 (pa_cons (pv 0) (pa_cons (pe_callB call_len_seq (by rfl) M.len PySem.boot_len (pa_cons (pv 1) pa_nil)) pa_nil))) (fun _ _ => rfl))), ?_⟩
    refine ⟨_, rfl, _, rfl, _, rfl, _, _, rfl, hS, p, _, rfl, hp, by omega, by omega, fun v H' v0 v1 bt hp' fr => ?_⟩
    have hv : v.toNat < xs.length := by omega
    have ha : atI xs v = some xs[v.toNat] := at_nn v0 (List.getElem?_eq_getElem hv)
    have sk : SqL K H' r xs ∨ SqT K H' r xs := hS.imp (bt.seq npr.symm) (bt.seqT npr.symm)
    rcases sk with sk | sk
    · exact .inl ⟨_, _, _, _, rfl, rfl, sk, ha, q _ hv _ bt hp' fr⟩
    · exact .inr (.inl ⟨_, _, _, _, rfl, rfl, sk, ha, q _ hv _ bt hp' fr⟩)
end
/-! ### data -/
mutual
theorem dp_mono {K : PySem.W.Frag} {H H' : Hp} (ht : ∀ a xs, SqT K H a xs → SqT K H' a xs) (hl : ∀ a xs, SqL K H a xs → SqL K H' a xs) : ∀ (d : PyData) (v : V), Dp K H v d → Dp K H' v d
  | .none, _, h => by
    cases h
    exact .non
  | .bool b, _, h => by
    cases h
    exact .bl b
  | .int i, _, h => by
    cases h
    exact .int i
  | .str x, _, h => by
    cases h
    exact .str x
  | .list ds, _, h => by
    cases h with
    | lst hs ha => exact .lst (hl _ _ hs) (dpAll_mono ht hl ds _ ha)
  | .tuple ds, _, h => by
    cases h with
    | tup hs ha => exact .tup (ht _ _ hs) (dpAll_mono ht hl ds _ ha)
  | .dict _, _, h => by cases h
theorem dpAll_mono {K : PySem.W.Frag} {H H' : Hp} (ht : ∀ a xs, SqT K H a xs → SqT K H' a xs) (hl : ∀ a xs, SqL K H a xs → SqL K H' a xs) : ∀ (ds : List PyData) (vs : List V), DpAll K H vs ds → DpAll K H' vs ds
  | [], _, h => by
    cases h
    exact .nil
  | d :: ds, _, h => by
    cases h with
    | cons h1 h2 => exact .cons (dp_mono ht hl d _ h1) (dpAll_mono ht hl ds _ h2)
end
theorem same_sqT {K : PySem.W.Frag} {H H' : Hp} (s : Same H H') {a : Addr} {xs : List V} (h : SqT K H a xs) : SqT K H' a xs := by
  rcases h with (h | ⟨o, h⟩) | h
  · exact .inl (.inl (s _ _ h))
  · exact .inl (.inr ⟨o, s _ _ h⟩)
  · exact .inr h
theorem dp_same {K : PySem.W.Frag} {H H' : Hp} (s : Same H H') {d : PyData} {v : V} (h : Dp K H v d) : Dp K H' v d := dp_mono (fun _ _ => same_sqT s) (fun _ _ => s.seq) d v h
theorem dpA_same {K : PySem.W.Frag} {H H' : Hp} (s : Same H H') {ds : List PyData} {vs : List V} (h : DpAll K H vs ds) : DpAll K H' vs ds := dpAll_mono (fun _ _ => same_sqT s) (fun _ _ => s.seq) ds vs h
/-! data without lists -/
mutual
def noL : PyData → Bool
  | .list _ => false
  | .tuple ds => noLs ds
  | .dict _ => false
  | _ => true
def noLs : List PyData → Bool
  | [] => true
  | d :: ds => noL d && noLs ds
end
mutual
theorem dp_tups {K : PySem.W.Frag} {H H' : Hp} (ht : ∀ a xs, SqT K H a xs → SqT K H' a xs) : ∀ (d : PyData) (v : V), noL d = true → Dp K H v d → Dp K H' v d
  | .none, _, _, h => by
    cases h
    exact .non
  | .bool b, _, _, h => by
    cases h
    exact .bl b
  | .int i, _, _, h => by
    cases h
    exact .int i
  | .str x, _, _, h => by
    cases h
    exact .str x
  | .list ds, _, n, _ => by cases n
  | .tuple ds, _, n, h => by
    cases h with
    | tup hs ha => exact .tup (ht _ _ hs) (dpAll_tups ht ds _ n ha)
  | .dict _, _, _, h => by cases h
theorem dpAll_tups {K : PySem.W.Frag} {H H' : Hp} (ht : ∀ a xs, SqT K H a xs → SqT K H' a xs) : ∀ (ds : List PyData) (vs : List V), noLs ds = true → DpAll K H vs ds → DpAll K H' vs ds
  | [], _, _, h => by
    cases h
    exact .nil
  | d :: ds, _, n, h => by
    have n1 : noL d = true := (Bool.and_eq_true _ _ ▸ n : noL d = true ∧ noLs ds = true).1
    have n2 : noLs ds = true := (Bool.and_eq_true _ _ ▸ n : noL d = true ∧ noLs ds = true).2
    cases h with
    | cons h1 h2 => exact .cons (dp_tups ht d _ n1 h1) (dpAll_tups ht ds _ n2 h2)
end
/-- tuples stand while a list is changed -/
theorem but_sqT {K : PySem.W.Frag} {p : Addr} {H H' : Hp} {ys : List V} (hp : H p = some (.lst ys)) (b : But p H H') {a : Addr} {xs : List V} (h : SqT K H a xs) : SqT K H' a xs := by
  rcases h with (h | ⟨o, h⟩) | h
  · exact .inl (.inl (b _ _ h (ne_of h hp (fun z => nomatch z))))
  · exact .inl (.inr ⟨o, b _ _ h (ne_of h hp (fun z => nomatch z))⟩)
  · exact .inr h
theorem dp_but {K : PySem.W.Frag} {p : Addr} {H H' : Hp} (hp : PoolAt H p) (b : But p H H') {d : PyData} {v : V} (n : noL d = true) (h : Dp K H v d) : Dp K H' v d := by
  obtain ⟨x, y, e, _⟩ := hp
  exact dp_tups (fun _ _ => but_sqT e b) d v n h
/-- a value's own name of its class -/
def kind : PyData → String
  | .none => "NoneType"
  | .bool _ => "bool"
  | .int _ => "int"
  | .str _ => "str"
  | .list _ => "list"
  | .tuple _ => "tuple"
  | .dict _ => "dict"
theorem tyx_sqT {K : PySem.W.Frag} {H : Hp} {a : Addr} {xs : List V} (h : SqT K H a xs) : TyX K H (.ref a) (.type "tuple") := by
  rcases h with (h | ⟨o, h⟩) | ⟨o, _, _, h, c, _⟩
  · exact .base (.tup h)
  · exact .fTuple h
  · exact .kTuple h c
theorem tyx_sqL {K : PySem.W.Frag} {H : Hp} {a : Addr} {xs : List V} (h : SqL K H a xs) : TyX K H (.ref a) (.type "list") := by
  rcases h with (h | ⟨o, h⟩) | ⟨o, _, _, h, c, _⟩
  · exact .base (.lst h)
  · exact .base (.frz h)
  · exact .kList h c
theorem dp_ty {K : PySem.W.Frag} {H : Hp} {d : PyData} {v : V} (h : Dp K H v d) : TyX K H v (.type (kind d)) := by
  cases h with
  | non => exact .base .non
  | bl b => exact .base (.bl b)
  | int i => exact .base (.int i)
  | str x => exact .base (.str x)
  | lst hs _ => exact tyx_sqL hs
  | tup hs _ => exact tyx_sqT hs
def isInt : PyData → Bool
  | .int _ => true
  | .bool _ => true
  | _ => false
def isBool : PyData → Bool
  | .bool _ => true
  | _ => false
def isStr : PyData → Bool
  | .str _ => true
  | _ => false
def isTup : PyData → Bool
  | .tuple _ => true
  | _ => false
theorem kit_int (K : PySem.W.Frag) : ∀ d : PyData, PySem.W.kitOne K (.type (kind d)) (.type "int") = some (isInt d)
  | .none => kit_ty (show kitB "NoneType" "int" = some false by decide +kernel)
  | .bool _ => kit_ty (show kitB "bool" "int" = some true by decide +kernel)
  | .int _ => kit_ty (show kitB "int" "int" = some true by decide +kernel)
  | .str _ => kit_ty (show kitB "str" "int" = some false by decide +kernel)
  | .list _ => kit_ty (show kitB "list" "int" = some false by decide +kernel)
  | .tuple _ => kit_ty (show kitB "tuple" "int" = some false by decide +kernel)
  | .dict _ => kit_ty (show kitB "dict" "int" = some false by decide +kernel)
theorem kit_bool (K : PySem.W.Frag) : ∀ d : PyData, PySem.W.kitOne K (.type (kind d)) (.type "bool") = some (isBool d)
  | .none => kit_ty (show kitB "NoneType" "bool" = some false by decide +kernel)
  | .bool _ => kit_ty (show kitB "bool" "bool" = some true by decide +kernel)
  | .int _ => kit_ty (show kitB "int" "bool" = some false by decide +kernel)
  | .str _ => kit_ty (show kitB "str" "bool" = some false by decide +kernel)
  | .list _ => kit_ty (show kitB "list" "bool" = some false by decide +kernel)
  | .tuple _ => kit_ty (show kitB "tuple" "bool" = some false by decide +kernel)
  | .dict _ => kit_ty (show kitB "dict" "bool" = some false by decide +kernel)
theorem kit_str (K : PySem.W.Frag) : ∀ d : PyData, PySem.W.kitOne K (.type (kind d)) (.type "str") = some (isStr d)
  | .none => kit_ty (show kitB "NoneType" "str" = some false by decide +kernel)
  | .bool _ => kit_ty (show kitB "bool" "str" = some false by decide +kernel)
  | .int _ => kit_ty (show kitB "int" "str" = some false by decide +kernel)
  | .str _ => kit_ty (show kitB "str" "str" = some true by decide +kernel)
  | .list _ => kit_ty (show kitB "list" "str" = some false by decide +kernel)
  | .tuple _ => kit_ty (show kitB "tuple" "str" = some false by decide +kernel)
  | .dict _ => kit_ty (show kitB "dict" "str" = some false by decide +kernel)
theorem kit_tup (K : PySem.W.Frag) : ∀ d : PyData, PySem.W.kitOne K (.type (kind d)) (.type "tuple") = some (isTup d)
  | .none => kit_ty (show kitB "NoneType" "tuple" = some false by decide +kernel)
  | .bool _ => kit_ty (show kitB "bool" "tuple" = some false by decide +kernel)
  | .int _ => kit_ty (show kitB "int" "tuple" = some false by decide +kernel)
  | .str _ => kit_ty (show kitB "str" "tuple" = some false by decide +kernel)
  | .list _ => kit_ty (show kitB "list" "tuple" = some false by decide +kernel)
  | .tuple _ => kit_ty (show kitB "tuple" "tuple" = some true by decide +kernel)
  | .dict _ => kit_ty (show kitB "dict" "tuple" = some false by decide +kernel)
/-- a block that goes through an iterator: what each turn asks, and what holds at the end -/
abbrev Turns (J : It) (H0 : Hp) (End : Hp → Prop) (Body : (Hp → Prop) → V → Hp → Prop) : Prop :=
  ∃ Wk : Nat → Nat → Hp → Prop, (∃ left, Wk 0 left H0) ∧
    ∀ at_ left Hn, Wk at_ left Hn → (J.stop at_ Hn ∧ End Hn) ∨ (J.go at_ Hn ∧
      ∃ Then : Hp → Prop, (∀ Hb, Then Hb → ∃ fewer, fewer < left ∧ Wk (at_ + 1) fewer Hb) ∧ ∀ item Hi, J.yld at_ Hn item Hi → Body Then item Hi)
/-- a turn of a list's comprehension without a test -/
abbrev LcBody (D : Addr) (te : TE) (vs : List Nat) (j : Nat) (σ : L2.St) : (Hp → Prop) → V → Hp → Prop := fun Then item Hi =>
  gName j item (wipe σ vs) Hi fun σn Hn => wipe σn vs = wipe σ vs ∧ tYes σn Hn fun yes Hy =>
    if yes = true then te σn Hy (fun made Hm => ∃ sofar, Hm D = some (.lst sofar) ∧ sofar.length < sizeLine ∧ Then (upd Hm D (.lst (sofar ++ [made])))) else Then Hy
/-- a comprehension whose i-th item is f i -/
theorem lc_vals {J : It} {n : Nat} {G : Hp → Prop} {Y : Nat → Hp → V → Hp → Prop} (w : Walk J n G Y) {j : Nat} {te : TE} {vs : List Nat} {σ : L2.St} {H1 : Hp} {D : Addr} {Qd : Hp → Prop} (f : Nat → V) (hz : n ≤ 50000)
    (hD : H1 D = none) (hw : ∀ x, wipe ((wipe σ vs).set j (some x)) vs = wipe σ vs) (hG : ∀ H, Same H1 H → G H)
    (he : ∀ i x H H', i < n → Same H1 H → Y i H x H' → Same H H' ∧ ∀ Q : VK, (∀ H2, Same H' H2 → Q (f i) H2) → te ((wipe σ vs).set j (some x)) H' Q)
    (hd : ∀ H, Same H1 H → H D = some (.lst ((List.range n).map f)) → Qd H)  :
    Turns J (upd H1 D (.lst [])) Qd (LcBody D te vs j σ) := by
  refine lc_it w (fun i H => Same H1 H ∧ H D = some (.lst ((List.range i).map f))) ⟨same_upd hD, upd_same⟩ (fun i H _ p => hG H p.1) (fun i x H H' hi p y => ?_) (fun H p => hd H p.1 p.2)
  obtain ⟨s1, e1⟩ := p
  obtain ⟨s2, k⟩ := he i x H H' hi s1 y
  refine And.intro (hw x) ?_
  unfold tYes
  refine iteT ?_
  refine k _ fun H2 s3 => ⟨_, s3 _ _ (s2 _ _ e1), ?_, fun b o e => ?_, ?_⟩
  · rw [List.length_map, List.length_range]
    exact Nat.lt_of_lt_of_le (show i < 50000 by omega) (by decide)
  · have hb : b ≠ D := ne_of_none e hD
    rw [upd_ne hb]
    exact s3 _ _ (s2 _ _ (s1 _ _ e))
  · rw [upd_same, List.range_succ, List.map_append]
    rfl
theorem range_get {α : Type} (xs : List α) (f : Nat → α) (h : ∀ i x, xs[i]? = some x → f i = x) : (List.range xs.length).map f = xs := by
  apply List.ext_getElem?
  intro i
  rw [List.getElem?_map]
  by_cases hi : i < xs.length
  · rw [List.getElem?_range hi, List.getElem?_eq_getElem hi]
    exact congrArg some (h i _ (List.getElem?_eq_getElem hi))
  · rw [List.getElem?_eq_none (by simpa using hi), List.getElem?_eq_none (by simpa using hi)]
    rfl
theorem dpA_len {K : PySem.W.Frag} {H : Hp} : ∀ {ds : List PyData} {vs : List V}, DpAll K H vs ds → vs.length = ds.length
  | [], _, h => by
    cases h
    rfl
  | d :: ds, _, h => by
    cases h with
    | cons _ h2 => rw [List.length_cons, List.length_cons, dpA_len h2]
theorem dpA_get {K : PySem.W.Frag} {H : Hp} : ∀ {ds : List PyData} {vs : List V} {i : Nat} {d : PyData}, DpAll K H vs ds → ds[i]? = some d → ∃ v, vs[i]? = some v ∧ Dp K H v d
  | [], _, _, _, _, e => by simp at e
  | d :: ds, _, 0, _, h, e => by
    cases h with
    | cons h1 _ =>
      have e1 : d = _ := Option.some.inj e
      subst e1
      exact ⟨_, rfl, h1⟩
  | d :: ds, _, i + 1, _, h, e => by
    cases h with
    | cons _ h2 => exact dpA_get (i := i) h2 e
theorem dpA_app {K : PySem.W.Frag} {H : Hp} : ∀ {ds es : List PyData} {vs us : List V}, DpAll K H vs ds → DpAll K H us es → DpAll K H (vs ++ us) (ds ++ es)
  | [], _, _, _, h, h' => by
    cases h
    exact h'
  | d :: ds, _, _, _, h, h' => by
    cases h with
    | cons h1 h2 => exact .cons h1 (dpA_app h2 h')
/-- a walk by its turns, whatever a turn asks -/
theorem walk_gen {J : It} {n : Nat} {G : Hp → Prop} {Y : Nat → Hp → V → Hp → Prop} (w : Walk J n G Y) {H0 : Hp} {End : Hp → Prop} {Body : (Hp → Prop) → V → Hp → Prop} (Pv : Nat → Hp → Prop) (h0 : Pv 0 H0) (hG : ∀ i H, i ≤ n → Pv i H → G H)
    (hs : ∀ i x H H', i < n → Pv i H → Y i H x H' → Body (Pv (i + 1)) x H') (hd : ∀ H, Pv n H → End H) : Turns J H0 End Body := by
  refine ⟨fun at_ left Hn => at_ + left = n ∧ Pv at_ Hn, ⟨n, Nat.zero_add n, h0⟩, fun at_ left Hn ⟨sum, holds⟩ => ?_⟩
  cases left with
  | zero =>
    have all : at_ = n := sum
    subst all
    exact Or.inl (And.intro (w.stops Hn (hG _ Hn (Nat.le_refl _) holds)) (hd Hn holds))
  | succ less =>
    have more : at_ < n := by omega
    have good := hG at_ Hn (Nat.le_of_lt more) holds
    refine Or.inr (And.intro (w.goes at_ Hn more good) ⟨Pv (at_ + 1), fun Hb next => ⟨less, Nat.lt_succ_self less, by omega, next⟩, fun item Hi given => ?_⟩)
    exact hs at_ item Hn Hi more holds (w.yields at_ Hn item Hi more good given)
theorem dpA_at {K : PySem.W.Frag} {H : Hp} : ∀ {ds : List PyData} {vs : List V} {i : Nat} {v : V}, DpAll K H vs ds → vs[i]? = some v → ∃ d, ds[i]? = some d ∧ Dp K H v d
  | _, [], _, _, _, e => by simp at e
  | _, _ :: _, 0, _, h, e => by
    cases h with
    | cons h1 _ =>
      have e1 := Option.some.inj e
      subst e1
      exact ⟨_, rfl, h1⟩
  | _, _ :: _, i + 1, _, h, e => by
    cases h with
    | cons _ h2 => exact dpA_at (i := i) h2 e
theorem take_snoc {α : Type} : ∀ {l : List α} {i : Nat} {x : α}, l[i]? = some x → l.take (i + 1) = l.take i ++ [x]
  | [], i, x, h => by simp at h
  | a :: l, 0, x, h => by
    have e : a = x := Option.some.inj h
    subst e
    rfl
  | a :: l, i + 1, x, h => by
    have ih := take_snoc (l := l) (i := i) (x := x) h
    show a :: l.take (i + 1) = a :: l.take i ++ [x]
    rw [ih]
    rfl
theorem cut1 (xs : List V) : cutV xs (some 1) none = xs.drop 1 := by
  unfold cutV
  rw [show HT.sIx xs.length 0 (some 1) = min 1 xs.length from HT.sIx_nat xs.length 0 1, HT.sIx_none]
  cases xs with
  | nil => rfl
  | cons x r =>
    rw [show min 1 (x :: r).length = 1 by
      rw [List.length_cons]
      omega]
    show (List.take ((x :: r).length - 1) r) = r
    rw [List.length_cons, Nat.add_sub_cancel]
    exact List.take_length
theorem q_c {tz : TS} {D : Ends} {σ : L2.St} {H : Hp} {i : Nat} {v : V} (h : tz D (σ.set i (some v)) H) : tSeq (tAsg (tC v) (gName i)) tz D σ H := h
theorem q_w {c : TT} {tb tz : TS} {D : Ends} {σ : L2.St} {H : Hp} (h : tWhile c tb { D with nx := tz D } σ H) : tSeq (tWhile c tb) tz D σ H := h
theorem wh_by {c : TT} {tb : TS} {D : Ends} {σ : L2.St} {H : Hp} (W : Nat → L2.St → Hp → Prop) (m0 : Nat) (h0 : W m0 σ H)
    (hs : ∀ m σ H, W m σ H → c σ H fun b H1 => if b = true then tb { D with nx := fun σ' H' => ∃ m', m' < m ∧ W m' σ' H', ct := fun σ' H' => ∃ m', m' < m ∧ W m' σ' H', bk := D.nx } σ H1 else D.nx σ H1)
    (mono : ∀ σ H Q Q', (∀ b H1, Q b H1 → Q' b H1) → c σ H Q → c σ H Q') : tWhile c tb D σ H :=
  ⟨W, ⟨m0, h0⟩, fun m σ H hw => mono _ _ _ _ (fun b H1 q => by
    cases b with
    | true => exact ⟨_, fun σ' H' h => h, q⟩
    | false => exact q) (hs m σ H hw)⟩
/-- a comprehension whose i-th item is as R says -/
theorem lc_rel {J : It} {n : Nat} {G : Hp → Prop} {Y : Nat → Hp → V → Hp → Prop} (w : Walk J n G Y) {j : Nat} {te : TE} {vs : List Nat} {σ : L2.St} {H1 : Hp} {D : Addr} {Qd : Hp → Prop} (R : Nat → V → Hp → Prop) (hz : n ≤ 50000)
    (hD : H1 D = none) (hw : ∀ x, wipe ((wipe σ vs).set j (some x)) vs = wipe σ vs) (hG : ∀ H, Same H1 H → G H) (hR : ∀ i v H H' zs, H D = some (.lst zs) → But D H H' → R i v H → R i v H')
    (he : ∀ i x H H', i < n → Same H1 H → Y i H x H' → Same H H' ∧ ∀ Q : VK, (∀ v H2, Same H' H2 → R i v H2 → Q v H2) → te ((wipe σ vs).set j (some x)) H' Q)
    (hd : ∀ ys H, Same H1 H → H D = some (.lst ys) → ys.length = n → (∀ i v, ys[i]? = some v → R i v H) → Qd H)  :
    Turns J (upd H1 D (.lst [])) Qd (LcBody D te vs j σ) := by
  refine lc_it w (fun i H => Same H1 H ∧ ∃ ys, H D = some (.lst ys) ∧ ys.length = i ∧ ∀ k v, ys[k]? = some v → R k v H) ⟨same_upd hD, [], upd_same, rfl, fun k v e => by simp at e⟩ (fun i H _ p => hG H p.1) (fun i x H H' hi p y => ?_) (fun H p => ?_)
  · obtain ⟨s1, ys, e1, el, er⟩ := p
    obtain ⟨s2, k⟩ := he i x H H' hi s1 y
    refine And.intro (hw x) ?_
    unfold tYes
    refine iteT ?_
    refine k _ fun v H2 s3 rv => ⟨ys, s3 _ _ (s2 _ _ e1), ?_, fun b o e => ?_, ys ++ [v], upd_same, ?_, fun k u eu => ?_⟩
    · exact Nat.lt_of_lt_of_le (show ys.length < 50000 by omega) (by decide)
    · have hb : b ≠ D := ne_of_none e hD
      rw [upd_ne hb]
      exact s3 _ _ (s2 _ _ (s1 _ _ e))
    · rw [List.length_append, el]
      rfl
    · have e2 : H2 D = some (.lst ys) := s3 _ _ (s2 _ _ e1)
      refine hR k u H2 _ ys e2 But.upd ?_
      by_cases hk : k < ys.length
      · rw [List.getElem?_append_left hk] at eu
        exact hR k u H H2 ys e1 (But.of (s2.trans s3)) (er k u eu)
      · have hk2 : k = ys.length := by
          have := (List.getElem?_eq_some_iff.mp eu).1
          rw [List.length_append] at this
          simp at this
          omega
        rw [hk2, List.getElem?_append_right (Nat.le_refl _), Nat.sub_self] at eu
        have eu2 := Option.some.inj eu
        subst eu2
        rw [hk2, el]
        exact rv
  · obtain ⟨s1, ys, e1, el, er⟩ := p
    exact hd ys H s1 e1 el er
theorem PoolAt.upd {H : Hp} {p l : Addr} {o : HO} (h : PoolAt H p) (n : H l = none) : PoolAt (L2.upd H l o) p := by
  obtain ⟨x, y, e, r⟩ := h
  refine ⟨x, y, ?_, r⟩
  rw [upd_ne (ne_of_none e n)]
  exact e
theorem PoolAt.ne {H : Hp} {p l : Addr} (h : PoolAt H p) (n : H l = none) : p ≠ l := by
  obtain ⟨x, y, e, r⟩ := h
  exact ne_of_none e n
theorem PoolAt.same {H H' : Hp} {p : Addr} (h : PoolAt H p) (s : Same H H') : PoolAt H' p := by
  obtain ⟨x, y, e, r⟩ := h
  exact ⟨x, y, s _ _ e, r⟩
/-- a comprehension that draws: its items are as R says, whatever is drawn -/
theorem lc_pool {J : It} {n : Nat} {Y : Nat → Hp → V → Hp → Prop} (w : Walk J n (fun _ => True) Y) {j : Nat} {te : TE} {vs : List Nat} {σ : L2.St} {H1 : Hp} {D p : Addr} {Qd : Hp → Prop} (R : V → Prop) (hz : n ≤ 50000)
    (hD : H1 D = none) (hp : PoolAt H1 p) (hw : ∀ x, wipe ((wipe σ vs).set j (some x)) vs = wipe σ vs)
    (he : ∀ i x H H', i < n → PoolAt H p → Y i H x H' → H' = H ∧ ∀ Q : VK, (∀ v H2, But p H H2 → PoolAt H2 p → R v → Q v H2) → te ((wipe σ vs).set j (some x)) H Q)
    (hd : ∀ ys H, But p H1 H → PoolAt H p → H D = some (.lst ys) → ys.length = n → (∀ v ∈ ys, R v) → Qd H)  :
    Turns J (upd H1 D (.lst [])) Qd (LcBody D te vs j σ) := by
  have npD : D ≠ p := (hp.ne hD).symm
  refine lc_it w (fun i H => But p H1 H ∧ PoolAt H p ∧ ∃ ys, H D = some (.lst ys) ∧ ys.length = i ∧ ∀ v ∈ ys, R v) ⟨But.of (same_upd hD), hp.upd hD, [], upd_same, rfl, fun v e => by simp at e⟩ (fun i H _ p => True.intro) (fun i x H H' hi q y => ?_) (fun H q => ?_)
  · obtain ⟨s1, h1, ys, e1, el, er⟩ := q
    obtain ⟨rfl, k⟩ := he i x H H' hi h1 y
    refine And.intro (hw x) ?_
    unfold tYes
    refine iteT ?_
    refine k _ fun v H2 s3 h3 rv => ⟨ys, s3 _ _ e1 npD, ?_, fun b o e nb => ?_, ?_, ys ++ [v], upd_same, ?_, fun u hu => ?_⟩
    · exact Nat.lt_of_lt_of_le (show ys.length < 50000 by omega) (by decide)
    · have hb : b ≠ D := ne_of_none e hD
      rw [upd_ne hb]
      exact s3 _ _ (s1 _ _ e nb) nb
    · obtain ⟨x, y, e, r⟩ := h3
      exact ⟨x, y, by rw [upd_ne npD.symm]; exact e, r⟩
    · rw [List.length_append, el]
      rfl
    · rcases List.mem_append.mp hu with hu | hu
      · exact er u hu
      · rw [List.mem_singleton.mp hu]
        exact rv
  · obtain ⟨s1, h1, ys, e1, el, er⟩ := q
    exact hd ys H s1 h1 e1 el er
theorem at_of {j : Nat} {xs : List V} {v : V} {z : Int} (same : z = (j : Int)) (there : xs[j]? = some v) : atI xs z = some v := same ▸ atI_nat there
/-! ### values and names -/
abbrev sWhole : Stmt := topS 8
abbrev sValue : Stmt := topS 9
abbrev sName : Stmt := topS 10
theorem scWhole : FnScope ["value"] ["value"] (defScope sWhole) := ⟨rfl, rfl, rfl, by decide +kernel, rfl, by decide +kernel, by decide +kernel⟩
theorem scValue : FnScope ["value"] ["value"] (defScope sValue) := ⟨rfl, rfl, rfl, by decide +kernel, rfl, by decide +kernel, by decide +kernel⟩
theorem scName : FnScope ["value", "letter"] ["value"] (defScope sName) := ⟨rfl, rfl, rfl, by decide +kernel, rfl, by decide +kernel, by decide +kernel⟩
def isWhole : PyData → Bool
  | .int _ => true
  | _ => false
def isValue : PyData → Bool
  | .int i => decide (0 ≤ i) && decide (i < 3)
  | _ => false
def lowCode (c : Nat) : Bool := decide (97 ≤ c) && decide (c ≤ 122)
def isName : PyData → Bool
  | .str z => decide (1 ≤ (z.length : Int)) && decide ((z.length : Int) ≤ 8) && z.cps.toList.all lowCode
  | _ => false
theorem isWhole_eq (d : PyData) : isWhole d = (isInt d && !isBool d) := by cases d <;> rfl
mutual
def szD : PyData → Bool
  | .str z => decide (z.length ≤ 1000)
  | .tuple ds => decide (ds.length ≤ 1000) && szDs ds
  | .list ds => decide (ds.length ≤ 1000) && szDs ds
  | _ => true
def szDs : List PyData → Bool
  | [] => true
  | d :: ds => szD d && szDs ds
end
theorem nlt (a b : Nat) : (!decide ([a] < [b])) = decide (b ≤ a) := by
  by_cases h : a < b
  · rw [decide_eq_true (show [a] < [b] from List.cons_lt_cons_iff.mpr (.inl h)), decide_eq_false (by omega)]
    rfl
  · have q : ¬ [a] < [b] := fun q => by
      rcases List.cons_lt_cons_iff.mp q with q | ⟨_, q⟩
      · exact h q
      · exact absurd q (List.not_lt_nil _)
    rw [decide_eq_false q, decide_eq_true (by omega)]
    rfl
theorem all_range (l : List Nat) (g : Nat → Bool) : ((List.range l.length).map fun i => g (l.getD i 0)).all id = l.all g := by
  have e : (List.range l.length).map (fun i => g (l.getD i 0)) = l.map g := by
    apply List.ext_getElem?
    intro i
    rw [List.getElem?_map, List.getElem?_map]
    by_cases hi : i < l.length
    · rw [List.getElem?_range hi, List.getElem?_eq_getElem hi]
      show some (g (l.getD i 0)) = some (g l[i])
      rw [List.getD_eq_getElem?_getD, List.getElem?_eq_getElem hi]
      rfl
    · rw [List.getElem?_eq_none (by simpa using hi), List.getElem?_eq_none (by simpa using hi)]
      rfl
  rw [e, List.all_map]
  rfl
/-- a truth about one value, told without a change -/
def spB (K : PySem.W.Frag) (g : PyData → Bool) : Sp := fun vs H Q _ => ∃ (v : V) (d : PyData), vs = [v] ∧ Dp K H v d ∧ szD d = true ∧ ∀ H', Same H H' → Q (.bl (g d)) H'
structure CellsTxt (K : PySem.W.Frag) (mg : Str → Option Value) : Prop where
  vals : ∃ aV, mg "VALUES" = some (.ref aV) ∧ ∀ H : Hp, SqT K H aV [.int 0, .int 1, .int 2]
  long : ∃ t, mg "LONGEST_NAME" = some (.int 8 t)
section
variable {P : Program} {w : World} {K : PySem.W.Frag} {mg : Str → Option Value} {base : Heap}
theorem ok_whole {f : Addr} {fd : FuncData} (F : Fun K "is_whole" "is_whole" sWhole f fd) (M : Blt mg) : FnOk P w K mg base CX0 1 f fd ["value"] (spB K isWhole) := by
  refine F.ok scWhole (fun vs H Q E h => ?_) (fun cdv A outer s H vs Q E hr h => ?_)
  · obtain ⟨v, d, rfl, _⟩ := h
    rfl
  · obtain ⟨v, d, rfl, hv, hsz, q'⟩ := h
    have q := q' H (Same.refl H)
    refine ⟨_, pss_one (ps_ret (pe_and (pe_callB call_isi (by rfl) M.isinstance (by decide +kernel) (pa_cons (pv 0) (pa_cons (pe_bltn (v := .ty "int") (by rfl) M.int (by decide +kernel) rfl) pa_nil)))
      (pe_one (pe_not (pe_callB call_isi (by rfl) M.isinstance (by decide +kernel) (pa_cons (pv 0) (pa_cons (pe_bltn (v := .ty "bool") (by rfl) M.bool (by decide +kernel) rfl) pa_nil))))))), ?_⟩
    rw [isWhole_eq] at q
    refine ⟨v, rfl, v, _, _, _, _, rfl, .ty "int", dp_ty hv, kit_int K d, _, rfl, ?_⟩
    cases hi : isInt d with
    | true =>
      refine iteT ⟨v, rfl, v, _, _, _, _, rfl, .ty "bool", dp_ty hv, kit_bool K d, _, rfl, ?_⟩
      rw [hi] at q
      exact q
    | false =>
      rw [hi] at q
      exact iteF q
theorem ok_value {f fW : Addr} {fd fdW : FuncData} (F : Fun K "is_value" "is_value" sValue f fd) (M : Blt mg) (T : CellsTxt K mg) (FW : Fun K "is_whole" "is_whole" sWhole fW fdW) (bW : Binds K fdW ["value"] []) (gW : mg "is_whole" = some (.ref fW)) :
    FnOk P w K mg base CX0 2 f fd ["value"] (spB K isValue) := by
  have GW : FnOk P w K mg base CX0 1 fW fdW ["value"] (spB K isWhole) := ok_whole FW M
  obtain ⟨aV, gV, sV⟩ := T.vals
  refine F.ok scValue (fun vs H Q E h => ?_) (fun cdv A outer s H vs Q E hr h => ?_)
  · obtain ⟨v, d, rfl, _⟩ := h
    rfl
  · obtain ⟨v, d, rfl, hv, hsz, q'⟩ := h
    have q := q' H (Same.refl H)
    refine ⟨_, pss_one (ps_ret (pe_and (pe_call GW hr (by rfl) gW FW.kp bW .nil pass0 (pa_cons (pv 0) pa_nil))
      (pe_one (pe_chain op_le op_lt pe_int (pv 0) (pe_callB call_len_seq (by rfl) M.len PySem.boot_len (pa_cons (pe_glob (v := .ref aV) (by rfl) gV rfl) pa_nil)))))), ?_⟩
    refine ⟨v, rfl, v, d, rfl, hv, hsz, fun H1 s1 => ⟨_, rfl, ?_⟩⟩
    replace q := q' H1 s1
    cases d with
    | int i =>
      cases hv
      refine iteT ⟨_, rfl, _, _, rfl, rfl, _, rfl, ?_⟩
      cases h0 : decide (0 ≤ i) with
      | false =>
        refine iteF ?_
        have e : isValue (.int i) = false := by
          show (decide (0 ≤ i) && decide (i < 3)) = false
          rw [h0] <;> rfl
        rw [e] at q
        exact q
      | true =>
        refine iteT ⟨aV, _, rfl, .inr (sV _), _, _, rfl, rfl, ?_⟩
        have e : isValue (.int i) = decide (i < 3) := by
          show (decide (0 ≤ i) && decide (i < 3)) = _
          rw [h0] <;> rfl
        rw [e] at q
        exact q
    | none => exact iteF q
    | bool b => exact iteF q
    | str z => exact iteF q
    | list ds => exact iteF q
    | tuple ds => exact iteF q
    | dict kvs => exact iteF q
theorem ok_name {f : Addr} {fd : FuncData} (F : Fun K "is_name" "is_name" sName f fd) (M : Blt mg) (T : CellsTxt K mg) : FnOk P w K mg base CX0 1 f fd ["value"] (spB K isName) := by
  obtain ⟨tl, gL⟩ := T.long
  refine F.ok scName (fun vs H Q E h => ?_) (fun cdv A outer s H vs Q E hr h => ?_)
  · obtain ⟨v, d, rfl, _⟩ := h
    rfl
  · obtain ⟨v, d, rfl, hv, hsz, q'⟩ := h
    have q := q' H (Same.refl H)
    refine ⟨_, pss_cons (ps_if (PW.pt (pw_or (pt_not (pt_val (pe_callB call_isi (by rfl) M.isinstance (by decide +kernel) (pa_cons (pv 0) (pa_cons (pe_bltn (v := .ty "str") (by rfl) M.str (by decide +kernel) rfl) pa_nil)))))
        (pw_or1 (pt_not (pt_chain op_le op_le pe_int (pe_callB call_len (by rfl) M.len PySem.boot_len (pa_cons (pv 0) pa_nil)) (pe_glob (v := .int 8) (by rfl) gL ⟨_, rfl⟩)))))) (pss_one (ps_ret pe_bl)) pss_nil)
      (pss_one (ps_ret (pe_callB (cr_all rfl) (by rfl) M.all (by decide +kernel) (pa_cons
        (pe_lc (own := [("letter", 1)]) (g := gName 1) (by rfl) scName.nd (pi_str (pv 0)) (blkOk_by (own := [("letter", 1)]) (N := ["value", "letter"]) (sc := defScope sName) (by decide +kernel))
          (fun _ _ _ _ _ => pg_name (i := 1) scName.nd rfl (Or.inl rfl)) (fun _ _ _ _ _ => pts_nil) (fun _ _ _ _ _ => pe_chain op_le_str op_le_str pe_str (pv 1) pe_str)) pa_nil)))), ?_⟩
    have no : isName d = false → Q (.bl false) H := fun e => by
      rw [e] at q
      exact q
    refine ⟨v, rfl, v, _, _, _, _, rfl, .ty "str", dp_ty hv, kit_str K d, _, rfl, ?_⟩
    cases d with
    | str z =>
      cases hv
      refine iteF ?_
      have hzl : z.length ≤ sizeLine := Nat.le_trans (of_decide_eq_true hsz) (by decide)
      by_cases hz : z.length ≤ 8
      · refine ⟨.str z, rfl, .str z, z.length, rfl, ⟨hzl, rfl⟩, _, _, rfl, rfl, _, rfl, ?_⟩
        cases h1 : decide (1 ≤ (z.length : Int)) with
        | false =>
          refine iteF ⟨_, rfl, iteT (no ?_)⟩
          show (decide (1 ≤ (z.length : Int)) && decide ((z.length : Int) ≤ 8) && z.cps.toList.all lowCode) = false
          rw [h1]
          rfl
        | true =>
          refine iteT ⟨_, _, rfl, rfl, _, rfl, ?_⟩
          have h2 : decide ((z.length : Int) ≤ 8) = true := decide_eq_true (by omega)
          rw [h2]
          refine iteF ⟨_, rfl, z, rfl, fun D hD => ?_⟩
          have ln : z.cps.size ≤ 8 := hz
          refine lc_vals (vs := [1]) (j := 1) (σ := [some (.str z), none]) walk_str (fun i => .bl (lowCode (z.cps.getD i 0))) (by omega) hD (fun x => rfl) (fun _ _ => True.intro) (fun i x H0 H' hi s1 y => ?_) (fun H' s1 e1 => ?_)
          · obtain ⟨rfl, c, hc, rfl⟩ := y
            have gc : z.cps.getD i 0 = c := by
              rw [Array.getD_eq_getD_getElem?, hc]
              rfl
            refine ⟨Same.refl _, fun Q2 q2 => ⟨_, rfl, _, _, rfl, rfl, _, rfl, ?_⟩⟩
            show if (!decide ([c] < [97])) = true then _ else _
            rw [nlt c 97]
            cases h3 : decide (97 ≤ c) with
            | false =>
              refine iteF ?_
              have e : lowCode (z.cps.getD i 0) = false := by
                rw [gc]
                show (decide (97 ≤ c) && decide (c ≤ 122)) = false
                rw [h3]
                rfl
              have q3 := q2 _ (Same.refl _)
              rw [e] at q3
              exact q3
            | true =>
              refine iteT ⟨_, _, rfl, rfl, ?_⟩
              have e : lowCode (z.cps.getD i 0) = (!decide ([122] < [c])) := by
                rw [gc, nlt 122 c]
                show (decide (97 ≤ c) && decide (c ≤ 122)) = _
                rw [h3]
                rfl
              have q3 := q2 _ (Same.refl _)
              rw [e] at q3
              exact q3
          · refine ⟨D, (List.range z.cps.size).map (fun i => lowCode (z.cps.getD i 0)), rfl, .inl (.inl ?_), ?_⟩
            · rw [e1, List.map_map]
              rfl
            · have e : ((List.range z.cps.size).map fun i => lowCode (z.cps.getD i 0)).all id = z.cps.toList.all lowCode := by
                rw [← all_range z.cps.toList lowCode]
                have ez : z.cps.toList.length = z.cps.size := by simp
                rw [ez]
                have eg : (fun i => lowCode (z.cps.getD i 0)) = fun i => lowCode (z.cps.toList.getD i 0) := by
                  funext i
                  rw [Array.getD_eq_getD_getElem?, List.getD_eq_getElem?_getD, Array.getElem?_toList]
                rw [eg]
              have e2 : isName (.str z) = z.cps.toList.all lowCode := by
                show (decide (1 ≤ (z.length : Int)) && decide ((z.length : Int) ≤ 8) && z.cps.toList.all lowCode) = _
                rw [h1, h2]
                rfl
              have q2 := q' H' s1
              rw [e2] at q2
              rw [e]
              exact q2
      · have nz : isName (.str z) = false := by
          show (decide (1 ≤ (z.length : Int)) && decide ((z.length : Int) ≤ 8) && z.cps.toList.all lowCode) = false
          rw [decide_eq_false (show ¬ (z.length : Int) ≤ 8 by omega), Bool.and_false]
          rfl
        refine ⟨.str z, rfl, .str z, z.length, rfl, ⟨hzl, rfl⟩, _, _, rfl, rfl, _, rfl, ?_⟩
        rw [decide_eq_true (show 1 ≤ (z.length : Int) by omega)]
        refine iteT ⟨_, _, rfl, rfl, _, rfl, ?_⟩
        rw [decide_eq_false (show ¬ (z.length : Int) ≤ 8 by omega)]
        exact iteT (no nz)
    | none => exact iteT (no rfl)
    | bool b => exact iteT (no rfl)
    | int i => exact iteT (no rfl)
    | list ds => exact iteT (no rfl)
    | tuple ds => exact iteT (no rfl)
    | dict kvs => exact iteT (no rfl)
end
/-! ### names once, ascending -/
section
variable {X : Cx}
/-- what holds of a text in the block of a comprehension -/
abbrev InBlk (X : Cx) (scope : Scope) (p : Cx → Prop) : Prop :=
  ∀ (s0 : Shared) (H0 : Hp) (at_ : Addr) (cells : List (Str × Addr)) (mine : List Addr), p (X.blk s0 H0 scope (compEnvC scope cells at_ X.env) mine)
/-- name = {k: v for target in iter} -/
theorem ps_setDc {i : Nat} {y : Str} {py : Pos} {kx vx tg iter : Expr} {ifs : List Expr} {scope : Scope} {own : List (Str × Nat)} {pos spos : Pos} {wi : TI} {g : TG} {tt : TT} {tk tv : TE} (calm : X.calm = true) (unlike : X.N.Nodup) (slot : X.N[i]? = some y)
    (here : X.env.scope.names.lookup y = some .local) (swaps : swapsWith (.DictComp kx vx [⟨tg, iter, ifs, 0⟩] scope pos) (some (.Name y py)) spos.line X.env = pure true) (walk : PI X tg iter wi) (blk : BlkOk X.N X.env.scope scope own)
    (rg : InBlk X scope fun Y => PG Y tg g) (rt : InBlk X scope fun Y => PTs Y ifs tt) (rk : InBlk X scope fun Y => PE Y kx tk) (rv : InBlk X scope fun Y => PE Y vx tv) (plain : ∀ v, foldedSetIterable iter X.env v = pure v := by intro _; rfl) :
    PS X (.Assign [.Name y py] (.DictComp kx vx [⟨tg, iter, ifs, 0⟩] scope pos) spos) (tAsg (tDc wi g tt tk tv (own.map (·.2))) (gName i)) := by
  constructor
  intro pins st σ H D inv want
  have want' : tDc wi g tt tk tv (own.map (·.2)) σ H (fun made Hm => gName i made σ Hm D.nx) := want
  have run := dc_core (pos := pos) (pos' := firstIterPos [⟨tg, iter, ifs, 0⟩] pos) (use := some (assign (.Name y py) X.env)) (Qf := fun _ st' => SP X pins D .next st') calm unlike inv walk blk rg rt rk rv plain want' (fun made C st' m Hm inv' good names free => by
    refine wpAny_assign_Name (store_ok2 (v := V.ref made) inv' unlike slot (Or.inl here) (show RelV (V.ref made) (Value.ref made) from rfl) (fun st2 inv2 moved => ?_) (Or.inr here))
    obtain ⟨cell, other, where_⟩ := moved
    have apart : C ≠ cell := where_.elim (fun h => h ▸ free.2.1) (fun h q => free.2.2.2.2.1 y cell h q.symm)
    exact ⟨m, names.sameBut other apart, fun last other2 => ⟨_, Hm, inv2.turned (t' := st2.toks) (fun b o nb old => (other2.2 b nb).trans old) free.1 free.2.1 free.2.2.2.1 free.2.2.2.2.1 free.2.2.2.2.2, good⟩⟩)
  rw [exec_Assign_Name_used (hs := swaps)]
  exact wpAny_bind (wpAny_standAt (wpAny_bind (wpAny_bind (thn run fun _ st' done => wpAny_pure (wpAny_pure done)))))
theorem swd_true {kx vx : Expr} {gs : List Comprehension} {scope : Scope} {pos py : Pos} {y : Str} {l : Nat} {env : Env} (fn : env.scope.kind = .function) (here : env.scope.names.lookup y = some .local) (line : (py.line == pos.line) = true)
    (none_ : (scope.names.any fun (n, k) => n == y && (k == .local || k == .cell)) = false) : swapsWith (.DictComp kx vx gs scope pos) (some (.Name y py)) l env = pure true := by
  have kindY : env.kindOf y = some .local := here
  have kindB : env.blockKind = .function := (show _ = _ by rw [Env.blockKind, fn]; rfl)
  simp only [swapsWith, kindY, kindB, none_, line, Expr.pos]
  rfl
end
/-! ### errors, cells -/
abbrev sBadPart : Stmt := inClass (topS 2) 0
abbrev sBadState : Stmt := inClass (topS 3) 0
abbrev sCell : Stmt := inClass (topS 11) 0
abbrev sCellEq : Stmt := inClass (topS 11) 1
theorem scBadPart : FnScope ["self", "part"] ["self", "part"] (defScope sBadPart) := ⟨rfl, rfl, rfl, by decide +kernel, rfl, by decide +kernel, by decide +kernel⟩
theorem scBadState : FnScope ["self", "name"] ["self", "name"] (defScope sBadState) := ⟨rfl, rfl, rfl, by decide +kernel, rfl, by decide +kernel, by decide +kernel⟩
theorem scCell : FnScope ["self", "name", "kind"] ["self", "name", "kind"] (defScope sCell) := ⟨rfl, rfl, rfl, by decide +kernel, rfl, by decide +kernel, by decide +kernel⟩
theorem scCellEq : FnScope ["self", "other"] ["self", "other"] (defScope sCellEq) := ⟨rfl, rfl, rfl, by decide +kernel, rfl, by decide +kernel, by decide +kernel⟩
/-- an error of the class C that keeps its argument under the name f: what its __init__ leaves -/
def spErr (C : Addr) (f : Str) : Sp := fun vs H Q _ => ∃ a v, vs = [.ref a, v] ∧ H a = some (exo a C none) ∧ ∀ d, H d = none → d ≠ a → Q .non (upd (upd H d (exd d [(f, v)])) a (exo a C (some d)))
/-- what is written of an error's class -/
structure ErrT (K : PySem.W.Frag) (mg : Str → Option Value) (x : Str) (f : Str) (C fI : Addr) : Prop where
  oex : OexC K C
  nof : PySem.W.findIn K (.ref C) f = some none
  ini : PySem.W.findIn K (.ref C) "__init__" = some (some (.ref fI))
  typ : PySem.W.typeIn K (.ref fI) = some (.type "function")
  nam : mg x = some (.ref C)
/-- what comes of raise C(v): its dict, new, holds v -/
def Left (H : Hp) (d : Addr) (f : Str) (v : V) (H' : Hp) : Prop := H d = none ∧ Same H H' ∧ H' d = some (.xd [(f, v)])
theorem mk_left {H : Hp} {C : Addr} {f : Str} {v : V} {Q : XK} (h : ∀ d H', Left H d f v H' → Q (.ref C) (some d) H') : ∀ a, H a = none → spErr C f [.ref a, v] (upd H a (exo a C none))
    (fun w H2 => w = .non ∧ ∃ (d : Addr) (fs : List (Str × V)), H2 a = some (exo a C (some d)) ∧ H2 d = some (exd d fs) ∧ H d = none ∧ Q (.ref C) (some d) (upd (L2.del H2 a) d (.xd fs))) (fun _ _ _ => False) := fun a na => by
  refine ⟨a, v, rfl, upd_same, fun d nd hda => ?_⟩
  have nd0 : H d = none := by rw [upd_ne hda] at nd; exact nd
  refine ⟨rfl, d, _, upd_same, by rw [upd_ne hda]; exact upd_same, nd0, h d _ ⟨nd0, fun b o e => ?_, upd_same⟩⟩
  have b1 : b ≠ d := ne_of_none e nd0
  have b2 : b ≠ a := ne_of_none e na
  rw [upd_ne b1, L2.del_ne b2, upd_ne b2, upd_ne b1, upd_ne b2]
  exact e
theorem upd_twice {H : Hp} {a : Addr} {x y : HO} : upd (upd H a x) a y = upd H a y := by
  funext b
  by_cases h : b = a
  · subst h
    rw [upd_same, upd_same]
  · rw [upd_ne h, upd_ne h, upd_ne h]

def kindRow : List Str := ["frozen", "setting", "table"]
def isKind : PyData → Bool
  | .str z => decide (z ∈ kindRow)
  | _ => false
theorem inV_strs (z : Str) (row : List Str) : inV (V.str z) (row.map V.str) = decide (z ∈ row) := by
  rw [Bool.eq_iff_iff]
  unfold inV
  rw [List.any_eq_true, decide_eq_true_eq]
  constructor
  · rintro ⟨y, hy, e⟩
    obtain ⟨w, hw, rfl⟩ := List.mem_map.mp hy
    have e' : (w == z) = true := e
    exact (beq_iff_eq.mp e') ▸ hw
  · intro h
    exact ⟨V.str z, List.mem_map.mpr ⟨z, h, rfl⟩, (beq_self_eq_true z : (z == z) = true)⟩
/-- what is written of the class Cell -/
structure CelC (K : PySem.W.Frag) (mg : Str → Option Value) (C : Addr) : Prop where
  cl : Cls K C
  nn : NoAttr K C "name"
  nk : NoAttr K C "kind"
  me : PySem.W.kitOne K (.ref C) (.ref C) = some true
  ot : PySem.W.kitOne K (.type "str") (.ref C) = some false
  gC : mg "Cell" = some (.ref C)
  ca : PySem.W.findIn K (.ref C) "__class__" = some (some (.builtin "object.__class__"))
  cg : PySem.W.specialIn K (.builtin "object.__class__") "__get__" = some (some (.builtin "getset_descriptor.__get__"))
  ct : PySem.W.takesIn K (.builtin "object.__class__") = some true
  cm : PySem.W.mroIn K C (.type "object") = some true
  ne : PySem.W.findIn K (.ref C) "__ne__" = some (some (.builtin "object.__ne__"))
  so : PySem.W.subIn K (.ref C) (.type "object") = some true
  nf : PySem.W.notFirst K C (.type "str") = true
def KindT (K : PySem.W.Frag) (mg : Str → Option Value) : Prop := ∃ a, mg "KINDS" = some (.ref a) ∧ ∀ H : Hp, SqT K H a (kindRow.map V.str)
/-- a cell of this name and kind, at a -/
def CellAt (H : Hp) (C a : Addr) (n k : Str) : Prop := ∃ dx fs, H a = some (.ins C dx fs) ∧ fs.lookup ("name" : Str) = some (V.str n) ∧ fs.lookup ("kind" : Str) = some (V.str k)
theorem CellAt.same {H H' : Hp} {C a : Addr} {n k : Str} (h : CellAt H C a n k) (s : Same H H') : CellAt H' C a n k := by
  obtain ⟨dx, fs, e, r⟩ := h
  exact ⟨dx, fs, s _ _ e, r⟩
theorem CellAt.but {H H' : Hp} {C a p : Addr} {n k : Str} {xs : List V} (h : CellAt H C a n k) (e : H p = some (.lst xs)) (b : But p H H') : CellAt H' C a n k := by
  obtain ⟨dx, fs, ea, r⟩ := h
  exact ⟨dx, fs, b _ _ ea (fun q => by rw [q, e] at ea; cases ea), r⟩
/-- what a cell of such parts is refused for -/
def cellOut (d e : PyData) : Option Str := if isName d then (if isKind e then none else some "kind") else some "name"
abbrev CWish (H : Hp) (CB : Addr) (E : XK) (z : Str) : Prop := ∀ H1 dd H', Same H H1 → Left H1 dd "part" (.str z) H' → E (.ref CB) (some dd) H'
def spCell (K : PySem.W.Frag) (C CB : Addr) : Sp := fun vs H Q E => ∃ a dx v u d e, vs = [.ref a, v, u] ∧ H a = some (.ins C dx []) ∧ Dp K H v d ∧ Dp K H u e ∧ szD d = true ∧
  ((∃ z, cellOut d e = some z ∧ CWish H CB E z) ∨
   (∃ n k, d = .str n ∧ e = .str k ∧ cellOut d e = none ∧ ∀ H1 fs, Same H H1 → fs.lookup ("name" : Str) = some (V.str n) → fs.lookup ("kind" : Str) = some (V.str k) → Q .non (upd H1 a (.ins C dx fs))))
def spCellEq (C : Addr) : Sp := fun vs H Q _ => ∃ (a : Addr) (n k : Str) (y : V), vs = [.ref a, y] ∧ CellAt H C a n k ∧ ((∃ b m l, y = .ref b ∧ CellAt H C b m l ∧ Q (.bl (decide (n = m) && decide (k = l))) H) ∨ ∃ z, y = .str z ∧ Q (.bl false) H)
section
variable {P : Program} {w : World} {K : PySem.W.Frag} {mg : Str → Option Value} {base : Heap}
theorem ok_BadPart {C f B : Addr} {fd : FuncData} (F : Fun K "__init__" "BadPart.__init__" sBadPart f fd) (TB : OwnBase K mg "StoreError" B) (oex : OexC K C) (nof : PySem.W.findIn K (.ref C) "part" = some none) :
    FnOk P w K mg base CX0 1 f fd ["self", "part"] (spErr C "part") := by
  refine F.ok scBadPart (fun vs H Q E h => ?_) (fun cdv A outer s H vs Q E hr h => ?_)
  · obtain ⟨a, v, rfl, _⟩ := h
    rfl
  · obtain ⟨a, v, rfl, e, q⟩ := h
    refine ⟨_, pss_cons (ps_expr (pe_baseI (by rfl) TB (pa_cons (pv 0) (pa_cons pe_str pa_nil)))) (pss_one (ps_ost (pv 0) (pv 1))), ?_⟩
    refine ⟨.ref a, rfl, a, C, _, rfl, by show (1 : Nat) ≤ 1000; decide, oex, e, ?_⟩
    exact ⟨v, rfl, .ref a, rfl, a, C, rfl, oex, nof, .inl ⟨e, fun d nd ne => q d nd ne⟩⟩
theorem ok_BadState {C f B : Addr} {fd : FuncData} (F : Fun K "__init__" "BadState.__init__" sBadState f fd) (TB : OwnBase K mg "StoreError" B) (oex : OexC K C) (nof : PySem.W.findIn K (.ref C) "name" = some none) :
    FnOk P w K mg base CX0 1 f fd ["self", "name"] (spErr C "name") := by
  refine F.ok scBadState (fun vs H Q E h => ?_) (fun cdv A outer s H vs Q E hr h => ?_)
  · obtain ⟨a, v, rfl, _⟩ := h
    rfl
  · obtain ⟨a, v, rfl, e, q⟩ := h
    refine ⟨_, pss_cons (ps_expr (pe_baseI (by rfl) TB (pa_cons (pv 0) (pa_cons pe_str pa_nil)))) (pss_one (ps_ost (pv 0) (pv 1))), ?_⟩
    refine ⟨.ref a, rfl, a, C, _, rfl, by show (1 : Nat) ≤ 1000; decide, oex, e, ?_⟩
    exact ⟨v, rfl, .ref a, rfl, a, C, rfl, oex, nof, .inl ⟨e, fun d nd ne => q d nd ne⟩⟩
theorem ok_cell {C CB f fB fN : Addr} {fd fdB fdN : FuncData} (F : Fun K "__init__" "Cell.__init__" sCell f fd) (M : Blt mg) (T : CelC K mg C) (R : KindT K mg) (TE : ErrT K mg "BadPart" "part" CB fB)
    (GB : FnOk P w K mg base CX0 1 fB fdB ["self", "part"] (spErr CB "part")) (bB : Binds K fdB ["self", "part"] [])
    (GN : FnOk P w K mg base CX0 1 fN fdN ["value"] (spB K isName)) (kN : PySem.W.keepIn K (.ref fN) = true) (bN : Binds K fdN ["value"] []) (gN : mg "is_name" = some (.ref fN)) : FnOk P w K mg base (L2.CX P w) 3 f fd ["self", "name", "kind"] (spCell K C CB) := by
  obtain ⟨aR, gR, hR⟩ := R
  refine F.okX scCell (fun vs H Q E h => ?_) (fun cdv A outer s H vs Q E hr h => ?_)
  · obtain ⟨a, dx, v, u, d, e, rfl, _⟩ := h
    rfl
  · obtain ⟨a, dx, v, u, d, e, rfl, ea, hv, hu, hz, h⟩ := h
    have hr1 : Room 1 _ := hr.mono (by decide)
    refine ⟨_, pss_cons (ps_if (pt_not (pt_val (pe_call GN hr1 (by rfl) gN kN bN .nil pass0 (pa_cons (pv 1) pa_nil))))
        (pss_one (ps_raise rfl (takes_of rfl rfl rfl rfl) (pmk_oex (k := 1) (ps := ["self", "part"]) (sp := spErr CB "part") (ds := []) (dvs := []) TE.oex TE.ini TE.typ GB hr bB .nil pass0 (by rfl) TE.nam (pa_cons pe_str pa_nil)))) pss_nil)
      (pss_cons (ps_if (PW.pt (pw_or (pt_not (pt_val (pe_callB call_isi (by rfl) M.isinstance (by decide +kernel) (pa_cons (pv 2) (pa_cons (pe_bltn (v := .ty "str") (by rfl) M.str (by decide +kernel) rfl) pa_nil)))))
        (pw_or1 (pt_cmpR op_notIn_seq (pv 2) (pe_glob (v := .ref aR) (by rfl) gR rfl) (by rfl)))))
        (pss_one (ps_raise rfl (takes_of rfl rfl rfl rfl) (pmk_oex (k := 1) (ps := ["self", "part"]) (sp := spErr CB "part") (ds := []) (dvs := []) TE.oex TE.ini TE.typ GB hr bB .nil pass0 (by rfl) TE.nam (pa_cons pe_str pa_nil)))) pss_nil)
      (pss_cons (ps_fld (pv 0) (pv 1) (by rfl)) (pss_one (ps_fld (pv 0) (pv 2) (by rfl))))), ?_⟩
    refine ⟨v, rfl, v, d, rfl, hv, hz, fun H1 s1 => ⟨_, rfl, ?_⟩⟩
    cases hn : isName d with
    | false =>
      have e0 : cellOut d e = some "name" := by
        unfold cellOut
        rw [hn]
        rfl
      rcases h with ⟨z, ez, q⟩ | ⟨n, k, _, _, ez, _⟩
      · rw [e0] at ez
        cases ez
        exact iteT ⟨by show (1 : Nat) ≤ 1000; decide, mk_left fun dd H' l => q H1 dd H' s1 l⟩
      · rw [e0] at ez
        cases ez
    | true =>
      refine iteF ?_
      have hu1 := dp_same s1 hu
      refine ⟨u, rfl, u, .ty "str", _, _, _, rfl, .ty "str", dp_ty hu1, kit_str K e, _, rfl, ?_⟩
      have bad : isKind e = false → Left H1 = Left H1 → ∀ (W : Prop), (CWish H CB E "kind" → W) → W := fun hk _ W g => by
        have e0 : cellOut d e = some "kind" := by
          unfold cellOut
          rw [hn, hk]
          rfl
        rcases h with ⟨z, ez, q⟩ | ⟨n, k, _, _, ez, _⟩
        · rw [e0] at ez
          cases ez
          exact g q
        · rw [e0] at ez
          cases ez
      cases hu1 with
      | str z =>
        refine iteF ⟨V.str z, rfl, aR, _, rfl, .inr (hR H1), rfl, by decide, _, rfl, ?_⟩
        have e1 : inV (V.str z) (kindRow.map V.str) = decide (z ∈ kindRow) := inV_strs z kindRow
        by_cases hk : z ∈ kindRow
        · rw [decide_eq_true hk] at e1
          simp only [e1]
          refine iteF ?_
          have e0 : cellOut d (.str z) = none := by
            unfold cellOut
            rw [hn]
            show (if decide (z ∈ kindRow) = true then none else some ("kind" : Str)) = none
            rw [decide_eq_true hk]
            rfl
          rcases h with ⟨z', ez, q⟩ | ⟨n, k, ed, ee, ez, q⟩
          · rw [e0] at ez
            cases ez
          · cases ee
            subst ed
            cases hv
            refine ⟨.str n, rfl, .ref a, rfl, a, C, dx, [], rfl, s1 _ _ ea, T.cl, T.nn, by decide, ?_⟩
            refine ⟨.str z, rfl, .ref a, rfl, a, C, dx, _, rfl, upd_same, T.cl, T.nk, (by show (1 : Nat) < 1000; decide), ?_⟩
            rw [upd_twice]
            exact q H1 _ s1 rfl rfl
        · rw [decide_eq_false hk] at e1
          simp only [e1]
          exact iteT (bad (decide_eq_false hk) rfl _ fun q => ⟨by show (1 : Nat) ≤ 1000; decide, mk_left fun dd H' l => q H1 dd H' s1 l⟩)
      | non => exact iteT (iteT (bad rfl rfl _ fun q => ⟨by show (1 : Nat) ≤ 1000; decide, mk_left fun dd H' l => q H1 dd H' s1 l⟩))
      | bl b => exact iteT (iteT (bad rfl rfl _ fun q => ⟨by show (1 : Nat) ≤ 1000; decide, mk_left fun dd H' l => q H1 dd H' s1 l⟩))
      | int b => exact iteT (iteT (bad rfl rfl _ fun q => ⟨by show (1 : Nat) ≤ 1000; decide, mk_left fun dd H' l => q H1 dd H' s1 l⟩))
      | lst h1 h2 => exact iteT (iteT (bad rfl rfl _ fun q => ⟨by show (1 : Nat) ≤ 1000; decide, mk_left fun dd H' l => q H1 dd H' s1 l⟩))
      | tup h1 h2 => exact iteT (iteT (bad rfl rfl _ fun q => ⟨by show (1 : Nat) ≤ 1000; decide, mk_left fun dd H' l => q H1 dd H' s1 l⟩))
theorem ok_cellEq {C f : Addr} {fd : FuncData} (F : Fun K "__eq__" "Cell.__eq__" sCellEq f fd) (M : Blt mg) (T : CelC K mg C) : FnOk P w K mg base CX0 1 f fd ["self", "other"] (spCellEq C) := by
  refine F.ok scCellEq (fun vs H Q E h => ?_) (fun cdv A outer s H vs Q E hr h => ?_)
  · obtain ⟨a, n, k, y, rfl, _⟩ := h
    rfl
  · obtain ⟨a, n, k, y, rfl, ⟨dx, fs, ea, hn, hk⟩, h⟩ := h
    refine ⟨_, pss_one (ps_ret (pe_and (pe_callB call_isi (by rfl) M.isinstance (by decide +kernel) (pa_cons (pv 1) (pa_cons (pe_glob (v := .ref C) (by rfl) T.gC rfl) pa_nil)))
      (pe_and (pe_cmpR op_eq (pe_fld (pv 0) (by rfl)) (pe_fld (pv 1) (by rfl)) (nomark _)) (pe_one (pe_cmpR op_eq (pe_fld (pv 0) (by rfl)) (pe_fld (pv 1) (by rfl)) (nomark _)))))), ?_⟩
    rcases h with ⟨b, m, l, rfl, ⟨dy, gs, eb, hm, hl⟩, q⟩ | ⟨z2, rfl, q⟩
    · refine ⟨_, rfl, _, _, _, _, _, rfl, .own C, .base (.ins eb T.cl T.ca T.cg T.ct T.cm), T.me, _, rfl, iteT ?_⟩
      refine ⟨_, rfl, a, C, dx, fs, _, rfl, ea, T.cl, T.nn, hn, _, rfl, b, C, dy, gs, _, rfl, eb, T.cl, T.nn, hm, rfl, _, rfl, ?_⟩
      have e1 : decide (V.str n = V.str m) = decide (n = m) := by
        by_cases e : n = m
        · rw [decide_eq_true e, decide_eq_true (by rw [e])]
        · rw [decide_eq_false e, decide_eq_false (fun z => e (V.str.inj z))]
      have e2 : decide (V.str k = V.str l) = decide (k = l) := by
        by_cases e : k = l
        · rw [decide_eq_true e, decide_eq_true (by rw [e])]
        · rw [decide_eq_false e, decide_eq_false (fun z => e (V.str.inj z))]
      rw [← e1, ← e2] at q
      cases h1 : decide (V.str n = V.str m) with
      | false =>
        rw [h1] at q
        exact iteF q
      | true =>
        rw [h1] at q
        exact iteT ⟨_, rfl, a, C, dx, fs, _, rfl, ea, T.cl, T.nk, hk, _, rfl, b, C, dy, gs, _, rfl, eb, T.cl, T.nk, hl, rfl, q⟩
    · exact ⟨_, rfl, _, _, _, _, _, rfl, .own C, .base (.str z2), T.ot, _, rfl, iteF q⟩
end
/-! ### states by their numbers -/
/-- the pairs of a state of these names, the i-th of the value f i -/
def stKV (names : List Str) (f : Nat → Nat) : List (Key × V) := (List.range names.length).map fun i => (.inr (names.getD i (Str.ofString "")), .int (f i : Nat))
def stOf (names : List Str) (k : Nat) : List (Key × V) := stKV names fun i => k / 3 ^ (names.length - 1 - i) % 3
theorem stKV_len {names : List Str} {f : Nat → Nat} : (stKV names f).length = names.length := by
  unfold stKV
  rw [List.length_map, List.length_range]
theorem getD_of {α : Type} {l : List α} {i : Nat} {x d : α} (h : l[i]? = some x) : l.getD i d = x := by
  rw [List.getD_eq_getElem?_getD, h]
  rfl
theorem nodup_at {l : List Str} (nd : l.Nodup) {i j : Nat} {x : Str} (h : l[i]? = some x) (h' : l[j]? = some x) : i = j := by
  obtain ⟨hi, e⟩ := List.getElem?_eq_some_iff.mp h
  obtain ⟨hj, e'⟩ := List.getElem?_eq_some_iff.mp h'
  exact (List.getElem_inj nd).mp (e.trans e'.symm)
theorem stKV_at {names : List Str} {f : Nat → Nat} {i : Nat} {x : Str} (h : names[i]? = some x) : (stKV names f)[i]? = some (.inr x, .int (f i : Nat)) := by
  unfold stKV
  rw [List.getElem?_map, List.getElem?_range (List.getElem?_eq_some_iff.mp h).1, Option.map_some, getD_of h]
theorem stKV_congr {names : List Str} {f g : Nat → Nat} (h : ∀ i, i < names.length → f i = g i) : stKV names f = stKV names g := by
  unfold stKV
  refine List.map_congr_left fun i hi => ?_
  rw [h i (List.mem_range.mp hi)]
theorem stKV_put {names : List Str} {f : Nat → Nat} (nd : names.Nodup) {i : Nat} {x : Str} (h : names[i]? = some x) (v : Nat) : putK (stKV names f) (.inr x : Key) (.int (v : Nat)) = stKV names fun j => if j = i then v else f j := by
  have hi := (List.getElem?_eq_some_iff.mp h).1
  unfold putK
  rw [if_pos]
  · unfold stKV
    rw [List.map_map]
    refine List.map_congr_left fun j hj => ?_
    have hj' := List.mem_range.mp hj
    have ej := List.getElem?_eq_getElem hj'
    show (if (Sum.inr (names.getD j (Str.ofString "")) : Key) = .inr x then ((Sum.inr (names.getD j (Str.ofString "")) : Key), V.int (v : Nat)) else ((Sum.inr (names.getD j (Str.ofString "")) : Key), V.int (f j : Nat))) = _
    rw [getD_of ej]
    by_cases hji : j = i
    · subst hji
      rw [ej] at h
      cases h
      rw [if_pos rfl]
      dsimp only
      rw [if_pos rfl]
    · rw [if_neg]
      · dsimp only
        rw [if_neg hji]
      intro q
      have q2 : names[j] = x := Sum.inr.inj q
      exact hji (nodup_at nd (ej.trans (congrArg some q2)) h)
  · rw [List.any_eq_true]
    exact ⟨_, List.mem_of_getElem? (stKV_at h), decide_eq_true rfl⟩
theorem stOf_snoc (names : List Str) (c : Str) (k v : Nat) (hv : v < 3) : stOf (names ++ [c]) (3 * k + v) = stOf names k ++ [((.inr c : Key), .int (v : Nat))] := by
  unfold stOf stKV
  rw [List.length_append, List.length_singleton, List.range_succ, List.map_append]
  have one : ∀ i, i < names.length → (names ++ [c]).getD i (Str.ofString "") = names.getD i (Str.ofString "") := fun i hi => by
    rw [List.getD_eq_getElem?_getD, List.getD_eq_getElem?_getD, List.getElem?_append_left hi]
  congr 1
  · refine List.map_congr_left fun i hi => ?_
    have hi' := List.mem_range.mp hi
    rw [one i hi']
    have e1 : names.length + 1 - 1 - i = (names.length - 1 - i) + 1 := by omega
    dsimp only
    rw [e1, Nat.pow_succ', ← Nat.div_div_eq_div_mul]
    have e2 : (3 * k + v) / 3 = k := by omega
    rw [e2]
  · show [((.inr ((names ++ [c]).getD names.length (Str.ofString "")) : Key), V.int (((3 * k + v) / 3 ^ (names.length + 1 - 1 - names.length) % 3 : Nat)))] = _
    have e1 : names.length + 1 - 1 - names.length = 0 := by omega
    have e2 : (names ++ [c]).getD names.length (Str.ofString "") = c := getD_of (by
      rw [List.getElem?_append_right (Nat.le_refl _), Nat.sub_self]
      rfl)
    rw [e1, e2]
    have e3 : (3 * k + v) / 3 ^ 0 % 3 = v := by
      rw [Nat.pow_zero, Nat.div_one]
      omega
    rw [e3]
abbrev sNum : Stmt := topS 13
theorem scNum : FnScope ["names", "number", "state", "rest", "name"] ["names", "number"] (defScope sNum) := ⟨rfl, rfl, rfl, by decide +kernel, rfl, by decide +kernel, by decide +kernel⟩
def spNum (K : PySem.W.Frag) : Sp := fun vs H Q _ => ∃ (a : Addr) (names : List Str) (k : Nat), vs = [.ref a, .int k] ∧ SqL K H a (names.map V.str) ∧ names.Nodup ∧ names.length ≤ 6 ∧
  ∀ p H', Same H H' → H p = none → H' p = some (.dK (stOf names k)) → Q (.ref p) H'
/-- what holds of a list or a tuple -/
abbrev SqA (K : PySem.W.Frag) (H : Hp) (a : Addr) (xs : List V) : Prop := SqL K H a xs ∨ SqT K H a xs
theorem SqA.same {K : PySem.W.Frag} {H H' : Hp} {a : Addr} {xs : List V} (h : SqA K H a xs) (s : Same H H') : SqA K H' a xs := h.imp s.seq fun r => r.imp (fun r => r.imp (s _ _) fun ⟨o, e⟩ => ⟨o, s _ _ e⟩) id
def iSeqA (K : PySem.W.Frag) (tl : TE) : TI := fun σ H R => tl σ H fun x H1 => ∃ a, x = .ref a ∧ (((∃ xs, SqL K H1 a xs) ∧ R (Itl K a) H1) ∨ ((∃ xs, SqT K H1 a xs) ∧ R (Itt K a) H1))
theorem pi_seqA {X : Cx} {tg l : Expr} {tl : TE} (hl : PE X l tl) : PI X tg l (iSeqA X.K tl) := by
  refine ⟨fun pins s σ H R I h => ?_⟩
  refine thn (hl.run pins s σ H _ I h) fun v s1 ⟨x, H1, I1, r1, q1⟩ => ?_
  obtain ⟨a, e, q1⟩ := q1
  subst e
  cases r1
  rcases q1 with ⟨⟨xs, hq⟩, q⟩ | ⟨⟨xs, hq⟩, q⟩
  · obtain ⟨its, rv, p, hz⟩ := I1.list hq
    refine wpAny_pyIter_list p.isList ?_
    refine ⟨s1.heap.objs.size, [s1.heap.objs.size], _, _, H1, rfl, I1.kept (t' := s1.toks) fun b o e => Heap.get?_push_of_some _ e, turn_list a _, ⟨_, Heap.get?_push_size _ rfl, rfl, rfl⟩, fun b hb => ?_, q⟩
    have e : b = s1.heap.objs.size := by simpa using hb
    subst e
    exact I1.fpOk (Nat.le_refl _) (I1.hok.fresh (Nat.le_refl _))
  · obtain ⟨its, rv, p, hz⟩ := I1.tuple hq
    refine wpAny_pyIter_tuple (show s1.heap.IsTuple a its.toArray from p) ?_
    refine ⟨s1.heap.objs.size, [s1.heap.objs.size], _, _, H1, rfl, I1.kept (t' := s1.toks) fun b o e => Heap.get?_push_of_some _ e, turn_tuple a _, ⟨_, Heap.get?_push_size _ rfl, rfl, rfl⟩, fun b hb => ?_, q⟩
    have e : b = s1.heap.objs.size := by simpa using hb
    subst e
    exact I1.fpOk (Nat.le_refl _) (I1.hok.fresh (Nat.le_refl _))
section
variable {P : Program} {w : World} {K : PySem.W.Frag} {mg : Str → Option Value} {base : Heap}
theorem ok_num {f : Addr} {fd : FuncData} (F : Fun K "_state_numbered" "_state_numbered" sNum f fd) (M : Blt mg) (T : CellsTxt K mg) : FnOk P w K mg base CX0 1 f fd ["names", "number"] (spNum K) := by
  obtain ⟨aV, gV, sV⟩ := T.vals
  refine F.ok scNum (fun vs H Q E h => ?_) (fun cdv A outer s H vs Q E hr h => ?_)
  · obtain ⟨a, names, k, rfl, _⟩ := h
    rfl
  · obtain ⟨a, names, k, rfl, hS, nd, h6, q⟩ := h
    refine ⟨_, pss_cons (ps_setDc (i := 2) (own := [("name", 4)]) (g := gName 4) (tk := tVar 4) (tv := tC (.int 0)) (by rfl) scNum.nd rfl rfl (swd_true rfl rfl rfl (by decide +kernel)) (pi_list (pv 0)) (blkOk_by (own := [("name", 4)]) (N := ["names", "number", "state", "rest", "name"]) (sc := defScope sNum) (by decide +kernel))
          (fun _ _ _ _ _ => pg_name (i := 4) scNum.nd rfl (Or.inl rfl)) (fun _ _ _ _ _ => pts_nil) (fun _ _ _ _ _ => pv 4) (fun _ _ _ _ _ => pe_int))
      (pss_cons (ps_set (i := 3) scNum.nd rfl (.inl rfl) (pv 1))
      (pss_cons (ps_for PassesOwn.never rfl (pi_list (pe_revL (pv 0))) (pg_name (i := 4) scNum.nd rfl (.inl rfl))
        (pss_cons (ps_dput (hu_of hr) (pv 2) (pv 4) (pe_op op_mod (pv 3) (pe_callB call_len_seq (by rfl) M.len PySem.boot_len (pa_cons (pe_glob (v := .ref aV) (by rfl) gV rfl) pa_nil))) (by rfl))
        (pss_one (ps_set (i := 3) scNum.nd rfl (.inl rfl) (pe_op op_fdiv (pv 3) (pe_callB call_len_seq (by rfl) M.len PySem.boot_len (pa_cons (pe_glob (v := .ref aV) (by rfl) gV rfl) pa_nil)))))))
      (pss_one (ps_ret (pv 2))))), ?_⟩
    refine ⟨_, rfl, a, rfl, ⟨_, hS⟩, fun D hD => ?_⟩
    refine walk_gen (walk_list (K := K) (a := a) (xs := names.map V.str)) (fun i H' => Same H H' ∧ H' D = some (.dK (stKV (names.take i) fun _ => 0))) ⟨same_upd hD, upd_same⟩ (fun i H' _ p => p.1.seq hS) (fun i x H1 H2 hi p y => ?_) (fun H1 p => ?_)
    · obtain ⟨s1, e1⟩ := p
      obtain ⟨rfl, hx⟩ := y
      rw [List.getElem?_map] at hx
      obtain ⟨z, hz, rfl⟩ := Option.map_eq_some_iff.mp hx
      have hi' : i < names.length := (List.getElem?_eq_some_iff.mp hz).1
      refine And.intro rfl ?_
      unfold tYes
      refine iteT ?_
      refine ⟨_, rfl, _, .inr z, rfl, e1, ?_, fun b o e => ?_, ?_⟩
      · rw [stKV_len, List.length_take]
        exact Nat.lt_of_le_of_lt (show _ ≤ 6 by omega) (by decide)
      · rw [upd_ne (ne_of_none e hD)]
        exact s1 _ _ e
      · rw [upd_same, take_snoc hz]
        have none_ : valV (stKV (names.take i) fun _ => 0) (.inr z : Key) = none := by
          unfold valV
          rw [List.find?_eq_none.mpr]
          · rfl
          · intro kv hkv q
            have q1 := of_decide_eq_true q
            obtain ⟨j, hj⟩ := List.getElem?_of_mem hkv
            have hj1 : j < (names.take i).length := by
              have := (List.getElem?_eq_some_iff.mp hj).1
              rw [stKV_len] at this
              exact this
            have hj2 : j < i := by
              rw [List.length_take] at hj1
              omega
            have ej := List.getElem?_eq_getElem hj1
            rw [stKV_at ej] at hj
            cases hj
            have q2 : (names.take i)[j] = z := Sum.inr.inj q1
            rw [List.getElem_take] at q2
            have q3 : names[j]? = some z := by rw [List.getElem?_eq_getElem (by omega), q2]
            exact absurd (nodup_at nd q3 hz) (by omega)
        rw [putK_new _ none_]
        congr 2
        unfold stKV
        rw [List.length_append, List.length_singleton, List.range_succ, List.map_append]
        have lt : (names.take i).length = i := by
          rw [List.length_take]
          omega
        congr 1
        · refine List.map_congr_left fun j hj => ?_
          have hj' := List.mem_range.mp hj
          rw [List.getD_eq_getElem?_getD, List.getD_eq_getElem?_getD, List.getElem?_append_left hj']
        · rw [lt]
          show _ = [((.inr ((names.take i ++ [z]).getD i (Str.ofString "")) : Key), V.int ((0 : Nat) : Int))]
          rw [getD_of (x := z) (by rw [List.getElem?_append_right (by omega), lt, Nat.sub_self]; rfl)]
          rfl
    · obtain ⟨s1, e1⟩ := p
      rw [List.length_map, List.take_length] at e1
      refine ⟨_, rfl, ?_⟩
      refine ⟨_, rfl, a, _, rfl, s1.seq hS, fun r hr0 => ⟨r, rfl, ⟨_, .inl (.inl upd_same)⟩, ?_⟩⟩
      have e2 : upd H1 r (.lst (names.map V.str).reverse) D = some (.dK (stKV names fun _ => 0)) := by
        rw [upd_ne (ne_of_none e1 hr0)]
        exact e1
      have s2 := s1.trans (same_upd (o := .lst (names.map V.str).reverse) hr0)
      have er : upd H1 r (.lst (names.map V.str).reverse) r = some (.lst (names.map V.str).reverse) := upd_same
      have nDr : r ≠ D := fun e => by
        rw [e, e1] at hr0
        cases hr0
      have hrn : H r = none := by
        cases e : H r with
        | none => rfl
        | some o =>
          rw [s1 _ _ e] at hr0
          cases hr0
      generalize upd H1 r (.lst (names.map V.str).reverse) = H2 at e2 s2 er
      refine for_list (K := K) (a := r) (xs := (names.map V.str).reverse) (fun j σ H' => ∃ z, σ = [some (.ref a), some (.int k), some (.ref D), some (.int (k / 3 ^ j : Nat)), z] ∧ But D H2 H' ∧ H' D = some (.dK (stKV names fun i => if names.length - j ≤ i then k / 3 ^ (names.length - 1 - i) % 3 else 0)))
        ⟨_, by rw [Nat.pow_zero, Nat.div_one]; rfl, But.refl _ _, ?_⟩ (fun j σ H' _ p => ?_) (fun j x σ H' hx p => ?_) (fun σ H' p => ?_)
      · rw [e2]
        refine congrArg (fun l => some (HO.dK l)) (stKV_congr fun i hi => ?_)
        rw [if_neg (by omega)]
      · obtain ⟨_, _, b, _⟩ := p
        exact .inl (.inl (b _ _ er nDr))
      · obtain ⟨z0, rfl, b, ed⟩ := p
        have hj : j < names.length := by
          have := (List.getElem?_eq_some_iff.mp hx).1
          rw [List.length_reverse, List.length_map] at this
          exact this
        rw [← List.map_reverse, List.getElem?_map, List.getElem?_reverse hj] at hx
        obtain ⟨z, hz, rfl⟩ := Option.map_eq_some_iff.mp hx
        refine ⟨_, rfl, aV, _, rfl, .inr (sV _), _, _, rfl, rfl, (by show (0 : Int) < 3; decide), ?_⟩
        refine ⟨_, rfl, _, rfl, D, _, rfl, .inl ⟨_, .inr z, ed, rfl, (by rw [stKV_len]; exact Nat.lt_of_le_of_lt h6 (by decide)), rfl⟩, ?_⟩
        refine ⟨_, rfl, aV, _, rfl, .inr (sV _), _, _, rfl, rfl, ⟨by decide, by decide⟩, ?_⟩
        have m1 : ((k / 3 ^ j : Nat) : Int) % ((([V.int 0, V.int 1, V.int 2] : List V).length : Nat) : Int) = ((k / 3 ^ j % 3 : Nat) : Int) := by
          show ((k / 3 ^ j : Nat) : Int) % ((3 : Nat) : Int) = _
          exact (Int.natCast_emod _ _).symm
        have m2 : ((k / 3 ^ j : Nat) : Int) / ((([V.int 0, V.int 1, V.int 2] : List V).length : Nat) : Int) = ((k / 3 ^ (j + 1) : Nat) : Int) := by
          show ((k / 3 ^ j : Nat) : Int) / ((3 : Nat) : Int) = _
          rw [Nat.pow_succ, ← Nat.div_div_eq_div_mul]
          exact (Int.natCast_ediv _ _).symm
        dsimp only
        rw [m1, stKV_put nd hz]
        refine ⟨some (.str z), ?_, b.trans But.upd, ?_⟩
        · rw [m2]
          rfl
        · rw [upd_same]
          refine congrArg (fun l => some (HO.dK l)) (stKV_congr fun i hi => ?_)
          by_cases e : i = names.length - 1 - j
          · rw [if_pos e, if_pos (by omega), show names.length - 1 - i = j by omega]
          · rw [if_neg e]
            by_cases c : names.length - j ≤ i
            · rw [if_pos c, if_pos (by omega)]
            · rw [if_neg c, if_neg (by omega)]
      · obtain ⟨z0, rfl, b, ed⟩ := p
        refine ⟨_, rfl, q D H' (fun c o e => b _ _ (s2 _ _ e) (ne_of_none e hD)) hD ?_⟩
        rw [ed]
        refine congrArg (fun l => some (HO.dK l)) (stKV_congr fun i hi => ?_)
        rw [List.length_reverse, List.length_map, if_pos (by omega)]
end
/-! ### all states; what is no state -/
theorem Same.seqT {K : PySem.W.Frag} {H H' : Hp} {a : Addr} {xs : List V} (s : Same H H') (r : SqT K H a xs) : SqT K H' a xs := r.imp (fun r => r.imp (s _ _) fun ⟨o, e⟩ => ⟨o, s _ _ e⟩) id
/-- instances of cells stand in a row -/
def CellsOf (H : Hp) (C : Addr) (xs : List V) (ns ks : List Str) : Prop := xs.length = ns.length ∧ ks.length = ns.length ∧ ∀ (i : Nat) (v : V), xs[i]? = some v → ∃ b n k, v = V.ref b ∧ ns[i]? = some n ∧ ks[i]? = some k ∧ CellAt H C b n k
theorem CellsOf.same {H H' : Hp} {C : Addr} {xs : List V} {ns ks : List Str} (h : CellsOf H C xs ns ks) (s : Same H H') : CellsOf H' C xs ns ks := ⟨h.1, h.2.1, fun i v e => by
  obtain ⟨b, n, k, e1, e2, e3, c⟩ := h.2.2 i v e
  exact ⟨b, n, k, e1, e2, e3, c.same s⟩⟩
theorem CellsOf.but {H H' : Hp} {C p : Addr} {xs : List V} {ns ks : List Str} {zs : List V} (h : CellsOf H C xs ns ks) (ep : H p = some (.lst zs)) (s : But p H H') : CellsOf H' C xs ns ks := ⟨h.1, h.2.1, fun i v e => by
  obtain ⟨b, n, k, e1, e2, e3, c⟩ := h.2.2 i v e
  exact ⟨b, n, k, e1, e2, e3, c.but ep s⟩⟩
theorem range_strs (ns : List Str) : (List.range ns.length).map (fun i => V.str (ns.getD i (Str.ofString ""))) = ns.map V.str := by
  have e : ns.length = (ns.map V.str).length := (List.length_map ..).symm
  rw [e]
  refine range_get _ _ fun i x h => ?_
  rw [List.getElem?_map] at h
  obtain ⟨z, hz, rfl⟩ := Option.map_eq_some_iff.mp h
  rw [getD_of hz]
abbrev sStates : Stmt := topS 12
abbrev sCheck : Stmt := topS 14
theorem scStates : GScope ["cells", "names", "many", "_", "number", "cell"] ["cells"] (defScope sStates) := ⟨rfl, rfl, rfl, by decide +kernel, rfl, by decide +kernel, by decide +kernel⟩
theorem scCheck : FnScope ["cells", "state", "cell"] ["cells", "state"] (defScope sCheck) := ⟨rfl, rfl, rfl, by decide +kernel, rfl, by decide +kernel, by decide +kernel⟩
/-- states stand in a row -/
def StAll (H : Hp) (ns : List Str) (ys : List V) : Prop := ∀ (j : Nat) (v : V), ys[j]? = some v → ∃ p, v = V.ref p ∧ H p = some (.dK (stOf ns j))
theorem StAll.same {H H' : Hp} {ns : List Str} {ys : List V} (h : StAll H ns ys) (s : Same H H') : StAll H' ns ys := fun j v e => by
  obtain ⟨p, e1, e2⟩ := h j v e
  exact ⟨p, e1, s _ _ e2⟩
def spStates (K : PySem.W.Frag) (C : Addr) : SpG := fun vs H cont _ => ∃ (a : Addr) (xs : List V) (ns ks : List Str), vs = [.ref a] ∧ SqA K H a xs ∧ CellsOf H C xs ns ks ∧ ns.Nodup ∧ ns.length ≤ 6 ∧
  ∀ ys H', Same H H' → ys.length = 3 ^ ns.length → StAll H' ns ys → cont ys H'
def isValV : V → Bool
  | .int i => decide (0 ≤ i) && decide (i < 3)
  | _ => false
theorem isValV_of {K : PySem.W.Frag} {H : Hp} {v : V} {d : PyData} (h : Dp K H v d) : isValue d = isValV v := by
  cases h <;> rfl
def firstBad (kvs : List (Key × V)) : List Str → Option Str
  | [] => none
  | n :: r => match valV kvs (.inr n) with
    | some u => if isValV u = true then firstBad kvs r else some n
    | none => some n
def chkOut (ns : List Str) (kvs : List (Key × V)) : Option V := if kvs.length = ns.length then (firstBad kvs ns).map V.str else some .non
/-- the values of a dict are data -/
def DatK (K : PySem.W.Frag) (H : Hp) (kvs : List (Key × V)) : Prop := ∀ n u, valV kvs (.inr n) = some u → ∃ d, Dp K H u d ∧ szD d = true
theorem DatK.same {K : PySem.W.Frag} {H H' : Hp} {kvs : List (Key × V)} (h : DatK K H kvs) (s : Same H H') : DatK K H' kvs := fun n u e => by
  obtain ⟨d, hd, z⟩ := h n u e
  exact ⟨d, dp_same s hd, z⟩
abbrev SWish (H : Hp) (CS : Addr) (Q : VK) (E : XK) (o : Option V) : Prop := (∀ r, o = some r → ∀ H1 dd H', Same H H1 → Left H1 dd "name" r H' → E (.ref CS) (some dd) H') ∧ (o = none → ∀ H', Same H H' → Q .non H')
def spChk (K : PySem.W.Frag) (C CS : Addr) : Sp := fun vs H Q E => ∃ (a : Addr) (xs : List V) (ns ks : List Str) (v : V) (o : Option V), vs = [.ref a, v] ∧ SqL K H a xs ∧ CellsOf H C xs ns ks ∧ ns.length ≤ 6 ∧
  ((∃ d, Dp K H v d ∧ o = some .non) ∨ ∃ p kvs, v = .ref p ∧ H p = some (.dK kvs) ∧ DatK K H kvs ∧ o = chkOut ns kvs) ∧ SWish H CS Q E o
theorem kit_dict (K : PySem.W.Frag) {H : Hp} {v : V} {d : PyData} (h : Dp K H v d) : PySem.W.kitOne K (.type (kind d)) (.type "dict") = some false := by
  cases h with
  | non => exact kit_ty (show kitB "NoneType" "dict" = some false by decide +kernel)
  | bl b => exact kit_ty (show kitB "bool" "dict" = some false by decide +kernel)
  | int i => exact kit_ty (show kitB "int" "dict" = some false by decide +kernel)
  | str x => exact kit_ty (show kitB "str" "dict" = some false by decide +kernel)
  | lst _ _ => exact kit_ty (show kitB "list" "dict" = some false by decide +kernel)
  | tup _ _ => exact kit_ty (show kitB "tuple" "dict" = some false by decide +kernel)
section
variable {P : Program} {w : World} {K : PySem.W.Frag} {mg : Str → Option Value} {base : Heap}
theorem ok_states {C f fN : Addr} {fd fdN : FuncData} (F : Fun K "states_of" "states_of" sStates f fd) (M : Blt mg) (T : CellsTxt K mg) (TC : CelC K mg C)
    (GN : FnOk P w K mg base CX0 1 fN fdN ["names", "number"] (spNum K)) (kN : PySem.W.keepIn K (.ref fN) = true) (bN : Binds K fdN ["names", "number"] []) (gN : mg "_state_numbered" = some (.ref fN)) :
    GFn P w K mg base 2 f fd ["cells"] (spStates K C) := by
  obtain ⟨aV, gV, sV⟩ := T.vals
  obtain ⟨oc, od, kV, doc, pm, an, cdv, ct, osl, rfl, lk, hcd⟩ := F.ex
  refine gfn_of lk hcd scStates (fun vs H Q E h => ?_) (fun A outer s H vs Q E pn hr h => ?_)
  · obtain ⟨a, xs, ns, ks, rfl, _⟩ := h
    rfl
  · obtain ⟨a, xs, ns, ks, rfl, hS, hC, nd, h6, q⟩ := h
    refine ⟨_, gss_cons (gs_ps (ps_setLc (i := 1) (own := [("cell", 5)]) (g := gName 5) (tt := tYes) (te := tFld K (tVar 5) "name") (by rfl) scStates.nd rfl rfl (sw_true rfl rfl rfl (by decide +kernel)) (pi_seqA (pv 0)) (blkOk_by (own := [("cell", 5)]) (N := ["cells", "names", "many", "_", "number", "cell"]) (sc := defScope sStates) (by decide +kernel))
          (fun _ _ _ _ _ => pg_name (i := 5) scStates.nd rfl (Or.inl rfl)) (fun _ _ _ _ _ => pts_nil) (fun _ _ _ _ _ => pe_fld (pv 5) (by rfl))))
      (gss_cons (gs_ps (ps_set (i := 2) scStates.nd rfl (.inl rfl) pe_int))
      (gss_cons (gs_ps (ps_for owns_gcx rfl (pi_list (pv 1)) (pg_name (i := 3) scStates.nd rfl (.inl rfl))
        (pss_one (ps_set (i := 2) scStates.nd rfl (.inl rfl) (pe_op op_mul (pv 2) (pe_callB call_len_seq (by rfl) M.len PySem.boot_len (pa_cons (pe_glob (v := .ref aV) (by rfl) gV rfl) pa_nil)))))))
      (gss_cons (GfX.gs_for owns_gcx rfl (pi_range1 (by rfl) M.range (pa_cons (pv 2) pa_nil)) (pg_name (i := 4) scStates.nd rfl (.inl rfl))
        (gss_cons (gs_yield (pe_call GN hr (by rfl) gN kN bN .nil pass0 (pa_cons (pv 1) (pa_cons (pv 4) pa_nil)))) gss_nil)) gss_nil))), ?_⟩
    have comp : ∀ {J : It} {G : Hp → Prop} (w : Walk J xs.length G (YAt xs)) (hG : ∀ H', Same H H' → G H') (Qd : Hp → Prop) (D : Addr) (hD : H D = none)
        (hd : ∀ H', Same H H' → H' D = some (.lst (ns.map V.str)) → Qd H'),
        Turns J (upd H D (.lst [])) Qd (LcBody D (tFld K (tVar 5) "name") [5] 5 (start ["cells", "names", "many", "_", "number", "cell"] [.ref a])) := fun {J G} w hG Qd D hD hd => by
      refine lc_vals w (fun i => V.str (ns.getD i (Str.ofString ""))) (by rw [hC.1]; omega) hD (fun x => rfl) hG (fun i x H1 H2 hi s1 y => ?_) (fun H1 s1 e1 => hd H1 s1 ?_)
      · obtain ⟨rfl, hx⟩ := y
        obtain ⟨b, n, k, rfl, hn, hk, dx, fs, eb, ln, _⟩ := hC.2.2 i x hx
        refine ⟨Same.refl _, fun Q' hq => ⟨.ref b, rfl, b, C, dx, fs, .str n, rfl, s1 _ _ eb, TC.cl, TC.nn, ln, ?_⟩⟩
        have e1 : ns.getD i (Str.ofString "") = n := getD_of hn
        rw [e1] at hq
        exact hq _ (Same.refl _)
      · rw [e1, hC.1, range_strs]
    have m6 : 3 ^ ns.length ≤ 729 := Nat.pow_le_pow_right (n := 3) (by decide) h6
    obtain ⟨N, hN⟩ : ∃ N, 3 ^ ns.length = N := ⟨_, rfl⟩
    rw [hN] at m6 q
    refine ⟨_, rfl, a, rfl, ?_⟩
    rcases hS with hS | hS
    case' inl => refine .inl ⟨⟨_, hS⟩, fun D hD => ?_⟩; refine comp walk_list (fun H' s => s.seq hS) _ D hD fun H' s1 e1 => ?_
    case' inr => refine .inr ⟨⟨_, hS⟩, fun D hD => ?_⟩; refine comp walk_tup (fun H' s => Same.seqT s hS) _ D hD fun H' s1 e1 => ?_
    all_goals
      refine ⟨_, rfl, D, rfl, ⟨_, .inl (.inl e1)⟩, ?_⟩
      refine for_list (K := K) (a := D) (xs := ns.map V.str) (fun j σ H2 => ∃ z, σ = [some (.ref a), some (.ref D), some (.int (3 ^ j : Nat)), z, none, none] ∧ H2 = H') ⟨_, rfl, rfl⟩ (fun j σ H2 _ p => ?_) (fun j x σ H2 hx p => ?_) (fun σ H2 p => ?_)
      · obtain ⟨_, _, rfl⟩ := p
        exact .inl (.inl e1)
      · obtain ⟨z, rfl, rfl⟩ := p
        have hj : j < ns.length := by
          have := (List.getElem?_eq_some_iff.mp hx).1
          rw [List.length_map] at this
          exact this
        refine ⟨_, rfl, aV, _, rfl, .inr (sV _), _, _, rfl, rfl, .inr ⟨by decide, by decide⟩, ⟨some x, ?_, rfl⟩⟩
        have m1 : ((3 ^ j : Nat) : Int) * ((([V.int 0, V.int 1, V.int 2] : List V).length : Nat) : Int) = ((3 ^ (j + 1) : Nat) : Int) := by
          show ((3 ^ j : Nat) : Int) * ((3 : Nat) : Int) = _
          rw [Nat.pow_succ]
          exact (Int.natCast_mul _ _).symm
        dsimp only
        rw [m1]
        rfl
      · obtain ⟨z, rfl, rfl⟩ := p
        rw [List.length_map, hN]
        refine ⟨_, rfl, ((N : Nat) : Int), rfl, by omega, by omega, ?_⟩
        refine ⟨fun i m ys σ H3 => m = N - i ∧ i ≤ N ∧ Same H2 H3 ∧ ys.length = i ∧ StAll H3 ns ys ∧ ∃ z4, σ = [some (.ref a), some (.ref D), some (.int (N : Nat)), z, z4, none], ⟨_, rfl, Nat.zero_le _, Same.refl _, rfl, fun j v e => by simp at e, _, rfl⟩, ?_⟩
        rintro i m ys σ H3 ⟨rfl, hi, s3, hl, hst, z4, rfl⟩
        by_cases hlt : i < N
        · refine .inr ⟨by show i < ((N : Nat) : Int).toNat; omega, fun ys' σ' H5 => ys'.length = i + 1 ∧ Same H2 H5 ∧ StAll H5 ns ys' ∧ ∃ z4, σ' = [some (.ref a), some (.ref D), some (.int (N : Nat)), z, z4, none], fun _ _ _ ⟨q1, q2, q3, q4⟩ => ⟨_, (show N - (i + 1) < N - i by omega), rfl, hlt, q2, q1, q3, q4⟩, fun x H4 y => ?_⟩
          obtain ⟨rfl, rfl⟩ := y
          refine ⟨by rw [hl]; exact Nat.lt_of_le_of_lt (show i ≤ 729 by omega) (by decide), ?_⟩
          refine ⟨_, rfl, _, rfl, D, ns, i, ?_, s3.seq (.inl (.inl e1)), nd, h6, fun p H5 s5 np e5 => ?_⟩
          · show [V.ref D, V.int (0 + (i : Nat))] = _
            rw [Int.zero_add]
          · refine ⟨by rw [List.length_append, hl]; rfl, s3.trans s5, fun j v ej => ?_, _, rfl⟩
            by_cases hj : j < ys.length
            · rw [List.getElem?_append_left hj] at ej
              exact (hst.same s5) j v ej
            · have hj2 : j = ys.length := by
                have := (List.getElem?_eq_some_iff.mp ej).1
                rw [List.length_append] at this
                simp at this
                omega
              rw [hj2, List.getElem?_append_right (Nat.le_refl _), Nat.sub_self] at ej
              have e2 := Option.some.inj ej
              subst e2
              rw [hj2, hl]
              exact ⟨p, rfl, e5⟩
        · have e : i = N := by omega
          refine .inl ⟨by show ((N : Nat) : Int).toNat ≤ i; omega, q ys H3 (s1.trans s3) (by rw [hl, e]) hst⟩
theorem ok_check {C CS f fS fV : Addr} {fd fdS fdV : FuncData} (F : Fun K "check_state" "check_state" sCheck f fd) (M : Blt mg) (TC : CelC K mg C) (TE : ErrT K mg "BadState" "name" CS fS)
    (GS : FnOk P w K mg base CX0 1 fS fdS ["self", "name"] (spErr CS "name")) (bS : Binds K fdS ["self", "name"] [])
    (GV : FnOk P w K mg base CX0 2 fV fdV ["value"] (spB K isValue)) (kV : PySem.W.keepIn K (.ref fV) = true) (bV : Binds K fdV ["value"] []) (gV : mg "is_value" = some (.ref fV)) : FnOk P w K mg base (L2.CX P w) 3 f fd ["cells", "state"] (spChk K C CS) := by
  refine F.okX scCheck (fun vs H Q E h => ?_) (fun cdv A outer s H vs Q E hr h => ?_)
  · obtain ⟨a, xs, ns, ks, v, o, rfl, _⟩ := h
    rfl
  · obtain ⟨a, xs, ns, ks, v, o, rfl, hS, hC, h6, hv, out, good⟩ := h
    have hr1 : Room 2 (A.deeper (envOfC "check_state" (defScope sCheck) s.heap.objs.size f cdv)) := hr.mono (by decide)
    refine ⟨_, pss_cons (ps_if (PW.pt (pw_or (pt_not (pt_val (pe_callB call_isi (by rfl) M.isinstance (by decide +kernel) (pa_cons (pv 1) (pa_cons (pe_bltn (v := .ty "dict") (by rfl) M.dict (by decide +kernel) rfl) pa_nil)))))
        (pw_or1 (pt_cmpR op_ne (pe_callB call_lenD (by rfl) M.len PySem.boot_len (pa_cons (pv 1) pa_nil)) (pe_callB call_len_seq (by rfl) M.len PySem.boot_len (pa_cons (pv 0) pa_nil)) (nomark _)))))
        (pss_one (ps_raise rfl (takes_of rfl rfl rfl rfl) (pmk_oex (k := 1) (ps := ["self", "name"]) (sp := spErr CS "name") (ds := []) (dvs := []) TE.oex TE.ini TE.typ GS hr1 bS .nil pass0 (by rfl) TE.nam (pa_cons pe_non pa_nil)))) pss_nil)
      (pss_one (ps_for (passes_of rfl) rfl (pi_list (pv 0)) (pg_name (i := 2) scCheck.nd rfl (.inl rfl))
        (pss_one (ps_if (PW.pt (pw_or (pt_cmp (pc_dnotin (hu_of hr) (pe_fld (pv 2) (by rfl)) (pv 1)))
          (pw_or1 (pt_not (pt_val (pe_call GV hr1 (by rfl) gV kV bV .nil pass0 (pa_cons (pe_dget (hu_of hr) (pv 1) (pe_fld (pv 2) (by rfl)) (fun _ _ => rfl)) pa_nil)))))))
          (pss_one (ps_raise rfl (takes_of rfl rfl rfl rfl) (pmk_oex (k := 1) (ps := ["self", "name"]) (sp := spErr CS "name") (ds := []) (dvs := []) TE.oex TE.ini TE.typ GS hr1 bS .nil pass0 (by rfl) TE.nam (pa_cons (pe_fld (pv 2) (by rfl)) pa_nil)))) pss_nil)))), ?_⟩
    rcases hv with ⟨d, hd, rfl⟩ | ⟨p, kvs, rfl, ep, dat, rfl⟩
    · exact ⟨v, rfl, v, .ty "dict", _, _, _, rfl, .ty "dict", dp_ty hd, kit_dict K hd, _, rfl, iteT (iteT ⟨by show (1 : Nat) ≤ 1000; decide, mk_left fun dd H' l => out _ rfl H dd H' (Same.refl H) l⟩)⟩
    · refine ⟨.ref p, rfl, .ref p, .ty "dict", _, _, _, rfl, .ty "dict", .base (.dK ep), kit_ty (show kitB "dict" "dict" = some true by decide +kernel), _, rfl, iteF ?_⟩
      refine ⟨.ref p, rfl, p, kvs, rfl, ep, .ref a, rfl, a, _, rfl, .inl hS, rfl, _, rfl, ?_⟩
      by_cases hl : kvs.length = ns.length
      · have e1 : (!decide (V.int (kvs.length : Nat) = V.int (xs.length : Nat))) = false := by
          rw [hC.1, hl, decide_eq_true rfl]
          rfl
        rw [e1]
        refine iteF ?_
        have eo : chkOut ns kvs = (firstBad kvs ns).map V.str := by
          unfold chkOut
          rw [if_pos hl]
        rw [eo] at out good
        refine ⟨_, rfl, a, rfl, ⟨_, hS⟩, ?_⟩
        refine for_list (K := K) (a := a) (xs := xs) (fun j σ H2 => ∃ z, σ = [some (.ref a), some (.ref p), z] ∧ Same H H2 ∧ firstBad kvs ns = firstBad kvs (ns.drop j)) ⟨_, rfl, Same.refl _, rfl⟩ (fun j σ H2 _ p => ?_) (fun j x σ H2 hx p => ?_) (fun σ H2 p => ?_)
        · obtain ⟨_, _, s2, _⟩ := p
          exact s2.seq hS
        · obtain ⟨z, rfl, s2, ef⟩ := p
          obtain ⟨b, n, k, rfl, hn, hk, dx, fs, eb, ln, lk⟩ := hC.2.2 j x hx
          have ed : ns.drop j = n :: ns.drop (j + 1) := by
            obtain ⟨hj, e⟩ := List.getElem?_eq_some_iff.mp hn
            rw [List.drop_eq_getElem_cons hj, e]
          rw [ed] at ef
          have ep2 := s2 _ _ ep
          have eb2 := s2 _ _ eb
          refine ⟨.ref b, rfl, b, C, dx, fs, _, rfl, eb2, TC.cl, TC.nn, ln, .ref p, rfl, p, _, rfl, .inl ⟨kvs, .inr n, .inl ep2, rfl, rfl⟩, _, rfl, ?_⟩
          cases hval : valV kvs (.inr n : Key) with
          | none =>
            have e3 : firstBad kvs ns = some n := by
              rw [ef]
              unfold firstBad
              rw [hval]
            rw [e3] at out
            exact iteT ⟨.ref b, rfl, b, C, dx, fs, _, rfl, eb2, TC.cl, TC.nn, ln, by show (1 : Nat) ≤ 1000; decide, mk_left fun dd H' l => out _ rfl H2 dd H' s2 l⟩
          | some u =>
            refine iteF ?_
            obtain ⟨d, hd, zd⟩ := dat n u hval
            refine ⟨.ref p, rfl, .ref b, rfl, b, C, dx, fs, _, rfl, eb2, TC.cl, TC.nn, ln, p, u, rfl, .inl ⟨kvs, .inr n, .inl ep2, rfl, hval.symm⟩, u, d, rfl, dp_same s2 hd, zd, fun H3 s3 => ⟨_, rfl, ?_⟩⟩
            rw [isValV_of hd]
            cases hval2 : isValV u with
            | false =>
              have e3 : firstBad kvs ns = some n := by
                rw [ef]
                unfold firstBad
                rw [hval]
                dsimp only
                rw [hval2]
                rfl
              rw [e3] at out
              exact iteT ⟨.ref b, rfl, b, C, dx, fs, _, rfl, s3 _ _ eb2, TC.cl, TC.nn, ln, by show (1 : Nat) ≤ 1000; decide, mk_left fun dd H' l => out _ rfl H3 dd H' (s2.trans s3) l⟩
            | true =>
              refine iteF ⟨_, rfl, s2.trans s3, ?_⟩
              rw [ef]
              conv => lhs; unfold firstBad
              rw [hval]
              dsimp only
              rw [hval2]
              rfl
        · obtain ⟨z, rfl, s2, ef⟩ := p
          rw [hC.1, List.drop_length] at ef
          rw [ef] at good
          exact good rfl H2 s2
      · have e1 : (!decide (V.int (kvs.length : Nat) = V.int (xs.length : Nat))) = true := by
          rw [hC.1, decide_eq_false (fun z => hl (by have := V.int.inj z; omega))]
          rfl
        rw [e1]
        have eo : chkOut ns kvs = some .non := by
          unfold chkOut
          rw [if_neg hl]
        rw [eo] at out
        exact iteT ⟨by show (1 : Nat) ≤ 1000; decide, mk_left fun dd H' l => out _ rfl H dd H' (Same.refl H) l⟩
end
/-! ### the law's names -/
abbrev sLNames : Stmt := topS 19
theorem scLNames : FnScope ["_law_pool_here", "_law_count", "_law_signs", "_law_origin", "_law_step", "_law_ends", "_law_head", "_law_tail", "_law_k"] ["_law_pool_here", "_law_count"] (defScope sLNames) := ⟨rfl, rfl, rfl, by decide +kernel, rfl, by decide +kernel, by decide +kernel⟩
theorem low_at : ∀ i : Nat, i < 26 → ∃ c, (Str.ofString "abcdefghijklmnopqrstuvwxyz").cps.toList[i]? = some c ∧ lowCode c = true ∧ c = 97 + i := by
  have h : ∀ i : Nat, i < 26 → ((Str.ofString "abcdefghijklmnopqrstuvwxyz").cps.toList[i]?).any (fun c => lowCode c && decide (c = 97 + i)) = true := by decide +kernel
  intro i hi
  have h1 := h i hi
  cases e : (Str.ofString "abcdefghijklmnopqrstuvwxyz").cps.toList[i]? with
  | none =>
    rw [e] at h1
    cases h1
  | some c =>
    rw [e] at h1
    have h2 : (lowCode c && decide (c = 97 + i)) = true := h1
    rw [Bool.and_eq_true] at h2
    exact ⟨c, rfl, h2.1, of_decide_eq_true h2.2⟩
theorem name_of {h t : Str} {c : Nat} (hh : h.cps.toList.all lowCode = true) (ht : t.cps.toList.all lowCode = true) (hc : lowCode c = true) (hl : h.length + t.length ≤ 7) : isName (.str (h ++ ⟨#[c]⟩ ++ t)) = true := by
  have e1 : (h ++ (⟨#[c]⟩ : Str) ++ t).cps = h.cps ++ #[c] ++ t.cps := rfl
  have e2 : (h ++ (⟨#[c]⟩ : Str) ++ t).length = h.length + 1 + t.length := by
    show (h ++ (⟨#[c]⟩ : Str) ++ t).cps.size = h.cps.size + 1 + t.cps.size
    rw [e1, Array.size_append, Array.size_append]
    rfl
  show (decide (1 ≤ ((h ++ (⟨#[c]⟩ : Str) ++ t).length : Int)) && decide (((h ++ (⟨#[c]⟩ : Str) ++ t).length : Int) ≤ 8) && (h ++ (⟨#[c]⟩ : Str) ++ t).cps.toList.all lowCode) = true
  rw [e2, decide_eq_true (by omega), decide_eq_true (by omega), e1, Array.toList_append, Array.toList_append, List.all_append, List.all_append, hh, ht]
  show (true && true && (true && (lowCode c && true) && true)) = true
  rw [hc]
  rfl
theorem but_sameN {p : Addr} {H H1 H2 : Hp} (b : But p H H1) (s : Same H1 H2) : But p H H2 := b.trans (But.of s)
theorem dpT {K : PySem.W.Frag} {H : Hp} {t : Addr} {xs : List V} {ds : List PyData} (n : H t = none) (h : DpAll K H xs ds) : Dp K (upd H t (.tup xs)) (.ref t) (.tuple ds) := .tup (.inl (.inl upd_same)) (dpA_same (same_upd n) h)
theorem sign_inj {h tl : Str} {c d : Nat} (e : h ++ (⟨#[c]⟩ : Str) ++ tl = h ++ (⟨#[d]⟩ : Str) ++ tl) : c = d := by
  have e1 : (h.cps ++ #[c] ++ tl.cps) = (h.cps ++ #[d] ++ tl.cps) := congrArg Str.cps e
  have e2 := congrArg Array.toList e1
  rw [Array.toList_append, Array.toList_append, Array.toList_append, Array.toList_append] at e2
  have e3 := List.append_cancel_left (List.append_cancel_right e2)
  exact (List.cons.inj e3).1
theorem signs_nodup {h tl : Str} {o z : Int} (z0 : 0 ≤ z) (z1 : z < 6) {zs : List Str} (hl : zs.length ≤ 8) (hs : ∀ (m : Nat) (u : Str), zs[m]? = some u → u = h ++ (⟨#[97 + ((o + (1 + 2 * z) * (m : Int)) % 26).toNat]⟩ : Str) ++ tl) : zs.Nodup := by
  refine List.pairwise_iff_getElem.mpr fun i j hi hj lt e => ?_
  have e1 := hs i _ (List.getElem?_eq_getElem hi)
  have e2 := hs j _ (List.getElem?_eq_getElem hj)
  rw [e1, e2] at e
  have e3 := sign_inj e
  rcases (show z = 0 ∨ z = 1 ∨ z = 2 ∨ z = 3 ∨ z = 4 ∨ z = 5 by omega) with q | q | q | q | q | q <;> subst q <;> omega
def spLNames (K : PySem.W.Frag) : Sp := fun vs H Q _ => ∃ (p : Addr) (cn : Nat), vs = [.ref p, .int cn] ∧ cn ≤ 8 ∧ PoolAt H p ∧ ∀ (r : Addr) (zs : List Str) H', But p H H' → PoolAt H' p → H' r = some (.lst (zs.map V.str)) → zs.length = cn → (∀ z ∈ zs, isName (.str z) = true) → zs.Nodup → Q (.ref r) H'
def endsD : List PyData := [.tuple [.str "", .str ""], .tuple [.str "", .str "q"], .tuple [.str "ab", .str ""], .tuple [.str "abcdefg", .str ""], .tuple [.str "", .str "abcdefg"]]
theorem ends_are : ∀ {i : Nat} {d : PyData}, endsD[i]? = some d → ∃ h t : Str, d = .tuple [.str h, .str t] ∧ h.cps.toList.all lowCode = true ∧ t.cps.toList.all lowCode = true ∧ h.length + t.length ≤ 7
  | 0, _, e => ⟨_, _, (Option.some.inj e).symm, by decide +kernel, by decide +kernel, by decide +kernel⟩
  | 1, _, e => ⟨_, _, (Option.some.inj e).symm, by decide +kernel, by decide +kernel, by decide +kernel⟩
  | 2, _, e => ⟨_, _, (Option.some.inj e).symm, by decide +kernel, by decide +kernel, by decide +kernel⟩
  | 3, _, e => ⟨_, _, (Option.some.inj e).symm, by decide +kernel, by decide +kernel, by decide +kernel⟩
  | 4, _, e => ⟨_, _, (Option.some.inj e).symm, by decide +kernel, by decide +kernel, by decide +kernel⟩
  | n + 5, _, e => nomatch e
section
variable {P : Program} {w : World} {K : PySem.W.Frag} {mg : Str → Option Value} {base : Heap}
theorem ok_lnames {f fD fP : Addr} {fd dD dP : FuncData} (F : Fun K "_law_names" "_law_names" sLNames f fd) (M : Blt mg)
    (FD : Fun K "_law_draw" "_law_draw" sDraw fD dD) (bD : Binds K dD ["_law_pool_here", "_law_many"] []) (gD : mg "_law_draw" = some (.ref fD))
    (FP : Fun K "_law_pick" "_law_pick" sPick fP dP) (bP : Binds K dP ["_law_pool_here", "_law_row"] []) (gP : mg "_law_pick" = some (.ref fP)) :
    FnOk P w K mg base CX0 3 f fd ["_law_pool_here", "_law_count"] (spLNames K) := by
  have GD : FnOk P w K mg base CX0 1 fD dD ["_law_pool_here", "_law_many"] spDraw := ok_draw FD M
  have GP : FnOk P w K mg base CX0 2 fP dP ["_law_pool_here", "_law_row"] (spPick K) := ok_pick FP M FD bD gD
  refine F.ok scLNames (fun vs H Q E h => ?_) (fun cdv A outer s H vs Q E hr h => ?_)
  · obtain ⟨p, cn, rfl, _⟩ := h
    rfl
  · obtain ⟨p, cn, rfl, hc8, hp, q⟩ := h
    have hr1 : Room 1 _ := hr.mono (by omega)
    refine ⟨_, pss_cons (ps_set (i := 2) scLNames.nd rfl (.inr rfl) pe_str)
      (pss_cons (ps_asg (pe_tup (pa_cons (pe_call GD hr1 (by rfl) gD FD.kp bD .nil pass0 (pa_cons (pv 0) (pa_cons pe_int pa_nil)))
          (pa_cons (pe_op op_add pe_int (pe_op op_mul pe_int (pe_call GD hr1 (by rfl) gD FD.kp bD .nil pass0 (pa_cons (pv 0) (pa_cons pe_int pa_nil))))) pa_nil)))
          (pg_tup (by rfl) (pgs_cons (pg_name (i := 3) scLNames.nd rfl (.inr rfl)) (pgs_cons (pg_name (i := 4) scLNames.nd rfl (.inr rfl)) pgs_nil))))
      (pss_cons (ps_set (i := 5) scLNames.nd rfl (.inl rfl) (pe_lst (pa_cons (pe_tup (pa_cons pe_str (pa_cons pe_str pa_nil))) (pa_cons (pe_tup (pa_cons pe_str (pa_cons pe_str pa_nil))) (pa_cons (pe_tup (pa_cons pe_str (pa_cons pe_str pa_nil)))
          (pa_cons (pe_tup (pa_cons pe_str (pa_cons pe_str pa_nil))) (pa_cons (pe_tup (pa_cons pe_str (pa_cons pe_str pa_nil))) pa_nil)))))))
      (pss_cons (ps_asg (pe_call GP hr (by rfl) gP FP.kp bP .nil pass0 (pa_cons (pv 0) (pa_cons (pv 5) pa_nil)))
          (pg_tup (by rfl) (pgs_cons (pg_name (i := 6) scLNames.nd rfl (.inr rfl)) (pgs_cons (pg_name (i := 7) scLNames.nd rfl (.inr rfl)) pgs_nil))))
      (pss_one (ps_ret (pe_lc (own := [("_law_k", 8)]) (g := gName 8) (by rfl) scLNames.nd (pi_range1 (by rfl) M.range (pa_cons (pv 1) pa_nil)) (blkOk_by (own := [("_law_k", 8)]) (N := ["_law_pool_here", "_law_count", "_law_signs", "_law_origin", "_law_step", "_law_ends", "_law_head", "_law_tail", "_law_k"]) (sc := defScope sLNames) (by decide +kernel))
          (fun _ _ _ _ _ => pg_name (i := 8) scLNames.nd rfl (Or.inl rfl)) (fun _ _ _ _ _ => pts_nil)
          (fun _ _ _ _ _ => pe_op op_add_str (pe_op op_add_str (pv 6) (pe_ix ix_str (pv 2) (pe_op op_mod (pe_callTy call_int1 (by rfl) M.int (by decide +kernel) (pa_cons (pe_op op_add (pv 3) (pe_op op_mul (pv 4) (pv 8))) pa_nil)) pe_int) (fun _ _ => rfl))) (pv 7)))))))), ?_⟩
    refine q_c (i := 2) (v := .str "abcdefghijklmnopqrstuvwxyz") ?_
    dsimp only [List.set]
    refine ⟨.ref p, rfl, p, 26, rfl, hp, by omega, by omega, fun o H1 o0 o1 b1 hp1 fr1 => ?_⟩
    refine ⟨.ref p, rfl, p, 6, rfl, hp1, by omega, by omega, fun z H2 z0 z1 b2 hp2 fr2 => ?_⟩
    refine ⟨_, _, rfl, rfl, .inl ⟨by decide, by decide⟩, _, _, rfl, rfl, (by show 2 ≤ sizeLine; decide), fun t nt => ?_⟩
    refine ⟨t, _, rfl, .inl (.inl upd_same), rfl, _, _, rfl, _, _, rfl, rfl, ?_⟩
    have st : Same H2 (upd H2 t (.tup [.int o, .int (1 + 2 * z)])) := same_upd nt
    have b3 := but_sameN (b1.trans b2) st
    have hp3 := hp2.same st
    generalize upd H2 t (.tup [.int o, .int (1 + 2 * z)]) = H3 at b3 hp3
    refine ⟨(by show 2 ≤ sizeLine; decide), fun t1 m1 => ⟨(by show 2 ≤ sizeLine; decide), fun t2 m2 => ⟨(by show 2 ≤ sizeLine; decide), fun t3 m3 => ⟨(by show 2 ≤ sizeLine; decide), fun t4 m4 => ⟨(by show 2 ≤ sizeLine; decide), fun t5 m5 => ⟨(by show 5 ≤ sizeLine; decide), fun l ml => ?_⟩⟩⟩⟩⟩⟩
    have k2 := same_upd (o := .tup [.str "", .str "q"]) m2
    have k3 := same_upd (o := .tup [.str "ab", .str ""]) m3
    have k4 := same_upd (o := .tup [.str "abcdefg", .str ""]) m4
    have k5 := same_upd (o := .tup [.str "", .str "abcdefg"]) m5
    have k1 := same_upd (o := .tup [.str "", .str ""]) m1
    have kl := same_upd (o := .lst [.ref t1, .ref t2, .ref t3, .ref t4, .ref t5]) ml
    have two : ∀ (H : Hp) (a b : Str), DpAll K H [.str a, .str b] [.str a, .str b] := fun H a b => .cons (.str a) (.cons (.str b) .nil)
    have hA : DpAll K _ [.ref t1, .ref t2, .ref t3, .ref t4, .ref t5] endsD := dpA_same kl (.cons (dp_same (k2.trans (k3.trans (k4.trans k5))) (dpT m1 (two _ _ _))) (.cons (dp_same (k3.trans (k4.trans k5)) (dpT m2 (two _ _ _))) (.cons (dp_same (k4.trans k5) (dpT m3 (two _ _ _))) (.cons (dp_same k5 (dpT m4 (two _ _ _))) (.cons (dpT m5 (two _ _ _)) .nil)))))
    have s4 := k1.trans (k2.trans (k3.trans (k4.trans (k5.trans kl))))
    have el : (upd (upd (upd (upd (upd (upd H3 t1 (.tup [.str "", .str ""])) t2 (.tup [.str "", .str "q"])) t3 (.tup [.str "ab", .str ""])) t4 (.tup [.str "abcdefg", .str ""])) t5 (.tup [.str "", .str "abcdefg"])) l (.lst [.ref t1, .ref t2, .ref t3, .ref t4, .ref t5])) l = some (.lst [.ref t1, .ref t2, .ref t3, .ref t4, .ref t5]) := upd_same
    have npl : p ≠ l := (((((hp3.upd m1).upd m2).upd m3).upd m4).upd m5).ne ml
    generalize upd (upd (upd (upd (upd (upd H3 t1 (.tup [.str "", .str ""])) t2 (.tup [.str "", .str "q"])) t3 (.tup [.str "ab", .str ""])) t4 (.tup [.str "abcdefg", .str ""])) t5 (.tup [.str "", .str "abcdefg"])) l (.lst [.ref t1, .ref t2, .ref t3, .ref t4, .ref t5]) = H4 at hA s4 el
    have b4 := but_sameN b3 s4
    have hp4 := hp3.same s4
    refine ⟨.ref p, rfl, .ref l, rfl, p, l, _, rfl, hp4, npl, .inl (.inl (.inl el)), Nat.le_of_ble_eq_true rfl, Nat.le_of_ble_eq_true rfl, fun i hi H5 b5 hp5 fr5 => ?_⟩
    obtain ⟨de, hde, dv⟩ := dpA_at hA (List.getElem?_eq_getElem hi)
    obtain ⟨h, tl, rfl, lowh, lowt, hlen⟩ := ends_are hde
    generalize [V.ref t1, .ref t2, .ref t3, .ref t4, .ref t5][i] = vv at dv
    cases dv with
    | @tup a ys _ hs ha =>
      cases ha with
      | cons h1 h2 =>
        cases h1
        cases h2 with
        | cons h3 h4 =>
          cases h3
          cases h4
          obtain ⟨px, py, pe, _⟩ := hp4
          refine ⟨a, _, rfl, but_sqT pe b5 hs, rfl, _, _, rfl, _, _, rfl, rfl, ?_⟩
          refine ⟨_, rfl, (cn : Int), rfl, by omega, by omega, fun D hD => ?_⟩
          refine walk_gen (walk_range (lo := 0) (n := (cn : Int).toNat)) (fun i H' => Same H5 H' ∧ ∃ zs : List Str, H' D = some (.lst (zs.map V.str)) ∧ zs.length = i ∧ (∀ z ∈ zs, isName (.str z) = true) ∧ ∀ (m : Nat) (u : Str), zs[m]? = some u → u = h ++ (⟨#[97 + ((o + (1 + 2 * z) * (m : Int)) % 26).toNat]⟩ : Str) ++ tl) ⟨same_upd hD, [], upd_same, rfl, (fun z h => by cases h), fun m u e => by simp at e⟩ (fun _ _ _ _ => True.intro) (fun i' x H6 H7 hi' pv' y => ?_) (fun H' pv' => ?_)
          · obtain ⟨s6, zs, e6, l6, a6, f6⟩ := pv'
            obtain ⟨rfl, rfl⟩ := y
            refine And.intro rfl ?_
            unfold tYes
            refine iteT ?_
            generalize hv : (o + (1 + 2 * z) * (0 + (i' : Int))) = vv
            have h1 := Int.emod_lt_of_pos vv (show (0 : Int) < 26 by decide)
            have h2 := Int.emod_nonneg vv (show (26 : Int) ≠ 0 by decide)
            obtain ⟨c, hc, lc, c97⟩ := low_at (vv % 26).toNat (by omega)
            have hat : atI (Str.ofString "abcdefghijklmnopqrstuvwxyz").cps.toList (vv % 26) = some c := by
              unfold atI ixN
              rw [if_pos h2, if_pos (show vv % 26 < (((Str.ofString "abcdefghijklmnopqrstuvwxyz").cps.toList.length : Nat) : Int) from h1)]
              exact hc
            refine ⟨_, rfl, _, rfl, _, rfl, _, rfl, _, rfl, _, _, rfl, rfl, .inl ⟨by omega, by omega⟩, _, _, rfl, rfl, .inl ⟨_, rfl, _, _, rfl, rfl, (by show (0 : Int) < 26; decide), ?_⟩⟩
            rw [hv]
            have hl1 : h.length + (⟨#[c]⟩ : Str).length ≤ sizeLine := Nat.le_trans (show h.length + 1 ≤ 8 by omega) (by decide)
            have hl2 : (h ++ (⟨#[c]⟩ : Str)).length + tl.length ≤ sizeLine := by
              have e2 : (h ++ (⟨#[c]⟩ : Str)).length = h.length + 1 := by
                show (h.cps ++ #[c]).size = h.cps.size + 1
                rw [Array.size_append]
                rfl
              rw [e2]
              exact Nat.le_trans (show h.length + 1 + tl.length ≤ 8 by omega) (by decide)
            refine ⟨_, _, c, rfl, rfl, (by decide +kernel), hat, _, _, rfl, rfl, hl1, _, rfl, _, _, rfl, rfl, hl2, zs.map V.str, e6, ?_, fun b o' e' => ?_, zs ++ [h ++ (⟨#[c]⟩ : Str) ++ tl], ?_, ?_, (fun u hu => ?_), fun m u em => ?_⟩
            · rw [List.length_map, l6]
              exact Nat.lt_of_le_of_lt (show i' ≤ 8 by omega) (by decide)
            · rw [upd_ne (ne_of_none e' hD)]
              exact s6 _ _ e'
            · rw [upd_same, List.map_append]
              rfl
            · rw [List.length_append, l6]
              rfl
            · rcases List.mem_append.mp hu with hu | hu
              · exact a6 u hu
              · rw [List.mem_singleton.mp hu]
                exact name_of lowh lowt lc hlen
            · by_cases hm : m < zs.length
              · rw [List.getElem?_append_left hm] at em
                exact f6 m u em
              · have hm2 : m = zs.length := by
                  have := (List.getElem?_eq_some_iff.mp em).1
                  rw [List.length_append] at this
                  simp at this
                  omega
                rw [hm2, List.getElem?_append_right (Nat.le_refl _), Nat.sub_self] at em
                have e2 := Option.some.inj em
                subst e2
                rw [hm2, l6, c97]
                rw [Int.zero_add] at hv
                rw [hv]
          · obtain ⟨s6, zs, e6, l6, a6, f6⟩ := pv'
            exact q D zs H' (but_sameN (b4.trans b5) s6) (hp5.same s6) e6 (by rw [l6]; rfl) a6 (signs_nodup z0 z1 (by omega) f6)
end
/-! ### the law's own defs -/
theorem stKV_none {names : List Str} (nd : names.Nodup) {i : Nat} {z : Str} (hz : names[i]? = some z) (f : Nat → Nat) : valV (stKV (names.take i) f) (.inr z : Key) = none := by
  unfold valV
  rw [List.find?_eq_none.mpr]
  · rfl
  · intro kv hkv q
    have q1 := of_decide_eq_true q
    obtain ⟨j, hj⟩ := List.getElem?_of_mem hkv
    have hj1 : j < (names.take i).length := by
      have := (List.getElem?_eq_some_iff.mp hj).1
      rw [stKV_len] at this
      exact this
    have hj2 : j < i := by
      rw [List.length_take] at hj1
      omega
    have ej := List.getElem?_eq_getElem hj1
    rw [stKV_at ej] at hj
    cases hj
    have q2 : (names.take i)[j] = z := Sum.inr.inj q1
    rw [List.getElem_take] at q2
    have hil := (List.getElem?_eq_some_iff.mp hz).1
    have q3 : names[j]? = some z := by rw [List.getElem?_eq_getElem (by omega), q2]
    exact absurd (nodup_at nd q3 hz) (by omega)
abbrev sLSt : Stmt := topS 20
abbrev sLRef : Stmt := topS 21
abbrev sLChk : Stmt := topS 22
theorem scLSt : FnScope ["_law_cells", "_law_found", "_law_cell", "_law_later", "_law_state", "_law_value", "_law_more"] ["_law_cells"] (defScope sLSt) := ⟨rfl, rfl, rfl, by decide +kernel, rfl, by decide +kernel, by decide +kernel⟩
theorem scLRef : FnScope ["_law_name", "_law_kind", "e"] ["_law_name", "_law_kind"] (defScope sLRef) := ⟨rfl, rfl, rfl, by decide +kernel, rfl, by decide +kernel, by decide +kernel⟩
theorem scLChk : FnScope ["_law_cells", "_law_state", "e"] ["_law_cells", "_law_state"] (defScope sLChk) := ⟨rfl, rfl, rfl, by decide +kernel, rfl, by decide +kernel, by decide +kernel⟩
def spLSt (K : PySem.W.Frag) : Sp := fun vs H Q _ => ∃ (a : Addr) (ns : List Str), vs = [.ref a] ∧ SqL K H a (ns.map V.str) ∧ ns.Nodup ∧ ns.length ≤ 6 ∧
  ∀ p ys H', Same H H' → H' p = some (.lst ys) → H p = none → ys.length = 3 ^ ns.length → StAll H' ns ys → Q (.ref p) H'
/-- what is asked of a caught error: its attribute f -/
structure ErrQ (K : PySem.W.Frag) (mg : Str → Option Value) (x f : Str) (CE : Addr) : Prop where
  gC : mg x = some (.ref CE)
  xf : XfC K CE
  no : PySem.W.findIn K (.ref CE) f = some none
  ex : PySem.W.exmOne K (.ref CE) (.ref CE) = some true
def spLRef (K : PySem.W.Frag) : Sp := fun vs H Q _ => ∃ v u d e z, vs = [v, u] ∧ Dp K H v d ∧ Dp K H u e ∧ szD d = true ∧ cellOut d e = some z ∧ ∀ H', Same H H' → Q (.str z) H'
def spLChk (K : PySem.W.Frag) (C : Addr) : Sp := fun vs H Q _ => ∃ (a : Addr) (xs : List V) (ns ks : List Str) (v : V) (o : Option V), vs = [.ref a, v] ∧ SqL K H a xs ∧ CellsOf H C xs ns ks ∧ ns.length ≤ 6 ∧
  ((∃ d, Dp K H v d ∧ o = some .non) ∨ ∃ p kvs, v = .ref p ∧ H p = some (.dK kvs) ∧ DatK K H kvs ∧ o = chkOut ns kvs) ∧ (∀ r, o = some r → ∀ H', Same H H' → Q r H') ∧ (o = none → ∀ p H', Same H H' → H' p = some (.lst [.bl true]) → Q (.ref p) H')
theorem StAll.but {H H' : Hp} {ns : List Str} {ys zs : List V} {G : Addr} (h : StAll H ns ys) (e : H G = some (.lst zs)) (b : But G H H') : StAll H' ns ys := fun j v ej => by
  obtain ⟨p, e1, e2⟩ := h j v ej
  exact ⟨p, e1, b _ _ e2 (fun q => by rw [q, e] at e2; cases e2)⟩
theorem StAll.snoc {H : Hp} {ns : List Str} {ys : List V} {q : Addr} (h : StAll H ns ys) (e : H q = some (.dK (stOf ns ys.length))) : StAll H ns (ys ++ [.ref q]) := fun j v ej => by
  by_cases hj : j < ys.length
  · rw [List.getElem?_append_left hj] at ej
    exact h j v ej
  · have hj2 : j = ys.length := by
      have := (List.getElem?_eq_some_iff.mp ej).1
      rw [List.length_append] at this
      simp at this
      omega
    rw [hj2, List.getElem?_append_right (Nat.le_refl _), Nat.sub_self] at ej
    have e2 := Option.some.inj ej
    subst e2
    rw [hj2]
    exact ⟨q, rfl, e⟩
section
variable {P : Program} {w : World} {K : PySem.W.Frag} {mg : Str → Option Value} {base : Heap}
theorem ok_lref {C CP f fC : Addr} {fd fdC : FuncData} (F : Fun K "_law_refused" "_law_refused" sLRef f fd) (mk : Mk K C fC) (ok : FnOk P w K mg base (L2.CX P w) 3 fC fdC ["self", "name", "kind"] (spCell K C CP)) (bC : Binds K fdC ["self", "name", "kind"] []) (gC : mg "Cell" = some (.ref C)) (B : ErrQ K mg "BadPart" "part" CP) :
    FnOk P w K mg base CX0 5 f fd ["_law_name", "_law_kind"] (spLRef K) := by
  refine F.ok scLRef (fun vs H Q E h => ?_) (fun cdv A outer s H vs Q E hr h => ?_)
  · obtain ⟨v, u, d, e, z, rfl, _⟩ := h
    rfl
  · obtain ⟨v, u, d, e, z, rfl, hv, hu, hz, ho, q⟩ := h
    refine ⟨_, pss_cons (ps_try_as (i := 2) (tb := fun W => tDrop (tMakeS C (spCell K C CP) (WE W) (tCons (tVar 0) (tCons (tVar 1) tNil)))) (Wout := fun _ _ _ _ => False) rfl rfl scLRef.nd rfl rfl ⟨rfl, by decide, Or.inl B.gC⟩ takes0
        (fun W pn xe tk _ => pss_one (ps_expr (pe_makeS mk ok hr (by rfl) gC bC (fun σ => passAt tk σ) (pa_cons (pv 0) (pa_cons (pv 1) pa_nil)))))
        (fun a oe cls d pn hz hf => pss_one (ps_ret (pe_xf B.xf B.no hz hf (pv 2)))))
      (pss_one (ps_ret pe_non)), ?_⟩
    have s1 : ∀ x dx, H x = none → H dx = none → dx ≠ x → Same H (upd (upd H dx (.own x)) x (.ins C dx [])) := fun x dx nx nd ne b o e => by
      rw [upd_ne (ne_of_none e nx), upd_ne (ne_of_none e nd)]
      exact e
    refine ⟨v, rfl, u, rfl, fun x dx nx nd ne => ⟨x, dx, v, u, d, e, rfl, upd_same, dp_same (s1 x dx nx nd ne) hv, dp_same (s1 x dx nx nd ne) hu, hz, .inl ⟨z, ho, fun H1 dd H' s2 left => ?_⟩⟩⟩
    obtain ⟨nd0, s3, ed⟩ := left
    refine ⟨true, B.ex, fun _ a na => ?_, fun z => Bool.noConfusion z⟩
    exact ⟨.ref a, rfl, rfl, rfl, dd, _, .str z, rfl, ed, rfl, q H' ((s1 x dx nx nd ne).trans (s2.trans s3))⟩
theorem ok_lchk {C CS f fC : Addr} {fd fdC : FuncData} (F : Fun K "_law_checked" "_law_checked" sLChk f fd) (ok : FnOk P w K mg base (L2.CX P w) 3 fC fdC ["cells", "state"] (spChk K C CS)) (kC : PySem.W.keepIn K (.ref fC) = true) (bC : Binds K fdC ["cells", "state"] []) (gC : mg "check_state" = some (.ref fC)) (B : ErrQ K mg "BadState" "name" CS) :
    FnOk P w K mg base CX0 5 f fd ["_law_cells", "_law_state"] (spLChk K C) := by
  refine F.ok scLChk (fun vs H Q E h => ?_) (fun cdv A outer s H vs Q E hr h => ?_)
  · obtain ⟨a, xs, ns, ks, v, o, rfl, _⟩ := h
    rfl
  · obtain ⟨a, xs, ns, ks, v, o, rfl, hS, hC, h6, hv, out, good⟩ := h
    refine ⟨_, pss_one (ps_try_as (i := 2) (tb := fun W => tRet (tLst (tCons (tIsN (tCallS (spChk K C CS) (WE W) (tCons (tVar 0) (tCons (tVar 1) tNil)))) tNil))) (Wout := fun _ _ _ _ => False) rfl rfl scLChk.nd rfl rfl ⟨rfl, by decide, Or.inl B.gC⟩ takes0
        (fun W pn xe tk _ => pss_one (ps_ret (pe_lst (pa_cons (pe_cmp (pc_isN (pe_callS ok (hr.mono (by decide)) (by rfl) gC kC bC (fun σ => passAt tk σ) (pa_cons (pv 0) (pa_cons (pv 1) pa_nil))))) pa_nil))))
        (fun a oe cls d pn hz hf => pss_one (ps_ret (pe_xf B.xf B.no hz hf (pv 2))))), ?_⟩
    refine ⟨.ref a, rfl, v, rfl, a, xs, ns, ks, v, o, rfl, hS, hC, h6, hv, fun r er H1 dd H' s2 left => ?_, fun eo H1 s1 => ?_⟩
    · obtain ⟨nd0, s3, ed⟩ := left
      refine ⟨true, B.ex, fun _ a na => ?_, fun z => Bool.noConfusion z⟩
      exact ⟨.ref a, rfl, rfl, rfl, dd, _, r, rfl, ed, rfl, out r er H' (s2.trans s3)⟩
    · exact ⟨by show 1 ≤ sizeLine; decide, fun p np => good eo p _ (s1.trans (same_upd np)) upd_same⟩
theorem ok_lst {f : Addr} {fd : FuncData} (F : Fun K "_law_states" "_law_states" sLSt f fd) (M : Blt mg) : FnOk P w K mg base CX0 1 f fd ["_law_cells"] (spLSt K) := by
  refine F.ok scLSt (fun vs H Q E h => ?_) (fun cdv A outer s H vs Q E hr h => ?_)
  · obtain ⟨a, ns, rfl, _⟩ := h
    rfl
  · obtain ⟨a, ns, rfl, hS, nd, h6, q⟩ := h
    refine ⟨_, pss_cons (ps_set (i := 1) scLSt.nd rfl (.inl rfl) (pe_lst (pa_cons pe_dnewK pa_nil)))
      (pss_cons (ps_for PassesOwn.never rfl (pi_list (pv 0)) (pg_name (i := 2) scLSt.nd rfl (.inl rfl))
        (pss_cons (ps_set (i := 3) scLSt.nd rfl (.inl rfl) (pe_lst pa_nil))
        (pss_cons (ps_for PassesOwn.never rfl (pi_list (pe_callTy call_list_of (by rfl) M.list (by decide +kernel) (pa_cons (pv 1) pa_nil))) (pg_name (i := 4) scLSt.nd rfl (.inl rfl))
          (pss_one (ps_for PassesOwn.never rfl (pi_range1 (by rfl) M.range (pa_cons pe_int pa_nil)) (pg_name (i := 5) scLSt.nd rfl (.inl rfl))
            (pss_cons (ps_set (i := 6) scLSt.nd rfl (.inl rfl) (pe_callTy call_dictD (by rfl) M.dict (by decide +kernel) (pa_cons (pv 4) pa_nil)))
            (pss_cons (ps_dput (hu_of hr) (pv 6) (pv 2) (pv 5) (by rfl))
            (pss_one (ps_expr (pe_bm PySem.F.plainAttrs_list PySem.F.slot_list_append PySem.F.type_list_append mt_append (pv 3) (pa_cons (pv 6) pa_nil)))))))))
        (pss_one (ps_set (i := 1) scLSt.nd rfl (.inl rfl) (pv 3))))))
      (pss_one (ps_ret (pv 1)))), ?_⟩
    refine fun p0 n0 => ⟨by show 1 ≤ sizeLine; decide, fun F0 m0 => ?_⟩
    have k0 := same_upd (o := HO.dK []) n0
    have k1 := same_upd (o := HO.lst [V.ref p0]) m0
    have eF0 : upd (upd H p0 (.dK [])) F0 (.lst [V.ref p0]) F0 = some (.lst [V.ref p0]) := upd_same
    have ep0 : upd (upd H p0 (.dK [])) F0 (.lst [V.ref p0]) p0 = some (.dK []) := k1 _ _ upd_same
    have nF0 : H F0 = none := by
      cases e : H F0 with
      | none => rfl
      | some o =>
        rw [k0 _ _ e] at m0
        cases m0
    have s0 := k0.trans k1
    generalize upd (upd H p0 (.dK [])) F0 (.lst [V.ref p0]) = H1 at eF0 ep0 s0
    refine ⟨_, rfl, a, rfl, ⟨_, s0.seq hS⟩, ?_⟩
    refine for_list (K := K) (a := a) (xs := ns.map V.str) (fun i σ H2 => ∃ F ys z2 z3 z4 z5 z6, σ = [some (.ref a), some (.ref F), z2, z3, z4, z5, z6] ∧ Same H H2 ∧ H F = none ∧ H2 F = some (.lst ys) ∧ ys.length = 3 ^ i ∧ StAll H2 (ns.take i) ys)
      ⟨F0, [.ref p0], _, _, _, _, _, rfl, s0, nF0, eF0, rfl, fun j v e => ?_⟩ (fun i σ H2 _ p => ?_) (fun i x σ H2 hx p => ?_) (fun σ H2 p => ?_)
    · cases j with
      | zero => exact ⟨p0, (Option.some.inj e).symm, ep0⟩
      | succ j => simp at e
    · obtain ⟨_, _, _, _, _, _, _, _, s2, _⟩ := p
      exact s2.seq hS
    · obtain ⟨F, ys, z2, z3, z4, z5, z6, rfl, s2, nF, eF, hl, hst⟩ := p
      rw [List.getElem?_map] at hx
      obtain ⟨c, hc, rfl⟩ := Option.map_eq_some_iff.mp hx
      have hi : i < ns.length := (List.getElem?_eq_some_iff.mp hc).1
      have b3 : 3 ^ i ≤ 243 := Nat.pow_le_pow_right (n := 3) (by decide) (show i ≤ 5 by omega)
      have tk := take_snoc hc
      refine ⟨by show 0 ≤ sizeLine; decide, fun G nG => ?_⟩
      have eG := upd_same (H := H2) (a := G) (o := HO.lst [])
      have s3 := same_upd (o := HO.lst []) nG
      have hst3 := hst.same s3
      have eF3 := s3 _ _ eF
      have nGH : H G = none := by
        cases e : H G with
        | none => rfl
        | some o =>
          rw [s2 _ _ e] at nG
          cases nG
      have s23 := s2.trans s3
      generalize upd H2 G (HO.lst []) = H3 at eG s3 hst3 eF3 s23
      refine ⟨_, rfl, F, ys, rfl, .inl (.inl (.inl eF3)), fun L nL => ⟨L, rfl, ⟨_, .inl (.inl upd_same)⟩, ?_⟩⟩
      have s4 := same_upd (o := HO.lst ys) nL
      have eL := upd_same (H := H3) (a := L) (o := HO.lst ys)
      have eG4 := s4 _ _ eG
      have hst4 := hst3.same s4
      have nLG : L ≠ G := fun e => by
        rw [e, eG] at nL
        cases nL
      have s24 := s23.trans s4
      generalize upd H3 L (HO.lst ys) = H4 at s4 eL eG4 hst4 s24
      refine for_list (K := K) (a := L) (xs := ys) (fun j σ H5 => ∃ zs z4 z5 z6, σ = [some (.ref a), some (.ref F), some (.str c), some (.ref G), z4, z5, z6] ∧ But G H4 H5 ∧ H5 G = some (.lst zs) ∧ zs.length = 3 * j ∧ StAll H5 (ns.take (i + 1)) zs)
        ⟨[], _, _, _, rfl, But.refl _ _, eG4, rfl, fun j v e => by simp at e⟩ (fun j σ H5 _ p => ?_) (fun j y σ H5 hy p => ?_) (fun σ H5 p => ?_)
      · obtain ⟨_, _, _, _, _, b5, _⟩ := p
        exact .inl (.inl (b5 _ _ eL nLG))
      · obtain ⟨zs, z4, z5, z6, rfl, b5, e5, l5, t5⟩ := p
        obtain ⟨pj, rfl, epj⟩ := hst4 j y hy
        have hj : j < ys.length := (List.getElem?_eq_some_iff.mp hy).1
        have npG : pj ≠ G := fun e => by
          rw [e, eG4] at epj
          cases epj
        have epj5 := b5 _ _ epj npG
        refine ⟨_, rfl, by decide, by decide, ?_⟩
        refine for_range (n := 3) (fun k σ H6 => ∃ zs z5 z6, σ = [some (.ref a), some (.ref F), some (.str c), some (.ref G), some (.ref pj), z5, z6] ∧ But G H5 H6 ∧ H6 G = some (.lst zs) ∧ zs.length = 3 * j + k ∧ StAll H6 (ns.take (i + 1)) zs)
          ⟨zs, _, _, rfl, But.refl _ _, e5, l5, t5⟩ (fun k σ H6 hk p => ?_) (fun σ H6 p => ?_)
        · obtain ⟨zs, z5, z6, rfl, b6, e6, l6, t6⟩ := p
          have epj6 := b6 _ _ epj5 npG
          refine ⟨_, rfl, pj, _, rfl, .inl epj6, fun r nr => ?_⟩
          have er := upd_same (H := H6) (a := r) (o := HO.dK (stOf (ns.take i) j))
          have s7 := same_upd (o := HO.dK (stOf (ns.take i) j)) nr
          have e7 := s7 _ _ e6
          have t7 := t6.same s7
          have nrG : G ≠ r := fun e => by
            rw [← e, e6] at nr
            cases nr
          refine ⟨_, rfl, _, rfl, _, rfl, r, _, rfl, .inl ⟨_, .inr c, er, rfl, (by unfold stOf; rw [stKV_len, List.length_take]; exact Nat.lt_of_le_of_lt (show _ ≤ 6 by omega) (by decide)), rfl⟩, ?_⟩
          rw [upd_upd]
          have pk : putK (stOf (ns.take i) j) (.inr c : Key) (.int (0 + (k : Nat))) = stOf (ns.take (i + 1)) (3 * j + k) := by
            rw [putK_new (kvs := stOf (ns.take i) j) _ (stKV_none nd hc _), tk, stOf_snoc _ _ _ _ hk, Int.zero_add]
          dsimp only [List.set]
          rw [pk]
          have s8 := same_upd (o := HO.dK (stOf (ns.take (i + 1)) (3 * j + k))) nr
          have e8 := s8 _ _ e6
          have er8 := upd_same (H := H6) (a := r) (o := HO.dK (stOf (ns.take (i + 1)) (3 * j + k)))
          have t8 := t6.same s8
          generalize upd H6 r (HO.dK (stOf (ns.take (i + 1)) (3 * j + k))) = H8 at s8 e8 er8 t8
          refine ⟨_, rfl, .inl ⟨rfl, _, .inl (.inl e8)⟩, _, rfl, G, zs, .ref r, rfl, rfl, e8, Nat.lt_of_le_of_lt (show zs.length ≤ 729 by omega) (by decide), ?_⟩
          refine ⟨_, _, _, rfl, b6.trans ((But.of s8).trans But.upd), upd_same, by rw [List.length_append, l6]; rfl, ?_⟩
          refine StAll.snoc (t8.but e8 But.upd) ?_
          rw [upd_ne nrG.symm, l6]
          exact er8
        · obtain ⟨zs, z5, z6, rfl, b6, e6, l6, t6⟩ := p
          exact ⟨zs, _, _, _, rfl, b5.trans b6, e6, l6, t6⟩
      · obtain ⟨zs, z4, z5, z6, rfl, b5, e5, l5, t5⟩ := p
        refine ⟨_, rfl, G, zs, _, _, _, _, _, rfl, fun b o e => b5 _ _ (s24 _ _ e) (ne_of_none e nGH), nGH, e5, ?_, t5⟩
        rw [l5, hl, Nat.pow_succ, Nat.mul_comm]
    · obtain ⟨F, ys, z2, z3, z4, z5, z6, rfl, s2, nF, eF, hl, hst⟩ := p
      rw [List.length_map] at hl hst
      rw [List.take_length] at hst
      exact ⟨_, rfl, q F ys H2 s2 eF nF hl hst⟩
end
/-! ### what the checks of states come to -/
theorem valV_of {κ : Type} [DecidableEq κ] {kvs : List (κ × V)} (nd : (kvs.map (·.1)).Nodup) {i : Nat} {k : κ} {v : V} (h : kvs[i]? = some (k, v)) : valV kvs k = some v := by
  induction kvs generalizing i with
  | nil => simp at h
  | cons a r ih =>
    rw [List.map_cons, List.nodup_cons] at nd
    cases i with
    | zero =>
      have e : a = (k, v) := Option.some.inj h
      subst e
      exact valV_pos rfl
    | succ i =>
      have h' : r[i]? = some (k, v) := h
      have ne : ¬ a.1 = k := fun e => nd.1 (by rw [e]; exact List.mem_map.mpr ⟨_, List.mem_of_getElem? h', rfl⟩)
      rw [valV_neg ne]
      exact ih nd.2 h'
theorem valV_out {κ : Type} [DecidableEq κ] {kvs : List (κ × V)} {k : κ} (h : k ∉ kvs.map (·.1)) : valV kvs k = none := by
  induction kvs with
  | nil => rfl
  | cons a r ih =>
    rw [List.map_cons, List.mem_cons, not_or] at h
    rw [valV_neg (fun e => h.1 e.symm)]
    exact ih h.2
theorem stKV_keys {ns : List Str} {f : Nat → Nat} : (stKV ns f).map (·.1) = ns.map Sum.inr := by
  apply List.ext_getElem?
  intro i
  rw [List.getElem?_map, List.getElem?_map]
  by_cases hi : i < ns.length
  · rw [stKV_at (List.getElem?_eq_getElem hi), List.getElem?_eq_getElem hi]
    rfl
  · rw [List.getElem?_eq_none (by rw [stKV_len]; omega), List.getElem?_eq_none (by omega)]
    rfl
theorem inr_nodup {ns : List Str} (nd : ns.Nodup) : (ns.map (Sum.inr : Str → Key)).Nodup := by
  refine List.pairwise_map.mpr (List.Pairwise.imp (fun {a b} h e => h (Sum.inr.inj e)) nd)
theorem stKV_nd {ns : List Str} {f : Nat → Nat} (nd : ns.Nodup) : ((stKV ns f).map (·.1)).Nodup := by
  rw [stKV_keys]
  exact inr_nodup nd
theorem stKV_val {ns : List Str} {f : Nat → Nat} (nd : ns.Nodup) {i : Nat} {n : Str} (h : ns[i]? = some n) : valV (stKV ns f) (.inr n : Key) = some (.int (f i : Nat)) := valV_of (stKV_nd nd) (stKV_at h)
theorem valV_drop {κ : Type} [DecidableEq κ] {kvs : List (κ × V)} {k j : κ} : valV (dropK kvs k) j = if j = k then none else valV kvs j := by
  induction kvs with
  | nil =>
    split <;> rfl
  | cons a r ih =>
    unfold dropK at ih ⊢
    by_cases ha : a.1 = k
    · rw [List.filter_cons_of_neg (by simp [ha]), ih]
      by_cases hj : j = k
      · rw [if_pos hj, if_pos hj]
      · rw [if_neg hj, if_neg hj, valV_neg (fun e => hj (e.symm.trans ha))]
    · rw [List.filter_cons_of_pos (by simp [ha])]
      by_cases hj : a.1 = j
      · rw [valV_pos hj, valV_pos hj, if_neg (fun e => ha (hj.trans e))]
      · rw [valV_neg hj, valV_neg hj, ih]
theorem good_val (x : Nat) : isValV (.int (x % 3 : Nat)) = true := by
  have h : x % 3 < 3 := Nat.mod_lt _ (by decide)
  show (decide ((0 : Int) ≤ ((x % 3 : Nat) : Int)) && decide (((x % 3 : Nat) : Int) < 3)) = true
  rw [decide_eq_true (by omega), decide_eq_true (by omega)]
  rfl
theorem firstBad_none {kvs : List (Key × V)} : ∀ {ns : List Str}, (∀ n ∈ ns, ∃ u, valV kvs (.inr n) = some u ∧ isValV u = true) → firstBad kvs ns = none
  | [], _ => rfl
  | n :: r, h => by
    obtain ⟨u, e, g⟩ := h n List.mem_cons_self
    unfold firstBad
    rw [e]
    dsimp only
    rw [g]
    exact firstBad_none fun m hm => h m (List.mem_cons_of_mem _ hm)
theorem firstBad_at {kvs : List (Key × V)} : ∀ {ns : List Str} {i : Nat} {c : Str}, ns[i]? = some c → (∀ j n, j < i → ns[j]? = some n → ∃ u, valV kvs (.inr n) = some u ∧ isValV u = true) → (∀ u, valV kvs (.inr c) = some u → isValV u = false) → firstBad kvs ns = some c
  | [], i, c, h, _, _ => by simp at h
  | n :: r, 0, c, h, _, b => by
    have e : n = c := Option.some.inj h
    subst e
    unfold firstBad
    cases hv : valV kvs (.inr n) with
    | none => rfl
    | some u =>
      dsimp only
      rw [b u hv]
      rfl
  | n :: r, i + 1, c, h, g, b => by
    obtain ⟨u, e, gu⟩ := g 0 n (Nat.succ_pos i) rfl
    unfold firstBad
    rw [e]
    dsimp only
    rw [gu]
    exact firstBad_at (ns := r) (i := i) h (fun j m hj hm => g (j + 1) m (Nat.succ_lt_succ hj) hm) b
section
variable {ns : List Str} (nd : ns.Nodup)
include nd
theorem chk_good (k : Nat) : chkOut ns (stOf ns k) = none := by
  unfold chkOut
  rw [if_pos (by unfold stOf; rw [stKV_len]), firstBad_none]
  · rfl
  · intro n hn
    obtain ⟨i, hi⟩ := List.getElem?_of_mem hn
    exact ⟨_, stKV_val nd hi, good_val _⟩
theorem chk_odd (k : Nat) {i : Nat} {c : Str} (hi : ns[i]? = some c) {o : V} (ho : isValV o = false) : chkOut ns (putK (stOf ns k) (.inr c) o) = some (.str c) := by
  have len : (putK (stOf ns k) (.inr c) o).length = ns.length := by
    unfold putK
    rw [if_pos]
    · rw [List.length_map]
      unfold stOf
      rw [stKV_len]
    · rw [List.any_eq_true]
      exact ⟨_, List.mem_of_getElem? (stKV_at hi), decide_eq_true rfl⟩
  unfold chkOut
  rw [if_pos len, firstBad_at hi (fun j n hj hn => ?_) (fun u hu => ?_)]
  · rfl
  · rw [valV_put, if_neg]
    · exact ⟨_, stKV_val nd hn, good_val _⟩
    · intro e
      rw [Sum.inr.inj e] at hn
      exact absurd (nodup_at nd hn hi) (by omega)
  · rw [valV_put, if_pos rfl] at hu
    rw [← Option.some.inj hu]
    exact ho
theorem drop_len (k : Nat) {i : Nat} {c : Str} (hi : ns[i]? = some c) : (dropK (stOf ns k) (.inr c)).length + 1 = ns.length := by
  have e1 : (dropK (stOf ns k) (.inr c)).map (·.1) = (ns.map (Sum.inr : Str → Key)).filter (fun y => decide (y ≠ .inr c)) := by
    have e0 := stKV_keys (ns := ns) (f := fun i => k / 3 ^ (ns.length - 1 - i) % 3)
    rw [← e0, List.filter_map]
    rfl
  have e2 : (dropK (stOf ns k) (.inr c)).length = ((ns.map (Sum.inr : Str → Key)).filter (fun y => decide (y ≠ .inr c))).length := by
    rw [← e1, List.length_map]
  have nd2 := inr_nodup nd
  have mem : (.inr c : Key) ∈ ns.map Sum.inr := List.mem_map.mpr ⟨c, List.mem_of_getElem? hi, rfl⟩
  have one : ∀ l : List Key, l.Nodup → (.inr c : Key) ∈ l → (l.filter (fun y => decide (y ≠ .inr c))).length + 1 = l.length := by
    intro l
    induction l with
    | nil => exact fun _ h => by cases h
    | cons a r ih =>
      intro h1 h2
      rw [List.nodup_cons] at h1
      by_cases e : a = .inr c
      · subst e
        have all : r.filter (fun y => decide (y ≠ .inr c)) = r := List.filter_eq_self.mpr fun y hy => decide_eq_true (p := y ≠ .inr c) (fun (q : y = (Sum.inr c : Key)) => h1.1 (q ▸ hy))
        rw [List.filter_cons_of_neg (by simp), all]
        rfl
      · rw [List.filter_cons_of_pos (by simp [e]), List.length_cons, List.length_cons, ih h1.2 ((List.mem_cons.mp h2).resolve_left fun q => e q.symm)]
  rw [e2, one _ nd2 mem, List.length_map]
theorem chk_less (k : Nat) {i : Nat} {c : Str} (hi : ns[i]? = some c) : chkOut ns (dropK (stOf ns k) (.inr c)) = some .non := by
  have := drop_len nd k hi
  unfold chkOut
  rw [if_neg (by omega)]
theorem chk_other (k : Nat) {i : Nat} {c z : Str} (hi : ns[i]? = some c) (hz : z ∉ ns) (o : V) : chkOut ns (putK (dropK (stOf ns k) (.inr c)) (.inr z) o) = some (.str c) := by
  have len0 := drop_len nd k hi
  have out : valV (dropK (stOf ns k) (.inr c)) (.inr z) = none := by
    rw [valV_drop]
    split
    · rfl
    · refine valV_out ?_
      show (.inr z : Key) ∉ (stKV ns _).map (·.1)
      rw [stKV_keys]
      intro h
      obtain ⟨y, hy, e⟩ := List.mem_map.mp h
      rw [Sum.inr.inj e] at hy
      exact hz hy
  have zc : c ≠ z := fun e => hz (e ▸ List.mem_of_getElem? hi)
  unfold chkOut
  rw [if_pos (by rw [putK_new _ out, List.length_append]; exact len0), firstBad_at hi (fun j n hj hn => ?_) (fun u hu => ?_)]
  · rfl
  · rw [valV_put, if_neg (fun e => hz (by have e' : n = z := Sum.inr.inj e; exact e' ▸ List.mem_of_getElem? hn)), valV_drop, if_neg]
    · exact ⟨_, stKV_val nd hn, good_val _⟩
    · intro e
      rw [Sum.inr.inj e] at hn
      exact absurd (nodup_at nd hn hi) (by omega)
  · rw [valV_put, if_neg (fun e => zc (Sum.inr.inj e)), valV_drop, if_pos rfl] at hu
    cases hu
end
theorem merge_nd {κ : Type} [DecidableEq κ] : ∀ (kvs acc : List (κ × V)), (kvs.map (·.1)).Nodup → (∀ kv ∈ kvs, valV acc kv.1 = none) → kvs.foldl (fun acc kv => putK acc kv.1 kv.2) acc = acc ++ kvs
  | [], acc, _, _ => (List.append_nil _).symm
  | (k, v) :: r, acc, nd, h => by
    rw [List.map_cons, List.nodup_cons] at nd
    rw [List.foldl_cons]
    show r.foldl _ (putK acc k v) = _
    rw [putK_new _ (h (k, v) List.mem_cons_self), merge_nd r _ nd.2, List.append_assoc]
    · rfl
    · intro kv hkv
      rw [← putK_new (kvs := acc) v (h (k, v) List.mem_cons_self), valV_put, if_neg]
      · exact h kv (List.mem_cons_of_mem _ hkv)
      · intro e
        exact nd.1 (e ▸ List.mem_map.mpr ⟨kv, hkv, rfl⟩)
theorem drop_nd {ns : List Str} (nd : ns.Nodup) (k : Nat) (c : Key) : ((dropK (stOf ns k) c).map (·.1)).Nodup := (stKV_nd nd).sublist ((List.filter_sublist).map _)
theorem mergeK_drop {ns : List Str} (nd : ns.Nodup) (k : Nat) (c : Key) : mergeK [] (dropK (stOf ns k) c) = dropK (stOf ns k) c := by
  unfold mergeK
  rw [merge_nd _ _ (drop_nd nd k c) (fun _ _ => rfl)]
  rfl
theorem st_dat {K : PySem.W.Frag} {H : Hp} (ns : List Str) (f : Nat → Nat) : DatK K H (stKV ns f) := fun n u e => by
  unfold valV at e
  obtain ⟨kv, hkv, rfl⟩ := Option.map_eq_some_iff.mp e
  obtain ⟨i, hi⟩ := List.getElem?_of_mem (List.mem_of_find?_eq_some hkv)
  have lt : i < ns.length := by
    have := (List.getElem?_eq_some_iff.mp hi).1
    rw [stKV_len] at this
    exact this
  rw [stKV_at (List.getElem?_eq_getElem lt)] at hi
  cases hi
  exact ⟨_, .int _, rfl⟩
theorem put_dat {K : PySem.W.Frag} {H : Hp} {kvs : List (Key × V)} (h : DatK K H kvs) {k : Key} {v : V} {d : PyData} (hv : Dp K H v d) (z : szD d = true) : DatK K H (putK kvs k v) := fun n u e => by
  rw [valV_put] at e
  split at e
  · rw [← Option.some.inj e]
    exact ⟨d, hv, z⟩
  · exact h n u e
theorem drop_dat {K : PySem.W.Frag} {H : Hp} {kvs : List (Key × V)} (h : DatK K H kvs) (k : Key) : DatK K H (dropK kvs k) := fun n u e => by
  rw [valV_drop] at e
  split at e
  · cases e
  · exact h n u e
/-! ### two dicts that are the same -/
/-- dicts of the same pairs, ints by names -/
def DSt : Eqv := fun x y H => ∃ a b ns k, x = .ref a ∧ y = .ref b ∧ H a = some (.dK (stOf ns k)) ∧ H b = some (.dK (stOf ns k)) ∧ ns.Nodup
theorem mon_st : Mon DSt := fun x y H H' e d => by
  obtain ⟨a, b, ns, k, rfl, rfl, ea, eb, nd⟩ := d
  exact ⟨a, b, ns, k, rfl, rfl, e _ _ ea, e _ _ eb, nd⟩
theorem paired_get' {α β : Type} {R : α → β → Prop} : ∀ {xs : List α} {ys : List β} {i : Nat} {y : β}, Paired R xs ys → ys[i]? = some y → ∃ x, xs[i]? = some x ∧ R x y
  | _, _, _, _, .nil, e => by simp at e
  | _, _, 0, _, .cons r _, e => ⟨_, rfl, Option.some.inj e ▸ r⟩
  | _, _, i + 1, _, .cons _ t, e => paired_get' (i := i) t e
theorem keq_same {P : Program} {w : World} {A : Around} {s : Shared} {kb : List (Key × Value)} {ns : List Str} : ∀ {l : List (Key × Value)}, (∀ kv ∈ l, ∃ (i : Int) (t u : Tok), kv.2 = .int i t ∧ valueAt kb kv.1 = some (.int i u)) → PySem.W.KeqHitsP P w A s kb l true
  | [], _ => .nil
  | (k, v) :: r, h => by
    obtain ⟨i, t, u, e1, e2⟩ := h (k, v) List.mem_cons_self
    have e1' : v = .int i t := e1
    subst e1'
    have q : SeqAt.EqP P w A s (.int i t) (.int i u) (i == i) := SeqAt.EqAt.eqP (SeqAt.EqAt.int_int i t i u)
    rw [beq_self_eq_true] at q
    exact PySem.W.KeqHitsP.hit (e := true) (b := true) e2 q (keq_same (ns := ns) fun kv hkv => h kv (List.mem_cons_of_mem _ hkv))
theorem rcG_st {X : Cx} {n : Nat} : RcG X (n + 1) DSt := by
  intro A pins s σ H x y u v sb I rx ry d
  obtain ⟨a, b, ns, k, rfl, rfl, ea, eb, nd⟩ := d
  cases (show u = Value.ref a from rx)
  cases (show v = Value.ref b from ry)
  obtain ⟨_, ha, va, ra, da⟩ := I.hok a _ ea
  obtain ⟨_, hb, vb, rb, db⟩ := I.hok b _ eb
  refine PySem.W.rcP_dicts (r := true) ha hb da db sb.room.units0 (fun _ => ?_) _ _ ?_
  · refine keq_same (ns := ns) fun kv hkv => ?_
    obtain ⟨i, hi⟩ := List.getElem?_of_mem hkv
    obtain ⟨kv0, h0, e0, r0⟩ := paired_get' ra hi
    have lt : i < ns.length := by
      have := (List.getElem?_eq_some_iff.mp h0).1
      unfold stOf at this
      rw [stKV_len] at this
      exact this
    have h1 := stKV_at (f := fun i => k / 3 ^ (ns.length - 1 - i) % 3) (List.getElem?_eq_getElem lt)
    rw [show (stOf ns k)[i]? = _ from h1] at h0
    cases h0
    obtain ⟨t, et⟩ := r0
    have hv := rb.val (.inr ns[i] : Key)
    rw [show valV (stOf ns k) (.inr ns[i] : Key) = _ from stKV_val nd (List.getElem?_eq_getElem lt)] at hv
    cases hq : valueAt vb (.inr ns[i] : Key) with
    | none =>
      rw [hq] at hv
      exact hv.elim
    | some q =>
      rw [hq] at hv
      obtain ⟨t2, et2⟩ := hv
      refine ⟨_, t, t2, et, ?_⟩
      rw [← e0, hq, et2]
  · rw [← ra.length, ← rb.length]
    exact ⟨by simp, H, I, Ext.rfl'⟩
theorem eqG_st {X : Cx} {n : Nat} : EqG X (n + 1) DSt := rcG_st.eqG fun _ _ _ d => let ⟨a, b, _, _, hx, hy, _⟩ := d; ⟨a, b, hx, hy⟩
/-! ### defs that are run where no repr is under way: what repr of a list or tuple wants -/
/-- as FnOk, for a def that lets nothing out, called where no repr is under way -/
structure FnG (P : Program) (w : World) (K : PySem.W.Frag) (mg : Str → Option Value) (base : Heap) (k : Nat) (f : Addr) (fd : FuncData) (ps : List Str) (sp : Sp) : Prop where
  many : ∀ vs H Q, sp vs H Q E0 → vs.length = ps.length
  goes : ∀ (A : Around) (outer : List Env) (s : Shared) (H : Hp) (us : List Value) (vs : List V) (Q : VK), A.guards = some [] → Room k A → Env0 P w K mg base A outer s H → BindsTo s fd ⟨us, []⟩ (ps.zip us) → Vals vs us → sp vs H Q E0 →
    codeAny (model P w) A (.call (.ref f) ⟨us, []⟩) (CR CX0 outer P w H s Q E0) s
section
variable {P : Program} {w : World} {K : PySem.W.Frag} {mg : Str → Option Value} {base : Heap}
theorem Fun.okG {x qual : Str} {st : Stmt} {f : Addr} {fd : FuncData} {N ps : List Str} {k : Nat} {sp : Sp} (F : Fun K x qual st f fd) (S : FnScope N ps (defScope st)) (many : ∀ vs H Q, sp vs H Q E0 → vs.length = ps.length)
    (body : ∀ (cdv : Value) (A : Around) (outer : List Env) (s : Shared) (H : Hp) (vs : List V) (Q : VK), A.guards = some [] → Room k (A.deeper (envOfC qual (defScope st) s.heap.objs.size f cdv)) → sp vs H Q E0 →
      ∃ t, PSs (cxOf CX0 P w K mg base N qual (defScope st) f cdv A outer s H E0).nox (defBody st) t ∧ t { nx := fun _ H' => Q .non H', rt := Q } (start N vs) H) : FnG P w K mg base (k + 1) f fd ps sp := by
  obtain ⟨oc, od, kV, doc, pm, an, cdv, ct, osl, rfl, at_, cd⟩ := F.ex
  refine ⟨many, fun A outer s H us vs Q hg hr e0 hb r hs => ?_⟩
  have KX : K.In s.heap := e0.mod.kin.keeps fun b o e => (e0.bs b o e).1
  have lim : s.heap.NoLimit := e0.mod.nolimit.keeps fun b o e => (e0.bs b o e).1
  refine codeAny_call_function hr.depth (KX _ _ at_) rfl S.co S.gen rfl (PySem.W.codeRec_of KX cd) (hb _ _ _ _ ?_)
  refine wpAny_newFunctionEnv_cells S.kind (fun ⟨n, v⟩ hy => ?_) fun env he s1 x => ?_
  · rcases S.par n (List.of_mem_zip hy).1 with q | q
    · exact .inl q
    · exact .inr ⟨q, PySem.W.cellsFrom_some _ _ _ (.inl q)⟩
  · subst he
    obtain ⟨t, ht, hq⟩ := body cdv A outer s H vs Q hg (hr.deeper _) hs
    refine ⟨lim.keeps x.toInCall.keep, codeAny_func (wpAny_mono (ht.nox.run [] s1 (start N vs) H _ (inv_start S hr.hd e0 (many _ _ _ hs) r x) hq) (fun fl s' z => ?_) fun e s' z => z)⟩
    have out : ∀ {σ' : L2.St} {H' : Hp} {v : V} {u : Value}, Inv (cxOf CX0 P w K mg base N qual (defScope st) f cdv A outer s H E0) [] σ' H' s' → RelV v u → Q v H' → CE outer P w H s Q u s' := fun {σ' H' v u} J rv q => ⟨v, H', J.os, J.bare, J.base, J.hok, rv, q⟩
    cases fl with
    | ret u => exact let ⟨v, σ', H', J, rv, q⟩ := z; out J rv q
    | next => exact let ⟨σ', H', J, q⟩ := z; out (v := V.non) (u := Value.none) J rfl q
    | brk => exact let ⟨_, _, _, q⟩ := z; False.elim q
    | cont => exact let ⟨_, _, _, q⟩ := z; False.elim q
end
section
variable {X : Cx} {k : Nat} {f : Addr} {fd : FuncData} {ps : List Str} {sp : Sp} {x : Str} {e : Expr} {es : List Expr} {p pos : Pos} {t : TA}
theorem pe_callG (F : FnG X.prog X.w X.K X.mg X.base k f fd ps sp) (gu : X.A.guards = some []) (hr : Room k X.A) (hg : Gl X x) (hm : X.mg x = some (.ref f)) (hk : PySem.W.keepIn X.K (.ref f) = true) (hb : Binds X.K fd ps []) (ha : PA X (e :: es) t)
    (hdb : (x == ("__debug__" : Str)) = false := by decide) (he : starEach (e :: es) X.env = (false, eval e X.env) :: starEach es X.env := by rfl) (hpl : (backTo pos (starEach es X.env)).any (·.1) = false := by rfl) :
    PE X (.Call (.Name x p) (e :: es) [] pos) (tCall sp [] E0 t) := ⟨fun pins s σ H Q I h => by
  refine wpAny_Call_Name_kw (ld_glob I hg hm (PySem.W.callWith_K (h₀ := X.base) I.ok.mod.kin hk (thn (ha.run pos pins s σ H _ I h) fun us s1 z => ?_) he hpl) hdb)
  obtain ⟨vs, H1, I1, r, q⟩ := z
  have q' : sp vs H1 Q E0 := by
    have z : sp (vs ++ []) H1 Q E0 := q
    rwa [List.append_nil] at z
  have hl : (us ++ []).length = ps.length := by rw [List.append_nil, ← r.length]; exact F.many _ _ _ q'
  have bt := hb s1 us I1.kIn hl
  rw [List.append_nil] at bt
  refine ⟨I1.kIn, wpAny_call (codeAny_mono (F.goes X.A X.stack s1 H1 us vs Q gu hr I1.env0 bt r q') fun r s' z => ?_)⟩
  cases r with
  | error e => exact z.elim
  | ok fl =>
    cases fl with
    | ret u => exact I1.after z
    | next => exact False.elim z
    | brk => exact False.elim z
    | cont => exact False.elim z⟩
/-- repr of data -/
def rReprD (K : PySem.W.Frag) : List V → Hp → VK → Prop := fun xs H Q => ∃ (x : V) (d : PyData), xs = [x] ∧ Dp K H x d ∧ d.showable = true ∧ d.hasDict = false ∧ d.depth ≤ 60 ∧ d.shown.length ≤ sizeLine ∧ Q (.str d.shown) H
theorem call_reprD (gu : X.A.guards = some []) (un : X.A.units + 100 < cLine) : CallR X (.builtin "repr") (rReprD X.K) := by
  intro pins s σ H xs us Q I r h
  obtain ⟨x, d, rfl, hd, hs, hn, hdp, hz, q⟩ := h
  obtain ⟨u, rfl, ru⟩ := r.one

  obtain ⟨as, R⟩ := Dp.reads I d x u hd ru
  have put : ∀ {t : Tok} {z : Str}, z = d.shown → EP X pins σ Q (.str z t) { s with toks := s.toks + 1 } := fun {t z} e => by
    subst e
    exact ⟨.str d.shown, H, I.tok _, ⟨t, rfl⟩, q⟩
  cases hd with
  | non => cases (show u = Value.none from ru); exact PySem.P.repr_of_none (put rfl)
  | bl b => cases (show u = Value.bool b from ru); exact PySem.P.repr_of_bool (put rfl)
  | int i =>
    obtain ⟨t, e⟩ := (show ∃ t, u = Value.int i t from ru)
    cases e
    exact PySem.P.repr_of_int (by simpa [PyData.showable] using hs) (put rfl)
  | str z =>
    obtain ⟨t, e⟩ := (show ∃ t, u = Value.str z t from ru)
    cases e
    exact PySem.P.repr_of_str (put rfl) (by simpa [PyData.shown] using hz)
  | @lst a vs ds hS hD =>
    cases (show u = Value.ref a from ru)
    exact repr_of_reads' R hs (PyData.noDict_hsm hn) gu (by omega) (fun _ _ e => e) (fun h' t tk k => ⟨.str _, H, I.kept (t' := tk) k, ⟨t, rfl⟩, q⟩) hz
  | @tup a vs ds hS hD =>
    cases (show u = Value.ref a from ru)
    exact repr_of_reads' R hs (PyData.noDict_hsm hn) gu (by omega) (fun _ _ e => e) (fun h' t tk k => ⟨.str _, H, I.kept (t' := tk) k, ⟨t, rfl⟩, q⟩) hz
end
/-! ### the end, by a law's def that is run where no repr is under way -/
namespace EndG
section
variable {P : Program} {w : World} {K : PySem.W.Frag} {mg mb : Str → Option Value} {k : Nat} {fa a : Addr} {fd : FuncData} {x : Str} {sp : Sp} {s : Shared} {vs : List Value} {ns : List Int}
/-- what is asked of the run at last -/
def Told (s : Shared) (r : Result) (s' : Shared) : Prop := r = .ok (.ret (.bool true)) ∧ OldK s.heap s'.heap ∧ s'.os = s.os ∧ AllBare s'.gens
/-- from a heap of which at most the script is tracked -/
theorem told_at (KX : K.In s.heap) (n1 : s.heap.Ns mainGlobals mg) (n2 : s.heap.Ns builtinsNs mb) (bb : ∀ x : Str, x ≠ "__name__" → mb x = bootBuiltins x) (lim : s.heap.NoLimit) (gs : s.gens = #[])
    (oa : s.heap.get? a = some { cls := .type "list", data := .seq vs.toArray }) (hr : Room k callerA) (F : ∀ base : Heap, K.In base → base.Ns mainGlobals mg → FnG P w K mg base k fa fd [x] sp)
    (bind : ∀ (s : Shared) (u : Value), BindsTo s fd ⟨[u], []⟩ [(x, u)]) (H : Hp) (only : Only H) (ok : HOk P w H s.heap) (at_a : ∀ b, H b ≠ none → b = a) (notK : H a ≠ none → K.lookup a = none)
    (h : sp [.ref a] H (fun v _ => v = .bl true) E0) : codeAny (model P w) callerA (.call (.ref fa) ⟨[.ref a], []⟩) (Told s) s := by
  have none_or : ∀ b, H b = none ∨ b = a := fun b => by
    cases q : H b with
    | none => exact .inl rfl
    | some u => exact .inr (at_a b (by rw [q]; exact fun z => nomatch z))
  have free : ∀ {b : Addr} {o : Obj} {es : Array DictEntry} {ep : Nat}, s.heap.get? b = some o → o.data = .dict es ep → H b = none := fun {b o es ep} e d => by
    rcases none_or b with z | z
    · exact z
    · rw [z, oa] at e
      cases e
      exact absurd (show Data.seq vs.toArray _ = Data.dict es ep from d) (fun y => nomatch y)
  have ns0 : ∀ {b : Addr} {m : Str → Option Value}, s.heap.Ns b m → (hidT s.heap H).Ns b m := fun {b m} z => by
    obtain ⟨o, es, ep, e, d, r⟩ := z
    exact ⟨o, es, ep, hidT_get e (free e d), d, r⟩
  have kb : K.In (hidT s.heap H) := fun b o e => hidT_get (KX b o e) (by
    rcases none_or b with z | z
    · exact z
    · cases q : H b with
      | none => rfl
      | some u =>
        rw [z] at q e
        rw [notK (by rw [q]; exact fun y => nomatch y)] at e
        cases e)
  have md : Mod K mg (hidT s.heap H) := ⟨kb, ns0 n1, ⟨mb, ns0 n2, bb⟩, by
    obtain ⟨mc, c1, c2⟩ := lim
    exact ⟨mc, ns0 c1, c2⟩⟩
  have noF : ∀ b : Addr, b ∉ ([] : List Addr) := fun b => by simp
  have e0 : Env0 P w K mg (hidT s.heap H) callerA [] s H := ⟨rfl, md, fun b o z => of_hidT z, Nat.le_of_eq (hidT_size _ _), trivial, fun b z => absurd (show b ∈ ([] : List Addr) from z) (noF b), ok, .of_eq gs⟩
  refine codeAny_mono ((F _ kb (ns0 n1)).goes callerA [] s H [.ref a] [.ref a] _ rfl hr e0 (bind s (.ref a)) (.cons rfl .nil) h) fun r s' z => ?_
  cases r with
  | error e => exact z.elim
  | ok fl =>
    cases fl with
    | next => exact False.elim z
    | brk => exact False.elim z
    | cont => exact False.elim z
    | ret u =>
      obtain ⟨v, H', os, bare, un, ok', rv, ev⟩ := z
      cases (show v = .bl true from ev)
      cases (show u = Value.bool true from rv)
      refine ⟨rfl, OldK.of_keep fun b o e => ?_, os, bare⟩
      cases q : H b with
      | none => exact un.keep b o e q (fun y => absurd (show b ∈ ([] : List Addr) from y) (noF b)) (noF b)
      | some u =>
        rcases only b with y | ⟨ob, xs, y⟩
        · rw [q] at y
          cases y
        · obtain ⟨g1, _⟩ := ok b _ y
          obtain ⟨g2, _⟩ := ok' b _ (un.frzs b ob _ y)
          rw [e] at g1
          cases g1
          exact g2
theorem law_told (KX : K.In s.heap) (n1 : s.heap.Ns mainGlobals mg) (n2 : s.heap.Ns builtinsNs mb) (bb : ∀ x : Str, x ≠ "__name__" → mb x = bootBuiltins x) (lim : s.heap.NoLimit) (gs : s.gens = #[])
    (oa : s.heap.get? a = some { cls := .type "list", data := .seq vs.toArray }) (isI : IntsAre vs ns) (few : ns.length ≤ sizeLine) (hr : Room k callerA) (F : ∀ base : Heap, K.In base → base.Ns mainGlobals mg → FnG P w K mg base k fa fd [x] sp)
    (bind : ∀ (s : Shared) (u : Value), BindsTo s fd ⟨[u], []⟩ [(x, u)]) (h : ∀ H : Hp, Only H → SqL K H a (ns.map V.int) → sp [.ref a] H (fun v _ => v = .bl true) E0) : codeAny (model P w) callerA (.call (.ref fa) ⟨[.ref a], []⟩) (Told s) s := by
  have rv := vals_ints isI
  have len := isI.length
  cases inK : K.lookup a with
  | some o =>
    have e := KX a o inK
    rw [oa] at e
    cases e
    have only : Only (fun _ => none) := fun _ => .inl rfl
    refine told_at KX n1 n2 bb lim gs oa hr F bind (fun _ => none) only (fun b u z => nomatch (show (none : Option HO) = some u from z)) (fun b z => absurd rfl z) (fun z => absurd rfl z) (h _ only ?_)
    exact .inr ⟨_, vs.toArray, _, inK, rfl, rfl, rfl, by rw [List.size_toArray, len]; exact few, by simpa using rv⟩
  | none =>
    let scr : Obj := { cls := .type "list", data := .seq vs.toArray }
    let H : Hp := fun b => if b = a then some (.frz scr (.lst (ns.map V.int))) else none
    have Ha : H a = some (.frz scr (.lst (ns.map V.int))) := if_pos rfl
    have Hb : ∀ b, b ≠ a → H b = none := fun b z => if_neg z
    have only : Only H := fun b => by
      by_cases z : b = a
      · exact .inr ⟨scr, _, by rw [z]; exact Ha⟩
      · exact .inl (Hb b z)
    refine told_at KX n1 n2 bb lim gs oa hr F bind H only (fun b u z => ?_) (fun b z => ?_) (fun _ => inK) (h H only (.inl (.inr ⟨scr, Ha⟩)))
    · by_cases y : b = a
      · subst y
        rw [Ha] at z
        cases z
        exact ⟨oa, by rw [List.length_map]; exact few, vs, _, rv, oa⟩
      · rw [Hb b y] at z
        cases z
    · by_cases y : b = a
      · exact y
      · exact absurd (Hb b y) z
end
theorem walk_told {l : PySem.W.OpenLaw} {n k : Nat} {q : Program} {loose : List Str} {XP : (Str → Option Value) → Heap → Prop} {YP : World → Heap → Prop} {d : DefRec} {K : Params → PySem.W.Frag} {sp : World → Sp} {x : Str} (most : l.most = some n) (few : n ≤ sizeLine) (nod : d.params.defaults = []) (hr : Room k callerA)
    (KI : ∀ (w : World) (h : Heap), YP w h → (K w.params).In h)
    (F : ∀ (w : World) (mg : Str → Option Value) (fa : Addr) (h : Heap), (K w.params).In h → h.Ns mainGlobals mg → mg d.name = some (.ref fa) → ∃ fd : FuncData, (∀ (s : Shared) (u : Value), BindsTo s fd ⟨[u], []⟩ [(x, u)]) ∧ ∀ base : Heap, (K w.params).In base → base.Ns mainGlobals mg → FnG l.prog w (K w.params) mg base k fa fd [x] (sp w))
    (holds : ∀ (w : World) (H : Hp) (a : Addr) (ns : List Int), ns.length ≤ n → SqL (K w.params) H a (ns.map V.int) → sp w [.ref a] H (fun v _ => v = .bl true) E0) : PySem.W.WalkO q loose XP YP l.row.toRowW d [] (fun f vs => PySem.call f vs) := Att.attach_call most nod fun w s₀ s₁ mg mb fa o pm cd doc a vs ns G Y ho hd hcd hmg hobj hints hlen hg => by
  obtain ⟨fd, bind, F1⟩ := F w mg fa _ (KI w _ Y) G.T.g hmg
  exact law_told (KI w _ Y) G.T.g G.T.b G.T.builtins G.T.nolimit hg hobj hints (Nat.le_trans hlen few) hr F1 bind fun H _ hS => holds w H a ns hlen hS
end EndG
/-! ### words for a law -/
theorem same_but {p : Addr} {H H1 H2 : Hp} (s : Same H H1) (n : H p = none) (h2 : But p H1 H2) : Same H H2 := fun b o e => h2 b o (s b o e) (ne_of_none e n)
theorem turns {L i : Nat} (h : i < (if (if (2 : Int) < (L : Int) then (2 : Int) else (L : Int)) > 1 then (if (2 : Int) < (L : Int) then (2 : Int) else (L : Int)) else 1).toNat) : i ≤ 1 ∧ (i < L ∨ L = 0) := by
  split at h <;> split at h <;> omega
theorem dpL {K : PySem.W.Frag} {H : Hp} {t : Addr} {xs : List V} {ds : List PyData} (n : H t = none) (h : DpAll K H xs ds) : Dp K (upd H t (.lst xs)) (.ref t) (.list ds) := .lst (.inl (.inl upd_same)) (dpA_same (same_upd n) h)
theorem range_bounds {L : Nat} : -(2 ^ 62) ≤ (if (if (2 : Int) < (L : Int) then (2 : Int) else (L : Int)) > 1 then (if (2 : Int) < (L : Int) then (2 : Int) else (L : Int)) else 1) ∧ (if (if (2 : Int) < (L : Int) then (2 : Int) else (L : Int)) > 1 then (if (2 : Int) < (L : Int) then (2 : Int) else (L : Int)) else 1) < 2 ^ 62 := by
  split <;> split <;> omega
theorem op_P {r : R2} {ta tb : TE} {σ : L2.St} {H : Hp} {Q : VK} (P1 : V → Hp → Prop) (P2 : V → Hp → V → Hp → Prop) (h1 : ∀ Q' : VK, (∀ v H', P1 v H' → Q' v H') → ta σ H Q')
    (h2 : ∀ v H1, P1 v H1 → ∀ Q' : VK, (∀ u H', P2 v H1 u H' → Q' u H') → tb σ H1 Q') (k : ∀ v H1 u H2, P1 v H1 → P2 v H1 u H2 → r v u H2 Q) : tOp r ta tb σ H Q :=
  h1 _ fun v H1 p1 => h2 v H1 p1 _ fun u H2 p2 => k v H1 u H2 p1 p2
theorem ifop_P {r : R2} {ta tb : TE} {t1 t2 : TS} {D : Ends} {σ : L2.St} {H : Hp} (P1 : V → Hp → Prop) (P2 : V → Hp → V → Hp → Prop) (h1 : ∀ Q' : VK, (∀ v H', P1 v H' → Q' v H') → ta σ H Q')
    (h2 : ∀ v H1, P1 v H1 → ∀ Q' : VK, (∀ u H', P2 v H1 u H' → Q' u H') → tb σ H1 Q') (k : ∀ v H1 u H2, P1 v H1 → P2 v H1 u H2 → r v u H2 fun x H' => ∃ b, x = .bl b ∧ if b = true then t1 D σ H' else t2 D σ H') : tIfS (tTest (tOp r ta tb)) t1 t2 D σ H :=
  op_P P1 P2 h1 h2 k
theorem ifor_P {r : R2} {ta tb : TE} {c2 : TT} {t1 t2 : TS} {D : Ends} {σ : L2.St} {H : Hp} (P1 : V → Hp → Prop) (P2 : V → Hp → V → Hp → Prop) (h1 : ∀ Q' : VK, (∀ v H', P1 v H' → Q' v H') → ta σ H Q')
    (h2 : ∀ v H1, P1 v H1 → ∀ Q' : VK, (∀ u H', P2 v H1 u H' → Q' u H') → tb σ H1 Q') (k : ∀ v H1 u H2, P1 v H1 → P2 v H1 u H2 → r v u H2 fun x H' => ∃ b, x = .bl b ∧ if b = true then (if true = true then t1 D σ H' else t2 D σ H') else tIfS c2 t1 t2 D σ H') : tIfS (tOr (tTest (tOp r ta tb)) c2) t1 t2 D σ H :=
  h1 _ fun v H1 p1 => h2 v H1 p1 _ fun u H2 p2 => k v H1 u H2 p1 p2
/-! ### the law of cells and states -/
def rOwnS (C : Addr) (sp : Sp) : R2 := fun x y H Q => ∃ a dx fs z, x = .ref a ∧ y = .str z ∧ H a = some (.ins C dx fs) ∧ sp [x, y] H Q E0
theorem op_ownS {X : Cx} {n : Nat} {C g : Addr} {fd : FuncData} {ps : List Str} {sp : Sp} {op : CmpOp} (hst : PySem.W.notFirst X.K C (.type "str") = true) (hs : PySem.W.findIn X.K (.ref C) (cmpInfo op).2.1 = some (some (.ref g))) (hf : PySem.W.isFn X.K (.ref g) = true) (F : FnOk X.prog X.w X.K X.mg X.base CX0 n g fd ps sp) (hb : Binds X.K fd ps []) (hr : Room n X.A)
    (hop : ∀ a b, compareOp op a b = richCompare op a b := by intro _ _; rfl) : OpR X (compareOp op) (rOwnS C sp) := by
  intro pins s σ H x y v u Q I rx ry h
  obtain ⟨a, dx, fs, z, rfl, rfl, ea, q⟩ := h
  cases (show v = Value.ref a from rx)
  obtain ⟨t, et⟩ := (show ∃ t, u = Value.str z t from ry)
  cases et
  obtain ⟨mA, J, _⟩ := ins_get I.hok ea
  obtain ⟨od, J, _⟩ := J.look
  obtain ⟨m, hF⟩ := I.fr
  rw [hop]
  refine PySem.W.cmp_K (op := op) (tb := .type "str") hr.units0 hF I.ok.mod.kin J (PySem.W.Looks.of_pure rfl) hst hs hf ?_
  exact wpAny_mono (run_fn (vs := [.ref a, .str z]) F hr hb .nil pass0 I (.cons rfl (.cons ry .nil)) q) (fun w s' ⟨z', H', I', rz, qz⟩ => SlX.cmpback rz ⟨z', H', I', rz, qz⟩) fun _ _ x => x
theorem cut_names {zs : List Str} (h4 : zs.length = 4) {d : Int} (d0 : 0 ≤ d) (d5 : d < 5) : cutV (zs.map V.str) none (some d) = (zs.take d.toNat).map V.str := by
  match zs, h4 with
  | [a, b, c, e], _ => rcases (show d = 0 ∨ d = 1 ∨ d = 2 ∨ d = 3 ∨ d = 4 by omega) with h | h | h | h | h <;> subst h <;> rfl
abbrev sLaw : Stmt := topS 23
theorem scLaw : FnScope ["_law_script", "_law_k", "_law_pool_here", "_law_names_here", "_law_kinds", "_law_cells", "_law_odd", "_law_state", "_law_at", "_law_bent", "_law_name", "_law_kind", "_law_cell"] ["_law_script"] (defScope sLaw) := ⟨rfl, rfl, rfl, by decide +kernel, rfl, by decide +kernel, by decide +kernel⟩
def spLaw (K : PySem.W.Frag) : Sp := fun vs H Q _ => ∃ (a : Addr) (ns : List Int), vs = [.ref a] ∧ SqL K H a (ns.map V.int) ∧ ns.length ≤ 63 ∧ ∀ H', Q (.bl true) H'
/-- the class Cell, as the law makes and compares it -/
structure CelM (P : Program) (w : World) (K : PySem.W.Frag) (mg : Str → Option Value) (base : Heap) (C CP f g : Addr) (fd fg : FuncData) : Prop where
  T : CelC K mg C
  make : Mk K C f
  ok : FnOk P w K mg base (L2.CX P w) 3 f fd ["self", "name", "kind"] (spCell K C CP)
  bi : Binds K fd ["self", "name", "kind"] []
  eq_ : PySem.W.findIn K (.ref C) (cmpInfo .Eq).2.1 = some (some (.ref g))
  eqf : PySem.W.isFn K (.ref g) = true
  eqo : FnOk P w K mg base CX0 1 g fg ["self", "other"] (spCellEq C)
  eqb : Binds K fg ["self", "other"] []
theorem cell_te {K : PySem.W.Frag} {C CP : Addr} {H : Hp} {Q : VK} {n k : Str} {ta tb : TE} {σ : L2.St} (ho : cellOut (.str n) (.str k) = none) (hz : szD (.str n) = true) (a1 : ∀ Q' : VK, Q' (.str n) H → ta σ H Q') (a2 : ∀ Q' : VK, Q' (.str k) H → tb σ H Q') (h : ∀ x H', H x = none → Same H H' → CellAt H' C x n k → Q (.ref x) H') :
    tMake C (spCell K C CP) [] (fun _ _ _ => False) (tCons ta (tCons tb tNil)) σ H Q := a1 _ (a2 _ fun x dx nx nd ne => by
  refine ⟨x, dx, .str n, .str k, .str n, .str k, rfl, upd_same, .str n, .str k, hz, .inr ⟨n, k, rfl, rfl, ho, fun H1 fs s1 l1 l2 => ⟨rfl, ?_⟩⟩⟩
  have s2 : Same H (upd H1 x (.ins C dx fs)) := fun b o e => by
    have nb := ne_of_none e nx
    rw [upd_ne nb]
    exact s1 _ _ (by rw [upd_ne nb, upd_ne (ne_of_none e nd)]; exact e)
  exact h x _ nx s2 ⟨dx, fs, upd_same, l1, l2⟩)
theorem paired_app {α β : Type} {R : α → β → Prop} : ∀ {xs us : List α} {ys ws : List β}, Paired R xs ys → Paired R us ws → Paired R (xs ++ us) (ys ++ ws)
  | _, _, _, _, .nil, h => h
  | _, _, _, _, .cons a t, h => .cons a (paired_app t h)
theorem prs_strs {zs : List Str} {H : Hp} : Prs DFlat (zs.map V.str) (zs.map V.str) H := ⟨rfl, fun i x y h1 h2 => by
  rw [h1] at h2
  cases h2
  rw [List.getElem?_map] at h1
  obtain ⟨z, _, rfl⟩ := Option.map_eq_some_iff.mp h1
  exact ⟨rfl, rfl, (beq_self_eq_true z : (z == z) = true)⟩⟩
theorem prs_st {ns : List Str} {ys us : List V} {H : Hp} (l : ys.length = us.length) (nd : ns.Nodup) (h : StAll H ns ys) (g : StAll H ns us) : Prs DSt ys us H := ⟨l, fun i x y h1 h2 => by
  obtain ⟨p, rfl, e1⟩ := h i x h1
  obtain ⟨r, rfl, e2⟩ := g i y h2
  exact ⟨p, r, ns, i, rfl, rfl, e1, e2, nd⟩⟩
def fiveK : List (Key × V) := [(.inr "zzzzzzzz", .int 0), (.inr "y", .int 1), (.inr "x", .int 2), (.inr "w", .int 0), (.inr "v", .int 1)]
theorem dat_ints {K : PySem.W.Frag} {H : Hp} {kvs : List (Key × V)} (h : ∀ kv ∈ kvs, ∃ i : Int, kv.2 = .int i) : DatK K H kvs := fun n u e => by
  unfold valV at e
  obtain ⟨kv, hkv, rfl⟩ := Option.map_eq_some_iff.mp e
  obtain ⟨i, hi⟩ := h kv (List.mem_of_find?_eq_some hkv)
  rw [hi]
  exact ⟨_, .int i, rfl⟩
theorem prs_true {H : Hp} : Prs DFlat [V.bl true] [V.bl true] H := ⟨rfl, fun i x y h1 h2 => by
  rw [h1] at h2
  cases h2
  cases i with
  | zero =>
    cases h1
    exact ⟨rfl, rfl, rfl⟩
  | succ i => simp at h1⟩
theorem five_len : (mergeK [] fiveK).length = 5 := by decide +kernel
theorem five_is : mergeK [] fiveK = fiveK := by decide +kernel
theorem five_dat {K : PySem.W.Frag} {H : Hp} : DatK K H (mergeK [] fiveK) := by
  rw [five_is]
  refine dat_ints fun kv hkv => ?_
  simp only [fiveK, List.mem_cons, List.not_mem_nil, or_false] at hkv
  rcases hkv with h | h | h | h | h <;> subst h <;> exact ⟨_, rfl⟩
theorem five_out {ns : List Str} (h : ns.length ≤ 4) : chkOut ns (mergeK [] fiveK) = some .non := by
  unfold chkOut
  rw [if_neg (by rw [five_len]; omega)]
/-- what the law takes for no state -/
theorem odd_state {K : PySem.W.Frag} {H : Hp} {l pd : Addr} (hl : SqL K H l []) : ∀ (k : Nat) (v : V), [V.non, .int 5, .ref l, .str "ab", .ref pd][k]? = some v → (∃ d, Dp K H v d) ∨ v = .ref pd
  | 0, _, e => by cases e; exact .inl ⟨_, .non⟩
  | 1, _, e => by cases e; exact .inl ⟨_, .int 5⟩
  | 2, _, e => by cases e; exact .inl ⟨_, .lst hl .nil⟩
  | 3, _, e => by cases e; exact .inl ⟨_, .str "ab"⟩
  | 4, _, e => by cases e; exact .inr rfl
  | k + 5, _, e => by simp at e
theorem nb_self {v : V} {A B : Prop} (b : B) : if (!decide (v = v)) = true then A else B := by
  rw [decide_eq_true rfl]
  exact iteF b
theorem krow_dp {K : PySem.W.Frag} {H : Hp} : DpAll K H (kindRow.map V.str) (kindRow.map PyData.str) := .cons (.str _) (.cons (.str _) (.cons (.str _) .nil))
/-- what the law takes for no name and no kind -/
theorem odd_name {K : PySem.W.Frag} {H : Hp} {l : Addr} (hl : SqL K H l [.str "a"]) : ∀ (k : Nat) (v : V), [V.non, .int 5, .str "", .str "A", .str "abcdefghi", .str "a1", .ref l][k]? = some v → ∃ d, Dp K H v d ∧ szD d = true ∧ cellOut d .none = some "name" ∧ cellOut (.str "a") d = some "kind"
  | 0, _, e => by cases e; exact ⟨_, .non, by decide +kernel, by decide +kernel, by decide +kernel⟩
  | 1, _, e => by cases e; exact ⟨_, .int 5, by decide +kernel, by decide +kernel, by decide +kernel⟩
  | 2, _, e => by cases e; exact ⟨_, .str "", by decide +kernel, by decide +kernel, by decide +kernel⟩
  | 3, _, e => by cases e; exact ⟨_, .str "A", by decide +kernel, by decide +kernel, by decide +kernel⟩
  | 4, _, e => by cases e; exact ⟨_, .str "abcdefghi", by decide +kernel, by decide +kernel, by decide +kernel⟩
  | 5, _, e => by cases e; exact ⟨_, .str "a1", by decide +kernel, by decide +kernel, by decide +kernel⟩
  | 6, _, e => by cases e; exact ⟨_, .lst hl (.cons (.str "a") .nil), by decide +kernel, by decide +kernel, by decide +kernel⟩
  | k + 7, _, e => by simp at e
/-- what the law takes for no value -/
theorem odd_value {K : PySem.W.Frag} {H : Hp} : ∀ (k : Nat) (v : V), [V.non, .int (-1), .int 3, .bl true, .str "1"][k]? = some v → ∃ d, Dp K H v d ∧ szD d = true ∧ isValV v = false
  | 0, _, e => by cases e; exact ⟨_, .non, by decide +kernel, by decide +kernel⟩
  | 1, _, e => by cases e; exact ⟨_, .int (-1), by decide +kernel, by decide +kernel⟩
  | 2, _, e => by cases e; exact ⟨_, .int 3, by decide +kernel, by decide +kernel⟩
  | 3, _, e => by cases e; exact ⟨_, .bl true, by decide +kernel, by decide +kernel⟩
  | 4, _, e => by cases e; exact ⟨_, .str "1", by decide +kernel, by decide +kernel⟩
  | k + 5, _, e => by simp at e
theorem name_sz {z : Str} (h : isName (.str z) = true) : szD (.str z) = true := by
  have h1 : (decide (1 ≤ (z.length : Int)) && decide ((z.length : Int) ≤ 8) && z.cps.toList.all lowCode) = true := h
  rw [Bool.and_eq_true, Bool.and_eq_true] at h1
  have h2 := of_decide_eq_true h1.1.2
  show decide (z.length ≤ 1000) = true
  exact decide_eq_true (by omega)
theorem made_none {n k : Str} (hn : isName (.str n) = true) (hk : k ∈ kindRow) : cellOut (.str n) (.str k) = none := by
  unfold cellOut
  rw [hn]
  show (if decide (k ∈ kindRow) = true then none else some ("kind" : Str)) = none
  rw [decide_eq_true hk]
  rfl
theorem big_z {ns : List Str} (h : ∀ z ∈ ns, isName (.str z) = true) : ("Z" : Str) ∉ ns := fun m => by
  have := h _ m
  exact absurd this (by decide +kernel)
structure LawFns (P : Program) (w : World) (K : PySem.W.Frag) (mg : Str → Option Value) (base : Heap) (C fPl fDr fPk fNm fLs fRf fCk fSt : Addr) (dPl dDr dPk dNm dLs dRf dCk dSt : FuncData) : Prop where
  Pl : Fun K "_law_pool" "_law_pool" sPool fPl dPl
  Dr : Fun K "_law_draw" "_law_draw" sDraw fDr dDr
  Pk : Fun K "_law_pick" "_law_pick" sPick fPk dPk
  Nm : Fun K "_law_names" "_law_names" sLNames fNm dNm
  kLs : PySem.W.keepIn K (.ref fLs) = true
  kRf : PySem.W.keepIn K (.ref fRf) = true
  kCk : PySem.W.keepIn K (.ref fCk) = true
  kSt : PySem.W.keepIn K (.ref fSt) = true
  bPl : Binds K dPl ["_law_script", "_law_k"] []
  bDr : Binds K dDr ["_law_pool_here", "_law_many"] []
  bPk : Binds K dPk ["_law_pool_here", "_law_row"] []
  bNm : Binds K dNm ["_law_pool_here", "_law_count"] []
  bLs : Binds K dLs ["_law_cells"] []
  bRf : Binds K dRf ["_law_name", "_law_kind"] []
  bCk : Binds K dCk ["_law_cells", "_law_state"] []
  bSt : Binds K dSt ["cells"] []
  gPl : mg "_law_pool" = some (.ref fPl)
  gDr : mg "_law_draw" = some (.ref fDr)
  gPk : mg "_law_pick" = some (.ref fPk)
  gNm : mg "_law_names" = some (.ref fNm)
  gLs : mg "_law_states" = some (.ref fLs)
  gRf : mg "_law_refused" = some (.ref fRf)
  gCk : mg "_law_checked" = some (.ref fCk)
  gSt : mg "states_of" = some (.ref fSt)
  GLs : FnOk P w K mg base CX0 1 fLs dLs ["_law_cells"] (spLSt K)
  GRf : FnOk P w K mg base CX0 5 fRf dRf ["_law_name", "_law_kind"] (spLRef K)
  GCk : FnOk P w K mg base CX0 5 fCk dCk ["_law_cells", "_law_state"] (spLChk K C)
  GSt : GFn P w K mg base 2 fSt dSt ["cells"] (spStates K C)
section
variable {P : Program} {w : World} {K : PySem.W.Frag} {mg : Str → Option Value} {base : Heap}
theorem ok_law {C CP fC gE fPl fDr fPk fNm fLs fRf fCk fSt f : Addr} {fd dC dE dPl dDr dPk dNm dLs dRf dCk dSt : FuncData} (F : Fun K "law" "law" sLaw f fd) (M : Blt mg) (R : KindT K mg) (L : CelM P w K mg base C CP fC gE dC dE) (W : LawFns P w K mg base C fPl fDr fPk fNm fLs fRf fCk fSt dPl dDr dPk dNm dLs dRf dCk dSt) : FnG P w K mg base 6 f fd ["_law_script"] (spLaw K) := by
  obtain ⟨aR, gR, hR⟩ := R
  have GP := ok_pool (P := P) (w := w) (base := base) W.Pl M
  have GD := ok_draw (P := P) (w := w) (base := base) W.Dr M
  have GK := ok_pick (P := P) (w := w) (base := base) W.Pk M W.Dr W.bDr W.gDr
  have GN := ok_lnames (P := P) (w := w) (base := base) W.Nm M W.Dr W.bDr W.gDr W.Pk W.bPk W.gPk
  refine Fun.okG F scLaw (fun vs H Q h => ?_) (fun cdv A outer s H vs Q gu hr h => ?_)
  · obtain ⟨a, ns, rfl, _⟩ := h
    rfl
  · obtain ⟨a, ns0, rfl, hS, hlen, q⟩ := h
    have hr1 : Room 1 (A.deeper (envOfC "law" (defScope sLaw) s.heap.objs.size f cdv)) := hr.mono (by decide)
    have hr2 : Room 2 (A.deeper (envOfC "law" (defScope sLaw) s.heap.objs.size f cdv)) := hr.mono (by decide)
    have hr3 : Room 3 (A.deeper (envOfC "law" (defScope sLaw) s.heap.objs.size f cdv)) := hr.mono (by decide)
    have hr4 : Room 4 (A.deeper (envOfC "law" (defScope sLaw) s.heap.objs.size f cdv)) := hr.mono (by decide)
    have hr5 : Room 5 (A.deeper (envOfC "law" (defScope sLaw) s.heap.objs.size f cdv)) := hr.mono (by decide)
    refine ⟨_, pss_cons (ps_for PassesOwn.never rfl (pi_range1 (by rfl) M.range (pa_cons (pe_callB (call_max2 rfl) (by rfl) M.max (by decide +kernel) (pa_cons pe_int (pa_cons (pe_callB (call_min2 rfl) (by rfl) M.min (by decide +kernel) (pa_cons (pe_callB call_len_seq (by rfl) M.len PySem.boot_len (pa_cons (pv 0) pa_nil)) (pa_cons pe_int pa_nil))) pa_nil))) pa_nil)) (pg_name (i := 1) scLaw.nd rfl (.inl rfl))
        (pss_cons (ps_set (i := 2) scLaw.nd rfl (.inr rfl) (pe_call GP hr1 (by rfl) W.gPl W.Pl.kp W.bPl .nil pass0 (pa_cons (pv 0) (pa_cons (pv 1) pa_nil))))
        (pss_cons (ps_set (i := 3) scLaw.nd rfl (.inr rfl) (pe_slice sl_list (pe_call GN hr3 (by rfl) W.gNm W.Nm.kp W.bNm .nil pass0 (pa_cons (pv 2) (pa_cons pe_int pa_nil))) po_none (po_some (pe_call GD hr1 (by rfl) W.gDr W.Dr.kp W.bDr .nil pass0 (pa_cons (pv 2) (pa_cons pe_int pa_nil))))))
        (pss_cons (ps_setLc (i := 4) (own := [("_law_name", 10)]) (g := gName 10) (tt := tYes) (te := tCall (spPick K) [] E0 (tCons (tVar 2) (tCons (tLst (tCons (tC (.str "frozen")) (tCons (tC (.str "setting")) (tCons (tC (.str "table")) tNil)))) tNil))) (by rfl) scLaw.nd rfl rfl (sw_true rfl rfl rfl (by decide +kernel)) (pi_list (pv 3)) (blkOk_by (own := [("_law_name", 10)]) (N := ["_law_script", "_law_k", "_law_pool_here", "_law_names_here", "_law_kinds", "_law_cells", "_law_odd", "_law_state", "_law_at", "_law_bent", "_law_name", "_law_kind", "_law_cell"]) (sc := defScope sLaw) (by decide +kernel)) (fun _ _ _ _ _ => pg_name (i := 10) scLaw.nd rfl (Or.inl rfl)) (fun _ _ _ _ _ => pts_nil) (fun _ _ _ _ _ => (pe_call GK hr2 (by rfl) W.gPk W.Pk.kp W.bPk .nil pass0 (pa_cons (pv 2) (pa_cons (pe_lst (pa_cons pe_str (pa_cons pe_str (pa_cons pe_str pa_nil)))) pa_nil)))))
        (pss_cons (ps_setLc (i := 5) (own := [("_law_name", 10), ("_law_kind", 11)]) (g := gTup K 2 (gCons (gName 10) (gCons (gName 11) gNil))) (tt := tYes) (te := tMake C (spCell K C CP) [] (fun _ _ _ => False) (tCons (tVar 10) (tCons (tVar 11) tNil))) (by rfl) scLaw.nd rfl rfl (sw_true rfl rfl rfl (by decide +kernel)) (pi_zip (by rfl) M.zip (pa_cons (pv 3) (pa_cons (pv 4) pa_nil))) (blkOk_by (own := [("_law_name", 10), ("_law_kind", 11)]) (N := ["_law_script", "_law_k", "_law_pool_here", "_law_names_here", "_law_kinds", "_law_cells", "_law_odd", "_law_state", "_law_at", "_law_bent", "_law_name", "_law_kind", "_law_cell"]) (sc := defScope sLaw) (by decide +kernel)) (fun _ _ _ _ _ => pg_tup (by rfl) (pgs_cons (pg_name (i := 10) scLaw.nd rfl (Or.inl rfl)) (pgs_cons (pg_name (i := 11) scLaw.nd rfl (Or.inl rfl)) pgs_nil))) (fun _ _ _ _ _ => pts_nil) (fun _ _ _ _ _ => pe_make (dvs := []) L.make L.ok hr4 (by rfl) L.T.gC L.bi .nil pass00 (pa_cons (pv 10) (pa_cons (pv 11) pa_nil))))
        (pss_cons (ps_if (PW.pt (pw_or (pt_cmpR (op_neL mon_flat eqG_flat hr1) (pe_lc (own := [("_law_cell", 12)]) (g := gName 12) (tt := tYes) (te := tFld K (tVar 12) "name") (by rfl) scLaw.nd (pi_list (pv 5)) (blkOk_by (own := [("_law_cell", 12)]) (N := ["_law_script", "_law_k", "_law_pool_here", "_law_names_here", "_law_kinds", "_law_cells", "_law_odd", "_law_state", "_law_at", "_law_bent", "_law_name", "_law_kind", "_law_cell"]) (sc := defScope sLaw) (by decide +kernel)) (fun _ _ _ _ _ => pg_name (i := 12) scLaw.nd rfl (Or.inl rfl)) (fun _ _ _ _ _ => pts_nil) (fun _ _ _ _ _ => pe_fld (pv 12) (by rfl))) (pv 3) (nomark _)) (pw_or (pt_cmpR (op_neL mon_flat eqG_flat hr1) (pe_lc (own := [("_law_cell", 12)]) (g := gName 12) (tt := tYes) (te := tFld K (tVar 12) "kind") (by rfl) scLaw.nd (pi_list (pv 5)) (blkOk_by (own := [("_law_cell", 12)]) (N := ["_law_script", "_law_k", "_law_pool_here", "_law_names_here", "_law_kinds", "_law_cells", "_law_odd", "_law_state", "_law_at", "_law_bent", "_law_name", "_law_kind", "_law_cell"]) (sc := defScope sLaw) (by decide +kernel)) (fun _ _ _ _ _ => pg_name (i := 12) scLaw.nd rfl (Or.inl rfl)) (fun _ _ _ _ _ => pts_nil) (fun _ _ _ _ _ => pe_fld (pv 12) (by rfl))) (pv 4) (nomark _)) (pw_or1 (pt_cmpR (op_neD hr.units) (pe_glob (v := .ref aR) (by rfl) gR rfl) (pe_tup (pa_cons pe_str (pa_cons pe_str (pa_cons pe_str pa_nil)))) (nomark _)))))) (pss_one (ps_ret pe_bl)) pss_nil)
        (pss_cons (ps_if (PW.pt (pw_or (pt_cmpR (op_neL mon_st eqG_st hr2) (pe_listG (E := fun _ _ _ => False) (pgen_call (dvs := []) W.GSt hr2 (by rfl) W.gSt W.kSt W.bSt .nil (pa_cons (pv 5) pa_nil)) pass00 (fun _ _ _ h => h.elim) hr5 (by rfl) M.list (by decide +kernel)) (pe_call W.GLs hr1 (by rfl) W.gLs W.kLs W.bLs .nil pass0 (pa_cons (pv 3) pa_nil)) (nomark _)) (pw_or1 (pt_cmpR (op_neL mon_st eqG_st hr2) (pe_listG (E := fun _ _ _ => False) (pgen_call (dvs := []) W.GSt hr2 (by rfl) W.gSt W.kSt W.bSt .nil (pa_cons (pe_callTy call_tuple_of (by rfl) M.tuple (by decide +kernel) (pa_cons (pv 5) pa_nil)) pa_nil)) pass00 (fun _ _ _ h => h.elim) hr5 (by rfl) M.list (by decide +kernel)) (pe_call W.GLs hr1 (by rfl) W.gLs W.kLs W.bLs .nil pass0 (pa_cons (pv 3) pa_nil)) (nomark _))))) (pss_one (ps_ret pe_bl)) pss_nil)
        (pss_cons (ps_for PassesOwn.never rfl (pi_list (pe_lst (pa_cons pe_non (pa_cons pe_int (pa_cons pe_str (pa_cons pe_str (pa_cons pe_str (pa_cons pe_str (pa_cons (pe_lst (pa_cons pe_str pa_nil)) pa_nil))))))))) (pg_name (i := 6) scLaw.nd rfl (.inl rfl)) (pss_one (ps_if (PW.pt (pw_or (pt_cmpR op_ne (pe_call W.GRf hr5 (by rfl) W.gRf W.kRf W.bRf .nil pass0 (pa_cons (pv 6) (pa_cons pe_non pa_nil))) pe_str (nomark _)) (pw_or1 (pt_cmpR op_ne (pe_call W.GRf hr5 (by rfl) W.gRf W.kRf W.bRf .nil pass0 (pa_cons pe_str (pa_cons (pv 6) pa_nil))) pe_str (nomark _))))) (pss_one (ps_ret pe_bl)) pss_nil)))
        (pss_cons (ps_if (PW.pt (pw_or (pt_cmpR (op_neI L.T.ne L.T.so L.T.nf L.eq_ L.eqf L.eqo L.eqb hr2) (pe_make (dvs := []) L.make L.ok hr4 (by rfl) L.T.gC L.bi .nil pass00 (pa_cons pe_str (pa_cons pe_str pa_nil))) (pe_make (dvs := []) L.make L.ok hr4 (by rfl) L.T.gC L.bi .nil pass00 (pa_cons pe_str (pa_cons pe_str pa_nil))) (nomark _)) (pw_or (pt_cmpR (op_ownI L.eq_ L.eqf L.eqo L.eqb hr1) (pe_make (dvs := []) L.make L.ok hr4 (by rfl) L.T.gC L.bi .nil pass00 (pa_cons pe_str (pa_cons pe_str pa_nil))) (pe_make (dvs := []) L.make L.ok hr4 (by rfl) L.T.gC L.bi .nil pass00 (pa_cons pe_str (pa_cons pe_str pa_nil))) (nomark _)) (pw_or1 (pt_cmpR (op_ownS L.T.nf L.eq_ L.eqf L.eqo L.eqb hr1) (pe_make (dvs := []) L.make L.ok hr4 (by rfl) L.T.gC L.bi .nil pass00 (pa_cons pe_str (pa_cons pe_str pa_nil))) pe_str (nomark _)))))) (pss_one (ps_ret pe_bl)) pss_nil)
        (pss_cons (ps_set (i := 7) scLaw.nd rfl (.inr rfl) (pe_call GK hr2 (by rfl) W.gPk W.Pk.kp W.bPk .nil pass0 (pa_cons (pv 2) (pa_cons (pe_call W.GLs hr1 (by rfl) W.gLs W.kLs W.bLs .nil pass0 (pa_cons (pv 3) pa_nil)) pa_nil))))
        (pss_cons (ps_if (pt_cmpR (op_neL mon_flat eqG_flat hr1) (pe_call W.GCk hr5 (by rfl) W.gCk W.kCk W.bCk .nil pass0 (pa_cons (pv 5) (pa_cons (pv 7) pa_nil))) (pe_lst (pa_cons pe_bl pa_nil)) (nomark _)) (pss_one (ps_ret pe_bl)) pss_nil)
        (pss_cons (ps_for PassesOwn.never rfl (pi_list (pe_lst (pa_cons pe_non (pa_cons pe_int (pa_cons (pe_lst pa_nil) (pa_cons pe_str (pa_cons (pe_disp (pps_cons pe_str pe_int (pps_cons pe_str pe_int (pps_cons pe_str pe_int (pps_cons pe_str pe_int (pps_cons pe_str pe_int pps_nil))))) (by rfl) (by rfl) (by simp) (by decide)) pa_nil))))))) (pg_name (i := 6) scLaw.nd rfl (.inl rfl)) (pss_one (ps_if (pt_cmp (pc_notN (pe_call W.GCk hr5 (by rfl) W.gCk W.kCk W.bCk .nil pass0 (pa_cons (pv 5) (pa_cons (pv 6) pa_nil))))) (pss_one (ps_ret pe_bl)) pss_nil)))
        (pss_one (ps_for PassesOwn.never rfl (pi_range1 (by rfl) M.range (pa_cons (pe_callB call_len_seq (by rfl) M.len PySem.boot_len (pa_cons (pv 3) pa_nil)) pa_nil)) (pg_name (i := 8) scLaw.nd rfl (.inr rfl)) (pss_cons (ps_for PassesOwn.never rfl (pi_list (pe_lst (pa_cons pe_non (pa_cons (pe_un un_neg pe_int) (pa_cons pe_int (pa_cons pe_bl (pa_cons pe_str pa_nil))))))) (pg_name (i := 6) scLaw.nd rfl (.inl rfl)) (pss_cons (ps_set (i := 9) scLaw.nd rfl (.inl rfl) (pe_callTy call_dictD (by rfl) M.dict (by decide +kernel) (pa_cons (pv 7) pa_nil))) (pss_cons (ps_dput (hu_of hr) (pv 9) (pe_ix ix_list (pv 3) (pv 8) (fun _ _ => rfl)) (pv 6) (by rfl)) (pss_one (ps_if (pt_cmpR op_ne (pe_call W.GCk hr5 (by rfl) W.gCk W.kCk W.bCk .nil pass0 (pa_cons (pv 5) (pa_cons (pv 9) pa_nil))) (pe_ix ix_list (pv 3) (pv 8) (fun _ _ => rfl)) (nomark _)) (pss_one (ps_ret pe_bl)) pss_nil)))))
        (pss_cons (ps_set (i := 9) scLaw.nd rfl (.inl rfl) (pe_callTy (call_dictP rfl) (by rfl) M.dict (by decide +kernel) (pa_cons (pe_lc (own := [("_law_name", 10)]) (g := gName 10) (tt := tTest (tOp rNe (tVar 10) (tOp (rIxL K) (tVar 3) (tVar 8)))) (te := tTup (tCons (tVar 10) (tCons (tDGet (tVar 7) (tVar 10)) tNil))) (by rfl) scLaw.nd (pi_list (pv 3)) (blkOk_by (own := [("_law_name", 10)]) (N := ["_law_script", "_law_k", "_law_pool_here", "_law_names_here", "_law_kinds", "_law_cells", "_law_odd", "_law_state", "_law_at", "_law_bent", "_law_name", "_law_kind", "_law_cell"]) (sc := defScope sLaw) (by decide +kernel)) (fun _ _ _ _ _ => pg_name (i := 10) scLaw.nd rfl (Or.inl rfl)) (fun _ _ _ _ _ => pts_one (pt_cmpR op_ne (pv 10) (pe_ix ix_list (pv 3) (pv 8) (fun _ _ => rfl)) (nomark _))) (fun _ _ _ _ _ => pe_tup (pa_cons (pv 10) (pa_cons (pe_dget (hu_of hr) (pv 7) (pv 10) (fun _ _ => rfl)) pa_nil)))) pa_nil)))
        (pss_cons (ps_if (pt_cmp (pc_notN (pe_call W.GCk hr5 (by rfl) W.gCk W.kCk W.bCk .nil pass0 (pa_cons (pv 5) (pa_cons (pv 9) pa_nil))))) (pss_one (ps_ret pe_bl)) pss_nil)
        (pss_cons (ps_dput (hu_of hr) (pv 9) pe_str pe_int (by rfl))
        (pss_one (ps_if (pt_cmpR op_ne (pe_call W.GCk hr5 (by rfl) W.gCk W.kCk W.bCk .nil pass0 (pa_cons (pv 5) (pa_cons (pv 9) pa_nil))) (pe_ix ix_list (pv 3) (pv 8) (fun _ _ => rfl)) (nomark _)) (pss_one (ps_ret pe_bl)) pss_nil))))))))))))))))))))
      (pss_one (ps_ret pe_bl)), ?_⟩
    refine ⟨.ref a, rfl, a, _, rfl, .inl hS, _, _, rfl, _, _, rfl, _, rfl, range_bounds.1, range_bounds.2, ?_⟩
    refine for_range (lo := 0) (n := _) (fun i σ H' => ∃ y1 y2 y3 y4 y5 y6 y7 y8 y9 y10 y11 y12, σ = [some (.ref a), y1, y2, y3, y4, y5, y6, y7, y8, y9, y10, y11, y12] ∧ Same H H')
      ⟨none, none, none, none, none, none, none, none, none, none, none, none, rfl, Same.refl H⟩ (fun i σ H0 hi hW => ?_) (fun σ H0 hW => q H0)
    obtain ⟨y1, y2, y3, y4, y5, y6, y7, y8, y9, y10, y11, y12, rfl, s0⟩ := hW
    have ht := turns hi
    rw [List.length_map] at ht
    refine ⟨.ref a, rfl, _, rfl, a, ns0, i, (by show ([V.ref a, V.int (0 + (i : Int))] : List V) = _; rw [Int.zero_add]), s0.seq hS, ht.1, ht.2.imp id (fun e => List.eq_nil_of_length_eq_zero e), fun H1 p np s1 hp => ?_⟩
    have nHp : H p = none := s0.free np
    have s01 := s0.trans s1
    -- the names
    refine ⟨.ref p, rfl, p, 4, rfl, by decide, hp, fun r0 zs H2 b2 hp2 er0 hl4 hnm hnd => ?_⟩
    refine ⟨.ref p, rfl, p, 5, rfl, hp2, by decide, by decide, fun d H3 d0 d5 b3 hp3 fr3 => ?_⟩
    have np0 : r0 ≠ p := fun e => by
      obtain ⟨x, y, ep, _⟩ := hp2
      rw [e, ep] at er0
      have e2 := HO.lst.inj (Option.some.inj er0)
      cases zs <;> simp at e2
    refine ⟨d, rfl, r0, _, rfl, .inl (.inl (b3 _ _ er0 np0)), fun r nr => ?_⟩
    rw [cut_names hl4 d0 d5]
    obtain ⟨ns, ens, n4, nd, nmok⟩ : ∃ ns : List Str, zs.take d.toNat = ns ∧ ns.length ≤ 4 ∧ ns.Nodup ∧ ∀ z ∈ ns, isName (.str z) = true := ⟨_, rfl, by rw [List.length_take]; omega, hnd.sublist (List.take_sublist _ _), fun z hz => hnm z (List.mem_of_mem_take hz)⟩
    rw [ens]
    have er : upd H3 r (HO.lst (ns.map V.str)) r = some (.lst (ns.map V.str)) := upd_same
    have b4 : But p H1 (upd H3 r (HO.lst (ns.map V.str))) := (b2.trans b3).trans (But.of (same_upd nr))
    have hp4 := hp3.upd (o := HO.lst (ns.map V.str)) nr
    have nrp : r ≠ p := (hp3.ne nr).symm
    generalize upd H3 r (HO.lst (ns.map V.str)) = H4 at er b4 hp4
    -- the kinds
    refine ⟨_, rfl, r, rfl, ⟨_, .inl (.inl er)⟩, fun kd hkd => ?_⟩
    have nkp : kd ≠ p := (hp4.ne hkd).symm
    refine walk_gen (walk_list (K := K) (a := r) (xs := ns.map V.str)) (fun i H' => But p H4 H' ∧ PoolAt H' p ∧ ∃ ks : List Str, H' kd = some (.lst (ks.map V.str)) ∧ ks.length = i ∧ ∀ k ∈ ks, k ∈ kindRow)
      ⟨But.of (same_upd hkd), hp4.upd hkd, [], upd_same, rfl, fun k h => by cases h⟩ (fun i H' _ w => .inl (.inl (w.1 _ _ er nrp))) (fun i x H5 H6 hi w y => ?_) (fun H5 w => ?_)
    · obtain ⟨b5, hp5, ks, e5, l5, k5⟩ := w
      obtain ⟨rfl, hx⟩ := y
      refine And.intro rfl ?_
      unfold tYes
      refine iteT ?_
      refine ⟨.ref p, rfl, by show 3 ≤ sizeLine; decide, fun l nl => ?_⟩
      have e6 := same_upd (o := HO.lst [V.str "frozen", .str "setting", .str "table"]) nl _ _ e5
      refine ⟨p, l, _, rfl, hp5.upd nl, hp5.ne nl, .inl (.inl (.inl upd_same)), by decide, by decide, fun m hm H7 b7 hp7 fr7 => ?_⟩
      obtain ⟨k, kr, ek⟩ : ∃ k, k ∈ kindRow ∧ [V.str "frozen", .str "setting", .str "table"][m] = V.str k := by
        have hm' : m < 3 := hm
        rcases (show m = 0 ∨ m = 1 ∨ m = 2 by omega) with e | e | e <;> subst e
        · exact ⟨"frozen", by decide, rfl⟩
        · exact ⟨"setting", by decide, rfl⟩
        · exact ⟨"table", by decide, rfl⟩
      rw [ek]
      have e7 := b7 _ _ e6 nkp
      refine ⟨_, e7, ?_, fun b o e nb => ?_, ?_, ks ++ [k], ?_, ?_, fun u hu => ?_⟩
      · rw [List.length_map, l5]
        rw [List.length_map] at hi
        exact Nat.lt_of_le_of_lt (show i ≤ 4 by omega) (by decide)
      · rw [upd_ne (ne_of_none e hkd)]
        exact b7 _ _ (same_upd nl _ _ (b5 _ _ e nb)) nb
      · obtain ⟨x, y, ep, r⟩ := hp7
        exact ⟨x, y, by rw [upd_ne nkp.symm]; exact ep, r⟩
      · rw [upd_same, List.map_append]
        rfl
      · rw [List.length_append, l5]
        rfl
      · rcases List.mem_append.mp hu with hu | hu
        · exact k5 u hu
        · rw [List.mem_singleton.mp hu]
          exact kr
    obtain ⟨b5, hp5, ks, ek, lk, kk⟩ := w
    rw [List.length_map] at lk
    have er5 := b5 _ _ er nrp
    have b15 := b4.trans b5
    -- the cells
    refine ⟨_, rfl, _, rfl, r, kd, _, _, rfl, .inl (.inl er5), .inl (.inl ek), fun cd hcd => ?_⟩
    refine walk_gen (walk_zip (K := K) (a := r) (b := kd) (xs := ns.map V.str) (ys := ks.map V.str) (n := ns.length) (by rw [List.length_map, List.length_map, lk, Nat.min_self])) (fun i H' => Same H5 H' ∧ ∃ xs, H' cd = some (.lst xs) ∧ xs.length = i ∧ ∀ (j : Nat) (v : V), xs[j]? = some v → ∃ b n k, v = V.ref b ∧ ns[j]? = some n ∧ ks[j]? = some k ∧ CellAt H' C b n k)
      ⟨same_upd hcd, [], upd_same, rfl, fun j v e => by simp at e⟩ (fun i H' _ w => ⟨w.1.seq (.inl (.inl er5)), w.1.seq (.inl (.inl ek))⟩) (fun i x H6 H7 hi w y => ?_) (fun H6 w => ?_)
    · obtain ⟨s6, xs, e6, l6, c6⟩ := w
      obtain ⟨T, u, v, rfl, nT, rfl, hu, hv⟩ := y
      dsimp only at hu hv
      rw [List.getElem?_map] at hu hv
      obtain ⟨n, hn, rfl⟩ := Option.map_eq_some_iff.mp hu
      obtain ⟨k, hk, rfl⟩ := Option.map_eq_some_iff.mp hv
      refine ⟨T, _, rfl, .inl (.inl upd_same), rfl, _, _, rfl, _, _, rfl, rfl, And.intro rfl ?_⟩
      unfold tYes
      refine iteT ?_
      have sT := same_upd (o := HO.tup [V.str n, .str k]) nT
      have nmn := nmok n (List.mem_of_getElem? hn)
      refine cell_te (made_none nmn (kk k (List.mem_of_getElem? hk))) (name_sz nmn) (fun Q' hq => ⟨_, rfl, hq⟩) (fun Q' hq => ⟨_, rfl, hq⟩) fun x H8 nx s8 cx => ?_
      have s68 := sT.trans s8
      have e8 := s68 _ _ e6
      have bc : But cd H6 (upd H8 cd (.lst (xs ++ [V.ref x]))) := fun b o e nb => by
        rw [upd_ne nb]
        exact s68 _ _ e
      have nxc : x ≠ cd := fun e => by
        rw [e, sT _ _ e6] at nx
        cases nx
      refine ⟨xs, e8, Nat.lt_of_le_of_lt (show xs.length ≤ 4 by omega) (by decide), fun b o e => bc _ _ (s6 _ _ e) (ne_of_none e hcd), xs ++ [V.ref x], upd_same, by rw [List.length_append, l6]; rfl, fun j v ej => ?_⟩
      by_cases hj : j < xs.length
      · rw [List.getElem?_append_left hj] at ej
        obtain ⟨b, n', k', e1, e2, e3, ca⟩ := c6 j v ej
        exact ⟨b, n', k', e1, e2, e3, ca.but e6 bc⟩
      · have hj2 : j = xs.length := by
          have := (List.getElem?_eq_some_iff.mp ej).1
          rw [List.length_append] at this
          simp at this
          omega
        rw [hj2, List.getElem?_append_right (Nat.le_refl _), Nat.sub_self] at ej
        have e2 := Option.some.inj ej
        subst e2
        obtain ⟨dx, fs, ex, f1, f2⟩ := cx
        exact ⟨x, n, k, rfl, by rw [hj2, l6]; exact hn, by rw [hj2, l6]; exact hk, dx, fs, by rw [upd_ne nxc]; exact ex, f1, f2⟩
    obtain ⟨s6, xs, ec, lx, hcs⟩ := w
    have hC : CellsOf H6 C xs ns ks := ⟨lx, lk, hcs⟩
    have er6 := s6 _ _ er5
    have ek6 := s6 _ _ ek
    have hp6 := hp5.same s6
    have b16 := b15.trans (But.of s6)
    have npc : p ≠ cd := hp5.ne hcd
    -- what cells tell
    have attr : ∀ (f : Str) (zs : List Str) (z1 z6 z7 z8 z9 z10 z11 z12 : Option V) (Hc : Hp), Same H6 Hc → zs.length = xs.length → (∀ (j : Nat) (v : V), xs[j]? = some v → ∃ b dx fs z, v = V.ref b ∧ H6 b = some (.ins C dx fs) ∧ NoAttr K C f ∧ fs.lookup f = some (.str z) ∧ zs[j]? = some z) →
        ∀ Q : VK, (∀ D H', Same Hc H' → H' D = some (.lst (zs.map V.str)) → Q (.ref D) H') → tLc (iList K (tVar 5)) (gName 12) tYes (tFld K (tVar 12) f) [12] [some (.ref a), z1, some (.ref p), some (.ref r), some (.ref kd), some (.ref cd), z6, z7, z8, z9, z10, z11, z12] Hc Q := fun f zs z1 z6 z7 z8 z9 z10 z11 z12 Hc sc lz hf Q hq => by
      refine ⟨_, rfl, cd, rfl, ⟨_, .inl (.inl (sc _ _ ec))⟩, fun D hD => ?_⟩
      refine lc_vals (walk_list (K := K) (a := cd) (xs := xs)) (vs := [12]) (j := 12) (fun i => V.str (zs.getD i (Str.ofString ""))) (by omega) hD (fun x => rfl) (fun H' s' => (sc.trans s').seq (.inl (.inl ec))) (fun i x H7 H8 hi s7 y => ?_) (fun H7 s7 e7 => hq D H7 s7 ?_)
      · obtain ⟨rfl, hx⟩ := y
        obtain ⟨b, dx, fs, z, rfl, eb, na, lz, hz⟩ := hf i x hx
        refine ⟨Same.refl _, fun Q' hq' => ⟨.ref b, rfl, b, C, dx, fs, .str z, rfl, s7 _ _ (sc _ _ eb), L.T.cl, na, lz, ?_⟩⟩
        have e1 : zs.getD i (Str.ofString "") = z := getD_of hz
        rw [e1] at hq'
        exact hq' _ (Same.refl _)
      · rw [e7, ← lz, range_strs]
    refine ifor_P (fun v H' => ∃ D, v = .ref D ∧ Same H6 H' ∧ H' D = some (.lst (ns.map V.str))) (fun v H1' u H' => u = .ref r ∧ H' = H1') (fun Q' hq => attr "name" ns _ _ _ _ _ _ _ _ _ (Same.refl _) lx.symm (fun j v ej => ?_) _ fun D1 H7 s7 e7 => hq _ _ ⟨D1, rfl, s7, e7⟩) (fun v H7 _ Q' hq => ⟨_, rfl, hq _ _ ⟨rfl, rfl⟩⟩) (fun v H7 u H7' w1 w2 => ?_)
    · obtain ⟨b, n, k, rfl, hn, hk, dx, fs, eb, f1, f2⟩ := hcs j v ej
      exact ⟨b, dx, fs, n, rfl, eb, L.T.nn, f1, hn⟩
    obtain ⟨D1, rfl, s7, e7⟩ := w1
    obtain ⟨rfl, rfl⟩ := w2
    refine ⟨⟨D1, r, _, _, rfl, rfl, e7, s7 _ _ er6, prs_strs⟩, fun H8 s8 => ⟨false, rfl, iteF ?_⟩⟩
    refine ifor_P (fun v H' => ∃ D, v = .ref D ∧ Same H8 H' ∧ H' D = some (.lst (ks.map V.str))) (fun v H1' u H' => u = .ref kd ∧ H' = H1') (fun Q' hq => attr "kind" ks _ _ _ _ _ _ _ _ _ (s7.trans s8) (lk.trans lx.symm) (fun j v ej => ?_) _ fun D1 H7 s7 e7 => hq _ _ ⟨D1, rfl, s7, e7⟩) (fun v H7 _ Q' hq => ⟨_, rfl, hq _ _ ⟨rfl, rfl⟩⟩) (fun v H9 u H9' w1 w2 => ?_)
    · obtain ⟨b, n, k, rfl, hn, hk, dx, fs, eb, f1, f2⟩ := hcs j v ej
      exact ⟨b, dx, fs, k, rfl, eb, L.T.nk, f2, hk⟩
    obtain ⟨D2, rfl, s9, e9⟩ := w1
    obtain ⟨rfl, rfl⟩ := w2
    refine ⟨⟨D2, kd, _, _, rfl, rfl, e9, s9 _ _ (s8 _ _ (s7 _ _ ek6)), prs_strs⟩, fun H10 s10 => ⟨false, rfl, iteF ?_⟩⟩
    refine ⟨by show 3 ≤ sizeLine; decide, fun t nt => ⟨.tuple (kindRow.map .str), .tuple (kindRow.map .str), .tup (hR _) krow_dp, .tup (.inl (.inl upd_same)) krow_dp, by decide +kernel, by decide +kernel, _, rfl, ?_⟩⟩
    have ev : PyData.eqv (.tuple (kindRow.map .str)) (.tuple (kindRow.map .str)) = true := SeqAt.eqv_refl _ (by decide +kernel)
    rw [ev]
    refine iteF ?_
    have s11 : Same H6 (upd H10 t (.tup [V.str "frozen", .str "setting", .str "table"])) := s7.trans (s8.trans (s9.trans (s10.trans (same_upd nt))))
    generalize upd H10 t (HO.tup [V.str "frozen", .str "setting", .str "table"]) = H11 at s11
    -- all states
    have ec11 := s11 _ _ ec
    have er11 := s11 _ _ er6
    refine ⟨_, rfl, cd, xs, ns, ks, rfl, .inl (.inl (.inl ec11)), hC.same s11, nd, by omega, fun ys H12 s12 ly sty P1 nP1 => ?_⟩
    have sP1 := same_upd (o := HO.lst ys) nP1
    refine ⟨_, rfl, r, ns, rfl, .inl (.inl (sP1 _ _ (s12 _ _ er11))), nd, by omega, fun p2 us H13 s13 e13 _ lu stu => ?_⟩
    refine ⟨⟨P1, p2, _, _, rfl, rfl, s13 _ _ upd_same, e13, prs_st (ly.trans lu.symm) nd (sty.same (sP1.trans s13)) stu⟩, fun H14 s14 => ⟨false, rfl, iteF ?_⟩⟩
    have s1114 := s12.trans (sP1.trans (s13.trans s14))
    have s614 := s11.trans s1114
    refine ⟨_, rfl, cd, _, rfl, .inl ⟨.inl (.inl (s614 _ _ ec)), fun t2 nt2 => ?_⟩⟩
    have st2 := same_upd (o := HO.tup xs) nt2
    refine ⟨t2, xs, ns, ks, rfl, .inr (.inl (.inl upd_same)), hC.same (s614.trans st2), nd, by omega, fun ys2 H15 s15 ly2 sty2 P2 nP2 => ?_⟩
    have sP2 := same_upd (o := HO.lst ys2) nP2
    have s615 := s614.trans (st2.trans (s15.trans sP2))
    refine ⟨_, rfl, r, ns, rfl, .inl (.inl (s615 _ _ er6)), nd, by omega, fun p3 us2 H16 s16 e16 _ lu2 stu2 => ?_⟩
    refine ⟨⟨P2, p3, _, _, rfl, rfl, s16 _ _ upd_same, e16, prs_st (ly2.trans lu2.symm) nd (sty2.same (sP2.trans s16)) stu2⟩, fun H17 s17 => ⟨false, rfl, iteF ?_⟩⟩
    have s617 := s615.trans (s16.trans s17)
    clear attr
    -- what is no name, no kind
    refine ⟨by show 1 ≤ sizeLine; decide, fun li nli => ⟨by show 7 ≤ sizeLine; decide, fun lo nlo => ⟨lo, rfl, ⟨_, .inl (.inl upd_same)⟩, ?_⟩⟩⟩
    have eli := same_upd (o := HO.lst [V.non, .int 5, .str "", .str "A", .str "abcdefghi", .str "a1", .ref li]) nlo _ _ (upd_same (H := H17) (a := li) (o := HO.lst [V.str "a"]))
    have elo := upd_same (H := upd H17 li (HO.lst [V.str "a"])) (a := lo) (o := HO.lst [V.non, .int 5, .str "", .str "A", .str "abcdefghi", .str "a1", .ref li])
    have s18 := s617.trans ((same_upd (o := HO.lst [V.str "a"]) nli).trans (same_upd (o := HO.lst [V.non, .int 5, .str "", .str "A", .str "abcdefghi", .str "a1", .ref li]) nlo))
    generalize upd (upd H17 li (HO.lst [V.str "a"])) lo (HO.lst [V.non, .int 5, .str "", .str "A", .str "abcdefghi", .str "a1", .ref li]) = H18 at eli elo s18
    refine for_list (K := K) (a := lo) (xs := [V.non, .int 5, .str "", .str "A", .str "abcdefghi", .str "a1", .ref li]) (fun k σ H' => ∃ z1 z4 z6 z7 z8 z9 z10 z11 z12, σ = [some (.ref a), z1, some (.ref p), some (.ref r), z4, some (.ref cd), z6, z7, z8, z9, z10, z11, z12] ∧ Same H18 H')
      ⟨_, _, _, _, _, _, _, _, _, rfl, Same.refl _⟩ (fun k σ H' _ w => ?_) (fun k v σ H' hk w => ?_) (fun σ H19 w => ?_)
    · obtain ⟨_, _, _, _, _, _, _, _, _, _, s'⟩ := w
      exact .inl (.inl (s' _ _ elo))
    · obtain ⟨z1, z4, z6, z7, z8, z9, z10, z11, z12, rfl, s19⟩ := w
      obtain ⟨d, hd, zd, o1, o2⟩ := odd_name (K := K) (H := H') (.inl (.inl (s19 _ _ eli))) k v hk
      refine ⟨_, rfl, v, .non, d, .none, "name", rfl, hd, .non, zd, o1, fun H20 s20 => ⟨rfl, _, rfl, nb_self ?_⟩⟩
      refine ⟨_, rfl, .str "a", v, .str "a", d, "kind", rfl, .str "a", dp_same s20 hd, by decide +kernel, o2, fun H21 s21 => ⟨rfl, _, rfl, nb_self ?_⟩⟩
      exact ⟨_, _, _, _, _, _, _, _, _, rfl, s19.trans (s20.trans s21)⟩
    obtain ⟨z1, z4, z6, z7, z8, z9, z10, z11, z12, rfl, s19⟩ := w
    have s619 := s18.trans s19
    -- cells beside cells
    have oT : cellOut (.str "a") (.str "table") = none := by decide +kernel
    have oF : cellOut (.str "a") (.str "frozen") = none := by decide +kernel
    have za : szD (.str "a") = true := by decide +kernel
    have mk : ∀ (k : Str) (σ : L2.St) (H1 : Hp), cellOut (.str "a") (.str k) = none → ∀ Q' : VK, (∀ v H', (∃ x dx fs, v = .ref x ∧ Same H1 H' ∧ CellAt H' C x "a" k ∧ H' x = some (.ins C dx fs)) → Q' v H') → tMake C (spCell K C CP) [] (fun _ _ _ => False) (tCons (tC (.str "a")) (tCons (tC (.str k)) tNil)) σ H1 Q' := fun k σ H1 ho Q' hq =>
      cell_te ho za (fun _ z => z) (fun _ z => z) fun x H' _ s' c => by
        obtain ⟨dx, fs, ex, _⟩ := id c
        exact hq _ _ ⟨x, dx, fs, rfl, s', c, ex⟩
    refine ifor_P (fun v H' => ∃ x dx fs, v = .ref x ∧ Same H19 H' ∧ CellAt H' C x "a" "table" ∧ H' x = some (.ins C dx fs)) (fun v H1 u H' => ∃ x dx fs, u = .ref x ∧ Same H1 H' ∧ CellAt H' C x "a" "table" ∧ H' x = some (.ins C dx fs)) (mk "table" _ _ oT) (fun v H1 _ => mk "table" _ _ oT) (fun v H20 u H21 w1 w2 => ?_)
    obtain ⟨x1, dx1, fs1, rfl, s20, c1, ex1⟩ := w1
    obtain ⟨x2, dx2, fs2, rfl, s21, c2, ex2⟩ := w2
    refine ⟨x1, dx1, fs1, rfl, s21 _ _ ex1, .inl ⟨x2, dx2, fs2, rfl, ex2⟩, x1, "a", "table", .ref x2, rfl, c1.same s21, .inl ⟨x2, "a", "table", rfl, c2, true, rfl, false, rfl, iteF ?_⟩⟩
    refine ifor_P (fun v H' => ∃ x dx fs, v = .ref x ∧ Same H21 H' ∧ CellAt H' C x "a" "table" ∧ H' x = some (.ins C dx fs)) (fun v H1 u H' => ∃ x dx fs, u = .ref x ∧ Same H1 H' ∧ CellAt H' C x "a" "frozen" ∧ H' x = some (.ins C dx fs)) (mk "table" _ _ oT) (fun v H1 _ => mk "frozen" _ _ oF) (fun v H22 u H23 w1 w2 => ?_)
    obtain ⟨x3, dx3, fs3, rfl, s22, c3, ex3⟩ := w1
    obtain ⟨x4, dx4, fs4, rfl, s23, c4, ex4⟩ := w2
    refine ⟨x3, x4, dx3, dx4, fs3, fs4, rfl, rfl, s23 _ _ ex3, ex4, x3, "a", "table", .ref x4, rfl, c3.same s23, .inl ⟨x4, "a", "frozen", rfl, c4, false, by decide +kernel, iteF ?_⟩⟩
    refine ifop_P (fun v H' => ∃ x dx fs, v = .ref x ∧ Same H23 H' ∧ CellAt H' C x "a" "table" ∧ H' x = some (.ins C dx fs)) (fun v H1 u H' => u = .str "a" ∧ H' = H1) (mk "table" _ _ oT) (fun v H1 _ Q' hq => hq _ _ ⟨rfl, rfl⟩) (fun v H24 u H24' w1 w2 => ?_)
    obtain ⟨x5, dx5, fs5, rfl, s24, c5, ex5⟩ := w1
    obtain ⟨rfl, rfl⟩ := w2
    refine ⟨x5, dx5, fs5, "a", rfl, rfl, ex5, x5, "a", "table", .str "a", rfl, c5, .inr ⟨"a", rfl, false, rfl, iteF ?_⟩⟩
    clear mk
    have s624 := s619.trans (s20.trans (s21.trans (s22.trans (s23.trans s24))))
    have er24 := s624 _ _ er6
    have ec24 := s624 _ _ ec
    have hp24 := hp6.same s624
    -- a state
    refine ⟨.ref p, rfl, .ref r, rfl, r, ns, rfl, .inl (.inl er24), nd, by omega, fun ls ys3 H25 s25 e25 nls ly3 st3 => ?_⟩
    have hp25 := hp24.same s25
    refine ⟨p, ls, ys3, rfl, hp25, hp24.ne nls, .inl (.inl (.inl e25)), by rw [ly3]; exact Nat.pow_pos (by decide), by rw [ly3]; exact Nat.le_trans (Nat.pow_le_pow_right (n := 3) (by decide) n4) (by decide), fun m hm H26 b26 hp26 fr26 => ?_⟩
    obtain ⟨ps, eps, hps⟩ := st3 m ys3[m] (List.getElem?_eq_getElem hm)
    rw [eps]
    obtain ⟨px, py, ep25, _⟩ := id hp25
    have nps : ps ≠ p := fun e => by
      rw [e, ep25] at hps
      cases hps
    have est := b26 _ _ hps nps
    have er26 := b26 _ _ (s25 _ _ er24) nrp
    have ec26 := b26 _ _ (s25 _ _ ec24) npc.symm
    have hC26 : CellsOf H26 C xs ns ks := (hC.same (s624.trans s25)).but ep25 b26
    have sH26 : Same H H26 := same_but s01 nHp (b16.trans ((But.of (s624.trans s25)).trans b26))
    clear hp25 hp26 st3 e25 er24 ec24 hp24 ep25 s624 b26 s25
    refine ⟨_, rfl, _, rfl, cd, xs, ns, ks, .ref ps, none, rfl, .inl (.inl ec26), hC26, by omega, .inr ⟨ps, _, rfl, est, st_dat _ _, (chk_good nd m).symm⟩, (fun _ e => nomatch e), fun _ P3 H27 s27 e27 => ?_⟩
    refine ⟨by show 1 ≤ sizeLine; decide, fun P4 nP4 => ⟨⟨P3, P4, _, _, rfl, rfl, same_upd nP4 _ _ e27, upd_same, prs_true⟩, fun H28 s28 => ⟨false, rfl, iteF ?_⟩⟩⟩
    have s2628 : Same H26 H28 := s27.trans ((same_upd nP4).trans s28)
    -- what is no state
    refine ⟨by show 0 ≤ sizeLine; decide, fun l1 nl1 pd npd => ⟨upd_same, fiveK, rfl, by decide, by show 5 ≤ sizeLine; decide, fun lo2 nlo2 => ⟨lo2, rfl, ⟨_, .inl (.inl upd_same)⟩, ?_⟩⟩⟩
    have q1 := same_upd (o := HO.lst []) nl1
    have q2 : Same (upd H28 l1 (.lst [])) (upd (upd (upd H28 l1 (.lst [])) pd (.dK [])) pd (.dK (mergeK [] fiveK))) := by
      rw [upd_upd]
      exact same_upd npd
    have q3 := same_upd (o := HO.lst [V.non, .int 5, .ref l1, .str "ab", .ref pd]) nlo2
    have el1 := q3 _ _ (q2 _ _ upd_same)
    have epd := q3 _ _ upd_same
    have elo2 := upd_same (H := (upd (upd (upd H28 l1 (.lst [])) pd (.dK [])) pd (.dK (mergeK [] fiveK)))) (a := lo2) (o := HO.lst [V.non, .int 5, .ref l1, .str "ab", .ref pd])
    have s2629 := s2628.trans (q1.trans (q2.trans q3))
    generalize upd (upd (upd (upd H28 l1 (.lst [])) pd (.dK [])) pd (.dK (mergeK [] fiveK))) lo2 (HO.lst [V.non, .int 5, .ref l1, .str "ab", .ref pd]) = H29 at el1 epd elo2 s2629
    refine for_list (K := K) (a := lo2) (xs := [V.non, .int 5, .ref l1, .str "ab", .ref pd]) (fun k σ H' => ∃ z1 z2 z4 z6 z8 z9 z10 z11 z12, σ = [some (.ref a), z1, z2, some (.ref r), z4, some (.ref cd), z6, some (.ref ps), z8, z9, z10, z11, z12] ∧ Same H29 H')
      ⟨_, _, _, _, _, _, _, _, _, rfl, Same.refl _⟩ (fun k σ H' _ w => ?_) (fun k v σ H' hk w => ?_) (fun σ H30 w => ?_)
    · obtain ⟨_, _, _, _, _, _, _, _, _, _, s'⟩ := w
      exact .inl (.inl (s' _ _ elo2))
    · obtain ⟨z1, z2, z4, z6, z8, z9, z10, z11, z12, rfl, s'⟩ := w
      have hv : (∃ d, Dp K H' v d ∧ some V.non = some .non) ∨ ∃ p kvs, v = .ref p ∧ H' p = some (.dK kvs) ∧ DatK K H' kvs ∧ some V.non = chkOut ns kvs := by
        rcases odd_state (K := K) (H := H') (pd := pd) (.inl (.inl (s' _ _ el1))) k v hk with ⟨d, hd⟩ | e
        · exact .inl ⟨d, hd, rfl⟩
        · exact .inr ⟨pd, _, e, s' _ _ epd, five_dat, (five_out n4).symm⟩
      refine ⟨_, rfl, _, rfl, cd, xs, ns, ks, v, some .non, rfl, .inl (.inl ((s2629.trans s') _ _ ec26)), hC26.same (s2629.trans s'), by omega, hv, fun rr e H31 s31 => ?_, fun e => nomatch e⟩
      cases e
      exact ⟨_, rfl, nb_self ⟨_, _, _, _, _, _, _, _, _, rfl, s'.trans s31⟩⟩
    obtain ⟨z1, z2, z4, z6, z8, z9, z10, z11, z12, rfl, s30⟩ := w
    have s2630 := s2629.trans s30
    have er30 := s2630 _ _ er26
    have ec30 := s2630 _ _ ec26
    have est30 := s2630 _ _ est
    have hC30 := hC26.same s2630
    have sH30 := sH26.trans s2630
    clear s2629 s2630 s30 est er26 ec26 hC26 s2628 el1 epd elo2 q1 q2 q3
    -- each name
    refine ⟨_, rfl, r, _, rfl, .inl (.inl (.inl er30)), _, rfl, by omega, by rw [List.length_map]; omega, ?_⟩
    refine for_range (lo := 0) (n := _) (fun k σ H' => ∃ z1 z2 z4 z6 z8 z9 z10 z11 z12, σ = [some (.ref a), z1, z2, some (.ref r), z4, some (.ref cd), z6, some (.ref ps), z8, z9, z10, z11, z12] ∧ Same H30 H')
      ⟨_, _, _, _, _, _, _, _, _, rfl, Same.refl _⟩ (fun k σ H31 hk w => ?_) (fun σ H31 w => ?_)
    rotate_left
    · obtain ⟨z1, z2, z4, z6, z8, z9, z10, z11, z12, rfl, s31⟩ := w
      exact ⟨_, _, _, _, _, _, _, _, _, _, _, _, rfl, sH30.trans s31⟩
    obtain ⟨z1, z2, z4, z6, z8, z9, z10, z11, z12, rfl, s31⟩ := w
    have hk' : k < ns.length := by
      rw [List.length_map] at hk
      omega
    obtain ⟨c, hc⟩ : ∃ c, ns[k]? = some c := ⟨_, List.getElem?_eq_getElem hk'⟩
    have at_k : atI (ns.map V.str) (0 + (k : Int)) = some (.str c) := at_of (Int.zero_add _) (by rw [List.getElem?_map, hc]; rfl)
    refine ⟨1, rfl, by show 5 ≤ sizeLine; decide, fun lo3 nlo3 => ⟨lo3, rfl, ⟨_, .inl (.inl upd_same)⟩, ?_⟩⟩
    have elo3 := upd_same (H := H31) (a := lo3) (o := HO.lst [V.non, .int (-1), .int 3, .bl true, .str "1"])
    have s32 := s31.trans (same_upd (o := HO.lst [V.non, .int (-1), .int 3, .bl true, .str "1"]) nlo3)
    generalize upd H31 lo3 (HO.lst [V.non, .int (-1), .int 3, .bl true, .str "1"]) = H32 at elo3 s32
    refine for_list (K := K) (a := lo3) (xs := [V.non, .int (-1), .int 3, .bl true, .str "1"]) (fun j σ H' => ∃ z1 z2 z4 z6 z9 z10 z11 z12, σ = [some (.ref a), z1, z2, some (.ref r), z4, some (.ref cd), z6, some (.ref ps), some (.int (0 + (k : Int))), z9, z10, z11, z12] ∧ Same H32 H')
      ⟨_, _, _, _, _, _, _, _, rfl, Same.refl _⟩ (fun j σ H' _ w => ?_) (fun j v σ H' hj w => ?_) (fun σ H33 w => ?_)
    · obtain ⟨_, _, _, _, _, _, _, _, _, s'⟩ := w
      exact .inl (.inl (s' _ _ elo3))
    · obtain ⟨z1, z2, z4, z6, z9, z10, z11, z12, rfl, s'⟩ := w
      obtain ⟨d, hd, zd, ov⟩ := odd_value (K := K) (H := H') j v hj
      have s30' := s32.trans s'
      refine ⟨_, rfl, ps, _, rfl, .inl (s30' _ _ est30), fun q9 nq9 => ?_⟩
      have sq : Same H' (upd H' q9 (.dK (putK (stOf ns m) (.inr c) v))) := same_upd nq9
      refine ⟨_, rfl, _, rfl, _, rfl, _, rfl, r, _, _, _, rfl, rfl, .inl (.inl (same_upd nq9 _ _ (s30' _ _ er30))), at_k, q9, _, rfl, .inl ⟨_, .inr c, upd_same, rfl, by unfold stOf; rw [stKV_len]; exact Nat.lt_of_le_of_lt n4 (by decide), rfl⟩, ?_⟩
      rw [upd_upd]
      have sq30 := s30'.trans sq
      refine ⟨_, rfl, _, rfl, cd, xs, ns, ks, .ref q9, some (.str c), rfl, .inl (.inl (sq30 _ _ ec30)), hC30.same sq30, by omega, .inr ⟨q9, _, rfl, upd_same, put_dat (st_dat _ _) (dp_same sq hd) zd, (chk_odd nd m hc ov).symm⟩, fun rr e H34 s34 => ?_, fun e => nomatch e⟩
      cases e
      refine ⟨_, rfl, _, rfl, r, _, _, _, rfl, rfl, .inl (.inl (s34 _ _ (sq30 _ _ er30))), at_k, rfl, _, rfl, nb_self ?_⟩
      exact ⟨_, _, _, _, _, _, _, _, rfl, s'.trans (sq.trans s34)⟩
    obtain ⟨z1, z2, z4, z6, z9, z10, z11, z12, rfl, s33⟩ := w
    have s3033 := s32.trans s33
    have er33 := s3033 _ _ er30
    have est33 := s3033 _ _ est30
    -- without it
    refine ⟨_, rfl, r, rfl, ⟨_, .inl (.inl er33)⟩, fun D hD => ?_⟩
    refine walk_gen (walk_list (K := K) (a := r) (xs := ns.map V.str)) (fun i H' => Same H33 H' ∧ ∃ qs : List Addr, H' D = some (.lst (qs.map V.ref)) ∧ qs.length ≤ i ∧ Paired (fun q kv => SqT K H' q [kV kv.1, kv.2]) qs (dropK ((stOf ns m).take i) (.inr c)))
      ⟨same_upd hD, [], upd_same, Nat.le_refl _, .nil⟩ (fun i H' _ w => w.1.seq (.inl (.inl er33))) (fun i x H34 H35 hi w y => ?_) (fun H34 w => ?_)
    · obtain ⟨s34, qs, eD, lq, pq⟩ := w
      obtain ⟨rfl, hx⟩ := y
      rw [List.getElem?_map] at hx
      obtain ⟨z, hz, rfl⟩ := Option.map_eq_some_iff.mp hx
      have hst : (stOf ns m)[i]? = some ((.inr z : Key), V.int (m / 3 ^ (ns.length - 1 - i) % 3 : Nat)) := stKV_at hz
      refine And.intro rfl ?_
      refine ⟨_, rfl, _, rfl, _, rfl, r, _, _, _, rfl, rfl, .inl (.inl (s34 _ _ er33)), at_k, rfl, _, rfl, ?_⟩
      by_cases hzc : z = c
      · subst hzc
        rw [decide_eq_true rfl]
        refine iteF ⟨s34, qs, eD, by omega, ?_⟩
        rw [take_snoc hst]
        unfold dropK
        rw [List.filter_append, List.filter_cons_of_neg (by simp), List.filter_nil, List.append_nil]
        exact pq
      · rw [decide_eq_false (fun e => hzc (V.str.inj e))]
        refine iteT ⟨_, rfl, _, rfl, _, rfl, ps, _, rfl, .inl ⟨_, .inr z, .inl (s34 _ _ est33), rfl, (stKV_val nd hz).symm⟩, by show 2 ≤ sizeLine; decide, fun t nt => ?_⟩
        have sT := same_upd (o := HO.tup [V.str z, V.int (m / 3 ^ (ns.length - 1 - i) % 3 : Nat)]) nt
        have nDt : D ≠ t := ne_of_none eD nt
        have sF : ∀ b o, H35 b = some o → b ≠ D → upd (upd H35 t (HO.tup [V.str z, V.int (m / 3 ^ (ns.length - 1 - i) % 3 : Nat)])) D (.lst (qs.map V.ref ++ [V.ref t])) b = some o := fun b o e nb => by
          rw [upd_ne nb]
          exact sT _ _ e
        refine ⟨_, sT _ _ eD, ?_, fun b o e => sF _ _ (s34 _ _ e) (ne_of_none e hD), qs ++ [t], ?_, ?_, ?_⟩
        · rw [List.length_map]
          rw [List.length_map] at hi
          exact Nat.lt_of_le_of_lt (show qs.length ≤ 4 by omega) (by decide)
        · rw [upd_same, List.map_append]
          rfl
        · rw [List.length_append]
          exact Nat.succ_le_succ lq
        · rw [take_snoc hst]
          unfold dropK
          rw [List.filter_append, List.filter_cons_of_pos (by simp [hzc]), List.filter_nil]
          refine paired_app (Paired.mapP pq fun q kv h => ?_) (.cons ?_ .nil)
          · exact but_sqT eD sF h
          · exact .inl (.inl (by rw [upd_ne nDt.symm]; exact upd_same))
    obtain ⟨s34, qs, eD, lq, pq⟩ := w
    rw [List.length_map, List.take_of_length_le (by unfold stOf; rw [stKV_len]; exact Nat.le_refl _)] at pq
    refine ⟨D, qs, _, rfl, .inl (.inl eD), pq, fun q9 nq9 => ?_⟩
    rw [mergeK_drop nd]
    have s3034 := s3033.trans s34
    have n30 : H30 q9 = none := by
      cases e : H30 q9 with
      | none => rfl
      | some o =>
        rw [s3034 _ _ e] at nq9
        cases nq9
    have sq := same_upd (o := HO.dK (dropK (stOf ns m) (.inr c))) nq9
    have eq9 := upd_same (H := H34) (a := q9) (o := HO.dK (dropK (stOf ns m) (.inr c)))
    have s3035 := s3034.trans sq
    generalize upd H34 q9 (HO.dK (dropK (stOf ns m) (.inr c))) = H35 at eq9 s3035
    refine ⟨_, rfl, _, rfl, cd, xs, ns, ks, .ref q9, some .non, rfl, .inl (.inl (s3035 _ _ ec30)), hC30.same s3035, by omega, .inr ⟨q9, _, rfl, eq9, drop_dat (st_dat _ _) _, (chk_less nd m hc).symm⟩, fun rr e H36 s36 => ?_, fun e => nomatch e⟩
    cases e
    refine ⟨_, rfl, nb_self ?_⟩
    have s3036 := s3035.trans s36
    have ln := drop_len nd m hc
    refine ⟨_, rfl, q9, _, rfl, .inl ⟨_, .inr "Z", s36 _ _ eq9, rfl, Nat.lt_of_le_of_lt (show _ ≤ 4 by omega) (by decide), rfl⟩, ?_⟩
    have s3037 : Same H30 (upd H36 q9 (.dK (putK (dropK (stOf ns m) (.inr c)) (.inr "Z") (.int 1)))) := fun b o e => by
      rw [upd_ne (ne_of_none e n30)]
      exact s3036 _ _ e
    refine ⟨_, rfl, _, rfl, cd, xs, ns, ks, .ref q9, some (.str c), rfl, .inl (.inl (s3037 _ _ ec30)), hC30.same s3037, by omega, .inr ⟨q9, _, rfl, upd_same, put_dat (drop_dat (st_dat _ _) _) (.int 1) rfl, (chk_other nd m hc (big_z nmok) _).symm⟩, fun rr e H38 s38 => ?_, fun e => nomatch e⟩
    cases e
    refine ⟨_, rfl, _, rfl, r, _, _, _, rfl, rfl, .inl (.inl ((s3037.trans s38) _ _ er30)), at_k, rfl, _, rfl, nb_self ?_⟩
    exact ⟨_, _, _, _, _, _, _, _, _, rfl, s3037.trans s38⟩
end
/-! ### what the top has written; the end -/
theorem all_mk {l : PySem.W.OpenLaw} {w : World} {K : PySem.W.Frag} {h : Heap} {mg : Str → Option Value} {fa : Addr} (X : K.In h) (G : h.Ns mainGlobals mg) (hfa : mg "law" = some (.ref fa))
    {cC cP cT cS : Addr}
    {fPI : Addr} {odPI anPI : Option Addr} {slPI : Array (Option Value)} {ocPI kVPI dcPI pmPI cdPI ctPI : Value}
    {fTI : Addr} {odTI anTI : Option Addr} {slTI : Array (Option Value)} {ocTI kVTI dcTI pmTI cdTI ctTI : Value}
    {fCI : Addr} {odCI anCI : Option Addr} {slCI : Array (Option Value)} {ocCI kVCI dcCI pmCI cdCI ctCI : Value}
    {fCE : Addr} {odCE anCE : Option Addr} {slCE : Array (Option Value)} {ocCE kVCE dcCE pmCE cdCE ctCE : Value}
    {fWh : Addr} {odWh anWh : Option Addr} {slWh : Array (Option Value)} {ocWh kVWh dcWh pmWh cdWh ctWh : Value}
    {fVa : Addr} {odVa anVa : Option Addr} {slVa : Array (Option Value)} {ocVa kVVa dcVa pmVa cdVa ctVa : Value}
    {fNa : Addr} {odNa anNa : Option Addr} {slNa : Array (Option Value)} {ocNa kVNa dcNa pmNa cdNa ctNa : Value}
    {fSt : Addr} {odSt anSt : Option Addr} {slSt : Array (Option Value)} {ocSt kVSt dcSt pmSt cdSt ctSt : Value}
    {fNu : Addr} {odNu anNu : Option Addr} {slNu : Array (Option Value)} {ocNu kVNu dcNu pmNu cdNu ctNu : Value}
    {fCk : Addr} {odCk anCk : Option Addr} {slCk : Array (Option Value)} {ocCk kVCk dcCk pmCk cdCk ctCk : Value}
    {fPl : Addr} {odPl anPl : Option Addr} {slPl : Array (Option Value)} {ocPl kVPl dcPl pmPl cdPl ctPl : Value}
    {fDr : Addr} {odDr anDr : Option Addr} {slDr : Array (Option Value)} {ocDr kVDr dcDr pmDr cdDr ctDr : Value}
    {fPk : Addr} {odPk anPk : Option Addr} {slPk : Array (Option Value)} {ocPk kVPk dcPk pmPk cdPk ctPk : Value}
    {fNm : Addr} {odNm anNm : Option Addr} {slNm : Array (Option Value)} {ocNm kVNm dcNm pmNm cdNm ctNm : Value}
    {fLs : Addr} {odLs anLs : Option Addr} {slLs : Array (Option Value)} {ocLs kVLs dcLs pmLs cdLs ctLs : Value}
    {fLr : Addr} {odLr anLr : Option Addr} {slLr : Array (Option Value)} {ocLr kVLr dcLr pmLr cdLr ctLr : Value}
    {fLc : Addr} {odLc anLc : Option Addr} {slLc : Array (Option Value)} {ocLc kVLc dcLc pmLc cdLc ctLc : Value}
    {fLa : Addr} {odLa anLa : Option Addr} {slLa : Array (Option Value)} {ocLa kVLa dcLa pmLa cdLa ctLa : Value}
    {t_LONGEST_NAME : Tok}
    {nmP qqP : Str} {NNP : Addr} {bsP : List Value} {snP : List Str} {suP : List Value} {abP : Bool} {coP : Option Bool} {ddP : Option Addr} {maP mbP mcP mdP meP : Option Value} {nmT qqT : Str} {NNT : Addr} {bsT : List Value} {snT : List Str} {suT : List Value} {abT : Bool} {coT : Option Bool} {ddT : Option Addr} {maT mbT mcT mdT meT : Option Value} {aR : Addr} {itsR : Array Value} {nR : Nat} {slR : Array (Option Value)} {ddR : Option Addr} {aV : Addr} {itsV : Array Value} {nV : Nat} {slV : Array (Option Value)} {ddV : Option Addr} 
    (a_C : PySem.W.nsIn K mainGlobals "Cell" = some (some (.ref cC)))
    (a_P : PySem.W.nsIn K mainGlobals "BadPart" = some (some (.ref cP)))
    (a_T : PySem.W.nsIn K mainGlobals "BadState" = some (some (.ref cT)))
    (a_S : PySem.W.nsIn K mainGlobals "StoreError" = some (some (.ref cS)))
    (aPI : PySem.W.findIn K (.ref cP) "__init__" = some (some (.ref fPI))) (iPI : PySem.W.isFn K (.ref fPI) = true)
    (lPI : K.lookup fPI = some ⟨ocPI, odPI, .func (PySem.W.fnOf "__init__" "BadPart.__init__" (defArgs sBadPart) (defBody sBadPart) (defScope sBadPart) .none kVPI dcPI pmPI anPI cdPI ctPI), slPI⟩) (cPI : PySem.W.codeIn K cdPI "BadPart.__init__" = true) (kPI : PySem.W.keepIn K (.ref fPI) = true)
    (aTI : PySem.W.findIn K (.ref cT) "__init__" = some (some (.ref fTI))) (iTI : PySem.W.isFn K (.ref fTI) = true)
    (lTI : K.lookup fTI = some ⟨ocTI, odTI, .func (PySem.W.fnOf "__init__" "BadState.__init__" (defArgs sBadState) (defBody sBadState) (defScope sBadState) .none kVTI dcTI pmTI anTI cdTI ctTI), slTI⟩) (cTI : PySem.W.codeIn K cdTI "BadState.__init__" = true) (kTI : PySem.W.keepIn K (.ref fTI) = true)
    (aCI : PySem.W.findIn K (.ref cC) "__init__" = some (some (.ref fCI))) (iCI : PySem.W.isFn K (.ref fCI) = true)
    (lCI : K.lookup fCI = some ⟨ocCI, odCI, .func (PySem.W.fnOf "__init__" "Cell.__init__" (defArgs sCell) (defBody sCell) (defScope sCell) .none kVCI dcCI pmCI anCI cdCI ctCI), slCI⟩) (cCI : PySem.W.codeIn K cdCI "Cell.__init__" = true) (kCI : PySem.W.keepIn K (.ref fCI) = true)
    (aCE : PySem.W.findIn K (.ref cC) "__eq__" = some (some (.ref fCE))) (iCE : PySem.W.isFn K (.ref fCE) = true)
    (lCE : K.lookup fCE = some ⟨ocCE, odCE, .func (PySem.W.fnOf "__eq__" "Cell.__eq__" (defArgs sCellEq) (defBody sCellEq) (defScope sCellEq) .none kVCE dcCE pmCE anCE cdCE ctCE), slCE⟩) (cCE : PySem.W.codeIn K cdCE "Cell.__eq__" = true) (kCE : PySem.W.keepIn K (.ref fCE) = true)
    (aWh : PySem.W.nsIn K mainGlobals "is_whole" = some (some (.ref fWh)))
    (lWh : K.lookup fWh = some ⟨ocWh, odWh, .func (PySem.W.fnOf "is_whole" "is_whole" (defArgs sWhole) (defBody sWhole) (defScope sWhole) .none kVWh dcWh pmWh anWh cdWh ctWh), slWh⟩) (cWh : PySem.W.codeIn K cdWh "is_whole" = true) (kWh : PySem.W.keepIn K (.ref fWh) = true)
    (aVa : PySem.W.nsIn K mainGlobals "is_value" = some (some (.ref fVa)))
    (lVa : K.lookup fVa = some ⟨ocVa, odVa, .func (PySem.W.fnOf "is_value" "is_value" (defArgs sValue) (defBody sValue) (defScope sValue) .none kVVa dcVa pmVa anVa cdVa ctVa), slVa⟩) (cVa : PySem.W.codeIn K cdVa "is_value" = true) (kVa : PySem.W.keepIn K (.ref fVa) = true)
    (aNa : PySem.W.nsIn K mainGlobals "is_name" = some (some (.ref fNa)))
    (lNa : K.lookup fNa = some ⟨ocNa, odNa, .func (PySem.W.fnOf "is_name" "is_name" (defArgs sName) (defBody sName) (defScope sName) .none kVNa dcNa pmNa anNa cdNa ctNa), slNa⟩) (cNa : PySem.W.codeIn K cdNa "is_name" = true) (kNa : PySem.W.keepIn K (.ref fNa) = true)
    (aSt : PySem.W.nsIn K mainGlobals "states_of" = some (some (.ref fSt)))
    (lSt : K.lookup fSt = some ⟨ocSt, odSt, .func (PySem.W.fnOf "states_of" "states_of" (defArgs sStates) (defBody sStates) (defScope sStates) .none kVSt dcSt pmSt anSt cdSt ctSt), slSt⟩) (cSt : PySem.W.codeIn K cdSt "states_of" = true) (kSt : PySem.W.keepIn K (.ref fSt) = true)
    (aNu : PySem.W.nsIn K mainGlobals "_state_numbered" = some (some (.ref fNu)))
    (lNu : K.lookup fNu = some ⟨ocNu, odNu, .func (PySem.W.fnOf "_state_numbered" "_state_numbered" (defArgs sNum) (defBody sNum) (defScope sNum) .none kVNu dcNu pmNu anNu cdNu ctNu), slNu⟩) (cNu : PySem.W.codeIn K cdNu "_state_numbered" = true) (kNu : PySem.W.keepIn K (.ref fNu) = true)
    (aCk : PySem.W.nsIn K mainGlobals "check_state" = some (some (.ref fCk)))
    (lCk : K.lookup fCk = some ⟨ocCk, odCk, .func (PySem.W.fnOf "check_state" "check_state" (defArgs sCheck) (defBody sCheck) (defScope sCheck) .none kVCk dcCk pmCk anCk cdCk ctCk), slCk⟩) (cCk : PySem.W.codeIn K cdCk "check_state" = true) (kCk : PySem.W.keepIn K (.ref fCk) = true)
    (aPl : PySem.W.nsIn K mainGlobals "_law_pool" = some (some (.ref fPl)))
    (lPl : K.lookup fPl = some ⟨ocPl, odPl, .func (PySem.W.fnOf "_law_pool" "_law_pool" (defArgs sPool) (defBody sPool) (defScope sPool) .none kVPl dcPl pmPl anPl cdPl ctPl), slPl⟩) (cPl : PySem.W.codeIn K cdPl "_law_pool" = true) (kPl : PySem.W.keepIn K (.ref fPl) = true)
    (aDr : PySem.W.nsIn K mainGlobals "_law_draw" = some (some (.ref fDr)))
    (lDr : K.lookup fDr = some ⟨ocDr, odDr, .func (PySem.W.fnOf "_law_draw" "_law_draw" (defArgs sDraw) (defBody sDraw) (defScope sDraw) .none kVDr dcDr pmDr anDr cdDr ctDr), slDr⟩) (cDr : PySem.W.codeIn K cdDr "_law_draw" = true) (kDr : PySem.W.keepIn K (.ref fDr) = true)
    (aPk : PySem.W.nsIn K mainGlobals "_law_pick" = some (some (.ref fPk)))
    (lPk : K.lookup fPk = some ⟨ocPk, odPk, .func (PySem.W.fnOf "_law_pick" "_law_pick" (defArgs sPick) (defBody sPick) (defScope sPick) .none kVPk dcPk pmPk anPk cdPk ctPk), slPk⟩) (cPk : PySem.W.codeIn K cdPk "_law_pick" = true) (kPk : PySem.W.keepIn K (.ref fPk) = true)
    (aNm : PySem.W.nsIn K mainGlobals "_law_names" = some (some (.ref fNm)))
    (lNm : K.lookup fNm = some ⟨ocNm, odNm, .func (PySem.W.fnOf "_law_names" "_law_names" (defArgs sLNames) (defBody sLNames) (defScope sLNames) .none kVNm dcNm pmNm anNm cdNm ctNm), slNm⟩) (cNm : PySem.W.codeIn K cdNm "_law_names" = true) (kNm : PySem.W.keepIn K (.ref fNm) = true)
    (aLs : PySem.W.nsIn K mainGlobals "_law_states" = some (some (.ref fLs)))
    (lLs : K.lookup fLs = some ⟨ocLs, odLs, .func (PySem.W.fnOf "_law_states" "_law_states" (defArgs sLSt) (defBody sLSt) (defScope sLSt) .none kVLs dcLs pmLs anLs cdLs ctLs), slLs⟩) (cLs : PySem.W.codeIn K cdLs "_law_states" = true) (kLs : PySem.W.keepIn K (.ref fLs) = true)
    (aLr : PySem.W.nsIn K mainGlobals "_law_refused" = some (some (.ref fLr)))
    (lLr : K.lookup fLr = some ⟨ocLr, odLr, .func (PySem.W.fnOf "_law_refused" "_law_refused" (defArgs sLRef) (defBody sLRef) (defScope sLRef) .none kVLr dcLr pmLr anLr cdLr ctLr), slLr⟩) (cLr : PySem.W.codeIn K cdLr "_law_refused" = true) (kLr : PySem.W.keepIn K (.ref fLr) = true)
    (aLc : PySem.W.nsIn K mainGlobals "_law_checked" = some (some (.ref fLc)))
    (lLc : K.lookup fLc = some ⟨ocLc, odLc, .func (PySem.W.fnOf "_law_checked" "_law_checked" (defArgs sLChk) (defBody sLChk) (defScope sLChk) .none kVLc dcLc pmLc anLc cdLc ctLc), slLc⟩) (cLc : PySem.W.codeIn K cdLc "_law_checked" = true) (kLc : PySem.W.keepIn K (.ref fLc) = true)
    (aLa : PySem.W.nsIn K mainGlobals "law" = some (some (.ref fLa)))
    (lLa : K.lookup fLa = some ⟨ocLa, odLa, .func (PySem.W.fnOf "law" "law" (defArgs sLaw) (defBody sLaw) (defScope sLaw) .none kVLa dcLa pmLa anLa cdLa ctLa), slLa⟩) (cLa : PySem.W.codeIn K cdLa "law" = true) (kLa : PySem.W.keepIn K (.ref fLa) = true)
    (z_abs : PySem.W.nsIn K mainGlobals "abs" = some none)
    (z_int : PySem.W.nsIn K mainGlobals "int" = some none)
    (z_len : PySem.W.nsIn K mainGlobals "len" = some none)
    (z_sum : PySem.W.nsIn K mainGlobals "sum" = some none)
    (z_max : PySem.W.nsIn K mainGlobals "max" = some none)
    (z_min : PySem.W.nsIn K mainGlobals "min" = some none)
    (z_range : PySem.W.nsIn K mainGlobals "range" = some none)
    (z_isinstance : PySem.W.nsIn K mainGlobals "isinstance" = some none)
    (z_bool : PySem.W.nsIn K mainGlobals "bool" = some none)
    (z_str : PySem.W.nsIn K mainGlobals "str" = some none)
    (z_tuple : PySem.W.nsIn K mainGlobals "tuple" = some none)
    (z_list : PySem.W.nsIn K mainGlobals "list" = some none)
    (z_dict : PySem.W.nsIn K mainGlobals "dict" = some none)
    (z_all : PySem.W.nsIn K mainGlobals "all" = some none)
    (z_sorted : PySem.W.nsIn K mainGlobals "sorted" = some none)
    (z_repr : PySem.W.nsIn K mainGlobals "repr" = some none)
    (z_zip : PySem.W.nsIn K mainGlobals "zip" = some none)
    (z_ValueError : PySem.W.nsIn K mainGlobals "ValueError" = some none)
    (i_LONGEST_NAME : PySem.W.nsIn K mainGlobals "LONGEST_NAME" = some (some (.int 8 t_LONGEST_NAME)))
    (pgC : PySem.W.plainGet K cC Str.empty = true)
    (hdC : PySem.W.hasDictIn K cC = true)
    (poC : PySem.W.plainOver K cC = true)
    (saC : PySem.W.findIn K (.ref cC) "__setattr__" = some (some (.builtin "object.__setattr__")))
    (mkC : PySem.W.makesIn K cC = true)
    (kcC : PySem.W.keepIn K (.ref cC) = true)
    (n_name : PySem.W.findIn K (.ref cC) "name" = some none)
    (n_kind : PySem.W.findIn K (.ref cC) "kind" = some none)
    (meC : PySem.W.kitOne K (.ref cC) (.ref cC) = some true)
    (otC : PySem.W.kitOne K (.type "str") (.ref cC) = some false)
    (caC : PySem.W.findIn K (.ref cC) "__class__" = some (some (.builtin "object.__class__")))
    (cgC : PySem.W.specialIn K (.builtin "object.__class__") "__get__" = some (some (.builtin "getset_descriptor.__get__")))
    (ctC : PySem.W.takesIn K (.builtin "object.__class__") = some true)
    (cmC : PySem.W.mroIn K cC (.type "object") = some true)
    (neC : PySem.W.findIn K (.ref cC) "__ne__" = some (some (.builtin "object.__ne__")))
    (soC : PySem.W.subIn K (.ref cC) (.type "object") = some true)
    (nfC : PySem.W.notFirst K cC (.type "str") = true)
    (xP : K.lookup cP = some (excClassObj nmP qqP cP NNP bsP [.ref cS, .type "ValueError", .type "Exception", .type "BaseException", .type "object"] true snP suP abP coP ddP maP mbP mcP mdP meP "ValueError.__new__"))
    (saP : PySem.W.findIn K (.ref cP) "__setattr__" = some (some (.builtin "object.__setattr__")))
    (exP : PySem.W.subIn K (.ref cP) (.type "BaseException") = some true)
    (tyP : PySem.W.typeIn K (.ref cP) = some (.type "type"))
    (kcP : PySem.W.keepIn K (.ref cP) = true)
    (nlP : PySem.W.findIn K (.ref cP) "part" = some none)
    (tfP : PySem.W.typeIn K (.ref fPI) = some (.type "function"))
    (gaP : PySem.W.findIn K (.ref cP) "__getattribute__" = some (some (.builtin "BaseException.__getattribute__")))
    (ggP : PySem.W.findIn K (.ref cP) "__getattr__" = some none)
    (hdP : PySem.W.hasDictIn K cP = true)
    (ePP : PySem.W.subIn K (.ref cP) (.ref cP) = some true)
    (xT : K.lookup cT = some (excClassObj nmT qqT cT NNT bsT [.ref cS, .type "ValueError", .type "Exception", .type "BaseException", .type "object"] true snT suT abT coT ddT maT mbT mcT mdT meT "ValueError.__new__"))
    (saT : PySem.W.findIn K (.ref cT) "__setattr__" = some (some (.builtin "object.__setattr__")))
    (exT : PySem.W.subIn K (.ref cT) (.type "BaseException") = some true)
    (tyT : PySem.W.typeIn K (.ref cT) = some (.type "type"))
    (kcT : PySem.W.keepIn K (.ref cT) = true)
    (nlT : PySem.W.findIn K (.ref cT) "name" = some none)
    (tfT : PySem.W.typeIn K (.ref fTI) = some (.type "function"))
    (gaT : PySem.W.findIn K (.ref cT) "__getattribute__" = some (some (.builtin "BaseException.__getattribute__")))
    (ggT : PySem.W.findIn K (.ref cT) "__getattr__" = some none)
    (hdT : PySem.W.hasDictIn K cT = true)
    (eTT : PySem.W.subIn K (.ref cT) (.ref cT) = some true)
    (spS : PySem.W.specialIn K (.ref cS) "__getattribute__" = some (some (.builtin "type.__getattribute__")))
    (tyS : PySem.W.typeIn K (.ref cS) = some (.type "type"))
    (rdS : PySem.W.readsIn K cS (.type "type") = true)
    (fiS : PySem.W.findCls K (.ref cS) (.type "type") "__init__" = some (.val (.builtin "ValueError.__init__")))
    (vR : PySem.W.nsIn K mainGlobals "KINDS" = some (some (.ref aR)))
    (lR : K.lookup aR = some ⟨.type "tuple", ddR, .seq itsR nR, slR⟩)
    (rR : Vals (kindRow.map V.str) itsR.toList)
    (sR : itsR.size ≤ sizeLine)
    (vV : PySem.W.nsIn K mainGlobals "VALUES" = some (some (.ref aV)))
    (lV : K.lookup aV = some ⟨.type "tuple", ddV, .seq itsV nV, slV⟩)
    (rV : Vals [.int 0, .int 1, .int 2] itsV.toList)
    (sV : itsV.size ≤ sizeLine) :
    ∃ fd : FuncData, (∀ (s : Shared) (v : Value), BindsTo s fd ⟨[v], []⟩ [("_law_script", v)]) ∧ ∀ base : Heap, K.In base → base.Ns mainGlobals mg → FnG l.prog w K mg base 6 fa fd ["_law_script"] (spLaw K) := by
  have e := hfa.symm.trans (PySem.W.mg_of X G aLa)
  cases e
  have FPI := fun_mk (st := sBadPart) lPI cPI kPI
  have bPI := FPI.binds (ps := ["self", "part"]) fun _ _ _ _ _ _ us hl => match us, hl with | [_, _], _ => rfl
  have FTI := fun_mk (st := sBadState) lTI cTI kTI
  have bTI := FTI.binds (ps := ["self", "name"]) fun _ _ _ _ _ _ us hl => match us, hl with | [_, _], _ => rfl
  have FCI := fun_mk (st := sCell) lCI cCI kCI
  have bCI := FCI.binds (ps := ["self", "name", "kind"]) fun _ _ _ _ _ _ us hl => match us, hl with | [_, _, _], _ => rfl
  have FCE := fun_mk (st := sCellEq) lCE cCE kCE
  have bCE := FCE.binds (ps := ["self", "other"]) fun _ _ _ _ _ _ us hl => match us, hl with | [_, _], _ => rfl
  have FWh := fun_mk (st := sWhole) lWh cWh kWh
  have bWh := FWh.binds (ps := ["value"]) fun _ _ _ _ _ _ us hl => match us, hl with | [_], _ => rfl
  have FVa := fun_mk (st := sValue) lVa cVa kVa
  have bVa := FVa.binds (ps := ["value"]) fun _ _ _ _ _ _ us hl => match us, hl with | [_], _ => rfl
  have FNa := fun_mk (st := sName) lNa cNa kNa
  have bNa := FNa.binds (ps := ["value"]) fun _ _ _ _ _ _ us hl => match us, hl with | [_], _ => rfl
  have FSt := fun_mk (st := sStates) lSt cSt kSt
  have bSt := FSt.binds (ps := ["cells"]) fun _ _ _ _ _ _ us hl => match us, hl with | [_], _ => rfl
  have FNu := fun_mk (st := sNum) lNu cNu kNu
  have bNu := FNu.binds (ps := ["names", "number"]) fun _ _ _ _ _ _ us hl => match us, hl with | [_, _], _ => rfl
  have FCk := fun_mk (st := sCheck) lCk cCk kCk
  have bCk := FCk.binds (ps := ["cells", "state"]) fun _ _ _ _ _ _ us hl => match us, hl with | [_, _], _ => rfl
  have FPl := fun_mk (st := sPool) lPl cPl kPl
  have bPl := FPl.binds (ps := ["_law_script", "_law_k"]) fun _ _ _ _ _ _ us hl => match us, hl with | [_, _], _ => rfl
  have FDr := fun_mk (st := sDraw) lDr cDr kDr
  have bDr := FDr.binds (ps := ["_law_pool_here", "_law_many"]) fun _ _ _ _ _ _ us hl => match us, hl with | [_, _], _ => rfl
  have FPk := fun_mk (st := sPick) lPk cPk kPk
  have bPk := FPk.binds (ps := ["_law_pool_here", "_law_row"]) fun _ _ _ _ _ _ us hl => match us, hl with | [_, _], _ => rfl
  have FNm := fun_mk (st := sLNames) lNm cNm kNm
  have bNm := FNm.binds (ps := ["_law_pool_here", "_law_count"]) fun _ _ _ _ _ _ us hl => match us, hl with | [_, _], _ => rfl
  have FLs := fun_mk (st := sLSt) lLs cLs kLs
  have bLs := FLs.binds (ps := ["_law_cells"]) fun _ _ _ _ _ _ us hl => match us, hl with | [_], _ => rfl
  have FLr := fun_mk (st := sLRef) lLr cLr kLr
  have bLr := FLr.binds (ps := ["_law_name", "_law_kind"]) fun _ _ _ _ _ _ us hl => match us, hl with | [_, _], _ => rfl
  have FLc := fun_mk (st := sLChk) lLc cLc kLc
  have bLc := FLc.binds (ps := ["_law_cells", "_law_state"]) fun _ _ _ _ _ _ us hl => match us, hl with | [_, _], _ => rfl
  have FLa := fun_mk (st := sLaw) lLa cLa kLa
  have M : Blt mg := ⟨PySem.W.mg_none_of X G z_abs, PySem.W.mg_none_of X G z_int, PySem.W.mg_none_of X G z_len, PySem.W.mg_none_of X G z_sum, PySem.W.mg_none_of X G z_max, PySem.W.mg_none_of X G z_min, PySem.W.mg_none_of X G z_range, PySem.W.mg_none_of X G z_isinstance, PySem.W.mg_none_of X G z_bool, PySem.W.mg_none_of X G z_str, PySem.W.mg_none_of X G z_tuple, PySem.W.mg_none_of X G z_list, PySem.W.mg_none_of X G z_dict, PySem.W.mg_none_of X G z_all, PySem.W.mg_none_of X G z_sorted, PySem.W.mg_none_of X G z_repr, PySem.W.mg_none_of X G z_zip⟩
  have T : CelC K mg cC := ⟨⟨pgC, hdC, poC, saC⟩, n_name, n_kind, meC, otC, (PySem.W.mg_of X G a_C), caC, cgC, ctC, cmC, neC, soC, nfC⟩
  have R : KindT K mg := ⟨aR, (PySem.W.mg_of X G vR), fun H => .inr ⟨_, itsR, nR, lR, rfl, rfl, sR, rR⟩⟩
  have oP : OexC K cP := ⟨⟨nmP, qqP, NNP, bsP, _, snP, suP, abP, coP, ddP, maP, mbP, mcP, mdP, meP, xP, by rfl⟩, saP, exP, tyP, kcP⟩
  have oT : OexC K cT := ⟨⟨nmT, qqT, NNT, bsT, _, snT, suT, abT, coT, ddT, maT, mbT, mcT, mdT, meT, xT, by rfl⟩, saT, exT, tyT, kcT⟩
  have TP : ErrT K mg "BadPart" "part" cP fPI := ⟨oP, nlP, aPI, tfP, (PySem.W.mg_of X G a_P)⟩
  have TT : ErrT K mg "BadState" "name" cT fTI := ⟨oT, nlT, aTI, tfT, (PySem.W.mg_of X G a_T)⟩
  have OB : OwnBase K mg "StoreError" cS := ⟨(PySem.W.mg_of X G a_S), spS, tyS, rdS, fiS⟩
  have TC : CellsTxt K mg := ⟨⟨aV, (PySem.W.mg_of X G vV), fun H => .inr ⟨_, itsV, nV, lV, rfl, rfl, sV, rV⟩⟩, ⟨_, (PySem.W.mg_of X G i_LONGEST_NAME)⟩⟩
  have QP : ErrQ K mg "BadPart" "part" cP := ⟨(PySem.W.mg_of X G a_P), ⟨gaP, ggP, exP, hdP⟩, nlP, PySem.W.exm_ref exP hdP tyP ePP⟩
  have QT : ErrQ K mg "BadState" "name" cT := ⟨(PySem.W.mg_of X G a_T), ⟨gaT, ggT, exT, hdT⟩, nlT, PySem.W.exm_ref exT hdT tyT eTT⟩
  exact ⟨PySem.W.fnOf "law" "law" (defArgs sLaw) (defBody sLaw) (defScope sLaw) .none kVLa dcLa pmLa anLa cdLa ctLa, fun s v => .of_eq rfl, fun base _ _ => by
    have GP := ok_BadPart (P := l.prog) (w := w) (base := base) FPI OB oP nlP
    have GT := ok_BadState (P := l.prog) (w := w) (base := base) FTI OB oT nlT
    have GVa := ok_value (P := l.prog) (w := w) (base := base) FVa M TC FWh bWh ((PySem.W.mg_of X G aWh))
    have GNa := ok_name (P := l.prog) (w := w) (base := base) FNa M TC
    have GCe := ok_cell FCI M T R TP GP bPI GNa kNa bNa ((PySem.W.mg_of X G aNa))
    have GEq := ok_cellEq (P := l.prog) (w := w) (base := base) FCE M T
    have GNu := ok_num (P := l.prog) (w := w) (base := base) FNu M TC
    have GSt := ok_states FSt M TC T GNu kNu bNu ((PySem.W.mg_of X G aNu))
    have GCk := ok_check FCk M T TT GT bTI GVa kVa bVa ((PySem.W.mg_of X G aVa))
    have GLr := ok_lref FLr ⟨mkC, aCI, iCI, kcC⟩ GCe bCI ((PySem.W.mg_of X G a_C)) QP
    have GLc := ok_lchk FLc GCk kCk bCk ((PySem.W.mg_of X G aCk)) QT
    have GLs := ok_lst (P := l.prog) (w := w) (mg := mg) (base := base) FLs M
    exact ok_law FLa M R ⟨T, ⟨mkC, aCI, iCI, kcC⟩, GCe, bCI, aCE, iCE, GEq, bCE⟩ ⟨FPl, FDr, FPk, FNm, kLs, kLr, kLc, kSt, bPl, bDr, bPk, bNm, bLs, bLr, bLc, bSt, (PySem.W.mg_of X G aPl), (PySem.W.mg_of X G aDr), (PySem.W.mg_of X G aPk), (PySem.W.mg_of X G aNm), (PySem.W.mg_of X G aLs), (PySem.W.mg_of X G aLr), (PySem.W.mg_of X G aLc), (PySem.W.mg_of X G aSt), GLs, GLr, GLc, GSt⟩⟩
end Sc
open PySem PySem.W PyProof.Rows
set_option maxHeartbeats 0 in
theorem PySem.Challenge.cw_steadycalls_k02_cells_and_states_holds : PySem.Challenge.rw_steadycalls_k02_cells_and_states.Holds := by
  w_on; o_law; k_head; (case hw => w_witness2)
  k_fill
  refine Sc.EndG.walk_told (l := PySem.Challenge.rw_steadycalls_k02_cells_and_states) (n := 63) (k := 6) (x := "_law_script") (sp := fun w => Sc.spLaw _) rfl (by decide) rfl ⟨rfl, by decide, by decide⟩ (fun w h Y => PySem.W.kIn_of Y) ?F (fun _ _ a ns hl hS => ⟨a, ns, rfl, hS, hl, fun _ => rfl⟩)
  case F =>
    intro w mg fa h KX G hmg
    refine' Sc.all_mk KX G hmg ?a_C ?a_P ?a_T ?a_S ?aPI ?iPI ?lPI ?cPI ?kPI ?aTI ?iTI ?lTI ?cTI ?kTI ?aCI ?iCI ?lCI ?cCI ?kCI ?aCE ?iCE ?lCE ?cCE ?kCE ?aWh ?lWh ?cWh ?kWh ?aVa ?lVa ?cVa ?kVa ?aNa ?lNa ?cNa ?kNa ?aSt ?lSt ?cSt ?kSt ?aNu ?lNu ?cNu ?kNu ?aCk ?lCk ?cCk ?kCk ?aPl ?lPl ?cPl ?kPl ?aDr ?lDr ?cDr ?kDr ?aPk ?lPk ?cPk ?kPk ?aNm ?lNm ?cNm ?kNm ?aLs ?lLs ?cLs ?kLs ?aLr ?lLr ?cLr ?kLr ?aLc ?lLc ?cLc ?kLc ?aLa ?lLa ?cLa ?kLa ?z_abs ?z_int ?z_len ?z_sum ?z_max ?z_min ?z_range ?z_isinstance ?z_bool ?z_str ?z_tuple ?z_list ?z_dict ?z_all ?z_sorted ?z_repr ?z_zip ?z_ValueError ?i_LONGEST_NAME ?pgC ?hdC ?poC ?saC ?mkC ?kcC ?n_name ?n_kind ?meC ?otC ?caC ?cgC ?ctC ?cmC ?neC ?soC ?nfC ?xP ?saP ?exP ?tyP ?kcP ?nlP ?tfP ?gaP ?ggP ?hdP ?ePP ?xT ?saT ?exT ?tyT ?kcT ?nlT ?tfT ?gaT ?ggT ?hdT ?eTT ?spS ?tyS ?rdS ?fiS ?vR ?lR ?rR ?sR ?vV ?lV ?rV ?sV
    case a_C => k_is
    case a_P => k_is
    case a_T => k_is
    case a_S => k_is
    case aPI => k_is
    case iPI => k_is
    case lPI => k_is
    case cPI => k_is
    case kPI => k_is
    case aTI => k_is
    case iTI => k_is
    case lTI => k_is
    case cTI => k_is
    case kTI => k_is
    case aCI => k_is
    case iCI => k_is
    case lCI => k_is
    case cCI => k_is
    case kCI => k_is
    case aCE => k_is
    case iCE => k_is
    case lCE => k_is
    case cCE => k_is
    case kCE => k_is
    case aWh => k_is
    case lWh => k_is
    case cWh => k_is
    case kWh => k_is
    case aVa => k_is
    case lVa => k_is
    case cVa => k_is
    case kVa => k_is
    case aNa => k_is
    case lNa => k_is
    case cNa => k_is
    case kNa => k_is
    case aSt => k_is
    case lSt => k_is
    case cSt => k_is
    case kSt => k_is
    case aNu => k_is
    case lNu => k_is
    case cNu => k_is
    case kNu => k_is
    case aCk => k_is
    case lCk => k_is
    case cCk => k_is
    case kCk => k_is
    case aPl => k_is
    case lPl => k_is
    case cPl => k_is
    case kPl => k_is
    case aDr => k_is
    case lDr => k_is
    case cDr => k_is
    case kDr => k_is
    case aPk => k_is
    case lPk => k_is
    case cPk => k_is
    case kPk => k_is
    case aNm => k_is
    case lNm => k_is
    case cNm => k_is
    case kNm => k_is
    case aLs => k_is
    case lLs => k_is
    case cLs => k_is
    case kLs => k_is
    case aLr => k_is
    case lLr => k_is
    case cLr => k_is
    case kLr => k_is
    case aLc => k_is
    case lLc => k_is
    case cLc => k_is
    case kLc => k_is
    case aLa => k_is
    case lLa => k_is
    case cLa => k_is
    case kLa => k_is
    case z_abs => k_is
    case z_int => k_is
    case z_len => k_is
    case z_sum => k_is
    case z_max => k_is
    case z_min => k_is
    case z_range => k_is
    case z_isinstance => k_is
    case z_bool => k_is
    case z_str => k_is
    case z_tuple => k_is
    case z_list => k_is
    case z_dict => k_is
    case z_all => k_is
    case z_sorted => k_is
    case z_repr => k_is
    case z_zip => k_is
    case z_ValueError => k_is
    case i_LONGEST_NAME => k_is
    case pgC => k_is
    case hdC => k_is
    case poC => k_is
    case saC => k_is
    case mkC => k_is
    case kcC => k_is
    case n_name => k_is
    case n_kind => k_is
    case meC => first | k_is | rfl | decide +kernel
    case otC => first | k_is | rfl | decide +kernel
    case caC => k_is
    case cgC => k_is
    case ctC => k_is
    case cmC => k_is
    case neC => k_is
    case soC => k_is
    case nfC => first | k_is | rfl | decide +kernel
    case xP => k_is
    case saP => k_is
    case exP => k_is
    case tyP => k_is
    case kcP => k_is
    case nlP => k_is
    case tfP => k_is
    case gaP => k_is
    case ggP => k_is
    case hdP => k_is
    case ePP => first | k_is | rfl | decide +kernel
    case xT => k_is
    case saT => k_is
    case exT => k_is
    case tyT => k_is
    case kcT => k_is
    case nlT => k_is
    case tfT => k_is
    case gaT => k_is
    case ggT => k_is
    case hdT => k_is
    case eTT => first | k_is | rfl | decide +kernel
    case spS => k_is
    case tyS => k_is
    case rdS => first | k_is | rfl | decide +kernel
    case fiS => first | k_is | rfl | decide +kernel
    case vR => k_is
    case lR => k_is
    case rR => first | exact .nil | exact .cons ⟨_, rfl⟩ (.cons ⟨_, rfl⟩ (.cons ⟨_, rfl⟩ .nil))
    case sR => decide +kernel
    case vV => k_is
    case lV => k_is
    case rV => first | exact .nil | exact .cons ⟨_, rfl⟩ (.cons ⟨_, rfl⟩ (.cons ⟨_, rfl⟩ .nil))
    case sV => decide +kernel


