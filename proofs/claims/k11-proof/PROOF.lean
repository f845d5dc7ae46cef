import PyProof.Rows.All
import Wide.All
import OpenK.AllK
import Wide.FinOn
import PyProof.ReprRoads
import KE.KExcIs
import HandS.Base
import HandS.Call
import HandS.List
import HandS.Comp
import HandS.Ends
import HandS.Words
import HandS.Dict
import HandS.Iter
import HandS.Text
import HandS.Evl
import HandS.IsInst
import HandS.Walk
import HandS.More
import HandS.TupAny
import HandS.OwnEq
import HandS.SlotsOwn
import HandS.Exc
import HandS.ExcInit
import HandS.ExcField
import HandS.WordsExc
import HandS.CallSlots
import HandS.Strs
import HandS.Conv
import HandS.RaiseMore
import HandS.Style
import HandS.ExcIs
import HandS.MakeKw
import HandS.MakeKwOnly
import PyProof.ExcBaseAll.LookupError
import PyProof.Rows.FactsExc_KeyError
import PyProof.ExcBaseAll.RuntimeError
import PyProof.ExcBaseAll.OverflowError
import HandS.TupMul
import HandS.TupLe
import HandS.DictComp
import HandS.LawCells
import HandS.Small
import HandS.TryMany
import HandS.TryOnly
import HandS.GenBody
import HandS.GenYield
import HandS.GenCall
import HandS.GenList
import HandS.ListEq
import HandS.DictEq
import HandS.WordsDict
import HandS.Zip
import HandS.Zip0
import KE.KStateDown
import HandS.Defaults
import HandS.Head0
import HandS.Head1
import HandS.Head2
import HandS.HeadEnd
import HandS.HeadHook1
import HandS.HeadHook2
import HandS.HeadHook3
import HandS.HeadHook4
import KE.KDictKeyed
import PySem.Challenge.RW_steadycalls_k11_runs_refused
set_option Elab.async false
set_option linter.all false
set_option maxRecDepth 100000
set_option maxHeartbeats 4000000
namespace Sc
open PySem PySem.Spec PyProof.Rows L2
def topS (i : Nat) : Stmt := PySem.Challenge.pw_steadycalls_k11_runs_refused.main.body.getD i (.Pass ⟨0, 0, 0, 0⟩)
abbrev sPool : Stmt := topS 65
abbrev sDraw : Stmt := topS 66
abbrev sPick : Stmt := topS 67
theorem scPool : FnScope ["_law_script", "_law_k", "_law_cell", "_law_size", "_law_mixed"] ["_law_script", "_law_k"] (defScope sPool) := ⟨rfl, rfl, rfl, by decide +kernel, rfl, by decide +kernel, by decide +kernel⟩
theorem scDraw : FnScope ["_law_pool_here", "_law_many", "_law_found"] ["_law_pool_here", "_law_many"] (defScope sDraw) := ⟨rfl, rfl, rfl, by decide +kernel, rfl, by decide +kernel, by decide +kernel⟩
theorem scPick : FnScope ["_law_pool_here", "_law_row"] ["_law_pool_here", "_law_row"] (defScope sPick) := ⟨rfl, rfl, rfl, by decide +kernel, rfl, by decide +kernel, by decide +kernel⟩
/-- a pool of draws stands at p -/
def PoolAt (H : Hp) (p : Addr) : Prop := ∃ x y : Int, H p = some (.lst [.int x, .int y]) ∧ 0 ≤ x ∧ 0 ≤ y ∧ y < 2147483648
/-- all that was known but for p is as it was -/
def But (p : Addr) (H H' : Hp) : Prop := ∀ b o, H b = some o → b ≠ p → H' b = some o
theorem But.refl (p : Addr) (H : Hp) : But p H H := fun _ _ h _ => h
theorem But.trans {p : Addr} {H H1 H2 : Hp} (a : But p H H1) (b : But p H1 H2) : But p H H2 := fun c o h n => b c o (a c o h n) n
theorem But.of {p : Addr} {H H' : Hp} (s : Same H H') : But p H H' := fun b o h _ => s b o h
theorem same_upd {H : Hp} {p : Addr} {o : HO} (h : H p = none) : Same H (upd H p o) := fun b x e => by
  rw [upd_ne (ne_of_none e h)]
  exact e
theorem But.upd {p : Addr} {H : Hp} {o : HO} : But p H (L2.upd H p o) := fun b x e n => by
  rw [upd_ne n]
  exact e
/-- what an expression gives, by what is true of it -/
theorem q_asgP {te : TE} {tz : TS} {D : Ends} {σ : L2.St} {H : Hp} {i : Nat} (Pr : V → Hp → Prop) (h : ∀ Q : VK, (∀ v H', Pr v H' → Q v H') → te σ H Q) (k : ∀ v H1, Pr v H1 → tz D (σ.set i (some v)) H1) : tSeq (tAsg te (gName i)) tz D σ H := h _ k
theorem But.rd {p : Addr} {H H' : Hp} (b : But p H H') {a : Addr} {u : HO} (n : a ≠ p) (h : Rd H a u) : Rd H' a u := by
  rcases h with h | ⟨o, h⟩
  · exact .inl (b _ _ h n)
  · exact .inr ⟨o, b _ _ h n⟩
theorem But.seq {p : Addr} {H H' : Hp} (b : But p H H') {K : PySem.W.Frag} {a : Addr} {xs : List V} (n : a ≠ p) (h : SqL K H a xs) : SqL K H' a xs := h.imp (b.rd n) id
theorem But.seqT {p : Addr} {H H' : Hp} (b : But p H H') {K : PySem.W.Frag} {a : Addr} {xs : List V} (n : a ≠ p) (h : SqT K H a xs) : SqT K H' a xs := h.imp (b.rd n) id
theorem at_nn {xs : List V} {v : Int} {x : V} (h0 : 0 ≤ v) (h : xs[v.toNat]? = some x) : atI xs v = some x := by
  obtain ⟨n, rfl⟩ := Int.eq_ofNat_of_zero_le h0
  exact atI_nat h
theorem b01 (b : Bool) : 0 ≤ (if b = true then (1 : Int) else 0) ∧ (if b = true then (1 : Int) else 0) ≤ 1 := by cases b <;> decide
structure Blt (mg : Str → Option Value) : Prop where
  abs : mg "abs" = none
  int : mg "int" = none
  len : mg "len" = none
  sum : mg "sum" = none
  max : mg "max" = none
  min : mg "min" = none
  range : mg "range" = none
  isinstance : mg "isinstance" = none
  bool : mg "bool" = none
  str : mg "str" = none
  tuple : mg "tuple" = none
  list : mg "list" = none
  dict : mg "dict" = none
  all : mg "all" = none
  sorted : mg "sorted" = none
  repr : mg "repr" = none
  zip : mg "zip" = none
section
variable {P : Program} {w : World} {K : PySem.W.Frag} {mg : Str → Option Value} {base : Heap}
def spPool (K : PySem.W.Frag) : Sp := fun vs H Q _ => ∃ (a : Addr) (ns : List Int) (k : Nat), vs = [.ref a, .int k] ∧ SqL K H a (ns.map V.int) ∧ k ≤ 1 ∧ (k < ns.length ∨ ns = []) ∧
  ∀ H' p, H p = none → Same H H' → PoolAt H' p → Q (.ref p) H'
theorem ok_pool {f : Addr} {fd : FuncData} (F : Fun K "_law_pool" "_law_pool" sPool f fd) (M : Blt mg) : FnOk P w K mg base CX0 1 f fd ["_law_script", "_law_k"] (spPool K) := by
  refine F.ok scPool (fun vs H Q E h => ?_) (fun cdv A outer s H vs Q E hr h => ?_)
  · obtain ⟨a, ns, k, rfl, _⟩ := h
    rfl
  · obtain ⟨a, ns, k, rfl, hS, hk, hin, q⟩ := h
    refine ⟨_, pss_cons (ps_set (i := 2) scPool.nd rfl (.inl rfl) (pe_ifExp (pt_cmpR op_lt (pv 1) (pe_callB call_len_seq (by rfl) M.len PySem.boot_len (pa_cons (pv 0) pa_nil)) (nomark _))
        (pe_ix ix_list (pv 0) (pv 1) (fun _ _ => rfl))
        (pe_op op_add (pe_op op_mul pe_int (pe_callB (cr_sum rfl) (by rfl) M.sum (by decide +kernel) (pa_cons (pe_slice sl_list (pv 0) po_none (po_some pe_int)) pa_nil))) (pv 1))))
      (pss_cons (ps_set (i := 3) scPool.nd rfl (.inl rfl) (pe_callB call_abs (by rfl) M.abs (by decide +kernel) (pa_cons (pv 2) pa_nil)))
      (pss_cons (ps_set (i := 4) scPool.nd rfl (.inl rfl)
        (pe_op op_add (pe_op op_add (pe_op op_add (pe_op op_mod (pe_callTy call_int1 (by rfl) M.int (by decide +kernel) (pa_cons (pv 3) pa_nil)) pe_int)
          (pe_op op_mul (pe_op op_mul pe_int (pv 1)) (pv 1))) (pe_op op_mul pe_int (pv 1))) pe_int))
      (pss_cons (ps_set (i := 4) scPool.nd rfl (.inl rfl)
        (pe_op op_mod (pe_callTy call_int1 (by rfl) M.int (by decide +kernel) (pa_cons (pe_op op_mul (pv 4) pe_int) pa_nil)) pe_int))
      (pss_one (ps_ret (pe_lst (pa_cons
          (pe_op op_mul (pv 3) (pe_callTy call_int1 (by rfl) M.int (by decide +kernel) (pa_cons (pe_cmpR op_ge (pv 3) (pe_op op_pow pe_int pe_int) (nomark _)) pa_nil)))
          (pa_cons (pe_op op_mod (pe_callTy call_int1 (by rfl) M.int (by decide +kernel) (pa_cons (pe_op op_mul (pv 4) (pv 4)) pa_nil)) pe_int) pa_nil)))))))), ?_⟩
    refine q_asgP (Pr := fun v H1 => (∃ c : Int, v = .int c) ∧ Same H H1) (fun Q' hq => ?_) (fun v H1 hv => ?_)
    · refine ⟨_, rfl, _, rfl, _, _, rfl, .inl hS, _, _, rfl, rfl, _, rfl, ite2 (fun e => ?_) (fun e => ?_)⟩
      · have e1 := of_decide_eq_true e
        rw [List.length_map] at e1
        have e2 : k < ns.length := by omega
        refine ⟨_, rfl, _, rfl, a, ns.map V.int, k, .int ns[k], rfl, rfl, hS, atI_nat ?_, hq _ _ ⟨⟨_, rfl⟩, Same.refl H⟩⟩
        rw [List.getElem?_map, List.getElem?_eq_getElem e2]
        rfl
      · have e1 : ns = [] := by
          rcases hin with h | h
          · refine absurd (decide_eq_true ?_) e
            rw [List.length_map]
            omega
          · exact h
        subst e1
        refine ⟨_, rfl, 63, rfl, a, _, rfl, hS, fun p np => ?_⟩
        refine ⟨p, [], rfl, .inl (.inl (upd_same.trans ?_)), _, _, rfl, rfl, .inl ⟨by decide, by decide⟩, _, rfl, _, _, rfl, rfl, hq _ _ ⟨⟨_, rfl⟩, same_upd np⟩⟩
        rfl
    · obtain ⟨⟨c, rfl⟩, s1⟩ := hv
      have hz : 0 ≤ (if c < 0 then -c else c) := by split <;> omega
      have fin : ∀ (x y : Int), 0 ≤ x → 0 ≤ y → y < 2147483648 → ∀ p, H1 p = none → Q (.ref p) (upd H1 p (.lst [.int x, .int y])) := fun x y hx hy hy2 p np =>
        q _ p (s1.free np) (s1.trans (same_upd np)) ⟨x, y, upd_same, hx, hy, hy2⟩
      refine ⟨.int c, rfl, _, rfl, ?_⟩
      refine ⟨_, rfl, .inl ⟨_, rfl, _, _, rfl, rfl, (by show (0 : Int) < 2147483629; decide), ?_⟩⟩
      have m1 : 0 ≤ (if c < 0 then -c else c) % 2147483629 := Int.emod_nonneg _ (by decide)
      have m2 : (if c < 0 then -c else c) % 2147483629 < 2147483629 := Int.emod_lt_of_pos _ (by decide)
      have k0 : (7919 * (k : Int) * (k : Int)) ≤ 7919 ∧ 0 ≤ (7919 * (k : Int) * (k : Int)) := by
        rcases (show k = 0 ∨ k = 1 by omega) with e | e <;> subst e <;> decide
      refine ⟨_, rfl, _, _, rfl, rfl, .inl ⟨by decide, by decide⟩, _, rfl, _, _, rfl, rfl, .inr ⟨by omega, by omega⟩, _, _, rfl, rfl, _, rfl, _, _, rfl, rfl, .inl ⟨by decide, by decide⟩, _, _, rfl, rfl, _, _, rfl, rfl, ?_⟩
      refine ⟨_, rfl, _, _, rfl, rfl, .inr ⟨by decide, by decide⟩, .inl ⟨_, rfl, _, _, rfl, rfl, (by show (0 : Int) < 2147483647; decide), ?_⟩⟩
      have n1 : 0 ≤ ((if c < 0 then -c else c) % 2147483629 + 7919 * (k : Int) * (k : Int) + 31 * (k : Int) + 17) * 48271 % 2147483647 := Int.emod_nonneg _ (by decide)
      have n2 : ((if c < 0 then -c else c) % 2147483629 + 7919 * (k : Int) * (k : Int) + 31 * (k : Int) + 17) * 48271 % 2147483647 < 2147483647 := Int.emod_lt_of_pos _ (by decide)
      refine ⟨_, rfl, _, rfl, _, _, rfl, rfl, ⟨by decide, by decide, by decide⟩, _, _, rfl, rfl, ?_⟩
      refine .inr ⟨_, rfl, ?_⟩
      refine ⟨_, _, rfl, rfl, .inr ?_, _, rfl, _, rfl, _, _, rfl, rfl, .inl ⟨by omega, by omega⟩, .inl ⟨_, rfl, _, _, rfl, rfl, (by show (0 : Int) < 2147483629; decide), (by show 2 ≤ sizeLine; decide), fun p np => ?_⟩⟩
      · exact ⟨Int.lt_of_lt_of_le (by decide) (b01 _).1, Int.lt_of_le_of_lt (b01 _).2 (by decide)⟩
      · refine fin _ _ (Int.mul_nonneg hz (b01 _).1) (Int.emod_nonneg _ (by decide)) ?_ p np
        exact Int.lt_trans (Int.emod_lt_of_pos _ (by decide)) (by decide)
def spDraw : Sp := fun vs H Q _ => ∃ (p : Addr) (n : Int), vs = [.ref p, .int n] ∧ PoolAt H p ∧ 0 < n ∧ n ≤ 1000000000 ∧
  ∀ (v : Int) H', 0 ≤ v → v < n → But p H H' → PoolAt H' p → (∀ b, H b = none → H' b = none) → Q (.int v) H'
theorem ok_draw {f : Addr} {fd : FuncData} (F : Fun K "_law_draw" "_law_draw" sDraw f fd) (M : Blt mg) : FnOk P w K mg base CX0 1 f fd ["_law_pool_here", "_law_many"] spDraw := by
  refine F.ok scDraw (fun vs H Q E h => ?_) (fun cdv A outer s H vs Q E hr h => ?_)
  · obtain ⟨p, n, rfl, _⟩ := h
    rfl
  · obtain ⟨p, n, rfl, ⟨x, y, hp, hx, hy, hy2⟩, hn, hn2, q⟩ := h
    refine ⟨_, pss_cons (ps_if (pt_cmpR op_gt (pe_ix ix_list (pv 0) pe_int (fun _ _ => rfl)) pe_int (nomark _))
        (pss_cons (ps_set (i := 2) scDraw.nd rfl (.inl rfl) (pe_op op_mod (pe_callTy call_int1 (by rfl) M.int (by decide +kernel) (pa_cons (pe_ix ix_list (pv 0) pe_int (fun _ _ => rfl)) pa_nil)) (pv 1)))
        (pss_cons (ps_asg (pe_op op_fdiv (pe_ix ix_list (pv 0) pe_int (fun _ _ => rfl)) (pv 1)) (pg_sub (pv 0) pe_int set_list))
        (pss_one (ps_ret (pv 2))))) pss_nil)
      (pss_cons (ps_asg (pe_op op_mod (pe_callTy call_int1 (by rfl) M.int (by decide +kernel) (pa_cons (pe_op op_add (pe_op op_mul (pe_ix ix_list (pv 0) pe_int (fun _ _ => rfl)) pe_int) pe_int) pa_nil)) pe_int) (pg_sub (pv 0) pe_int set_list))
      (pss_one (ps_ret (pe_op op_mod (pe_callTy call_int1 (by rfl) M.int (by decide +kernel) (pa_cons (pe_op op_fdiv (pe_op op_mod (pe_callTy call_int1 (by rfl) M.int (by decide +kernel)
          (pa_cons (pe_op op_mul (pe_ix ix_list (pv 0) pe_int (fun _ _ => rfl)) (pe_ix ix_list (pv 0) pe_int (fun _ _ => rfl))) pa_nil)) pe_int) pe_int) pa_nil)) (pv 1))))), ?_⟩
    have hS : SqL K H p [.int x, .int y] := .inl (.inl hp)
    have fr : ∀ o b, H b = none → upd H p o b = none := fun o b hb => by
      rw [upd_ne (fun e => by rw [e, hp] at hb; cases hb)]
      exact hb
    refine ⟨.ref p, rfl, p, _, 0, .int x, rfl, rfl, hS, rfl, x, 0, rfl, rfl, _, rfl, ite2 (fun e => ?_) (fun e => ?_)⟩
    · refine ⟨.ref p, rfl, p, _, 0, .int x, rfl, rfl, hS, rfl, .inl ⟨x, rfl, _, rfl, x, n, rfl, rfl, hn, ?_⟩⟩
      refine ⟨.ref p, rfl, p, _, 0, .int x, rfl, rfl, hS, rfl, .int n, rfl, x, n, rfl, rfl, ⟨hn, by omega⟩, ?_⟩
      refine ⟨.ref p, rfl, p, _, 0, 0, rfl, rfl, hp, rfl, ?_⟩
      refine ⟨_, rfl, q _ _ (Int.emod_nonneg _ (by omega)) (Int.emod_lt_of_pos _ hn) But.upd ⟨_, y, upd_same, ?_, hy, hy2⟩ (fr _)⟩
      exact Int.ediv_nonneg hx (by omega)
    · refine ⟨.ref p, rfl, p, _, 1, .int y, rfl, rfl, hS, rfl, y, _, rfl, rfl, .inl ⟨by omega, by omega⟩, _, _, rfl, rfl, .inl ⟨_, rfl, _, _, rfl, rfl, (by show (0 : Int) < 2147483647; decide), ?_⟩⟩
      refine ⟨.ref p, rfl, p, _, 1, 1, rfl, rfl, hp, rfl, ?_⟩
      have b1 : 0 ≤ (y * 48271 + 11) % 2147483647 := Int.emod_nonneg _ (by decide)
      have b2 : (y * 48271 + 11) % 2147483647 < 2147483647 := Int.emod_lt_of_pos _ (by decide)
      have hS2 : SqL K (upd H p (.lst ([V.int x, .int y].set 1 (.int ((y * 48271 + 11) % 2147483647))))) p [.int x, .int ((y * 48271 + 11) % 2147483647)] := .inl (.inl upd_same)
      refine ⟨.ref p, rfl, p, _, 1, _, rfl, rfl, hS2, rfl, .ref p, rfl, p, _, 1, _, rfl, rfl, hS2, rfl, _, _, rfl, rfl, .inl ⟨by omega, by omega⟩, .inl ⟨_, rfl, _, _, rfl, rfl, (by show (0 : Int) < 2147483629; decide), _, _, rfl, rfl, ⟨by decide, by decide⟩, .inl ⟨_, rfl, ?_⟩⟩⟩
      refine ⟨.int n, rfl, _, n, rfl, rfl, hn, ?_⟩
      exact q _ _ (Int.emod_nonneg _ (by omega)) (Int.emod_lt_of_pos _ hn) But.upd ⟨x, _, upd_same, hx, b1, by omega⟩ (fr _)
def spPick (K : PySem.W.Frag) : Sp := fun vs H Q _ => ∃ (p r : Addr) (xs : List V), vs = [.ref p, .ref r] ∧ PoolAt H p ∧ p ≠ r ∧ (SqL K H r xs ∨ SqT K H r xs) ∧ 0 < xs.length ∧ xs.length ≤ 1000000 ∧
  ∀ (i : Nat) (hi : i < xs.length) H', But p H H' → PoolAt H' p → (∀ b, H b = none → H' b = none) → Q xs[i] H'
theorem ok_pick {f fD : Addr} {fd fdD : FuncData} (F : Fun K "_law_pick" "_law_pick" sPick f fd) (M : Blt mg) (FD : Fun K "_law_draw" "_law_draw" sDraw fD fdD) (bD : Binds K fdD ["_law_pool_here", "_law_many"] []) (gD : mg "_law_draw" = some (.ref fD)) :
    FnOk P w K mg base CX0 2 f fd ["_law_pool_here", "_law_row"] (spPick K) := by
  have GD : FnOk P w K mg base CX0 1 fD fdD ["_law_pool_here", "_law_many"] spDraw := ok_draw FD M
  refine F.ok scPick (fun vs H Q E h => ?_) (fun cdv A outer s H vs Q E hr h => ?_)
  · obtain ⟨p, r, xs, rfl, _⟩ := h
    rfl
  · obtain ⟨p, r, xs, rfl, hp, npr, hS, hl, hl2, q⟩ := h
    refine ⟨_, pss_one (ps_ret (pe_ix ix_seq (pv 1) (pe_call GD hr (by rfl) gD FD.kp bD .nil pass0 (pa_cons (pv 0) (pa_cons (pe_callB call_len_seq (by rfl) M.len PySem.boot_len (pa_cons (pv 1) pa_nil)) pa_nil))) (fun _ _ => rfl))), ?_⟩
    refine ⟨_, rfl, _, rfl, _, rfl, _, _, rfl, hS, p, _, rfl, hp, by omega, by omega, fun v H' v0 v1 bt hp' fr => ?_⟩
    have hv : v.toNat < xs.length := by omega
    have ha : atI xs v = some xs[v.toNat] := at_nn v0 (List.getElem?_eq_getElem hv)
    have sk : SqL K H' r xs ∨ SqT K H' r xs := hS.imp (bt.seq npr.symm) (bt.seqT npr.symm)
    rcases sk with sk | sk
    · exact .inl ⟨_, _, _, _, rfl, rfl, sk, ha, q _ hv _ bt hp' fr⟩
    · exact .inr (.inl ⟨_, _, _, _, rfl, rfl, sk, ha, q _ hv _ bt hp' fr⟩)
end
/-! ### data -/
mutual
theorem dp_mono {K : PySem.W.Frag} {H H' : Hp} (ht : ∀ a xs, SqT K H a xs → SqT K H' a xs) (hl : ∀ a xs, SqL K H a xs → SqL K H' a xs) : ∀ (d : PyData) (v : V), Dp K H v d → Dp K H' v d
  | .none, _, h => by
    cases h
    exact .non
  | .bool b, _, h => by
    cases h
    exact .bl b
  | .int i, _, h => by
    cases h
    exact .int i
  | .str x, _, h => by
    cases h
    exact .str x
  | .list ds, _, h => by
    cases h with
    | lst hs ha => exact .lst (hl _ _ hs) (dpAll_mono ht hl ds _ ha)
  | .tuple ds, _, h => by
    cases h with
    | tup hs ha => exact .tup (ht _ _ hs) (dpAll_mono ht hl ds _ ha)
  | .dict _, _, h => by cases h
theorem dpAll_mono {K : PySem.W.Frag} {H H' : Hp} (ht : ∀ a xs, SqT K H a xs → SqT K H' a xs) (hl : ∀ a xs, SqL K H a xs → SqL K H' a xs) : ∀ (ds : List PyData) (vs : List V), DpAll K H vs ds → DpAll K H' vs ds
  | [], _, h => by
    cases h
    exact .nil
  | d :: ds, _, h => by
    cases h with
    | cons h1 h2 => exact .cons (dp_mono ht hl d _ h1) (dpAll_mono ht hl ds _ h2)
end
theorem same_sqT {K : PySem.W.Frag} {H H' : Hp} (s : Same H H') {a : Addr} {xs : List V} (h : SqT K H a xs) : SqT K H' a xs := by
  rcases h with (h | ⟨o, h⟩) | h
  · exact .inl (.inl (s _ _ h))
  · exact .inl (.inr ⟨o, s _ _ h⟩)
  · exact .inr h
theorem dp_same {K : PySem.W.Frag} {H H' : Hp} (s : Same H H') {d : PyData} {v : V} (h : Dp K H v d) : Dp K H' v d := dp_mono (fun _ _ => same_sqT s) (fun _ _ => s.seq) d v h
theorem dpA_same {K : PySem.W.Frag} {H H' : Hp} (s : Same H H') {ds : List PyData} {vs : List V} (h : DpAll K H vs ds) : DpAll K H' vs ds := dpAll_mono (fun _ _ => same_sqT s) (fun _ _ => s.seq) ds vs h
/-! data without lists -/
mutual
def noL : PyData → Bool
  | .list _ => false
  | .tuple ds => noLs ds
  | .dict _ => false
  | _ => true
def noLs : List PyData → Bool
  | [] => true
  | d :: ds => noL d && noLs ds
end
mutual
theorem dp_tups {K : PySem.W.Frag} {H H' : Hp} (ht : ∀ a xs, SqT K H a xs → SqT K H' a xs) : ∀ (d : PyData) (v : V), noL d = true → Dp K H v d → Dp K H' v d
  | .none, _, _, h => by
    cases h
    exact .non
  | .bool b, _, _, h => by
    cases h
    exact .bl b
  | .int i, _, _, h => by
    cases h
    exact .int i
  | .str x, _, _, h => by
    cases h
    exact .str x
  | .list ds, _, n, _ => by cases n
  | .tuple ds, _, n, h => by
    cases h with
    | tup hs ha => exact .tup (ht _ _ hs) (dpAll_tups ht ds _ n ha)
  | .dict _, _, _, h => by cases h
theorem dpAll_tups {K : PySem.W.Frag} {H H' : Hp} (ht : ∀ a xs, SqT K H a xs → SqT K H' a xs) : ∀ (ds : List PyData) (vs : List V), noLs ds = true → DpAll K H vs ds → DpAll K H' vs ds
  | [], _, _, h => by
    cases h
    exact .nil
  | d :: ds, _, n, h => by
    have n1 : noL d = true := (Bool.and_eq_true _ _ ▸ n : noL d = true ∧ noLs ds = true).1
    have n2 : noLs ds = true := (Bool.and_eq_true _ _ ▸ n : noL d = true ∧ noLs ds = true).2
    cases h with
    | cons h1 h2 => exact .cons (dp_tups ht d _ n1 h1) (dpAll_tups ht ds _ n2 h2)
end
/-- tuples stand while a list is changed -/
theorem but_sqT {K : PySem.W.Frag} {p : Addr} {H H' : Hp} {ys : List V} (hp : H p = some (.lst ys)) (b : But p H H') {a : Addr} {xs : List V} (h : SqT K H a xs) : SqT K H' a xs := by
  rcases h with (h | ⟨o, h⟩) | h
  · exact .inl (.inl (b _ _ h (ne_of h hp (fun z => nomatch z))))
  · exact .inl (.inr ⟨o, b _ _ h (ne_of h hp (fun z => nomatch z))⟩)
  · exact .inr h
theorem dp_but {K : PySem.W.Frag} {p : Addr} {H H' : Hp} (hp : PoolAt H p) (b : But p H H') {d : PyData} {v : V} (n : noL d = true) (h : Dp K H v d) : Dp K H' v d := by
  obtain ⟨x, y, e, _⟩ := hp
  exact dp_tups (fun _ _ => but_sqT e b) d v n h
/-- a value's own name of its class -/
def kind : PyData → String
  | .none => "NoneType"
  | .bool _ => "bool"
  | .int _ => "int"
  | .str _ => "str"
  | .list _ => "list"
  | .tuple _ => "tuple"
  | .dict _ => "dict"
theorem tyx_sqT {K : PySem.W.Frag} {H : Hp} {a : Addr} {xs : List V} (h : SqT K H a xs) : TyX K H (.ref a) (.type "tuple") := by
  rcases h with (h | ⟨o, h⟩) | ⟨o, _, _, h, c, _⟩
  · exact .base (.tup h)
  · exact .fTuple h
  · exact .kTuple h c
theorem tyx_sqL {K : PySem.W.Frag} {H : Hp} {a : Addr} {xs : List V} (h : SqL K H a xs) : TyX K H (.ref a) (.type "list") := by
  rcases h with (h | ⟨o, h⟩) | ⟨o, _, _, h, c, _⟩
  · exact .base (.lst h)
  · exact .base (.frz h)
  · exact .kList h c
theorem dp_ty {K : PySem.W.Frag} {H : Hp} {d : PyData} {v : V} (h : Dp K H v d) : TyX K H v (.type (kind d)) := by
  cases h with
  | non => exact .base .non
  | bl b => exact .base (.bl b)
  | int i => exact .base (.int i)
  | str x => exact .base (.str x)
  | lst hs _ => exact tyx_sqL hs
  | tup hs _ => exact tyx_sqT hs
def isInt : PyData → Bool
  | .int _ => true
  | .bool _ => true
  | _ => false
def isBool : PyData → Bool
  | .bool _ => true
  | _ => false
def isStr : PyData → Bool
  | .str _ => true
  | _ => false
def isTup : PyData → Bool
  | .tuple _ => true
  | _ => false
theorem kit_int (K : PySem.W.Frag) : ∀ d : PyData, PySem.W.kitOne K (.type (kind d)) (.type "int") = some (isInt d)
  | .none => kit_ty (show kitB "NoneType" "int" = some false by decide +kernel)
  | .bool _ => kit_ty (show kitB "bool" "int" = some true by decide +kernel)
  | .int _ => kit_ty (show kitB "int" "int" = some true by decide +kernel)
  | .str _ => kit_ty (show kitB "str" "int" = some false by decide +kernel)
  | .list _ => kit_ty (show kitB "list" "int" = some false by decide +kernel)
  | .tuple _ => kit_ty (show kitB "tuple" "int" = some false by decide +kernel)
  | .dict _ => kit_ty (show kitB "dict" "int" = some false by decide +kernel)
theorem kit_bool (K : PySem.W.Frag) : ∀ d : PyData, PySem.W.kitOne K (.type (kind d)) (.type "bool") = some (isBool d)
  | .none => kit_ty (show kitB "NoneType" "bool" = some false by decide +kernel)
  | .bool _ => kit_ty (show kitB "bool" "bool" = some true by decide +kernel)
  | .int _ => kit_ty (show kitB "int" "bool" = some false by decide +kernel)
  | .str _ => kit_ty (show kitB "str" "bool" = some false by decide +kernel)
  | .list _ => kit_ty (show kitB "list" "bool" = some false by decide +kernel)
  | .tuple _ => kit_ty (show kitB "tuple" "bool" = some false by decide +kernel)
  | .dict _ => kit_ty (show kitB "dict" "bool" = some false by decide +kernel)
theorem kit_str (K : PySem.W.Frag) : ∀ d : PyData, PySem.W.kitOne K (.type (kind d)) (.type "str") = some (isStr d)
  | .none => kit_ty (show kitB "NoneType" "str" = some false by decide +kernel)
  | .bool _ => kit_ty (show kitB "bool" "str" = some false by decide +kernel)
  | .int _ => kit_ty (show kitB "int" "str" = some false by decide +kernel)
  | .str _ => kit_ty (show kitB "str" "str" = some true by decide +kernel)
  | .list _ => kit_ty (show kitB "list" "str" = some false by decide +kernel)
  | .tuple _ => kit_ty (show kitB "tuple" "str" = some false by decide +kernel)
  | .dict _ => kit_ty (show kitB "dict" "str" = some false by decide +kernel)
theorem kit_tup (K : PySem.W.Frag) : ∀ d : PyData, PySem.W.kitOne K (.type (kind d)) (.type "tuple") = some (isTup d)
  | .none => kit_ty (show kitB "NoneType" "tuple" = some false by decide +kernel)
  | .bool _ => kit_ty (show kitB "bool" "tuple" = some false by decide +kernel)
  | .int _ => kit_ty (show kitB "int" "tuple" = some false by decide +kernel)
  | .str _ => kit_ty (show kitB "str" "tuple" = some false by decide +kernel)
  | .list _ => kit_ty (show kitB "list" "tuple" = some false by decide +kernel)
  | .tuple _ => kit_ty (show kitB "tuple" "tuple" = some true by decide +kernel)
  | .dict _ => kit_ty (show kitB "dict" "tuple" = some false by decide +kernel)
/-- a block that goes through an iterator: what each turn asks, and what holds at the end -/
abbrev Turns (J : It) (H0 : Hp) (End : Hp → Prop) (Body : (Hp → Prop) → V → Hp → Prop) : Prop :=
  ∃ Wk : Nat → Nat → Hp → Prop, (∃ left, Wk 0 left H0) ∧
    ∀ at_ left Hn, Wk at_ left Hn → (J.stop at_ Hn ∧ End Hn) ∨ (J.go at_ Hn ∧
      ∃ Then : Hp → Prop, (∀ Hb, Then Hb → ∃ fewer, fewer < left ∧ Wk (at_ + 1) fewer Hb) ∧ ∀ item Hi, J.yld at_ Hn item Hi → Body Then item Hi)
/-- a turn of a list's comprehension without a test -/
abbrev LcBody (D : Addr) (te : TE) (vs : List Nat) (j : Nat) (σ : L2.St) : (Hp → Prop) → V → Hp → Prop := fun Then item Hi =>
  gName j item (wipe σ vs) Hi fun σn Hn => wipe σn vs = wipe σ vs ∧ tYes σn Hn fun yes Hy =>
    if yes = true then te σn Hy (fun made Hm => ∃ sofar, Hm D = some (.lst sofar) ∧ sofar.length < sizeLine ∧ Then (upd Hm D (.lst (sofar ++ [made])))) else Then Hy
/-- a comprehension whose i-th item is f i -/
theorem lc_vals {J : It} {n : Nat} {G : Hp → Prop} {Y : Nat → Hp → V → Hp → Prop} (w : Walk J n G Y) {j : Nat} {te : TE} {vs : List Nat} {σ : L2.St} {H1 : Hp} {D : Addr} {Qd : Hp → Prop} (f : Nat → V) (hz : n ≤ 50000)
    (hD : H1 D = none) (hw : ∀ x, wipe ((wipe σ vs).set j (some x)) vs = wipe σ vs) (hG : ∀ H, Same H1 H → G H)
    (he : ∀ i x H H', i < n → Same H1 H → Y i H x H' → Same H H' ∧ ∀ Q : VK, (∀ H2, Same H' H2 → Q (f i) H2) → te ((wipe σ vs).set j (some x)) H' Q)
    (hd : ∀ H, Same H1 H → H D = some (.lst ((List.range n).map f)) → Qd H)  :
    Turns J (upd H1 D (.lst [])) Qd (LcBody D te vs j σ) := by
  refine lc_it w (fun i H => Same H1 H ∧ H D = some (.lst ((List.range i).map f))) ⟨same_upd hD, upd_same⟩ (fun i H _ p => hG H p.1) (fun i x H H' hi p y => ?_) (fun H p => hd H p.1 p.2)
  obtain ⟨s1, e1⟩ := p
  obtain ⟨s2, k⟩ := he i x H H' hi s1 y
  refine And.intro (hw x) ?_
  unfold tYes
  refine iteT ?_
  refine k _ fun H2 s3 => ⟨_, s3 _ _ (s2 _ _ e1), ?_, fun b o e => ?_, ?_⟩
  · rw [List.length_map, List.length_range]
    exact Nat.lt_of_lt_of_le (show i < 50000 by omega) (by decide)
  · have hb : b ≠ D := ne_of_none e hD
    rw [upd_ne hb]
    exact s3 _ _ (s2 _ _ (s1 _ _ e))
  · rw [upd_same, List.range_succ, List.map_append]
    rfl
theorem range_get {α : Type} (xs : List α) (f : Nat → α) (h : ∀ i x, xs[i]? = some x → f i = x) : (List.range xs.length).map f = xs := by
  apply List.ext_getElem?
  intro i
  rw [List.getElem?_map]
  by_cases hi : i < xs.length
  · rw [List.getElem?_range hi, List.getElem?_eq_getElem hi]
    exact congrArg some (h i _ (List.getElem?_eq_getElem hi))
  · rw [List.getElem?_eq_none (by simpa using hi), List.getElem?_eq_none (by simpa using hi)]
    rfl
theorem dpA_len {K : PySem.W.Frag} {H : Hp} : ∀ {ds : List PyData} {vs : List V}, DpAll K H vs ds → vs.length = ds.length
  | [], _, h => by
    cases h
    rfl
  | d :: ds, _, h => by
    cases h with
    | cons _ h2 => rw [List.length_cons, List.length_cons, dpA_len h2]
theorem dpA_get {K : PySem.W.Frag} {H : Hp} : ∀ {ds : List PyData} {vs : List V} {i : Nat} {d : PyData}, DpAll K H vs ds → ds[i]? = some d → ∃ v, vs[i]? = some v ∧ Dp K H v d
  | [], _, _, _, _, e => by simp at e
  | d :: ds, _, 0, _, h, e => by
    cases h with
    | cons h1 _ =>
      have e1 : d = _ := Option.some.inj e
      subst e1
      exact ⟨_, rfl, h1⟩
  | d :: ds, _, i + 1, _, h, e => by
    cases h with
    | cons _ h2 => exact dpA_get (i := i) h2 e
theorem dpA_app {K : PySem.W.Frag} {H : Hp} : ∀ {ds es : List PyData} {vs us : List V}, DpAll K H vs ds → DpAll K H us es → DpAll K H (vs ++ us) (ds ++ es)
  | [], _, _, _, h, h' => by
    cases h
    exact h'
  | d :: ds, _, _, _, h, h' => by
    cases h with
    | cons h1 h2 => exact .cons h1 (dpA_app h2 h')
/-- a walk by its turns, whatever a turn asks -/
theorem walk_gen {J : It} {n : Nat} {G : Hp → Prop} {Y : Nat → Hp → V → Hp → Prop} (w : Walk J n G Y) {H0 : Hp} {End : Hp → Prop} {Body : (Hp → Prop) → V → Hp → Prop} (Pv : Nat → Hp → Prop) (h0 : Pv 0 H0) (hG : ∀ i H, i ≤ n → Pv i H → G H)
    (hs : ∀ i x H H', i < n → Pv i H → Y i H x H' → Body (Pv (i + 1)) x H') (hd : ∀ H, Pv n H → End H) : Turns J H0 End Body := by
  refine ⟨fun at_ left Hn => at_ + left = n ∧ Pv at_ Hn, ⟨n, Nat.zero_add n, h0⟩, fun at_ left Hn ⟨sum, holds⟩ => ?_⟩
  cases left with
  | zero =>
    have all : at_ = n := sum
    subst all
    exact Or.inl (And.intro (w.stops Hn (hG _ Hn (Nat.le_refl _) holds)) (hd Hn holds))
  | succ less =>
    have more : at_ < n := by omega
    have good := hG at_ Hn (Nat.le_of_lt more) holds
    refine Or.inr (And.intro (w.goes at_ Hn more good) ⟨Pv (at_ + 1), fun Hb next => ⟨less, Nat.lt_succ_self less, by omega, next⟩, fun item Hi given => ?_⟩)
    exact hs at_ item Hn Hi more holds (w.yields at_ Hn item Hi more good given)
theorem dpA_at {K : PySem.W.Frag} {H : Hp} : ∀ {ds : List PyData} {vs : List V} {i : Nat} {v : V}, DpAll K H vs ds → vs[i]? = some v → ∃ d, ds[i]? = some d ∧ Dp K H v d
  | _, [], _, _, _, e => by simp at e
  | _, _ :: _, 0, _, h, e => by
    cases h with
    | cons h1 _ =>
      have e1 := Option.some.inj e
      subst e1
      exact ⟨_, rfl, h1⟩
  | _, _ :: _, i + 1, _, h, e => by
    cases h with
    | cons _ h2 => exact dpA_at (i := i) h2 e
theorem take_snoc {α : Type} : ∀ {l : List α} {i : Nat} {x : α}, l[i]? = some x → l.take (i + 1) = l.take i ++ [x]
  | [], i, x, h => by simp at h
  | a :: l, 0, x, h => by
    have e : a = x := Option.some.inj h
    subst e
    rfl
  | a :: l, i + 1, x, h => by
    have ih := take_snoc (l := l) (i := i) (x := x) h
    show a :: l.take (i + 1) = a :: l.take i ++ [x]
    rw [ih]
    rfl
theorem cut1 (xs : List V) : cutV xs (some 1) none = xs.drop 1 := by
  unfold cutV
  rw [show HT.sIx xs.length 0 (some 1) = min 1 xs.length from HT.sIx_nat xs.length 0 1, HT.sIx_none]
  cases xs with
  | nil => rfl
  | cons x r =>
    rw [show min 1 (x :: r).length = 1 by
      rw [List.length_cons]
      omega]
    show (List.take ((x :: r).length - 1) r) = r
    rw [List.length_cons, Nat.add_sub_cancel]
    exact List.take_length
theorem q_c {tz : TS} {D : Ends} {σ : L2.St} {H : Hp} {i : Nat} {v : V} (h : tz D (σ.set i (some v)) H) : tSeq (tAsg (tC v) (gName i)) tz D σ H := h
theorem q_w {c : TT} {tb tz : TS} {D : Ends} {σ : L2.St} {H : Hp} (h : tWhile c tb { D with nx := tz D } σ H) : tSeq (tWhile c tb) tz D σ H := h
theorem wh_by {c : TT} {tb : TS} {D : Ends} {σ : L2.St} {H : Hp} (W : Nat → L2.St → Hp → Prop) (m0 : Nat) (h0 : W m0 σ H)
    (hs : ∀ m σ H, W m σ H → c σ H fun b H1 => if b = true then tb { D with nx := fun σ' H' => ∃ m', m' < m ∧ W m' σ' H', ct := fun σ' H' => ∃ m', m' < m ∧ W m' σ' H', bk := D.nx } σ H1 else D.nx σ H1)
    (mono : ∀ σ H Q Q', (∀ b H1, Q b H1 → Q' b H1) → c σ H Q → c σ H Q') : tWhile c tb D σ H :=
  ⟨W, ⟨m0, h0⟩, fun m σ H hw => mono _ _ _ _ (fun b H1 q => by
    cases b with
    | true => exact ⟨_, fun σ' H' h => h, q⟩
    | false => exact q) (hs m σ H hw)⟩
/-- a comprehension whose i-th item is as R says -/
theorem lc_rel {J : It} {n : Nat} {G : Hp → Prop} {Y : Nat → Hp → V → Hp → Prop} (w : Walk J n G Y) {j : Nat} {te : TE} {vs : List Nat} {σ : L2.St} {H1 : Hp} {D : Addr} {Qd : Hp → Prop} (R : Nat → V → Hp → Prop) (hz : n ≤ 50000)
    (hD : H1 D = none) (hw : ∀ x, wipe ((wipe σ vs).set j (some x)) vs = wipe σ vs) (hG : ∀ H, Same H1 H → G H) (hR : ∀ i v H H' zs, H D = some (.lst zs) → But D H H' → R i v H → R i v H')
    (he : ∀ i x H H', i < n → Same H1 H → Y i H x H' → Same H H' ∧ ∀ Q : VK, (∀ v H2, Same H' H2 → R i v H2 → Q v H2) → te ((wipe σ vs).set j (some x)) H' Q)
    (hd : ∀ ys H, Same H1 H → H D = some (.lst ys) → ys.length = n → (∀ i v, ys[i]? = some v → R i v H) → Qd H)  :
    Turns J (upd H1 D (.lst [])) Qd (LcBody D te vs j σ) := by
  refine lc_it w (fun i H => Same H1 H ∧ ∃ ys, H D = some (.lst ys) ∧ ys.length = i ∧ ∀ k v, ys[k]? = some v → R k v H) ⟨same_upd hD, [], upd_same, rfl, fun k v e => by simp at e⟩ (fun i H _ p => hG H p.1) (fun i x H H' hi p y => ?_) (fun H p => ?_)
  · obtain ⟨s1, ys, e1, el, er⟩ := p
    obtain ⟨s2, k⟩ := he i x H H' hi s1 y
    refine And.intro (hw x) ?_
    unfold tYes
    refine iteT ?_
    refine k _ fun v H2 s3 rv => ⟨ys, s3 _ _ (s2 _ _ e1), ?_, fun b o e => ?_, ys ++ [v], upd_same, ?_, fun k u eu => ?_⟩
    · exact Nat.lt_of_lt_of_le (show ys.length < 50000 by omega) (by decide)
    · have hb : b ≠ D := ne_of_none e hD
      rw [upd_ne hb]
      exact s3 _ _ (s2 _ _ (s1 _ _ e))
    · rw [List.length_append, el]
      rfl
    · have e2 : H2 D = some (.lst ys) := s3 _ _ (s2 _ _ e1)
      refine hR k u H2 _ ys e2 But.upd ?_
      by_cases hk : k < ys.length
      · rw [List.getElem?_append_left hk] at eu
        exact hR k u H H2 ys e1 (But.of (s2.trans s3)) (er k u eu)
      · have hk2 : k = ys.length := by
          have := (List.getElem?_eq_some_iff.mp eu).1
          rw [List.length_append] at this
          simp at this
          omega
        rw [hk2, List.getElem?_append_right (Nat.le_refl _), Nat.sub_self] at eu
        have eu2 := Option.some.inj eu
        subst eu2
        rw [hk2, el]
        exact rv
  · obtain ⟨s1, ys, e1, el, er⟩ := p
    exact hd ys H s1 e1 el er
theorem PoolAt.upd {H : Hp} {p l : Addr} {o : HO} (h : PoolAt H p) (n : H l = none) : PoolAt (L2.upd H l o) p := by
  obtain ⟨x, y, e, r⟩ := h
  refine ⟨x, y, ?_, r⟩
  rw [upd_ne (ne_of_none e n)]
  exact e
theorem PoolAt.ne {H : Hp} {p l : Addr} (h : PoolAt H p) (n : H l = none) : p ≠ l := by
  obtain ⟨x, y, e, r⟩ := h
  exact ne_of_none e n
theorem PoolAt.same {H H' : Hp} {p : Addr} (h : PoolAt H p) (s : Same H H') : PoolAt H' p := by
  obtain ⟨x, y, e, r⟩ := h
  exact ⟨x, y, s _ _ e, r⟩
/-- a comprehension that draws: its items are as R says, whatever is drawn -/
theorem lc_pool {J : It} {n : Nat} {Y : Nat → Hp → V → Hp → Prop} (w : Walk J n (fun _ => True) Y) {j : Nat} {te : TE} {vs : List Nat} {σ : L2.St} {H1 : Hp} {D p : Addr} {Qd : Hp → Prop} (R : V → Prop) (hz : n ≤ 50000)
    (hD : H1 D = none) (hp : PoolAt H1 p) (hw : ∀ x, wipe ((wipe σ vs).set j (some x)) vs = wipe σ vs)
    (he : ∀ i x H H', i < n → PoolAt H p → Y i H x H' → H' = H ∧ ∀ Q : VK, (∀ v H2, But p H H2 → PoolAt H2 p → R v → Q v H2) → te ((wipe σ vs).set j (some x)) H Q)
    (hd : ∀ ys H, But p H1 H → PoolAt H p → H D = some (.lst ys) → ys.length = n → (∀ v ∈ ys, R v) → Qd H)  :
    Turns J (upd H1 D (.lst [])) Qd (LcBody D te vs j σ) := by
  have npD : D ≠ p := (hp.ne hD).symm
  refine lc_it w (fun i H => But p H1 H ∧ PoolAt H p ∧ ∃ ys, H D = some (.lst ys) ∧ ys.length = i ∧ ∀ v ∈ ys, R v) ⟨But.of (same_upd hD), hp.upd hD, [], upd_same, rfl, fun v e => by simp at e⟩ (fun i H _ p => True.intro) (fun i x H H' hi q y => ?_) (fun H q => ?_)
  · obtain ⟨s1, h1, ys, e1, el, er⟩ := q
    obtain ⟨rfl, k⟩ := he i x H H' hi h1 y
    refine And.intro (hw x) ?_
    unfold tYes
    refine iteT ?_
    refine k _ fun v H2 s3 h3 rv => ⟨ys, s3 _ _ e1 npD, ?_, fun b o e nb => ?_, ?_, ys ++ [v], upd_same, ?_, fun u hu => ?_⟩
    · exact Nat.lt_of_lt_of_le (show ys.length < 50000 by omega) (by decide)
    · have hb : b ≠ D := ne_of_none e hD
      rw [upd_ne hb]
      exact s3 _ _ (s1 _ _ e nb) nb
    · obtain ⟨x, y, e, r⟩ := h3
      exact ⟨x, y, by rw [upd_ne npD.symm]; exact e, r⟩
    · rw [List.length_append, el]
      rfl
    · rcases List.mem_append.mp hu with hu | hu
      · exact er u hu
      · rw [List.mem_singleton.mp hu]
        exact rv
  · obtain ⟨s1, h1, ys, e1, el, er⟩ := q
    exact hd ys H s1 h1 e1 el er
theorem at_of {j : Nat} {xs : List V} {v : V} {z : Int} (same : z = (j : Int)) (there : xs[j]? = some v) : atI xs z = some v := same ▸ atI_nat there
/-! ### values and names -/
abbrev sWhole : Stmt := topS 17
abbrev sValue : Stmt := topS 18
abbrev sName : Stmt := topS 19
theorem scWhole : FnScope ["value"] ["value"] (defScope sWhole) := ⟨rfl, rfl, rfl, by decide +kernel, rfl, by decide +kernel, by decide +kernel⟩
theorem scValue : FnScope ["value"] ["value"] (defScope sValue) := ⟨rfl, rfl, rfl, by decide +kernel, rfl, by decide +kernel, by decide +kernel⟩
theorem scName : FnScope ["value", "letter"] ["value"] (defScope sName) := ⟨rfl, rfl, rfl, by decide +kernel, rfl, by decide +kernel, by decide +kernel⟩
def isWhole : PyData → Bool
  | .int _ => true
  | _ => false
def isValue : PyData → Bool
  | .int i => decide (0 ≤ i) && decide (i < 3)
  | _ => false
def lowCode (c : Nat) : Bool := decide (97 ≤ c) && decide (c ≤ 122)
def isName : PyData → Bool
  | .str z => decide (1 ≤ (z.length : Int)) && decide ((z.length : Int) ≤ 8) && z.cps.toList.all lowCode
  | _ => false
theorem isWhole_eq (d : PyData) : isWhole d = (isInt d && !isBool d) := by cases d <;> rfl
mutual
def szD : PyData → Bool
  | .str z => decide (z.length ≤ 1000)
  | .tuple ds => decide (ds.length ≤ 1000) && szDs ds
  | .list ds => decide (ds.length ≤ 1000) && szDs ds
  | _ => true
def szDs : List PyData → Bool
  | [] => true
  | d :: ds => szD d && szDs ds
end
theorem nlt (a b : Nat) : (!decide ([a] < [b])) = decide (b ≤ a) := by
  by_cases h : a < b
  · rw [decide_eq_true (show [a] < [b] from List.cons_lt_cons_iff.mpr (.inl h)), decide_eq_false (by omega)]
    rfl
  · have q : ¬ [a] < [b] := fun q => by
      rcases List.cons_lt_cons_iff.mp q with q | ⟨_, q⟩
      · exact h q
      · exact absurd q (List.not_lt_nil _)
    rw [decide_eq_false q, decide_eq_true (by omega)]
    rfl
theorem all_range (l : List Nat) (g : Nat → Bool) : ((List.range l.length).map fun i => g (l.getD i 0)).all id = l.all g := by
  have e : (List.range l.length).map (fun i => g (l.getD i 0)) = l.map g := by
    apply List.ext_getElem?
    intro i
    rw [List.getElem?_map, List.getElem?_map]
    by_cases hi : i < l.length
    · rw [List.getElem?_range hi, List.getElem?_eq_getElem hi]
      show some (g (l.getD i 0)) = some (g l[i])
      rw [List.getD_eq_getElem?_getD, List.getElem?_eq_getElem hi]
      rfl
    · rw [List.getElem?_eq_none (by simpa using hi), List.getElem?_eq_none (by simpa using hi)]
      rfl
  rw [e, List.all_map]
  rfl
/-- a truth about one value, told without a change -/
def spB (K : PySem.W.Frag) (g : PyData → Bool) : Sp := fun vs H Q _ => ∃ (v : V) (d : PyData), vs = [v] ∧ Dp K H v d ∧ szD d = true ∧ ∀ H', Same H H' → Q (.bl (g d)) H'
structure CellsTxt (K : PySem.W.Frag) (mg : Str → Option Value) : Prop where
  vals : ∃ aV, mg "VALUES" = some (.ref aV) ∧ ∀ H : Hp, SqT K H aV [.int 0, .int 1, .int 2]
  long : ∃ t, mg "LONGEST_NAME" = some (.int 8 t)
section
variable {P : Program} {w : World} {K : PySem.W.Frag} {mg : Str → Option Value} {base : Heap}
theorem ok_whole {f : Addr} {fd : FuncData} (F : Fun K "is_whole" "is_whole" sWhole f fd) (M : Blt mg) : FnOk P w K mg base CX0 1 f fd ["value"] (spB K isWhole) := by
  refine F.ok scWhole (fun vs H Q E h => ?_) (fun cdv A outer s H vs Q E hr h => ?_)
  · obtain ⟨v, d, rfl, _⟩ := h
    rfl
  · obtain ⟨v, d, rfl, hv, hsz, q'⟩ := h
    have q := q' H (Same.refl H)
    refine ⟨_, pss_one (ps_ret (pe_and (pe_callB call_isi (by rfl) M.isinstance (by decide +kernel) (pa_cons (pv 0) (pa_cons (pe_bltn (v := .ty "int") (by rfl) M.int (by decide +kernel) rfl) pa_nil)))
      (pe_one (pe_not (pe_callB call_isi (by rfl) M.isinstance (by decide +kernel) (pa_cons (pv 0) (pa_cons (pe_bltn (v := .ty "bool") (by rfl) M.bool (by decide +kernel) rfl) pa_nil))))))), ?_⟩
    rw [isWhole_eq] at q
    refine ⟨v, rfl, v, _, _, _, _, rfl, .ty "int", dp_ty hv, kit_int K d, _, rfl, ?_⟩
    cases hi : isInt d with
    | true =>
      refine iteT ⟨v, rfl, v, _, _, _, _, rfl, .ty "bool", dp_ty hv, kit_bool K d, _, rfl, ?_⟩
      rw [hi] at q
      exact q
    | false =>
      rw [hi] at q
      exact iteF q
theorem ok_value {f fW : Addr} {fd fdW : FuncData} (F : Fun K "is_value" "is_value" sValue f fd) (M : Blt mg) (T : CellsTxt K mg) (FW : Fun K "is_whole" "is_whole" sWhole fW fdW) (bW : Binds K fdW ["value"] []) (gW : mg "is_whole" = some (.ref fW)) :
    FnOk P w K mg base CX0 2 f fd ["value"] (spB K isValue) := by
  have GW : FnOk P w K mg base CX0 1 fW fdW ["value"] (spB K isWhole) := ok_whole FW M
  obtain ⟨aV, gV, sV⟩ := T.vals
  refine F.ok scValue (fun vs H Q E h => ?_) (fun cdv A outer s H vs Q E hr h => ?_)
  · obtain ⟨v, d, rfl, _⟩ := h
    rfl
  · obtain ⟨v, d, rfl, hv, hsz, q'⟩ := h
    have q := q' H (Same.refl H)
    refine ⟨_, pss_one (ps_ret (pe_and (pe_call GW hr (by rfl) gW FW.kp bW .nil pass0 (pa_cons (pv 0) pa_nil))
      (pe_one (pe_chain op_le op_lt pe_int (pv 0) (pe_callB call_len_seq (by rfl) M.len PySem.boot_len (pa_cons (pe_glob (v := .ref aV) (by rfl) gV rfl) pa_nil)))))), ?_⟩
    refine ⟨v, rfl, v, d, rfl, hv, hsz, fun H1 s1 => ⟨_, rfl, ?_⟩⟩
    replace q := q' H1 s1
    cases d with
    | int i =>
      cases hv
      refine iteT ⟨_, rfl, _, _, rfl, rfl, _, rfl, ?_⟩
      cases h0 : decide (0 ≤ i) with
      | false =>
        refine iteF ?_
        have e : isValue (.int i) = false := by
          show (decide (0 ≤ i) && decide (i < 3)) = false
          rw [h0] <;> rfl
        rw [e] at q
        exact q
      | true =>
        refine iteT ⟨aV, _, rfl, .inr (sV _), _, _, rfl, rfl, ?_⟩
        have e : isValue (.int i) = decide (i < 3) := by
          show (decide (0 ≤ i) && decide (i < 3)) = _
          rw [h0] <;> rfl
        rw [e] at q
        exact q
    | none => exact iteF q
    | bool b => exact iteF q
    | str z => exact iteF q
    | list ds => exact iteF q
    | tuple ds => exact iteF q
    | dict kvs => exact iteF q
theorem ok_name {f : Addr} {fd : FuncData} (F : Fun K "is_name" "is_name" sName f fd) (M : Blt mg) (T : CellsTxt K mg) : FnOk P w K mg base CX0 1 f fd ["value"] (spB K isName) := by
  obtain ⟨tl, gL⟩ := T.long
  refine F.ok scName (fun vs H Q E h => ?_) (fun cdv A outer s H vs Q E hr h => ?_)
  · obtain ⟨v, d, rfl, _⟩ := h
    rfl
  · obtain ⟨v, d, rfl, hv, hsz, q'⟩ := h
    have q := q' H (Same.refl H)
    refine ⟨_, pss_cons (ps_if (PW.pt (pw_or (pt_not (pt_val (pe_callB call_isi (by rfl) M.isinstance (by decide +kernel) (pa_cons (pv 0) (pa_cons (pe_bltn (v := .ty "str") (by rfl) M.str (by decide +kernel) rfl) pa_nil)))))
        (pw_or1 (pt_not (pt_chain op_le op_le pe_int (pe_callB call_len (by rfl) M.len PySem.boot_len (pa_cons (pv 0) pa_nil)) (pe_glob (v := .int 8) (by rfl) gL ⟨_, rfl⟩)))))) (pss_one (ps_ret pe_bl)) pss_nil)
      (pss_one (ps_ret (pe_callB (cr_all rfl) (by rfl) M.all (by decide +kernel) (pa_cons
        (pe_lc (own := [("letter", 1)]) (g := gName 1) (by rfl) scName.nd (pi_str (pv 0)) (blkOk_by (own := [("letter", 1)]) (N := ["value", "letter"]) (sc := defScope sName) (by decide +kernel))
          (fun _ _ _ _ _ => pg_name (i := 1) scName.nd rfl (Or.inl rfl)) (fun _ _ _ _ _ => pts_nil) (fun _ _ _ _ _ => pe_chain op_le_str op_le_str pe_str (pv 1) pe_str)) pa_nil)))), ?_⟩
    have no : isName d = false → Q (.bl false) H := fun e => by
      rw [e] at q
      exact q
    refine ⟨v, rfl, v, _, _, _, _, rfl, .ty "str", dp_ty hv, kit_str K d, _, rfl, ?_⟩
    cases d with
    | str z =>
      cases hv
      refine iteF ?_
      have hzl : z.length ≤ sizeLine := Nat.le_trans (of_decide_eq_true hsz) (by decide)
      by_cases hz : z.length ≤ 8
      · refine ⟨.str z, rfl, .str z, z.length, rfl, ⟨hzl, rfl⟩, _, _, rfl, rfl, _, rfl, ?_⟩
        cases h1 : decide (1 ≤ (z.length : Int)) with
        | false =>
          refine iteF ⟨_, rfl, iteT (no ?_)⟩
          show (decide (1 ≤ (z.length : Int)) && decide ((z.length : Int) ≤ 8) && z.cps.toList.all lowCode) = false
          rw [h1]
          rfl
        | true =>
          refine iteT ⟨_, _, rfl, rfl, _, rfl, ?_⟩
          have h2 : decide ((z.length : Int) ≤ 8) = true := decide_eq_true (by omega)
          rw [h2]
          refine iteF ⟨_, rfl, z, rfl, fun D hD => ?_⟩
          have ln : z.cps.size ≤ 8 := hz
          refine lc_vals (vs := [1]) (j := 1) (σ := [some (.str z), none]) walk_str (fun i => .bl (lowCode (z.cps.getD i 0))) (by omega) hD (fun x => rfl) (fun _ _ => True.intro) (fun i x H0 H' hi s1 y => ?_) (fun H' s1 e1 => ?_)
          · obtain ⟨rfl, c, hc, rfl⟩ := y
            have gc : z.cps.getD i 0 = c := by
              rw [Array.getD_eq_getD_getElem?, hc]
              rfl
            refine ⟨Same.refl _, fun Q2 q2 => ⟨_, rfl, _, _, rfl, rfl, _, rfl, ?_⟩⟩
            show if (!decide ([c] < [97])) = true then _ else _
            rw [nlt c 97]
            cases h3 : decide (97 ≤ c) with
            | false =>
              refine iteF ?_
              have e : lowCode (z.cps.getD i 0) = false := by
                rw [gc]
                show (decide (97 ≤ c) && decide (c ≤ 122)) = false
                rw [h3]
                rfl
              have q3 := q2 _ (Same.refl _)
              rw [e] at q3
              exact q3
            | true =>
              refine iteT ⟨_, _, rfl, rfl, ?_⟩
              have e : lowCode (z.cps.getD i 0) = (!decide ([122] < [c])) := by
                rw [gc, nlt 122 c]
                show (decide (97 ≤ c) && decide (c ≤ 122)) = _
                rw [h3]
                rfl
              have q3 := q2 _ (Same.refl _)
              rw [e] at q3
              exact q3
          · refine ⟨D, (List.range z.cps.size).map (fun i => lowCode (z.cps.getD i 0)), rfl, .inl (.inl ?_), ?_⟩
            · rw [e1, List.map_map]
              rfl
            · have e : ((List.range z.cps.size).map fun i => lowCode (z.cps.getD i 0)).all id = z.cps.toList.all lowCode := by
                rw [← all_range z.cps.toList lowCode]
                have ez : z.cps.toList.length = z.cps.size := by simp
                rw [ez]
                have eg : (fun i => lowCode (z.cps.getD i 0)) = fun i => lowCode (z.cps.toList.getD i 0) := by
                  funext i
                  rw [Array.getD_eq_getD_getElem?, List.getD_eq_getElem?_getD, Array.getElem?_toList]
                rw [eg]
              have e2 : isName (.str z) = z.cps.toList.all lowCode := by
                show (decide (1 ≤ (z.length : Int)) && decide ((z.length : Int) ≤ 8) && z.cps.toList.all lowCode) = _
                rw [h1, h2]
                rfl
              have q2 := q' H' s1
              rw [e2] at q2
              rw [e]
              exact q2
      · have nz : isName (.str z) = false := by
          show (decide (1 ≤ (z.length : Int)) && decide ((z.length : Int) ≤ 8) && z.cps.toList.all lowCode) = false
          rw [decide_eq_false (show ¬ (z.length : Int) ≤ 8 by omega), Bool.and_false]
          rfl
        refine ⟨.str z, rfl, .str z, z.length, rfl, ⟨hzl, rfl⟩, _, _, rfl, rfl, _, rfl, ?_⟩
        rw [decide_eq_true (show 1 ≤ (z.length : Int) by omega)]
        refine iteT ⟨_, _, rfl, rfl, _, rfl, ?_⟩
        rw [decide_eq_false (show ¬ (z.length : Int) ≤ 8 by omega)]
        exact iteT (no nz)
    | none => exact iteT (no rfl)
    | bool b => exact iteT (no rfl)
    | int i => exact iteT (no rfl)
    | list ds => exact iteT (no rfl)
    | tuple ds => exact iteT (no rfl)
    | dict kvs => exact iteT (no rfl)
end
/-! ### terms -/
abbrev sHas : Stmt := topS 43
abbrev sCallForm : Stmt := topS 44
theorem scHas : FnScope ["part", "arguments", "word"] ["part", "arguments"] (defScope sHas) := ⟨rfl, rfl, rfl, by decide +kernel, rfl, by decide +kernel, by decide +kernel⟩
theorem scCallForm : FnScope ["terms"] ["terms"] (defScope sCallForm) := ⟨rfl, rfl, rfl, by decide +kernel, rfl, by decide +kernel, by decide +kernel⟩
def lenOf (z : Str) : Option Int := if z = "tick" then some 1 else if z = "plus" then some 3 else if z = "less" then some 3 else if z = "same" then some 3 else if z = "if" then some 4 else none
def callForm : PyData → Bool
  | .tuple ts => decide ((ts.length : Int) ≤ 2)
  | _ => false
def below (n : Int) : PyData → Bool
  | .int i => decide (0 ≤ i) && decide (i < n)
  | _ => false
def on1 (g : PyData → Bool) : List PyData → Bool
  | [x] => g x
  | _ => false
def on2 (g : PyData → PyData → Bool) : List PyData → Bool
  | [x, y] => g x y
  | _ => false
theorem len2 {α : Type} : ∀ {l : List α}, l.length = 2 → ∃ x y, l = [x, y]
  | [x, y], _ => ⟨x, y, rfl⟩
  | [], h => by cases h
  | [_], h => by cases h
  | _ :: _ :: _ :: _, h => by
    simp only [List.length_cons] at h
    omega
theorem on1_bad {g : PyData → Bool} : ∀ {l : List PyData}, l.length ≠ 1 → on1 g l = false
  | [], _ => rfl
  | [_], h => absurd rfl h
  | _ :: _ :: _, _ => rfl
theorem on2_bad {g : PyData → PyData → Bool} : ∀ {l : List PyData}, l.length ≠ 2 → on2 g l = false
  | [], _ => rfl
  | [_], _ => rfl
  | [_, _], h => absurd rfl h
  | _ :: _ :: _ :: _, _ => rfl
def formOf (n : Int) (z : Str) (rest : List PyData) : Bool :=
  if z = "arg" then on1 (below n) rest
  else if z = "cell" then on1 isName rest
  else if z = "call" then on2 (fun x y => isName x && callForm y) rest
  else match lenOf z with
    | some k => decide ((rest.length : Int) + 1 = k)
    | none => false
def hasForm (n : Int) (d : PyData) : Bool := isValue d || match d with
  | .tuple (.str z :: rest) => formOf n z rest
  | _ => false
theorem szD_tup {ds : List PyData} (h : szD (.tuple ds) = true) : szDs ds = true := (Bool.and_eq_true_iff.mp h).2
theorem szDs_get : ∀ {ds : List PyData} {i : Nat} {d : PyData}, szDs ds = true → ds[i]? = some d → szD d = true
  | [], _, _, _, e => by simp at e
  | d :: ds, 0, _, h, e => by
    have e1 := Option.some.inj e
    subst e1
    exact (Bool.and_eq_true_iff.mp h).1
  | d :: ds, i + 1, _, h, e => szDs_get (i := i) (Bool.and_eq_true_iff.mp h).2 e
theorem dint (a b : Int) : decide (V.int a = V.int b) = decide (a = b) := by
  by_cases h : a = b
  · rw [h, decide_eq_true rfl, decide_eq_true rfl]
  · rw [decide_eq_false h, decide_eq_false (fun q => h (V.int.inj q))]
theorem dstr (a b : Str) : decide (V.str a = V.str b) = decide (a = b) := by
  by_cases h : a = b
  · rw [h, decide_eq_true rfl, decide_eq_true rfl]
  · rw [decide_eq_false h, decide_eq_false (fun q => h (V.str.inj q))]
structure TermsTxt (K : PySem.W.Frag) (w : World) (mg : Str → Option Value) : Prop where
  lens : ∃ (aL : Addr) (es : Array DictEntry) (n : Nat), mg "LENGTHS" = some (.ref aL) ∧ KDict K w aL es n ∧ ∀ z, match lenOf z with
    | some k => ∃ t, PySem.W.nsIn K aL z = some (some (.int k t))
    | none => PySem.W.nsIn K aL z = some none
  args : ∃ t, mg "MOST_ARGUMENTS" = some (.int 2 t)
  deep : ∃ t, mg "MOST_DEEP" = some (.int 8 t)
  parts : ∃ t, mg "MOST_PARTS" = some (.int 30 t)
/-- a truth about one value and a number -/
def spBn (K : PySem.W.Frag) (g : Int → PyData → Bool) : Sp := fun vs H Q _ => ∃ (v : V) (d : PyData) (n : Int), vs = [v, .int n] ∧ Dp K H v d ∧ szD d = true ∧ ∀ H', Same H H' → Q (.bl (g n d)) H'
section
variable {P : Program} {w : World} {K : PySem.W.Frag} {mg : Str → Option Value} {base : Heap}
theorem ok_callForm {f : Addr} {fd : FuncData} (F : Fun K "_has_call_form" "_has_call_form" sCallForm f fd) (M : Blt mg) (T : TermsTxt K w mg) : FnOk P w K mg base CX0 1 f fd ["terms"] (spB K callForm) := by
  obtain ⟨tA, gA⟩ := T.args
  refine F.ok scCallForm (fun vs H Q E h => ?_) (fun cdv A outer s H vs Q E hr h => ?_)
  · obtain ⟨v, d, rfl, _⟩ := h
    rfl
  · obtain ⟨v, d, rfl, hv, hsz, q⟩ := h
    refine ⟨_, pss_one (ps_ret (pe_and (pe_callB call_isi (by rfl) M.isinstance (by decide +kernel) (pa_cons (pv 0) (pa_cons (pe_bltn (v := .ty "tuple") (by rfl) M.tuple (by decide +kernel) rfl) pa_nil)))
      (pe_one (pe_cmpR op_le (pe_callB call_len_seq (by rfl) M.len PySem.boot_len (pa_cons (pv 0) pa_nil)) (pe_glob (v := .int 2) (by rfl) gA ⟨_, rfl⟩) (nomark _))))), ?_⟩
    refine ⟨v, rfl, v, _, _, _, _, rfl, .ty "tuple", dp_ty hv, kit_tup K d, _, rfl, ?_⟩
    have q1 := q H (Same.refl H)
    cases d with
    | tuple ts =>
      cases hv with
      | @tup a xs _ hs ha =>
        refine iteT ⟨_, rfl, a, xs, rfl, .inr hs, _, _, rfl, rfl, ?_⟩
        have e : xs.length = ts.length := dpA_len ha
        rw [e]
        exact q1
    | none => exact iteF q1
    | bool b => exact iteF q1
    | int i => exact iteF q1
    | str z => exact iteF q1
    | list ds => exact iteF q1
    | dict kvs => exact iteF q1
structure CellFns (K : PySem.W.Frag) (mg : Str → Option Value) (fW fV fN : Addr) (dW dV dN : FuncData) : Prop where
  W : Fun K "is_whole" "is_whole" sWhole fW dW
  V : Fun K "is_value" "is_value" sValue fV dV
  N : Fun K "is_name" "is_name" sName fN dN
  bW : Binds K dW ["value"] []
  bV : Binds K dV ["value"] []
  bN : Binds K dN ["value"] []
  gW : mg "is_whole" = some (.ref fW)
  gV : mg "is_value" = some (.ref fV)
  gN : mg "is_name" = some (.ref fN)
theorem ok_has {f fC fW fV fN : Addr} {fd dC dW dV dN : FuncData} (F : Fun K "_has_form" "_has_form" sHas f fd) (M : Blt mg) (TC : CellsTxt K mg) (T : TermsTxt K w mg) (G : CellFns K mg fW fV fN dW dV dN)
    (FC : Fun K "_has_call_form" "_has_call_form" sCallForm fC dC) (bC : Binds K dC ["terms"] []) (gC : mg "_has_call_form" = some (.ref fC)) :
    FnOk P w K mg base CX0 3 f fd ["part", "arguments"] (spBn K hasForm) := by
  have GW : FnOk P w K mg base CX0 1 fW dW ["value"] (spB K isWhole) := ok_whole G.W M
  have GV : FnOk P w K mg base CX0 2 fV dV ["value"] (spB K isValue) := ok_value G.V M TC G.W G.bW G.gW
  have GN : FnOk P w K mg base CX0 1 fN dN ["value"] (spB K isName) := ok_name G.N M TC
  have GC : FnOk P w K mg base CX0 1 fC dC ["terms"] (spB K callForm) := ok_callForm FC M T
  obtain ⟨aL, es, n0, gL, kL, hL⟩ := T.lens
  refine F.ok scHas (fun vs H Q E h => ?_) (fun cdv A outer s H vs Q E hr h => ?_)
  · obtain ⟨v, d, n, rfl, _⟩ := h
    rfl
  · obtain ⟨v, d, n, rfl, hv, hsz, q⟩ := h
    have hr1 : Room 1 _ := hr.mono (by decide)
    have hu := hu_of hr
    refine ⟨_, pss_cons (ps_if (pt_val (pe_call GV hr (by rfl) G.gV G.V.kp G.bV .nil pass0 (pa_cons (pv 0) pa_nil))) (pss_one (ps_ret pe_bl)) pss_nil)
      (pss_cons (ps_if (PW.pt (pw_or (pt_not (pt_val (pe_callB call_isi (by rfl) M.isinstance (by decide +kernel) (pa_cons (pv 0) (pa_cons (pe_bltn (v := .ty "tuple") (by rfl) M.tuple (by decide +kernel) rfl) pa_nil)))))
        (pw_or (pt_cmpR op_eq (pe_callB call_len_seq (by rfl) M.len PySem.boot_len (pa_cons (pv 0) pa_nil)) pe_int (nomark _))
          (pw_or1 (pt_not (pt_val (pe_callB call_isi (by rfl) M.isinstance (by decide +kernel) (pa_cons (pe_ix ix_tup (pv 0) pe_int (fun _ _ => rfl)) (pa_cons (pe_bltn (v := .ty "str") (by rfl) M.str (by decide +kernel) rfl) pa_nil)))))))))
        (pss_one (ps_ret pe_bl)) pss_nil)
      (pss_cons (ps_set (i := 2) scHas.nd rfl (.inl rfl) (pe_ix ix_tup (pv 0) pe_int (fun _ _ => rfl)))
      (pss_cons (ps_if (pt_cmpR op_eq (pv 2) pe_str (nomark _)) (pss_one (ps_ret (pe_and (pe_cmpR op_eq (pe_callB call_len_seq (by rfl) M.len PySem.boot_len (pa_cons (pv 0) pa_nil)) pe_int (nomark _))
          (pe_and (pe_call GW hr1 (by rfl) G.gW G.W.kp G.bW .nil pass0 (pa_cons (pe_ix ix_tup (pv 0) pe_int (fun _ _ => rfl)) pa_nil))
            (pe_one (pe_chain op_le op_lt pe_int (pe_ix ix_tup (pv 0) pe_int (fun _ _ => rfl)) (pv 1))))))) pss_nil)
      (pss_cons (ps_if (pt_cmpR op_eq (pv 2) pe_str (nomark _)) (pss_one (ps_ret (pe_and (pe_cmpR op_eq (pe_callB call_len_seq (by rfl) M.len PySem.boot_len (pa_cons (pv 0) pa_nil)) pe_int (nomark _))
          (pe_one (pe_call GN hr1 (by rfl) G.gN G.N.kp G.bN .nil pass0 (pa_cons (pe_ix ix_tup (pv 0) pe_int (fun _ _ => rfl)) pa_nil)))))) pss_nil)
      (pss_cons (ps_if (pt_cmpR op_eq (pv 2) pe_str (nomark _)) (pss_one (ps_ret (pe_and (pe_cmpR op_eq (pe_callB call_len_seq (by rfl) M.len PySem.boot_len (pa_cons (pv 0) pa_nil)) pe_int (nomark _))
          (pe_and (pe_call GN hr1 (by rfl) G.gN G.N.kp G.bN .nil pass0 (pa_cons (pe_ix ix_tup (pv 0) pe_int (fun _ _ => rfl)) pa_nil))
            (pe_one (pe_call GC hr1 (by rfl) gC FC.kp bC .nil pass0 (pa_cons (pe_ix ix_tup (pv 0) pe_int (fun _ _ => rfl)) pa_nil))))))) pss_nil)
      (pss_one (ps_ret (pe_and (pe_cmpR (op_in_kd kL) (pv 2) (pe_glob (v := .ref aL) (by rfl) gL rfl) (by rfl))
        (pe_one (pe_cmpR op_eq (pe_callB call_len_seq (by rfl) M.len PySem.boot_len (pa_cons (pv 0) pa_nil)) (pe_ix ix_kdict (pe_glob (v := .ref aL) (by rfl) gL rfl) (pv 2) (fun _ _ => rfl)) (nomark _))))))))))), ?_⟩
    refine ⟨v, rfl, v, d, rfl, hv, hsz, fun H1 s1 => ⟨_, rfl, ?_⟩⟩
    have hv1 := dp_same s1 hv
    have fin : ∀ (b : Bool) H2, Same H1 H2 → hasForm n d = b → Q (.bl b) H2 := fun b H2 s2 e => by
      have q1 := q H2 (s1.trans s2)
      rw [e] at q1
      exact q1
    cases hval : isValue d with
    | true =>
      refine iteT (fin true H1 (Same.refl _) ?_)
      show (isValue d || _) = true
      rw [hval]
      rfl
    | false =>
      refine iteF ⟨v, rfl, v, _, _, _, _, rfl, .ty "tuple", dp_ty hv1, kit_tup K d, _, rfl, ?_⟩
      cases d with
      | tuple ts =>
        cases hv1 with
        | @tup a xs _ hs ha =>
          have el : xs.length = ts.length := dpA_len ha
          refine iteF ⟨_, rfl, a, xs, rfl, .inr hs, rfl, _, rfl, ?_⟩
          rw [dint]
          cases ts with
          | nil =>
            rw [el]
            exact iteT (fin false H1 (Same.refl _) (by
              show (isValue (.tuple []) || false) = false
              rw [hval]
              rfl))
          | cons d0 rest =>
            have e0 : xs.length = rest.length + 1 := el
            rw [decide_eq_false (show ¬ (xs.length : Int) = 0 by omega)]
            cases ha with
            | @cons x0 xr _ _ h0 hr0 =>
              have at0 : atI (x0 :: xr) (0 : Int) = some x0 := atI_nat (j := 0) rfl
              have lr : xr.length = rest.length := dpA_len hr0
              refine iteF ⟨_, rfl, a, x0 :: xr, 0, x0, rfl, rfl, hs, at0, x0, _, _, _, _, rfl, .ty "str", dp_ty h0, kit_str K d0, _, rfl, ?_⟩
              cases d0 with
              | str z =>
                cases h0
                refine iteF ⟨_, rfl, a, _, 0, .str z, rfl, rfl, hs, at0, ?_⟩
                have hf : hasForm n (.tuple (.str z :: rest)) = formOf n z rest := by
                  show (isValue (.tuple (.str z :: rest)) || formOf n z rest) = _
                  rw [hval]
                  rfl
                refine ⟨_, rfl, rfl, _, rfl, ?_⟩
                have hszr : szDs rest = true := (Bool.and_eq_true_iff.mp (szD_tup hsz)).2
                rw [dstr]
                by_cases z1 : z = "arg"
                · have fe : formOf n z rest = on1 (below n) rest := if_pos z1
                  rw [fe] at hf
                  rw [decide_eq_true z1]
                  refine iteT ⟨_, rfl, a, _, rfl, .inr hs, rfl, _, rfl, ?_⟩
                  rw [dint]
                  by_cases hl : rest.length = 1
                  · rw [decide_eq_true (show (((V.str z :: xr).length : Nat) : Int) = 2 by rw [List.length_cons]; omega)]
                    obtain ⟨d1, rfl⟩ := List.length_eq_one_iff.mp hl
                    cases hr0 with
                    | @cons x1 xr1 _ _ h1 hn1 =>
                      cases hn1
                      have at1 : atI [.str z, x1] (1 : Int) = some x1 := atI_nat (j := 1) rfl
                      refine iteT ⟨_, rfl, a, _, 1, x1, rfl, rfl, hs, at1, x1, d1, rfl, h1, szDs_get hszr (i := 0) rfl, fun H2 s2 => ⟨_, rfl, ?_⟩⟩
                      cases d1 with
                      | int i =>
                        cases h1
                        refine iteT ⟨_, rfl, a, _, 1, _, rfl, rfl, same_sqT s2 hs, at1, _, _, rfl, rfl, _, rfl, ?_⟩
                        have hb : hasForm n (.tuple [.str z, .int i]) = (decide (0 ≤ i) && decide (i < n)) := hf
                        cases h0 : decide (0 ≤ i) with
                        | false =>
                          rw [h0] at hb
                          exact iteF (fin false H2 s2 hb)
                        | true =>
                          rw [h0] at hb
                          exact iteT ⟨_, rfl, _, _, rfl, rfl, fin _ H2 s2 hb⟩
                      | none => exact iteF (fin false H2 s2 hf)
                      | bool b => exact iteF (fin false H2 s2 hf)
                      | str y => exact iteF (fin false H2 s2 hf)
                      | list ds => exact iteF (fin false H2 s2 hf)
                      | tuple ds => exact iteF (fin false H2 s2 hf)
                      | dict kvs => exact iteF (fin false H2 s2 hf)
                  · rw [decide_eq_false (show ¬ (((V.str z :: xr).length : Nat) : Int) = 2 by rw [List.length_cons]; omega)]
                    exact iteF (fin false H1 (Same.refl _) (hf.trans (on1_bad hl)))
                · rw [decide_eq_false z1]
                  refine iteF ⟨_, rfl, rfl, _, rfl, ?_⟩
                  rw [dstr]
                  by_cases z2 : z = "cell"
                  · have fe : formOf n z rest = on1 isName rest := (if_neg z1).trans (if_pos z2)
                    rw [fe] at hf
                    rw [decide_eq_true z2]
                    refine iteT ⟨_, rfl, a, _, rfl, .inr hs, rfl, _, rfl, ?_⟩
                    rw [dint]
                    by_cases hl : rest.length = 1
                    · rw [decide_eq_true (show (((V.str z :: xr).length : Nat) : Int) = 2 by rw [List.length_cons]; omega)]
                      obtain ⟨d1, rfl⟩ := List.length_eq_one_iff.mp hl
                      cases hr0 with
                      | @cons x1 xr1 _ _ h1 hn1 =>
                        cases hn1
                        have at1 : atI [.str z, x1] (1 : Int) = some x1 := atI_nat (j := 1) rfl
                        exact iteT ⟨_, rfl, a, _, 1, x1, rfl, rfl, hs, at1, x1, d1, rfl, h1, szDs_get hszr (i := 0) rfl, fun H2 s2 => fin _ H2 s2 hf⟩
                    · rw [decide_eq_false (show ¬ (((V.str z :: xr).length : Nat) : Int) = 2 by rw [List.length_cons]; omega)]
                      exact iteF (fin false H1 (Same.refl _) (hf.trans (on1_bad hl)))
                  · rw [decide_eq_false z2]
                    refine iteF ⟨_, rfl, rfl, _, rfl, ?_⟩
                    rw [dstr]
                    by_cases z3 : z = "call"
                    · have fe : formOf n z rest = on2 (fun x y => isName x && callForm y) rest := (if_neg z1).trans ((if_neg z2).trans (if_pos z3))
                      rw [fe] at hf
                      rw [decide_eq_true z3]
                      refine iteT ⟨_, rfl, a, _, rfl, .inr hs, rfl, _, rfl, ?_⟩
                      rw [dint]
                      by_cases hl : rest.length = 2
                      · rw [decide_eq_true (show (((V.str z :: xr).length : Nat) : Int) = 3 by rw [List.length_cons]; omega)]
                        obtain ⟨d1, d2, rfl⟩ := len2 hl
                        cases hr0 with
                        | @cons x1 xr1 _ _ h1 hn1 =>
                          cases hn1 with
                          | @cons x2 xr2 _ _ h2 hn2 =>
                            cases hn2
                            have at1 : atI [.str z, x1, x2] (1 : Int) = some x1 := atI_nat (j := 1) rfl
                            have at2 : atI [.str z, x1, x2] (2 : Int) = some x2 := atI_nat (j := 2) rfl
                            refine iteT ⟨_, rfl, a, _, 1, x1, rfl, rfl, hs, at1, x1, d1, rfl, h1, szDs_get hszr (i := 0) rfl, fun H2 s2 => ⟨_, rfl, ?_⟩⟩
                            have hb : hasForm n (.tuple [.str z, d1, d2]) = (isName d1 && callForm d2) := hf
                            cases hn : isName d1 with
                            | false =>
                              rw [hn] at hb
                              exact iteF (fin false H2 s2 hb)
                            | true =>
                              rw [hn] at hb
                              exact iteT ⟨_, rfl, a, _, 2, x2, rfl, rfl, same_sqT s2 hs, at2, x2, d2, rfl, dp_same s2 h2, szDs_get hszr (i := 1) rfl, fun H3 s3 => fin _ H3 (s2.trans s3) hb⟩
                      · rw [decide_eq_false (show ¬ (((V.str z :: xr).length : Nat) : Int) = 3 by rw [List.length_cons]; omega)]
                        exact iteF (fin false H1 (Same.refl _) (hf.trans (on2_bad hl)))
                    · rw [decide_eq_false z3]
                      have fe : formOf n z rest = (match lenOf z with | some k => decide ((rest.length : Int) + 1 = k) | none => false) := (if_neg z1).trans ((if_neg z2).trans (if_neg z3))
                      rw [fe] at hf
                      have hz := hL z
                      cases ez : lenOf z with
                      | none =>
                        rw [ez] at hz hf
                        exact iteF ⟨_, rfl, z, none, rfl, rfl, hz, _, rfl, iteF (fin false H1 (Same.refl _) hf)⟩
                      | some k =>
                        rw [ez] at hz hf
                        obtain ⟨t, hz⟩ := hz
                        refine iteF ⟨_, rfl, z, some _, rfl, rfl, hz, _, rfl, iteT ⟨_, rfl, a, _, rfl, .inr hs, _, rfl, aL, z, .int k, rfl, rfl, ⟨es, n0, _, kL.at_, kL.lit, hz, ⟨_, rfl⟩⟩, rfl, ?_⟩⟩
                        rw [dint]
                        have e5 : (((V.str z :: xr).length : Nat) : Int) = (rest.length : Int) + 1 := by
                          rw [List.length_cons]
                          omega
                        have e6 := fin _ H1 (Same.refl _) hf
                        rw [← e5] at e6
                        exact e6
              | none => exact iteT (fin false H1 (Same.refl _) (Bool.or_eq_false_iff.mpr ⟨hval, rfl⟩))
              | bool b => exact iteT (fin false H1 (Same.refl _) (Bool.or_eq_false_iff.mpr ⟨hval, rfl⟩))
              | int i => exact iteT (fin false H1 (Same.refl _) (Bool.or_eq_false_iff.mpr ⟨hval, rfl⟩))
              | list ds => exact iteT (fin false H1 (Same.refl _) (Bool.or_eq_false_iff.mpr ⟨hval, rfl⟩))
              | tuple ds => exact iteT (fin false H1 (Same.refl _) (Bool.or_eq_false_iff.mpr ⟨hval, rfl⟩))
              | dict kvs => exact iteT (fin false H1 (Same.refl _) (Bool.or_eq_false_iff.mpr ⟨hval, rfl⟩))
      | none => exact iteT (fin false H1 (Same.refl _) (Bool.or_eq_false_iff.mpr ⟨hval, rfl⟩))
      | bool b => exact iteT (fin false H1 (Same.refl _) (Bool.or_eq_false_iff.mpr ⟨hval, rfl⟩))
      | int i => exact iteT (fin false H1 (Same.refl _) (Bool.or_eq_false_iff.mpr ⟨hval, rfl⟩))
      | str z => exact iteT (fin false H1 (Same.refl _) (Bool.or_eq_false_iff.mpr ⟨hval, rfl⟩))
      | list ds => exact iteT (fin false H1 (Same.refl _) (Bool.or_eq_false_iff.mpr ⟨hval, rfl⟩))
      | dict kvs => exact iteT (fin false H1 (Same.refl _) (Bool.or_eq_false_iff.mpr ⟨hval, rfl⟩))
end
/-! ### what stands in a term -/
abbrev sInner : Stmt := topS 45
abbrev sNext : Stmt := topS 46
theorem scInner : FnScope ["term"] ["term"] (defScope sInner) := ⟨rfl, rfl, rfl, by decide +kernel, rfl, by decide +kernel, by decide +kernel⟩
theorem scNext : FnScope ["level", "part", "inner"] ["level"] (defScope sNext) := ⟨rfl, rfl, rfl, by decide +kernel, rfl, by decide +kernel, by decide +kernel⟩
def second : List PyData → List PyData
  | [_, .tuple ts] => ts
  | _ => []
def inner : PyData → List PyData
  | .tuple (.str z :: rest) => if z = "arg" ∨ z = "cell" then [] else if z = "call" then second rest else rest
  | _ => []
theorem form_str {n : Int} {d : PyData} (h : hasForm n d = true) (hv : isValue d = false) : ∃ z rest, d = .tuple (.str z :: rest) ∧ formOf n z rest = true := by
  unfold hasForm at h
  rw [hv] at h
  match d, h with
  | .tuple (.str z :: rest), h => exact ⟨z, rest, rfl, h⟩
theorem in_two (z a b : Str) : inV (.str z) [.str a, .str b] = decide (z = a ∨ z = b) := by
  show ((a == z) || ((b == z) || false)) = _
  rw [Bool.or_false]
  by_cases h1 : z = a
  · subst h1
    rw [beq_self_eq_true, decide_eq_true (.inl rfl)]
    rfl
  · have e1 : (a == z) = false := beq_eq_false_iff_ne.mpr (fun q => h1 q.symm)
    rw [e1]
    by_cases h2 : z = b
    · subst h2
      rw [beq_self_eq_true, decide_eq_true (.inr rfl)]
      rfl
    · have e2 : (b == z) = false := beq_eq_false_iff_ne.mpr (fun q => h2 q.symm)
      rw [e2, decide_eq_false (fun q => q.elim h1 h2)]
      rfl
def spInner (K : PySem.W.Frag) : Sp := fun vs H Q _ => ∃ (v : V) (d : PyData) (n : Int) (H0 : Hp), vs = [v] ∧ Same H0 H ∧ Dp K H0 v d ∧ szD d = true ∧ hasForm n d = true ∧
  ∀ p xs H', Same H H' → H p = none → H' p = some (.lst xs) → DpAll K H0 xs (inner d) → Q (.ref p) H'
section
variable {P : Program} {w : World} {K : PySem.W.Frag} {mg : Str → Option Value} {base : Heap}
theorem ok_inner {f fW fV fN : Addr} {fd dW dV dN : FuncData} (F : Fun K "inner_terms" "inner_terms" sInner f fd) (M : Blt mg) (TC : CellsTxt K mg) (G : CellFns K mg fW fV fN dW dV dN) : FnOk P w K mg base CX0 3 f fd ["term"] (spInner K) := by
  have GV : FnOk P w K mg base CX0 2 fV dV ["value"] (spB K isValue) := ok_value G.V M TC G.W G.bW G.gW
  refine F.ok scInner (fun vs H Q E h => ?_) (fun cdv A outer s H vs Q E hr h => ?_)
  · obtain ⟨v, d, n, H0, rfl, _⟩ := h
    rfl
  · obtain ⟨v, d, n, H0, rfl, s0, hv, hsz, hf, q⟩ := h
    refine ⟨_, pss_cons (ps_if (PW.pt (pw_or (pt_val (pe_call GV hr (by rfl) G.gV G.V.kp G.bV .nil pass0 (pa_cons (pv 0) pa_nil)))
        (pw_or1 (pt_cmpR op_in_seq (pe_ix ix_tup (pv 0) pe_int (fun _ _ => rfl)) (pe_tup (pa_cons pe_str (pa_cons pe_str pa_nil))) (by rfl))))) (pss_one (ps_ret (pe_lst pa_nil))) pss_nil)
      (pss_cons (ps_if (pt_cmpR op_eq (pe_ix ix_tup (pv 0) pe_int (fun _ _ => rfl)) pe_str (nomark _)) (pss_one (ps_ret (pe_callTy call_list_of (by rfl) M.list (by decide +kernel) (pa_cons (pe_ix ix_tup (pv 0) pe_int (fun _ _ => rfl)) pa_nil)))) pss_nil)
      (pss_one (ps_ret (pe_callTy call_list_of (by rfl) M.list (by decide +kernel) (pa_cons (pe_slice sl_tup (pv 0) (po_some pe_int) po_none) pa_nil))))), ?_⟩
    have fin : ∀ xs H1, Same H H1 → DpAll K H0 xs (inner d) → ∀ p, H1 p = none → Q (.ref p) (upd H1 p (.lst xs)) := fun xs H1 s1 ha p np => q p xs _ (s1.trans (same_upd np)) (s1.free np) upd_same ha
    refine ⟨v, rfl, v, d, rfl, dp_same s0 hv, hsz, fun H1 s1 => ⟨_, rfl, ?_⟩⟩
    cases hval : isValue d with
    | true =>
      have ei : inner d = [] := by cases d <;> first | rfl | cases hval
      exact iteT ⟨Nat.zero_le _, fun p np => fin [] H1 s1 (by rw [ei]; exact .nil) p np⟩
    | false =>
      obtain ⟨z, rest, rfl, hf1⟩ := form_str hf hval
      cases hv with
      | @tup a xs _ hs ha =>
        cases ha with
        | @cons x0 xr _ _ h0 hr0 =>
          cases h0
          have at0 : atI (V.str z :: xr) (0 : Int) = some (.str z) := atI_nat (j := 0) rfl
          refine iteF ⟨_, rfl, a, _, 0, .str z, rfl, rfl, same_sqT (s0.trans s1) hs, at0, (by show 2 ≤ sizeLine; decide), fun p np => ?_⟩
          have s2 : Same H1 (upd H1 p (.tup [.str "arg", .str "cell"])) := same_upd np
          refine ⟨p, _, rfl, .inr (.inl (.inl upd_same)), rfl, rfl, _, rfl, ?_⟩
          rw [in_two]
          by_cases z1 : z = "arg" ∨ z = "cell"
          · rw [decide_eq_true z1]
            have ei : inner (.tuple (.str z :: rest)) = [] := if_pos z1
            exact iteT ⟨Nat.zero_le _, fun p2 np2 => fin [] _ (s1.trans s2) (by rw [ei]; exact .nil) p2 np2⟩
          · rw [decide_eq_false z1]
            have hs2 := same_sqT s2 (same_sqT (s0.trans s1) hs)
            refine iteF ⟨_, rfl, a, _, 0, .str z, rfl, rfl, hs2, at0, rfl, _, rfl, ?_⟩
            rw [dstr]
            by_cases z3 : z = "call"
            · rw [decide_eq_true z3]
              have fe : formOf n z rest = on2 (fun x y => isName x && callForm y) rest := (if_neg (fun h => z1 (.inl h))).trans ((if_neg (fun h => z1 (.inr h))).trans (if_pos z3))
              rw [fe] at hf1
              have ei : inner (.tuple (.str z :: rest)) = second rest := (if_neg z1).trans (if_pos z3)
              have hl : rest.length = 2 := by
                by_cases h : rest.length = 2
                · exact h
                · rw [on2_bad h] at hf1
                  cases hf1
              obtain ⟨d1, d2, rfl⟩ := len2 hl
              cases hr0 with
              | @cons x1 xr1 _ _ h1 hn1 =>
                cases hn1 with
                | @cons x2 xr2 _ _ h2 hn2 =>
                  cases hn2
                  have at2 : atI [.str z, x1, x2] (2 : Int) = some x2 := atI_nat (j := 2) rfl
                  have hc : callForm d2 = true := (Bool.and_eq_true_iff.mp hf1).2
                  cases d2 with
                  | tuple ts =>
                    cases h2 with
                    | @tup b ys _ hb hys =>
                      exact iteT ⟨_, rfl, a, _, 2, _, rfl, rfl, hs2, at2, b, ys, rfl, .inr (same_sqT s2 (same_sqT (s0.trans s1) hb)), fun p2 np2 => fin ys _ (s1.trans s2) (by rw [ei]; exact hys) p2 np2⟩
                  | none => cases hc
                  | bool _ => cases hc
                  | int _ => cases hc
                  | str _ => cases hc
                  | list _ => cases hc
                  | dict _ => cases hc
            · rw [decide_eq_false z3]
              have ei : inner (.tuple (.str z :: rest)) = rest := (if_neg z1).trans (if_neg z3)
              refine iteF ⟨_, rfl, 1, rfl, a, _, rfl, hs2, ?_, fun p2 np2 => ?_⟩
              · intro h
                have h1 := h.1
                rw [show HT.sIx (V.str z :: xr).length 0 (some 1) = min 1 (V.str z :: xr).length from HT.sIx_nat _ 0 1, List.length_cons] at h1
                omega
              · have s3 := (s1.trans s2).trans (same_upd (o := .tup (cutV (V.str z :: xr) (some 1) none)) np2)
                refine ⟨p2, cutV (V.str z :: xr) (some 1) none, rfl, .inr (.inl (.inl upd_same)), fun p3 np3 => fin _ _ s3 ?_ p3 np3⟩
                rw [ei, cut1]
                exact hr0
end
def spNext (K : PySem.W.Frag) : Sp := fun vs H Q _ => ∃ (a : Addr) (xs : List V) (ds : List PyData) (n : Int) (H0 : Hp), vs = [.ref a] ∧ Same H0 H ∧ SqL K H a xs ∧ DpAll K H0 xs ds ∧ szDs ds = true ∧ ds.all (hasForm n) = true ∧ (ds.flatMap inner).length ≤ 10000 ∧ ds.length ≤ 10000 ∧
  ∀ p ys H', Same H H' → H p = none → H' p = some (.lst ys) → DpAll K H0 ys (ds.flatMap inner) → Q (.ref p) H'
theorem flat_take {ds : List PyData} {i : Nat} {d : PyData} (h : ds[i]? = some d) : (ds.take (i + 1)).flatMap inner = (ds.take i).flatMap inner ++ inner d := by
  rw [take_snoc h, List.flatMap_append]
  simp
theorem flat_take_len (ds : List PyData) (i : Nat) : ((ds.take i).flatMap inner).length ≤ (ds.flatMap inner).length := by
  have h : ds.flatMap inner = (ds.take i).flatMap inner ++ (ds.drop i).flatMap inner := by
    rw [← List.flatMap_append, List.take_append_drop]
  rw [h, List.length_append]
  omega
section
variable {P : Program} {w : World} {K : PySem.W.Frag} {mg : Str → Option Value} {base : Heap}
theorem ok_next {f fI : Addr} {fd dI : FuncData} (F : Fun K "_next_level" "_next_level" sNext f fd) (GI : FnOk P w K mg base CX0 3 fI dI ["term"] (spInner K)) (FI : Fun K "inner_terms" "inner_terms" sInner fI dI) (bI : Binds K dI ["term"] []) (gI : mg "inner_terms" = some (.ref fI)) :
    FnOk P w K mg base CX0 4 f fd ["level"] (spNext K) := by
  refine F.ok scNext (fun vs H Q E h => ?_) (fun cdv A outer s H vs Q E hr h => ?_)
  · obtain ⟨a, xs, ds, n, H0, rfl, _⟩ := h
    rfl
  · obtain ⟨a, xs, ds, n, H0, rfl, s0, hs, ha, hsz, hf, hlen, hlen2, q⟩ := h
    refine' ⟨_, pss_one (ps_ret ?e), ?r⟩
    case e =>
      refine' pe_lc2 (own := [("part", 1), ("inner", 2)]) (vs1 := [2]) (g := gName 1) (g1 := gName 2) (wi1 := iList K (tCall (spInner K) [] E0 (tCons (tVar 1) tNil))) (by rfl) scNext.nd (pi_list (pv 0)) (blkOk_by (own := [("part", 1), ("inner", 2)]) (N := ["level", "part", "inner"]) (sc := defScope sNext) (by decide +kernel)) (by decide)
        ?hg ?ht ?hi ?hg1 ?ht1 ?he
      case hg => exact fun _ _ _ _ _ => pg_name (i := 1) scNext.nd rfl (Or.inl rfl)
      case ht => exact fun _ _ _ _ _ => pts_nil
      case hi => exact fun _ _ _ _ _ => pi_list (pe_call GI hr (by rfl) gI FI.kp bI .nil pass0 (pa_cons (pv 1) pa_nil))
      case hg1 => exact fun _ _ _ _ _ => pg_name (i := 2) scNext.nd rfl (Or.inl rfl)
      case ht1 => exact fun _ _ _ _ _ => pts_nil
      case he => exact fun _ _ _ _ _ => pv 2
    have el : xs.length = ds.length := dpA_len ha
    refine ⟨_, rfl, a, rfl, ⟨_, hs⟩, fun D hD => ?_⟩
    refine walk_gen (walk_list (K := K) (a := a) (xs := xs)) (fun i H' => Same H H' ∧ ∃ acc, H' D = some (.lst acc) ∧ DpAll K H0 acc ((ds.take i).flatMap inner)) ⟨same_upd hD, [], upd_same, .nil⟩ (fun i H' _ p => p.1.seq hs) (fun i x H1 H2 hi p y => ?_) (fun H' p => ?_)
    · obtain ⟨s1, acc, e1, ac⟩ := p
      obtain ⟨rfl, hx⟩ := y
      obtain ⟨d, hd, dx⟩ := dpA_at ha hx
      have hfd : hasForm n d = true := List.all_eq_true.mp hf d (List.mem_of_getElem? hd)
      refine And.intro rfl ?_
      unfold tYes
      refine iteT ?_
      refine ⟨_, rfl, x, d, n, H0, rfl, s0.trans s1, dx, szDs_get hsz hd, hfd, fun p ys H3 s3 np e3 hys => ?_⟩
      have nDp : D ≠ p := ne_of_none e1 np
      refine ⟨p, rfl, ⟨ys, .inl (.inl e3)⟩, ?_⟩
      have ely : ys.length = (inner d).length := dpA_len hys
      have e13 : H3 D = some (.lst acc) := s3 _ _ e1
      refine walk_gen (walk_list (K := K) (a := p) (xs := ys)) (fun j H' => Same H H' ∧ H' p = some (.lst ys) ∧ H' D = some (.lst (acc ++ ys.take j))) ⟨s1.trans s3, e3, by rw [List.take_zero, List.append_nil]; exact e13⟩ (fun j H' _ p' => .inl (.inl p'.2.1)) (fun j z H4 H5 hj p4 y4 => ?_) (fun H' p' => ?_)
      · obtain ⟨s4, e4, f4⟩ := p4
        obtain ⟨rfl, hz⟩ := y4
        refine And.intro rfl ?_
        refine iteT ?_
        refine ⟨z, rfl, acc ++ ys.take j, f4, ?_, fun b o e => ?_, ?_, ?_⟩
        · rw [List.length_append, List.length_take, dpA_len ac]
          have h1 := flat_take_len ds (i + 1)
          rw [flat_take hd, List.length_append] at h1
          exact Nat.lt_of_le_of_lt (show _ ≤ 10000 by omega) (by decide)
        · rw [upd_ne (ne_of_none e hD)]
          exact s4 _ _ e
        · rw [upd_ne (fun e => nDp e.symm)]
          exact e4
        · rw [upd_same, take_snoc hz, List.append_assoc]
      · obtain ⟨s5, e5, f5⟩ := p'
        refine ⟨s5, acc ++ ys, ?_, ?_⟩
        · rw [f5, List.take_length]
        · rw [flat_take hd]
          exact dpA_app ac hys
    · obtain ⟨s1, acc, e1, ac⟩ := p
      rw [el, List.take_length] at ac
      exact q D acc H' s1 hD e1 ac
end
/-! ### is_term -/
abbrev sTerm : Stmt := topS 42
theorem scTerm : FnScope ["value", "arguments", "level", "deep", "many", "part"] ["value", "arguments"] (defScope sTerm) := ⟨rfl, rfl, rfl, by decide +kernel, rfl, by decide +kernel, by decide +kernel⟩
def goT (n : Int) : Nat → List PyData → Nat → Nat → Bool
  | 0, _, _, _ => false
  | _ + 1, [], _, _ => true
  | f + 1, d :: ds, deep, many => !decide (8 < deep + 1 ∨ 30 < many + (d :: ds).length) && ((d :: ds).all (hasForm n) && goT n f ((d :: ds).flatMap inner) (deep + 1) (many + (d :: ds).length))
def isTerm (n : Int) (d : PyData) : Bool := goT n 9 [d] 0 0
theorem goT_nil {n : Int} {f deep many : Nat} : goT n (f + 1) [] deep many = true := rfl
theorem goT_cons {n : Int} {f deep many : Nat} {ds : List PyData} (h : ds ≠ []) : goT n (f + 1) ds deep many = (!decide (8 < deep + 1 ∨ 30 < many + ds.length) && (ds.all (hasForm n) && goT n f (ds.flatMap inner) (deep + 1) (many + ds.length))) := by
  cases ds with
  | nil => exact absurd rfl h
  | cons d ds => rfl
theorem form_len {n : Int} {z : Str} {rest : List PyData} (h : formOf n z rest = true) : rest.length ≤ 3 ∧ (z = "call" → ∃ d1 ts, rest = [d1, .tuple ts] ∧ ts.length ≤ 2) := by
  unfold formOf at h
  by_cases z1 : z = "arg"
  · rw [if_pos z1] at h
    have hl : rest.length = 1 := by
      by_cases q : rest.length = 1
      · exact q
      · rw [on1_bad q] at h
        cases h
    refine ⟨by omega, fun q => ?_⟩
    rw [z1] at q
    exact absurd q (by decide +kernel)
  · rw [if_neg z1] at h
    by_cases z2 : z = "cell"
    · rw [if_pos z2] at h
      have hl : rest.length = 1 := by
        by_cases q : rest.length = 1
        · exact q
        · rw [on1_bad q] at h
          cases h
      refine ⟨by omega, fun q => ?_⟩
      rw [z2] at q
      exact absurd q (by decide +kernel)
    · rw [if_neg z2] at h
      by_cases z3 : z = "call"
      · rw [if_pos z3] at h
        have hl : rest.length = 2 := by
          by_cases q : rest.length = 2
          · exact q
          · rw [on2_bad q] at h
            cases h
        refine ⟨by omega, fun _ => ?_⟩
        obtain ⟨d1, d2, rfl⟩ := len2 hl
        have hc : callForm d2 = true := (Bool.and_eq_true_iff.mp h).2
        cases d2 with
        | tuple ts => exact ⟨d1, ts, rfl, by have := of_decide_eq_true hc; omega⟩
        | none => cases hc
        | bool _ => cases hc
        | int _ => cases hc
        | str _ => cases hc
        | list _ => cases hc
        | dict _ => cases hc
      · rw [if_neg z3] at h
        refine ⟨?_, fun q => absurd q z3⟩
        cases e : lenOf z with
        | none =>
          rw [e] at h
          cases h
        | some k =>
          rw [e] at h
          have h1 := of_decide_eq_true h
          have hk : k ≤ 4 := by
            unfold lenOf at e
            split at e
            · cases e
              decide
            · split at e
              · cases e
                decide
              · split at e
                · cases e
                  decide
                · split at e
                  · cases e
                    decide
                  · split at e
                    · cases e
                      decide
                    · cases e
          omega
theorem inner_len {n : Int} {d : PyData} (h : hasForm n d = true) : (inner d).length ≤ 3 := by
  cases hv : isValue d with
  | true =>
    have e : inner d = [] := by cases d <;> first | rfl | cases hv
    rw [e]
    exact Nat.zero_le _
  | false =>
    obtain ⟨z, rest, rfl, hf⟩ := form_str h hv
    have hl := form_len hf
    show (if z = "arg" ∨ z = "cell" then [] else if z = "call" then second rest else rest).length ≤ 3
    by_cases z1 : z = "arg" ∨ z = "cell"
    · rw [if_pos z1]
      exact Nat.zero_le _
    · rw [if_neg z1]
      by_cases z3 : z = "call"
      · rw [if_pos z3]
        obtain ⟨d1, ts, rfl, ht⟩ := hl.2 z3
        show ts.length ≤ 3
        omega
      · rw [if_neg z3]
        exact hl.1
theorem flat_len {n : Int} : ∀ {ds : List PyData}, ds.all (hasForm n) = true → (ds.flatMap inner).length ≤ 3 * ds.length
  | [], _ => Nat.le_refl _
  | d :: ds, h => by
    have h1 := Bool.and_eq_true_iff.mp h
    rw [List.flatMap_cons, List.length_append, List.length_cons]
    have := inner_len h1.1
    have := flat_len h1.2
    omega
theorem szDs_app : ∀ {a b : List PyData}, szDs (a ++ b) = (szDs a && szDs b)
  | [], _ => rfl
  | d :: a, b => by
    show (szD d && szDs (a ++ b)) = ((szD d && szDs a) && szDs b)
    rw [szDs_app, Bool.and_assoc]
theorem sz_inner {d : PyData} (h : szD d = true) : szDs (inner d) = true := by
  match d, h with
  | .none, _ => rfl
  | .bool _, _ => rfl
  | .int _, _ => rfl
  | .str _, _ => rfl
  | .list _, _ => rfl
  | .dict _, _ => rfl
  | .tuple [], _ => rfl
  | .tuple (.none :: _), _ => rfl
  | .tuple (.bool _ :: _), _ => rfl
  | .tuple (.int _ :: _), _ => rfl
  | .tuple (.list _ :: _), _ => rfl
  | .tuple (.tuple _ :: _), _ => rfl
  | .tuple (.dict _ :: _), _ => rfl
  | .tuple (.str z :: rest), h =>
    have hr : szDs rest = true := (Bool.and_eq_true_iff.mp (szD_tup h)).2
    show szDs (if z = "arg" ∨ z = "cell" then [] else if z = "call" then second rest else rest) = true
    by_cases z1 : z = "arg" ∨ z = "cell"
    · rw [if_pos z1]
      rfl
    · rw [if_neg z1]
      by_cases z3 : z = "call"
      · rw [if_pos z3]
        match rest, hr with
        | [_, .tuple ts], hr => exact szD_tup (szDs_get (i := 1) hr rfl)
        | [], _ => rfl
        | [_], _ => rfl
        | [_, .none], _ => rfl
        | [_, .bool _], _ => rfl
        | [_, .int _], _ => rfl
        | [_, .str _], _ => rfl
        | [_, .list _], _ => rfl
        | [_, .dict _], _ => rfl
        | _ :: b :: _ :: _, _ => cases b <;> rfl
      · rw [if_neg z3]
        exact hr
theorem sz_flat : ∀ {ds : List PyData}, szDs ds = true → szDs (ds.flatMap inner) = true
  | [], _ => rfl
  | d :: ds, h => by
    have h1 := Bool.and_eq_true_iff.mp h
    rw [List.flatMap_cons, szDs_app, sz_inner h1.1, sz_flat h1.2]
    rfl
theorem all_rangeD (l : List PyData) (g : PyData → Bool) : ((List.range l.length).map fun i => g (l.getD i .none)).all id = l.all g := by
  have e : (List.range l.length).map (fun i => g (l.getD i .none)) = l.map g := by
    apply List.ext_getElem?
    intro i
    rw [List.getElem?_map, List.getElem?_map]
    by_cases hi : i < l.length
    · rw [List.getElem?_range hi, List.getElem?_eq_getElem hi]
      show some (g (l.getD i .none)) = some (g l[i])
      rw [List.getD_eq_getElem?_getD, List.getElem?_eq_getElem hi]
      rfl
    · rw [List.getElem?_eq_none (by simpa using hi), List.getElem?_eq_none (by simpa using hi)]
      rfl
  rw [e, List.all_map]
  rfl
section
variable {P : Program} {w : World} {K : PySem.W.Frag} {mg : Str → Option Value} {base : Heap}
theorem ok_term {f fH fX : Addr} {fd dH dX : FuncData} (F : Fun K "is_term" "is_term" sTerm f fd) (M : Blt mg) (T : TermsTxt K w mg)
    (GH : FnOk P w K mg base CX0 3 fH dH ["part", "arguments"] (spBn K hasForm)) (FH : Fun K "_has_form" "_has_form" sHas fH dH) (bH : Binds K dH ["part", "arguments"] []) (gH : mg "_has_form" = some (.ref fH))
    (GX : FnOk P w K mg base CX0 4 fX dX ["level"] (spNext K)) (FX : Fun K "_next_level" "_next_level" sNext fX dX) (bX : Binds K dX ["level"] []) (gX : mg "_next_level" = some (.ref fX)) :
    FnOk P w K mg base CX0 5 f fd ["value", "arguments"] (spBn K isTerm) := by
  obtain ⟨tD, gD⟩ := T.deep
  obtain ⟨tP, gP⟩ := T.parts
  refine F.ok scTerm (fun vs H Q E h => ?_) (fun cdv A outer s H vs Q E hr h => ?_)
  · obtain ⟨v, d, n, rfl, _⟩ := h
    rfl
  · obtain ⟨v, d, n, rfl, hv, hsz, q⟩ := h
    have hr3 : Room 3 _ := hr.mono (by decide)
    refine ⟨_, pss_cons (ps_set (i := 2) scTerm.nd rfl (.inl rfl) (pe_lst (pa_cons (pv 0) pa_nil)))
      (pss_cons (ps_set (i := 3) scTerm.nd rfl (.inl rfl) pe_int)
      (pss_cons (ps_set (i := 4) scTerm.nd rfl (.inl rfl) pe_int)
      (pss_cons (ps_while PassesOwn.never (pt_truth (pv 2) (by intro _; rfl))
        (pss_cons (ps_aug (i := 3) scTerm.nd rfl (.inl rfl) pe_int ip_add)
        (pss_cons (ps_aug (i := 4) scTerm.nd rfl (.inl rfl) (pe_callB call_len_seq (by rfl) M.len PySem.boot_len (pa_cons (pv 2) pa_nil)) ip_add)
        (pss_cons (ps_if (PW.pt (pw_or (pt_cmpR op_gt (pv 3) (pe_glob (v := .int 8) (by rfl) gD ⟨_, rfl⟩) (nomark _)) (pw_or1 (pt_cmpR op_gt (pv 4) (pe_glob (v := .int 30) (by rfl) gP ⟨_, rfl⟩) (nomark _))))) (pss_one (ps_ret pe_bl)) pss_nil)
        (pss_cons (ps_if (pt_not (pt_val (pe_callB (cr_all rfl) (by rfl) M.all (by decide +kernel) (pa_cons
            (pe_lc (own := [("part", 5)]) (g := gName 5) (te := tCall (spBn K hasForm) [] E0 (tCons (tVar 5) (tCons (tVar 1) tNil))) (by rfl) scTerm.nd (pi_list (pv 2)) (blkOk_by (own := [("part", 5)]) (N := ["value", "arguments", "level", "deep", "many", "part"]) (sc := defScope sTerm) (by decide +kernel))
              (fun _ _ _ _ _ => pg_name (i := 5) scTerm.nd rfl (Or.inl rfl)) (fun _ _ _ _ _ => pts_nil) (fun _ _ _ _ _ => pe_call GH hr3 (by rfl) gH FH.kp bH .nil pass0 (pa_cons (pv 5) (pa_cons (pv 1) pa_nil)))) pa_nil)))) (pss_one (ps_ret pe_bl)) pss_nil)
        (pss_one (ps_set (i := 2) scTerm.nd rfl (.inl rfl) (pe_call GX hr (by rfl) gX FX.kp bX .nil pass0 (pa_cons (pv 2) pa_nil)))))))))
      (pss_one (ps_ret pe_bl))))), ?_⟩
    have fin : ∀ (b : Bool) H1, Same H H1 → isTerm n d = b → Q (.bl b) H1 := fun b H1 s1 e => by
      rw [← e]
      exact q H1 s1
    refine ⟨v, rfl, (by show 1 ≤ sizeLine; decide), fun a0 na0 => ?_⟩
    refine q_c (σ := [some v, some (.int n), some (.ref a0), none, none, none]) (i := 3) (v := .int 0) ?_
    refine q_c (i := 4) (v := .int 0) ?_
    dsimp only [List.set]
    refine q_w ?_
    refine while_by (fun σ H' => ∃ (a : Addr) (xs : List V) (lv : List PyData) (k m : Nat) (y : Option V), σ = [some v, some (.int n), some (.ref a), some (.int k), some (.int m), y] ∧ Same H H' ∧ H' a = some (.lst xs) ∧ DpAll K H xs lv ∧ szDs lv = true ∧ k ≤ 8 ∧ lv.length ≤ 3000 ∧ goT n (9 - k) lv k m = isTerm n d)
      (fun σ _ => match σ with | [_, _, _, some (.int k), _, _] => 9 - k.toNat | _ => 0)
      ⟨a0, [v], [d], 0, 0, none, rfl, same_upd na0, upd_same, .cons hv .nil, (by show (szD d && true) = true; rw [hsz]; rfl), by omega, (by show 1 ≤ 3000; decide), rfl⟩ (fun σ H' hW => ?_) (fun σ H' Q1 Q2 hq ⟨x, e, k, t, q⟩ => ⟨x, e, k, t, hq _ _ q⟩)
    obtain ⟨a, xs, lv, k, m, y, rfl, s1, ea, ha, hz, hk, hln, hg⟩ := hW
    have el : xs.length = lv.length := dpA_len ha
    have hS : SqL K H' a xs := .inl (.inl ea)
    refine ⟨.ref a, rfl, _, .inl ⟨xs, hS, rfl⟩, ?_⟩
    cases lv with
    | nil =>
      have ex : xs = [] := List.eq_nil_of_length_eq_zero el
      subst ex
      refine iteF (fin true H' s1 ?_)
      rw [← hg, show 9 - k = (8 - k) + 1 by omega]
      rfl
    | cons d0 ds =>
      have ex : (!xs.isEmpty) = true := by
        cases xs with
        | nil => cases el
        | cons _ _ => rfl
      rw [ex]
      generalize hlv : d0 :: ds = lv at *
      have hne : lv ≠ [] := by
        rw [← hlv]
        exact List.cons_ne_nil _ _
      rw [show 9 - k = (8 - k) + 1 by omega, goT_cons hne] at hg
      refine iteT ⟨_, rfl, _, _, rfl, rfl, ?_⟩
      refine ⟨_, rfl, _, rfl, a, xs, rfl, .inl hS, _, _, rfl, rfl, ?_⟩
      refine ⟨_, rfl, _, _, rfl, rfl, _, rfl, ?_⟩
      have c1 : decide ((8 : Int) < (k : Int) + 1) = decide (8 < k + 1) := by
        by_cases h : 8 < k + 1
        · rw [decide_eq_true h, decide_eq_true (by omega)]
        · rw [decide_eq_false h, decide_eq_false (by omega)]
      have c2 : decide ((30 : Int) < (m : Int) + (xs.length : Int)) = decide (30 < m + lv.length) := by
        by_cases h : 30 < m + lv.length
        · rw [decide_eq_true h, decide_eq_true (by omega)]
        · rw [decide_eq_false h, decide_eq_false (by omega)]
      rw [c1]
      by_cases h1 : 8 < k + 1
      · rw [decide_eq_true h1]
        refine iteT (iteT (fin false H' s1 ?_))
        rw [← hg, decide_eq_true (.inl h1)]
        rfl
      · rw [decide_eq_false h1]
        refine iteF ⟨_, rfl, _, _, rfl, rfl, _, rfl, ?_⟩
        rw [c2]
        by_cases h2 : 30 < m + lv.length
        · rw [decide_eq_true h2]
          refine iteT (fin false H' s1 ?_)
          rw [← hg, decide_eq_true (.inr h2)]
          rfl
        · rw [decide_eq_false h2]
          rw [decide_eq_false (show ¬ (8 < k + 1 ∨ 30 < m + lv.length) from fun q => q.elim h1 h2)] at hg
          refine iteF ⟨_, rfl, a, rfl, ⟨_, hS⟩, fun D hD => ?_⟩
          refine lc_vals (vs := [5]) (j := 5) (walk_list (K := K) (a := a) (xs := xs)) (fun i => .bl (hasForm n (lv.getD i .none))) (by omega) hD (fun x => rfl) (fun H2 s2 => s2.seq hS) (fun i x H2 H3 hi s2 y2 => ?_) (fun H2 s2 e2 => ?_)
          · obtain ⟨rfl, hx⟩ := y2
            obtain ⟨di, hdi, dx⟩ := dpA_at ha hx
            refine ⟨Same.refl _, fun Q2 q2 => ?_⟩
            refine ⟨x, rfl, _, rfl, x, di, n, rfl, dp_same (s1.trans s2) dx, szDs_get hz hdi, fun H4 s4 => ?_⟩
            have e4 := q2 H4 s4
            rw [List.getD_eq_getElem?_getD, hdi] at e4
            exact e4
          · have eb : ((List.range xs.length).map fun i => hasForm n (lv.getD i .none)).all id = lv.all (hasForm n) := by
              rw [el]
              exact all_rangeD lv (hasForm n)
            refine ⟨D, (List.range xs.length).map (fun i => hasForm n (lv.getD i .none)), rfl, .inl (.inl ?_), ?_⟩
            · rw [e2, List.map_map]
              rfl
            · refine ⟨_, rfl, ?_⟩
              rw [eb]
              cases hb : lv.all (hasForm n) with
              | false =>
                refine iteT (fin false H2 (s1.trans s2) ?_)
                rw [← hg, hb]
                rfl
              | true =>
                rw [hb] at hg
                refine iteF ⟨_, rfl, a, xs, lv, n, H, rfl, s1.trans s2, s2.seq hS, ha, hz, hb, ?_, by omega, fun p ys H5 s5 np e5 hys => ?_⟩
                · have := flat_len hb
                  omega
                · have hfl := flat_len hb
                  refine ⟨⟨p, ys, lv.flatMap inner, k + 1, m + lv.length, y, ?_, (s1.trans s2).trans s5, e5, hys, sz_flat hz, by omega, by omega, ?_⟩, ?_⟩
                  · show [some v, some (V.int n), some (V.ref p), some (V.int ((k : Int) + 1)), some (V.int ((m : Int) + (xs.length : Int))), y] = _
                    rw [el]
                    rfl
                  · rw [show 9 - (k + 1) = 8 - k by omega]
                    exact hg
                  · show 9 - ((k : Int) + 1).toNat < 9 - (k : Int).toNat
                    omega
end
/-! ### an error of the text's own, over an own base -/
/-- what is written of the class B, whose __init__ is asked for by the class's name x -/
structure OwnBase (K : PySem.W.Frag) (mg : Str → Option Value) (x : Str) (B : Addr) : Prop where
  nam : mg x = some (.ref B)
  gta : PySem.W.specialIn K (.ref B) "__getattribute__" = some (some (.builtin "type.__getattribute__"))
  typ : PySem.W.typeIn K (.ref B) = some (.type "type")
  rds : PySem.W.readsIn K B (.type "type") = true
  ini : PySem.W.findCls K (.ref B) (.type "type") "__init__" = some (.val (.builtin "ValueError.__init__"))
section
variable {X : Cx} {e : Expr} {es : List Expr} {ta : TA} {p1 p2 pos : Pos}
theorem pe_baseI {pl : Sem Bool} {x : Str} {B : Addr} (vis : Gl X x) (T : OwnBase X.K X.mg x B) (arg : PA X (e :: es) ta)
    (run : eval (.Call (.Attribute (.Name x p1) "__init__" p2) (e :: es) [] pos) X.env = (do
      let cv ← eval (.Name x p1) X.env
      standAt p2.atName
      let (g, hd) ← holding [cv] (getMethod cv "__init__" pl)
      callWith pos g hd (backTo pos (starEach (e :: es) X.env)) (backToKw pos (keywordEach [] X.env))) := by rfl)
    (dbg : (x == ("__debug__" : Str)) = false := by decide) (one : starEach (e :: es) X.env = (false, eval e X.env) :: starEach es X.env := by rfl)
    (nos : (backTo pos (starEach es X.env)).any (·.1) = false := by rfl) : PE X (.Call (.Attribute (.Name x p1) "__init__" p2) (e :: es) [] pos) (tVeI X.K ta) := ⟨fun pins s σ H Q I h => by
  obtain ⟨m, fr⟩ := I.fr
  have kin := I.ok.mod.kin
  refine PySem.W.methodCall_KW (ld_glob I vis T.nam (PySem.W.method_of_cls fr kin T.gta (PySem.W.cls_val fr kin T.typ T.rds T.ini (by decide +kernel) ?_)) dbg) run
  exact PyProof.Rows.callWith_method1 (thn (arg.run pos pins _ σ H _ (I.tok _) h) fun us s1 z => by
    obtain ⟨vs, H1, I1, r1, a, C, ws, ev, hl, T1, ea, q⟩ := z
    subst ev
    cases r1 with
    | @cons _ u0 _ ur ra rw' =>
      cases (show u0 = Value.ref a from ra)
      have hlen : ur.length ≤ sizeLine := by rw [← Paired.length rw', sizeLine_eq]; omega
      exact oinit_ok T1 I1 ea hlen fun s' J => ⟨V.non, H1, J, rfl, q⟩) one nos⟩
end
/-- C(e, ..) in a try: what leaves __init__ goes to the wish at the present slots -/
def tMakeS (C : Addr) (sp : Sp) (E : L2.St → XK) (t : TA) : TE := fun σ H Q => t σ H fun vs H1 => ∀ x dx, H1 x = none → H1 dx = none → dx ≠ x → sp (.ref x :: vs) (upd (upd H1 dx (.own x)) x (.ins C dx [])) (fun v H2 => v = .non ∧ Q (.ref x) H2) (E σ)
theorem pe_makeS {X : Cx} {CX : CXT} {C f : Addr} {fd : FuncData} {k : Nat} {ps : List Str} {sp : Sp} {x : Str} {p pos : Pos} {e : Expr} {es : List Expr} {t : TA} {E : L2.St → XK} (M : Mk X.K C f) (F : FnOk X.prog X.w X.K X.mg X.base CX k f fd ps sp)
    (hr : Room (k + 1) X.A) (hg : Gl X x) (hm : X.mg x = some (.ref C)) (hb : Binds X.K fd ps []) (way : ∀ σ, PassesAt CX X σ (E σ)) (ha : PA X (e :: es) t) (hdb : (x == ("__debug__" : Str)) = false := by decide)
    (he : starEach (e :: es) X.env = (false, eval e X.env) :: starEach es X.env := by rfl) (hpl : (backTo pos (starEach es X.env)).any (·.1) = false := by rfl) : PE X (.Call (.Name x p) (e :: es) [] pos) (tMakeS C sp E t) := ⟨fun pins s σ H Q I h => by
  refine wpAny_Call_Name_kw (ld_glob I hg hm (PySem.W.callWith_K (h₀ := X.base) I.ok.mod.kin M.kp (thn (ha.run pos pins s σ H _ I h) fun us s1 z => ?_) he hpl) hdb)
  obtain ⟨vs, H1, I1, r, q⟩ := z
  let n := s1.heap.objs.size
  have here := q (n + 1) n (I1.hok.fresh (Nat.le_succ _)) (I1.hok.fresh (Nat.le_refl _)) (Nat.ne_of_lt (Nat.lt_succ_self _))
  have made := Inv.made (C := C) I1
  have rs : Vals (V.ref (n + 1) :: vs) (Value.ref (n + 1) :: us) := .cons rfl r
  have many : (Value.ref (n + 1) :: us).length = ps.length := rs.length.symm.trans (F.len _ _ _ _ here)
  have bind := hb ⟨_, s1.gens, s1.drawn, s1.toks, s1.os⟩ (Value.ref (n + 1) :: us) made.kIn (by rw [List.append_nil]; exact many)
  rw [List.append_nil] at bind
  refine ⟨I1.kIn, wpAny_call (make_map (f := f) I1.kIn M.makes M.init (beq_iff_eq.mp M.fn) (codeAny_mono (F.run _ X.stack _ _ ⟨Value.ref (n + 1) :: us, []⟩ (Value.ref (n + 1) :: us) _ _ (E σ) (hr.make C us []) (made.env0.make C us []) bind rs here) fun r s' z => ?_))⟩
  cases r with
  | error er => exact way σ pins _ _ er s' made z
  | ok fl =>
    cases fl with
    | ret u =>
      obtain ⟨v, H', J, rv, ev, q3⟩ := made.after z
      subst ev
      exact ⟨rv, V.ref (n + 1), H', J, rfl, q3⟩
    | next => exact False.elim z
    | brk => exact False.elim z
    | cont => exact False.elim z⟩
/-- a def that may raise, called where it doesn't -/
theorem pass00 {X : Cx} : Passes (L2.CX X.prog X.w) X (fun _ _ _ => False) := passes_call takes0 (fun _ _ _ _ h => h)
/-! ### isinstance of a caught error that has its dict -/
structure ErrC (K : PySem.W.Frag) (C : Addr) : Prop where
  cl : (PySem.W.clsIn K C).isSome = true
  ga : PySem.W.findIn K (.ref C) "__getattribute__" = some (some (.builtin "BaseException.__getattribute__"))
  gt : PySem.W.findIn K (.ref C) "__getattr__" = some none
  be : PySem.W.subIn K (.ref C) (.type "BaseException") = some true
  ca : PySem.W.findIn K (.ref C) "__class__" = some (some (.builtin "object.__class__"))
  cn : PySem.W.specialIn K (.builtin "object.__class__") "__get__" = some (some (.builtin "getset_descriptor.__get__"))
  tk : PySem.W.takesIn K (.builtin "object.__class__") = some true
  mo : PySem.W.mroIn K C (.type "object") = some true
def rIsD (K : PySem.W.Frag) (D a : Addr) (cls : Value) (d : Option Addr) : List V → Hp → VK → Prop := fun xs H Q => ∃ (c : V) (cv : Value) (b : Bool) (dd : Addr) (fs : List (Str × V)), xs = [.ref a, c] ∧ (∀ u, RelV c u → u = cv) ∧ cls = .ref D ∧ d = some dd ∧ H dd = some (.xd fs) ∧ PySem.W.kitOne K (.ref D) cv = some b ∧ Q (.bl b) H
theorem call_isD {X : Cx} {a D : Addr} {cls : Value} {d : Option Addr} {oe : Obj} {pn : List (Addr × Obj)} (T : ErrC X.K D) (hz : Zc cls d oe) (hf : ∃ vs, oe.data = .fields vs) : CallR (X.suite a ((a, oe) :: pn)) (.builtin "isinstance") (rIsD X.K D a cls d) := by
  intro pins s σ H xs us Q I r h
  obtain ⟨c, cv, b, dd, fs, rfl, hcv, rfl, rfl, hd, e, q⟩ := h
  obtain ⟨u1, u2, rfl, r1, r2⟩ := vals2 r
  cases (show u1 = Value.ref a from r1)
  cases hcv _ r2
  obtain ⟨hget, _⟩ := I.pin (a, oe) (List.mem_append_left _ List.mem_cons_self)
  obtain ⟨vs, hv⟩ := hf
  obtain ⟨mA, hns, _⟩ := (show ObjOk X.prog X.w H s.heap dd (.xd fs) from I.hok dd _ hd)
  obtain ⟨od, ho, _⟩ := lookIn_ns hns
  have J : PySem.W.InstAt s.heap a oe D (some od) := ⟨hget, hz.1, by unfold PySem.W.notCls; rw [hv] <;> rfl, by rw [hz.2]; exact ho⟩
  exact PySem.W.kia_one (PySem.W.kitx_exc T.cl T.ga T.gt T.be T.ca T.cn T.tk T.mo) I.kIn J e (fun z => nomatch z) fun tk => ⟨.bl b, H, I.kept (t' := tk) fun _ _ z => z, rfl, q⟩
/-! ### operators by own defs -/
section
variable {X : Cx} {n : Nat} {C g : Addr} {fd : FuncData} {ps : List Str} {sp : Sp}
def rOwnI (C : Addr) (sp : Sp) : R2 := fun x y H Q => ∃ a b dx dy fs gs, x = .ref a ∧ y = .ref b ∧ H a = some (.ins C dx fs) ∧ H b = some (.ins C dy gs) ∧ sp [x, y] H Q E0
theorem op_ownI {op : CmpOp} (hs : PySem.W.findIn X.K (.ref C) (cmpInfo op).2.1 = some (some (.ref g))) (hf : PySem.W.isFn X.K (.ref g) = true) (F : FnOk X.prog X.w X.K X.mg X.base CX0 n g fd ps sp) (hb : Binds X.K fd ps []) (hr : Room n X.A)
    (hop : ∀ a b, compareOp op a b = richCompare op a b := by intro _ _; rfl) : OpR X (compareOp op) (rOwnI C sp) := by
  intro pins s σ H x y v u Q I rx ry h
  obtain ⟨a, b, dx, dy, fs, gs, rfl, rfl, ea, eb, q⟩ := h
  cases (show v = Value.ref a from rx)
  cases (show u = Value.ref b from ry)
  obtain ⟨mA, J, _⟩ := ins_get I.hok ea
  obtain ⟨mB, J', _⟩ := ins_get I.hok eb
  obtain ⟨od, J, _⟩ := J.look
  obtain ⟨od', J', _⟩ := J'.look
  obtain ⟨m, hF⟩ := I.fr
  rw [hop]
  refine PySem.W.cmp_K (op := op) (tb := .ref C) hr.units0 hF I.ok.mod.kin J J'.type (by simp [PySem.W.notFirst]) hs hf ?_
  exact wpAny_mono (run_fn (vs := [.ref a, .ref b]) F hr hb .nil pass0 I (.cons rfl (.cons rfl .nil)) q) (fun w s' ⟨z', H', I', rz, qz⟩ => SlX.cmpback rz ⟨z', H', I', rz, qz⟩) fun _ _ x => x
end
/-! ### != by an own == -/
namespace NeX
open PySem.W
section
variable {prog : Program} {w : World} {A : Around} {E : Value → Shared → Prop} {s : Shared} {K : Frag} {x C L f : Addr} {h₀ : Heap} {m : Str → Option Value} {ox : Obj} {od : Option Obj} {b tb : Value}
theorem bound_blt {M : Model} {name : Str} {id : String} {args : List Value} {Q : Option Value → Shared → Prop} (X : K.In s.heap) (I : InstAt s.heap x ox C od) (hs : findIn K (.ref C) name = some (some (.builtin id)))
    (hb : bindSpecial (.builtin id) (.ref x) = pure (Value.builtin id, [Value.ref x])) (h : wpAny M A (call (.builtin id) (.ref x :: args)) (fun v => Q (some v)) E s) : wpAny M A (callSpecialIfBound? (.ref x) name args) Q E s := by
  simp only [callSpecialIfBound?, bindSpecialIfBound?]
  refine wpAny_holding (wpAny_bind (wpAny_bind (wpAny_bind (I.type.here ((looks_findIn X hs).here ?_)))))
  simp only [hb]
  have out : wpAny M A (call (.builtin id) ([.ref x] ++ args) >>= fun v => pure (some v)) Q E s := wpAny_bind (wpAny_mono h (fun _ _ z => wpAny_pure z) fun _ _ z => z)
  refine wpAny_bind (wpAny_askSetting (wpAny_ite ?_))
  split
  · exact wpAny_bind (wpAny_pure (wpAny_pure out))
  · exact wpAny_tryCatch (wpAny_bind (wpAny_pure (wpAny_pure out)))
theorem run_ne (hu : A.units < cLine) (X : K.In s.heap) (I : InstAt s.heap x ox C od) (he : findIn K (.ref C) "__eq__" = some (some (.ref f))) (hf : isFn K (.ref f) = true) {Q : Fin → Shared → Prop}
    (h : wpAny (model prog w) A (call (.ref f) [.ref x, b]) (fun v s' => ∃ k, v = .bool k ∧ Q (.done (.ret (.bool (!k)))) s') E s) : wpAny (model prog w) A (Builtin.«object.__ne__» ⟨[.ref x, b], []⟩) Q E s := by
  unfold Builtin.«object.__ne__»
  repeat (first
    | with_reducible refine wpAny_cRoomFor hu ?_
    | (refine wpAny_bind (m := callSpecialIfBound? (.ref x) (Str.ofString "__eq__") [b]) (ifBound_K X I he hf (wpAny_mono h (fun r s' hr => by
          obtain ⟨k, rfl, hq⟩ := hr
          repeat (first | exact hq | exact wpAny_pure hq | exact wpAny_truthy_bool hq | (refine wpAny_bind (m := truthy (.bool _)) (wpAny_truthy_bool ?_)) | wp_step)) fun _ _ z => z)))
    | wp_step)
theorem rich_ne (hu : A.units + 1 < cLine) (F : Fr h₀ L s.heap m) (X₀ : K.In h₀) (I : InstAt s.heap x ox C od) (hb : Looks (model prog w) s.heap (typeOf b) tb) (hn : notFirst K C tb = true)
    (hne : findIn K (.ref C) "__ne__" = some (some (.builtin "object.__ne__"))) (hso : subIn K (.ref C) (.type "object") = some true)
    (he : findIn K (.ref C) "__eq__" = some (some (.ref f))) (hf : isFn K (.ref f) = true) {Q : Value → Shared → Prop}
    (h : wpAny (model prog w) A.in1 (call (.ref f) [.ref x, b]) (fun v s' => ∃ k, v = .bool k ∧ Q (.bool (!k)) s') E s) : wpAny (model prog w) A (richCompare .NotEq (.ref x) b) Q E s := by
  have X := X₀.keeps F.keep
  have one : wpAny (model prog w) A (tryCompare (.ref x) "__ne__" b) (fun r s' => ∃ v, r = some v ∧ Q v s') E s := by
    unfold tryCompare
    refine wpAny_bind (bound_blt X I hne (PySem.F.cmp_object.ne.bind _) (wpAny_call (codeAny_call_builtin PySem.F.cmp_object.ne.plain PySem.F.cmpEntry_ne
      (check_slot PySem.F.cmpKind_ne PySem.F.cmpSplit_ne (I.type.andThen (looks_subIn X hso)) (PySem.F.cmpArgs_ne _ _) (run_ne (A := A.in1) (by show A.units + 1 < cLine; exact hu) X I he hf (wpAny_mono h (fun v s' hv => ?_) fun _ _ z => z))))))
    obtain ⟨k, rfl, hq⟩ := hv
    exact ⟨k, rfl, wpAny_pure ⟨_, rfl, hq⟩⟩
  unfold richCompare
  simp only [oneThing_ref]
  refine wpAny_holding (wpAny_bind (wpAny_cRoomFor (Nat.lt_of_succ_lt hu) ?_))
  rw [cmpInfo_NotEq]
  dsimp only
  refine wpAny_bind (I.type.here (wpAny_bind (hb.here ?_)))
  split
  · rename_i q
    have e : subIn K tb (.ref C) = some false := by
      rcases Bool.or_eq_true_iff.mp hn with z | z
      · rw [beq_iff_eq.mp z] at q; simp at q
      · exact beq_iff_eq.mp z
    refine wpAny_bind ((looks_subIn X e).here ?_)
    simp only [Bool.false_eq_true, if_false]
    exact wpAny_bind (wpAny_mono one (fun r s' ⟨v, z, hq⟩ => by subst z; exact wpAny_pure hq) fun _ _ z => z)
  · refine wpAny_bind (wpAny_pure ?_)
    simp only [Bool.false_eq_true, if_false]
    exact wpAny_bind (wpAny_mono one (fun r s' ⟨v, z, hq⟩ => by subst z; exact wpAny_pure hq) fun _ _ z => z)
end
end NeX
section
variable {X : Cx} {n : Nat} {C g : Addr} {fd : FuncData} {ps : List Str} {sp : Sp}
/-- what y, on the other side, is: an instance of the same class, or plain -/
def Other (K : PySem.W.Frag) (H : Hp) (C : Addr) (y : V) : Prop := (∃ b dy gs, y = .ref b ∧ H b = some (.ins C dy gs)) ∨ ∃ z, y = .str z
/-- x != y, by C's own == alone -/
def rNeI (K : PySem.W.Frag) (C : Addr) (sp : Sp) : R2 := fun x y H Q => ∃ a dx fs, x = .ref a ∧ H a = some (.ins C dx fs) ∧ Other K H C y ∧ sp [x, y] H (fun v H' => ∃ k, v = .bl k ∧ Q (.bl (!k)) H') E0
theorem op_neI (hne : PySem.W.findIn X.K (.ref C) "__ne__" = some (some (.builtin "object.__ne__"))) (hso : PySem.W.subIn X.K (.ref C) (.type "object") = some true) (hst : PySem.W.notFirst X.K C (.type "str") = true)
    (he : PySem.W.findIn X.K (.ref C) "__eq__" = some (some (.ref g))) (hf : PySem.W.isFn X.K (.ref g) = true) (F : FnOk X.prog X.w X.K X.mg X.base CX0 n g fd ps sp) (hb : Binds X.K fd ps []) (hr : Room (n + 1) X.A) : OpR X (compareOp .NotEq) (rNeI X.K C sp) := by
  intro pins s σ H x y v u Q I rx ry h
  obtain ⟨a, dx, fs, rfl, ea, ho, q⟩ := h
  cases (show v = Value.ref a from rx)
  obtain ⟨mA, J, _⟩ := ins_get I.hok ea
  obtain ⟨od, J, _⟩ := J.look
  obtain ⟨m, hF⟩ := I.fr
  have hu : X.A.units + 1 < cLine := by have := hr.units; omega
  have call1 : wpAny (model X.prog X.w) X.A.in1 (call (.ref g) [.ref a, u]) (fun v' s' => ∃ k, v' = .bool k ∧ EP X pins σ Q (.bool (!k)) s') X.xe s := by
    refine wpAny_mono (wpAny_call (SlX.run_at (us := [.ref a, u]) (ws := [.ref a, y]) (F.raw hb .nil) hr.in1 I.env0.in1 pass0 I (.cons rfl (.cons ry .nil)) q)) (fun w' s' z => ?_) fun _ _ z => z
    obtain ⟨z', H', I', rz, k, ez, qz⟩ := z
    subst ez
    cases rz
    exact ⟨k, rfl, .bl (!k), H', I', rfl, qz⟩
  rcases ho with ⟨b, dy, gs, rfl, eb⟩ | ⟨z, rfl⟩
  · cases (show u = Value.ref b from ry)
    obtain ⟨mB, J', _⟩ := ins_get I.hok eb
    obtain ⟨od', J', _⟩ := J'.look
    exact NeX.rich_ne hu hF I.ok.mod.kin J J'.type (by simp [PySem.W.notFirst]) hne hso he hf call1
  · obtain ⟨t, et⟩ := (show ∃ t, u = Value.str z t from ry)
    cases et
    exact NeX.rich_ne hu hF I.ok.mod.kin J (PySem.W.Looks.of_pure rfl) hst hne hso he hf call1
end

/-! ### != of two lists whose items are equal, one by one -/
namespace NlX
open PySem.SeqAt MeetsSeq MeetsSeq2 MeetsSeq3 SeqRoads2
open AutoSeq1 (wpAny_loadPart')
section
variable {prog : Program} {w : World} {A : Around} {R : Result → Shared → Prop}
/-- where the machine stands at the item number j of N: both lists as they are now, and the two items are seen to be equal -/
def Turns (prog : Program) (w : World) (A : Around) (E : Value → Shared → Prop) (p q : Addr) (N : Nat) (J : Nat → Shared → Prop) : Prop := GQ.ListI prog w A E p q N J
theorem ne_turns (p q : Addr) (N : Nat) (J : Nat → Shared → Prop) (T : Turns prog w A (fun e s' => R (.error e) s') p q N J) (out : ∀ s, J N s → R (.ok (.ret (.bool false))) s) :
    ∀ (left j : Nat), j + left = N → ∀ s, J j s → wpAny (model prog w) A.in1 (Builtin.«list.__eq__.loop» ⟨[.ref p, .ref q, rawInt j, rawInt 3], []⟩) (GQ.FinOf prog w A R) (fun e s' => R (.error e) s') s
  | 0, j, hj, s, h => by
    obtain ⟨xs, ys, m1, m2, e1, e2, z1, z2, _⟩ := T _ _ h
    have hjN : j = N := by omega
    subst hjN
    have fin := out s h
    obtain ⟨hp, g, d, tk, os⟩ := s
    wp_walk using wpAny_loadPart' e1, wpAny_loadPart' e2
    have a1 : xs[((j : Nat) : Int).toNat]? = none := by simp; omega
    have a2 : ys[((j : Nat) : Int).toNat]? = none := by simp; omega
    rw [a1, a2]
    wp_walk using wpAny_loadPart' e1, wpAny_loadPart' e2
    show R (.ok (.ret (.bool (xs.size != ys.size)))) _
    rw [z1, z2]
    simpa using fin
  | left + 1, j, hj, s, h => by
    obtain ⟨xs, ys, m1, m2, e1, e2, z1, z2, turn⟩ := T _ _ h
    have b1 : j < xs.size := by omega
    have b2 : j < ys.size := by omega
    have step := turn b1 b2
    obtain ⟨hp, g, d, tk, os⟩ := s
    wp_walk using wpAny_loadPart' e1, wpAny_loadPart' e2
    have a1 : xs[((j : Nat) : Int).toNat]? = some xs[j] := by simp [b1]
    have a2 : ys[((j : Nat) : Int).toNat]? = some ys[j] := by simp [b2]
    have up : ((j : Int) + 1) = ((j + 1 : Nat) : Int) := by omega
    rw [a1, a2]
    refine wpAny_bind (wpAny_mono step (fun r s2 z => ?_) fun _ _ z => z)
    obtain ⟨er, z⟩ := z
    subst er
    have more := ne_turns p q N J T out left (j + 1) (by omega) s2 z
    obtain ⟨hp2, g2, d2, tk2, os2⟩ := s2
    wp_walk
    rw [up]
    exact ⟨plainId_quiet plain_eq_loop _, codeAny_builtin entry_eq_loop (by
      rw [Around.under_plainId plain_eq_loop _]
      exact more)⟩
theorem ne_lists (p q : Addr) (N : Nat) (J : Nat → Shared → Prop) (T : Turns prog w A (fun e s' => R (.error e) s') p q N J) (out : ∀ s, J N s → R (.ok (.ret (.bool false))) s) {s : Shared} (h : J 0 s) :
    wpAny (model prog w) A.in1 (Builtin.«list.__ne__» ⟨[.ref p, .ref q], []⟩) (GQ.FinOf prog w A R) (fun e s' => R (.error e) s') s := by
  obtain ⟨xs, ys, m1, m2, e1, e2, z1, z2, _⟩ := T _ _ h
  have more := ne_turns (A := A) (R := R) p q N J T out N 0 (by omega) s h
  obtain ⟨hp, g, d, tk, os⟩ := s
  have sub := AutoSeq1.sub_list_list
  have same : ¬ (xs.size != ys.size) = true := by simp [z1, z2]
  wp_walk using wpAny_loadPart' e1, wpAny_loadPart' e2
  exact ⟨plainId_quiet plain_eq_loop _, codeAny_builtin entry_eq_loop (by
    rw [Around.under_plainId plain_eq_loop _]
    exact more)⟩
end
section
variable {prog : Program} {w : World} {A : Around} {E : Value → Shared → Prop} {s : Shared}
theorem rich_neL {p q : Addr} {N : Nat} {Q : Value → Shared → Prop} (hu : A.units < cLine) (J : Nat → Shared → Prop) (T : Turns prog w A E p q N J) (out : ∀ s, J N s → Q (.bool false) s) (h : J 0 s) :
    wpAny (model prog w) A (richCompare .NotEq (.ref p) (.ref q)) Q E s := by
  obtain ⟨xs, ys, m1, m2, e1, e2, _, _, _⟩ := T _ _ h
  refine wpAny_richCompare_same_room (op := .NotEq) ⟨_, e1, rfl⟩ ⟨_, e2, rfl⟩ F.slot_list_ne (GQ.call_here F.slot_list_ne ⟨_, e1, rfl⟩ F.entry_list_ne (F.args_list_ne_2 _ _) ?_) hu
  exact ne_lists (R := wants (fun v s' => v ≠ .notImplemented ∧ Q v s') E) p q N J T (fun s' z => ⟨(fun x => nomatch x), out s' z⟩) h
end
end NlX
section
variable {X : Cx} {n : Nat} {D : Eqv}
/-- xs != ys, lists whose items are equal by D -/
def rNeL (D : Eqv) : R2 := fun x y H Q => DList D x y H ∧ ∀ H', Ext H H' → Q (.bl false) H'
theorem op_neL (hD : Mon D) (h : EqG X n D) (hr : Room (n + 1) X.A) : OpR X (compareOp .NotEq) (rNeL D) := by
  intro pins s σ H x y v u Q I rx ry ⟨d, q⟩
  obtain ⟨a, b, xs, ys, rfl, rfl, ea, eb, p⟩ := d
  cases rx
  cases ry
  refine NlX.rich_neL (N := xs.length) hr.units0 (fun _ s' => LoopI X pins σ H s') (fun i s' z => ?_) (fun s' ⟨H', I', e⟩ => ⟨.bl false, H', I', rfl, q H' e⟩) ⟨H, I, Ext.rfl'⟩
  obtain ⟨H1, I1, e1⟩ := id z
  obtain ⟨_, its, k, r, o1⟩ := I1.hok a _ (e1 _ _ ea)
  obtain ⟨_, its2, k2, r2, o2⟩ := I1.hok b _ (e1 _ _ eb)
  exact ⟨its.toArray, its2.toArray, k, k2, o1, o2, by rw [List.size_toArray, ← r.length], by rw [List.size_toArray, ← r2.length, ← p.1], fun h1 h2 => turnG hD h ⟨hr, rfl⟩ p r r2 i h1 h2 s' z⟩
end
/-! ### defs that are run where no repr is under way: what repr of a list or tuple wants -/
/-- as FnOk, for a def that lets nothing out, called where no repr is under way -/
structure FnG (P : Program) (w : World) (K : PySem.W.Frag) (mg : Str → Option Value) (base : Heap) (k : Nat) (f : Addr) (fd : FuncData) (ps : List Str) (sp : Sp) : Prop where
  many : ∀ vs H Q, sp vs H Q E0 → vs.length = ps.length
  goes : ∀ (A : Around) (outer : List Env) (s : Shared) (H : Hp) (us : List Value) (vs : List V) (Q : VK), A.guards = some [] → Room k A → Env0 P w K mg base A outer s H → BindsTo s fd ⟨us, []⟩ (ps.zip us) → Vals vs us → sp vs H Q E0 →
    codeAny (model P w) A (.call (.ref f) ⟨us, []⟩) (CR CX0 outer P w H s Q E0) s
section
variable {P : Program} {w : World} {K : PySem.W.Frag} {mg : Str → Option Value} {base : Heap}
theorem Fun.okG {x qual : Str} {st : Stmt} {f : Addr} {fd : FuncData} {N ps : List Str} {k : Nat} {sp : Sp} (F : Fun K x qual st f fd) (S : FnScope N ps (defScope st)) (many : ∀ vs H Q, sp vs H Q E0 → vs.length = ps.length)
    (body : ∀ (cdv : Value) (A : Around) (outer : List Env) (s : Shared) (H : Hp) (vs : List V) (Q : VK), A.guards = some [] → Room k (A.deeper (envOfC qual (defScope st) s.heap.objs.size f cdv)) → sp vs H Q E0 →
      ∃ t, PSs (cxOf CX0 P w K mg base N qual (defScope st) f cdv A outer s H E0).nox (defBody st) t ∧ t { nx := fun _ H' => Q .non H', rt := Q } (start N vs) H) : FnG P w K mg base (k + 1) f fd ps sp := by
  obtain ⟨oc, od, kV, doc, pm, an, cdv, ct, osl, rfl, at_, cd⟩ := F.ex
  refine ⟨many, fun A outer s H us vs Q hg hr e0 hb r hs => ?_⟩
  have KX : K.In s.heap := e0.mod.kin.keeps fun b o e => (e0.bs b o e).1
  have lim : s.heap.NoLimit := e0.mod.nolimit.keeps fun b o e => (e0.bs b o e).1
  refine codeAny_call_function hr.depth (KX _ _ at_) rfl S.co S.gen rfl (PySem.W.codeRec_of KX cd) (hb _ _ _ _ ?_)
  refine wpAny_newFunctionEnv_cells S.kind (fun ⟨n, v⟩ hy => ?_) fun env he s1 x => ?_
  · rcases S.par n (List.of_mem_zip hy).1 with q | q
    · exact .inl q
    · exact .inr ⟨q, PySem.W.cellsFrom_some _ _ _ (.inl q)⟩
  · subst he
    obtain ⟨t, ht, hq⟩ := body cdv A outer s H vs Q hg (hr.deeper _) hs
    refine ⟨lim.keeps x.toInCall.keep, codeAny_func (wpAny_mono (ht.nox.run [] s1 (start N vs) H _ (inv_start S hr.hd e0 (many _ _ _ hs) r x) hq) (fun fl s' z => ?_) fun e s' z => z)⟩
    have out : ∀ {σ' : L2.St} {H' : Hp} {v : V} {u : Value}, Inv (cxOf CX0 P w K mg base N qual (defScope st) f cdv A outer s H E0) [] σ' H' s' → RelV v u → Q v H' → CE outer P w H s Q u s' := fun {σ' H' v u} J rv q => ⟨v, H', J.os, J.bare, J.base, J.hok, rv, q⟩
    cases fl with
    | ret u => exact let ⟨v, σ', H', J, rv, q⟩ := z; out J rv q
    | next => exact let ⟨σ', H', J, q⟩ := z; out (v := V.non) (u := Value.none) J rfl q
    | brk => exact let ⟨_, _, _, q⟩ := z; False.elim q
    | cont => exact let ⟨_, _, _, q⟩ := z; False.elim q
end
section
variable {X : Cx} {k : Nat} {f : Addr} {fd : FuncData} {ps : List Str} {sp : Sp} {x : Str} {e : Expr} {es : List Expr} {p pos : Pos} {t : TA}
theorem pe_callG (F : FnG X.prog X.w X.K X.mg X.base k f fd ps sp) (gu : X.A.guards = some []) (hr : Room k X.A) (hg : Gl X x) (hm : X.mg x = some (.ref f)) (hk : PySem.W.keepIn X.K (.ref f) = true) (hb : Binds X.K fd ps []) (ha : PA X (e :: es) t)
    (hdb : (x == ("__debug__" : Str)) = false := by decide) (he : starEach (e :: es) X.env = (false, eval e X.env) :: starEach es X.env := by rfl) (hpl : (backTo pos (starEach es X.env)).any (·.1) = false := by rfl) :
    PE X (.Call (.Name x p) (e :: es) [] pos) (tCall sp [] E0 t) := ⟨fun pins s σ H Q I h => by
  refine wpAny_Call_Name_kw (ld_glob I hg hm (PySem.W.callWith_K (h₀ := X.base) I.ok.mod.kin hk (thn (ha.run pos pins s σ H _ I h) fun us s1 z => ?_) he hpl) hdb)
  obtain ⟨vs, H1, I1, r, q⟩ := z
  have q' : sp vs H1 Q E0 := by
    have z : sp (vs ++ []) H1 Q E0 := q
    rwa [List.append_nil] at z
  have hl : (us ++ []).length = ps.length := by rw [List.append_nil, ← r.length]; exact F.many _ _ _ q'
  have bt := hb s1 us I1.kIn hl
  rw [List.append_nil] at bt
  refine ⟨I1.kIn, wpAny_call (codeAny_mono (F.goes X.A X.stack s1 H1 us vs Q gu hr I1.env0 bt r q') fun r s' z => ?_)⟩
  cases r with
  | error e => exact z.elim
  | ok fl =>
    cases fl with
    | ret u => exact I1.after z
    | next => exact False.elim z
    | brk => exact False.elim z
    | cont => exact False.elim z⟩
/-- repr of data -/
def rReprD (K : PySem.W.Frag) : List V → Hp → VK → Prop := fun xs H Q => ∃ (x : V) (d : PyData), xs = [x] ∧ Dp K H x d ∧ d.showable = true ∧ d.hasDict = false ∧ d.depth ≤ 60 ∧ d.shown.length ≤ sizeLine ∧ Q (.str d.shown) H
theorem call_reprD (gu : X.A.guards = some []) (un : X.A.units + 100 < cLine) : CallR X (.builtin "repr") (rReprD X.K) := by
  intro pins s σ H xs us Q I r h
  obtain ⟨x, d, rfl, hd, hs, hn, hdp, hz, q⟩ := h
  obtain ⟨u, rfl, ru⟩ := r.one

  obtain ⟨as, R⟩ := Dp.reads I d x u hd ru
  have put : ∀ {t : Tok} {z : Str}, z = d.shown → EP X pins σ Q (.str z t) { s with toks := s.toks + 1 } := fun {t z} e => by
    subst e
    exact ⟨.str d.shown, H, I.tok _, ⟨t, rfl⟩, q⟩
  cases hd with
  | non => cases (show u = Value.none from ru); exact PySem.P.repr_of_none (put rfl)
  | bl b => cases (show u = Value.bool b from ru); exact PySem.P.repr_of_bool (put rfl)
  | int i =>
    obtain ⟨t, e⟩ := (show ∃ t, u = Value.int i t from ru)
    cases e
    exact PySem.P.repr_of_int (by simpa [PyData.showable] using hs) (put rfl)
  | str z =>
    obtain ⟨t, e⟩ := (show ∃ t, u = Value.str z t from ru)
    cases e
    exact PySem.P.repr_of_str (put rfl) (by simpa [PyData.shown] using hz)
  | @lst a vs ds hS hD =>
    cases (show u = Value.ref a from ru)
    exact repr_of_reads' R hs (PyData.noDict_hsm hn) gu (by omega) (fun _ _ e => e) (fun h' t tk k => ⟨.str _, H, I.kept (t' := tk) k, ⟨t, rfl⟩, q⟩) hz
  | @tup a vs ds hS hD =>
    cases (show u = Value.ref a from ru)
    exact repr_of_reads' R hs (PyData.noDict_hsm hn) gu (by omega) (fun _ _ e => e) (fun h' t tk k => ⟨.str _, H, I.kept (t' := tk) k, ⟨t, rfl⟩, q⟩) hz
end
/-! ### the end, by a law's def that is run where no repr is under way -/
namespace EndG
section
variable {P : Program} {w : World} {K : PySem.W.Frag} {mg mb : Str → Option Value} {k : Nat} {fa a : Addr} {fd : FuncData} {x : Str} {sp : Sp} {s : Shared} {vs : List Value} {ns : List Int}
/-- what is asked of the run at last -/
def Told (s : Shared) (r : Result) (s' : Shared) : Prop := r = .ok (.ret (.bool true)) ∧ OldK s.heap s'.heap ∧ s'.os = s.os ∧ AllBare s'.gens
/-- from a heap of which at most the script is tracked -/
theorem told_at (KX : K.In s.heap) (n1 : s.heap.Ns mainGlobals mg) (n2 : s.heap.Ns builtinsNs mb) (bb : ∀ x : Str, x ≠ "__name__" → mb x = bootBuiltins x) (lim : s.heap.NoLimit) (gs : s.gens = #[])
    (oa : s.heap.get? a = some { cls := .type "list", data := .seq vs.toArray }) (hr : Room k callerA) (F : ∀ base : Heap, K.In base → base.Ns mainGlobals mg → FnG P w K mg base k fa fd [x] sp)
    (bind : ∀ (s : Shared) (u : Value), BindsTo s fd ⟨[u], []⟩ [(x, u)]) (H : Hp) (only : Only H) (ok : HOk P w H s.heap) (at_a : ∀ b, H b ≠ none → b = a) (notK : H a ≠ none → K.lookup a = none)
    (h : sp [.ref a] H (fun v _ => v = .bl true) E0) : codeAny (model P w) callerA (.call (.ref fa) ⟨[.ref a], []⟩) (Told s) s := by
  have none_or : ∀ b, H b = none ∨ b = a := fun b => by
    cases q : H b with
    | none => exact .inl rfl
    | some u => exact .inr (at_a b (by rw [q]; exact fun z => nomatch z))
  have free : ∀ {b : Addr} {o : Obj} {es : Array DictEntry} {ep : Nat}, s.heap.get? b = some o → o.data = .dict es ep → H b = none := fun {b o es ep} e d => by
    rcases none_or b with z | z
    · exact z
    · rw [z, oa] at e
      cases e
      exact absurd (show Data.seq vs.toArray _ = Data.dict es ep from d) (fun y => nomatch y)
  have ns0 : ∀ {b : Addr} {m : Str → Option Value}, s.heap.Ns b m → (hidT s.heap H).Ns b m := fun {b m} z => by
    obtain ⟨o, es, ep, e, d, r⟩ := z
    exact ⟨o, es, ep, hidT_get e (free e d), d, r⟩
  have kb : K.In (hidT s.heap H) := fun b o e => hidT_get (KX b o e) (by
    rcases none_or b with z | z
    · exact z
    · cases q : H b with
      | none => rfl
      | some u =>
        rw [z] at q e
        rw [notK (by rw [q]; exact fun y => nomatch y)] at e
        cases e)
  have md : Mod K mg (hidT s.heap H) := ⟨kb, ns0 n1, ⟨mb, ns0 n2, bb⟩, by
    obtain ⟨mc, c1, c2⟩ := lim
    exact ⟨mc, ns0 c1, c2⟩⟩
  have noF : ∀ b : Addr, b ∉ ([] : List Addr) := fun b => by simp
  have e0 : Env0 P w K mg (hidT s.heap H) callerA [] s H := ⟨rfl, md, fun b o z => of_hidT z, Nat.le_of_eq (hidT_size _ _), trivial, fun b z => absurd (show b ∈ ([] : List Addr) from z) (noF b), ok, .of_eq gs⟩
  refine codeAny_mono ((F _ kb (ns0 n1)).goes callerA [] s H [.ref a] [.ref a] _ rfl hr e0 (bind s (.ref a)) (.cons rfl .nil) h) fun r s' z => ?_
  cases r with
  | error e => exact z.elim
  | ok fl =>
    cases fl with
    | next => exact False.elim z
    | brk => exact False.elim z
    | cont => exact False.elim z
    | ret u =>
      obtain ⟨v, H', os, bare, un, ok', rv, ev⟩ := z
      cases (show v = .bl true from ev)
      cases (show u = Value.bool true from rv)
      refine ⟨rfl, OldK.of_keep fun b o e => ?_, os, bare⟩
      cases q : H b with
      | none => exact un.keep b o e q (fun y => absurd (show b ∈ ([] : List Addr) from y) (noF b)) (noF b)
      | some u =>
        rcases only b with y | ⟨ob, xs, y⟩
        · rw [q] at y
          cases y
        · obtain ⟨g1, _⟩ := ok b _ y
          obtain ⟨g2, _⟩ := ok' b _ (un.frzs b ob _ y)
          rw [e] at g1
          cases g1
          exact g2
theorem law_told (KX : K.In s.heap) (n1 : s.heap.Ns mainGlobals mg) (n2 : s.heap.Ns builtinsNs mb) (bb : ∀ x : Str, x ≠ "__name__" → mb x = bootBuiltins x) (lim : s.heap.NoLimit) (gs : s.gens = #[])
    (oa : s.heap.get? a = some { cls := .type "list", data := .seq vs.toArray }) (isI : IntsAre vs ns) (few : ns.length ≤ sizeLine) (hr : Room k callerA) (F : ∀ base : Heap, K.In base → base.Ns mainGlobals mg → FnG P w K mg base k fa fd [x] sp)
    (bind : ∀ (s : Shared) (u : Value), BindsTo s fd ⟨[u], []⟩ [(x, u)]) (h : ∀ H : Hp, Only H → SqL K H a (ns.map V.int) → sp [.ref a] H (fun v _ => v = .bl true) E0) : codeAny (model P w) callerA (.call (.ref fa) ⟨[.ref a], []⟩) (Told s) s := by
  have rv := vals_ints isI
  have len := isI.length
  cases inK : K.lookup a with
  | some o =>
    have e := KX a o inK
    rw [oa] at e
    cases e
    have only : Only (fun _ => none) := fun _ => .inl rfl
    refine told_at KX n1 n2 bb lim gs oa hr F bind (fun _ => none) only (fun b u z => nomatch (show (none : Option HO) = some u from z)) (fun b z => absurd rfl z) (fun z => absurd rfl z) (h _ only ?_)
    exact .inr ⟨_, vs.toArray, _, inK, rfl, rfl, rfl, by rw [List.size_toArray, len]; exact few, by simpa using rv⟩
  | none =>
    let scr : Obj := { cls := .type "list", data := .seq vs.toArray }
    let H : Hp := fun b => if b = a then some (.frz scr (.lst (ns.map V.int))) else none
    have Ha : H a = some (.frz scr (.lst (ns.map V.int))) := if_pos rfl
    have Hb : ∀ b, b ≠ a → H b = none := fun b z => if_neg z
    have only : Only H := fun b => by
      by_cases z : b = a
      · exact .inr ⟨scr, _, by rw [z]; exact Ha⟩
      · exact .inl (Hb b z)
    refine told_at KX n1 n2 bb lim gs oa hr F bind H only (fun b u z => ?_) (fun b z => ?_) (fun _ => inK) (h H only (.inl (.inr ⟨scr, Ha⟩)))
    · by_cases y : b = a
      · subst y
        rw [Ha] at z
        cases z
        exact ⟨oa, by rw [List.length_map]; exact few, vs, _, rv, oa⟩
      · rw [Hb b y] at z
        cases z
    · by_cases y : b = a
      · exact y
      · exact absurd (Hb b y) z
end
theorem walk_told {l : PySem.W.OpenLaw} {n k : Nat} {q : Program} {loose : List Str} {XP : (Str → Option Value) → Heap → Prop} {YP : World → Heap → Prop} {d : DefRec} {K : Params → PySem.W.Frag} {sp : World → Sp} {x : Str} (most : l.most = some n) (few : n ≤ sizeLine) (nod : d.params.defaults = []) (hr : Room k callerA)
    (KI : ∀ (w : World) (h : Heap), YP w h → (K w.params).In h)
    (F : ∀ (w : World) (mg : Str → Option Value) (fa : Addr) (h : Heap), (K w.params).In h → h.Ns mainGlobals mg → mg d.name = some (.ref fa) → ∃ fd : FuncData, (∀ (s : Shared) (u : Value), BindsTo s fd ⟨[u], []⟩ [(x, u)]) ∧ ∀ base : Heap, (K w.params).In base → base.Ns mainGlobals mg → FnG l.prog w (K w.params) mg base k fa fd [x] (sp w))
    (holds : ∀ (w : World) (H : Hp) (a : Addr) (ns : List Int), ns.length ≤ n → SqL (K w.params) H a (ns.map V.int) → sp w [.ref a] H (fun v _ => v = .bl true) E0) : PySem.W.WalkO q loose XP YP l.row.toRowW d [] (fun f vs => PySem.call f vs) := Att.attach_call most nod fun w s₀ s₁ mg mb fa o pm cd doc a vs ns G Y ho hd hcd hmg hobj hints hlen hg => by
  obtain ⟨fd, bind, F1⟩ := F w mg fa _ (KI w _ Y) G.T.g hmg
  exact law_told (KI w _ Y) G.T.g G.T.b G.T.builtins G.T.nolimit hg hobj hints (Nat.le_trans hlen few) hr F1 bind fun H _ hS => holds w H a ns hlen hS
end EndG
/-! ### a tuple from behind: t[::-1] -/
namespace RvT
section
variable {prog : Program} {w : World} {A : Around} {E : Value → Shared → Prop} {s : Shared}
theorem from_end (n : Nat) : Builtin.Slice.sliceAdjust none none (-1) (n : Int) = ((n : Int) - 1, -1) := by
  unfold Builtin.Slice.sliceAdjust
  simp
theorem as_many (n : Nat) : Builtin.Slice.slicePlaces ((n : Int) - 1) (-1) (-1) = n := by
  unfold Builtin.Slice.slicePlaces
  simp
  omega
theorem applied_back {sl : Addr} {vk : Value} {n : Nat} {Q : Int × Int × Nat → Shared → Prop} (hs : s.heap.IsSliceOf sl .none .none vk) (pk : IsPart vk (some (-1))) (h : Q ((n : Int) - 1, -1, n) s) :
    wpAny (model prog w) A (Builtin.Slice.sliceApplied (.ref sl) (pure (n : Int))) Q E s := by
  obtain ⟨os, o1, _, o2⟩ := id hs
  unfold Builtin.Slice.sliceApplied Builtin.Slice.sliceFields
  refine wpAny_bind (wpAny_bind (wpAny_field o1 o2 (x := .none) rfl (wpAny_bind (wpAny_field o1 o2 (x := .none) rfl (wpAny_bind (wpAny_field o1 o2 (x := vk) rfl (wpAny_pure ?_)))))))
  refine wpAny_bind (HT.slicePart_ pk ?_)
  show wpAny _ _ (if ((-1 : Int) == 0) = true then _ else _) _ _ s
  rw [if_neg (by decide)]
  refine wpAny_bind (slicePart_none (wpAny_bind (slicePart_none (wpAny_bind (wpAny_pure ?_)))))
  show wpAny _ _ (match Builtin.Slice.sliceAdjust none none (-1) (n : Int) with | (a, b) => pure (a, (-1 : Int), Builtin.Slice.slicePlaces a b (-1))) _ _ s
  rw [from_end n]
  show wpAny _ _ (pure ((n : Int) - 1, (-1 : Int), Builtin.Slice.slicePlaces ((n : Int) - 1) (-1) (-1))) _ _ s
  rw [as_many]
  exact wpAny_pure h
theorem picked (xs : Array Value) : ((List.range xs.size).filterMap fun (m : Nat) => xs[(((xs.size : Int) - 1) + (m : Int) * (-1)).toNat]?).toArray = xs.toList.reverse.toArray := by
  have e : (List.range xs.size).filterMap (fun (m : Nat) => xs[(((xs.size : Int) - 1) + (m : Int) * (-1)).toNat]?) = ((List.range xs.size).map fun m => xs.size - 1 - m).filterMap (xs[·]?) := by
    rw [List.filterMap_map]
    have all : ∀ l : List Nat, (∀ m ∈ l, m < xs.size) → l.filterMap (fun (m : Nat) => xs[(((xs.size : Int) - 1) + (m : Int) * (-1)).toNat]?) = l.filterMap ((xs[·]?) ∘ fun m => xs.size - 1 - m) := by
      intro l
      induction l with
      | nil => exact fun _ => rfl
      | cons m l ih =>
        intro hl
        have lt := hl m List.mem_cons_self
        have z : (((xs.size : Int) - 1) + (m : Int) * (-1)).toNat = xs.size - 1 - m := by omega
        rw [List.filterMap_cons, List.filterMap_cons, z, ih fun m' h' => hl m' (List.mem_cons_of_mem _ h')]
        rfl
    exact all _ fun m hm => List.mem_range.mp hm
  rw [e, PySem.W.krv_range, List.filterMap_reverse, PySem.W.krv_all]
theorem item_back {t sl : Addr} {items : Array Value} {vk : Value} {Q : Value → Shared → Prop} (ht : IsTup s.heap t items) (hs : s.heap.IsSliceOf sl .none .none vk) (pk : IsPart vk (some (-1))) (hz : items.size ≤ sizeLine)
    (h : Q (.ref s.heap.objs.size) { s with heap := s.heap.push { cls := .type "tuple", data := .seq items.toList.reverse.toArray } }) : wpAny (model prog w) A (getItem (.ref t) (.ref sl)) Q E s := by
  have room : sizeOk (.seq items.toList.reverse.toArray) := by
    show items.toList.reverse.toArray.size ≤ sizeLine
    rw [List.size_toArray, List.length_reverse, Array.length_toList]
    exact hz
  obtain ⟨os, o1, o2, _⟩ := id hs
  have isSl : s.TypeIs (.ref sl) "slice" := ⟨os, o1, o2⟩
  unfold getItem
  try with_reducible refine wpAny_holding ?_
  first | refine wpAny_bind (wpAny_pure ?_) | skip
  refine wpAny_bind (wpAny_sequenceKey ht.typeIs (by decide) ?_)
  refine wpAny_bind (wpAny_callSpecial?_slot (name := Str.ofString "__getitem__") ht.typeIs slot_tuple_getitem (wpAny_call_entry slot_tuple_getitem ht.typeIs entry_tuple_getitem ?_ (args_tuple_getitem _ _)))
  show wpAny _ _ (Builtin.Tuple.tupleItemsOf (.ref t) >>= _) _ _ s
  refine wpAny_bind (tupleItemsOf_ ht (wpAny_bind (wpAny_typeOf isSl ?_)))
  rw [if_pos (by decide)]
  refine wpAny_bind (applied_back hs pk ?_)
  show wpAny _ _ (if (((items.size : Int) - 1) == 0 && (-1 : Int) == 1 && items.size == items.size) = true then _ else _) _ _ s
  rw [if_neg (by simp), picked]
  first
    | exact wpAny_bind (m := Builtin.Tuple.tupleExact _) (wpAny_newObj_type (wpAny_pure ⟨_, rfl, wpAny_pure h⟩) room)
    | exact wpAny_bind (m := Builtin.Tuple.tupleExact _) (wpAny_newObj_type (wpAny_bind (wpAny_pure (wpAny_pure ⟨_, rfl, wpAny_pure h⟩))) room)
    | exact wpAny_bind (wpAny_bind (m := Builtin.Tuple.tupleExact _) (wpAny_newObj_type (wpAny_pure (wpAny_pure ⟨_, rfl, wpAny_pure h⟩)) room))
    | exact wpAny_bind (wpAny_bind (m := Builtin.Tuple.tupleExact _) (wpAny_newObj_type (wpAny_pure ⟨_, rfl, wpAny_pure h⟩) room))
end
end RvT
section
variable {X : Cx}
def tRevT (K : PySem.W.Frag) (te : TE) : TE := fun σ H Q => te σ H fun x H1 => ∃ a xs, x = .ref a ∧ SqT K H1 a xs ∧ ∀ p, H1 p = none → Q (.ref p) (upd H1 p (.tup xs.reverse))
theorem pe_revT {e : Expr} {te : TE} {k : Nat} {p1 p2 p3 pos : Pos} (he : PE X e te) : PE X (.Subscript e (.Slice none none (some (.UnaryOp .USub (.Constant (.int 1) k p1) p2)) p3) pos) (tRevT X.K te) := ⟨fun pins s σ H Q I h => by
  refine Subscript_ (thn (he.run pins s σ H _ I h) fun v s1 ⟨x, H1, I1, r1, q1⟩ => ?_)
  obtain ⟨a, xs, ex, hx, q⟩ := q1
  subst ex
  cases r1
  have none_at : ∀ (sA : Shared) (HA : Hp), Inv X pins σ HA sA → tNoPart σ HA (fun o HB => o = none ∧ HB = HA) := fun _ _ _ => ⟨rfl, rfl⟩
  have back : PO X (some (.UnaryOp .USub (.Constant (.int 1) k p1) p2)) (tPart (tUn (rU fun i => .int (-i)) (tC (.int 1)))) := po_some (pe_un un_neg pe_int)
  refine wpAny_Slice (thn (po_none.run pins s1 σ H1 _ I1 (none_at _ _ I1)) fun vl s2 ⟨l, H2, I2, pl, e1⟩ => ?_)
  obtain ⟨el, e2⟩ := e1
  subst el e2
  refine thn (po_none.run pins s2 σ H2 _ I2 (none_at _ _ I2)) fun vu s3 ⟨u, H3, I3, pu, e3⟩ => ?_
  obtain ⟨eu, e4⟩ := e3
  subst eu e4
  refine thn (back.run pins s3 σ H3 (fun o H4 => o = some (-1) ∧ H4 = H3) I3 ⟨1, rfl, -1, rfl, rfl, rfl⟩) fun vk s4 ⟨o, H4, I4, pk, e5⟩ => ?_
  obtain ⟨eo, e6⟩ := e5
  subst eo e6
  cases pl
  cases pu
  have I5 : Inv X pins σ H4 { s4 with heap := s4.heap.push { cls := .type "slice", data := .fields #[Value.none, .none, vk] } } := I4.kept (t' := s4.toks) fun b ob z => Heap.get?_push_of_some _ z
  obtain ⟨its, r, ht, hz⟩ := I5.tuple hx
  have len : its.toArray.size = xs.length := by rw [List.size_toArray]; exact r.length.symm
  show wpAny (model X.prog X.w) X.A (subscriptTail e (.Slice none none (some (.UnaryOp .USub (.Constant (.int 1) k p1) p2)) p3) (.ref a) (.ref s4.heap.objs.size)) (EP X pins σ Q) X.xe { s4 with heap := s4.heap.push { cls := .type "slice", data := .fields #[Value.none, .none, vk] } }
  refine tail_any (ops := [.ref a, .ref s4.heap.objs.size]) ht.typeIs slot_tuple_getitem.lookup ?_ (by with_unfolding_all rfl)
  refine RvT.item_back ht (Heap.IsSliceOf.new _ .none .none vk) pk (by rw [len]; exact hz) ?_
  refine ⟨.ref _, _, I5.laid (t' := s4.toks) (o := .tup xs.reverse) (fun b ob z => Heap.get?_push_of_some _ z) (Nat.le_refl _) ?_, rfl, q _ (I5.hok.fresh (Nat.le_refl _))⟩
  exact ⟨by rw [List.length_reverse]; exact hz, _, r.reverse, IsTup.new _ _⟩⟩
end
/-! ### BadLabel -/
abbrev sBL : Stmt := inClass (topS 3) 0
abbrev sBadPart : Stmt := inClass (topS 5) 0
theorem scBadPart : FnScope ["self", "part"] ["self", "part"] (defScope sBadPart) := ⟨rfl, rfl, rfl, by decide +kernel, rfl, by decide +kernel, by decide +kernel⟩
abbrev sBadTerm : Stmt := inClass (topS 6) 0
theorem scBadTerm : FnScope ["self", "term"] ["self", "term"] (defScope sBadTerm) := ⟨rfl, rfl, rfl, by decide +kernel, rfl, by decide +kernel, by decide +kernel⟩
abbrev sLab : Stmt := inClass (topS 35) 0
theorem scBL : FnScope ["self", "label"] ["self", "label"] (defScope sBL) := ⟨rfl, rfl, rfl, by decide +kernel, rfl, by decide +kernel, by decide +kernel⟩
theorem scLab : FnScope ["self", "name"] ["self", "name"] (defScope sLab) := ⟨rfl, rfl, rfl, by decide +kernel, rfl, by decide +kernel, by decide +kernel⟩
/-- an error of the class C that keeps its argument under the name f: what its __init__ leaves -/
def spErr (C : Addr) (f : Str) : Sp := fun vs H Q _ => ∃ a v, vs = [.ref a, v] ∧ H a = some (exo a C none) ∧ ∀ d, H d = none → d ≠ a → Q .non (upd (upd H d (exd d [(f, v)])) a (exo a C (some d)))
/-- what is written of an error's class -/
structure ErrT (K : PySem.W.Frag) (mg : Str → Option Value) (x : Str) (f : Str) (C fI : Addr) : Prop where
  oex : OexC K C
  nof : PySem.W.findIn K (.ref C) f = some none
  ini : PySem.W.findIn K (.ref C) "__init__" = some (some (.ref fI))
  typ : PySem.W.typeIn K (.ref fI) = some (.type "function")
  nam : mg x = some (.ref C)
/-- what comes of raise C(v): its dict, new, holds v -/
def Left (H : Hp) (d : Addr) (f : Str) (v : V) (H' : Hp) : Prop := H d = none ∧ Same H H' ∧ H' d = some (.xd [(f, v)])
theorem mk_left {H : Hp} {C : Addr} {f : Str} {v : V} {Q : XK} (h : ∀ d H', Left H d f v H' → Q (.ref C) (some d) H') : ∀ a, H a = none → spErr C f [.ref a, v] (upd H a (exo a C none))
    (fun w H2 => w = .non ∧ ∃ (d : Addr) (fs : List (Str × V)), H2 a = some (exo a C (some d)) ∧ H2 d = some (exd d fs) ∧ H d = none ∧ Q (.ref C) (some d) (upd (L2.del H2 a) d (.xd fs))) (fun _ _ _ => False) := fun a na => by
  refine ⟨a, v, rfl, upd_same, fun d nd hda => ?_⟩
  have nd0 : H d = none := by rw [upd_ne hda] at nd; exact nd
  refine ⟨rfl, d, _, upd_same, by rw [upd_ne hda]; exact upd_same, nd0, h d _ ⟨nd0, fun b o e => ?_, upd_same⟩⟩
  have b1 : b ≠ d := ne_of_none e nd0
  have b2 : b ≠ a := ne_of_none e na
  rw [upd_ne b1, L2.del_ne b2, upd_ne b2, upd_ne b1, upd_ne b2]
  exact e
/-! ### labels -/
def labRow : List Str := ["always", "session", "statement", "changing"]
/-- no name of a label -/
def noLab : PyData → Bool
  | .str z => decide (z ∉ labRow)
  | _ => true
/-- what is written of the class Label -/
structure LabC (K : PySem.W.Frag) (mg : Str → Option Value) (C : Addr) : Prop where
  cl : Cls K C
  nh : NoAttr K C "_height"
  nn : NoAttr K C "name"
  me : PySem.W.kitOne K (.ref C) (.ref C) = some true
  ot : PySem.W.kitOne K (.type "str") (.ref C) = some false
  gC : mg "Label" = some (.ref C)
  ca : PySem.W.findIn K (.ref C) "__class__" = some (some (.builtin "object.__class__"))
  cg : PySem.W.specialIn K (.builtin "object.__class__") "__get__" = some (some (.builtin "getset_descriptor.__get__"))
  ct : PySem.W.takesIn K (.builtin "object.__class__") = some true
  cm : PySem.W.mroIn K C (.type "object") = some true
  ne : PySem.W.findIn K (.ref C) "__ne__" = some (some (.builtin "object.__ne__"))
  so : PySem.W.subIn K (.ref C) (.type "object") = some true
  nf : PySem.W.notFirst K C (.type "str") = true
/-- the table of the names -/
def RowT (K : PySem.W.Frag) (mg : Str → Option Value) : Prop := ∃ a o, mg "LABELS" = some (.ref a) ∧ K.lookup a = some o ∧ o.cls = .type "tuple" ∧ o.dict = none ∧ ∀ H : Hp, SqT K H a (labRow.map V.str)
/-- the label number i of the row, at a -/
def LabAt (H : Hp) (C a : Addr) (i : Nat) : Prop := ∃ dx fs z, H a = some (.ins C dx fs) ∧ labRow[i]? = some z ∧ fs.lookup ("_height" : Str) = some (V.int (4 - (i : Int))) ∧ fs.lookup ("name" : Str) = some (V.str z) ∧
  fs.lookup ("is_steady" : Str) = none ∧ fs.lookup ("higher" : Str) = none
theorem LabAt.ext {H H' : Hp} {C a : Addr} {i : Nat} (h : LabAt H C a i) (s : Ext H H') : LabAt H' C a i := by
  obtain ⟨dx, fs, z, e, r⟩ := h
  exact ⟨dx, fs, z, s _ _ e, r⟩
theorem LabAt.but {H H' : Hp} {C a D : Addr} {i : Nat} {zs : List V} (h : LabAt H C a i) (e : H D = some (.lst zs)) (b : But D H H') : LabAt H' C a i := by
  obtain ⟨dx, fs, z, ea, r⟩ := h
  exact ⟨dx, fs, z, b _ _ ea (fun q => by rw [q, e] at ea; cases ea), r⟩
theorem LabAt.lt {H : Hp} {C a : Addr} {i : Nat} (h : LabAt H C a i) : i < 4 := by
  obtain ⟨dx, fs, z, e, r, _⟩ := h
  exact List.getElem?_eq_some_iff.mp r |>.1
theorem LabAt.at {H : Hp} {C a : Addr} {i j : Nat} (h : LabAt H C a i) (e : j = i) : LabAt H C a j := e ▸ h
abbrev spOut (H : Hp) (v : V) (CB : Addr) (E : XK) : Prop := ∀ dd H', Left H dd "label" v H' → E (.ref CB) (some dd) H'
theorem upd_twice {H : Hp} {a : Addr} {x y : HO} : upd (upd H a x) a y = upd H a y := by
  funext b
  by_cases h : b = a
  · subst h
    rw [upd_same, upd_same]
  · rw [upd_ne h, upd_ne h, upd_ne h]
def spLab (K : PySem.W.Frag) (C CB : Addr) : Sp := fun vs H Q E => ∃ a dx v d, vs = [.ref a, v] ∧ H a = some (.ins C dx []) ∧ Dp K H v d ∧
  ((∃ (i : Nat) (z : Str), labRow[i]? = some z ∧ v = .str z ∧ ∀ fs, fs.lookup ("_height" : Str) = some (V.int (4 - (i : Int))) → fs.lookup ("name" : Str) = some (V.str z) → fs.lookup ("is_steady" : Str) = none → fs.lookup ("higher" : Str) = none → Q .non (upd H a (.ins C dx fs))) ∨
   (noLab d = true ∧ ∀ dd H', Left H dd "label" v H' → E (.ref CB) (some dd) H'))
def spLabEq (K : PySem.W.Frag) (C : Addr) : Sp := fun vs H Q _ => ∃ (a : Addr) (i : Nat) (y : V), vs = [.ref a, y] ∧ LabAt H C a i ∧ ((∃ b j, y = .ref b ∧ LabAt H C b j ∧ Q (.bl (decide (i = j))) H) ∨ ∃ z, y = .str z ∧ Q (.bl false) H)
def spLabLt (C : Addr) : Sp := fun vs H Q _ => ∃ (a b : Addr) (i j : Nat), vs = [.ref a, .ref b] ∧ LabAt H C a i ∧ LabAt H C b j ∧ Q (.bl (decide (j < i))) H
def spLabLe (C : Addr) : Sp := fun vs H Q _ => ∃ (a b : Addr) (i j : Nat), vs = [.ref a, .ref b] ∧ LabAt H C a i ∧ LabAt H C b j ∧ Q (.bl (decide (j ≤ i))) H
def spSteady (C : Addr) : Sp := fun vs H Q _ => ∃ (a : Addr) (i : Nat), vs = [.ref a] ∧ LabAt H C a i ∧ Q (.bl (decide (i ≠ 3))) H
abbrev sLabEq : Stmt := inClass (topS 35) 1
abbrev sLabLt : Stmt := inClass (topS 35) 2
abbrev sLabLe : Stmt := inClass (topS 35) 3
abbrev sSteady : Stmt := inClass (topS 35) 4
theorem scLabEq : FnScope ["self", "other"] ["self", "other"] (defScope sLabEq) := ⟨rfl, rfl, rfl, by decide +kernel, rfl, by decide +kernel, by decide +kernel⟩
theorem scLabLt : FnScope ["self", "other"] ["self", "other"] (defScope sLabLt) := ⟨rfl, rfl, rfl, by decide +kernel, rfl, by decide +kernel, by decide +kernel⟩
theorem scLabLe : FnScope ["self", "other"] ["self", "other"] (defScope sLabLe) := ⟨rfl, rfl, rfl, by decide +kernel, rfl, by decide +kernel, by decide +kernel⟩
theorem scSteady : FnScope ["self"] ["self"] (defScope sSteady) := ⟨rfl, rfl, rfl, by decide +kernel, rfl, by decide +kernel, by decide +kernel⟩
theorem row_str {i : Nat} {z : Str} (h : labRow[i]? = some z) : (i = 0 ∧ z = "always") ∨ (i = 1 ∧ z = "session") ∨ (i = 2 ∧ z = "statement") ∨ (i = 3 ∧ z = "changing") := by
  rcases i with _ | _ | _ | _ | i
  · exact .inl ⟨rfl, (Option.some.inj h).symm⟩
  · exact .inr (.inl ⟨rfl, (Option.some.inj h).symm⟩)
  · exact .inr (.inr (.inl ⟨rfl, (Option.some.inj h).symm⟩))
  · exact .inr (.inr (.inr ⟨rfl, (Option.some.inj h).symm⟩))
  · simp [labRow] at h
theorem inV_row (z : Str) : inV (V.str z) (labRow.map V.str) = decide (z ∈ labRow) := by
  rw [Bool.eq_iff_iff]
  unfold inV
  rw [List.any_eq_true, decide_eq_true_eq]
  constructor
  · rintro ⟨y, hy, e⟩
    obtain ⟨w, hw, rfl⟩ := List.mem_map.mp hy
    have e2 : w = z := by
      have e' : (w == z) = true := e
      exact beq_iff_eq.mp e'
    exact e2 ▸ hw
  · intro h
    exact ⟨V.str z, List.mem_map.mpr ⟨z, h, rfl⟩, (beq_self_eq_true z : (z == z) = true)⟩
section
variable {P : Program} {w : World} {K : PySem.W.Frag} {mg : Str → Option Value} {base : Heap}
theorem ok_badL {C f B : Addr} {fd : FuncData} (F : Fun K "__init__" "BadLabel.__init__" sBL f fd) (TB : OwnBase K mg "StoreError" B) (oex : OexC K C) (nof : PySem.W.findIn K (.ref C) "label" = some none) :
    FnOk P w K mg base CX0 1 f fd ["self", "label"] (spErr C "label") := by
  refine F.ok scBL (fun vs H Q E h => ?_) (fun cdv A outer s H vs Q E hr h => ?_)
  · obtain ⟨a, v, rfl, _⟩ := h
    rfl
  · obtain ⟨a, v, rfl, e, q⟩ := h
    refine ⟨_, pss_cons (ps_expr (pe_baseI (by rfl) TB (pa_cons (pv 0) (pa_cons pe_str pa_nil)))) (pss_one (ps_ost (pv 0) (pv 1))), ?_⟩
    refine ⟨.ref a, rfl, a, C, _, rfl, by show (1 : Nat) ≤ 1000; decide, oex, e, ?_⟩
    exact ⟨v, rfl, .ref a, rfl, a, C, rfl, oex, nof, .inl ⟨e, fun d nd ne => q d nd ne⟩⟩
theorem ok_badPart {C f B : Addr} {fd : FuncData} (F : Fun K "__init__" "BadPart.__init__" sBadPart f fd) (TB : OwnBase K mg "StoreError" B) (oex : OexC K C) (nof : PySem.W.findIn K (.ref C) "part" = some none) :
    FnOk P w K mg base CX0 1 f fd ["self", "part"] (spErr C "part") := by
  refine F.ok scBadPart (fun vs H Q E h => ?_) (fun cdv A outer s H vs Q E hr h => ?_)
  · obtain ⟨a, v, rfl, _⟩ := h
    rfl
  · obtain ⟨a, v, rfl, e, q⟩ := h
    refine ⟨_, pss_cons (ps_expr (pe_baseI (by rfl) TB (pa_cons (pv 0) (pa_cons pe_str pa_nil)))) (pss_one (ps_ost (pv 0) (pv 1))), ?_⟩
    refine ⟨.ref a, rfl, a, C, _, rfl, by show (1 : Nat) ≤ 1000; decide, oex, e, ?_⟩
    exact ⟨v, rfl, .ref a, rfl, a, C, rfl, oex, nof, .inl ⟨e, fun d nd ne => q d nd ne⟩⟩
theorem ok_badTerm {C f B : Addr} {fd : FuncData} (F : Fun K "__init__" "BadTerm.__init__" sBadTerm f fd) (TB : OwnBase K mg "StoreError" B) (oex : OexC K C) (nof : PySem.W.findIn K (.ref C) "term" = some none) :
    FnOk P w K mg base CX0 1 f fd ["self", "term"] (spErr C "term") := by
  refine F.ok scBadTerm (fun vs H Q E h => ?_) (fun cdv A outer s H vs Q E hr h => ?_)
  · obtain ⟨a, v, rfl, _⟩ := h
    rfl
  · obtain ⟨a, v, rfl, e, q⟩ := h
    refine ⟨_, pss_cons (ps_expr (pe_baseI (by rfl) TB (pa_cons (pv 0) (pa_cons pe_str pa_nil)))) (pss_one (ps_ost (pv 0) (pv 1))), ?_⟩
    refine ⟨.ref a, rfl, a, C, _, rfl, by show (1 : Nat) ≤ 1000; decide, oex, e, ?_⟩
    exact ⟨v, rfl, .ref a, rfl, a, C, rfl, oex, nof, .inl ⟨e, fun d nd ne => q d nd ne⟩⟩
theorem ok_lab {C CB f fB : Addr} {fd fdB : FuncData} (F : Fun K "__init__" "Label.__init__" sLab f fd) (M : Blt mg) (T : LabC K mg C) (R : RowT K mg) (TE : ErrT K mg "BadLabel" "label" CB fB)
    (GB : FnOk P w K mg base CX0 1 fB fdB ["self", "label"] (spErr CB "label")) (bB : Binds K fdB ["self", "label"] []) : FnOk P w K mg base (L2.CX P w) 3 f fd ["self", "name"] (spLab K C CB) := by
  obtain ⟨aR, oR, gR, lR, cR, dR, hR⟩ := R
  refine F.okX scLab (fun vs H Q E h => ?_) (fun cdv A outer s H vs Q E hr h => ?_)
  · obtain ⟨a, dx, v, d, rfl, _⟩ := h
    rfl
  · obtain ⟨a, dx, v, d, rfl, ea, hv, h⟩ := h
    have gl : ∀ {X : Cx}, X.mg = mg → X.mg "LABELS" = some (.ref aR) := fun e => e ▸ gR
    refine ⟨_, pss_cons (ps_if (PW.pt (pw_or (pt_not (pt_val (pe_callB call_isi (by rfl) M.isinstance (by decide +kernel) (pa_cons (pv 1) (pa_cons (pe_bltn (v := .ty "str") (by rfl) M.str (by decide +kernel) rfl) pa_nil)))))
        (pw_or1 (pt_cmpR op_notIn_seq (pv 1) (pe_glob (v := .ref aR) (by rfl) gR rfl) (by rfl))))) (pss_one (ps_raise rfl (takes_of rfl rfl rfl rfl) (pmk_oex (k := 1) (ps := ["self", "label"]) (sp := spErr CB "label") (ds := []) (dvs := []) TE.oex TE.ini TE.typ GB hr bB .nil pass0 (by rfl) TE.nam (pa_cons (pv 1) pa_nil)))) pss_nil)
      (pss_cons (ps_fld (pv 0) (pv 1) (by rfl))
      (pss_one (ps_fld (pv 0) (pe_op op_sub (pe_callB call_len_seq (by rfl) M.len PySem.boot_len (pa_cons (pe_glob (v := .ref aR) (by rfl) gR rfl) pa_nil))
        (pe_bm PySem.F.plainAttrs_tuple PySem.F.slot_tuple_index PySem.F.type_tuple_index mt_tup_index (pe_glob (v := .ref aR) (by rfl) gR rfl) (pa_cons (pv 1) pa_nil))) (by rfl)))), ?_⟩
    refine ⟨v, rfl, v, .ty "str", _, _, _, rfl, .ty "str", dp_ty hv, kit_str K d, _, rfl, ?_⟩
    rcases h with ⟨i, z, hi, rfl, q⟩ | ⟨hno, q⟩
    · have hd : d = .str z := by cases hv; rfl
      subst hd
      have hz : z ∈ labRow := List.mem_of_getElem? hi
      have i4 : i < 4 := List.getElem?_eq_some_iff.mp hi |>.1
      refine iteF ⟨V.str z, rfl, aR, _, rfl, .inr (hR H), rfl, by decide, _, rfl, ?_⟩
      have e1 : inV (V.str z) (labRow.map V.str) = true := by rw [inV_row, decide_eq_true hz]
      simp only [e1]
      refine iteF ⟨V.str z, rfl, .ref a, rfl, a, C, dx, [], rfl, ea, T.cl, T.nn, by decide, ?_⟩
      refine ⟨aR, _, rfl, .inr (hR _), .inr (.inl ⟨rfl, oR, lR, cR, dR⟩), V.str z, rfl, ?_⟩
      have at_ : ∀ m, m < i → labRow[m]? ≠ some z := fun m hm => by
        rcases row_str hi with ⟨e, e'⟩ | ⟨e, e'⟩ | ⟨e, e'⟩ | ⟨e, e'⟩ <;> subst e e'
        · omega
        · obtain rfl : m = 0 := by omega
          decide
        · rcases (show m = 0 ∨ m = 1 by omega) with e | e <;> subst e <;> decide
        · rcases (show m = 0 ∨ m = 1 ∨ m = 2 by omega) with e | e | e <;> subst e <;> decide
      refine ⟨aR, labRow, z, i, rfl, rfl, hR _, hi, at_, ?_⟩
      refine ⟨_, _, rfl, rfl, .ref a, rfl, a, C, dx, _, rfl, upd_same, T.cl, T.nh, (by show (1 : Nat) < 1000; decide), ?_⟩
      rw [upd_twice]
      refine q _ ?_ rfl rfl rfl
      have e4 : ((List.map V.str labRow).length : Int) = 4 := by decide
      rw [e4]
      rfl
    · have out : spOut H v CB E := q
      cases hv with
      | str z =>
        have hz : z ∉ labRow := of_decide_eq_true hno
        refine iteF ⟨V.str z, rfl, aR, _, rfl, .inr (hR H), rfl, by decide, _, rfl, ?_⟩
        have e1 : inV (V.str z) (labRow.map V.str) = false := by rw [inV_row, decide_eq_false hz]
        simp only [e1]
        exact iteT ⟨V.str z, rfl, by show (1 : Nat) ≤ 1000; decide, mk_left out⟩
      | non => exact iteT (iteT ⟨_, rfl, by show (1 : Nat) ≤ 1000; decide, mk_left out⟩)
      | bl b => exact iteT (iteT ⟨_, rfl, by show (1 : Nat) ≤ 1000; decide, mk_left out⟩)
      | int b => exact iteT (iteT ⟨_, rfl, by show (1 : Nat) ≤ 1000; decide, mk_left out⟩)
      | lst h1 h2 => exact iteT (iteT ⟨_, rfl, by show (1 : Nat) ≤ 1000; decide, mk_left out⟩)
      | tup h1 h2 => exact iteT (iteT ⟨_, rfl, by show (1 : Nat) ≤ 1000; decide, mk_left out⟩)
theorem ok_labEq {C f : Addr} {fd : FuncData} (F : Fun K "__eq__" "Label.__eq__" sLabEq f fd) (M : Blt mg) (T : LabC K mg C) : FnOk P w K mg base CX0 1 f fd ["self", "other"] (spLabEq K C) := by
  refine F.ok scLabEq (fun vs H Q E h => ?_) (fun cdv A outer s H vs Q E hr h => ?_)
  · obtain ⟨a, i, y, rfl, _⟩ := h
    rfl
  · obtain ⟨a, i, y, rfl, ⟨dx, fs, z, ea, hi, ha, na, _⟩, h⟩ := h
    refine ⟨_, pss_one (ps_ret (pe_and (pe_callB call_isi (by rfl) M.isinstance (by decide +kernel) (pa_cons (pv 1) (pa_cons (pe_glob (v := .ref C) (by rfl) T.gC rfl) pa_nil)))
      (pe_one (pe_cmpR op_eq (pe_fld (pv 0) (by rfl)) (pe_fld (pv 1) (by rfl)) (nomark _))))), ?_⟩
    rcases h with ⟨b, j, rfl, ⟨dy, gs, z2, eb, hj, hb, nb, _⟩, q⟩ | ⟨z2, rfl, q⟩
    · refine ⟨_, rfl, _, _, _, _, _, rfl, .own C, .base (.ins eb T.cl T.ca T.cg T.ct T.cm), T.me, _, rfl, iteT ?_⟩
      refine ⟨_, rfl, a, C, dx, fs, _, rfl, ea, T.cl, T.nh, ha, _, rfl, b, C, dy, gs, _, rfl, eb, T.cl, T.nh, hb, rfl, ?_⟩
      have e : decide (V.int (4 - (i : Int)) = V.int (4 - (j : Int))) = decide (i = j) := by
        by_cases h : i = j
        · subst h
          rw [decide_eq_true rfl, decide_eq_true rfl]
        · rw [decide_eq_false h, decide_eq_false (fun z => h (by have := V.int.inj z; omega))]
      rw [e]
      exact q
    · exact ⟨_, rfl, _, _, _, _, _, rfl, .own C, .base (.str z2), T.ot, _, rfl, iteF q⟩
theorem ok_labLt {C f : Addr} {fd : FuncData} (F : Fun K "__lt__" "Label.__lt__" sLabLt f fd) (M : Blt mg) (T : LabC K mg C) : FnOk P w K mg base CX0 1 f fd ["self", "other"] (spLabLt C) := by
  refine F.ok scLabLt (fun vs H Q E h => ?_) (fun cdv A outer s H vs Q E hr h => ?_)
  · obtain ⟨a, b, i, j, rfl, _⟩ := h
    rfl
  · obtain ⟨a, b, i, j, rfl, ⟨dx, fs, z, ea, hi, ha, na, _⟩, ⟨dy, gs, z2, eb, hj, hb, nb, _⟩, q⟩ := h
    refine ⟨_, pss_cons (ps_if (pt_not (pt_val (pe_callB call_isi (by rfl) M.isinstance (by decide +kernel) (pa_cons (pv 1) (pa_cons (pe_glob (v := .ref C) (by rfl) T.gC rfl) pa_nil))))) (pss_one ps_never) pss_nil)
      (pss_one (ps_ret (pe_cmpR op_lt (pe_fld (pv 0) (by rfl)) (pe_fld (pv 1) (by rfl)) (nomark _)))), ?_⟩
    refine ⟨_, rfl, _, _, _, _, _, rfl, .own C, .base (.ins eb T.cl T.ca T.cg T.ct T.cm), T.me, _, rfl, iteF ?_⟩
    refine ⟨_, rfl, a, C, dx, fs, _, rfl, ea, T.cl, T.nh, ha, _, rfl, b, C, dy, gs, _, rfl, eb, T.cl, T.nh, hb, _, _, rfl, rfl, ?_⟩
    have e : decide ((4 - (i : Int)) < 4 - (j : Int)) = decide (j < i) := by
      by_cases h : j < i
      · rw [decide_eq_true h, decide_eq_true (by omega)]
      · rw [decide_eq_false h, decide_eq_false (by omega)]
    rw [← e] at q
    exact q
theorem ok_labLe {C f : Addr} {fd : FuncData} (F : Fun K "__le__" "Label.__le__" sLabLe f fd) (M : Blt mg) (T : LabC K mg C) : FnOk P w K mg base CX0 1 f fd ["self", "other"] (spLabLe C) := by
  refine F.ok scLabLe (fun vs H Q E h => ?_) (fun cdv A outer s H vs Q E hr h => ?_)
  · obtain ⟨a, b, i, j, rfl, _⟩ := h
    rfl
  · obtain ⟨a, b, i, j, rfl, ⟨dx, fs, z, ea, hi, ha, na, _⟩, ⟨dy, gs, z2, eb, hj, hb, nb, _⟩, q⟩ := h
    refine ⟨_, pss_cons (ps_if (pt_not (pt_val (pe_callB call_isi (by rfl) M.isinstance (by decide +kernel) (pa_cons (pv 1) (pa_cons (pe_glob (v := .ref C) (by rfl) T.gC rfl) pa_nil))))) (pss_one ps_never) pss_nil)
      (pss_one (ps_ret (pe_cmpR op_le (pe_fld (pv 0) (by rfl)) (pe_fld (pv 1) (by rfl)) (nomark _)))), ?_⟩
    refine ⟨_, rfl, _, _, _, _, _, rfl, .own C, .base (.ins eb T.cl T.ca T.cg T.ct T.cm), T.me, _, rfl, iteF ?_⟩
    refine ⟨_, rfl, a, C, dx, fs, _, rfl, ea, T.cl, T.nh, ha, _, rfl, b, C, dy, gs, _, rfl, eb, T.cl, T.nh, hb, _, _, rfl, rfl, ?_⟩
    have e : decide ((4 - (i : Int)) ≤ 4 - (j : Int)) = decide (j ≤ i) := by
      by_cases h : j ≤ i
      · rw [decide_eq_true h, decide_eq_true (by omega)]
      · rw [decide_eq_false h, decide_eq_false (by omega)]
    rw [← e] at q
    exact q
/-- Label(name), the name number i, in a def that lets nothing out: a new label -/
theorem lab_made {H H1 : Hp} {C CB : Addr} {E : XK} {Q : VK} {i : Nat} {z : Str} (hi : labRow[i]? = some z) (s0 : Same H H1) (h : ∀ x H', H1 x = none → Same H H' → Same H1 H' → LabAt H' C x i → Q (.ref x) H') :
    ∀ x dx, H1 x = none → H1 dx = none → dx ≠ x → spLab K C CB [.ref x, .str z] (upd (upd H1 dx (.own x)) x (.ins C dx [])) (fun v H2 => v = .non ∧ Q (.ref x) H2) E := fun x dx nx nd ne => by
  refine ⟨x, dx, _, _, rfl, upd_same, .str z, .inl ⟨i, z, hi, rfl, fun fs f1 f2 f3 f4 => ⟨rfl, ?_⟩⟩⟩
  have s1 : Same H1 (upd (upd (upd H1 dx (.own x)) x (.ins C dx [])) x (.ins C dx fs)) := fun b o e => by
    rw [upd_ne (ne_of_none e nx), upd_ne (ne_of_none e nx), upd_ne (ne_of_none e nd)]
    exact e
  exact h x _ nx (s0.trans s1) s1 ⟨dx, fs, z, upd_same, hi, f1, f2, f3, f4⟩
/-- what is at hand of the class Label, its __init__ with its promise -/
structure LabM (P : Program) (w : World) (K : PySem.W.Frag) (mg : Str → Option Value) (base : Heap) (C CB f : Addr) (fd : FuncData) : Prop where
  make : Mk K C f
  ok : FnOk P w K mg base (L2.CX P w) 3 f fd ["self", "name"] (spLab K C CB)
  bi : Binds K fd ["self", "name"] []
  gC : mg "Label" = some (.ref C)
/-- the labels above the one number i, from the next one up: a new list -/
def Higher (H : Hp) (C : Addr) (i : Nat) (ys : List V) : Prop := ys.length = i ∧ ∀ k v, ys[k]? = some v → ∃ a, v = .ref a ∧ LabAt H C a (i - 1 - k)
def spHigh (K : PySem.W.Frag) (C : Addr) : Sp := fun vs H Q _ => ∃ (a : Addr) (i : Nat), vs = [.ref a] ∧ LabAt H C a i ∧ ∀ l ys H', Same H H' → H' l = some (.lst ys) → Higher H' C i ys → Q (.ref l) H'
theorem take_rev {i k : Nat} (hi : i ≤ 4) (hk : k < i) : ((labRow.map V.str).take i).reverse[k]? = (labRow[i - 1 - k]?).map V.str := by
  have len : (labRow.map V.str).length = 4 := rfl
  rw [List.getElem?_reverse (by rw [List.length_take, len]; omega), List.length_take, len, List.getElem?_take_of_lt (by omega), List.getElem?_map]
  congr 2
  omega
theorem cut_to (i : Nat) (hi : i < 4) : cutV (labRow.map V.str) none (some (i : Int)) = (labRow.map V.str).take i := by
  rcases (show i = 0 ∨ i = 1 ∨ i = 2 ∨ i = 3 by omega) with e | e | e | e <;> subst e <;> rfl
end
/-! ### to_label -/
abbrev sToLab : Stmt := topS 36
theorem scToLab : FnScope ["value"] ["value"] (defScope sToLab) := ⟨rfl, rfl, rfl, by decide +kernel, rfl, by decide +kernel, by decide +kernel⟩
/-- no datum is of the class C -/
def NoKit (K : PySem.W.Frag) (C : Addr) : Prop := ∀ d : PyData, PySem.W.kitOne K (.type (kind d)) (.ref C) = some false
def spToLab (K : PySem.W.Frag) (C CB : Addr) : Sp := fun vs H Q E => ∃ v, vs = [v] ∧
  ((∃ a i, v = .ref a ∧ LabAt H C a i ∧ ∀ H', Same H H' → Q v H') ∨
   (∃ i z, labRow[i]? = some z ∧ v = .str z ∧ ∀ x H', Same H H' → LabAt H' C x i → Q (.ref x) H') ∨
   (∃ d, Dp K H v d ∧ noLab d = true ∧ ∀ dd H', Left H dd "label" v H' → E (.ref CB) (some dd) H'))
theorem Left.back {H H1 H' : Hp} {d : Addr} {f : Str} {v : V} (h : Left H1 d f v H') (s : Same H H1) : Left H d f v H' := by
  obtain ⟨n, s2, e⟩ := h
  exact ⟨s.free n, s.trans s2, e⟩
theorem made_same {H : Hp} {x dx C : Addr} (nx : H x = none) (nd : H dx = none) : Same H (upd (upd H dx (.own x)) x (.ins C dx [])) := fun b o e => by
  rw [upd_ne (ne_of_none e nx), upd_ne (ne_of_none e nd)]
  exact e
section
variable {P : Program} {w : World} {K : PySem.W.Frag} {mg : Str → Option Value} {base : Heap}
theorem ok_toLab {C CB f fL : Addr} {fd fdL : FuncData} (F : Fun K "to_label" "to_label" sToLab f fd) (M : Blt mg) (T : LabC K mg C) (N : NoKit K C) (L : LabM P w K mg base C CB fL fdL) : FnOk P w K mg base (L2.CX P w) 5 f fd ["value"] (spToLab K C CB) := by
  refine F.okX scToLab (fun vs H Q E h => ?_) (fun cdv A outer s H vs Q E hr h => ?_)
  · obtain ⟨v, rfl, _⟩ := h
    rfl
  · obtain ⟨v, rfl, h⟩ := h
    refine ⟨_, pss_cons (ps_if (pt_val (pe_callB call_isi (by rfl) M.isinstance (by decide +kernel) (pa_cons (pv 0) (pa_cons (pe_glob (v := .ref C) (by rfl) T.gC rfl) pa_nil)))) (pss_one (ps_ret (pv 0))) pss_nil)
      (pss_one (ps_ret (pe_make (E := E) (dvs := []) L.make L.ok hr (by rfl) L.gC L.bi .nil (passes_call (takes_of rfl rfl rfl rfl) (fun _ _ _ _ h => h)) (pa_cons (pv 0) pa_nil)))), ?_⟩
    rcases h with ⟨a, i, rfl, la, q⟩ | ⟨i, z, hi, rfl, q⟩ | ⟨d, hv, hno, out⟩
    · obtain ⟨dx, fs, z, ea, _⟩ := id la
      exact ⟨_, rfl, _, _, _, _, _, rfl, .own C, .base (.ins ea T.cl T.ca T.cg T.ct T.cm), T.me, _, rfl, iteT ⟨_, rfl, q H (Same.refl H)⟩⟩
    · refine ⟨_, rfl, _, _, _, _, _, rfl, .own C, .base (.str z), T.ot, _, rfl, iteF ?_⟩
      exact ⟨_, rfl, lab_made hi (Same.refl H) fun x H' nx s1 _ lx => q x H' s1 lx⟩
    · refine ⟨_, rfl, _, _, _, _, _, rfl, .own C, dp_ty hv, N d, _, rfl, iteF ?_⟩
      refine ⟨v, rfl, fun x dx nx nd ne => ⟨x, dx, v, d, rfl, upd_same, dp_same (made_same nx nd) hv, .inr ⟨hno, fun dd H' l => out dd H' (l.back (made_same nx nd))⟩⟩⟩
end
/-! ### _are_writes -/
abbrev sAreW : Stmt := topS 55
theorem scAreW : FnScope ["value", "names", "entry"] ["value"] (defScope sAreW) := ⟨rfl, rfl, rfl, by decide +kernel, rfl, by decide +kernel, by decide +kernel⟩
def isSeq : PyData → Bool
  | .list _ => true
  | .tuple _ => true
  | _ => false
theorem kit_seq (K : PySem.W.Frag) (d : PyData) : PySem.W.kitAny K (.type (kind d)) [.type "list", .type "tuple"] = some (isSeq d) := by
  have hl : PySem.W.kitOne K (.type (kind d)) (.type "list") = some (match d with | .list _ => true | _ => false) := by
    cases d with
    | none => exact kit_ty (show kitB "NoneType" "list" = some false by decide +kernel)
    | bool _ => exact kit_ty (show kitB "bool" "list" = some false by decide +kernel)
    | int _ => exact kit_ty (show kitB "int" "list" = some false by decide +kernel)
    | str _ => exact kit_ty (show kitB "str" "list" = some false by decide +kernel)
    | list _ => exact kit_ty (show kitB "list" "list" = some true by decide +kernel)
    | tuple _ => exact kit_ty (show kitB "tuple" "list" = some false by decide +kernel)
    | dict _ => exact kit_ty (show kitB "dict" "list" = some false by decide +kernel)
  have ht := kit_tup K d
  cases d <;> simp [PySem.W.kitAny, hl, ht, isSeq, isTup]
/-- what is asked of one entry -/
def entryOk (seen : List Str) : PyData → Option Str
  | .tuple [.str z, _] => if isName (.str z) && !decide (z ∈ seen) then some z else none
  | _ => none
/-- the writes behind some whose names are seen -/
def writesGo : List Str → List PyData → Bool
  | _, [] => true
  | seen, d :: r => match entryOk seen d with
    | some z => writesGo (seen ++ [z]) r
    | none => false
def areWrites : PyData → Bool
  | .list ds => decide (ds.length ≤ 3) && writesGo [] ds
  | .tuple ds => decide (ds.length ≤ 3) && writesGo [] ds
  | _ => false
theorem inV_strs (z : Str) (seen : List Str) : inV (V.str z) (seen.map V.str) = decide (z ∈ seen) := by
  rw [Bool.eq_iff_iff]
  unfold inV
  rw [List.any_eq_true, decide_eq_true_eq]
  constructor
  · rintro ⟨y, hy, e⟩
    obtain ⟨w, hw, rfl⟩ := List.mem_map.mp hy
    have e' : (w == z) = true := e
    exact (beq_iff_eq.mp e') ▸ hw
  · intro h
    exact ⟨V.str z, List.mem_map.mpr ⟨z, h, rfl⟩, (beq_self_eq_true z : (z == z) = true)⟩
theorem flat_strs (seen : List Str) : (seen.map V.str).all flatV = true := by
  rw [List.all_map]
  exact List.all_eq_true.mpr fun _ _ => rfl
theorem szD_item {ds : List PyData} {i : Nat} {d : PyData} (h : szDs ds = true) (e : ds[i]? = some d) : szD d = true := by
  induction ds generalizing i with
  | nil => simp at e
  | cons c ds ih =>
    have h2 : (szD c && szDs ds) = true := by
      unfold szDs at h
      exact h
    rw [Bool.and_eq_true] at h2
    cases i with
    | zero =>
      cases e
      exact h2.1
    | succ i => exact ih h2.2 e
theorem szD_seqL {ds : List PyData} (h : szD (.list ds) = true) : szDs ds = true := by
  unfold szD at h
  exact (Bool.and_eq_true_iff.mp h).2
theorem szD_seqT {ds : List PyData} (h : szD (.tuple ds) = true) : szDs ds = true := by
  unfold szD at h
  exact (Bool.and_eq_true_iff.mp h).2
theorem iteS {c A B : Prop} [Decidable c] (hc : ¬ c) (h : A) : if (!decide c) = true then A else B := by
  rw [decide_eq_false hc]
  exact iteT h
/-- what is at hand of the module of functions -/
structure FunTxt (K : PySem.W.Frag) (mg : Str → Option Value) : Prop where
  most : ∃ t, mg "MOST_WRITES" = some (.int 3 t)
  cost : ∃ t, mg "GREATEST_COST" = some (.int 99 t)
section
variable {P : Program} {w : World} {K : PySem.W.Frag} {mg : Str → Option Value} {base : Heap}
theorem ok_areW {f fN : Addr} {fd dN : FuncData} (F : Fun K "_are_writes" "_are_writes" sAreW f fd) (M : Blt mg) (T : FunTxt K mg) (GN : FnOk P w K mg base CX0 1 fN dN ["value"] (spB K isName)) (kN : PySem.W.keepIn K (.ref fN) = true) (bN : Binds K dN ["value"] []) (gN : mg "is_name" = some (.ref fN)) :
    FnOk P w K mg base CX0 2 f fd ["value"] (spB K areWrites) := by
  obtain ⟨tm, gm⟩ := T.most
  refine F.ok scAreW (fun vs H Q E h => ?_) (fun cdv A outer s H vs Q E hr h => ?_)
  · obtain ⟨v, d, rfl, _⟩ := h
    rfl
  · obtain ⟨v, d, rfl, hv, hsz, q⟩ := h
    have no : ∀ e : isSeq d = false, areWrites d = false := fun e => by cases d <;> first | rfl | exact Bool.noConfusion e
    by_cases hq : isSeq d = true
    · cases d with
      | list ds =>
        cases hv with
        | @lst a xs _ hs ha =>
        have hv : Dp K H (.ref a) (.list ds) := .lst hs ha
        refine ⟨_, pss_cons (ps_if (PW.pt (pw_or (pt_not (pt_val (pe_callB call_isiT (by rfl) M.isinstance (by decide +kernel) (pa_cons (pv 0) (pa_cons (pe_tup (pa_cons (pe_bltn (v := .ty "list") (by rfl) M.list (by decide +kernel) rfl) (pa_cons (pe_bltn (v := .ty "tuple") (by rfl) M.tuple (by decide +kernel) rfl) pa_nil))) pa_nil)))))
          (pw_or1 (pt_cmpR op_gt (pe_callB call_len_seq (by rfl) M.len PySem.boot_len (pa_cons (pv 0) pa_nil)) (pe_glob (v := .int 3) (by rfl) gm ⟨_, rfl⟩) (nomark _))))) (pss_one (ps_ret pe_bl)) pss_nil)
        (pss_cons (ps_set (i := 1) scAreW.nd rfl (.inl rfl) (pe_lst pa_nil))
        (pss_cons (ps_for PassesOwn.never rfl (pi_list (pv 0)) (pg_name (i := 2) scAreW.nd rfl (.inl rfl))
          (pss_cons (ps_if (PW.pt (pw_or (pt_not (pt_val (pe_callB call_isi (by rfl) M.isinstance (by decide +kernel) (pa_cons (pv 2) (pa_cons (pe_bltn (v := .ty "tuple") (by rfl) M.tuple (by decide +kernel) rfl) pa_nil)))))
            (pw_or (pt_cmpR op_ne (pe_callB call_len_seq (by rfl) M.len PySem.boot_len (pa_cons (pv 2) pa_nil)) pe_int (nomark _))
            (pw_or1 (pt_not (pt_val (pe_call GN hr (by rfl) gN kN bN .nil pass0 (pa_cons (pe_ix ix_tup (pv 2) pe_int (fun _ _ => rfl)) pa_nil)))))))) (pss_one (ps_ret pe_bl)) pss_nil)
          (pss_cons (ps_if (pt_cmpR op_in_seq (pe_ix ix_tup (pv 2) pe_int (fun _ _ => rfl)) (pv 1) (by rfl)) (pss_one (ps_ret pe_bl)) pss_nil)
          (pss_one (ps_expr (pe_bm PySem.F.plainAttrs_list PySem.F.slot_list_append PySem.F.type_list_append mt_append (pv 1) (pa_cons (pe_ix ix_tup (pv 2) pe_int (fun _ _ => rfl)) pa_nil)))))))
        (pss_one (ps_ret pe_bl)))), ?_⟩
        refine ⟨.ref a, rfl, (by show 2 ≤ sizeLine; decide), fun tp np => ⟨.ref a, tp, [.ty "list", .ty "tuple"], _, [.type "list", .type "tuple"], _, rfl, upd_same, .cons (.ty "list") (.cons (.ty "tuple") .nil), dp_ty (dp_same (same_upd np) hv), kit_seq K _, _, rfl, ?_⟩⟩
        have s0 : Same H (upd H tp (HO.tup [.ty "list", .ty "tuple"])) := same_upd np
        refine iteF ⟨_, rfl, a, xs, rfl, .inl (s0.seq hs), _, _, rfl, rfl, _, rfl, ?_⟩
        have len := dpA_len ha
        have qf : ∀ H', Same H H' → areWrites (.list ds) = false → Q (.bl false) H' := fun H' s e => by
          have := q H' s
          rw [e] at this
          exact this
        refine ite2 (fun t => ?_) (fun t => ?_)
        · refine qf _ s0 ?_
          have : ¬ ds.length ≤ 3 := by
            have h4 := of_decide_eq_true t
            omega
          show (decide (ds.length ≤ 3) && writesGo [] ds) = false
          rw [decide_eq_false this]
          rfl
        · have h3 : ds.length ≤ 3 := by
            have : ¬ ((xs.length : Int) > 3) := fun h => t (decide_eq_true h)
            omega
          have qb : ∀ b H', Same H H' → writesGo [] ds = b → Q (.bl b) H' := fun b H' s e => by
            have := q H' s
            have e2 : areWrites (.list ds) = b := by
              show (decide (ds.length ≤ 3) && writesGo [] ds) = b
              rw [decide_eq_true h3, Bool.true_and, e]
            rw [e2] at this
            exact this
          refine ⟨(by show 0 ≤ sizeLine; decide), fun ln nn => ?_⟩
          have e1 := upd_same (H := upd H tp (HO.tup [V.ty "list", .ty "tuple"])) (a := ln) (o := HO.lst [])
          have nH : H ln = none := s0.free nn
          have s1 : Same H (upd (upd H tp (HO.tup [V.ty "list", .ty "tuple"])) ln (HO.lst [])) := s0.trans (same_upd nn)
          generalize upd (upd H tp (HO.tup [V.ty "list", .ty "tuple"])) ln (HO.lst []) = H1 at e1 s1 ⊢
          refine ⟨.ref a, rfl, a, rfl, ⟨_, s1.seq hs⟩, ?_⟩
          refine for_list (K := K) (a := a) (xs := xs) (fun k σ H' => ∃ (seen : List Str) (z2 : Option V), σ = [some (.ref a), some (.ref ln), z2] ∧ H' ln = some (.lst (seen.map V.str)) ∧ Same H H' ∧ writesGo [] ds = writesGo seen (ds.drop k) ∧ seen.length = k)
            ⟨[], none, rfl, e1, s1, rfl, rfl⟩ (fun k σ H' _ hW => ?_) (fun k x σ H2 hk hW => ?_) (fun σ H2 hW => ?_)
          · obtain ⟨_, _, _, _, s, _⟩ := hW
            exact s.seq hs
          · obtain ⟨seen, z2, rfl, e2, s2, eg, el⟩ := hW
            obtain ⟨d, hd, hx0⟩ := dpA_at ha hk
            have hx := dp_same s2 hx0
            have szd := szD_item (szD_seqL hsz) hd
            have hdr : ds.drop k = d :: ds.drop (k + 1) := List.drop_eq_getElem_cons (List.getElem?_eq_some_iff.mp hd).1 ▸ by rw [(List.getElem?_eq_some_iff.mp hd).2]
            have stop : entryOk seen d = none → ∀ H', Same H H' → Q (.bl false) H' := fun e H' s => qb _ H' s (by
              rw [eg, hdr]
              unfold writesGo
              rw [e])
            refine ⟨x, rfl, x, _, _, _, _, rfl, .ty "tuple", dp_ty hx, kit_tup K d, _, rfl, ?_⟩
            cases d with
            | tuple es =>
              cases hx with
              | @tup b ys _ hb hy =>
              have ylen := dpA_len hy
              refine iteF ⟨_, rfl, b, ys, rfl, .inr hb, rfl, _, rfl, ?_⟩
              by_cases h2 : es.length = 2
              · obtain ⟨d0, d1, rfl⟩ : ∃ d0 d1, es = [d0, d1] := by
                  match es, h2 with
                  | [d0, d1], _ => exact ⟨d0, d1, rfl⟩
                obtain ⟨y0, ey0, hy0⟩ := dpA_get (i := 0) (d := d0) hy rfl
                have at0 : atI ys 0 = some y0 := atI_nat (j := 0) ey0
                have sz0 : szD d0 = true := szD_item (i := 0) (szD_seqT szd) rfl
                refine iteNS (by rw [ylen]; rfl) ?_
                refine ⟨_, rfl, b, ys, 0, y0, rfl, rfl, hb, at0, ⟨y0, d0, rfl, hy0, sz0, fun H3 s3 => ⟨_, rfl, ?_⟩⟩⟩
                by_cases hn : isName d0 = true
                · obtain ⟨z, rfl⟩ : ∃ z, d0 = .str z := by
                    cases d0 <;> first | exact ⟨_, rfl⟩ | exact Bool.noConfusion hn
                  cases hy0
                  rw [hn]
                  refine iteF ?_
                  have e3 := s3 _ _ e2
                  refine ⟨_, rfl, b, ys, 0, _, rfl, rfl, same_sqT s3 hb, at0, .ref ln, rfl, ln, _, rfl, .inl (.inl (.inl e3)), rfl, flat_strs seen, _, rfl, ?_⟩
                  rw [inV_strs]
                  by_cases hz : z ∈ seen
                  · rw [decide_eq_true hz]
                    refine iteT (stop ?_ H3 (s2.trans s3))
                    show (if (isName (.str z) && !decide (z ∈ seen)) = true then some z else none) = none
                    rw [decide_eq_true hz, Bool.not_true, Bool.and_false]
                    rfl
                  · rw [decide_eq_false hz]
                    refine iteF ?_
                    refine ⟨.ref ln, rfl, .inl ⟨rfl, _, .inl (.inl e3)⟩, _, rfl, b, ys, 0, _, rfl, rfl, same_sqT s3 hb, at0, ln, _, _, rfl, rfl, e3, ?_, ?_⟩
                    · rw [List.length_map, el]
                      have := (List.getElem?_eq_some_iff.mp hk).1
                      exact Nat.lt_of_lt_of_le (Nat.lt_of_lt_of_le this (by rw [len]; exact h3)) (by decide)
                    · refine ⟨seen ++ [z], some (.ref b), rfl, ?_, fun c o e => ?_, ?_, ?_⟩
                      · rw [List.map_append]
                        exact upd_same
                      · rw [upd_ne (ne_of_none e nH)]
                        exact s3 _ _ (s2 _ _ e)
                      · rw [eg, hdr]
                        show (match entryOk seen (.tuple [.str z, d1]) with | some z => writesGo (seen ++ [z]) (ds.drop (k + 1)) | none => false) = _
                        have ee : entryOk seen (.tuple [.str z, d1]) = some z := by
                          show (if (isName (.str z) && !decide (z ∈ seen)) = true then some z else none) = some z
                          rw [hn, decide_eq_false hz]
                          rfl
                        rw [ee]
                      · rw [List.length_append, el]
                        rfl
                · have hn0 := eq_false_of_ne_true hn
                  rw [hn0]
                  refine iteT (stop ?_ H3 (s2.trans s3))
                  cases d0 with
                  | str z =>
                    show (if (isName (.str z) && !decide (z ∈ seen)) = true then some z else none) = none
                    rw [hn0]
                    rfl
                  | _ => rfl
              · refine iteS (by
                  rw [ylen]
                  intro e
                  exact h2 (by exact_mod_cast V.int.inj e)) ?_
                refine stop ?_ H2 s2
                match es, h2 with
                | [], _ => rfl
                | [_], _ => unfold entryOk; split <;> first | rfl | (next e => cases e)
                | [_, _], h => exact absurd rfl h
                | _ :: _ :: _ :: _, _ => unfold entryOk; split <;> first | rfl | (next e => cases e)
            | none => exact iteT (stop rfl H2 s2)
            | bool _ => exact iteT (stop rfl H2 s2)
            | int _ => exact iteT (stop rfl H2 s2)
            | str _ => exact iteT (stop rfl H2 s2)
            | list _ => exact iteT (stop rfl H2 s2)
            | dict _ => exact iteT (stop rfl H2 s2)
          · obtain ⟨seen, z2, rfl, e2, s2, eg, el⟩ := hW
            refine qb true H2 s2 ?_
            rw [eg, len, List.drop_length]
            unfold writesGo
            rfl
      | tuple ds =>
        cases hv with
        | @tup a xs _ hs ha =>
        have hv : Dp K H (.ref a) (.tuple ds) := .tup hs ha
        refine ⟨_, pss_cons (ps_if (PW.pt (pw_or (pt_not (pt_val (pe_callB call_isiT (by rfl) M.isinstance (by decide +kernel) (pa_cons (pv 0) (pa_cons (pe_tup (pa_cons (pe_bltn (v := .ty "list") (by rfl) M.list (by decide +kernel) rfl) (pa_cons (pe_bltn (v := .ty "tuple") (by rfl) M.tuple (by decide +kernel) rfl) pa_nil))) pa_nil)))))
          (pw_or1 (pt_cmpR op_gt (pe_callB call_len_seq (by rfl) M.len PySem.boot_len (pa_cons (pv 0) pa_nil)) (pe_glob (v := .int 3) (by rfl) gm ⟨_, rfl⟩) (nomark _))))) (pss_one (ps_ret pe_bl)) pss_nil)
        (pss_cons (ps_set (i := 1) scAreW.nd rfl (.inl rfl) (pe_lst pa_nil))
        (pss_cons (ps_for PassesOwn.never rfl (pi_tup (pv 0)) (pg_name (i := 2) scAreW.nd rfl (.inl rfl))
          (pss_cons (ps_if (PW.pt (pw_or (pt_not (pt_val (pe_callB call_isi (by rfl) M.isinstance (by decide +kernel) (pa_cons (pv 2) (pa_cons (pe_bltn (v := .ty "tuple") (by rfl) M.tuple (by decide +kernel) rfl) pa_nil)))))
            (pw_or (pt_cmpR op_ne (pe_callB call_len_seq (by rfl) M.len PySem.boot_len (pa_cons (pv 2) pa_nil)) pe_int (nomark _))
            (pw_or1 (pt_not (pt_val (pe_call GN hr (by rfl) gN kN bN .nil pass0 (pa_cons (pe_ix ix_tup (pv 2) pe_int (fun _ _ => rfl)) pa_nil)))))))) (pss_one (ps_ret pe_bl)) pss_nil)
          (pss_cons (ps_if (pt_cmpR op_in_seq (pe_ix ix_tup (pv 2) pe_int (fun _ _ => rfl)) (pv 1) (by rfl)) (pss_one (ps_ret pe_bl)) pss_nil)
          (pss_one (ps_expr (pe_bm PySem.F.plainAttrs_list PySem.F.slot_list_append PySem.F.type_list_append mt_append (pv 1) (pa_cons (pe_ix ix_tup (pv 2) pe_int (fun _ _ => rfl)) pa_nil)))))))
        (pss_one (ps_ret pe_bl)))), ?_⟩
        refine ⟨.ref a, rfl, (by show 2 ≤ sizeLine; decide), fun tp np => ⟨.ref a, tp, [.ty "list", .ty "tuple"], _, [.type "list", .type "tuple"], _, rfl, upd_same, .cons (.ty "list") (.cons (.ty "tuple") .nil), dp_ty (dp_same (same_upd np) hv), kit_seq K _, _, rfl, ?_⟩⟩
        have s0 : Same H (upd H tp (HO.tup [.ty "list", .ty "tuple"])) := same_upd np
        refine iteF ⟨_, rfl, a, xs, rfl, .inr (same_sqT s0 hs), _, _, rfl, rfl, _, rfl, ?_⟩
        have len := dpA_len ha
        have qf : ∀ H', Same H H' → areWrites (.tuple ds) = false → Q (.bl false) H' := fun H' s e => by
          have := q H' s
          rw [e] at this
          exact this
        refine ite2 (fun t => ?_) (fun t => ?_)
        · refine qf _ s0 ?_
          have : ¬ ds.length ≤ 3 := by
            have h4 := of_decide_eq_true t
            omega
          show (decide (ds.length ≤ 3) && writesGo [] ds) = false
          rw [decide_eq_false this]
          rfl
        · have h3 : ds.length ≤ 3 := by
            have : ¬ ((xs.length : Int) > 3) := fun h => t (decide_eq_true h)
            omega
          have qb : ∀ b H', Same H H' → writesGo [] ds = b → Q (.bl b) H' := fun b H' s e => by
            have := q H' s
            have e2 : areWrites (.tuple ds) = b := by
              show (decide (ds.length ≤ 3) && writesGo [] ds) = b
              rw [decide_eq_true h3, Bool.true_and, e]
            rw [e2] at this
            exact this
          refine ⟨(by show 0 ≤ sizeLine; decide), fun ln nn => ?_⟩
          have e1 := upd_same (H := upd H tp (HO.tup [V.ty "list", .ty "tuple"])) (a := ln) (o := HO.lst [])
          have nH : H ln = none := s0.free nn
          have s1 : Same H (upd (upd H tp (HO.tup [V.ty "list", .ty "tuple"])) ln (HO.lst [])) := s0.trans (same_upd nn)
          generalize upd (upd H tp (HO.tup [V.ty "list", .ty "tuple"])) ln (HO.lst []) = H1 at e1 s1 ⊢
          refine ⟨.ref a, rfl, a, rfl, ⟨_, same_sqT s1 hs⟩, ?_⟩
          refine for_tup (K := K) (a := a) (xs := xs) (fun k σ H' => ∃ (seen : List Str) (z2 : Option V), σ = [some (.ref a), some (.ref ln), z2] ∧ H' ln = some (.lst (seen.map V.str)) ∧ Same H H' ∧ writesGo [] ds = writesGo seen (ds.drop k) ∧ seen.length = k)
            ⟨[], none, rfl, e1, s1, rfl, rfl⟩ (fun k σ H' _ hW => ?_) (fun k x σ H2 hk hW => ?_) (fun σ H2 hW => ?_)
          · obtain ⟨_, _, _, _, s, _⟩ := hW
            exact same_sqT s hs
          · obtain ⟨seen, z2, rfl, e2, s2, eg, el⟩ := hW
            obtain ⟨d, hd, hx0⟩ := dpA_at ha hk
            have hx := dp_same s2 hx0
            have szd := szD_item (szD_seqT hsz) hd
            have hdr : ds.drop k = d :: ds.drop (k + 1) := List.drop_eq_getElem_cons (List.getElem?_eq_some_iff.mp hd).1 ▸ by rw [(List.getElem?_eq_some_iff.mp hd).2]
            have stop : entryOk seen d = none → ∀ H', Same H H' → Q (.bl false) H' := fun e H' s => qb _ H' s (by
              rw [eg, hdr]
              unfold writesGo
              rw [e])
            refine ⟨x, rfl, x, _, _, _, _, rfl, .ty "tuple", dp_ty hx, kit_tup K d, _, rfl, ?_⟩
            cases d with
            | tuple es =>
              cases hx with
              | @tup b ys _ hb hy =>
              have ylen := dpA_len hy
              refine iteF ⟨_, rfl, b, ys, rfl, .inr hb, rfl, _, rfl, ?_⟩
              by_cases h2 : es.length = 2
              · obtain ⟨d0, d1, rfl⟩ : ∃ d0 d1, es = [d0, d1] := by
                  match es, h2 with
                  | [d0, d1], _ => exact ⟨d0, d1, rfl⟩
                obtain ⟨y0, ey0, hy0⟩ := dpA_get (i := 0) (d := d0) hy rfl
                have at0 : atI ys 0 = some y0 := atI_nat (j := 0) ey0
                have sz0 : szD d0 = true := szD_item (i := 0) (szD_seqT szd) rfl
                refine iteNS (by rw [ylen]; rfl) ?_
                refine ⟨_, rfl, b, ys, 0, y0, rfl, rfl, hb, at0, ⟨y0, d0, rfl, hy0, sz0, fun H3 s3 => ⟨_, rfl, ?_⟩⟩⟩
                by_cases hn : isName d0 = true
                · obtain ⟨z, rfl⟩ : ∃ z, d0 = .str z := by
                    cases d0 <;> first | exact ⟨_, rfl⟩ | exact Bool.noConfusion hn
                  cases hy0
                  rw [hn]
                  refine iteF ?_
                  have e3 := s3 _ _ e2
                  refine ⟨_, rfl, b, ys, 0, _, rfl, rfl, same_sqT s3 hb, at0, .ref ln, rfl, ln, _, rfl, .inl (.inl (.inl e3)), rfl, flat_strs seen, _, rfl, ?_⟩
                  rw [inV_strs]
                  by_cases hz : z ∈ seen
                  · rw [decide_eq_true hz]
                    refine iteT (stop ?_ H3 (s2.trans s3))
                    show (if (isName (.str z) && !decide (z ∈ seen)) = true then some z else none) = none
                    rw [decide_eq_true hz, Bool.not_true, Bool.and_false]
                    rfl
                  · rw [decide_eq_false hz]
                    refine iteF ?_
                    refine ⟨.ref ln, rfl, .inl ⟨rfl, _, .inl (.inl e3)⟩, _, rfl, b, ys, 0, _, rfl, rfl, same_sqT s3 hb, at0, ln, _, _, rfl, rfl, e3, ?_, ?_⟩
                    · rw [List.length_map, el]
                      have := (List.getElem?_eq_some_iff.mp hk).1
                      exact Nat.lt_of_lt_of_le (Nat.lt_of_lt_of_le this (by rw [len]; exact h3)) (by decide)
                    · refine ⟨seen ++ [z], some (.ref b), rfl, ?_, fun c o e => ?_, ?_, ?_⟩
                      · rw [List.map_append]
                        exact upd_same
                      · rw [upd_ne (ne_of_none e nH)]
                        exact s3 _ _ (s2 _ _ e)
                      · rw [eg, hdr]
                        show (match entryOk seen (.tuple [.str z, d1]) with | some z => writesGo (seen ++ [z]) (ds.drop (k + 1)) | none => false) = _
                        have ee : entryOk seen (.tuple [.str z, d1]) = some z := by
                          show (if (isName (.str z) && !decide (z ∈ seen)) = true then some z else none) = some z
                          rw [hn, decide_eq_false hz]
                          rfl
                        rw [ee]
                      · rw [List.length_append, el]
                        rfl
                · have hn0 := eq_false_of_ne_true hn
                  rw [hn0]
                  refine iteT (stop ?_ H3 (s2.trans s3))
                  cases d0 with
                  | str z =>
                    show (if (isName (.str z) && !decide (z ∈ seen)) = true then some z else none) = none
                    rw [hn0]
                    rfl
                  | _ => rfl
              · refine iteS (by
                  rw [ylen]
                  intro e
                  exact h2 (by exact_mod_cast V.int.inj e)) ?_
                refine stop ?_ H2 s2
                match es, h2 with
                | [], _ => rfl
                | [_], _ => unfold entryOk; split <;> first | rfl | (next e => cases e)
                | [_, _], h => exact absurd rfl h
                | _ :: _ :: _ :: _, _ => unfold entryOk; split <;> first | rfl | (next e => cases e)
            | none => exact iteT (stop rfl H2 s2)
            | bool _ => exact iteT (stop rfl H2 s2)
            | int _ => exact iteT (stop rfl H2 s2)
            | str _ => exact iteT (stop rfl H2 s2)
            | list _ => exact iteT (stop rfl H2 s2)
            | dict _ => exact iteT (stop rfl H2 s2)
          · obtain ⟨seen, z2, rfl, e2, s2, eg, el⟩ := hW
            refine qb true H2 s2 ?_
            rw [eg, len, List.drop_length]
            unfold writesGo
            rfl
      | _ => exact Bool.noConfusion hq
    · have hq0 := eq_false_of_ne_true hq
      refine ⟨_, pss_cons (ps_if (PW.pt (pw_or (pt_not (pt_val (pe_callB call_isiT (by rfl) M.isinstance (by decide +kernel) (pa_cons (pv 0) (pa_cons (pe_tup (pa_cons (pe_bltn (v := .ty "list") (by rfl) M.list (by decide +kernel) rfl) (pa_cons (pe_bltn (v := .ty "tuple") (by rfl) M.tuple (by decide +kernel) rfl) pa_nil))) pa_nil)))))
          (pw_or1 (pt_cmpR op_gt (pe_callB call_len_seq (by rfl) M.len PySem.boot_len (pa_cons (pv 0) pa_nil)) (pe_glob (v := .int 3) (by rfl) gm ⟨_, rfl⟩) (nomark _))))) (pss_one (ps_ret pe_bl)) pss_nil)
        (pss_cons (ps_set (i := 1) scAreW.nd rfl (.inl rfl) (pe_lst pa_nil))
        (pss_cons (ps_for PassesOwn.never rfl (pi_list (pv 0)) (pg_name (i := 2) scAreW.nd rfl (.inl rfl))
          (pss_cons (ps_if (PW.pt (pw_or (pt_not (pt_val (pe_callB call_isi (by rfl) M.isinstance (by decide +kernel) (pa_cons (pv 2) (pa_cons (pe_bltn (v := .ty "tuple") (by rfl) M.tuple (by decide +kernel) rfl) pa_nil)))))
            (pw_or (pt_cmpR op_ne (pe_callB call_len_seq (by rfl) M.len PySem.boot_len (pa_cons (pv 2) pa_nil)) pe_int (nomark _))
            (pw_or1 (pt_not (pt_val (pe_call GN hr (by rfl) gN kN bN .nil pass0 (pa_cons (pe_ix ix_tup (pv 2) pe_int (fun _ _ => rfl)) pa_nil)))))))) (pss_one (ps_ret pe_bl)) pss_nil)
          (pss_cons (ps_if (pt_cmpR op_in_seq (pe_ix ix_tup (pv 2) pe_int (fun _ _ => rfl)) (pv 1) (by rfl)) (pss_one (ps_ret pe_bl)) pss_nil)
          (pss_one (ps_expr (pe_bm PySem.F.plainAttrs_list PySem.F.slot_list_append PySem.F.type_list_append mt_append (pv 1) (pa_cons (pe_ix ix_tup (pv 2) pe_int (fun _ _ => rfl)) pa_nil)))))))
        (pss_one (ps_ret pe_bl)))), ?_⟩
      refine ⟨v, rfl, (by show 2 ≤ sizeLine; decide), fun tp np => ⟨v, tp, [.ty "list", .ty "tuple"], _, [.type "list", .type "tuple"], _, rfl, upd_same, .cons (.ty "list") (.cons (.ty "tuple") .nil), dp_ty (dp_same (same_upd np) hv), kit_seq K _, _, rfl, ?_⟩⟩
      rw [hq0]
      refine iteT ?_
      have e := no hq0
      have q1 := q _ (same_upd (o := HO.tup [.ty "list", .ty "tuple"]) np)
      rw [e] at q1
      exact q1
end
/-! ### Function.__init__ -/
abbrev sFun : Stmt := inClass (topS 54) 0
theorem scFun : FnScope ["self", "name", "arguments", "result", "label", "writes", "cost", "kept_label", "_", "term"] ["self", "name", "arguments", "result", "label", "writes", "cost"] (defScope sFun) := ⟨rfl, rfl, rfl, by decide +kernel, rfl, by decide +kernel, by decide +kernel⟩
/-- what a Function is refused for -/
inductive FErr where
  | part (z : Str)
  | label (d : PyData)
  | term (d : PyData)
def countOk (m : Int) : PyData → Bool
  | .int i => decide (0 ≤ i) && decide (i ≤ m)
  | _ => false
/-- the first term of writes that is none -/
def badTerm (n : Int) : List PyData → Option PyData
  | [] => none
  | .tuple [_, t] :: r => if isTerm n t then badTerm n r else some t
  | _ :: r => badTerm n r
def entries : PyData → List PyData
  | .list ds => ds
  | .tuple ds => ds
  | _ => []
def numOf : PyData → Int
  | .int i => i
  | _ => 0
/-- lab: none for a Label, else the datum that is there -/
def funOut (dn da dr : PyData) (lab : Option PyData) (dw dc : PyData) : Option FErr :=
  if !isName dn then some (.part "name") else
  if !countOk 2 da then some (.part "arguments") else
  match lab.filter noLab with
  | some d => some (.label d)
  | none =>
    if !isTerm (numOf da) dr then some (.term dr) else
    if !areWrites dw then some (.part "writes") else
    match badTerm (numOf da) (entries dw) with
    | some t => some (.term t)
    | none => if !countOk 99 dc then some (.part "cost") else none
theorem lab_of {d : PyData} (h : noLab d = false) : ∃ (i : Nat) (z : Str), labRow[i]? = some z ∧ d = .str z := by
  cases d with
  | str z =>
    have hz : z ∈ labRow := by
      by_cases e : z ∈ labRow
      · exact e
      · have : noLab (.str z) = true := decide_eq_true e
        rw [this] at h
        cases h
    obtain ⟨i, hi⟩ := List.getElem?_of_mem hz
    exact ⟨i, z, hi, rfl⟩
  | _ => cases h
theorem writes_of : ∀ {d : PyData}, areWrites d = true → writesGo [] (entries d) = true
  | .list ds, h => (Bool.and_eq_true_iff.mp h).2
  | .tuple ds, h => (Bool.and_eq_true_iff.mp h).2
theorem writes_at : ∀ {ds : List PyData} {seen : List Str} {k : Nat} {d : PyData}, writesGo seen ds = true → ds[k]? = some d → ∃ z t, d = .tuple [.str z, t]
  | [], _, _, _, _, e => by simp at e
  | c :: r, seen, k, d, h, e => by
    unfold writesGo at h
    cases ee : entryOk seen c with
    | none =>
      rw [ee] at h
      cases h
    | some z =>
      rw [ee] at h
      cases k with
      | zero =>
        cases e
        unfold entryOk at ee
        split at ee
        · exact ⟨_, _, rfl⟩
        · cases ee
      | succ k => exact writes_at (seen := seen ++ [z]) h e
theorem dp_pair {K : PySem.W.Frag} {H : Hp} {ys : List V} {c d : PyData} (h : DpAll K H ys [c, d]) : ∃ y0 y1, ys = [y0, y1] ∧ Dp K H y0 c ∧ Dp K H y1 d := by
  cases h with
  | cons h1 r =>
    cases r with
    | cons h2 r =>
      cases r
      exact ⟨_, _, rfl, h1, h2⟩
theorem ins_ne {H : Hp} {a b : Addr} {C dx : Addr} {fs : List (Str × V)} {o : HO} (ea : H a = some (.ins C dx fs)) (e : H b = some o) (no : ∀ C dx fs, o ≠ .ins C dx fs) : b ≠ a := fun z => by
  rw [z, ea] at e
  exact no _ _ _ (Option.some.inj e).symm
theorem sqT_aside {K : PySem.W.Frag} {H H' : Hp} {a C dx : Addr} {fs : List (Str × V)} (ea : H a = some (.ins C dx fs)) (hb : ∀ b o, H b = some o → b ≠ a → H' b = some o) {p : Addr} {xs : List V} (h : SqT K H p xs) : SqT K H' p xs := by
  rcases h with (h | ⟨o, h⟩) | h
  · exact .inl (.inl (hb _ _ h (ins_ne ea h fun _ _ _ z => by cases z)))
  · exact .inl (.inr ⟨o, hb _ _ h (ins_ne ea h fun _ _ _ z => by cases z)⟩)
  · exact .inr h
theorem sqL_aside {K : PySem.W.Frag} {H H' : Hp} {a C dx : Addr} {fs : List (Str × V)} (ea : H a = some (.ins C dx fs)) (hb : ∀ b o, H b = some o → b ≠ a → H' b = some o) {p : Addr} {xs : List V} (h : SqL K H p xs) : SqL K H' p xs := by
  rcases h with (h | ⟨o, h⟩) | h
  · exact .inl (.inl (hb _ _ h (ins_ne ea h fun _ _ _ z => by cases z)))
  · exact .inl (.inr ⟨o, hb _ _ h (ins_ne ea h fun _ _ _ z => by cases z)⟩)
  · exact .inr h
theorem dpA_aside {K : PySem.W.Frag} {H H' : Hp} {a C dx : Addr} {fs : List (Str × V)} (ea : H a = some (.ins C dx fs)) (hb : ∀ b o, H b = some o → b ≠ a → H' b = some o) {ds : List PyData} {vs : List V} (h : DpAll K H vs ds) : DpAll K H' vs ds := dpAll_mono (fun _ _ => sqT_aside ea hb) (fun _ _ => sqL_aside ea hb) ds vs h
theorem lab_aside {H H' : Hp} {a C dx : Addr} (ea : H a = some (.ins C dx [])) (hb : ∀ b o, H b = some o → b ≠ a → H' b = some o) {CL x : Addr} {i : Nat} (h : LabAt H CL x i) : LabAt H' CL x i := by
  obtain ⟨dx2, fs, z, e, r1, r2, r3⟩ := h
  refine ⟨dx2, fs, z, hb _ _ e fun q => ?_, r1, r2, r3⟩
  rw [q, ea] at e
  cases e
  cases r2
/-- what is there for a label: an instance with its number, or a datum -/
def LabIn (K : PySem.W.Frag) (H : Hp) (CL : Addr) (v : V) (lab : Option PyData) : Prop := (∃ a i, v = .ref a ∧ lab = none ∧ LabAt H CL a i) ∨ ∃ d, lab = some d ∧ Dp K H v d
/-- the number of the label that such an argument stands for -/
def LabNo (H : Hp) (CL : Addr) (vl : V) (lab : Option PyData) (i : Nat) : Prop := (∃ a, vl = .ref a ∧ lab = none ∧ LabAt H CL a i) ∨ ∃ z, lab = some (.str z) ∧ labRow[i]? = some z
/-- the fields of a Function -/
structure FunAt (K : PySem.W.Frag) (H : Hp) (CF CL : Addr) (dx : Addr) (fs : List (Str × V)) (vn va vr vc : V) (dw : PyData) (no : Nat → Prop) : Prop where
  name : fs.lookup ("name" : Str) = some vn
  args : fs.lookup ("arguments" : Str) = some va
  res : fs.lookup ("result" : Str) = some vr
  cost : fs.lookup ("cost" : Str) = some vc
  lab : ∃ a i, fs.lookup ("label" : Str) = some (.ref a) ∧ LabAt H CL a i ∧ no i
  wr : ∃ b, fs.lookup ("writes" : Str) = some (.ref b) ∧ Dp K H (.ref b) (.tuple (entries dw))
  no1 : fs.lookup ("labelled" : Str) = none
  no2 : fs.lookup ("changed" : Str) = none
  no3 : fs.lookup ("parts" : Str) = none
/-- what is wanted of a Function made, by what it is refused for -/
def FWish (K : PySem.W.Frag) (H : Hp) (CB CP CT : Addr) (vl : V) (E : XK) (ok : Prop) : Option FErr → Prop
  | some (.part z) => ∀ dd H', Left H dd "part" (.str z) H' → E (.ref CP) (some dd) H'
  | some (.label _) => ∀ dd H', Left H dd "label" vl H' → E (.ref CB) (some dd) H'
  | some (.term d) => ∀ v dd H', Dp K H' v d → Left H dd "term" v H' → E (.ref CT) (some dd) H'
  | none => ok
theorem FWish.map {K : PySem.W.Frag} {H H1 : Hp} {CB CP CT : Addr} {vl : V} {E : XK} {ok ok' : Prop} (s : Same H H1) (h : ok → ok') : ∀ {r : Option FErr}, FWish K H CB CP CT vl E ok r → FWish K H1 CB CP CT vl E ok' r
  | some (.part _), o => fun dd H' l => o dd H' (l.back s)
  | some (.label _), o => fun dd H' l => o dd H' (l.back s)
  | some (.term _), o => fun v dd H' hv l => o v dd H' hv (l.back s)
  | none, o => h o
def spFun (K : PySem.W.Frag) (CF CL CB CP CT : Addr) : Sp := fun vs H Q E => ∃ (a dx : Addr) (vn va vr vl vw vc : V) (dn da dr dw dc : PyData) (lab : Option PyData), vs = [.ref a, vn, va, vr, vl, vw, vc] ∧ H a = some (.ins CF dx []) ∧
  Dp K H vn dn ∧ Dp K H va da ∧ Dp K H vr dr ∧ Dp K H vw dw ∧ Dp K H vc dc ∧ LabIn K H CL vl lab ∧ szD dn = true ∧ szD da = true ∧ szD dr = true ∧ szD dw = true ∧ szD dc = true ∧
  FWish K H CB CP CT vl E (∀ fs H', (∀ b o, H b = some o → b ≠ a → H' b = some o) → H' a = some (.ins CF dx fs) → FunAt K H' CF CL dx fs vn va vr vc dw (LabNo H CL vl lab) → Q .non H') (funOut dn da dr lab dw dc)
structure FunC (P : Program) (w : World) (K : PySem.W.Frag) (mg : Str → Option Value) (base : Heap) (CF CL CB CP CT fN fW fL fT fA fP fE : Addr) (dN dW dL dT dA dP dE : FuncData) : Prop where
  GN : FnOk P w K mg base CX0 1 fN dN ["value"] (spB K isName)
  kN : PySem.W.keepIn K (.ref fN) = true
  bN : Binds K dN ["value"] []
  gN : mg "is_name" = some (.ref fN)
  GW : FnOk P w K mg base CX0 1 fW dW ["value"] (spB K isWhole)
  kW : PySem.W.keepIn K (.ref fW) = true
  bW : Binds K dW ["value"] []
  gW : mg "is_whole" = some (.ref fW)
  GL : FnOk P w K mg base (L2.CX P w) 5 fL dL ["value"] (spToLab K CL CB)
  kL : PySem.W.keepIn K (.ref fL) = true
  bL : Binds K dL ["value"] []
  gL : mg "to_label" = some (.ref fL)
  GT : FnOk P w K mg base CX0 5 fT dT ["value", "arguments"] (spBn K isTerm)
  kT : PySem.W.keepIn K (.ref fT) = true
  bT : Binds K dT ["value", "arguments"] []
  gT : mg "is_term" = some (.ref fT)
  GA : FnOk P w K mg base CX0 2 fA dA ["value"] (spB K areWrites)
  kA : PySem.W.keepIn K (.ref fA) = true
  bA : Binds K dA ["value"] []
  gA : mg "_are_writes" = some (.ref fA)
  TP : ErrT K mg "BadPart" "part" CP fP
  GP : FnOk P w K mg base CX0 1 fP dP ["self", "part"] (spErr CP "part")
  bP : Binds K dP ["self", "part"] []
  TE : ErrT K mg "BadTerm" "term" CT fE
  GE : FnOk P w K mg base CX0 1 fE dE ["self", "term"] (spErr CT "term")
  bE : Binds K dE ["self", "term"] []
  most : ∃ t, mg "MOST_ARGUMENTS" = some (.int 2 t)
  cl : Cls K CF
  n1 : NoAttr K CF "name"
  n2 : NoAttr K CF "arguments"
  n3 : NoAttr K CF "result"
  n4 : NoAttr K CF "label"
  n5 : NoAttr K CF "writes"
  n6 : NoAttr K CF "cost"
section
variable {P : Program} {w : World} {K : PySem.W.Frag} {mg : Str → Option Value} {base : Heap}
theorem ok_fun {CF CL CB CP CT f fN fW fL fT fA fP fE : Addr} {fd dN dW dL dT dA dP dE : FuncData} (F : Fun K "__init__" "Function.__init__" sFun f fd) (M : Blt mg) (T : FunTxt K mg) (C : FunC P w K mg base CF CL CB CP CT fN fW fL fT fA fP fE dN dW dL dT dA dP dE) :
    FnOk P w K mg base (L2.CX P w) 6 f fd ["self", "name", "arguments", "result", "label", "writes", "cost"] (spFun K CF CL CB CP CT) := by
  obtain ⟨tm, gm⟩ := C.most
  obtain ⟨tc, gc⟩ := T.cost
  refine F.okX scFun (fun vs H Q E h => ?_) (fun cdv A outer s H vs Q E hr h => ?_)
  · obtain ⟨a, dx, vn, va, vr, vl, vw, vc, dn, da, dr, dw, dc, lab, rfl, _⟩ := h
    rfl
  · obtain ⟨a, dx, vn, va, vr, vl, vw, vc, dn, da, dr, dw, dc, lab, rfl, ea, hn, ha, hre, hw, hc, hl, zn, za, zr, zw, zc, out⟩ := h
    have hr1 : Room 1 (A.deeper (envOfC "Function.__init__" (defScope sFun) s.heap.objs.size f cdv)) := hr.mono (by decide)
    have hr2 : Room 2 (A.deeper (envOfC "Function.__init__" (defScope sFun) s.heap.objs.size f cdv)) := hr.mono (by decide)
    by_cases hq : isTup dw = true
    · refine ⟨_, pss_cons (ps_if (pt_not (pt_val (pe_call C.GN hr1 (by rfl) C.gN C.kN C.bN .nil pass0 (pa_cons (pv 1) pa_nil)))) (pss_one (ps_raise rfl (takes_of rfl rfl rfl rfl) (pmk_oex (k := 1) (ps := ["self", "part"]) (sp := spErr CP "part") (ds := []) (dvs := []) C.TP.oex C.TP.ini C.TP.typ C.GP hr2 C.bP .nil pass0 (by rfl) C.TP.nam (pa_cons pe_str pa_nil)))) pss_nil)
        (pss_cons (ps_if (PW.pt (pw_or (pt_not (pt_val (pe_call C.GW hr1 (by rfl) C.gW C.kW C.bW .nil pass0 (pa_cons (pv 2) pa_nil)))) (pw_or1 (pt_not (pt_chain op_le op_le pe_int (pv 2) (pe_glob (v := .int 2) (by rfl) gm ⟨_, rfl⟩)))))) (pss_one (ps_raise rfl (takes_of rfl rfl rfl rfl) (pmk_oex (k := 1) (ps := ["self", "part"]) (sp := spErr CP "part") (ds := []) (dvs := []) C.TP.oex C.TP.ini C.TP.typ C.GP hr2 C.bP .nil pass0 (by rfl) C.TP.nam (pa_cons pe_str pa_nil)))) pss_nil)
        (pss_cons (ps_set (i := 7) scFun.nd rfl (.inl rfl) (pe_call (E := E) C.GL hr (by rfl) C.gL C.kL C.bL .nil (passes_call (takes_of rfl rfl rfl rfl) (fun _ _ _ _ h => h)) (pa_cons (pv 4) pa_nil)))
        (pss_cons (ps_if (pt_not (pt_val (pe_call C.GT hr (by rfl) C.gT C.kT C.bT .nil pass0 (pa_cons (pv 3) (pa_cons (pv 2) pa_nil))))) (pss_one (ps_raise rfl (takes_of rfl rfl rfl rfl) (pmk_oex (k := 1) (ps := ["self", "term"]) (sp := spErr CT "term") (ds := []) (dvs := []) C.TE.oex C.TE.ini C.TE.typ C.GE hr2 C.bE .nil pass0 (by rfl) C.TE.nam (pa_cons (pv 3) pa_nil)))) pss_nil)
        (pss_cons (ps_if (pt_not (pt_val (pe_call C.GA hr2 (by rfl) C.gA C.kA C.bA .nil pass0 (pa_cons (pv 5) pa_nil)))) (pss_one (ps_raise rfl (takes_of rfl rfl rfl rfl) (pmk_oex (k := 1) (ps := ["self", "part"]) (sp := spErr CP "part") (ds := []) (dvs := []) C.TP.oex C.TP.ini C.TP.typ C.GP hr2 C.bP .nil pass0 (by rfl) C.TP.nam (pa_cons pe_str pa_nil)))) pss_nil)
        (pss_cons (ps_for (passes_of rfl) rfl (pi_tup (pv 5)) (pg_tup (by rfl) (pgs_cons (pg_name (i := 8) scFun.nd rfl (.inl rfl)) (pgs_cons (pg_name (i := 9) scFun.nd rfl (.inl rfl)) pgs_nil)))
          (pss_one (ps_if (pt_not (pt_val (pe_call C.GT hr (by rfl) C.gT C.kT C.bT .nil pass0 (pa_cons (pv 9) (pa_cons (pv 2) pa_nil))))) (pss_one (ps_raise rfl (takes_of rfl rfl rfl rfl) (pmk_oex (k := 1) (ps := ["self", "term"]) (sp := spErr CT "term") (ds := []) (dvs := []) C.TE.oex C.TE.ini C.TE.typ C.GE hr2 C.bE .nil pass0 (by rfl) C.TE.nam (pa_cons (pv 9) pa_nil)))) pss_nil)))
        (pss_cons (ps_if (PW.pt (pw_or (pt_not (pt_val (pe_call C.GW hr1 (by rfl) C.gW C.kW C.bW .nil pass0 (pa_cons (pv 6) pa_nil)))) (pw_or1 (pt_not (pt_chain op_le op_le pe_int (pv 6) (pe_glob (v := .int 99) (by rfl) gc ⟨_, rfl⟩)))))) (pss_one (ps_raise rfl (takes_of rfl rfl rfl rfl) (pmk_oex (k := 1) (ps := ["self", "part"]) (sp := spErr CP "part") (ds := []) (dvs := []) C.TP.oex C.TP.ini C.TP.typ C.GP hr2 C.bP .nil pass0 (by rfl) C.TP.nam (pa_cons pe_str pa_nil)))) pss_nil)
        (pss_cons (ps_fld (pv 0) (pv 1) (by rfl)) (pss_cons (ps_fld (pv 0) (pv 2) (by rfl)) (pss_cons (ps_fld (pv 0) (pv 3) (by rfl)) (pss_cons (ps_fld (pv 0) (pv 7) (by rfl))
        (pss_cons (ps_fld (pv 0) (pe_callTy call_tuple_of (by rfl) M.tuple (by decide +kernel) (pa_cons (pv 5) pa_nil)) (by rfl))
        (pss_one (ps_fld (pv 0) (pv 6) (by rfl)))))))))))))), ?_⟩
      have put : ∀ (r : Option FErr), funOut dn da dr lab dw dc = r → FWish K H CB CP CT vl E (∀ fs H', (∀ b o, H b = some o → b ≠ a → H' b = some o) → H' a = some (.ins CF dx fs) → FunAt K H' CF CL dx fs vn va vr vc dw (LabNo H CL vl lab) → Q .non H') r := fun r e => by
        subst e
        exact out
      have one : (1 : Nat) ≤ 1000 := by decide
      refine ⟨vn, rfl, vn, dn, rfl, hn, zn, fun H1 s1 => ⟨_, rfl, ?_⟩⟩
      cases en : isName dn with
      | false =>
        have o := put (some (.part "name")) (by unfold funOut; rw [en]; rfl)
        exact iteT ⟨one, mk_left fun dd H' l => o dd H' (l.back s1)⟩
      | true =>
      refine iteF ?_
      refine ⟨va, rfl, va, da, rfl, dp_same s1 ha, za, fun H2 s2 => ⟨_, rfl, ?_⟩⟩
      have s2 := s1.trans s2
      have bad2 : countOk 2 da = false → ∀ H', Same H H' → ∀ dd H'', Left H' dd "part" (.str "arguments") H'' → E (.ref CP) (some dd) H'' := fun e H' s dd H'' l => by
        have o := put (some (.part "arguments")) (by unfold funOut; rw [en, e]; rfl)
        exact o dd H'' (l.back s)
      cases da with
      | int n =>
        cases ha
        refine iteF ?_
        refine ⟨_, rfl, _, _, rfl, rfl, _, rfl, ?_⟩
        cases h0 : decide (0 ≤ n) with
        | false =>
          have e : countOk 2 (.int n) = false := by
            show (decide (0 ≤ n) && decide (n ≤ 2)) = false
            rw [h0]
            rfl
          exact iteF ⟨_, rfl, iteT ⟨one, mk_left fun dd H' l => bad2 e _ s2 dd H' l⟩⟩
        | true =>
        refine iteT ⟨_, _, rfl, rfl, _, rfl, ?_⟩
        cases h2 : decide (n ≤ 2) with
        | false =>
          have e : countOk 2 (.int n) = false := by
            show (decide (0 ≤ n) && decide (n ≤ 2)) = false
            rw [h0, h2]
            rfl
          exact iteT ⟨one, mk_left fun dd H' l => bad2 e _ s2 dd H' l⟩
        | true =>
        have eA : countOk 2 (.int n) = true := by
          show (decide (0 ≤ n) && decide (n ≤ 2)) = true
          rw [h0, h2]
          rfl
        refine iteF ?_
        unfold tNext
        dsimp only
        refine q_asgP (Pr := fun v H' => ∃ x i, v = .ref x ∧ Same H H' ∧ LabAt H' CL x i ∧ lab.filter noLab = none ∧ LabNo H CL vl lab i) (fun Q' hq => ?_) (fun v H3 hv => ?_)
        · refine ⟨vl, rfl, vl, rfl, ?_⟩
          rcases hl with ⟨a2, i, rfl, rfl, la⟩ | ⟨d, rfl, hd⟩
          · exact .inl ⟨a2, i, rfl, la.ext s2, fun H' s' => hq _ _ ⟨a2, i, rfl, s2.trans s', (la.ext s2).ext s', rfl, .inl ⟨a2, rfl, rfl, la⟩⟩⟩
          · by_cases hno : noLab d = true
            · have o := put (some (.label d)) (by unfold funOut; rw [en, eA, Option.filter_some_pos hno]; rfl)
              exact .inr (.inr ⟨d, dp_same s2 hd, hno, fun dd H' l => o dd H' (l.back s2)⟩)
            · obtain ⟨i, z, hi, rfl⟩ := lab_of (eq_false_of_ne_true hno)
              cases hd
              exact .inr (.inl ⟨i, z, hi, rfl, fun x H' s' lx => hq _ _ ⟨x, i, rfl, s2.trans s', lx, Option.filter_some_neg (eq_false_of_ne_true hno), .inr ⟨z, rfl, hi⟩⟩⟩)
        · obtain ⟨x, i, rfl, s3, lx, ef, lno⟩ := hv
          have eL : ∀ r, funOut dn (.int n) dr lab dw dc = r ↔ (if !isTerm n dr then some (.term dr) else if !areWrites dw then some (.part "writes") else
              match badTerm n (entries dw) with
              | some t => some (.term t)
              | none => if !countOk 99 dc then some (.part "cost") else none) = r := fun r => by
            unfold funOut
            rw [en, eA, ef]
            exact Iff.rfl
          refine ⟨vr, rfl, .int n, rfl, vr, dr, n, rfl, dp_same s3 hre, zr, fun H4 t4 => ⟨_, rfl, ?_⟩⟩
          have s4 := s3.trans t4
          have lx := lx.ext t4
          cases et : isTerm n dr with
          | false =>
            have o := put (some (.term dr)) ((eL _).mpr (by rw [et]; rfl))
            exact iteT ⟨vr, rfl, one, mk_left fun dd H' l => o vr dd H' (dp_same (s4.trans l.2.1) hre) (l.back s4)⟩
          | true =>
          refine iteF ?_
          refine ⟨vw, rfl, vw, dw, rfl, dp_same s4 hw, zw, fun H5 t5 => ⟨_, rfl, ?_⟩⟩
          have s5 := s4.trans t5
          have lx := lx.ext t5
          cases ew : areWrites dw with
          | false =>
            have o := put (some (.part "writes")) ((eL _).mpr (by rw [et, ew]; rfl))
            exact iteT ⟨one, mk_left fun dd H' l => o dd H' (l.back s5)⟩
          | true =>
          refine iteF ?_
          cases dw with
          | tuple ds =>
            cases hw with
            | @tup wa xs _ hs hds =>
            have len := dpA_len hds
            refine ⟨.ref wa, rfl, wa, rfl, ⟨_, same_sqT s5 hs⟩, ?_⟩
            refine for_tup (K := K) (a := wa) (xs := xs) (fun k σ H' => ∃ z8 z9, σ = [some (.ref a), some vn, some (.int n), some vr, some vl, some (.ref wa), some vc, some (.ref x), z8, z9] ∧ Same H H' ∧ LabAt H' CL x i ∧ badTerm n ds = badTerm n (ds.drop k))
              ⟨none, none, rfl, s5, lx, rfl⟩ (fun k σ H' _ hW => ?_) (fun k v σ H6 hk hW => ?_) (fun σ H6 hW => ?_)
            · obtain ⟨_, _, _, s, _, _⟩ := hW
              exact same_sqT s hs
            · obtain ⟨z8, z9, rfl, s6, lx6, eb⟩ := hW
              obtain ⟨d, hd, hx0⟩ := dpA_at hds hk
              obtain ⟨z, t, rfl⟩ := writes_at (writes_of ew) hd
              have hx := dp_same s6 hx0
              have szd := szD_item (szD_seqT zw) hd
              have hdr : ds.drop k = .tuple [.str z, t] :: ds.drop (k + 1) := List.drop_eq_getElem_cons (List.getElem?_eq_some_iff.mp hd).1 ▸ by rw [(List.getElem?_eq_some_iff.mp hd).2]
              have szt : szD t = true := szD_item (i := 1) (szD_seqT szd) rfl
              cases hx with
              | @tup b ys _ hb hy =>
              obtain ⟨y0, y1, rfl, hy0, hy1⟩ := dp_pair hy
              refine ⟨b, _, rfl, hb, rfl, ?_⟩
              refine ⟨y0, [y1], rfl, y1, [], rfl, rfl, ?_⟩
              refine ⟨y1, rfl, .int n, rfl, y1, t, n, rfl, hy1, szt, fun H7 s7 => ⟨_, rfl, ?_⟩⟩
              cases ett : isTerm n t with
              | false =>
                have eb2 : badTerm n ds = some t := by
                  rw [eb, hdr]
                  show (if isTerm n t then badTerm n (ds.drop (k + 1)) else some t) = some t
                  rw [ett]
                  rfl
                have o := put (some (.term t)) ((eL _).mpr (by
                  rw [et, ew]
                  show (match badTerm n ds with | some t => some (FErr.term t) | none => _) = _
                  rw [eb2]))
                exact iteT ⟨y1, rfl, one, mk_left fun dd H' l => o y1 dd H' (dp_same (s7.trans l.2.1) hy1) (l.back (s6.trans s7))⟩
              | true =>
                refine iteF ⟨_, _, rfl, s6.trans s7, lx6.ext s7, ?_⟩
                rw [eb, hdr]
                show (if isTerm n t then badTerm n (ds.drop (k + 1)) else some t) = _
                rw [ett]
                rfl
            · obtain ⟨z8, z9, rfl, s6, lx6, eb⟩ := hW
              have eb2 : badTerm n ds = none := by
                rw [eb, len, List.drop_length]
                rfl
              have eM : ∀ r, (if !countOk 99 dc then some (FErr.part "cost") else none) = r → funOut dn (.int n) dr lab (.tuple ds) dc = r := fun r e => (eL r).mpr (by
                rw [et, ew]
                show (match badTerm n ds with | some t => some (FErr.term t) | none => _) = _
                rw [eb2]
                exact e)
              have bad99 : countOk 99 dc = false → ∀ H', Same H H' → ∀ dd H'', Left H' dd "part" (.str "cost") H'' → E (.ref CP) (some dd) H'' := fun e H' s dd H'' l => by
                have o := put (some (.part "cost")) (eM _ (by rw [e]; rfl))
                exact o dd H'' (l.back s)
              dsimp only
              refine ⟨vc, rfl, vc, dc, rfl, dp_same s6 hc, zc, fun H7 t7 => ⟨_, rfl, ?_⟩⟩
              have s7 := s6.trans t7
              have lx := lx6.ext t7
              cases dc with
              | int m =>
                cases hc
                refine iteF ?_
                refine ⟨_, rfl, _, _, rfl, rfl, _, rfl, ?_⟩
                cases g0 : decide (0 ≤ m) with
                | false =>
                  have e : countOk 99 (.int m) = false := by
                    show (decide (0 ≤ m) && decide (m ≤ 99)) = false
                    rw [g0]
                    rfl
                  exact iteF ⟨_, rfl, iteT ⟨one, mk_left fun dd H' l => bad99 e _ s7 dd H' l⟩⟩
                | true =>
                refine iteT ⟨_, _, rfl, rfl, _, rfl, ?_⟩
                cases g2 : decide (m ≤ 99) with
                | false =>
                  have e : countOk 99 (.int m) = false := by
                    show (decide (0 ≤ m) && decide (m ≤ 99)) = false
                    rw [g0, g2]
                    rfl
                  exact iteT ⟨one, mk_left fun dd H' l => bad99 e _ s7 dd H' l⟩
                | true =>
                have eC : countOk 99 (.int m) = true := by
                  show (decide (0 ≤ m) && decide (m ≤ 99)) = true
                  rw [g0, g2]
                  rfl
                have o := put none (eM _ (by rw [eC]; rfl))
                refine iteF ?_
                have e7 := s7 _ _ ea
                refine ⟨vn, rfl, .ref a, rfl, a, CF, dx, [], rfl, e7, C.cl, C.n1, (by decide), ?_⟩
                refine ⟨.int n, rfl, .ref a, rfl, a, CF, dx, _, rfl, upd_same, C.cl, C.n2, (by show 1 < 1000; decide), ?_⟩
                rw [upd_twice]
                refine ⟨vr, rfl, .ref a, rfl, a, CF, dx, _, rfl, upd_same, C.cl, C.n3, (by show 2 < 1000; decide), ?_⟩
                rw [upd_twice]
                refine ⟨.ref x, rfl, .ref a, rfl, a, CF, dx, _, rfl, upd_same, C.cl, C.n4, (by show 3 < 1000; decide), ?_⟩
                rw [upd_twice]
                have b4 : ∀ (o4 : HO) b o, H7 b = some o → b ≠ a → upd H7 a o4 b = some o := fun o4 b o e nb => by
                  rw [upd_ne nb]
                  exact e
                refine ⟨.ref wa, rfl, wa, xs, rfl, .inr ⟨sqT_aside e7 (b4 _) (same_sqT s7 hs), ?_⟩⟩
                refine ⟨.ref a, rfl, a, CF, dx, _, rfl, upd_same, C.cl, C.n5, (by show 4 < 1000; decide), ?_⟩
                rw [upd_twice]
                refine ⟨.int m, rfl, .ref a, rfl, a, CF, dx, _, rfl, upd_same, C.cl, C.n6, (by show 5 < 1000; decide), ?_⟩
                rw [upd_twice]
                exact o _ _ (fun b ob e nb => b4 _ b ob (s7 _ _ e) nb) upd_same ⟨rfl, rfl, rfl, rfl, ⟨x, i, rfl, lab_aside e7 (b4 _) lx, lno⟩, ⟨wa, rfl, .tup (sqT_aside e7 (b4 _) (same_sqT s7 hs)) (dpA_aside e7 (b4 _) (dpA_same s7 hds))⟩, rfl, rfl, rfl⟩
              | none => exact iteT (iteT ⟨one, mk_left fun dd H' l => bad99 rfl _ s7 dd H' l⟩)
              | bool _ => exact iteT (iteT ⟨one, mk_left fun dd H' l => bad99 rfl _ s7 dd H' l⟩)
              | str _ => exact iteT (iteT ⟨one, mk_left fun dd H' l => bad99 rfl _ s7 dd H' l⟩)
              | list _ => exact iteT (iteT ⟨one, mk_left fun dd H' l => bad99 rfl _ s7 dd H' l⟩)
              | tuple _ => exact iteT (iteT ⟨one, mk_left fun dd H' l => bad99 rfl _ s7 dd H' l⟩)
              | dict _ => exact iteT (iteT ⟨one, mk_left fun dd H' l => bad99 rfl _ s7 dd H' l⟩)
          | _ => exact Bool.noConfusion hq
      | none => exact iteT (iteT ⟨one, mk_left fun dd H' l => bad2 rfl _ s2 dd H' l⟩)
      | bool _ => exact iteT (iteT ⟨one, mk_left fun dd H' l => bad2 rfl _ s2 dd H' l⟩)
      | str _ => exact iteT (iteT ⟨one, mk_left fun dd H' l => bad2 rfl _ s2 dd H' l⟩)
      | list _ => exact iteT (iteT ⟨one, mk_left fun dd H' l => bad2 rfl _ s2 dd H' l⟩)
      | tuple _ => exact iteT (iteT ⟨one, mk_left fun dd H' l => bad2 rfl _ s2 dd H' l⟩)
      | dict _ => exact iteT (iteT ⟨one, mk_left fun dd H' l => bad2 rfl _ s2 dd H' l⟩)

    · refine ⟨_, pss_cons (ps_if (pt_not (pt_val (pe_call C.GN hr1 (by rfl) C.gN C.kN C.bN .nil pass0 (pa_cons (pv 1) pa_nil)))) (pss_one (ps_raise rfl (takes_of rfl rfl rfl rfl) (pmk_oex (k := 1) (ps := ["self", "part"]) (sp := spErr CP "part") (ds := []) (dvs := []) C.TP.oex C.TP.ini C.TP.typ C.GP hr2 C.bP .nil pass0 (by rfl) C.TP.nam (pa_cons pe_str pa_nil)))) pss_nil)
        (pss_cons (ps_if (PW.pt (pw_or (pt_not (pt_val (pe_call C.GW hr1 (by rfl) C.gW C.kW C.bW .nil pass0 (pa_cons (pv 2) pa_nil)))) (pw_or1 (pt_not (pt_chain op_le op_le pe_int (pv 2) (pe_glob (v := .int 2) (by rfl) gm ⟨_, rfl⟩)))))) (pss_one (ps_raise rfl (takes_of rfl rfl rfl rfl) (pmk_oex (k := 1) (ps := ["self", "part"]) (sp := spErr CP "part") (ds := []) (dvs := []) C.TP.oex C.TP.ini C.TP.typ C.GP hr2 C.bP .nil pass0 (by rfl) C.TP.nam (pa_cons pe_str pa_nil)))) pss_nil)
        (pss_cons (ps_set (i := 7) scFun.nd rfl (.inl rfl) (pe_call (E := E) C.GL hr (by rfl) C.gL C.kL C.bL .nil (passes_call (takes_of rfl rfl rfl rfl) (fun _ _ _ _ h => h)) (pa_cons (pv 4) pa_nil)))
        (pss_cons (ps_if (pt_not (pt_val (pe_call C.GT hr (by rfl) C.gT C.kT C.bT .nil pass0 (pa_cons (pv 3) (pa_cons (pv 2) pa_nil))))) (pss_one (ps_raise rfl (takes_of rfl rfl rfl rfl) (pmk_oex (k := 1) (ps := ["self", "term"]) (sp := spErr CT "term") (ds := []) (dvs := []) C.TE.oex C.TE.ini C.TE.typ C.GE hr2 C.bE .nil pass0 (by rfl) C.TE.nam (pa_cons (pv 3) pa_nil)))) pss_nil)
        (pss_cons (ps_if (pt_not (pt_val (pe_call C.GA hr2 (by rfl) C.gA C.kA C.bA .nil pass0 (pa_cons (pv 5) pa_nil)))) (pss_one (ps_raise rfl (takes_of rfl rfl rfl rfl) (pmk_oex (k := 1) (ps := ["self", "part"]) (sp := spErr CP "part") (ds := []) (dvs := []) C.TP.oex C.TP.ini C.TP.typ C.GP hr2 C.bP .nil pass0 (by rfl) C.TP.nam (pa_cons pe_str pa_nil)))) pss_nil)
        (pss_cons (ps_for (passes_of rfl) rfl (pi_list (pv 5)) (pg_tup (by rfl) (pgs_cons (pg_name (i := 8) scFun.nd rfl (.inl rfl)) (pgs_cons (pg_name (i := 9) scFun.nd rfl (.inl rfl)) pgs_nil)))
          (pss_one (ps_if (pt_not (pt_val (pe_call C.GT hr (by rfl) C.gT C.kT C.bT .nil pass0 (pa_cons (pv 9) (pa_cons (pv 2) pa_nil))))) (pss_one (ps_raise rfl (takes_of rfl rfl rfl rfl) (pmk_oex (k := 1) (ps := ["self", "term"]) (sp := spErr CT "term") (ds := []) (dvs := []) C.TE.oex C.TE.ini C.TE.typ C.GE hr2 C.bE .nil pass0 (by rfl) C.TE.nam (pa_cons (pv 9) pa_nil)))) pss_nil)))
        (pss_cons (ps_if (PW.pt (pw_or (pt_not (pt_val (pe_call C.GW hr1 (by rfl) C.gW C.kW C.bW .nil pass0 (pa_cons (pv 6) pa_nil)))) (pw_or1 (pt_not (pt_chain op_le op_le pe_int (pv 6) (pe_glob (v := .int 99) (by rfl) gc ⟨_, rfl⟩)))))) (pss_one (ps_raise rfl (takes_of rfl rfl rfl rfl) (pmk_oex (k := 1) (ps := ["self", "part"]) (sp := spErr CP "part") (ds := []) (dvs := []) C.TP.oex C.TP.ini C.TP.typ C.GP hr2 C.bP .nil pass0 (by rfl) C.TP.nam (pa_cons pe_str pa_nil)))) pss_nil)
        (pss_cons (ps_fld (pv 0) (pv 1) (by rfl)) (pss_cons (ps_fld (pv 0) (pv 2) (by rfl)) (pss_cons (ps_fld (pv 0) (pv 3) (by rfl)) (pss_cons (ps_fld (pv 0) (pv 7) (by rfl))
        (pss_cons (ps_fld (pv 0) (pe_callTy call_tuple_of (by rfl) M.tuple (by decide +kernel) (pa_cons (pv 5) pa_nil)) (by rfl))
        (pss_one (ps_fld (pv 0) (pv 6) (by rfl)))))))))))))), ?_⟩
      have put : ∀ (r : Option FErr), funOut dn da dr lab dw dc = r → FWish K H CB CP CT vl E (∀ fs H', (∀ b o, H b = some o → b ≠ a → H' b = some o) → H' a = some (.ins CF dx fs) → FunAt K H' CF CL dx fs vn va vr vc dw (LabNo H CL vl lab) → Q .non H') r := fun r e => by
        subst e
        exact out
      have one : (1 : Nat) ≤ 1000 := by decide
      refine ⟨vn, rfl, vn, dn, rfl, hn, zn, fun H1 s1 => ⟨_, rfl, ?_⟩⟩
      cases en : isName dn with
      | false =>
        have o := put (some (.part "name")) (by unfold funOut; rw [en]; rfl)
        exact iteT ⟨one, mk_left fun dd H' l => o dd H' (l.back s1)⟩
      | true =>
      refine iteF ?_
      refine ⟨va, rfl, va, da, rfl, dp_same s1 ha, za, fun H2 s2 => ⟨_, rfl, ?_⟩⟩
      have s2 := s1.trans s2
      have bad2 : countOk 2 da = false → ∀ H', Same H H' → ∀ dd H'', Left H' dd "part" (.str "arguments") H'' → E (.ref CP) (some dd) H'' := fun e H' s dd H'' l => by
        have o := put (some (.part "arguments")) (by unfold funOut; rw [en, e]; rfl)
        exact o dd H'' (l.back s)
      cases da with
      | int n =>
        cases ha
        refine iteF ?_
        refine ⟨_, rfl, _, _, rfl, rfl, _, rfl, ?_⟩
        cases h0 : decide (0 ≤ n) with
        | false =>
          have e : countOk 2 (.int n) = false := by
            show (decide (0 ≤ n) && decide (n ≤ 2)) = false
            rw [h0]
            rfl
          exact iteF ⟨_, rfl, iteT ⟨one, mk_left fun dd H' l => bad2 e _ s2 dd H' l⟩⟩
        | true =>
        refine iteT ⟨_, _, rfl, rfl, _, rfl, ?_⟩
        cases h2 : decide (n ≤ 2) with
        | false =>
          have e : countOk 2 (.int n) = false := by
            show (decide (0 ≤ n) && decide (n ≤ 2)) = false
            rw [h0, h2]
            rfl
          exact iteT ⟨one, mk_left fun dd H' l => bad2 e _ s2 dd H' l⟩
        | true =>
        have eA : countOk 2 (.int n) = true := by
          show (decide (0 ≤ n) && decide (n ≤ 2)) = true
          rw [h0, h2]
          rfl
        refine iteF ?_
        unfold tNext
        dsimp only
        refine q_asgP (Pr := fun v H' => ∃ x i, v = .ref x ∧ Same H H' ∧ LabAt H' CL x i ∧ lab.filter noLab = none ∧ LabNo H CL vl lab i) (fun Q' hq => ?_) (fun v H3 hv => ?_)
        · refine ⟨vl, rfl, vl, rfl, ?_⟩
          rcases hl with ⟨a2, i, rfl, rfl, la⟩ | ⟨d, rfl, hd⟩
          · exact .inl ⟨a2, i, rfl, la.ext s2, fun H' s' => hq _ _ ⟨a2, i, rfl, s2.trans s', (la.ext s2).ext s', rfl, .inl ⟨a2, rfl, rfl, la⟩⟩⟩
          · by_cases hno : noLab d = true
            · have o := put (some (.label d)) (by unfold funOut; rw [en, eA, Option.filter_some_pos hno]; rfl)
              exact .inr (.inr ⟨d, dp_same s2 hd, hno, fun dd H' l => o dd H' (l.back s2)⟩)
            · obtain ⟨i, z, hi, rfl⟩ := lab_of (eq_false_of_ne_true hno)
              cases hd
              exact .inr (.inl ⟨i, z, hi, rfl, fun x H' s' lx => hq _ _ ⟨x, i, rfl, s2.trans s', lx, Option.filter_some_neg (eq_false_of_ne_true hno), .inr ⟨z, rfl, hi⟩⟩⟩)
        · obtain ⟨x, i, rfl, s3, lx, ef, lno⟩ := hv
          have eL : ∀ r, funOut dn (.int n) dr lab dw dc = r ↔ (if !isTerm n dr then some (.term dr) else if !areWrites dw then some (.part "writes") else
              match badTerm n (entries dw) with
              | some t => some (.term t)
              | none => if !countOk 99 dc then some (.part "cost") else none) = r := fun r => by
            unfold funOut
            rw [en, eA, ef]
            exact Iff.rfl
          refine ⟨vr, rfl, .int n, rfl, vr, dr, n, rfl, dp_same s3 hre, zr, fun H4 t4 => ⟨_, rfl, ?_⟩⟩
          have s4 := s3.trans t4
          have lx := lx.ext t4
          cases et : isTerm n dr with
          | false =>
            have o := put (some (.term dr)) ((eL _).mpr (by rw [et]; rfl))
            exact iteT ⟨vr, rfl, one, mk_left fun dd H' l => o vr dd H' (dp_same (s4.trans l.2.1) hre) (l.back s4)⟩
          | true =>
          refine iteF ?_
          refine ⟨vw, rfl, vw, dw, rfl, dp_same s4 hw, zw, fun H5 t5 => ⟨_, rfl, ?_⟩⟩
          have s5 := s4.trans t5
          have lx := lx.ext t5
          cases ew : areWrites dw with
          | false =>
            have o := put (some (.part "writes")) ((eL _).mpr (by rw [et, ew]; rfl))
            exact iteT ⟨one, mk_left fun dd H' l => o dd H' (l.back s5)⟩
          | true =>
          refine iteF ?_
          cases dw with
          | list ds =>
            cases hw with
            | @lst wa xs _ hs hds =>
            have len := dpA_len hds
            refine ⟨.ref wa, rfl, wa, rfl, ⟨_, s5.seq hs⟩, ?_⟩
            refine for_list (K := K) (a := wa) (xs := xs) (fun k σ H' => ∃ z8 z9, σ = [some (.ref a), some vn, some (.int n), some vr, some vl, some (.ref wa), some vc, some (.ref x), z8, z9] ∧ Same H H' ∧ LabAt H' CL x i ∧ badTerm n ds = badTerm n (ds.drop k))
              ⟨none, none, rfl, s5, lx, rfl⟩ (fun k σ H' _ hW => ?_) (fun k v σ H6 hk hW => ?_) (fun σ H6 hW => ?_)
            · obtain ⟨_, _, _, s, _, _⟩ := hW
              exact s.seq hs
            · obtain ⟨z8, z9, rfl, s6, lx6, eb⟩ := hW
              obtain ⟨d, hd, hx0⟩ := dpA_at hds hk
              obtain ⟨z, t, rfl⟩ := writes_at (writes_of ew) hd
              have hx := dp_same s6 hx0
              have szd := szD_item (szD_seqL zw) hd
              have hdr : ds.drop k = .tuple [.str z, t] :: ds.drop (k + 1) := List.drop_eq_getElem_cons (List.getElem?_eq_some_iff.mp hd).1 ▸ by rw [(List.getElem?_eq_some_iff.mp hd).2]
              have szt : szD t = true := szD_item (i := 1) (szD_seqT szd) rfl
              cases hx with
              | @tup b ys _ hb hy =>
              obtain ⟨y0, y1, rfl, hy0, hy1⟩ := dp_pair hy
              refine ⟨b, _, rfl, hb, rfl, ?_⟩
              refine ⟨y0, [y1], rfl, y1, [], rfl, rfl, ?_⟩
              refine ⟨y1, rfl, .int n, rfl, y1, t, n, rfl, hy1, szt, fun H7 s7 => ⟨_, rfl, ?_⟩⟩
              cases ett : isTerm n t with
              | false =>
                have eb2 : badTerm n ds = some t := by
                  rw [eb, hdr]
                  show (if isTerm n t then badTerm n (ds.drop (k + 1)) else some t) = some t
                  rw [ett]
                  rfl
                have o := put (some (.term t)) ((eL _).mpr (by
                  rw [et, ew]
                  show (match badTerm n ds with | some t => some (FErr.term t) | none => _) = _
                  rw [eb2]))
                exact iteT ⟨y1, rfl, one, mk_left fun dd H' l => o y1 dd H' (dp_same (s7.trans l.2.1) hy1) (l.back (s6.trans s7))⟩
              | true =>
                refine iteF ⟨_, _, rfl, s6.trans s7, lx6.ext s7, ?_⟩
                rw [eb, hdr]
                show (if isTerm n t then badTerm n (ds.drop (k + 1)) else some t) = _
                rw [ett]
                rfl
            · obtain ⟨z8, z9, rfl, s6, lx6, eb⟩ := hW
              have eb2 : badTerm n ds = none := by
                rw [eb, len, List.drop_length]
                rfl
              have eM : ∀ r, (if !countOk 99 dc then some (FErr.part "cost") else none) = r → funOut dn (.int n) dr lab (.list ds) dc = r := fun r e => (eL r).mpr (by
                rw [et, ew]
                show (match badTerm n ds with | some t => some (FErr.term t) | none => _) = _
                rw [eb2]
                exact e)
              have bad99 : countOk 99 dc = false → ∀ H', Same H H' → ∀ dd H'', Left H' dd "part" (.str "cost") H'' → E (.ref CP) (some dd) H'' := fun e H' s dd H'' l => by
                have o := put (some (.part "cost")) (eM _ (by rw [e]; rfl))
                exact o dd H'' (l.back s)
              dsimp only
              refine ⟨vc, rfl, vc, dc, rfl, dp_same s6 hc, zc, fun H7 t7 => ⟨_, rfl, ?_⟩⟩
              have s7 := s6.trans t7
              have lx := lx6.ext t7
              cases dc with
              | int m =>
                cases hc
                refine iteF ?_
                refine ⟨_, rfl, _, _, rfl, rfl, _, rfl, ?_⟩
                cases g0 : decide (0 ≤ m) with
                | false =>
                  have e : countOk 99 (.int m) = false := by
                    show (decide (0 ≤ m) && decide (m ≤ 99)) = false
                    rw [g0]
                    rfl
                  exact iteF ⟨_, rfl, iteT ⟨one, mk_left fun dd H' l => bad99 e _ s7 dd H' l⟩⟩
                | true =>
                refine iteT ⟨_, _, rfl, rfl, _, rfl, ?_⟩
                cases g2 : decide (m ≤ 99) with
                | false =>
                  have e : countOk 99 (.int m) = false := by
                    show (decide (0 ≤ m) && decide (m ≤ 99)) = false
                    rw [g0, g2]
                    rfl
                  exact iteT ⟨one, mk_left fun dd H' l => bad99 e _ s7 dd H' l⟩
                | true =>
                have eC : countOk 99 (.int m) = true := by
                  show (decide (0 ≤ m) && decide (m ≤ 99)) = true
                  rw [g0, g2]
                  rfl
                have o := put none (eM _ (by rw [eC]; rfl))
                refine iteF ?_
                have e7 := s7 _ _ ea
                refine ⟨vn, rfl, .ref a, rfl, a, CF, dx, [], rfl, e7, C.cl, C.n1, (by decide), ?_⟩
                refine ⟨.int n, rfl, .ref a, rfl, a, CF, dx, _, rfl, upd_same, C.cl, C.n2, (by show 1 < 1000; decide), ?_⟩
                rw [upd_twice]
                refine ⟨vr, rfl, .ref a, rfl, a, CF, dx, _, rfl, upd_same, C.cl, C.n3, (by show 2 < 1000; decide), ?_⟩
                rw [upd_twice]
                refine ⟨.ref x, rfl, .ref a, rfl, a, CF, dx, _, rfl, upd_same, C.cl, C.n4, (by show 3 < 1000; decide), ?_⟩
                rw [upd_twice]
                have b4 : ∀ (o4 : HO) b o, H7 b = some o → b ≠ a → upd H7 a o4 b = some o := fun o4 b o e nb => by
                  rw [upd_ne nb]
                  exact e
                refine ⟨.ref wa, rfl, wa, xs, rfl, .inl ⟨sqL_aside e7 (b4 _) (s7.seq hs), fun tw ntw => ?_⟩⟩
                have hne : a ≠ tw := ne_of_none upd_same ntw
                refine ⟨.ref a, rfl, a, CF, dx, _, rfl, same_upd ntw _ _ upd_same, C.cl, C.n5, (by show 4 < 1000; decide), ?_⟩
                refine ⟨.int m, rfl, .ref a, rfl, a, CF, dx, _, rfl, upd_same, C.cl, C.n6, (by show 5 < 1000; decide), ?_⟩
                rw [upd_twice]
                have b9 : ∀ (o4 o5 : HO) b o, H7 b = some o → b ≠ a → upd (upd (upd H7 a o4) tw (.tup xs)) a o5 b = some o := fun o4 o5 b o e nb => by
                  rw [upd_ne nb]
                  refine same_upd ?_ _ _ (b4 o4 b o e nb)
                  rw [upd_ne hne.symm]
                  rw [upd_ne hne.symm] at ntw
                  exact ntw
                refine o _ _ (fun b ob e nb => b9 _ _ b ob (s7 _ _ e) nb) upd_same ⟨rfl, rfl, rfl, rfl, ⟨x, i, rfl, lab_aside e7 (b9 _ _) lx, lno⟩, ⟨tw, rfl, .tup (.inl (.inl ?_)) (dpA_aside e7 (b9 _ _) (dpA_same s7 hds))⟩, rfl, rfl, rfl⟩
                rw [upd_ne hne.symm]
                exact upd_same
              | none => exact iteT (iteT ⟨one, mk_left fun dd H' l => bad99 rfl _ s7 dd H' l⟩)
              | bool _ => exact iteT (iteT ⟨one, mk_left fun dd H' l => bad99 rfl _ s7 dd H' l⟩)
              | str _ => exact iteT (iteT ⟨one, mk_left fun dd H' l => bad99 rfl _ s7 dd H' l⟩)
              | list _ => exact iteT (iteT ⟨one, mk_left fun dd H' l => bad99 rfl _ s7 dd H' l⟩)
              | tuple _ => exact iteT (iteT ⟨one, mk_left fun dd H' l => bad99 rfl _ s7 dd H' l⟩)
              | dict _ => exact iteT (iteT ⟨one, mk_left fun dd H' l => bad99 rfl _ s7 dd H' l⟩)
          | _ => first | exact Bool.noConfusion ew | exact absurd rfl hq
      | none => exact iteT (iteT ⟨one, mk_left fun dd H' l => bad2 rfl _ s2 dd H' l⟩)
      | bool _ => exact iteT (iteT ⟨one, mk_left fun dd H' l => bad2 rfl _ s2 dd H' l⟩)
      | str _ => exact iteT (iteT ⟨one, mk_left fun dd H' l => bad2 rfl _ s2 dd H' l⟩)
      | list _ => exact iteT (iteT ⟨one, mk_left fun dd H' l => bad2 rfl _ s2 dd H' l⟩)
      | tuple _ => exact iteT (iteT ⟨one, mk_left fun dd H' l => bad2 rfl _ s2 dd H' l⟩)
      | dict _ => exact iteT (iteT ⟨one, mk_left fun dd H' l => bad2 rfl _ s2 dd H' l⟩)

end
/-! ### a try with several clauses that give the error the same name -/
/-- what such clauses want of an error: the first one that fits has it in slot i -/
def wRow (K : PySem.W.Frag) (i : Nat) (Wout : WX) (D : Ends) : List (Value × (Addr → Value → Option Addr → TS)) → WX
  | [] => Wout
  | q :: r => fun k d σ H => ∃ fits, PySem.W.exmOne K k q.1 = some fits ∧
      (fits = true → ∀ a, H a = none → q.2 a k d ⟨fun σ' H' => D.nx (σ'.set i none) H', D.rt, fun σ' H' => D.bk (σ'.set i none) H', fun σ' H' => D.ct (σ'.set i none) H'⟩ (σ.set i (some (.ref a))) H) ∧ (fits = false → wRow K i Wout D r k d σ H)
inductive RowOk (X : Cx) (n : Str) : List ExceptHandler → List (Value × (Addr → Value → Option Addr → TS)) → Prop
  | nil : RowOk X n [] []
  | cons {x : Str} {c : Value} {ts : Addr → Value → Option Addr → TS} {b : Stmt} {bs : List Stmt} {p1 p2 : Pos} {hs : List ExceptHandler} {l : List (Value × (Addr → Value → Option Addr → TS))} (nam : Names X x c)
      (run : ∀ (a : Addr) (oe : Obj) (k : Value) (d : Option Addr) (pn : List (Addr × Obj)), Zc k d oe → (∃ vs, oe.data = .fields vs) → PSs (X.suite a ((a, oe) :: pn)) (b :: bs) (ts a k d)) (rest : RowOk X n hs l) :
      RowOk X n (.ExceptHandler (some (.Name x p1)) (some n) (b :: bs) p2 :: hs) ((c, ts) :: l)
section
variable {X : Cx} {body : List Stmt} {top : ExceptHandler} {hs : List ExceptHandler} {l : List (Value × (Addr → Value → Option Addr → TS))} {pos : Pos} {tb : WX → TS} {Wout : WX} {n : Str} {i : Nat}
theorem ps_try_row (st : X.stack = X.env :: X.outer) (fr : X.env.frame = some X.env.locals) (nd : X.N.Nodup) (at_ : X.N[i]? = some n) (loc : X.env.kindOf n = some .local) (tk : Takes X Wout)
    (inner : ∀ (W : WX) (pn : List (Addr × Obj)) (xe : Value → Shared → Prop), Takes (X.tr pn xe) W → PassesOwn (model X.prog X.w) X.A X.env xe → PSs (X.tr pn xe) body (tb W)) (row : RowOk X n (top :: hs) l) :
    PS X (.Try body (top :: hs) [] [] pos) (fun D σ H => tb (wRow X.K i Wout D l) D σ H) := ⟨fun pins s σ H D I wish => by
  have okI := I.ok
  have frames : X.A.frames = some (X.env :: X.outer) := by rw [okI.frames, st]
  refine wpAny_Try_except (wpAny_mono ((inner (wRow X.K i Wout D l) (X.pn ++ pins) (fun e s₁ => wpAny (model X.prog X.w) X.A (noteFrame e X.env) (fun _ s₂ => wpAny (model X.prog X.w) X.A (setFlight e none)
    (fun _ s₃ => wpAny (model X.prog X.w) X.A (handleBy e X.env (top :: hs)) (SP X pins D) X.xe s₃) X.xe s₂) X.xe s₁) (fun u z caught => ?_) PassesOwn.looking).run [] s σ H D (I.toTry _) wish) (fun flow z done => ?_) (fun _ _ gone => gone))
  · obtain ⟨a, B, sI, pins', τ, G, k, d, rfl, J', nb, up, sky, free, os, ag, w⟩ := caught
    have J : Inv X pins τ G sI := J'.ofTry okI
    have sky1 : Sky B (X.env :: X.outer) a (Zc k d) X.env.locals z.heap := st ▸ sky
    refine Sky.land Zc.steady frames fr sky1 fun g lies higher => ?_
    have Jg : Inv X pins τ G { z with heap := g } := J.landed nb lies.1 (up.trans higher) os ag
    obtain ⟨oe, vs, there, zc, dat⟩ := lies.there
    have away : a ∉ frs (X.env :: X.outer) := fun inn => by
      obtain ⟨_, o', e', un⟩ := lies.2.2.1.mem inn
      rw [there] at e'
      cases e'
      exact un _ dat
    have aL : a ≠ X.env.locals := fun q => away (List.mem_filterMap.mpr ⟨X.env, List.mem_cons_self, by rw [fr, q]⟩)
    have aF : a ∉ X.fs := fun inn => by
      obtain ⟨e, inn', q⟩ := List.mem_filterMap.mp inn
      exact away (List.mem_filterMap.mpr ⟨e, List.mem_cons_of_mem _ inn', q⟩)
    have Sg := Jg.suite there dat free aL aF
    have each : ∀ {hs' : List ExceptHandler} {l' : List (Value × (Addr → Value → Option Addr → TS))}, RowOk X n hs' l' → wRow X.K i Wout D l' k d τ G →
        wpAny (model X.prog X.w) X.A (handleBy (.ref a) X.env hs') (SP X pins D) X.xe { z with heap := g } := fun {hs' l'} ok => by
      induction ok with
      | nil =>
        intro out
        refine wpAny_handleBy_nil ?_
        obtain ⟨_, _, _, o2, vs2, T, oT, _, e2, z2, d2, f2, r2⟩ := id lies
        unfold PySem.passOn
        refine wpAny_bind (wpAny_field e2 d2 f2 ?_)
        rw [if_neg (show ¬ ((Value.ref T == Value.none) = true) from by simp)]
        have leave : wpAny (model X.prog X.w) X.A (setFlight (.ref a) X.env.frame) (fun _ s4 => wpAny (model X.prog X.w) X.A (throw (.ref a) : Sem Flow) (SP X pins D) X.xe s4) X.xe { z with heap := g } := by
          rw [fr]
          exact HandSPX.setFlight_upZ lies fun g2 low up2 => wpAny_throw (tk _ _ ⟨a, B, sI, pins, τ, G, k, d, rfl, J, nb, (up.trans higher).trans up2, .inr (.inr (st ▸ low)), free, os, ag, out⟩)
        first
          | exact wpAny_bind leave
          | exact wpAny_bind (wpAny_pure (wpAny_bind leave))
      | @cons x c ts b bs p1 p2 hs2 l2 nam run rest ih =>
        rintro ⟨fits, ef, yes, no⟩
        refine wpAny_handleBy_cons (codeAny_handlers_test ?_) (by intro q; cases q)
        have looks : PySem.W.Looks (model X.prog X.w) g (typeOf (.ref a)) k := fun _ _ _ _ kp q => wpAny_typeOf_ref (kp _ _ there) (by rw [zc.1]; exact q)
        have cls : ∀ {Q E : Value → Shared → Prop}, Q c { z with heap := g } → wpAny (model X.prog X.w) (X.A.mark (some (.ref a))) (eval (.Name x p1) X.env) Q E { z with heap := g } := fun {Q E} q => by
          rcases nam with ⟨vis, dbg, e | ⟨e, e', e''⟩⟩
          · exact ld_glob (X := X.suite a ((a, oe) :: (X.pn ++ pins))) Sg vis e q dbg
          · exact ld_blt (X := X.suite a ((a, oe) :: (X.pn ++ pins))) Sg vis e e' q e'' dbg
        refine cls ((PySem.W.exm_one (M := model X.prog X.w) Jg.kIn looks ef).here ?_)
        cases fits with
        | false =>
          show wpAny _ X.A (handleBy (.ref a) X.env hs2) _ _ _
          exact ih (no rfl)
        | true =>
          refine codeAny_handlers_suite_as (HandSPX.lands_againZ lies fun g4 lies4 higher4 => ?_)
          have J4 : Inv X pins τ G { z with heap := g4 } := J.landed nb lies4.1 ((up.trans higher).trans higher4) os ag
          obtain ⟨o4, v4, there4, z4, dat4⟩ := lies4.there
          refine store_ok (X := X.suite a ((a, o4) :: (X.pn ++ pins))) (v := .ref a) (J4.suite there4 dat4 free aL aF) nd at_ (.inl loc) rfl (fun s5 J5 => ?_) (.inr loc)
          refine wpAny_mono ((run a o4 k d (X.pn ++ pins) z4 ⟨_, dat4⟩).run [] s5 _ G _ J5 (yes rfl a free)) (fun flow s6 q => ?_) (fun _ _ q => q.elim)
          have close : ∀ {τ6 : L2.St} {G6 : Hp} {Q : Shared → Prop}, Inv (X.suite a ((a, o4) :: (X.pn ++ pins))) [] τ6 G6 s6 → (∀ s7, Inv X pins (τ6.set i none) G6 s7 → Q s7) →
              wpAny (model X.prog X.w) X.A (do bindName X.env n .none; unbindBehindTheSuite X.env n p2) (fun _ s7 => Q s7) X.xe s6 := fun J6 q6 => gone_ok (J6.unsuite okI) nd at_ loc q6
          cases flow with
          | ret u => exact let ⟨_, _, _, J6, r6, q6⟩ := q; close J6 fun s7 J7 => ⟨_, _, _, J7, r6, q6⟩
          | next => exact let ⟨_, _, J6, q6⟩ := q; close J6 fun s7 J7 => ⟨_, _, J7, q6⟩
          | brk => exact let ⟨_, _, J6, q6⟩ := q; close J6 fun s7 J7 => ⟨_, _, J7, q6⟩
          | cont => exact let ⟨_, _, J6, q6⟩ := q; close J6 fun s7 J7 => ⟨_, _, J7, q6⟩
    exact each row w
  · cases flow with
    | ret u => exact let ⟨v, τ, G, J, r, q⟩ := done; ⟨v, τ, G, J.ofTry okI, r, q⟩
    | next => exact let ⟨τ, G, J, q⟩ := done; wpAny_execs_nil ⟨τ, G, J.ofTry okI, q⟩
    | brk => exact let ⟨τ, G, J, q⟩ := done; ⟨τ, G, J.ofTry okI, q⟩
    | cont => exact let ⟨τ, G, J, q⟩ := done; ⟨τ, G, J.ofTry okI, q⟩⟩
end
/-! ### C(e, k = v, ..) and o.m(e, ..) in a try -/
def tMakeKS (C : Addr) (n m : Nat) (sp : Sp) (gV : List V → List V → List V) (E : L2.St → XK) (t tk : TA) : TE := fun σ H Q => t σ H fun vs H1 => tk σ H1 fun zs H2 => vs.length = n ∧ zs.length = m ∧
  ∀ x dx, H2 x = none → H2 dx = none → dx ≠ x → sp (gV (.ref x :: vs) zs) (upd (upd H2 dx (.own x)) x (.ins C dx [])) (fun v H3 => v = .non ∧ Q (.ref x) H3) (E σ)
theorem pe_makeKS {X : Cx} {CX : CXT} {C f : Addr} {fd : FuncData} {k n : Nat} {ps ks : List Str} {sp : Sp} {x : Str} {p pos : Pos} {e : Expr} {es : List Expr} {kws : List Keyword} {t tk : TA} {E : L2.St → XK} {g : List Value → List Value → List Value} {gV : List V → List V → List V}
    (M : Mk X.K C f) (F : FnOk X.prog X.w X.K X.mg X.base CX k f fd ps sp) (hr : Room (k + 1) X.A) (vis : Gl X x) (at_ : X.mg x = some (.ref C)) (bind : KBn X.K fd ps (n + 1) ks g gV) (way : ∀ σ, PassesAt CX X σ (E σ)) (ha : PA X (e :: es) t) (hk : PK X kws tk)
    (all : (backToKw pos (keywordEach kws X.env)).all (·.1.isSome) = true := by rfl) (named : (backToKw pos (keywordEach kws X.env)).filterMap (·.1) = ks := by rfl) (dbg : (x == ("__debug__" : Str)) = false := by decide)
    (one : starEach (e :: es) X.env = (false, eval e X.env) :: starEach es X.env := by rfl) (nos : ((backTo pos (starEach (e :: es) X.env)).any (·.1) || (backToKw pos (keywordEach kws X.env)).any (·.1.isNone)) = false := by rfl) :
    PE X (.Call (.Name x p) (e :: es) kws pos) (tMakeKS C n ks.length sp gV E t tk) := ⟨fun pins s σ H Q I h => by
  refine wpAny_Call_Name_kw (ld_glob I vis at_ (PySem.W.callWith_KW (h₀ := X.base) I.ok.mod.kin M.kp all (thn (ha.run pos pins s σ H _ I h) fun us s1 z => ?_) nos one) dbg)
  obtain ⟨vs, H1, I1, r, q⟩ := z
  refine thn (hk.run pos pins s1 σ H1 _ I1 q) fun ws s2 z => ?_
  obtain ⟨zs, H2, I2, rz, l1, l2, q2⟩ := z
  let m := s2.heap.objs.size
  have here := q2 (m + 1) m (I2.hok.fresh (Nat.le_succ _)) (I2.hok.fresh (Nat.le_refl _)) (Nat.ne_of_lt (Nat.lt_succ_self _))
  have made := Inv.made (C := C) I2
  have many : (Value.ref (m + 1) :: us).length = n + 1 := congrArg Nat.succ (r.length.symm.trans l1)
  have rs := bind.rel (vs := V.ref (m + 1) :: vs) (us := Value.ref (m + 1) :: us) (.cons rfl r) rz
  have bs := bind.to ⟨_, s2.gens, s2.drawn, s2.toks, s2.os⟩ (Value.ref (m + 1) :: us) ws made.kIn many (rz.length.symm.trans l2)
  rw [named]
  refine ⟨I2.kIn, wpAny_call (make_map (f := f) I2.kIn M.makes M.init (beq_iff_eq.mp M.fn) (codeAny_mono (F.run _ X.stack _ _ ⟨Value.ref (m + 1) :: us, ks.zip ws⟩ (g (Value.ref (m + 1) :: us) ws) _ _ (E σ) (hr.make C us (ks.zip ws)) (made.env0.make C us (ks.zip ws)) bs rs here) fun r s' z => ?_))⟩
  cases r with
  | error er => exact way σ pins _ _ er s' made z
  | ok fl =>
    cases fl with
    | ret u => exact let ⟨v, G, J, rv, ev, q3⟩ := made.after z; by subst ev; exact ⟨rv, V.ref (m + 1), G, J, rfl, q3⟩
    | next => exact z.elim
    | brk => exact z.elim
    | cont => exact z.elim⟩
def tMethS (C : Addr) (m : Str) (sp : Sp) (E : L2.St → XK) (ta : TE) (t : TA) : TE := fun σ H Q => ta σ H fun x H1 => ∃ a dx fs, x = .ref a ∧ H1 a = some (.ins C dx fs) ∧ fs.lookup m = none ∧ t σ H1 fun vs H2 => sp (.ref a :: vs) H2 Q (E σ)
theorem pe_methS {X : Cx} {CX : CXT} {C f : Addr} {fd : FuncData} {k : Nat} {ps : List Str} {sp : Sp} {m : Str} {pos apos : Pos} {e o : Expr} {es : List Expr} {ta : TE} {t : TA} {E : L2.St → XK} {pl : Sem Bool} (ho : PE X o ta) (cls : Cls X.K C) (met : Meth X.K C m f)
    (F : FnOk X.prog X.w X.K X.mg X.base CX k f fd ps sp) (hr : Room k X.A) (bind : Binds X.K fd ps []) (way : ∀ σ, PassesAt CX X σ (E σ)) (ha : PA X (e :: es) t) (one : starEach (e :: es) X.env = (false, eval e X.env) :: starEach es X.env := by rfl)
    (nos : (backTo pos (starEach es X.env)).any (·.1) = false := by rfl)
    (runs : eval (.Call (.Attribute o m apos) (e :: es) [] pos) X.env = (do
      let obj ← eval o X.env
      standAt apos.atName
      let (g, hd) ← holding [obj] (getMethod obj m pl)
      callWith pos g hd (backTo pos (starEach (e :: es) X.env)) (backToKw pos (keywordEach [] X.env))) := by rfl) : PE X (.Call (.Attribute o m apos) (e :: es) [] pos) (tMethS C m sp E ta t) := ⟨fun pins s σ H Q I h => by
  refine PySem.W.methodCall_KW (pl := pl) (thn (ho.run pins s σ H _ I h) fun u s1 z => ?_) runs
  obtain ⟨x, H1, I1, rx, a, dx, fs, rfl, at_, none_, q⟩ := z
  cases (show u = Value.ref a from rx)
  refine getmeth_ok I1 at_ cls met none_ (PySem.W.callWith_K (first := [.ref a]) (h₀ := X.base) I.ok.mod.kin met.kp (thn (ha.run pos pins s1 σ H1 _ I1 q) fun us s2 z => ?_) one nos)
  obtain ⟨vs, H2, I2, r, q2⟩ := z
  exact ⟨I2.kIn, run_fnS (us := .ref a :: us) (vs := .ref a :: vs) F hr bind (way σ) I2 (.cons rfl r) q2⟩⟩
/-! ### a Function by its data -/
structure FD where
  nm : Str
  ar : Int
  res : PyData
  ws : List PyData
structure FdOk (F : FD) : Prop where
  nm : isName (.str F.nm) = true
  res : isTerm F.ar F.res = true
  zr : szD F.res = true
  ws : writesGo [] F.ws = true
  bt : badTerm F.ar F.ws = none
  zw : szDs F.ws = true
  few : F.ws.length ≤ 3
/-- a Function of these data, at a -/
def FunOf (K : PySem.W.Frag) (H : Hp) (CF a : Addr) (F : FD) : Prop := FdOk F ∧ ∃ (dx : Addr) (fs : List (Str × V)) (vr : V) (wa : Addr), H a = some (.ins CF dx fs) ∧ fs.lookup ("name" : Str) = some (.str F.nm) ∧ fs.lookup ("arguments" : Str) = some (.int F.ar) ∧
  fs.lookup ("result" : Str) = some vr ∧ Dp K H vr F.res ∧ fs.lookup ("writes" : Str) = some (.ref wa) ∧ Dp K H (.ref wa) (.tuple F.ws) ∧ fs.lookup ("parts" : Str) = none
theorem FunOf.same {K : PySem.W.Frag} {H H' : Hp} {CF a : Addr} {F : FD} (h : FunOf K H CF a F) (s : Same H H') : FunOf K H' CF a F := by
  obtain ⟨k, dx, fs, vr, wa, e, h1, h2, h3, h4, h5, h6, h7⟩ := h
  exact ⟨k, dx, fs, vr, wa, s _ _ e, h1, h2, h3, dp_same s h4, h5, dp_same s h6, h7⟩
theorem LabIn.ext {K : PySem.W.Frag} {H H' : Hp} {CL : Addr} {v : V} {lab : Option PyData} (h : LabIn K H CL v lab) (s : Same H H') : LabIn K H' CL v lab := by
  rcases h with ⟨a, i, rfl, rfl, l⟩ | ⟨d, rfl, hd⟩
  · exact .inl ⟨a, i, rfl, rfl, l.ext s⟩
  · exact .inr ⟨d, rfl, dp_same s hd⟩
theorem iteD {c A B : Prop} [Decidable c] (h : c) (a : A) : if decide c = true then A else B := by
  rw [decide_eq_true h]
  exact iteT a
theorem iteDN {c A B : Prop} [Decidable c] (h : ¬ c) (b : B) : if decide c = true then A else B := by
  rw [decide_eq_false h]
  exact iteF b
theorem fdOk_of {n : Str} {m : Int} {dr dw dc : PyData} {lab : Option PyData} (h : funOut (.str n) (.int m) dr lab dw dc = none) (zr : szD dr = true) (zw : szD dw = true) : FdOk ⟨n, m, dr, entries dw⟩ := by
  unfold funOut at h
  split at h
  · cases h
  · next e1 =>
    split at h
    · cases h
    · split at h
      · cases h
      · split at h
        · cases h
        · next e4 =>
          split at h
          · cases h
          · next e5 =>
            split at h
            · cases h
            · next e6 =>
              have e1 : isName (.str n) = true := by simpa using e1
              have e4 : isTerm m dr = true := by simpa [numOf] using e4
              have e5 : areWrites dw = true := by simpa using e5
              have e6 : badTerm m (entries dw) = none := by simpa [numOf] using e6
              refine ⟨e1, e4, zr, writes_of e5, e6, ?_, ?_⟩
              · match dw, e5, zw with
                | .list ds, _, z => exact szD_seqL z
                | .tuple ds, _, z => exact szD_seqT z
              · match dw, e5 with
                | .list ds, e => exact of_decide_eq_true (Bool.and_eq_true_iff.mp e).1
                | .tuple ds, e => exact of_decide_eq_true (Bool.and_eq_true_iff.mp e).1
theorem funOf_of {K : PySem.W.Frag} {H : Hp} {CF CL a dx : Addr} {fs : List (Str × V)} {n : Str} {m : Int} {vr vc : V} {dr dw dc : PyData} {lab : Option PyData} (e : H a = some (.ins CF dx fs)) {no : Nat → Prop} (T : FunAt K H CF CL dx fs (.str n) (.int m) vr vc dw no) (hr : Dp K H vr dr) (h : funOut (.str n) (.int m) dr lab dw dc = none) (zr : szD dr = true) (zw : szD dw = true) :
    FunOf K H CF a ⟨n, m, dr, entries dw⟩ := by
  obtain ⟨wa, e2, hw⟩ := T.wr
  exact ⟨fdOk_of h zr zw, dx, fs, vr, wa, e, T.name, T.args, T.res, hr, e2, hw, T.no3⟩
/-! ### Function.parts -/
abbrev sFParts : Stmt := inClass (topS 54) 4
theorem scFParts : FnScope ["self", "_", "term"] ["self"] (defScope sFParts) := ⟨rfl, rfl, rfl, by decide +kernel, rfl, by decide +kernel, by decide +kernel⟩
def sndD : PyData → PyData
  | .tuple [_, t] => t
  | d => d
def partsF (F : FD) : List PyData := F.res :: F.ws.map sndD
structure FldC (K : PySem.W.Frag) (CF : Addr) : Prop where
  cl : Cls K CF
  n1 : NoAttr K CF "name"
  n2 : NoAttr K CF "arguments"
  n3 : NoAttr K CF "result"
  n5 : NoAttr K CF "writes"
def spFParts (K : PySem.W.Frag) (CF : Addr) : Sp := fun vs H Q _ => ∃ (a : Addr) (F : FD), vs = [.ref a] ∧ FunOf K H CF a F ∧ ∀ p xs H', Same H H' → H' p = some (.lst xs) → DpAll K H' xs (partsF F) → Q (.ref p) H'
section
variable {P : Program} {w : World} {K : PySem.W.Frag} {mg : Str → Option Value} {base : Heap}
theorem ok_fparts {CF f : Addr} {fd : FuncData} (F : Fun K "parts" "Function.parts" sFParts f fd) (C : FldC K CF) : FnOk P w K mg base CX0 1 f fd ["self"] (spFParts K CF) := by
  refine F.ok scFParts (fun vs H Q E h => ?_) (fun cdv A outer s H vs Q E hr h => ?_)
  · obtain ⟨a, F, rfl, _⟩ := h
    rfl
  · obtain ⟨a, F, rfl, ⟨ok, dx, fs, vr, wa, ea, h1, h2, h3, hr3, h5, hw, _⟩, q⟩ := h
    refine ⟨_, pss_one (ps_ret (pe_op op_cat (pe_lst (pa_cons (pe_fld (pv 0) (by rfl)) pa_nil))
      (pe_lc (own := [("_", 1), ("term", 2)]) (g := gTup K 2 (gCons (gName 1) (gCons (gName 2) gNil))) (wi := iTup K (tFld K (tVar 0) "writes")) (tt := tYes) (te := tVar 2) (by rfl) scFParts.nd (pi_tup (pe_fld (pv 0) (by rfl)))
        (blkOk_by (own := [("_", 1), ("term", 2)]) (N := ["self", "_", "term"]) (sc := defScope sFParts) (by decide +kernel)) (fun _ _ _ _ _ => pg_tup (by rfl) (pgs_cons (pg_name (i := 1) scFParts.nd rfl (Or.inl rfl)) (pgs_cons (pg_name (i := 2) scFParts.nd rfl (Or.inl rfl)) pgs_nil))) (fun _ _ _ _ _ => pts_nil) (fun _ _ _ _ _ => pv 2)))), ?_⟩
    refine ⟨.ref a, rfl, a, CF, dx, fs, vr, rfl, ea, C.cl, C.n3, h3, by show 1 ≤ sizeLine; decide, fun p np => ?_⟩
    have s1 : Same H (upd H p (.lst [vr])) := same_upd np
    cases hw with
    | @tup _ xs _ hs hds =>
    refine ⟨.ref a, rfl, a, CF, dx, fs, .ref wa, rfl, s1 _ _ ea, C.cl, C.n5, h5, wa, rfl, ⟨_, same_sqT s1 hs⟩, fun D hD => ?_⟩
    have len := dpA_len hds
    have few := ok.few
    refine walk_gen (walk_tup (K := K) (a := wa) (xs := xs)) (fun i H' => Same (upd H p (.lst [vr])) H' ∧ ∃ acc, H' D = some (.lst acc) ∧ DpAll K H acc ((F.ws.take i).map sndD)) ⟨same_upd hD, [], upd_same, .nil⟩ (fun i H' _ p => same_sqT (s1.trans p.1) hs) (fun i x H2 H3 hi p y => ?_) (fun H' p => ?_)
    · obtain ⟨s2, acc, eD, ha⟩ := p
      obtain ⟨rfl, hx⟩ := y
      obtain ⟨di, hd, hxi⟩ := dpA_at hds hx
      obtain ⟨z, t, rfl⟩ := writes_at ok.ws hd
      have hi' : i < F.ws.length := (List.getElem?_eq_some_iff.mp hd).1
      cases hxi with
      | @tup b ys _ hb hy =>
      obtain ⟨y0, y1, rfl, hy0, hy1⟩ := dp_pair hy
      refine ⟨b, _, rfl, same_sqT (s1.trans s2) hb, rfl, y0, [y1], rfl, y1, [], rfl, rfl, rfl, ?_⟩
      unfold tYes
      refine iteT ⟨y1, rfl, acc, eD, ?_, fun b o e => ?_, acc ++ [y1], upd_same, ?_⟩
      · rw [dpA_len ha, List.length_map, List.length_take]
        exact Nat.lt_of_le_of_lt (show _ ≤ 3 by omega) (by decide)
      · rw [upd_ne (ne_of_none e hD)]
        exact s2 _ _ e
      · rw [take_snoc hd, List.map_append]
        exact dpA_app ha (.cons hy1 .nil)
    · obtain ⟨s2, acc, eD, ha⟩ := p
      rw [len, List.take_length] at ha
      have t2 := s1.trans s2
      refine ⟨p, D, [vr], acc, rfl, rfl, s2 _ _ upd_same, eD, ?_, fun l nl => ?_⟩
      · rw [dpA_len ha, List.length_map]
        exact Nat.le_trans (show _ ≤ 4 by simp; omega) (by decide)
      · exact q l _ _ (t2.trans (same_upd nl)) upd_same (dpA_same (t2.trans (same_upd nl)) (.cons hr3 (dpA_same (Same.refl _) ha)))
end
/-! ### how great a term is -/
abbrev sParts : Stmt := topS 47
theorem scParts : FnScope ["term", "parts", "level"] ["term"] (defScope sParts) := ⟨rfl, rfl, rfl, by decide +kernel, rfl, by decide +kernel, by decide +kernel⟩
/-- all levels one behind the other -/
def flatGo : Nat → List PyData → List PyData
  | 0, _ => []
  | f + 1, lv => lv ++ flatGo f (lv.flatMap inner)
def deepGo : Nat → List PyData → Nat
  | 0, _ => 0
  | _ + 1, [] => 0
  | f + 1, d :: ds => 1 + deepGo f ((d :: ds).flatMap inner)
def partsD (d : PyData) : List PyData := flatGo 9 [d]
def depthD (d : PyData) : Nat := deepGo 9 [d]
theorem flatGo_nil : ∀ f, flatGo f [] = []
  | 0 => rfl
  | f + 1 => by
    show [] ++ flatGo f [] = []
    rw [flatGo_nil f]
    rfl
/-- what stands of a term that is one -/
theorem goT_true {n : Int} {f deep many : Nat} {lv : List PyData} (hne : lv ≠ []) (h : goT n f lv deep many = true) : ∃ g, f = g + 1 ∧ lv.all (hasForm n) = true ∧ many + lv.length ≤ 30 ∧ goT n g (lv.flatMap inner) (deep + 1) (many + lv.length) = true := by
  cases f with
  | zero => cases h
  | succ g =>
    rw [goT_cons hne] at h
    have h1 := Bool.and_eq_true_iff.mp h
    have h2 := Bool.and_eq_true_iff.mp h1.2
    refine ⟨g, rfl, h2.1, ?_, h2.2⟩
    have h3 : ¬ (8 < deep + 1 ∨ 30 < many + lv.length) := of_decide_eq_false (by simpa using h1.1)
    omega
def spParts (K : PySem.W.Frag) : Sp := fun vs H Q _ => ∃ (v : V) (d : PyData) (n : Int), vs = [v] ∧ Dp K H v d ∧ szD d = true ∧ isTerm n d = true ∧
  ∀ p xs H', Same H H' → H p = none → H' p = some (.lst xs) → DpAll K H xs (partsD d) → xs.length ≤ 30 → Q (.ref p) H'
/-- a number told of a term -/
def spNum (K : PySem.W.Frag) (g : PyData → Int) : Sp := fun vs H Q _ => ∃ (v : V) (d : PyData) (n : Int), vs = [v] ∧ Dp K H v d ∧ szD d = true ∧ isTerm n d = true ∧ ∀ H', Same H H' → Q (.int (g d)) H'
section
variable {P : Program} {w : World} {K : PySem.W.Frag} {mg : Str → Option Value} {base : Heap}
theorem ok_parts {f fX : Addr} {fd dX : FuncData} (F : Fun K "all_parts" "all_parts" sParts f fd)
    (GX : FnOk P w K mg base CX0 4 fX dX ["level"] (spNext K)) (FX : Fun K "_next_level" "_next_level" sNext fX dX) (bX : Binds K dX ["level"] []) (gX : mg "_next_level" = some (.ref fX)) :
    FnOk P w K mg base CX0 5 f fd ["term"] (spParts K) := by
  refine F.ok scParts (fun vs H Q E h => ?_) (fun cdv A outer s H vs Q E hr h => ?_)
  · obtain ⟨v, d, n, rfl, _⟩ := h
    rfl
  · obtain ⟨v, d, n, rfl, hv, hsz, ht, q⟩ := h
    refine ⟨_, pss_cons (ps_set (i := 1) scParts.nd rfl (.inl rfl) (pe_lst pa_nil))
      (pss_cons (ps_set (i := 2) scParts.nd rfl (.inl rfl) (pe_lst (pa_cons (pv 0) pa_nil)))
      (pss_cons (ps_while PassesOwn.never (pt_truth (pv 2) (by intro _; rfl))
        (pss_cons (ps_expr (pe_bm PySem.F.plainAttrs_list PySem.F.slot_list_extend PySem.F.type_list_extend mt_extend (pv 1) (pa_cons (pv 2) pa_nil)))
        (pss_one (ps_set (i := 2) scParts.nd rfl (.inl rfl) (pe_call GX hr (by rfl) gX FX.kp bX .nil pass0 (pa_cons (pv 2) pa_nil))))))
      (pss_one (ps_ret (pv 1))))), ?_⟩
    refine ⟨Nat.zero_le _, fun o no => ?_⟩
    refine ⟨v, rfl, (by show 1 ≤ sizeLine; decide), fun a0 na0 => ?_⟩
    have noa : o ≠ a0 := fun e => by
      rw [← e, upd_same] at na0
      cases na0
    dsimp only [gName]
    refine q_w (σ := [some v, some (.ref o), some (.ref a0)]) ?_
    refine wh_by (fun f σ H' => ∃ (a : Addr) (xs acc : List V) (lv pre : List PyData) (deep : Nat), σ = [some v, some (.ref o), some (.ref a)] ∧ a ≠ o ∧ Same H H' ∧ H' a = some (.lst xs) ∧ H' o = some (.lst acc) ∧ DpAll K H xs lv ∧ DpAll K H acc pre ∧ pre.length ≤ 30 ∧ szDs lv = true ∧ lv.length ≤ 3000 ∧ (lv = [] ∨ goT n f lv deep pre.length = true) ∧ pre ++ flatGo f lv = partsD d)
      9 ⟨a0, [v], [], [d], [], 0, rfl, noa.symm, (same_upd no).trans (same_upd na0), upd_same, by rw [upd_ne noa]; exact upd_same, .cons hv .nil, .nil, by decide, (by show (szD d && true) = true; rw [hsz]; rfl), (by show 1 ≤ 3000; decide), .inr ht, rfl⟩ (fun f σ H' hW => ?_) (fun σ H' Q1 Q2 hq ⟨x, e, k, t, q⟩ => ⟨x, e, k, t, hq _ _ q⟩)
    obtain ⟨a, xs, acc, lv, pre, deep, rfl, nao, s1, ea, eo, ha, hp, hpl, hz, hln, hg, hfl⟩ := hW
    have el : xs.length = lv.length := dpA_len ha
    have elp : acc.length = pre.length := dpA_len hp
    have hS : SqL K H' a xs := .inl (.inl ea)
    refine ⟨.ref a, rfl, _, .inl ⟨xs, hS, rfl⟩, ?_⟩
    by_cases hne : lv = []
    · have ex : xs = [] := List.eq_nil_of_length_eq_zero (by rw [el, hne]; rfl)
      subst ex
      refine iteF ⟨.ref o, rfl, q o acc H' s1 no eo ?_ (by omega)⟩
      rw [← hfl, hne, flatGo_nil, List.append_nil]
      exact hp
    · have ex : (!xs.isEmpty) = true := by
        cases xs with
        | nil => exact absurd (List.eq_nil_of_length_eq_zero el.symm) hne
        | cons _ _ => rfl
      rw [ex]
      obtain ⟨g, rfl, hb, hm, hg2⟩ := goT_true hne (hg.resolve_left hne)
      have hfl2 := flat_len hb
      refine iteT ⟨.ref o, rfl, .inl ⟨rfl, _, .inl (.inl eo)⟩, .ref a, rfl, o, a, acc, xs, rfl, rfl, eo, ea, ?_, ?_⟩
      · rw [elp, el]
        exact Nat.le_trans (show pre.length + lv.length ≤ 60 by omega) (by decide)
      · have s2 : Same H (upd H' o (.lst (acc ++ xs))) := fun b u e => by
          rw [upd_ne (ne_of_none e no)]
          exact s1 _ _ e
        have ea2 : (upd H' o (.lst (acc ++ xs))) a = some (.lst xs) := by
          rw [upd_ne nao]
          exact ea
        refine ⟨.ref a, rfl, a, xs, lv, n, H, rfl, s2, .inl (.inl ea2), ha, hz, hb, by omega, by omega, fun p ys H5 s5 np e5 hys => ?_⟩
        have npo : p ≠ o := fun e => by
          rw [e, upd_same] at np
          cases np
        refine ⟨g, Nat.lt_succ_self _, p, ys, acc ++ xs, lv.flatMap inner, pre ++ lv, deep + 1, rfl, npo, s2.trans s5, e5, s5 _ _ upd_same, hys, dpA_app hp ha, ?_, sz_flat hz, by omega, .inr ?_, ?_⟩
        · rw [List.length_append]
          exact hm
        · rw [List.length_append]
          exact hg2
        · rw [← hfl, List.append_assoc]
          rfl
theorem deepGo_nil : ∀ f, deepGo f [] = 0
  | 0 => rfl
  | _ + 1 => rfl
theorem deepGo_cons {f : Nat} {lv : List PyData} (h : lv ≠ []) : deepGo (f + 1) lv = 1 + deepGo f (lv.flatMap inner) := by
  cases lv with
  | nil => exact absurd rfl h
  | cons d ds => rfl
end
/-! ### levels and what stands within -/
def szF : Nat → PyData → Nat
  | 0, _ => 0
  | f + 1, d => 1 + ((inner d).map (szF f)).sum
def dpF : Nat → PyData → Nat
  | 0, _ => 0
  | f + 1, d => 1 + ((inner d).map (dpF f)).foldr max 0
def fmF (n : Int) : Nat → PyData → Bool
  | 0, _ => true
  | f + 1, d => hasForm n d && (inner d).all (fmF n f)
def sums (g : PyData → Nat) (l : List PyData) : Nat := (l.map g).sum
def most (g : PyData → Nat) (l : List PyData) : Nat := (l.map g).foldr max 0
theorem sums_app {g : PyData → Nat} {a b : List PyData} : sums g (a ++ b) = sums g a + sums g b := by
  unfold sums
  rw [List.map_append, List.sum_append]
theorem most_app {g : PyData → Nat} : ∀ {a b : List PyData}, most g (a ++ b) = max (most g a) (most g b)
  | [], b => by
    show most g b = max 0 (most g b)
    omega
  | d :: a, b => by
    show max (g d) (most g (a ++ b)) = max (max (g d) (most g a)) (most g b)
    rw [most_app]
    omega
theorem sums_flat {f : Nat} : ∀ {l : List PyData}, sums (szF (f + 1)) l = l.length + sums (szF f) (l.flatMap inner)
  | [] => rfl
  | d :: l => by
    rw [List.flatMap_cons, sums_app]
    show (1 + sums (szF f) (inner d)) + sums (szF (f + 1)) l = (l.length + 1) + _
    rw [sums_flat]
    omega
theorem most_flat {f : Nat} : ∀ {l : List PyData}, l ≠ [] → most (dpF (f + 1)) l = 1 + most (dpF f) (l.flatMap inner)
  | [], h => absurd rfl h
  | [d], _ => by
    rw [List.flatMap_cons, List.flatMap_nil, List.append_nil]
    show max (1 + most (dpF f) (inner d)) 0 = _
    omega
  | d :: e :: l, _ => by
    rw [List.flatMap_cons, most_app]
    have h := most_flat (f := f) (l := e :: l) (List.cons_ne_nil _ _)
    show max (1 + most (dpF f) (inner d)) (most (dpF (f + 1)) (e :: l)) = _
    rw [h]
    omega
theorem all_flat {n : Int} {f : Nat} : ∀ {l : List PyData}, l.all (fmF n (f + 1)) = (l.all (hasForm n) && (l.flatMap inner).all (fmF n f))
  | [] => rfl
  | d :: l => by
    rw [List.flatMap_cons, List.all_append, List.all_cons, List.all_cons, all_flat]
    show ((hasForm n d && (inner d).all (fmF n f)) && (l.all (hasForm n) && (l.flatMap inner).all (fmF n f))) = _
    cases hasForm n d <;> cases (inner d).all (fmF n f) <;> cases l.all (hasForm n) <;> cases (l.flatMap inner).all (fmF n f) <;> rfl
theorem goT_is {n : Int} : ∀ (f : Nat) (lv : List PyData) (deep many : Nat), f + deep = 9 → 1 ≤ f → many ≤ 30 → goT n f lv deep many = (lv.all (fmF n f) && (decide (many + sums (szF f) lv ≤ 30) && decide (deep + most (dpF f) lv ≤ 8)))
  | 0, _, _, _, _, h, _ => absurd h (by decide)
  | f + 1, [], deep, many, hf, _, hm => by
    show true = (true && (decide (many + 0 ≤ 30) && decide (deep + 0 ≤ 8)))
    rw [decide_eq_true (show many + 0 ≤ 30 by omega), decide_eq_true (show deep + 0 ≤ 8 by omega)]
    rfl
  | f + 1, d :: ds, deep, many, hf, _, hm => by
    have hne : d :: ds ≠ [] := List.cons_ne_nil _ _
    generalize d :: ds = lv at hne
    rw [goT_cons hne, all_flat, sums_flat, most_flat hne]
    by_cases h1 : 8 < deep + 1 ∨ 30 < many + lv.length
    · rw [decide_eq_true h1]
      have h2 : (decide (many + (lv.length + sums (szF f) (lv.flatMap inner)) ≤ 30) && decide (deep + (1 + most (dpF f) (lv.flatMap inner)) ≤ 8)) = false := by
        rcases h1 with h1 | h1
        · rw [decide_eq_false (show ¬ deep + (1 + most (dpF f) (lv.flatMap inner)) ≤ 8 by omega), Bool.and_false]
        · rw [decide_eq_false (show ¬ many + (lv.length + sums (szF f) (lv.flatMap inner)) ≤ 30 by omega)]
          rfl
      rw [h2, Bool.and_false]
      rfl
    · rw [decide_eq_false h1]
      rw [goT_is f _ (deep + 1) (many + lv.length) (by omega) (by omega) (by omega)]
      have e1 : decide (many + lv.length + sums (szF f) (lv.flatMap inner) ≤ 30) = decide (many + (lv.length + sums (szF f) (lv.flatMap inner)) ≤ 30) := by
        rw [Nat.add_assoc]
      have e2 : decide (deep + 1 + most (dpF f) (lv.flatMap inner) ≤ 8) = decide (deep + (1 + most (dpF f) (lv.flatMap inner)) ≤ 8) := by
        rw [Nat.add_assoc]
      rw [e1, e2]
      cases lv.all (hasForm n) <;> cases (lv.flatMap inner).all (fmF n f) <;> rfl
theorem isTerm_is (n : Int) (d : PyData) : isTerm n d = (fmF n 9 d && (decide (szF 9 d ≤ 30) && decide (dpF 9 d ≤ 8))) := by
  unfold isTerm
  rw [goT_is 9 [d] 0 0 rfl (by decide) (by decide)]
  have e1 : sums (szF 9) [d] = szF 9 d := by
    show szF 9 d + 0 = _
    omega
  have e2 : most (dpF 9) [d] = dpF 9 d := by
    show max (dpF 9 d) 0 = _
    omega
  rw [e1, e2, Nat.zero_add, Nat.zero_add]
  show ((fmF n 9 d && true) && _) = _
  rw [Bool.and_true]
theorem flatGo_len : ∀ (f : Nat) (lv : List PyData), (flatGo f lv).length = sums (szF f) lv
  | 0, lv => by
    show 0 = sums (fun _ => 0) lv
    unfold sums
    induction lv with
    | nil => rfl
    | cons d l ih => rw [List.map_cons, List.sum_cons, ← ih]
  | f + 1, lv => by
    show (lv ++ flatGo f (lv.flatMap inner)).length = _
    rw [List.length_append, flatGo_len f, sums_flat]
theorem deepGo_is : ∀ (f : Nat) (lv : List PyData), deepGo f lv = most (dpF f) lv
  | 0, lv => by
    show 0 = most (fun _ => 0) lv
    induction lv with
    | nil => rfl
    | cons d l ih =>
      show 0 = max 0 (most _ l)
      rw [← ih]
      rfl
  | _ + 1, [] => rfl
  | f + 1, d :: ds => by
    rw [deepGo_cons (List.cons_ne_nil _ _), most_flat (List.cons_ne_nil _ _), deepGo_is f]
theorem partsD_len (d : PyData) : (partsD d).length = szF 9 d := by
  unfold partsD
  rw [flatGo_len]
  show szF 9 d + 0 = _
  omega
theorem depthD_is (d : PyData) : depthD d = dpF 9 d := by
  unfold depthD
  rw [deepGo_is]
  show max (dpF 9 d) 0 = _
  omega
/-! ### chains and trees -/
/-- a word with two terms -/
def bin (h : Str) : Prop := h = "plus" ∨ h = "less" ∨ h = "same"
theorem bin_form {h : Str} (hb : bin h) (n : Int) (a b : PyData) : hasForm n (.tuple [.str h, a, b]) = true := by
  rcases hb with rfl | rfl | rfl <;> rfl
theorem bin_inner {h : Str} (hb : bin h) (a b : PyData) : inner (.tuple [.str h, a, b]) = [a, b] := by
  rcases hb with rfl | rfl | rfl <;> rfl
theorem bin_sz {h : Str} (hb : bin h) {a b : PyData} (ha : szD a = true) (hbb : szD b = true) : szD (.tuple [.str h, a, b]) = true := by
  have e : szD (.str h) = true := by rcases hb with rfl | rfl | rfl <;> decide +kernel
  show (decide (3 ≤ 1000) && (szD (.str h) && (szD a && (szD b && true)))) = true
  rw [e, ha, hbb]
  rfl
theorem bin_noL {h : Str} {a b : PyData} (ha : noL a = true) (hbb : noL b = true) : noL (.tuple [.str h, a, b]) = true := by
  show (true && (noL a && (noL b && true))) = true
  rw [ha, hbb]
  rfl
theorem bin_szF {h : Str} (hb : bin h) (a b : PyData) (f : Nat) : szF (f + 1) (.tuple [.str h, a, b]) = 1 + szF f a + szF f b := by
  show 1 + ((inner (.tuple [.str h, a, b])).map (szF f)).sum = _
  rw [bin_inner hb]
  show 1 + (szF f a + (szF f b + 0)) = _
  omega
theorem bin_dpF {h : Str} (hb : bin h) (a b : PyData) (f : Nat) : dpF (f + 1) (.tuple [.str h, a, b]) = 1 + max (dpF f a) (dpF f b) := by
  show 1 + ((inner (.tuple [.str h, a, b])).map (dpF f)).foldr max 0 = _
  rw [bin_inner hb]
  show 1 + max (dpF f a) (max (dpF f b) 0) = _
  omega
theorem bin_fmF {h : Str} (hb : bin h) {a b : PyData} {n : Int} {f : Nat} (ha : fmF n f a = true) (hbb : fmF n f b = true) : fmF n (f + 1) (.tuple [.str h, a, b]) = true := by
  show (hasForm n (.tuple [.str h, a, b]) && (inner (.tuple [.str h, a, b])).all (fmF n f)) = true
  rw [bin_form hb, bin_inner hb]
  show (true && (fmF n f a && (fmF n f b && true))) = true
  rw [ha, hbb]
  rfl
theorem val_inner (i : Int) : inner (.int i) = [] := rfl
theorem val_szF (i : Int) (f : Nat) : szF (f + 1) (.int i) = 1 := rfl
theorem val_dpF (i : Int) (f : Nat) : dpF (f + 1) (.int i) = 1 := rfl
theorem val_fmF {i : Int} (h0 : 0 ≤ i) (h3 : i < 3) (n : Int) : ∀ f : Nat, fmF n f (.int i) = true
  | 0 => rfl
  | f + 1 => by
    show ((isValue (.int i) || false) && true) = true
    have e : isValue (.int i) = true := by
      show (decide (0 ≤ i) && decide (i < 3)) = true
      rw [decide_eq_true h0, decide_eq_true h3]
      rfl
    rw [e]
    rfl
/-- a chain of k -/
structure Ch (k : Nat) (d : PyData) : Prop where
  pos : 1 ≤ k
  fm : ∀ (n : Int) (f : Nat), fmF n f d = true
  dp : ∀ f, dpF f d = min k f
  sz : ∀ f, k ≤ f → szF f d = 2 * k - 1
  ok : szD d = true
  nl : noL d = true
theorem ch_one {i : Int} (h0 : 0 ≤ i) (h3 : i < 3) : Ch 1 (.int i) where
  pos := Nat.le_refl _
  fm := fun n f => val_fmF h0 h3 n f
  dp := fun f => by
    cases f with
    | zero => rfl
    | succ f =>
      rw [val_dpF]
      omega
  sz := fun f hf => by
    cases f with
    | zero => omega
    | succ f => rfl
  ok := rfl
  nl := rfl
theorem ch_left {h : Str} (hb : bin h) {k : Nat} {d : PyData} (c : Ch k d) {i : Int} (h0 : 0 ≤ i) (h3 : i < 3) : Ch (k + 1) (.tuple [.str h, d, .int i]) where
  pos := Nat.le_add_left _ _
  fm := fun n f => by
    cases f with
    | zero => rfl
    | succ f => exact bin_fmF hb (c.fm n f) (val_fmF h0 h3 n f)
  dp := fun f => by
    cases f with
    | zero => rfl
    | succ f =>
      have := c.pos
      rw [bin_dpF hb, c.dp]
      cases f with
      | zero =>
        show 1 + max (min k 0) 0 = _
        omega
      | succ f =>
        rw [val_dpF]
        omega
  sz := fun f hf => by
    cases f with
    | zero => omega
    | succ f =>
      have := c.pos
      rw [bin_szF hb, c.sz f (by omega)]
      cases f with
      | zero => omega
      | succ f =>
        rw [val_szF]
        omega
  ok := bin_sz hb c.ok rfl
  nl := bin_noL c.nl rfl
theorem ch_right {h : Str} (hb : bin h) {k : Nat} {d : PyData} (c : Ch k d) {i : Int} (h0 : 0 ≤ i) (h3 : i < 3) : Ch (k + 1) (.tuple [.str h, .int i, d]) where
  pos := Nat.le_add_left _ _
  fm := fun n f => by
    cases f with
    | zero => rfl
    | succ f => exact bin_fmF hb (val_fmF h0 h3 n f) (c.fm n f)
  dp := fun f => by
    cases f with
    | zero => rfl
    | succ f =>
      have := c.pos
      rw [bin_dpF hb, c.dp]
      cases f with
      | zero =>
        show 1 + max 0 (min k 0) = _
        omega
      | succ f =>
        rw [val_dpF]
        omega
  sz := fun f hf => by
    cases f with
    | zero => omega
    | succ f =>
      have := c.pos
      rw [bin_szF hb, c.sz f (by omega)]
      cases f with
      | zero => omega
      | succ f =>
        rw [val_szF]
        omega
  ok := bin_sz hb rfl c.ok
  nl := bin_noL rfl c.nl
theorem ch_isTerm {k : Nat} {d : PyData} (c : Ch k d) (n : Int) : isTerm n d = decide (k ≤ 8) := by
  rw [isTerm_is, c.fm, c.dp]
  by_cases h : k ≤ 8
  · rw [c.sz 9 (by omega), decide_eq_true h, decide_eq_true (show 2 * k - 1 ≤ 30 by omega), decide_eq_true (show min k 9 ≤ 8 by omega)]
    rfl
  · rw [decide_eq_false h, decide_eq_false (show ¬ min k 9 ≤ 8 by omega), Bool.and_false]
    rfl
/-- a tree of m leaves, at most h deep -/
structure Tr (m h : Nat) (d : PyData) : Prop where
  pos : 1 ≤ h
  mp : 1 ≤ m
  fm : ∀ (n : Int) (f : Nat), fmF n f d = true
  dp : ∀ f, dpF f d ≤ h
  sz : ∀ f, h ≤ f → szF f d = 2 * m - 1
  ok : szD d = true
  nl : noL d = true
theorem tr_one {i : Int} (h0 : 0 ≤ i) (h3 : i < 3) {h : Nat} (hh : 1 ≤ h) : Tr 1 h (.int i) where
  pos := hh
  mp := Nat.le_refl _
  fm := fun n f => val_fmF h0 h3 n f
  dp := fun f => by
    cases f with
    | zero => exact Nat.zero_le _
    | succ f =>
      rw [val_dpF]
      exact hh
  sz := fun f hf => by
    cases f with
    | zero => omega
    | succ f => rfl
  ok := rfl
  nl := rfl
theorem Tr.mono {m h h' : Nat} {d : PyData} (t : Tr m h d) (hh : h ≤ h') : Tr m h' d :=
  ⟨Nat.le_trans t.pos hh, t.mp, t.fm, fun f => Nat.le_trans (t.dp f) hh, fun f hf => t.sz f (Nat.le_trans hh hf), t.ok, t.nl⟩
theorem tr_two {w : Str} (hb : bin w) {m1 m2 h : Nat} {a b : PyData} (ta : Tr m1 h a) (tb : Tr m2 h b) : Tr (m1 + m2) (h + 1) (.tuple [.str w, a, b]) where
  pos := Nat.le_add_left _ _
  mp := Nat.le_trans ta.mp (Nat.le_add_right _ _)
  fm := fun n f => by
    cases f with
    | zero => rfl
    | succ f => exact bin_fmF hb (ta.fm n f) (tb.fm n f)
  dp := fun f => by
    cases f with
    | zero => exact Nat.zero_le _
    | succ f =>
      have := ta.dp f
      have := tb.dp f
      rw [bin_dpF hb]
      omega
  sz := fun f hf => by
    cases f with
    | zero => omega
    | succ f =>
      have := ta.mp
      have := tb.mp
      rw [bin_szF hb, ta.sz f (by omega), tb.sz f (by omega)]
      omega
  ok := bin_sz hb ta.ok tb.ok
  nl := bin_noL ta.nl tb.nl
theorem tr_isTerm {m h : Nat} {d : PyData} (t : Tr m h d) (n : Int) (hh : h ≤ 8) : isTerm n d = decide (2 * m - 1 ≤ 30) := by
  rw [isTerm_is, t.fm, t.sz 9 (by omega), decide_eq_true (Nat.le_trans (t.dp 9) hh), Bool.and_true]
  rfl
/-! ### names once, ascending -/
section
variable {X : Cx}
/-- what holds of a text in the block of a comprehension -/
abbrev InBlk (X : Cx) (scope : Scope) (p : Cx → Prop) : Prop :=
  ∀ (s0 : Shared) (H0 : Hp) (at_ : Addr) (cells : List (Str × Addr)) (mine : List Addr), p (X.blk s0 H0 scope (compEnvC scope cells at_ X.env) mine)
/-- name = {k: v for target in iter} -/
theorem ps_setDc {i : Nat} {y : Str} {py : Pos} {kx vx tg iter : Expr} {ifs : List Expr} {scope : Scope} {own : List (Str × Nat)} {pos spos : Pos} {wi : TI} {g : TG} {tt : TT} {tk tv : TE} (calm : X.calm = true) (unlike : X.N.Nodup) (slot : X.N[i]? = some y)
    (here : X.env.scope.names.lookup y = some .local) (swaps : swapsWith (.DictComp kx vx [⟨tg, iter, ifs, 0⟩] scope pos) (some (.Name y py)) spos.line X.env = pure true) (walk : PI X tg iter wi) (blk : BlkOk X.N X.env.scope scope own)
    (rg : InBlk X scope fun Y => PG Y tg g) (rt : InBlk X scope fun Y => PTs Y ifs tt) (rk : InBlk X scope fun Y => PE Y kx tk) (rv : InBlk X scope fun Y => PE Y vx tv) (plain : ∀ v, foldedSetIterable iter X.env v = pure v := by intro _; rfl) :
    PS X (.Assign [.Name y py] (.DictComp kx vx [⟨tg, iter, ifs, 0⟩] scope pos) spos) (tAsg (tDc wi g tt tk tv (own.map (·.2))) (gName i)) := by
  constructor
  intro pins st σ H D inv want
  have want' : tDc wi g tt tk tv (own.map (·.2)) σ H (fun made Hm => gName i made σ Hm D.nx) := want
  have run := dc_core (pos := pos) (pos' := firstIterPos [⟨tg, iter, ifs, 0⟩] pos) (use := some (assign (.Name y py) X.env)) (Qf := fun _ st' => SP X pins D .next st') calm unlike inv walk blk rg rt rk rv plain want' (fun made C st' m Hm inv' good names free => by
    refine wpAny_assign_Name (store_ok2 (v := V.ref made) inv' unlike slot (Or.inl here) (show RelV (V.ref made) (Value.ref made) from rfl) (fun st2 inv2 moved => ?_) (Or.inr here))
    obtain ⟨cell, other, where_⟩ := moved
    have apart : C ≠ cell := where_.elim (fun h => h ▸ free.2.1) (fun h q => free.2.2.2.2.1 y cell h q.symm)
    exact ⟨m, names.sameBut other apart, fun last other2 => ⟨_, Hm, inv2.turned (t' := st2.toks) (fun b o nb old => (other2.2 b nb).trans old) free.1 free.2.1 free.2.2.2.1 free.2.2.2.2.1 free.2.2.2.2.2, good⟩⟩)
  rw [exec_Assign_Name_used (hs := swaps)]
  exact wpAny_bind (wpAny_standAt (wpAny_bind (wpAny_bind (thn run fun _ st' done => wpAny_pure (wpAny_pure done)))))
theorem swd_true {kx vx : Expr} {gs : List Comprehension} {scope : Scope} {pos py : Pos} {y : Str} {l : Nat} {env : Env} (fn : env.scope.kind = .function) (here : env.scope.names.lookup y = some .local) (line : (py.line == pos.line) = true)
    (none_ : (scope.names.any fun (n, k) => n == y && (k == .local || k == .cell)) = false) : swapsWith (.DictComp kx vx gs scope pos) (some (.Name y py)) l env = pure true := by
  have kindY : env.kindOf y = some .local := here
  have kindB : env.blockKind = .function := (show _ = _ by rw [Env.blockKind, fn]; rfl)
  simp only [swapsWith, kindY, kindB, none_, line, Expr.pos]
  rfl
end
def addS (acc : List Str) (x : Str) : List Str := if x ∈ acc then acc else acc ++ [x]
def onceS (xs : List Str) : List Str := xs.foldl addS []
theorem mem_addS {acc : List Str} {x y : Str} : y ∈ addS acc x ↔ y ∈ acc ∨ y = x := by
  unfold addS
  split
  · rename_i h
    constructor
    · exact .inl
    · rintro (h2 | rfl)
      · exact h2
      · exact h
  · rw [List.mem_append, List.mem_singleton]
theorem nodup_addS {acc : List Str} {x : Str} (h : acc.Nodup) : (addS acc x).Nodup := by
  unfold addS
  split
  · exact h
  · rename_i hx
    rw [List.nodup_append]
    refine ⟨h, by simp, fun a ha b hb e => ?_⟩
    rw [List.mem_singleton] at hb
    subst hb
    subst e
    exact hx ha
theorem len_addS {acc : List Str} {x : Str} : (addS acc x).length ≤ acc.length + 1 := by
  unfold addS
  split
  · omega
  · rw [List.length_append]
    exact Nat.le_refl _
theorem onceS_snoc {xs : List Str} {x : Str} : onceS (xs ++ [x]) = addS (onceS xs) x := by
  unfold onceS
  rw [List.foldl_append]
  rfl
theorem fold_mem : ∀ {xs acc : List Str} {y : Str}, y ∈ xs.foldl addS acc ↔ y ∈ acc ∨ y ∈ xs
  | [], _, _ => by simp
  | x :: xs, acc, y => by
    rw [List.foldl_cons, fold_mem, mem_addS, List.mem_cons, or_assoc]
theorem fold_nodup : ∀ {xs acc : List Str}, acc.Nodup → (xs.foldl addS acc).Nodup
  | [], _, h => h
  | x :: xs, acc, h => fold_nodup (xs := xs) (nodup_addS h)
theorem fold_len : ∀ {xs acc : List Str}, (xs.foldl addS acc).length ≤ acc.length + xs.length
  | [], _ => Nat.le_refl _
  | x :: xs, acc => by
    have h1 := fold_len (xs := xs) (acc := addS acc x)
    have h2 := len_addS (acc := acc) (x := x)
    rw [List.foldl_cons, List.length_cons]
    omega
theorem onceS_mem {xs : List Str} {y : Str} : y ∈ onceS xs ↔ y ∈ xs := by
  unfold onceS
  rw [fold_mem]
  simp
theorem onceS_nodup {xs : List Str} : (onceS xs).Nodup := fold_nodup .nil
theorem onceS_len {xs : List Str} : (onceS xs).length ≤ xs.length := by
  have := fold_len (xs := xs) (acc := [])
  unfold onceS
  simpa using this
theorem keys_put {kvs : List (Key × V)} {ks : List Str} (h : kvs.map (·.1) = ks.map Sum.inr) (x : Str) (v : V) : (putK kvs (.inr x : Key) v).map (·.1) = (addS ks x).map Sum.inr := by
  have e : (kvs.any fun kv => decide (kv.1 = (.inr x : Key))) = decide (x ∈ ks) := by
    have e1 : (kvs.any fun kv => decide (kv.1 = (.inr x : Key))) = (kvs.map (·.1)).any (fun k => decide (k = (.inr x : Key))) := by
      rw [List.any_map]
      rfl
    rw [e1, h, List.any_map, Bool.eq_iff_iff]
    simp
  unfold putK
  rw [e]
  unfold addS
  by_cases hx : x ∈ ks
  · rw [decide_eq_true hx, if_pos rfl, if_pos hx, ← h, List.map_map]
    refine List.map_congr_left fun kv _ => ?_
    show (if kv.1 = (.inr x : Key) then (kv.1, v) else kv).1 = kv.1
    split <;> rfl
  · rw [decide_eq_false hx, if_neg (by decide), if_neg hx, List.map_append, h, List.map_append]
    rfl
abbrev sAsc : Stmt := topS 50
theorem scAsc : FnScope ["names", "once", "name"] ["names"] (defScope sAsc) := ⟨rfl, rfl, rfl, by decide +kernel, rfl, by decide +kernel, by decide +kernel⟩
def spAsc (K : PySem.W.Frag) : Sp := fun vs H Q _ => ∃ (a : Addr) (xs : List Str), vs = [.ref a] ∧ SqL K H a (xs.map V.str) ∧ xs.length < 64 ∧
  ∀ (ys : List Str) (p : Addr) H', Same H H' → H' p = some (.lst (ys.map V.str)) → ys.Perm (onceS xs) → sortedS ys = true → Q (.ref p) H'
section
variable {P : Program} {w : World} {K : PySem.W.Frag} {mg : Str → Option Value} {base : Heap}
theorem ok_asc {f : Addr} {fd : FuncData} (F : Fun K "_ascending" "_ascending" sAsc f fd) (M : Blt mg) : FnOk P w K mg base CX0 1 f fd ["names"] (spAsc K) := by
  refine F.ok scAsc (fun vs H Q E h => ?_) (fun cdv A outer s H vs Q E hr h => ?_)
  · obtain ⟨a, xs, rfl, _⟩ := h
    rfl
  · obtain ⟨a, xs, rfl, hS, hl, q⟩ := h
    refine ⟨_, pss_cons (ps_setDc (i := 1) (own := [("name", 2)]) (g := gName 2) (tk := tVar 2) (tv := tC (.bl true)) (by rfl) scAsc.nd rfl rfl (swd_true rfl rfl rfl (by decide +kernel)) (pi_list (pv 0)) (blkOk_by (own := [("name", 2)]) (N := ["names", "once", "name"]) (sc := defScope sAsc) (by decide +kernel))
          (fun _ _ _ _ _ => pg_name (i := 2) scAsc.nd rfl (Or.inl rfl)) (fun _ _ _ _ _ => pts_nil) (fun _ _ _ _ _ => pv 2) (fun _ _ _ _ _ => pe_bl))
      (pss_one (ps_ret (pe_callB cr_sortedS (by rfl) M.sorted (by decide +kernel) (pa_cons
        (pe_lock (pe_lc (own := [("name", 2)]) (g := gName 2) (by rfl) scAsc.nd (pi_keys (pv 1)) (blkOk_by (own := [("name", 2)]) (N := ["names", "once", "name"]) (sc := defScope sAsc) (by decide +kernel))
          (fun _ _ _ _ _ => pg_name (i := 2) scAsc.nd rfl (Or.inl rfl)) (fun _ _ _ _ _ => pts_nil) (fun _ _ _ _ _ => pe_callTy SkE.call_str_str (by rfl) M.str (by decide +kernel) (pa_cons (pv 2) pa_nil)))) pa_nil)))), ?_⟩
    refine ⟨_, rfl, a, rfl, ⟨_, hS⟩, fun D hD => ?_⟩
    refine walk_gen (walk_list (K := K) (a := a) (xs := xs.map V.str)) (fun i H' => Same H H' ∧ ∃ kvs, H' D = some (.dK kvs) ∧ kvs.map (·.1) = (onceS (xs.take i)).map Sum.inr) ⟨same_upd hD, [], upd_same, rfl⟩ (fun i H' _ p => p.1.seq hS) (fun i x H1 H2 hi p y => ?_) (fun H1 p => ?_)
    · obtain ⟨s1, kvs, e1, ek⟩ := p
      obtain ⟨rfl, hx⟩ := y
      rw [List.getElem?_map] at hx
      obtain ⟨z, hz, rfl⟩ := Option.map_eq_some_iff.mp hx
      have hi' : i < xs.length := (List.getElem?_eq_some_iff.mp hz).1
      refine And.intro rfl ?_
      unfold tYes
      refine iteT ?_
      refine ⟨_, rfl, kvs, .inr z, rfl, e1, ?_, fun b o e => ?_, _, upd_same, ?_⟩
      · have h1 : kvs.length = (onceS (xs.take i)).length := by
          have := congrArg List.length ek
          simpa using this
        have h2 := onceS_len (xs := xs.take i)
        rw [List.length_take] at h2
        exact Nat.lt_of_le_of_lt (show kvs.length ≤ 64 by omega) (by decide)
      · rw [upd_ne (ne_of_none e hD)]
        exact s1 _ _ e
      · rw [take_snoc hz, onceS_snoc]
        exact keys_put ek z _
    · obtain ⟨s1, kvs, e1, ek⟩ := p
      rw [List.length_map, List.take_length] at ek
      have ekl : kvs.length = (onceS xs).length := by
        have := congrArg List.length ek
        simpa using this
      have ol := onceS_len (xs := xs)
      refine ⟨D, .dK kvs, e1, trivial, fun od => ?_⟩
      refine ⟨_, rfl, D, od, rfl, .inl ⟨kvs, upd_same, fun L hL => ?_⟩⟩
      have nLD : L ≠ D := fun e => by
        rw [e, upd_same] at hL
        cases hL
      have hL1 : H1 L = none := by
        rw [upd_ne nLD] at hL
        exact hL
      refine walk_gen (walk_keys (d := D) (o := od) (kvs := kvs)) (fun i H' => H' = upd (upd H1 D (.frz od (.dK kvs))) L (.lst (((onceS xs).take i).map V.str))) rfl (fun i H' _ p => by rw [p, upd_ne (Ne.symm nLD)]; exact upd_same) (fun i x H2 H3 hi p y => ?_) (fun H2 p => ?_)
      · subst p
        obtain ⟨rfl, k, v, hk, rfl⟩ := y
        have hk1 : (kvs.map (·.1))[i]? = some k := by
          rw [List.getElem?_map, hk]
          rfl
        rw [ek, List.getElem?_map] at hk1
        obtain ⟨z, hz, rfl⟩ := Option.map_eq_some_iff.mp hk1
        refine And.intro rfl ?_
        unfold tYes
        refine iteT ?_
        refine ⟨_, rfl, z, rfl, ((onceS xs).take i).map V.str, upd_same, ?_, ?_⟩
        · rw [List.length_map, List.length_take]
          exact Nat.lt_of_le_of_lt (show _ ≤ 64 by omega) (by decide)
        · rw [take_snoc hz, List.map_append, upd_upd]
          rfl
      · subst p
        refine ⟨?_, ?_⟩
        · rw [upd_ne (Ne.symm nLD)]
          exact upd_same
        · rw [ekl, List.take_length]
          have eL : (upd (upd (upd H1 D (.frz od (.dK kvs))) L (.lst ((onceS xs).map V.str))) D (.dK kvs)) L = some (.lst ((onceS xs).map V.str)) := by
            rw [upd_ne nLD]
            exact upd_same
          refine ⟨L, onceS xs, rfl, .inl (.inl eL), by omega, fun ys p hp so np => q ys p _ (fun b o e => ?_) upd_same hp so⟩
          have nb : b ≠ D := ne_of_none e hD
          have nbL : b ≠ L := fun h => by
            rw [h] at e
            rw [s1 _ _ e] at hL1
            cases hL1
          have e2 : (upd (upd (upd H1 D (.frz od (.dK kvs))) L (.lst ((onceS xs).map V.str))) D (.dK kvs)) b = some o := by
            rw [upd_ne nb, upd_ne nbL, upd_ne nb]
            exact s1 _ _ e
          rw [upd_ne (ne_of_none e2 np)]
          exact e2
end
/-! ### sorted texts -/
theorem rise_pw : ∀ {l : List Str} {p : Str}, risingS p l = true → (p :: l).Pairwise fun a b => a.cps.toList ≤ b.cps.toList
  | [], _, _ => List.pairwise_singleton _ _
  | x :: r, p, h => by
    have h1 := Bool.and_eq_true_iff.mp (show (!ltCps x.cps.toList p.cps.toList && risingS x r) = true from h)
    have hp : p.cps.toList ≤ x.cps.toList := by
      have h2 : ltCps x.cps.toList p.cps.toList = false := by simpa using h1.1
      rw [ltCps_eq] at h2
      exact List.not_lt.mp (of_decide_eq_false h2)
    have ih := rise_pw h1.2
    refine List.pairwise_cons.mpr ⟨fun y hy => ?_, ih⟩
    rcases List.mem_cons.mp hy with rfl | hy
    · exact hp
    · exact List.le_trans hp ((List.pairwise_cons.mp ih).1 y hy)
theorem sorted_pw : ∀ {l : List Str}, sortedS l = true → l.Pairwise fun a b => a.cps.toList ≤ b.cps.toList
  | [], _ => .nil
  | _ :: _, h => rise_pw h
theorem sorted_eq {a b : List Str} (h1 : sortedS a = true) (h2 : sortedS b = true) (p : a.Perm b) : a = b := by
  refine List.Perm.eq_of_pairwise (le := fun a b : Str => a.cps.toList ≤ b.cps.toList) (fun x y _ _ hxy hyx => ?_) (sorted_pw h1) (sorted_pw h2) p
  have e := List.le_antisymm hxy hyx
  cases x
  cases y
  exact congrArg Str.mk (Array.toList_inj.mp e)
theorem same_mem {a b : List Str} (h1 : a.Nodup) (h2 : b.Nodup) (h : ∀ x, x ∈ a ↔ x ∈ b) : a.Perm b := (List.perm_ext_iff_of_nodup h1 h2).mpr h
/-! ### the parts with a word -/
def headIs (z : Str) : PyData → Bool
  | .tuple (.str y :: _) => decide (y = z)
  | _ => false
def isW (z : Str) (p : PyData) : Bool := !isValue p && headIs z p
def withD (z : Str) (d : PyData) : List PyData := (partsD d).filter (isW z)
theorem flat_form {n : Int} : ∀ (f : Nat) (lv : List PyData) (deep many : Nat), (lv = [] ∨ goT n f lv deep many = true) → (flatGo f lv).all (hasForm n) = true
  | 0, _, _, _, _ => rfl
  | f + 1, lv, deep, many, h => by
    by_cases hne : lv = []
    · rw [hne, flatGo_nil]
      rfl
    · obtain ⟨g, e, h1, _, h3⟩ := goT_true hne (h.resolve_left hne)
      cases e
      show (lv ++ flatGo f (lv.flatMap inner)).all (hasForm n) = true
      rw [List.all_append, h1, flat_form f _ _ _ (.inr h3)]
      rfl
theorem parts_form {n : Int} {d : PyData} (h : isTerm n d = true) : (partsD d).all (hasForm n) = true := flat_form 9 [d] 0 0 (.inr h)
theorem flat_sz : ∀ (f : Nat) (lv : List PyData), szDs lv = true → szDs (flatGo f lv) = true
  | 0, _, _ => rfl
  | f + 1, lv, h => by
    show szDs (lv ++ flatGo f (lv.flatMap inner)) = true
    rw [szDs_app, h, flat_sz f _ (sz_flat h)]
    rfl
theorem parts_sz {d : PyData} (h : szD d = true) : szDs (partsD d) = true := flat_sz 9 [d] (by show (szD d && true) = true; rw [h]; rfl)
theorem parts_len {n : Int} {d : PyData} (h : isTerm n d = true) : (partsD d).length ≤ 30 := by
  rw [isTerm_is] at h
  have h1 := Bool.and_eq_true_iff.mp (Bool.and_eq_true_iff.mp h).2
  rw [partsD_len]
  exact of_decide_eq_true h1.1
abbrev sWith : Stmt := topS 48
theorem scWith : FnScope ["word", "term", "part"] ["word", "term"] (defScope sWith) := ⟨rfl, rfl, rfl, by decide +kernel, rfl, by decide +kernel, by decide +kernel⟩
def spWith (K : PySem.W.Frag) : Sp := fun vs H Q _ => ∃ (z : Str) (v : V) (d : PyData) (n : Int), vs = [.str z, v] ∧ Dp K H v d ∧ szD d = true ∧ isTerm n d = true ∧
  ∀ p xs H', Same H H' → H' p = some (.lst xs) → DpAll K H xs (withD z d) → Q (.ref p) H'
section
variable {P : Program} {w : World} {K : PySem.W.Frag} {mg : Str → Option Value} {base : Heap}
theorem ok_with {f fP fW fV fN : Addr} {fd dP dW dV dN : FuncData} (F : Fun K "parts_with" "parts_with" sWith f fd) (M : Blt mg) (TC : CellsTxt K mg) (G : CellFns K mg fW fV fN dW dV dN)
    (GP : FnOk P w K mg base CX0 5 fP dP ["term"] (spParts K)) (FP : Fun K "all_parts" "all_parts" sParts fP dP) (bP : Binds K dP ["term"] []) (gP : mg "all_parts" = some (.ref fP)) :
    FnOk P w K mg base CX0 6 f fd ["word", "term"] (spWith K) := by
  have GV : FnOk P w K mg base CX0 2 fV dV ["value"] (spB K isValue) := ok_value G.V M TC G.W G.bW G.gW
  refine F.ok scWith (fun vs H Q E h => ?_) (fun cdv A outer s H vs Q E hr h => ?_)
  · obtain ⟨z, v, d, n, rfl, _⟩ := h
    rfl
  · obtain ⟨z, v, d, n, rfl, hv, hsz, ht, q⟩ := h
    have hr2 : Room 2 _ := hr.mono (by decide)
    refine ⟨_, pss_one (ps_ret (pe_lc (own := [("part", 2)]) (g := gName 2) (wi := iList K (tCall (spParts K) [] E0 (tCons (tVar 1) tNil))) (tt := tAnd (tNot (tB (tCall (spB K isValue) [] E0 (tCons (tVar 2) tNil)))) (tTest (tOp rEq (tOp (rIxT K) (tVar 2) (tC (.int 0))) (tVar 0)))) (by rfl) scWith.nd
        (pi_list (pe_call GP hr (by rfl) gP FP.kp bP .nil pass0 (pa_cons (pv 1) pa_nil))) (blkOk_by (own := [("part", 2)]) (N := ["word", "term", "part"]) (sc := defScope sWith) (by decide +kernel))
        (fun _ _ _ _ _ => pg_name (i := 2) scWith.nd rfl (Or.inl rfl)) (fun _ _ _ _ _ => pts_one (PW.pt (pw_and (pt_not (pt_val (pe_call GV hr2 (by rfl) G.gV G.V.kp G.bV .nil pass0 (pa_cons (pv 2) pa_nil))))
          (pw_and1 (pt_cmpR op_eq (pe_ix ix_tup (pv 2) pe_int (fun _ _ => rfl)) (pv 0) (nomark _)))))) (fun _ _ _ _ _ => pv 2))), ?_⟩
    refine ⟨v, rfl, v, d, n, rfl, hv, hsz, ht, fun a xs H1 s1 na ea hxs hln => ?_⟩
    have hform := parts_form ht
    have hszp := parts_sz hsz
    refine ⟨a, rfl, ⟨_, .inl (.inl ea)⟩, fun D hD => ?_⟩
    have naD : a ≠ D := ne_of_none ea hD
    refine walk_gen (walk_list (K := K) (a := a) (xs := xs)) (fun i H' => Same H1 H' ∧ ∃ acc, H' D = some (.lst acc) ∧ DpAll K H acc (((partsD d).take i).filter (isW z))) ⟨same_upd hD, [], upd_same, .nil⟩ (fun i H' _ p => .inl (.inl (p.1 _ _ ea))) (fun i x H2 H3 hi p y => ?_) (fun H' p => ?_)
    · obtain ⟨s2, acc, e2, ac⟩ := p
      obtain ⟨rfl, hx⟩ := y
      obtain ⟨di, hd, dx⟩ := dpA_at hxs hx
      have hfd : hasForm n di = true := List.all_eq_true.mp hform di (List.mem_of_getElem? hd)
      have lacc : acc.length ≤ 30 := by
        rw [dpA_len ac]
        refine Nat.le_trans (List.length_filter_le _ _) ?_
        rw [List.length_take]
        have := parts_len ht
        omega
      have snoc : ((partsD d).take (i + 1)).filter (isW z) = ((partsD d).take i).filter (isW z) ++ (if isW z di = true then [di] else []) := by
        rw [take_snoc hd, List.filter_append]
        cases e : isW z di with
        | true => rw [List.filter_cons_of_pos e]; rfl
        | false => rw [List.filter_cons_of_neg (by rw [e]; decide)]; rfl
      have no : ∀ H5, Same H3 H5 → isW z di = false → Same H1 H5 ∧ ∃ acc, H5 D = some (.lst acc) ∧ DpAll K H acc (((partsD d).take (i + 1)).filter (isW z)) := fun H5 s5 e => by
        refine ⟨s2.trans s5, acc, s5 _ _ e2, ?_⟩
        rw [snoc, e]
        simpa using ac
      refine And.intro rfl ?_
      refine ⟨x, rfl, x, di, rfl, dp_same (s1.trans s2) dx, szDs_get hszp hd, fun H4 s4 => ⟨_, rfl, ?_⟩⟩
      cases hval : isValue di with
      | true =>
        refine iteF (iteF (no H4 s4 ?_))
        unfold isW
        rw [hval]
        rfl
      | false =>
        obtain ⟨y, rest, rfl, _⟩ := form_str hfd hval
        cases dx with
        | @tup b zs _ hs ha =>
          cases ha with
          | @cons x0 xr _ _ h0 hr0 =>
            cases h0
            have ew : isW z (.tuple (.str y :: rest)) = decide (y = z) := by
              unfold isW
              rw [hval]
              rfl
            refine iteT ⟨_, rfl, b, _, 0, .str y, rfl, rfl, same_sqT ((s1.trans s2).trans s4) hs, atI_nat (j := 0) rfl, ?_⟩
            refine ⟨.str z, rfl, rfl, _, rfl, ?_⟩
            rw [dstr]
            by_cases hyz : y = z
            · rw [decide_eq_true hyz]
              refine iteT ⟨_, rfl, acc, s4 _ _ e2, Nat.lt_of_le_of_lt lacc (by decide), fun b' o e => ?_, acc ++ [.ref b], upd_same, ?_⟩
              · rw [upd_ne (ne_of_none e hD)]
                exact s4 _ _ (s2 _ _ e)
              · rw [snoc, ew, decide_eq_true hyz]
                exact dpA_app ac (.cons (.tup hs (.cons (.str y) hr0)) .nil)
            · rw [decide_eq_false hyz]
              refine iteF (no H4 s4 ?_)
              rw [ew, decide_eq_false hyz]
    · obtain ⟨s2, acc, e2, ac⟩ := p
      have el : xs.length = (partsD d).length := dpA_len hxs
      rw [el, List.take_length] at ac
      exact q D acc H' (s1.trans s2) e2 ac
end
/-! ### the names in a term -/
def nm : PyData → Str
  | .tuple (_ :: .str x :: _) => x
  | _ => ""
def namesD (z : Str) (d : PyData) : List Str := (withD z d).map nm
theorem isName_str {d : PyData} (h : isName d = true) : ∃ x, d = .str x := by
  cases d <;> first | exact ⟨_, rfl⟩ | cases h
theorem isW_head {z : Str} {p : PyData} (h : isW z p = true) : ∃ rest, p = .tuple (.str z :: rest) ∧ isValue p = false := by
  have h1 := Bool.and_eq_true_iff.mp h
  have hv : isValue p = false := by simpa using h1.1
  match p, h1.2, hv with
  | .tuple (.str y :: rest), h2, hv =>
    have e := of_decide_eq_true h2
    subst e
    exact ⟨rest, rfl, hv⟩
theorem w_cell {n : Int} {p : PyData} (hf : hasForm n p = true) (h : isW "cell" p = true) : ∃ x rest, p = .tuple (.str "cell" :: .str x :: rest) := by
  obtain ⟨rest, rfl, hv⟩ := isW_head h
  have hf1 : formOf n "cell" rest = true := by
    have e : hasForm n (.tuple (.str "cell" :: rest)) = (isValue (.tuple (.str "cell" :: rest)) || formOf n "cell" rest) := rfl
    rw [e, hv] at hf
    exact hf
  have e1 : formOf n "cell" rest = on1 isName rest := (if_neg (by decide +kernel)).trans (if_pos rfl)
  rw [e1] at hf1
  match rest, hf1 with
  | [d], hf1 =>
    obtain ⟨x, rfl⟩ := isName_str (d := d) hf1
    exact ⟨x, _, rfl⟩
theorem w_call {n : Int} {p : PyData} (hf : hasForm n p = true) (h : isW "call" p = true) : ∃ x rest, p = .tuple (.str "call" :: .str x :: rest) := by
  obtain ⟨rest, rfl, hv⟩ := isW_head h
  have hf1 : formOf n "call" rest = true := by
    have e : hasForm n (.tuple (.str "call" :: rest)) = (isValue (.tuple (.str "call" :: rest)) || formOf n "call" rest) := rfl
    rw [e, hv] at hf
    exact hf
  have e1 : formOf n "call" rest = on2 (fun x y => isName x && callForm y) rest := (if_neg (by decide +kernel)).trans ((if_neg (by decide +kernel)).trans (if_pos rfl))
  rw [e1] at hf1
  match rest, hf1 with
  | [d, e], hf1 =>
    obtain ⟨x, rfl⟩ := isName_str (Bool.and_eq_true_iff.mp (show (isName d && callForm e) = true from hf1)).1
    exact ⟨x, _, rfl⟩
def spNames (K : PySem.W.Frag) (z : Str) : Sp := fun vs H Q _ => ∃ (v : V) (d : PyData) (n : Int), vs = [v] ∧ Dp K H v d ∧ szD d = true ∧ isTerm n d = true ∧
  ∀ (ys : List Str) (p : Addr) H', Same H H' → H' p = some (.lst (ys.map V.str)) → ys.Perm (onceS (namesD z d)) → sortedS ys = true → Q (.ref p) H'
structure WithFns (K : PySem.W.Frag) (mg : Str → Option Value) (fWi fAs : Addr) (dWi dAs : FuncData) : Prop where
  Wi : Fun K "parts_with" "parts_with" sWith fWi dWi
  As : Fun K "_ascending" "_ascending" sAsc fAs dAs
  bWi : Binds K dWi ["word", "term"] []
  bAs : Binds K dAs ["names"] []
  gWi : mg "parts_with" = some (.ref fWi)
  gAs : mg "_ascending" = some (.ref fAs)
abbrev sCells : Stmt := topS 49
theorem scCells : FnScope ["term", "part"] ["term"] (defScope sCells) := ⟨rfl, rfl, rfl, by decide +kernel, rfl, by decide +kernel, by decide +kernel⟩
section
variable {P : Program} {w : World} {K : PySem.W.Frag} {mg : Str → Option Value} {base : Heap}
theorem ok_Cells {f fWi fAs : Addr} {fd dWi dAs : FuncData} (F : Fun K "cells_in" "cells_in" sCells f fd) (L : WithFns K mg fWi fAs dWi dAs)
    (GW : FnOk P w K mg base CX0 6 fWi dWi ["word", "term"] (spWith K)) (GA : FnOk P w K mg base CX0 1 fAs dAs ["names"] (spAsc K)) :
    FnOk P w K mg base CX0 7 f fd ["term"] (spNames K "cell") := by
  refine F.ok scCells (fun vs H Q E h => ?_) (fun cdv A outer s H vs Q E hr h => ?_)
  · obtain ⟨v, d, n, rfl, _⟩ := h
    rfl
  · obtain ⟨v, d, n, rfl, hv, hsz, ht, q⟩ := h
    have hr1 : Room 1 _ := hr.mono (by decide)
    refine ⟨_, pss_one (ps_ret (pe_call GA hr1 (by rfl) L.gAs L.As.kp L.bAs .nil pass0 (pa_cons
      (pe_lc (own := [("part", 1)]) (g := gName 1) (wi := iList K (tCall (spWith K) [] E0 (tCons (tC (.str "cell")) (tCons (tVar 0) tNil)))) (te := tOp (rIxT K) (tVar 1) (tC (.int 1))) (by rfl) scCells.nd
        (pi_list (pe_call GW hr (by rfl) L.gWi L.Wi.kp L.bWi .nil pass0 (pa_cons pe_str (pa_cons (pv 0) pa_nil)))) (blkOk_by (own := [("part", 1)]) (N := ["term", "part"]) (sc := defScope sCells) (by decide +kernel))
        (fun _ _ _ _ _ => pg_name (i := 1) scCells.nd rfl (Or.inl rfl)) (fun _ _ _ _ _ => pts_nil) (fun _ _ _ _ _ => pe_ix ix_tup (pv 1) pe_int (fun _ _ => rfl))) pa_nil))), ?_⟩
    refine ⟨v, rfl, "cell", v, d, n, rfl, hv, hsz, ht, fun a xs H1 s1 ea hxs => ?_⟩
    have hl30 : (withD "cell" d).length ≤ 30 := Nat.le_trans (List.length_filter_le _ _) (parts_len ht)
    have el : xs.length = (withD "cell" d).length := dpA_len hxs
    refine ⟨a, rfl, ⟨_, .inl (.inl ea)⟩, fun D hD => ?_⟩
    refine walk_gen (walk_list (K := K) (a := a) (xs := xs)) (fun i H' => Same H1 H' ∧ H' D = some (.lst ((((withD "cell" d).take i).map nm).map V.str))) ⟨same_upd hD, upd_same⟩ (fun i H' _ p => .inl (.inl (p.1 _ _ ea))) (fun i x H2 H3 hi p y => ?_) (fun H' p => ?_)
    · obtain ⟨s2, e2⟩ := p
      obtain ⟨rfl, hx⟩ := y
      obtain ⟨di, hd, dx⟩ := dpA_at hxs hx
      have hmem := List.mem_filter.mp (List.mem_of_getElem? hd)
      obtain ⟨x', rest, rfl⟩ := w_cell (List.all_eq_true.mp (parts_form ht) _ hmem.1) hmem.2
      cases dx with
      | @tup b zs _ hs ha =>
        cases ha with
        | @cons x0 xr _ _ h0 hr0 =>
          cases hr0 with
          | @cons x1 xr1 _ _ h1 hr1' =>
            cases h1
            refine And.intro rfl ?_
            unfold tYes
            refine iteT ?_
            refine ⟨_, rfl, b, _, 1, .str x', rfl, rfl, same_sqT (s1.trans s2) hs, atI_nat (j := 1) rfl, _, e2, ?_, fun b' o e => ?_, ?_⟩
            · rw [List.length_map, List.length_map, List.length_take]
              exact Nat.lt_of_le_of_lt (show _ ≤ 30 by omega) (by decide)
            · rw [upd_ne (ne_of_none e hD)]
              exact s2 _ _ e
            · rw [take_snoc hd, List.map_append, List.map_append]
              exact upd_same
    · obtain ⟨s2, e2⟩ := p
      rw [el, List.take_length] at e2
      refine ⟨D, namesD "cell" d, rfl, .inl (.inl e2), ?_, fun ys p H2 s3 ep hp so => q ys p H2 ((s1.trans s2).trans s3) ep hp so⟩
      unfold namesD
      rw [List.length_map]
      omega
end
def tickD (d : PyData) : Bool := decide (0 < (withD "tick" d).length)
/-! ### the law's terms -/
inductive Gd (n : Int) : Nat → PyData → Prop
  | val {f : Nat} {i : Int} : 0 ≤ i → i < 3 → Gd n (f + 1) (.int i)
  | arg {f : Nat} {i : Int} : 0 ≤ i → i < n → Gd n (f + 1) (.tuple [.str "arg", .int i])
  | cell {f : Nat} {x : Str} : isName (.str x) = true → Gd n (f + 1) (.tuple [.str "cell", .str x])
  | tick {f : Nat} : Gd n (f + 1) (.tuple [.str "tick"])
  | call {f : Nat} {x : Str} {ts : List PyData} : isName (.str x) = true → ts.length ≤ 2 → (∀ t ∈ ts, Gd n f t) → Gd n (f + 1) (.tuple [.str "call", .str x, .tuple ts])
  | op {f : Nat} {z : Str} {ts : List PyData} : (z = "if" ∧ ts.length = 3) ∨ (bin z ∧ ts.length = 2) → (∀ t ∈ ts, Gd n f t) → Gd n (f + 1) (.tuple (.str z :: ts))
theorem op_word {z : Str} {ts : List PyData} (h : (z = "if" ∧ ts.length = 3) ∨ (bin z ∧ ts.length = 2)) : z = "if" ∨ z = "plus" ∨ z = "less" ∨ z = "same" := by
  rcases h with ⟨h, _⟩ | ⟨h, _⟩
  · exact .inl h
  · exact .inr h
theorem op_inner {z : Str} {ts : List PyData} (h : z = "if" ∨ z = "plus" ∨ z = "less" ∨ z = "same") : inner (.tuple (.str z :: ts)) = ts := by
  rcases h with rfl | rfl | rfl | rfl <;> rfl
theorem gd_inner {n : Int} {f : Nat} {d : PyData} (h : Gd n (f + 1) d) : (∀ t ∈ inner d, Gd n f t) ∧ (inner d).length ≤ 3 := by
  cases h with
  | val _ _ => exact ⟨fun t ht => (by cases ht), Nat.zero_le _⟩
  | arg _ _ => exact ⟨fun t ht => (by cases ht), Nat.zero_le _⟩
  | cell _ => exact ⟨fun t ht => (by cases ht), Nat.zero_le _⟩
  | tick => exact ⟨fun t ht => (by cases ht), Nat.zero_le _⟩
  | call _ hl ht => exact ⟨ht, Nat.le_trans hl (by decide)⟩
  | op hz ht =>
    rw [op_inner (op_word hz)]
    refine ⟨ht, ?_⟩
    rcases hz with ⟨_, h⟩ | ⟨_, h⟩ <;> omega
theorem gd_form {n : Int} {f : Nat} {d : PyData} (h : Gd n f d) : hasForm n d = true := by
  cases h with
  | val h0 h3 =>
    show (isValue (.int _) || false) = true
    have e : isValue (.int _) = true := Bool.and_eq_true_iff.mpr ⟨decide_eq_true h0, decide_eq_true h3⟩
    rw [e]
    rfl
  | arg h0 h3 => exact Bool.and_eq_true_iff.mpr ⟨decide_eq_true h0, decide_eq_true h3⟩
  | cell hx => exact hx
  | tick => rfl
  | call hx hl _ => exact Bool.and_eq_true_iff.mpr ⟨hx, decide_eq_true (by omega)⟩
  | @op f z ts hz _ =>
    rcases hz with ⟨rfl, h⟩ | ⟨rfl | rfl | rfl, h⟩
    · show decide ((ts.length : Int) + 1 = 4) = true
      exact decide_eq_true (by omega)
    · show decide ((ts.length : Int) + 1 = 3) = true
      exact decide_eq_true (by omega)
    · show decide ((ts.length : Int) + 1 = 3) = true
      exact decide_eq_true (by omega)
    · show decide ((ts.length : Int) + 1 = 3) = true
      exact decide_eq_true (by omega)
theorem gd_fm {n : Int} : ∀ (k f : Nat) (d : PyData), Gd n f d → fmF n k d = true
  | 0, _, _, _ => rfl
  | k + 1, 0, d, h => nomatch h
  | k + 1, f + 1, d, h => by
    show (hasForm n d && (inner d).all (fmF n k)) = true
    rw [gd_form h]
    exact List.all_eq_true.mpr fun t ht => gd_fm k f t ((gd_inner h).1 t ht)
theorem szDs_of : ∀ {ts : List PyData}, (∀ t ∈ ts, szD t = true) → szDs ts = true
  | [], _ => rfl
  | t :: ts, h => by
    show (szD t && szDs ts) = true
    rw [h t List.mem_cons_self, szDs_of fun u hu => h u (List.mem_cons_of_mem _ hu)]
    rfl
theorem noLs_of : ∀ {ts : List PyData}, (∀ t ∈ ts, noL t = true) → noLs ts = true
  | [], _ => rfl
  | t :: ts, h => by
    show (noL t && noLs ts) = true
    rw [h t List.mem_cons_self, noLs_of fun u hu => h u (List.mem_cons_of_mem _ hu)]
    rfl
theorem name_sz {x : Str} (h : isName (.str x) = true) : szD (.str x) = true := by
  have h1 := Bool.and_eq_true_iff.mp (Bool.and_eq_true_iff.mp (show (decide (1 ≤ (x.length : Int)) && decide ((x.length : Int) ≤ 8) && x.cps.toList.all lowCode) = true from h)).1
  have h2 := of_decide_eq_true h1.2
  exact decide_eq_true (by omega)
theorem word_sz {z : Str} (h : z = "if" ∨ z = "plus" ∨ z = "less" ∨ z = "same") : szD (.str z) = true := by
  rcases h with rfl | rfl | rfl | rfl <;> decide +kernel
theorem gd_sz {n : Int} : ∀ (f : Nat) (d : PyData), Gd n f d → szD d = true
  | 0, _, h => nomatch h
  | f + 1, d, h => by
    cases h with
    | val _ _ => rfl
    | arg _ _ =>
      show (decide (2 ≤ 1000) && (szD (.str "arg") && (true && true))) = true
      decide +kernel
    | cell hx =>
      show (decide (2 ≤ 1000) && (szD (.str "cell") && (szD (.str _) && true))) = true
      rw [name_sz hx]
      decide +kernel
    | tick => decide +kernel
    | @call _ x ts hx hl ht =>
      show (decide (3 ≤ 1000) && (szD (.str "call") && (szD (.str x) && ((decide (ts.length ≤ 1000) && szDs ts) && true)))) = true
      rw [name_sz hx, szDs_of fun t h => gd_sz f t (ht t h), decide_eq_true (show ts.length ≤ 1000 by omega)]
      decide +kernel
    | @op _ z ts hz ht =>
      show (decide (ts.length + 1 ≤ 1000) && (szD (.str z) && szDs ts)) = true
      rw [word_sz (op_word hz), szDs_of fun t h => gd_sz f t (ht t h), decide_eq_true (show ts.length + 1 ≤ 1000 by rcases hz with ⟨_, h⟩ | ⟨_, h⟩ <;> omega)]
      rfl
theorem gd_nl {n : Int} : ∀ (f : Nat) (d : PyData), Gd n f d → noL d = true
  | 0, _, h => nomatch h
  | f + 1, d, h => by
    cases h with
    | val _ _ => rfl
    | arg _ _ => rfl
    | cell hx => rfl
    | tick => rfl
    | @call _ x ts hx hl ht =>
      show (true && (true && (noLs ts && true))) = true
      rw [noLs_of fun t h => gd_nl f t (ht t h)]
      rfl
    | @op _ z ts hz ht =>
      show (true && noLs ts) = true
      rw [noLs_of fun t h => gd_nl f t (ht t h)]
      rfl
theorem gd_szF {n : Int} : ∀ (f k k' : Nat) (d : PyData), Gd n f d → f ≤ k → f ≤ k' → szF k d = szF k' d
  | 0, _, _, _, h, _, _ => nomatch h
  | f + 1, 0, _, _, _, h, _ => by omega
  | f + 1, _, 0, _, _, _, h => by omega
  | f + 1, k + 1, k' + 1, d, h, h1, h2 => by
    show 1 + ((inner d).map (szF k)).sum = 1 + ((inner d).map (szF k')).sum
    rw [List.map_congr_left fun t ht => gd_szF f k k' t ((gd_inner h).1 t ht) (by omega) (by omega)]
theorem gd_dpF {n : Int} : ∀ (f k k' : Nat) (d : PyData), Gd n f d → f ≤ k → f ≤ k' → dpF k d = dpF k' d
  | 0, _, _, _, h, _, _ => nomatch h
  | f + 1, 0, _, _, _, h, _ => by omega
  | f + 1, _, 0, _, _, _, h => by omega
  | f + 1, k + 1, k' + 1, d, h, h1, h2 => by
    show 1 + ((inner d).map (dpF k)).foldr max 0 = 1 + ((inner d).map (dpF k')).foldr max 0
    rw [List.map_congr_left fun t ht => gd_dpF f k k' t ((gd_inner h).1 t ht) (by omega) (by omega)]
theorem gd_dle {n : Int} : ∀ (f k : Nat) (d : PyData), Gd n f d → dpF k d ≤ f
  | 0, _, _, h => nomatch h
  | f + 1, 0, _, _ => Nat.zero_le _
  | f + 1, k + 1, d, h => by
    show 1 + ((inner d).map (dpF k)).foldr max 0 ≤ f + 1
    have h1 : ∀ l : List PyData, (∀ t ∈ l, dpF k t ≤ f) → (l.map (dpF k)).foldr max 0 ≤ f := fun l => by
      induction l with
      | nil => exact fun _ => Nat.zero_le _
      | cons a l ih =>
        intro hl
        show max (dpF k a) _ ≤ f
        have := hl a List.mem_cons_self
        have := ih fun t ht => hl t (List.mem_cons_of_mem _ ht)
        omega
    have := h1 (inner d) fun t ht => gd_dle f k t ((gd_inner h).1 t ht)
    omega
theorem gd_many {n : Int} : ∀ (f k : Nat) (d : PyData), Gd n f d → szF k d ≤ 4 ^ f
  | 0, _, _, h => nomatch h
  | f + 1, 0, _, _ => Nat.zero_le _
  | f + 1, k + 1, d, h => by
    show 1 + ((inner d).map (szF k)).sum ≤ 4 ^ (f + 1)
    have h1 : ∀ l : List PyData, (∀ t ∈ l, szF k t ≤ 4 ^ f) → (l.map (szF k)).sum ≤ l.length * 4 ^ f := fun l => by
      induction l with
      | nil => exact fun _ => Nat.zero_le _
      | cons a l ih =>
        intro hl
        rw [List.map_cons, List.sum_cons, List.length_cons, Nat.succ_mul]
        have := hl a List.mem_cons_self
        have := ih fun t ht => hl t (List.mem_cons_of_mem _ ht)
        omega
    have h2 := h1 (inner d) fun t ht => gd_many f k t ((gd_inner h).1 t ht)
    have h3 := Nat.mul_le_mul_right (4 ^ f) (gd_inner h).2
    have h4 : 1 ≤ 4 ^ f := Nat.one_le_pow _ _ (by decide)
    rw [Nat.pow_succ]
    omega
def sz9 (d : PyData) : Nat := szF 9 d
def dp9 (d : PyData) : Nat := dpF 9 d
theorem sz9_in {n : Int} {f : Nat} {d : PyData} (h : Gd n (f + 1) d) (hf : f ≤ 8) : sz9 d = 1 + ((inner d).map sz9).sum := by
  show 1 + ((inner d).map (szF 8)).sum = _
  rw [List.map_congr_left fun t ht => gd_szF f 8 9 t ((gd_inner h).1 t ht) hf (by omega)]
  rfl
theorem dp9_in {n : Int} {f : Nat} {d : PyData} (h : Gd n (f + 1) d) (hf : f ≤ 8) : dp9 d = 1 + ((inner d).map dp9).foldr max 0 := by
  show 1 + ((inner d).map (dpF 8)).foldr max 0 = _
  rw [List.map_congr_left fun t ht => gd_dpF f 8 9 t ((gd_inner h).1 t ht) hf (by omega)]
  rfl
theorem gd_isTerm {n : Int} {f : Nat} {d : PyData} (h : Gd n f d) (hf : f ≤ 8) : isTerm n d = decide (sz9 d ≤ 30) := by
  rw [isTerm_is, gd_fm 9 f d h, decide_eq_true (Nat.le_trans (gd_dle f 9 d h) hf), Bool.and_true]
  rfl
/-! ### what stands somewhere in a term -/
def hasB (q : PyData → Bool) : Nat → PyData → Bool
  | 0, _ => false
  | f + 1, d => q d || (inner d).any (hasB q f)
def hs9 (q : PyData → Bool) (d : PyData) : Bool := hasB q 9 d
theorem any_or {α : Type} (p q : α → Bool) : ∀ l : List α, (l.any fun x => p x || q x) = (l.any p || l.any q)
  | [] => rfl
  | x :: l => by
    rw [List.any_cons, List.any_cons, List.any_cons, any_or p q l]
    cases p x <;> cases q x <;> cases l.any p <;> rfl
theorem any_flat (q : PyData → Bool) : ∀ l : List PyData, (l.flatMap inner).any q = l.any fun d => (inner d).any q
  | [] => rfl
  | d :: l => by
    rw [List.flatMap_cons, List.any_append, List.any_cons, any_flat q l]
theorem flat_any (q : PyData → Bool) : ∀ (f : Nat) (lv : List PyData), (flatGo f lv).any q = lv.any (hasB q f)
  | 0, lv => by
    show false = lv.any fun _ => false
    induction lv with
    | nil => rfl
    | cons d l ih =>
      rw [List.any_cons, ← ih]
      rfl
  | f + 1, lv => by
    show (lv ++ flatGo f (lv.flatMap inner)).any q = lv.any fun d => q d || (inner d).any (hasB q f)
    rw [List.any_append, flat_any q f, any_or, any_flat]
theorem parts_any (q : PyData → Bool) (d : PyData) : (partsD d).any q = hs9 q d := by
  unfold partsD
  rw [flat_any]
  show (hasB q 9 d || false) = _
  rw [Bool.or_false]
  rfl
theorem gd_hasB {n : Int} (q : PyData → Bool) : ∀ (f k k' : Nat) (d : PyData), Gd n f d → f ≤ k → f ≤ k' → hasB q k d = hasB q k' d
  | 0, _, _, _, h, _, _ => nomatch h
  | f + 1, 0, _, _, _, h, _ => by omega
  | f + 1, _, 0, _, _, _, h => by omega
  | f + 1, k + 1, k' + 1, d, h, h1, h2 => by
    show (q d || (inner d).any (hasB q k)) = (q d || (inner d).any (hasB q k'))
    have e : (inner d).any (hasB q k) = (inner d).any (hasB q k') := by
      rw [Bool.eq_iff_iff, List.any_eq_true, List.any_eq_true]
      constructor
      · rintro ⟨t, ht, hq⟩
        exact ⟨t, ht, by rw [← gd_hasB q f k k' t ((gd_inner h).1 t ht) (by omega) (by omega)]; exact hq⟩
      · rintro ⟨t, ht, hq⟩
        exact ⟨t, ht, by rw [gd_hasB q f k k' t ((gd_inner h).1 t ht) (by omega) (by omega)]; exact hq⟩
    rw [e]
theorem any_congr {q q' : PyData → Bool} : ∀ {l : List PyData}, (∀ t ∈ l, q t = q' t) → l.any q = l.any q'
  | [], _ => rfl
  | t :: l, h => by
    rw [List.any_cons, List.any_cons, h t List.mem_cons_self, any_congr fun u hu => h u (List.mem_cons_of_mem _ hu)]
theorem hs9_in {n : Int} {f : Nat} {d : PyData} (q : PyData → Bool) (h : Gd n (f + 1) d) (hf : f ≤ 8) : hs9 q d = (q d || (inner d).any (hs9 q)) := by
  show (q d || (inner d).any (hasB q 8)) = _
  rw [any_congr fun t ht => gd_hasB q f 8 9 t ((gd_inner h).1 t ht) hf (by omega)]
  rfl
theorem hasB_congr {n : Int} {q q' : PyData → Bool} (hq : ∀ f d, Gd n f d → q d = q' d) : ∀ (k f : Nat) (d : PyData), Gd n f d → hasB q k d = hasB q' k d
  | 0, _, _, _ => rfl
  | k + 1, 0, _, h => nomatch h
  | k + 1, f + 1, d, h => by
    show (q d || (inner d).any (hasB q k)) = (q' d || (inner d).any (hasB q' k))
    rw [hq _ d h, any_congr fun t ht => hasB_congr hq k f t ((gd_inner h).1 t ht)]
/-- a part with the word z and the name x -/
def isN (z x : Str) (p : PyData) : Bool := isW z p && decide (nm p = x)
theorem names_mem {z x : Str} {d : PyData} : x ∈ namesD z d ↔ hs9 (isN z x) d = true := by
  rw [← parts_any, List.any_eq_true]
  unfold namesD withD
  rw [List.mem_map]
  constructor
  · rintro ⟨p, hp, e⟩
    have h := List.mem_filter.mp hp
    exact ⟨p, h.1, Bool.and_eq_true_iff.mpr ⟨h.2, decide_eq_true e⟩⟩
  · rintro ⟨p, hp, e⟩
    have h := Bool.and_eq_true_iff.mp e
    exact ⟨p, List.mem_filter.mpr ⟨hp, h.1⟩, of_decide_eq_true h.2⟩
theorem tickD_is (d : PyData) : tickD d = hs9 (isW "tick") d := by
  rw [← parts_any]
  unfold tickD withD
  generalize partsD d = l
  induction l with
  | nil => rfl
  | cons p l ih =>
    rw [List.any_cons]
    cases e : isW "tick" p with
    | true => rw [List.filter_cons_of_pos e, Bool.true_or]; exact decide_eq_true (Nat.succ_pos _)
    | false =>
      rw [List.filter_cons_of_neg (by rw [e]; decide), ih]
      rfl
/-- the law's own look at the tick -/
def qT (d : PyData) : Bool := PyData.eqv d (.tuple [.str "tick"])
theorem str_beq (a b : Str) : (a == b) = decide (a = b) := by
  by_cases h : a = b
  · subst h
    rw [beq_self_eq_true, decide_eq_true rfl]
  · rw [decide_eq_false h]
    exact beq_eq_false_iff_ne.mpr h
theorem qT_is {n : Int} {f : Nat} {d : PyData} (h : Gd n f d) : qT d = isW "tick" d := by
  cases h with
  | val h0 h3 =>
    have e : isValue (.int _) = true := Bool.and_eq_true_iff.mpr ⟨decide_eq_true h0, decide_eq_true h3⟩
    show false = (!isValue (.int _) && false)
    rw [Bool.and_false]
  | arg _ _ => rfl
  | cell _ => rfl
  | tick => rfl
  | call _ _ _ => rfl
  | @op _ z ts hz _ =>
    rcases op_word hz with rfl | rfl | rfl | rfl <;> rfl
theorem hs_tick {n : Int} {f : Nat} {d : PyData} (h : Gd n f d) : hs9 qT d = tickD d := by
  rw [tickD_is]
  exact hasB_congr (fun f d h => qT_is h) 9 f d h
theorem name_ok {x : Str} (h : isName (.str x) = true) : PyData.strOk x = true := by
  have h1 := (Bool.and_eq_true_iff.mp (show (decide (1 ≤ (x.length : Int)) && decide ((x.length : Int) ≤ 8) && x.cps.toList.all lowCode) = true from h)).2
  unfold PyData.strOk
  rw [← Array.all_toList]
  refine List.all_eq_true.mpr fun c hc => ?_
  have h2 := Bool.and_eq_true_iff.mp (show (decide (97 ≤ c) && decide (c ≤ 122)) = true from List.all_eq_true.mp h1 c hc)
  have h3 := of_decide_eq_true h2.2
  exact decide_eq_true (by omega)
theorem word_ok {z : Str} (h : z = "if" ∨ z = "plus" ∨ z = "less" ∨ z = "same") : PyData.strOk z = true := by
  rcases h with rfl | rfl | rfl | rfl <;> decide +kernel
theorem canLay_of : ∀ {ts : List PyData}, (∀ t ∈ ts, t.canLay0 = true) → PyData.canLayAll0 ts = true
  | [], _ => rfl
  | t :: ts, h => by
    show (t.canLay0 && PyData.canLayAll0 ts) = true
    rw [h t List.mem_cons_self, canLay_of fun u hu => h u (List.mem_cons_of_mem _ hu)]
    rfl
theorem depth_of {m : Nat} : ∀ {ts : List PyData}, (∀ t ∈ ts, t.depth ≤ m) → PyData.depthAll ts ≤ m
  | [], _ => Nat.zero_le _
  | t :: ts, h => by
    show max t.depth (PyData.depthAll ts) ≤ m
    have h1 := h t List.mem_cons_self
    have h2 := depth_of fun u hu => h u (List.mem_cons_of_mem _ hu)
    omega
theorem gd_lay {n : Int} : ∀ (f : Nat) (d : PyData), Gd n f d → d.canLay0 = true ∧ d.depth ≤ 2 * f
  | 0, _, h => nomatch h
  | f + 1, d, h => by
    cases h with
    | val _ _ => exact ⟨rfl, Nat.zero_le _⟩
    | arg _ _ =>
      refine ⟨?_, ?_⟩
      · show (PyData.strOk "arg" && (true && true)) = true
        decide +kernel
      · show (max 0 (max 0 0)) + 1 ≤ _
        omega
    | @cell _ x hx =>
      refine ⟨?_, ?_⟩
      · show (PyData.strOk "cell" && (PyData.strOk x && true)) = true
        rw [name_ok hx]
        decide +kernel
      · show (max 0 (max 0 0)) + 1 ≤ _
        omega
    | tick =>
      refine ⟨by decide +kernel, ?_⟩
      show (max 0 0) + 1 ≤ _
      omega
    | @call _ x ts hx hl ht =>
      refine ⟨?_, ?_⟩
      · show (PyData.strOk "call" && (PyData.strOk x && (PyData.canLayAll0 ts && true))) = true
        rw [name_ok hx, canLay_of fun t h => (gd_lay f t (ht t h)).1]
        decide +kernel
      · have h1 := depth_of fun t h => (gd_lay f t (ht t h)).2
        show (max 0 (max 0 (max (PyData.depthAll ts + 1) 0))) + 1 ≤ _
        omega
    | @op _ z ts hz ht =>
      refine ⟨?_, ?_⟩
      · show (PyData.strOk z && PyData.canLayAll0 ts) = true
        rw [word_ok (op_word hz), canLay_of fun t h => (gd_lay f t (ht t h)).1]
        rfl
      · have h1 := depth_of fun t h => (gd_lay f t (ht t h)).2
        show (max 0 (PyData.depthAll ts)) + 1 ≤ _
        omega
theorem gd_shaped {n : Int} {f : Nat} {d : PyData} (h : Gd n f d) (hf : f ≤ 8) : SeqAt.shaped d = true := by
  have h1 := gd_lay f d h
  exact Bool.and_eq_true_iff.mpr ⟨h1.1, decide_eq_true (by omega)⟩
theorem gd_tup {n : Int} {f : Nat} {d : PyData} (h : Gd n f d) : (∃ i, d = .int i ∧ 0 ≤ i ∧ i < 3) ∨ ∃ z rest, d = .tuple (.str z :: rest) ∧ (z = "call" → ∃ x ts, rest = [.str x, .tuple ts]) ∧ (z = "tick" → rest = []) := by
  cases h with
  | val h0 h3 => exact .inl ⟨_, rfl, h0, h3⟩
  | arg _ _ => exact .inr ⟨"arg", _, rfl, fun e => absurd e (by decide +kernel), fun e => absurd e (by decide +kernel)⟩
  | cell _ => exact .inr ⟨"cell", _, rfl, fun e => absurd e (by decide +kernel), fun e => absurd e (by decide +kernel)⟩
  | tick => exact .inr ⟨"tick", _, rfl, fun e => absurd e (by decide +kernel), fun _ => rfl⟩
  | call _ _ _ => exact .inr ⟨"call", _, rfl, fun _ => ⟨_, _, rfl⟩, fun e => absurd e (by decide +kernel)⟩
  | @op _ z ts hz _ =>
    refine .inr ⟨z, ts, rfl, fun e => ?_, fun e => ?_⟩
    · rcases op_word hz with h | h | h | h <;> (rw [h] at e; exact absurd e (by decide +kernel))
    · rcases op_word hz with h | h | h | h <;> (rw [h] at e; exact absurd e (by decide +kernel))
/-! ### enumerate over a tuple -/
namespace EnT
section
variable {prog : Program} {w : World} {A : Around} {E : Value → Shared → Prop} {s : Shared} {it t : Addr} {i : Nat} {items : Array Value}
theorem one_more {x : Value} {Q : Value → Shared → Prop} (hit : s.heap.IsTupleIter it t i) (tup : s.heap.IsTuple t items) (hx : items[i]? = some x)
    (out : ∀ g, g.IsTupleIter it t (i + 1) → Heap.SameBut it s.heap g → Q x { s with heap := g }) : wpAny (model prog w) A (Builtin.SmallTypes.nextOf (.ref it)) Q E s := by
  obtain ⟨oi, ei, ci, di⟩ := id hit
  obtain ⟨ot, et, _, nt, dt⟩ := tup
  have upd1 : (s.heap.update it (Obj.mapFields fun vs => vs.setIfInBounds 1 (.int ((i : Int) + 1) 0))).IsTupleIter it t (i + 1) := ⟨_, Heap.get?_update_self _ ei (Obj.isFreed_of_fields (Obj.data_mapFields di _)), (Obj.cls_mapFields ..).trans ci, by rw [Obj.data_mapFields di]; simp [rawInt]⟩
  unfold Builtin.SmallTypes.nextOf
  refine wpAny_bind (wpAny_callSpecial?_slot (name := Str.ofString "__next__") hit.typeIs PySem.F.slot_tuple_iterator_next (wpAny_call_entry PySem.F.slot_tuple_iterator_next hit.typeIs PySem.F.entry_tuple_iterator_next ?_ (PySem.F.args_tuple_iterator_next_1 _)))
  show wpAny _ _ (field (.ref it) 0 >>= fun _ => _) _ _ s
  refine wpAny_bind (wpAny_field ei di (x := .ref t) rfl ?_)
  have nn : ¬ ((Value.ref t == Value.none) = true) := Bool.false_ne_true
  show wpAny _ _ (if (Value.ref t == Value.none) = true then _ else (field (.ref it) 1 >>= fun _ => _)) _ _ s
  rw [if_neg nn]
  refine wpAny_bind (wpAny_field ei di (x := .int i 0) rfl ?_)
  show wpAny _ _ (seqItems? (.ref t) >>= fun _ => _) _ _ s
  refine wpAny_bind (wpAny_seqItems et dt ?_)
  simp only [hx, Int.toNat_natCast]
  exact wpAny_bind (wpAny_setField ei di (by simp) (wpAny_pure ⟨x, rfl, wpAny_pure (out _ upd1 (Heap.SameBut.update ..))⟩))
theorem no_more {Q : Value → Shared → Prop} (hh : A.handled = none) (hit : s.heap.IsTupleIter it t i) (tup : s.heap.IsTuple t items) (hx : items[i]? = none)
    (out : ∀ g e, Heap.ExtBut it s.heap g → (∃ o, g.get? e = some o ∧ o.cls = .type "StopIteration") → E (.ref e) { s with heap := g }) : wpAny (model prog w) A (Builtin.SmallTypes.nextOf (.ref it)) Q E s := by
  obtain ⟨oi, ei, ci, di⟩ := id hit
  obtain ⟨ot, et, _, nt, dt⟩ := tup
  unfold Builtin.SmallTypes.nextOf
  refine wpAny_bind (wpAny_callSpecial?_slot (name := Str.ofString "__next__") hit.typeIs PySem.F.slot_tuple_iterator_next (wpAny_call_entry PySem.F.slot_tuple_iterator_next hit.typeIs PySem.F.entry_tuple_iterator_next ?_ (PySem.F.args_tuple_iterator_next_1 _)))
  show wpAny _ _ (field (.ref it) 0 >>= fun _ => _) _ _ s
  refine wpAny_bind (wpAny_field ei di (x := .ref t) rfl ?_)
  have nn : ¬ ((Value.ref t == Value.none) = true) := Bool.false_ne_true
  show wpAny _ _ (if (Value.ref t == Value.none) = true then _ else (field (.ref it) 1 >>= fun _ => _)) _ _ s
  rw [if_neg nn]
  refine wpAny_bind (wpAny_field ei di (x := .int i 0) rfl ?_)
  show wpAny _ _ (seqItems? (.ref t) >>= fun _ => _) _ _ s
  refine wpAny_bind (wpAny_seqItems et dt ?_)
  simp only [hx, Int.toNat_natCast]
  refine wpAny_bind (wpAny_rule (wpAny_bind (wpAny_setField ei di (by simp) ?_)))
  show wpAny _ _ (newExc (.type "StopIteration") [] >>= fun _ => _) _ _ _
  refine wpAny_bind ?_
  simp only [newTuple, newExc]
  refine wpAny_bind (wpAny_newObj_type ?_ (by size_fits))
  refine wpAny_bind (m := firstArgMember _ _) (wpAny_of_eq (a := Value.none) (by simp only [firstArgMember]; rfl) ?_)
  refine wpAny_newObj_type ?_ (by size_fits)
  simp only [raiseNew]
  refine wpAny_bind (wpAny_handled ?_)
  rw [show A.in1.handled = none from hh]
  refine wpAny_bind (wpAny_pure (wpAny_throw ?_))
  exact out _ _ (((Heap.SameBut.update ..).extBut.push _).push _) ⟨_, Heap.get?_push_size _ rfl, rfl⟩
end
theorem draws_tup {prog : Program} {w : World} {A : Around} (hh : A.handled = none) (it t : Addr) (ne : t ≠ it) (items : Array Value) : Draws prog w A it [it, t] items.size (fun i v => items[i]? = some v) (fun i h => h.IsTupleIter it t i ∧ h.IsTuple t items) where
  live := fun _ _ st => let ⟨o, e, _⟩ := st.1; ⟨o, e⟩
  frame := fun i g g' st k => ⟨let ⟨o, e, r⟩ := st.1; ⟨o, k it (by simp) o e, r⟩, let ⟨o, e, r⟩ := st.2; ⟨o, k t (by simp) o e, r⟩⟩
  item := fun i s Q E hi st q => one_more st.1 st.2 (x := items[i]) (by simp [hi]) fun g hg sb => q _ g s.toks (by simp [hi]) ⟨hg, st.2.extBut sb.extBut ne⟩ sb
  done := fun s Q E st q => no_more hh st.1 st.2 (by simp) q
theorem made (l : Addr) (items : Array Value) (n : Nat) (dct : Option Addr) (sl : Array (Option Value)) :
    Meets (Builtin.«enumerate.__new__» ⟨[.type "enumerate", .ref l], []⟩) (fun _ R s => s.heap.get? l = some { cls := .type "tuple", dict := dct, data := .seq items n, slots := sl } ∧
      R (.ok (.ret (.ref (s.heap.push { cls := .type "tuple_iterator", data := .fields #[.ref l, .int 0 0] }).objs.size)))
        { s with heap := (s.heap.push { cls := .type "tuple_iterator", data := .fields #[.ref l, .int 0 0] }).push { cls := .type "enumerate", data := .fields #[.none, .bool false, .ref s.heap.objs.size, rawInt 0, .none, .none] } }) :=
  .of_wp fun prog w A R s h => by
    obtain ⟨hp, g, d, tk, os⟩ := s
    obtain ⟨hl, h⟩ := h
    have sub := sub_enumerate
    have isT : Heap.IsTuple (Shared.heap ⟨hp, g, d, tk, os⟩) l items := ⟨_, hl, rfl, n, rfl⟩
    wp_walk using AutoSeq1.wpAny_loadPart' hl
    refine wpAny_stack_any fun st => wpAny_pure ?_
    split
    · rename_i c _ _ _ _ _
      cases (c == Value.type "enumerate") <;> (wp_walk using AutoSeq1.wpAny_loadPart' hl, wpAny_pyIter_tuple isT; exact ⟨_, rfl, h⟩)
    · wp_walk using AutoSeq1.wpAny_loadPart' hl, wpAny_pyIter_tuple isT
      exact ⟨_, rfl, h⟩
section
variable {prog : Program} {w : World} {A : Around} {E : Value → Shared → Prop} {s : Shared}
theorem call_made {l : Addr} {items : Array Value} {Q : Value → Shared → Prop} (tup : s.heap.IsTuple l items)
    (h : ∀ g, IsEnum g (s.heap.objs.size + 1) s.heap.objs.size 0 .none → g.IsTupleIter s.heap.objs.size l 0 → g.objs.size = s.heap.objs.size + 2 → (∀ b o, s.heap.get? b = some o → g.get? b = some o) → Q (.ref (s.heap.objs.size + 1)) { s with heap := g }) :
    wpAny (model prog w) A (call (.type "enumerate") [.ref l]) Q E s := by
  obtain ⟨⟨cl, dct, dat, sl⟩, hl, hc, n, hd⟩ := tup
  have hc' : cl = .type "tuple" := hc
  have hd' : dat = .seq items n := hd
  subst hc' hd'
  refine callType_new PySem.F.called_enumerate (by decide) (PySem.F.typeCall_enumerate_1 _) (PySem.F.newCall_enumerate_1 _) (fun obj => PySem.F.args_object_init_2 obj _) PySem.F.entry_enumerate_new (made l items n dct sl) ⟨hl, ?_⟩
  have sz : (s.heap.push { cls := .type "tuple_iterator", data := .fields #[.ref l, .int 0 0] }).objs.size = s.heap.objs.size + 1 := Heap.size_push ..
  show _ ∧ _
  rw [sz]
  have en : IsEnum ((s.heap.push { cls := .type "tuple_iterator", data := .fields #[.ref l, .int 0 0] }).push { cls := .type "enumerate", data := .fields #[.none, .bool false, .ref s.heap.objs.size, rawInt 0, .none, .none] }) (s.heap.objs.size + 1) s.heap.objs.size 0 .none := by
    have z := Heap.get?_push_size (s.heap.push { cls := .type "tuple_iterator", data := .fields #[.ref l, .int 0 0] }) (o := { cls := .type "enumerate", data := .fields #[.none, .bool false, .ref s.heap.objs.size, rawInt 0, .none, .none] }) rfl
    rwa [sz] at z
  exact ⟨⟨_, en, rfl⟩, h _ en ⟨_, Heap.get?_push_of_some _ (Heap.get?_push_size _ rfl), rfl, rfl⟩ (by rw [Heap.size_push, sz]) fun b o x => Heap.get?_push_of_some _ (Heap.get?_push_of_some _ x)⟩
end
/-- the tuple at a as it stands, its items in new pairs with their places -/
def IteT (K : PySem.W.Frag) (a : Addr) : It :=
  ⟨fun i H => ∃ (xs : List V) (x : V), SqT K H a xs ∧ xs[i]? = some x, fun i H v H' => ∃ T x, v = .ref T ∧ H T = none ∧ H' = upd H T (.tup [.int (i : Nat), x]) ∧ ∀ xs, SqT K H a xs → xs[i]? = some x, fun i H => ∃ xs : List V, SqT K H a xs ∧ xs.length ≤ i⟩
theorem turn_of {P : Program} {w : World} {K : PySem.W.Frag} {elts : List Expr} {kk : Nat} {tpos : Pos} (a e it : Addr) :
    Turn P w K (.Tuple elts kk tpos) (IteT K a) [e, it] e (fun i h => (∃ old, IsEnum h e it ((i : Nat) : Int) old) ∧ h.IsTupleIter it a i ∧ e ≠ it) where
  mem := List.mem_cons_self
  obj := fun i h st b hb => by
    obtain ⟨⟨old, he⟩, ⟨o, ho, hc, hd⟩, _⟩ := st
    rcases (show b = e ∨ b = it by simpa using hb) with z | z <;> rw [z]
    · exact ⟨_, he, fun v q => nomatch q⟩
    · exact ⟨o, ho, fun v q => by rw [hd] at q; cases q⟩
  keep := fun i h h' st k => let ⟨⟨old, he⟩, ⟨o, ho, r⟩, hne⟩ := st; ⟨⟨old, k e List.mem_cons_self _ he⟩, ⟨o, k it (by simp) o ho, r⟩, hne⟩
  item := by
    intro X hP hw hK hc i pins s σ H E I hf st hg
    subst hP hw hK
    obtain ⟨⟨old, he⟩, hit, hne⟩ := st
    obtain ⟨xs, x, hq, hx⟩ := hg
    obtain ⟨its, rv, p, hz⟩ := I.tuple hq
    have el : e < s.heap.objs.size := Heap.lt_size he
    have il : it < s.heap.objs.size := let ⟨_, q, _⟩ := hit; Heap.lt_size q
    have it1 : its.toArray.size = xs.length := by rw [List.size_toArray, ← rv.length]
    have isT : s.heap.IsTuple a its.toArray := p
    have ta : a ≠ it := fun z => by
      obtain ⟨o1, q1, c1, _⟩ := isT
      obtain ⟨o2, q2, c2, _⟩ := hit
      rw [z, q2] at q1
      cases q1
      rw [c2] at c1
      exact absurd (Value.type.inj c1) (by decide)
    have tae : a ≠ e := fun z => by
      obtain ⟨o1, q1, c1, _⟩ := isT
      have q2 : s.heap.get? e = some _ := he
      rw [z, q2] at q1
      cases q1
      exact absurd (Value.type.inj (show Value.type "enumerate" = Value.type "tuple" from c1)) (by decide)
    refine wpAny_pyNext_enum_itemD (draws_tup (A := X.A.in1) (I.ok.hd hc) it a ta its.toArray) he ⟨hit, isT⟩ (by rw [it1]; exact (List.getElem?_eq_some_iff.mp hx).1) hne (by simp [hne, tae.symm]) fun u h' tk hu ho st' hT hsz hk => ?_
    have ru : RelV x u := by
      obtain ⟨u', e1, r1⟩ := rv.get hx
      have e2 : its[i]? = some u := by simpa using hu
      rw [e1] at e2
      cases e2
      exact r1
    refine ⟨_, rfl, wpAny_letOwnedTupleGo_enum (s := { s with heap := h', toks := tk + 1 }) ho fun h'' he' sb => ?_⟩
    have hT2 : h''.get? s.heap.objs.size = some { cls := .type "tuple", data := .seq #[.int i tk, u] } := (sb.2 _ (Nat.ne_of_gt el)).trans hT
    have new : ObjOk X.prog X.w (upd H s.heap.objs.size (.tup [.int (i : Nat), x])) h'' s.heap.objs.size (.tup [.int (i : Nat), x]) := ⟨by show 2 ≤ sizeLine; decide, [.int i tk, u], .cons ⟨_, rfl⟩ (.cons ru .nil), ⟨_, hT2, rfl, _, rfl⟩⟩
    have I1 : Inv X pins σ (upd H s.heap.objs.size (.tup [.int (i : Nat), x])) { s with heap := h'', toks := tk + 1 } := I.turnedNew (ch := [e, it]) (fun b ob hb q => (sb.2 b (fun z => hb (by simp [z]))).trans (hk b ob (fun z => hb (by simp [z])) (fun z => hb (by simp [z])) q)) hf (Nat.le_refl _) new
    refine ⟨.ref s.heap.objs.size, _, I1, rfl, ⟨_, x, rfl, I.hok.fresh (Nat.le_refl _), rfl, fun ys hy => by rw [I.tuple_inj hy hq]; exact hx⟩, ⟨⟨u, ?_⟩, ?_, hne⟩, fun b hb => ?_⟩
    · rw [show ((i + 1 : Nat) : Int) = (i : Int) + 1 by omega]
      exact he'
    · obtain ⟨o, q, r⟩ := st'.1
      exact ⟨o, (sb.2 it (Ne.symm hne)).trans q, r⟩
    · rw [upd_ne (Nat.ne_of_lt (by rcases (show b = e ∨ b = it by simpa using hb) with z | z <;> rw [z] <;> assumption))]
      exact (hf b hb).1
  done := by
    intro X hP hw hK hc i pins s σ H E I hf st hg
    subst hP hw hK
    obtain ⟨⟨old, he⟩, hit, hne⟩ := st
    obtain ⟨xs, hq, hx⟩ := hg
    obtain ⟨its, rv, p, hz⟩ := I.tuple hq
    obtain ⟨f0, f1, f2, f3, f4, f5⟩ := hf it (by simp)
    have isT : s.heap.IsTuple a its.toArray := p
    have hl := rv.length
    have hT : s.TypeIs (.ref e) "enumerate" := ⟨_, he, rfl⟩
    unfold pyNext
    refine wpAny_bind (wpAny_attempt (wpAny_callSpecial?_slot (name := Str.ofString "__next__") hT PySem.F.slot_enumerate_next (wpAny_call_entry PySem.F.slot_enumerate_next hT PySem.F.entry_enumerate_next ?_ (PySem.F.args_enumerate_next_1 _))))
    show wpAny _ _ (field (.ref e) 2 >>= fun _ => _) _ _ _
    refine wpAny_bind (wpAny_field he rfl (x := .ref it) rfl ?_)
    refine wpAny_bind (no_more (I.ok.hd hc) hit isT (by simp; omega) fun h' x eb hx' => ?_)
    obtain ⟨o, ho, hcl⟩ := hx'
    refine wpAny_bind (wpAny_isInstance (T := "StopIteration") (b := true) ⟨o, ho, hcl⟩ isSubtype_stop ?_)
    exact wpAny_pure ⟨rfl, I.turned (t' := s.toks) (fun b o hb q => eb b o hb q) f0 f1 f3 f4 f5⟩
  self := fun A i s Q E st h => let ⟨⟨_, he⟩, _⟩ := st; wpAny_pyIter_enum he h
def iEnumA (K : PySem.W.Frag) (ta : TA) : TI := fun σ H R => ta σ H fun vs H1 => ∃ a xs, vs = [.ref a] ∧ ((SqL K H1 a xs ∧ R (Ite K a) H1) ∨ (SqT K H1 a xs ∧ R (IteT K a) H1))
/-- enumerate(e), of a list or a tuple -/
theorem pi_enumA {X : Cx} {e : Expr} {ta : TA} {p pos tpos : Pos} {elts : List Expr} {kk : Nat} (hg : Gl X "enumerate") (hm : X.mg "enumerate" = none) (ha : PA X [e] ta) (one : starEach [e] X.env = [(false, eval e X.env)] := by rfl) :
    PI X (.Tuple elts kk tpos) (.Call (.Name "enumerate" p) [e] [] pos) (iEnumA X.K ta) := by
  refine ⟨fun pins s σ H R I h => ?_⟩
  refine Call_ (ld_blt I hg hm boot_enumerate (PyProof.Rows.callWith_type1 (thn (ha.run pos pins s σ H _ I h) fun us s1 ⟨vs, H1, I1, r1, z⟩ => ?_) one rfl))
  obtain ⟨a, xs, rfl, z⟩ := z
  obtain ⟨u1, rfl, r⟩ := vals1 r1
  obtain rfl : u1 = Value.ref a := r
  have two : ∀ b, b ∈ [s1.heap.objs.size + 1, s1.heap.objs.size] → s1.heap.objs.size ≤ b := fun b hb => by
    rcases (show b = s1.heap.objs.size + 1 ∨ b = s1.heap.objs.size by simpa using hb) with z | z <;> omega
  rcases z with ⟨hq, q⟩ | ⟨hq, q⟩
  · obtain ⟨its, rv, p', hz⟩ := I1.list hq
    refine call_enumerate_list p'.isList fun g he hit hsz hk => wpAny_pyIter_enum he ?_
    exact ⟨s1.heap.objs.size + 1, [s1.heap.objs.size + 1, s1.heap.objs.size], _, _, H1, rfl, (I1.kept (t' := s1.toks) hk : Inv X pins σ H1 { s1 with heap := g }), turn_enum a (s1.heap.objs.size + 1) s1.heap.objs.size, ⟨⟨.none, he⟩, hit, Nat.succ_ne_self _⟩, fun b hb => I1.fpOk (two b hb) (I1.hok.fresh (two b hb)), q⟩
  · obtain ⟨its, rv, p', hz⟩ := I1.tuple hq
    refine call_made (show s1.heap.IsTuple a its.toArray from p') fun g he hit hsz hk => wpAny_pyIter_enum he ?_
    exact ⟨s1.heap.objs.size + 1, [s1.heap.objs.size + 1, s1.heap.objs.size], _, _, H1, rfl, (I1.kept (t' := s1.toks) hk : Inv X pins σ H1 { s1 with heap := g }), turn_of a (s1.heap.objs.size + 1) s1.heap.objs.size, ⟨⟨.none, he⟩, hit, Nat.succ_ne_self _⟩, fun b hb => I1.fpOk (two b hb) (I1.hok.fresh (two b hb)), q⟩
theorem walk_enumT {K : PySem.W.Frag} {a : Addr} {xs : List V} : Walk (IteT K a) xs.length (fun H => SqT K H a xs) (YPair (fun i => some (.int (i : Nat))) (fun i => xs[i]?)) := by
  refine ⟨fun i _ hi q => ⟨xs, xs[i], q, by simp [hi]⟩, fun _ q => ⟨xs, q, Nat.le_refl _⟩, fun i H v H' _ q y => ?_⟩
  obtain ⟨T, x, e1, e2, e3, e4⟩ := y
  exact ⟨T, .int (i : Nat), x, e1, e2, e3, rfl, e4 xs q⟩
end EnT
/-! ### cells -/
abbrev sCell : Stmt := inClass (topS 21) 0
abbrev sCellEq : Stmt := inClass (topS 21) 1
theorem scCell : FnScope ["self", "name", "kind"] ["self", "name", "kind"] (defScope sCell) := ⟨rfl, rfl, rfl, by decide +kernel, rfl, by decide +kernel, by decide +kernel⟩
theorem scCellEq : FnScope ["self", "other"] ["self", "other"] (defScope sCellEq) := ⟨rfl, rfl, rfl, by decide +kernel, rfl, by decide +kernel, by decide +kernel⟩
def kindRow : List Str := ["frozen", "setting", "table"]
def isKind : PyData → Bool
  | .str z => decide (z ∈ kindRow)
  | _ => false
/-- what is written of the class Cell -/
structure CelC (K : PySem.W.Frag) (mg : Str → Option Value) (C : Addr) : Prop where
  cl : Cls K C
  nn : NoAttr K C "name"
  nk : NoAttr K C "kind"
  me : PySem.W.kitOne K (.ref C) (.ref C) = some true
  ot : PySem.W.kitOne K (.type "str") (.ref C) = some false
  gC : mg "Cell" = some (.ref C)
  ca : PySem.W.findIn K (.ref C) "__class__" = some (some (.builtin "object.__class__"))
  cg : PySem.W.specialIn K (.builtin "object.__class__") "__get__" = some (some (.builtin "getset_descriptor.__get__"))
  ct : PySem.W.takesIn K (.builtin "object.__class__") = some true
  cm : PySem.W.mroIn K C (.type "object") = some true
  ne : PySem.W.findIn K (.ref C) "__ne__" = some (some (.builtin "object.__ne__"))
  so : PySem.W.subIn K (.ref C) (.type "object") = some true
  nf : PySem.W.notFirst K C (.type "str") = true
def KindT (K : PySem.W.Frag) (mg : Str → Option Value) : Prop := ∃ a, mg "KINDS" = some (.ref a) ∧ ∀ H : Hp, SqT K H a (kindRow.map V.str)
/-- a cell of this name and kind, at a -/
def CellAt (H : Hp) (C a : Addr) (n k : Str) : Prop := ∃ dx fs, H a = some (.ins C dx fs) ∧ fs.lookup ("name" : Str) = some (V.str n) ∧ fs.lookup ("kind" : Str) = some (V.str k)
theorem CellAt.same {H H' : Hp} {C a : Addr} {n k : Str} (h : CellAt H C a n k) (s : Same H H') : CellAt H' C a n k := by
  obtain ⟨dx, fs, e, r⟩ := h
  exact ⟨dx, fs, s _ _ e, r⟩
theorem CellAt.but {H H' : Hp} {C a p : Addr} {n k : Str} {xs : List V} (h : CellAt H C a n k) (e : H p = some (.lst xs)) (b : But p H H') : CellAt H' C a n k := by
  obtain ⟨dx, fs, ea, r⟩ := h
  exact ⟨dx, fs, b _ _ ea (fun q => by rw [q, e] at ea; cases ea), r⟩
/-- what a cell of such parts is refused for -/
def cellOut (d e : PyData) : Option Str := if isName d then (if isKind e then none else some "kind") else some "name"
abbrev CWish (H : Hp) (CB : Addr) (E : XK) (z : Str) : Prop := ∀ H1 dd H', Same H H1 → Left H1 dd "part" (.str z) H' → E (.ref CB) (some dd) H'
def spCell (K : PySem.W.Frag) (C CB : Addr) : Sp := fun vs H Q E => ∃ a dx v u d e, vs = [.ref a, v, u] ∧ H a = some (.ins C dx []) ∧ Dp K H v d ∧ Dp K H u e ∧ szD d = true ∧
  ((∃ z, cellOut d e = some z ∧ CWish H CB E z) ∨
   (∃ n k, d = .str n ∧ e = .str k ∧ cellOut d e = none ∧ ∀ H1 fs, Same H H1 → fs.lookup ("name" : Str) = some (V.str n) → fs.lookup ("kind" : Str) = some (V.str k) → Q .non (upd H1 a (.ins C dx fs))))
def spCellEq (C : Addr) : Sp := fun vs H Q _ => ∃ (a : Addr) (n k : Str) (y : V), vs = [.ref a, y] ∧ CellAt H C a n k ∧ ((∃ b m l, y = .ref b ∧ CellAt H C b m l ∧ Q (.bl (decide (n = m) && decide (k = l))) H) ∨ ∃ z, y = .str z ∧ Q (.bl false) H)
section
variable {P : Program} {w : World} {K : PySem.W.Frag} {mg : Str → Option Value} {base : Heap}
theorem ok_cell {C CB f fB fN : Addr} {fd fdB fdN : FuncData} (F : Fun K "__init__" "Cell.__init__" sCell f fd) (M : Blt mg) (T : CelC K mg C) (R : KindT K mg) (TE : ErrT K mg "BadPart" "part" CB fB)
    (GB : FnOk P w K mg base CX0 1 fB fdB ["self", "part"] (spErr CB "part")) (bB : Binds K fdB ["self", "part"] [])
    (GN : FnOk P w K mg base CX0 1 fN fdN ["value"] (spB K isName)) (kN : PySem.W.keepIn K (.ref fN) = true) (bN : Binds K fdN ["value"] []) (gN : mg "is_name" = some (.ref fN)) : FnOk P w K mg base (L2.CX P w) 3 f fd ["self", "name", "kind"] (spCell K C CB) := by
  obtain ⟨aR, gR, hR⟩ := R
  refine F.okX scCell (fun vs H Q E h => ?_) (fun cdv A outer s H vs Q E hr h => ?_)
  · obtain ⟨a, dx, v, u, d, e, rfl, _⟩ := h
    rfl
  · obtain ⟨a, dx, v, u, d, e, rfl, ea, hv, hu, hz, h⟩ := h
    have hr1 : Room 1 _ := hr.mono (by decide)
    refine ⟨_, pss_cons (ps_if (pt_not (pt_val (pe_call GN hr1 (by rfl) gN kN bN .nil pass0 (pa_cons (pv 1) pa_nil))))
        (pss_one (ps_raise rfl (takes_of rfl rfl rfl rfl) (pmk_oex (k := 1) (ps := ["self", "part"]) (sp := spErr CB "part") (ds := []) (dvs := []) TE.oex TE.ini TE.typ GB hr bB .nil pass0 (by rfl) TE.nam (pa_cons pe_str pa_nil)))) pss_nil)
      (pss_cons (ps_if (PW.pt (pw_or (pt_not (pt_val (pe_callB call_isi (by rfl) M.isinstance (by decide +kernel) (pa_cons (pv 2) (pa_cons (pe_bltn (v := .ty "str") (by rfl) M.str (by decide +kernel) rfl) pa_nil)))))
        (pw_or1 (pt_cmpR op_notIn_seq (pv 2) (pe_glob (v := .ref aR) (by rfl) gR rfl) (by rfl)))))
        (pss_one (ps_raise rfl (takes_of rfl rfl rfl rfl) (pmk_oex (k := 1) (ps := ["self", "part"]) (sp := spErr CB "part") (ds := []) (dvs := []) TE.oex TE.ini TE.typ GB hr bB .nil pass0 (by rfl) TE.nam (pa_cons pe_str pa_nil)))) pss_nil)
      (pss_cons (ps_fld (pv 0) (pv 1) (by rfl)) (pss_one (ps_fld (pv 0) (pv 2) (by rfl))))), ?_⟩
    refine ⟨v, rfl, v, d, rfl, hv, hz, fun H1 s1 => ⟨_, rfl, ?_⟩⟩
    cases hn : isName d with
    | false =>
      have e0 : cellOut d e = some "name" := by
        unfold cellOut
        rw [hn]
        rfl
      rcases h with ⟨z, ez, q⟩ | ⟨n, k, _, _, ez, _⟩
      · rw [e0] at ez
        cases ez
        exact iteT ⟨by show (1 : Nat) ≤ 1000; decide, mk_left fun dd H' l => q H1 dd H' s1 l⟩
      · rw [e0] at ez
        cases ez
    | true =>
      refine iteF ?_
      have hu1 := dp_same s1 hu
      refine ⟨u, rfl, u, .ty "str", _, _, _, rfl, .ty "str", dp_ty hu1, kit_str K e, _, rfl, ?_⟩
      have bad : isKind e = false → Left H1 = Left H1 → ∀ (W : Prop), (CWish H CB E "kind" → W) → W := fun hk _ W g => by
        have e0 : cellOut d e = some "kind" := by
          unfold cellOut
          rw [hn, hk]
          rfl
        rcases h with ⟨z, ez, q⟩ | ⟨n, k, _, _, ez, _⟩
        · rw [e0] at ez
          cases ez
          exact g q
        · rw [e0] at ez
          cases ez
      cases hu1 with
      | str z =>
        refine iteF ⟨V.str z, rfl, aR, _, rfl, .inr (hR H1), rfl, by decide, _, rfl, ?_⟩
        have e1 : inV (V.str z) (kindRow.map V.str) = decide (z ∈ kindRow) := inV_strs z kindRow
        by_cases hk : z ∈ kindRow
        · rw [decide_eq_true hk] at e1
          simp only [e1]
          refine iteF ?_
          have e0 : cellOut d (.str z) = none := by
            unfold cellOut
            rw [hn]
            show (if decide (z ∈ kindRow) = true then none else some ("kind" : Str)) = none
            rw [decide_eq_true hk]
            rfl
          rcases h with ⟨z', ez, q⟩ | ⟨n, k, ed, ee, ez, q⟩
          · rw [e0] at ez
            cases ez
          · cases ee
            subst ed
            cases hv
            refine ⟨.str n, rfl, .ref a, rfl, a, C, dx, [], rfl, s1 _ _ ea, T.cl, T.nn, by decide, ?_⟩
            refine ⟨.str z, rfl, .ref a, rfl, a, C, dx, _, rfl, upd_same, T.cl, T.nk, (by show (1 : Nat) < 1000; decide), ?_⟩
            rw [upd_twice]
            exact q H1 _ s1 rfl rfl
        · rw [decide_eq_false hk] at e1
          simp only [e1]
          exact iteT (bad (decide_eq_false hk) rfl _ fun q => ⟨by show (1 : Nat) ≤ 1000; decide, mk_left fun dd H' l => q H1 dd H' s1 l⟩)
      | non => exact iteT (iteT (bad rfl rfl _ fun q => ⟨by show (1 : Nat) ≤ 1000; decide, mk_left fun dd H' l => q H1 dd H' s1 l⟩))
      | bl b => exact iteT (iteT (bad rfl rfl _ fun q => ⟨by show (1 : Nat) ≤ 1000; decide, mk_left fun dd H' l => q H1 dd H' s1 l⟩))
      | int b => exact iteT (iteT (bad rfl rfl _ fun q => ⟨by show (1 : Nat) ≤ 1000; decide, mk_left fun dd H' l => q H1 dd H' s1 l⟩))
      | lst h1 h2 => exact iteT (iteT (bad rfl rfl _ fun q => ⟨by show (1 : Nat) ≤ 1000; decide, mk_left fun dd H' l => q H1 dd H' s1 l⟩))
      | tup h1 h2 => exact iteT (iteT (bad rfl rfl _ fun q => ⟨by show (1 : Nat) ≤ 1000; decide, mk_left fun dd H' l => q H1 dd H' s1 l⟩))
theorem ok_cellEq {C f : Addr} {fd : FuncData} (F : Fun K "__eq__" "Cell.__eq__" sCellEq f fd) (M : Blt mg) (T : CelC K mg C) : FnOk P w K mg base CX0 1 f fd ["self", "other"] (spCellEq C) := by
  refine F.ok scCellEq (fun vs H Q E h => ?_) (fun cdv A outer s H vs Q E hr h => ?_)
  · obtain ⟨a, n, k, y, rfl, _⟩ := h
    rfl
  · obtain ⟨a, n, k, y, rfl, ⟨dx, fs, ea, hn, hk⟩, h⟩ := h
    refine ⟨_, pss_one (ps_ret (pe_and (pe_callB call_isi (by rfl) M.isinstance (by decide +kernel) (pa_cons (pv 1) (pa_cons (pe_glob (v := .ref C) (by rfl) T.gC rfl) pa_nil)))
      (pe_and (pe_cmpR op_eq (pe_fld (pv 0) (by rfl)) (pe_fld (pv 1) (by rfl)) (nomark _)) (pe_one (pe_cmpR op_eq (pe_fld (pv 0) (by rfl)) (pe_fld (pv 1) (by rfl)) (nomark _)))))), ?_⟩
    rcases h with ⟨b, m, l, rfl, ⟨dy, gs, eb, hm, hl⟩, q⟩ | ⟨z2, rfl, q⟩
    · refine ⟨_, rfl, _, _, _, _, _, rfl, .own C, .base (.ins eb T.cl T.ca T.cg T.ct T.cm), T.me, _, rfl, iteT ?_⟩
      refine ⟨_, rfl, a, C, dx, fs, _, rfl, ea, T.cl, T.nn, hn, _, rfl, b, C, dy, gs, _, rfl, eb, T.cl, T.nn, hm, rfl, _, rfl, ?_⟩
      have e1 : decide (V.str n = V.str m) = decide (n = m) := by
        by_cases e : n = m
        · rw [decide_eq_true e, decide_eq_true (by rw [e])]
        · rw [decide_eq_false e, decide_eq_false (fun z => e (V.str.inj z))]
      have e2 : decide (V.str k = V.str l) = decide (k = l) := by
        by_cases e : k = l
        · rw [decide_eq_true e, decide_eq_true (by rw [e])]
        · rw [decide_eq_false e, decide_eq_false (fun z => e (V.str.inj z))]
      rw [← e1, ← e2] at q
      cases h1 : decide (V.str n = V.str m) with
      | false =>
        rw [h1] at q
        exact iteF q
      | true =>
        rw [h1] at q
        exact iteT ⟨_, rfl, a, C, dx, fs, _, rfl, ea, T.cl, T.nk, hk, _, rfl, b, C, dy, gs, _, rfl, eb, T.cl, T.nk, hl, rfl, q⟩
    · exact ⟨_, rfl, _, _, _, _, _, rfl, .own C, .base (.str z2), T.ot, _, rfl, iteF q⟩
end
/-! ### making an error of any base, with values and keywords -/
namespace ExG
open PySem.HandSPX
section
variable {M : Model} {prog : Program} {w : World} {A : Around} {E : Value → Shared → Prop} {R : Result → Shared → Prop} {h : Heap} {g : Array GenState} {d : Drawn} {t : Nat} {os : OsState}
variable {nm q : Str} {C N : Addr} {bs bm bmB : List Value} {hdct : Bool} {sn : List Str} {sub : List Value} {ab : Bool} {col : Option Bool} {dd : Option Addr} {k0 k1 k2 k3 k5 : Option Value} {nB newId nI : String} {rest : List Value} {kw : List (Str × Value)}
/-- what of the chain bm is asked when an error is made by newId, nB's -/
structure Chain (bm : List Value) (nB : String) : Prop where
  has : bm.contains (.type nB) = true
  noA : bm.contains (.type "AttributeError") = false
  noN : bm.contains (.type "NameError") = false
theorem may_new (F : ExcBaseFacts nB newId nI bmB) (T : Chain bm nB) {Q : Unit → Shared → Prop} (hC : h.get? C = some (excClassObj nm q C N bs bm hdct sn sub ab col dd k0 k1 k2 k3 k5 newId)) (hq : Q () ⟨h, g, d, t, os⟩) :
    wpAny M A (checkBuiltinCall newId ⟨.ref C :: rest, kw⟩) Q E ⟨h, g, d, t, os⟩ := by
  have sub1 : (Value.ref C :: bm).contains (.type nB) = true := by rw [List.contains_cons, T.has, Bool.or_true]
  have st := F.noStar
  simp only [checkBuiltinCall, F.newKind, F.newSplit, F.newRow]
  repeat (first
    | refine wpAny_loadPart_at hC ?_
    | (refine wpAny_isSubtype_exc hC ?_; rw [sub1])
    | refine wpAny_staticBase_exc hC ?_
    | refine wpAny_madeBy_exc hC ?_
    | simp only [bne_self_eq_false, Bool.false_eq_true, if_false]
    | wp_step)
  exact hq
theorem new_at (F : ExcBaseFacts nB newId nI bmB) (T : Chain bm nB) (hC : h.get? C = some (excClassObj nm q C N bs bm hdct sn sub ab col dd k0 k1 k2 k3 k5 newId)) (few : rest.length ≤ sizeLine)
    (hq : R (.ok (.ret (.ref (h.objs.size + 1)))) ⟨(h.push (PySem.W.kdv_tup rest)).push (excO C h.objs.size), g, d, t, os⟩) : codeAny (model prog w) A (.builtin newId ⟨.ref C :: rest, kw⟩) R ⟨h, g, d, t, os⟩ := by
  have e1 := F.ends
  have s1 : (Value.ref C :: bm).contains (.type nB) = true := by rw [List.contains_cons, T.has, Bool.or_true]
  have s2 : (Value.ref C :: bm).contains (.type "AttributeError") = false := by rw [List.contains_cons, T.noA]; rfl
  have s3 : (Value.ref C :: bm).contains (.type "NameError") = false := by rw [List.contains_cons, T.noN]; rfl
  refine codeAny_builtinAt F.entry ?_
  unfold Builtin.«BaseException.__new__»
  refine PySem.wpAt_bind ?_
  show PySem.wpAt _ _ _ (stack >>= _) _ _ _
  refine PySem.wpAt_bind (PySem.wpAt_stack fun p below => PySem.wpAt_of_wpAny ?_)
  wp_walk
  refine PySem.wpAt_of_wpAny ?_
  rw [F.owner]
  repeat (first
    | with_reducible refine wpAny_madeHere_exc F.canon hC ?_
    | with_reducible refine wpAny_loadPart_at hC ?_
    | (with_reducible refine wpAny_isSubtype_exc hC ?_; first | rw [s1] | rw [s2] | rw [s3])
    | wp_step)
  show R _ _
  rw [Heap.size_push]
  exact hq
theorem made_at (F : ExcBaseFacts nB newId nI bmB) (T : Chain bm nB) {fI : Addr} {Q : Fin → Shared → Prop} (hC : h.get? C = some (excClassObj nm q C N bs bm hdct sn sub ab col dd k0 k1 k2 k3 k5 newId))
    (hi : PySem.W.Looks (model prog w) h (typeLookup (.ref C) "__init__") (some (.ref fI))) (hb : ∀ self, PySem.W.Looks (model prog w) h (bindSpecial (.ref fI) self) (.ref fI, [self])) (few : rest.length ≤ sizeLine)
    (hq : codeAny (model prog w) A (.call (.ref fI) ⟨.ref (h.objs.size + 1) :: rest, kw⟩) (fun r s' => match r with | .ok (.ret v) => v = .none ∧ Q (.done (.ret (.ref (h.objs.size + 1)))) s' | .ok _ => False | .error e => E e s')
      ⟨(h.push (PySem.W.kdv_tup rest)).push (excO C h.objs.size), g, d, t, os⟩) : wpAny (model prog w) A (Builtin.«type.__call__» ⟨.ref C :: rest, kw⟩) Q E ⟨h, g, d, t, os⟩ := by
  repeat (first
    | with_reducible refine wpAny_loadPart_at hC ?_
    | with_reducible refine wpAny_madeBy_exc hC ?_
    | wp_step)
  refine codeAny_call_builtin_code (Code.quiet_builtin _ F.quiet) (may_new F T hC (new_at F T hC few ?_))
  show wpAny _ _ _ _ _ _
  have keep : ∀ b o, h.get? b = some o → ((h.push (PySem.W.kdv_tup rest)).push (excO C h.objs.size)).get? b = some o := fun b o e => Heap.get?_push_of_some _ (Heap.get?_push_of_some _ e)
  have c1 := keep _ _ hC
  have here : ((h.push (PySem.W.kdv_tup rest)).push (excO C h.objs.size)).get? (h.objs.size + 1) = some (excO C h.objs.size) := by heap_get
  have self : (Value.ref C :: bm).contains (.ref C) = true := by simp
  have l1 := hi.keeps keep
  have l2 := (hb (.ref (h.objs.size + 1))).keeps keep
  unfold isInstance
  repeat (first
    | with_reducible refine wpAny_loadPart_at here ?_
    | (with_reducible refine wpAny_isSubtype_exc c1 ?_; rw [self])
    | wp_step)
  show wpAny _ _ (typeLookup (.ref C) _) _ _ _
  refine l1.at (wpAny_holding (wpAny_bind (l2.at (wpAny_bind (wpAny_call (codeAny_mono hq fun r s' z => ?_))))))
  rcases r with e | (v | _ | _ | _) <;> first | exact z | exact z.elim | skip
  obtain ⟨rfl, z⟩ := z
  first
    | exact wpAny_pure (wpAny_pure z)
    | (wp_walk; exact z)
theorem may_call {Q : Unit → Shared → Prop} (hC : h.get? C = some (excClassObj nm q C N bs bm hdct sn sub ab col dd k0 k1 k2 k3 k5 newId)) (hq : Q () ⟨h, g, d, t, os⟩) : wpAny M A (checkBuiltinCall "type.__call__" ⟨.ref C :: rest, kw⟩) Q E ⟨h, g, d, t, os⟩ := by
  have f3 := tc_sub
  have ty : (⟨h, g, d, t, os⟩ : Shared).TypeIs (.ref C) "type" := ⟨_, hC, rfl⟩
  simp only [checkBuiltinCall, tc_kind, tc_split]
  repeat (any_goals (first
    | assumption
    | with_reducible refine wpAny_loadPart_at hC ?_
    | with_reducible refine wpAny_onRaise ?_
    | with_reducible refine wpAny_map ?_
    | wp_step))
theorem call_at (F : ExcBaseFacts nB newId nI bmB) (T : Chain bm nB) {fI : Addr} (hC : h.get? C = some (excClassObj nm q C N bs bm hdct sn sub ab col dd k0 k1 k2 k3 k5 newId))
    (hi : PySem.W.Looks (model prog w) h (typeLookup (.ref C) "__init__") (some (.ref fI))) (hb : ∀ self, PySem.W.Looks (model prog w) h (bindSpecial (.ref fI) self) (.ref fI, [self])) (few : rest.length ≤ sizeLine)
    (hq : codeAny (model prog w) (A.under (.builtin "type.__call__" ⟨.ref C :: rest, kw⟩)) (.call (.ref fI) ⟨.ref (h.objs.size + 1) :: rest, kw⟩) (PySem.W.InitBack (h.objs.size + 1) R) ⟨(h.push (PySem.W.kdv_tup rest)).push (excO C h.objs.size), g, d, t, os⟩) :
    codeAny (model prog w) A (.call (.ref C) ⟨rest, kw⟩) R ⟨h, g, d, t, os⟩ := by
  have f1 := tc_lookup
  have f2 := tc_bind (.ref C)
  have ty : (⟨h, g, d, t, os⟩ : Shared).TypeIs (.ref C) "type" := ⟨_, hC, rfl⟩
  refine codeAny_of_tree ?_
  show wpAny _ _ (callAny (.ref C) _) _ _ _
  repeat (any_goals (first
    | assumption
    | with_reducible refine wpAny_loadPart_at hC ?_
    | wp_step))
  refine ⟨rfl, ?_⟩
  refine codeAny_call_builtin_at (Code.quiet_builtin _ (by decide +kernel)) entry_typeCall (may_call hC (made_at F T hC hi hb few (codeAny_mono hq fun r s' z => ?_)))
  rcases r with e | (v | _ | _ | _) <;> exact z
end
end ExG
namespace ExG
open PySem.HandSPX
open Builtin Builtin.ObjectAttr
section
variable {M : Model} {prog : Program} {w : World} {A : Around} {E : Value → Shared → Prop} {R : Result → Shared → Prop} {h : Heap} {g : Array GenState} {d : Drawn} {t : Nat} {os : OsState}
variable {nm q : Str} {C N : Addr} {bs bm : List Value} {hdct : Bool} {sn : List Str} {sub : List Value} {ab : Bool} {col : Option Bool} {dd : Option Addr} {k0 k1 k2 k3 k5 : Option Value} {newId iB iId : String} {rest : List Value}
/-- what is written of a base's own __init__ -/
structure Ini (iB iId : String) : Prop where
  slot : Slot iB "__init__" iId
  entry : entryFor table iId = some Builtin.«BaseException.__init__»
  kind : builtinKind iId = some .slot
  split : splitId iId = some (iB, "__init__")
  row : Manifest.signature? iId = some ⟨.positional, "*", iB, .self, [⟨"args", .varPos, false⟩]⟩
  star : (iB != "*") = true
theorem may_init (F : Ini iB iId) (has : bm.contains (.type iB) = true) {e : Addr} {oe : Obj} {Q : Unit → Shared → Prop} (hC : h.get? C = some (excClassObj nm q C N bs bm hdct sn sub ab col dd k0 k1 k2 k3 k5 newId)) (he : h.get? e = some oe) (hcls : oe.cls = .ref C) (hq : Q () ⟨h, g, d, t, os⟩) :
    wpAny M A (checkBuiltinCall iId ⟨.ref e :: rest, []⟩) Q E ⟨h, g, d, t, os⟩ := by
  have s1 : (Value.ref C :: bm).contains (.type iB) = true := by rw [List.contains_cons, has, Bool.or_true]
  have st := F.star
  simp only [checkBuiltinCall, F.kind, F.split, F.row]
  repeat (first
    | (with_reducible refine wpAny_loadPart_at he ?_; rw [hcls])
    | with_reducible refine wpAny_loadPart_at hC ?_
    | (with_reducible refine wpAny_isSubtype_exc hC ?_; rw [s1])
    | wp_step)
  refine wpAny_onRaise ?_
  have ok : ∀ (a b : String) (n : Nat), Bind.check ⟨.positional, "*", iB, .self, [⟨"args", .varPos, false⟩]⟩ a b n (List.map (fun x => x.fst) ({ pos := Value.ref e :: rest } : Args).kw) = pure () := fun a b n => check_star_args _ _ _ _ _ _
  rw [ok]
  exact wpAny_pure hq
theorem init_at (F : Ini iB iId) (has : bm.contains (.type iB) = true) {e t0 : Addr} (hC : h.get? C = some (excClassObj nm q C N bs bm hdct sn sub ab col dd k0 k1 k2 k3 k5 newId)) (he : h.get? e = some (excO C t0)) (few : rest.length ≤ sizeLine)
    (hq : ∀ h' t1, (∀ b o, b ≠ e → h.get? b = some o → h'.get? b = some o) → h'.get? e = some (excO C t1) → R (.ok (.ret .none)) ⟨h', g, d, t, os⟩) : codeAny (model prog w) A (.call (.builtin iId) ⟨.ref e :: rest, []⟩) R ⟨h, g, d, t, os⟩ := by
  refine codeAny_call_builtin F.slot.plain F.entry (may_init F has hC he rfl ?_)
  wp_walk
  refine hq _ h.objs.size (fun b o hb ho => (Heap.get?_update_other _ _ (Ne.symm hb)).trans (Heap.get?_push_of_some _ ho)) ?_
  rw [Heap.get?_update_self _ (Heap.get?_push_of_some _ he) rfl]
  rfl
/-- x.name = v on an error that has no dict as yet -/
theorem first_field {K : PySem.W.Frag} {name : Str} {tk : Tok} {v : Value} {x C : Addr} {fv : Array Value} {cd : ClassData} (X : K.In h) (hx : h.get? x = some { cls := .ref C, data := .fields fv }) (hcd : PySem.W.clsIn K C = some cd)
    (pass : ∀ self : Value, refuseLoop self "__setattr__" cd.mro = pure ()) (obj : cd.mro.contains (.type "object") = true) (ne : cd.mro.isEmpty = false) (hh : cd.hasDict = true) (ha : PySem.W.findIn K (.ref C) name = some none)
    (hq : ∀ h' tk' dx, (∀ b o, b ≠ x → h.get? b = some o → h'.get? b = some o) → h.objs.size ≤ dx → dx ≠ x → h'.get? x = some { cls := .ref C, dict := some dx, data := .fields fv } → h'.Ns1 dx (fun y => if y = name then some v else none) → R (.ok (.ret .none)) ⟨h', g, d, tk', os⟩) :
    codeAny (model prog w) A (.call (.builtin "object.__setattr__") ⟨[.ref x, .str name tk, v], []⟩) R ⟨h, g, d, t, os⟩ := by
  have I : PySem.W.InstAt h x { cls := .ref C, data := .fields fv } C none := ⟨hx, rfl, rfl, trivial⟩
  have SF := F.store_object
  have xs : x ≠ h.objs.size := Nat.ne_of_lt (Heap.lt_size hx)
  have isO : PySem.W.Looks (model prog w) h (isInstance (.ref x) (.type "object")) true := I.type.andThen (PySem.W.looks_mroIn X (by unfold PySem.W.mroIn; rw [hcd, Option.bind_some, if_neg (by rw [ne]; decide), obj]))
  refine codeAny_call_builtin SF.slot.plain SF.entry (@PySem.W.check_slot (model prog w) _ _ ⟨h, g, d, t, os⟩ "object.__setattr__" "object" "__setattr__" (.ref x) [.str name tk, v] [] _ SF.kind SF.split isO (SF.args (.ref x) (.str name tk) v) ?_)
  have L1 : PySem.W.Looks (model prog w) h (mroOf (.ref C)) cd.mro := (PySem.W.looks_clsIn X hcd).andThen .now
  have L2' : PySem.W.Looks (model prog w) h (storeTaker? none) none := .now
  have L4 : PySem.W.Looks (model prog w) h (classData C) cd := PySem.W.looks_clsIn X hcd
  rw [PySem.W.osa_eq, refuse_eq]
  refine wpAny_bind (wpAny_bind (I.type.at (wpAny_bind (L1.at ?_))))
  rw [pass]
  refine wpAny_pure (wpAny_bind (I.type.at (wpAny_bind ((PySem.W.looks_findIn X ha).at (wpAny_bind (L2'.at ?_))))))
  show wpAny _ _ (storeInOwnDict (.ref x) (.ref C) (.str name tk) name v false) _ _ _
  obtain ⟨nm, bs, mro, ns, qn, hd, sn, sb, ab, col, del⟩ := cd
  dsimp only at hh
  subst hh
  unfold storeInOwnDict ownDictForStores
  repeat (first
    | with_reducible refine store_in_new ?_ ?_
    | with_reducible refine wpAny_loadPart_at hx ?_
    | with_reducible refine L4.at ?_
    | wp_step)
  · exact ⟨_, #[], _, (Heap.get?_update_ne _ _ _ _ xs.symm).trans (Heap.get?_push_at rfl rfl), rfl, fun e he => absurd he (by simp), fun _ => rfl⟩
  · intro h' tk' hn' hs
    have x1 : (h.push { cls := .type "dict", data := .dict #[] }).get? x = some { cls := .ref C, data := .fields fv } := Heap.get?_push_of_some _ hx
    refine hq h' tk' h.objs.size (fun b o hb ho => (hs.2 b (Nat.ne_of_lt (Heap.lt_size ho))).trans ((Heap.get?_update_ne _ _ _ _ hb).trans (Heap.get?_push_of_some _ ho))) (Nat.le_refl _) xs.symm ?_ hn'
    exact (hs.2 x xs).trans (Heap.get?_update_self _ x1 rfl)
end
end ExG
/-! ### errors as values -/
/-- what a family of error classes has in common: who makes them (nB, newId), whose __init__ is asked (iB, iId), the chain above the class -/
structure Fam where
  nB : String
  newId : String
  iB : String
  iId : String
  bm : List Value
structure FamOk (f : Fam) : Prop where
  new : ∃ nI bmB, ExcBaseFacts f.nB f.newId nI bmB
  cha : ExG.Chain f.bm f.nB
  ini : ExG.Ini f.iB f.iId
  has : f.bm.contains (.type f.iB) = true
  pas : ∀ self : Value, refuseLoop self "__setattr__" f.bm = pure ()
  obj : f.bm.contains (.type "object") = true
structure OexG (K : PySem.W.Frag) (f : Fam) (C : Addr) : Prop where
  cls : ∃ nm q N bs sn sub ab col dd k0 k1 k2 k3 k5, K.lookup C = some (excClassObj nm q C N bs f.bm true sn sub ab col dd k0 k1 k2 k3 k5 f.newId)
  sa : PySem.W.findIn K (.ref C) "__setattr__" = some (some (.builtin "object.__setattr__"))
  kC : PySem.W.keepIn K (.ref C) = true
/-- the error of the class C that keeps v under f stands at a -/
def ErrAt (H : Hp) (C : Addr) (f : Str) (a : Addr) (v : V) : Prop := ∃ d, H a = some (exo a C (some d)) ∧ H d = some (exd d [(f, v)])
theorem ErrAt.ext {H H' : Hp} {C a : Addr} {f : Str} {v : V} (h : ErrAt H C f a v) (s : Same H H') : ErrAt H' C f a v := by
  obtain ⟨d, e1, e2⟩ := h
  exact ⟨d, s _ _ e1, s _ _ e2⟩
section
variable {X : Cx} {pins : List (Addr × Obj)} {σ : L2.St} {H : Hp} {s : Shared} {a C : Addr} {fam : Fam} {f : Str} {y : V} {u : Value} {E : Value → Shared → Prop} {A : Around}
theorem init_in {us : List Value} {Q : Value → Shared → Prop} (F : FamOk fam) (T : OexG X.K fam C) (I : Inv X pins σ H s) (e : H a = some (exo a C none)) (few : us.length ≤ sizeLine) (h : ∀ s', Inv X pins σ H s' → Q .none s') :
    wpAny (model X.prog X.w) X.A (call (.builtin fam.iId) (.ref a :: us)) Q E s := by
  obtain ⟨nm, q, N, bs, sn, sub, ab, col, dd, k0, k1, k2, k3, k5, hC⟩ := T.cls
  obtain ⟨t1, ho⟩ := exo_at I.hok e
  obtain ⟨hp, g, d, t, os⟩ := s
  refine wpAny_call (ExG.init_at F.ini F.has (I.kIn _ _ hC) ho few fun h' t2 k hx => ?_)
  have same : upd H a (exo a C none) = H := by
    funext b
    by_cases z : b = a
    · rw [z, upd_same, e]
    · rw [upd_ne z]
  have J := I.write (t' := t) (x := a) (e := a) (o := exo a C none) (by rw [e]; exact True.intro) (.inl rfl) k ⟨_, hx⟩ (exo_ok hx)
  rw [same] at J
  exact h _ J
theorem field_in {Q : Unit → Shared → Prop} (F : FamOk fam) (T : OexG X.K fam C) (I : Inv X pins σ H s) (e : H a = some (exo a C none)) (no : PySem.W.findIn X.K (.ref C) f = some none) (ry : RelV y u)
    (h : ∀ dx s', H dx = none → dx ≠ a → Inv X pins σ (upd (upd H dx (exd dx [(f, y)])) a (exo a C (some dx))) s' → Q () s') : wpAny (model X.prog X.w) A (setAttr (.ref a) f u) Q E s := by
  obtain ⟨nm, q, N, bs, sn, sub, ab, col, dd, k0, k1, k2, k3, k5, hC⟩ := T.cls
  have hcl : PySem.W.clsIn X.K C = some { name := nm, bases := bs, mro := .ref C :: fam.bm, ns := N, qualname := q, hasDict := true, slotNames := sn, subclasses := sub, abstract := ab, collection := col, hasDel := false } := by
    unfold PySem.W.clsIn
    rw [hC] <;> rfl
  obtain ⟨t1, ho⟩ := exo_at I.hok e
  obtain ⟨hp, g, d, t, os⟩ := s
  refine PySem.W.set_plain I.kIn (ox := { cls := .ref C, dict := none, data := .fields #[.ref t1, .none, .none, .none, .bool false, .none] }) (od := none) ⟨ho, rfl, rfl, trivial⟩ T.sa ?_
  refine ExG.first_field I.kIn ho hcl (fun self => (refuseLoop_ref self _ C fam.bm).trans (F.pas self)) (by show (Value.ref C :: fam.bm).contains _ = true; rw [List.contains_cons, F.obj, Bool.or_true]) rfl rfl no (fun h' tk' dx k dn dne hx hn => ?_)
  have free : H dx = none := I.hok.fresh dn
  have low : ∀ {b : Addr} {o : Obj}, hp.get? b = some o → b ≠ dx := fun {b o} z => Nat.ne_of_lt (Nat.lt_of_lt_of_le (Heap.lt_size z) dn)
  have other : ∀ {b : Addr}, H b = none → b ≠ a := fun {b} n z => by
    rw [z, e] at n
    cases n
  have U : Un X.fs [] H (upd (upd H dx (exd dx [(f, y)])) a (exo a C (some dx))) hp h' := {
    keep := fun b o z n _ _ => k b o (other n) z
    slot := fun b o z n _ _ => ⟨o.slots, k b o (other n) z⟩
    free := fun b o z n _ => by
      rw [upd_ne (other n), upd_ne (low z)]
      exact n
    there := fun b o z _ => by
      by_cases hb : b = a
      · exact ⟨_, by rw [hb]; exact hx⟩
      · exact ⟨o, k b o hb z⟩
    tups := fun b xs z => by
      rw [upd_ne (at_ne e z exo_tup), upd_ne (ne_of_none z free)]
      exact z
    frzs := fun b o v z => by
      rw [upd_ne (at_ne e z exo_frz), upd_ne (ne_of_none z free)]
      exact z
    tbls := fun b ps z => ⟨#[], by
      rw [upd_ne (at_ne e z exo_tbl), upd_ne (ne_of_none z free), z]
      simp⟩ }
  refine h dx _ free dne (I.un (t' := tk') U fun b o z => ?_)
  by_cases hb : b = a
  · subst hb
    rw [upd_same] at z
    cases z
    exact exo_ok hx
  · rw [upd_ne hb] at z
    by_cases hd : b = dx
    · subst hd
      rw [upd_same] at z
      cases z
      exact exd_ok hn (relO_put (fs := []) ry fun g => True.intro)
    · rw [upd_ne hd] at z
      refine (I.hok b o z).stay (fun c v hc w => k c v ?_ w) (fun c hc => ?_) (fun c xs hc => ?_)
      · rcases hc with hc | hc
        · rw [hc]
          exact hb
        · exact at_ne e hc exo_own
      · rw [upd_ne (at_ne e hc exo_own), upd_ne (ne_of_none hc free)]
        exact hc
      · rw [upd_ne (at_ne e hc exo_tup), upd_ne (ne_of_none hc free)]
        exact hc
end
/-- the base's __init__(self, ..) -/
def tIni (K : PySem.W.Frag) (fam : Fam) (ta : TA) : TE := fun σ H Q => ta σ H fun vs H1 => ∃ (a C : Addr) (ws : List V), vs = .ref a :: ws ∧ ws.length ≤ 1000 ∧ OexG K fam C ∧ H1 a = some (exo a C none) ∧ Q .non H1
/-- self.f = e, the first one -/
def tFst (K : PySem.W.Frag) (fam : Fam) (f : Str) (to te : TE) : TS := fun D σ H => te σ H fun y H1 => to σ H1 fun x H2 => ∃ a C : Addr, x = .ref a ∧ OexG K fam C ∧ PySem.W.findIn K (.ref C) f = some none ∧ H2 a = some (exo a C none) ∧
  ∀ dx, H2 dx = none → dx ≠ a → D.nx σ (upd (upd H2 dx (exd dx [(f, y)])) a (exo a C (some dx)))
section
variable {X : Cx} {e o : Expr} {es : List Expr} {ta : TA} {to te : TE} {f : Str} {p p' p1 p2 pos : Pos} {fam : Fam}
theorem arg_ini {pins : List (Addr × Obj)} {σ : L2.St} {H : Hp} {s : Shared} {Q : VK} (F : FamOk fam) (arg : PA X (e :: es) ta) (I : Inv X pins σ H s) (h : tIni X.K fam ta σ H Q) (one : starEach (e :: es) X.env = (false, eval e X.env) :: starEach es X.env) (nos : (backTo pos (starEach es X.env)).any (·.1) = false) :
    wpAny (model X.prog X.w) X.A (callWith pos (Value.builtin fam.iId) [] (backTo pos (starEach (e :: es) X.env)) []) (EP X pins σ Q) X.xe s :=
  PyProof.Rows.callWith_method1 (thn (arg.run pos pins _ σ H _ I h) fun us s1 z => by
    obtain ⟨vs, H1, I1, r1, a, C, ws, ev, hl, T1, ea, q⟩ := z
    subst ev
    cases r1 with
    | @cons _ u0 _ ur ra rw' =>
      cases (show u0 = Value.ref a from ra)
      have few : ur.length ≤ sizeLine := by rw [← Paired.length rw', sizeLine_eq]; omega
      exact init_in F T1 I1 ea few fun s' J => ⟨V.non, H1, J, rfl, q⟩) one nos
theorem pe_iniOwn {pl : Sem Bool} {x : Str} {B : Addr} (F : FamOk fam) (own : fam.iId = "ValueError.__init__") (vis : Gl X x) (T : OwnBase X.K X.mg x B) (arg : PA X (e :: es) ta)
    (run : eval (.Call (.Attribute (.Name x p1) "__init__" p2) (e :: es) [] pos) X.env = (do
      let cv ← eval (.Name x p1) X.env
      standAt p2.atName
      let (g, hd) ← holding [cv] (getMethod cv "__init__" pl)
      callWith pos g hd (backTo pos (starEach (e :: es) X.env)) (backToKw pos (keywordEach [] X.env))) := by rfl)
    (dbg : (x == ("__debug__" : Str)) = false := by decide) (one : starEach (e :: es) X.env = (false, eval e X.env) :: starEach es X.env := by rfl)
    (nos : (backTo pos (starEach es X.env)).any (·.1) = false := by rfl) : PE X (.Call (.Attribute (.Name x p1) "__init__" p2) (e :: es) [] pos) (tIni X.K fam ta) := ⟨fun pins s σ H Q I h => by
  obtain ⟨m, fr⟩ := I.fr
  have kin := I.ok.mod.kin
  refine PySem.W.methodCall_KW (ld_glob I vis T.nam (PySem.W.method_of_cls fr kin T.gta (PySem.W.cls_val fr kin T.typ T.rds T.ini (by decide +kernel) ?_)) dbg) run
  have z := arg_ini (pos := pos) F arg (I.tok (s.toks + 1)) h one nos
  rw [own] at z
  exact z⟩
theorem pe_iniBlt {pl : Sem Bool} {x : Str} (F : FamOk fam) (vis : Gl X x) (hm : X.mg x = none) (hv : bootBuiltins x = some (.type fam.iB)) (ty : typeOf (.type fam.iB) = pure (.type "type")) (stub : Manifest.isStub fam.iB = false)
    (fi : PySem.W.findCls X.K (.type fam.iB) (.type "type") "__init__" = some (.val (.builtin fam.iId))) (hand : PySem.W.handedIn (.builtin fam.iId) = true) (arg : PA X (e :: es) ta)
    (run : eval (.Call (.Attribute (.Name x p1) "__init__" p2) (e :: es) [] pos) X.env = (do
      let cv ← eval (.Name x p1) X.env
      standAt p2.atName
      let (g, hd) ← holding [cv] (getMethod cv "__init__" pl)
      callWith pos g hd (backTo pos (starEach (e :: es) X.env)) (backToKw pos (keywordEach [] X.env))) := by rfl)
    (nam : x ≠ "__name__" := by decide) (dbg : (x == ("__debug__" : Str)) = false := by decide) (one : starEach (e :: es) X.env = (false, eval e X.env) :: starEach es X.env := by rfl)
    (nos : (backTo pos (starEach es X.env)).any (·.1) = false := by rfl) : PE X (.Call (.Attribute (.Name x p1) "__init__" p2) (e :: es) [] pos) (tIni X.K fam ta) := ⟨fun pins s σ H Q I h => by
  obtain ⟨m, fr⟩ := I.fr
  refine PySem.W.methodCall_KW (ld_blt I vis hm hv (PySem.W.method_type fr I.ok.mod.kin ty stub fi hand ?_) nam dbg) run
  exact arg_ini F arg (I.tok (s.toks + 1)) h one nos⟩
theorem ps_fst (F : FamOk fam) (ho : PE X o to) (he : PE X e te) (hs : swapsWith e (some (.Attribute o f p')) pos.line X.env = pure false := by rfl) : PS X (.Assign [.Attribute o f p'] e pos) (tFst X.K fam f to te) := ⟨fun pins s σ H D I h =>
  plainObj_wpAny_Assign_Attribute (thn (he.run pins s σ H _ I h) fun v s1 ⟨y, H1, I1, r1, q1⟩ => thn (ho.run pins s1 σ H1 _ I1 q1) fun u s2 z => by
    obtain ⟨x, H2, I2, r2, a, C, ex, T, no, ea, q⟩ := z
    subst ex
    cases (show u = Value.ref a from r2)
    exact field_in F T I2 ea no r1 fun dx s' n ne J => ⟨σ, _, J, q dx n ne⟩) hs⟩
end
/-! ### BadCell, BadFunction, TooMany -/
abbrev sBadCell : Stmt := inClass (topS 4) 0
theorem scBadCell : FnScope ["self", "index"] ["self", "index"] (defScope sBadCell) := ⟨rfl, rfl, rfl, by decide +kernel, rfl, by decide +kernel, by decide +kernel⟩
abbrev sBadFunction : Stmt := inClass (topS 7) 0
theorem scBadFunction : FnScope ["self", "index"] ["self", "index"] (defScope sBadFunction) := ⟨rfl, rfl, rfl, by decide +kernel, rfl, by decide +kernel, by decide +kernel⟩
abbrev sTooMany : Stmt := inClass (topS 12) 0
theorem scTooMany : FnScope ["self", "limit"] ["self", "limit"] (defScope sTooMany) := ⟨rfl, rfl, rfl, by decide +kernel, rfl, by decide +kernel, by decide +kernel⟩
def famO : Fam := ⟨"OverflowError", "OverflowError.__new__", "OverflowError", "OverflowError.__init__", [.type "OverflowError", .type "ArithmeticError", .type "Exception", .type "BaseException", .type "object"]⟩
theorem ini_of {B n i : String} {bm : List Value} (F : ExcBaseFacts B n i bm) : ExG.Ini B i := ⟨F.init, F.initEntry, F.initKind, F.initSplit, F.initRow, F.noStar⟩
theorem famO_ok : FamOk famO where
  new := ⟨_, _, PySem.F.excBase_OverflowError⟩
  cha := ⟨by decide +kernel, by decide +kernel, by decide +kernel⟩
  ini := ini_of PySem.F.excBase_OverflowError
  has := by decide +kernel
  pas := fun self => by kernel_rfl
  obj := by decide +kernel
/-- what is written of a class of errors of such a family -/
structure ErrO (K : PySem.W.Frag) (mg : Str → Option Value) (fam : Fam) (x : Str) (f : Str) (C fI : Addr) : Prop where
  oex : OexG K fam C
  nof : PySem.W.findIn K (.ref C) f = some none
  ini : PySem.W.findIn K (.ref C) "__init__" = some (some (.ref fI))
  typ : PySem.W.typeIn K (.ref fI) = some (.type "function")
  nam : mg x = some (.ref C)
  exC : PySem.W.subIn K (.ref C) (.type "BaseException") = some true
  tyC : PySem.W.typeIn K (.ref C) = some (.type "type")
section
variable {X : Cx} {CX : CXT} {x f : Str} {C fI : Addr} {fam : Fam} {k : Nat} {fd : FuncData} {ps : List Str} {sp : Sp} {p pos : Pos} {e : Expr} {es : List Expr} {ta : TA}
/-- raise C(e), of any such family -/
theorem pmk_fam (F : FamOk fam) (T : ErrO X.K X.mg fam x f C fI) (G : FnOk X.prog X.w X.K X.mg X.base CX k fI fd ps sp) (hr : Room (k + 1) X.A) (bind : Binds X.K fd ps []) (way : Passes CX X (fun _ _ _ => False)) (vis : Gl X x) (arg : PA X (e :: es) ta)
    (dbg : (x == ("__debug__" : Str)) = false := by decide) (one : starEach (e :: es) X.env = (false, eval e X.env) :: starEach es X.env := by rfl) (nos : (backTo pos (starEach es X.env)).any (·.1) = false := by rfl) : PMk X (.Call (.Name x p) (e :: es) [] pos) (tMkO C sp [] ta) := by
  intro pins s σ H Q I h
  obtain ⟨nm, qn, N, bs, sn, sub, ab, col, dd, k0, k1, k2, k3, k5, hC⟩ := T.oex.cls
  obtain ⟨nI, bmB, FB⟩ := F.new
  refine wpAny_Call_Name_kw (ld_glob I vis T.nam (PySem.W.callWith_K (h₀ := X.base) I.ok.mod.kin T.oex.kC (thn (arg.run pos pins s σ H _ I h) fun us s1 z => ?_) one nos) dbg)
  obtain ⟨vs, H1, I1, r1, few0, q1⟩ := z
  refine ⟨I1.kIn, ?_⟩
  show wpAny _ _ (call (.ref C) us) _ _ _
  obtain ⟨hp, g, dr, tk, os⟩ := s1
  have up : hp.objs.size ≤ hp.objs.size + 1 := Nat.le_succ _
  have free : H1 (hp.objs.size + 1) = none := I1.hok.fresh up
  have pr := q1 (hp.objs.size + 1) free
  rw [List.append_nil] at pr
  have keep : ∀ b o, hp.get? b = some o → ((hp.push (PySem.W.kdv_tup us)).push (PySem.HandSPX.excO C hp.objs.size)).get? b = some o := fun b o e => Heap.get?_push_of_some _ (Heap.get?_push_of_some _ e)
  have here : ((hp.push (PySem.W.kdv_tup us)).push (PySem.HandSPX.excO C hp.objs.size)).get? (hp.objs.size + 1) = some (PySem.HandSPX.excO C hp.objs.size) := by heap_get
  have J : Inv X pins σ (upd H1 (hp.objs.size + 1) (exo (hp.objs.size + 1) C none)) ⟨(hp.push (PySem.W.kdv_tup us)).push (PySem.HandSPX.excO C hp.objs.size), g, dr, tk, os⟩ :=
    I1.laid (t' := tk) (a := hp.objs.size + 1) (o := exo (hp.objs.size + 1) C none) (h' := (hp.push (PySem.W.kdv_tup us)).push (PySem.HandSPX.excO C hp.objs.size)) keep up (exo_ok here)
  have rs : Vals (V.ref (hp.objs.size + 1) :: vs) (Value.ref (hp.objs.size + 1) :: us) := .cons rfl r1
  have many : (Value.ref (hp.objs.size + 1) :: us).length = ps.length := rs.length.symm.trans (G.len _ _ _ _ pr)
  have few : us.length ≤ sizeLine := by
    have l := Paired.length r1
    rw [← l, sizeLine_eq]
    omega
  have bs := bind ⟨_, g, dr, tk, os⟩ (Value.ref (hp.objs.size + 1) :: us) J.kIn (by rw [List.append_nil]; exact many)
  rw [List.append_nil] at bs
  refine wpAny_call (ExG.call_at FB F.cha (I1.kIn _ _ hC) (PySem.W.looks_findIn I1.kIn T.ini) (fun self => PySem.W.bind_fn I1.kIn self T.typ) few
    (codeAny_mono (G.run _ X.stack _ _ ⟨Value.ref (hp.objs.size + 1) :: us, []⟩ (Value.ref (hp.objs.size + 1) :: us) _ _ (fun _ _ _ => False) (hr.make C us []) (J.env0.make C us []) bs rs pr) fun r s' z => ?_))
  cases r with
  | error er => exact way pins σ _ _ er s' J z
  | ok fl =>
    cases fl with
    | ret u =>
      obtain ⟨v, H2, os2, bare2, un2, hok2, rv, ev, d, fs, ea, ed, hd1, q2⟩ := z
      subst ev
      obtain ⟨h2, g2, d2, t2, os'⟩ := s'
      exact ⟨rv, mk_end (raises_own T.exC T.tyC) I1 up keep un2 hok2 os2 bare2 ea ed hd1 q2⟩
    | next => exact z.elim
    | brk => exact z.elim
    | cont => exact z.elim
end
section
variable {P : Program} {w : World} {K : PySem.W.Frag} {mg : Str → Option Value} {base : Heap}
theorem ok_badCell {C f B : Addr} {fd : FuncData} (F : Fun K "__init__" "BadCell.__init__" sBadCell f fd) (TB : OwnBase K mg "StoreError" B) (oex : OexC K C) (nof : PySem.W.findIn K (.ref C) "index" = some none) :
    FnOk P w K mg base CX0 1 f fd ["self", "index"] (spErr C "index") := by
  refine F.ok scBadCell (fun vs H Q E h => ?_) (fun cdv A outer s H vs Q E hr h => ?_)
  · obtain ⟨a, v, rfl, _⟩ := h
    rfl
  · obtain ⟨a, v, rfl, e, q⟩ := h
    refine ⟨_, pss_cons (ps_expr (pe_baseI (by rfl) TB (pa_cons (pv 0) (pa_cons pe_str pa_nil)))) (pss_one (ps_ost (pv 0) (pv 1))), ?_⟩
    refine ⟨.ref a, rfl, a, C, _, rfl, by show (1 : Nat) ≤ 1000; decide, oex, e, ?_⟩
    exact ⟨v, rfl, .ref a, rfl, a, C, rfl, oex, nof, .inl ⟨e, fun d nd ne => q d nd ne⟩⟩
theorem ok_badFunc {C f B : Addr} {fd : FuncData} (F : Fun K "__init__" "BadFunction.__init__" sBadFunction f fd) (TB : OwnBase K mg "StoreError" B) (oex : OexC K C) (nof : PySem.W.findIn K (.ref C) "index" = some none) :
    FnOk P w K mg base CX0 1 f fd ["self", "index"] (spErr C "index") := by
  refine F.ok scBadFunction (fun vs H Q E h => ?_) (fun cdv A outer s H vs Q E hr h => ?_)
  · obtain ⟨a, v, rfl, _⟩ := h
    rfl
  · obtain ⟨a, v, rfl, e, q⟩ := h
    refine ⟨_, pss_cons (ps_expr (pe_baseI (by rfl) TB (pa_cons (pv 0) (pa_cons pe_str pa_nil)))) (pss_one (ps_ost (pv 0) (pv 1))), ?_⟩
    refine ⟨.ref a, rfl, a, C, _, rfl, by show (1 : Nat) ≤ 1000; decide, oex, e, ?_⟩
    exact ⟨v, rfl, .ref a, rfl, a, C, rfl, oex, nof, .inl ⟨e, fun d nd ne => q d nd ne⟩⟩
theorem ok_TooMany {C g : Addr} {fd : FuncData} (F : Fun K "__init__" "TooMany.__init__" sTooMany g fd) (nb : mg "OverflowError" = none) (fi : PySem.W.findCls K (.type "OverflowError") (.type "type") "__init__" = some (.val (.builtin "OverflowError.__init__"))) (oex : OexG K famO C) (no : PySem.W.findIn K (.ref C) "limit" = some none) : FnOk P w K mg base CX0 1 g fd ["self", "limit"] (spErr C "limit") :=
  F.ok scTooMany (fun vs H Q E ⟨a, v, e, _⟩ => by subst e; rfl) (fun cdv A outer s H vs Q E hr ⟨a, v, ev, e, q⟩ => by
    subst ev
    exact ⟨_, pss_cons (ps_expr (pe_iniBlt famO_ok (by rfl) nb (by decide +kernel) (by kernel_rfl) (by decide +kernel) fi (by decide +kernel) (pa_cons (pv 0) (pa_cons pe_str pa_nil)))) (pss_one (ps_fst famO_ok (pv 0) (pv 1))),
      .ref a, rfl, a, C, _, rfl, (by show (1 : Nat) ≤ 1000; decide), oex, e, v, rfl, .ref a, rfl, a, C, rfl, oex, no, e, fun d nd ne => q d nd ne⟩)
end
/-! ### which functions fit -/
def has (kvs : List (Key × V)) (z : Str) : Bool := (valV kvs (.inr z : Key)).isSome
def callFits (avs : List (Key × V)) : PyData → Bool
  | .tuple [_, .str x, .tuple ts] => decide (valV avs (.inr x : Key) = some (.int (ts.length : Nat)))
  | _ => false
def partFits (kvs avs : List (Key × V)) (d : PyData) : Bool := (namesD "cell" d).all (has kvs) && (withD "call" d).all (callFits avs)
theorem all_names {ys l : List Str} (p : Str → Bool) (h : ys.Perm (onceS l)) : ys.all p = l.all p := by
  rw [Bool.eq_iff_iff, List.all_eq_true, List.all_eq_true]
  exact ⟨fun q x hx => q x (h.mem_iff.mpr (onceS_mem.mpr hx)), fun q x hx => q x (onceS_mem.mp (h.mem_iff.mp hx))⟩
theorem w_call3 {n : Int} {p : PyData} (hf : hasForm n p = true) (h : isW "call" p = true) : ∃ x ts, p = .tuple [.str "call", .str x, .tuple ts] := by
  obtain ⟨rest, rfl, hv⟩ := isW_head h
  have hf1 : formOf n "call" rest = true := by
    have e : hasForm n (.tuple (.str "call" :: rest)) = (isValue (.tuple (.str "call" :: rest)) || formOf n "call" rest) := rfl
    rw [e, hv] at hf
    exact hf
  have e1 : formOf n "call" rest = on2 (fun x y => isName x && callForm y) rest := (if_neg (by decide +kernel)).trans ((if_neg (by decide +kernel)).trans (if_pos rfl))
  rw [e1] at hf1
  match rest, hf1 with
  | [d, e], hf1 =>
    have h2 := Bool.and_eq_true_iff.mp (show (isName d && callForm e) = true from hf1)
    obtain ⟨x, rfl⟩ := isName_str h2.1
    match e, h2.2 with
    | .tuple ts, _ => exact ⟨x, ts, rfl⟩
/-- a dict whose values are all ints, or all texts -/
def IntsAt (avs : List (Key × V)) : Prop := ∀ z u, valV avs (.inr z : Key) = some u → ∃ i : Int, u = .int i
def StrsAt (kvs : List (Key × V)) : Prop := ∀ z u, valV kvs (.inr z : Key) = some u → ∃ k : Str, u = .str k
abbrev sPF : Stmt := topS 63
theorem scPF : FnScope ["part", "kinds", "ahead", "cell", "_", "name", "terms"] ["part", "kinds", "ahead"] (defScope sPF) := ⟨rfl, rfl, rfl, by decide +kernel, rfl, by decide +kernel, by decide +kernel⟩
def spPF (K : PySem.W.Frag) : Sp := fun vs H Q _ => ∃ (v : V) (pk pa : Addr) (d : PyData) (n : Int) (kvs avs : List (Key × V)), vs = [v, .ref pk, .ref pa] ∧ Dp K H v d ∧ szD d = true ∧ isTerm n d = true ∧ H pk = some (.dK kvs) ∧ H pa = some (.dK avs) ∧ IntsAt avs ∧
  ∀ H', Same H H' → Q (.bl (partFits kvs avs d)) H'
section
variable {P : Program} {w : World} {K : PySem.W.Frag} {mg : Str → Option Value} {base : Heap}
theorem ok_pf {f fC fW : Addr} {fd dC dW : FuncData} (F : Fun K "_part_fits" "_part_fits" sPF f fd) (M : Blt mg) (GC : FnOk P w K mg base CX0 7 fC dC ["term"] (spNames K "cell")) (kC : PySem.W.keepIn K (.ref fC) = true) (bC : Binds K dC ["term"] []) (gC : mg "cells_in" = some (.ref fC))
    (GW : FnOk P w K mg base CX0 6 fW dW ["word", "term"] (spWith K)) (kW : PySem.W.keepIn K (.ref fW) = true) (bW : Binds K dW ["word", "term"] []) (gW : mg "parts_with" = some (.ref fW)) : FnOk P w K mg base CX0 8 f fd ["part", "kinds", "ahead"] (spPF K) := by
  refine F.ok scPF (fun vs H Q E h => ?_) (fun cdv A outer s H vs Q E hr h => ?_)
  · obtain ⟨v, pk, pa, d, n, kvs, avs, rfl, _⟩ := h
    rfl
  · obtain ⟨v, pk, pa, d, n, kvs, avs, rfl, hv, hz, ht, ek, ea, hA, q⟩ := h
    have hr6 : Room 6 (A.deeper (envOfC "_part_fits" (defScope sPF) s.heap.objs.size f cdv)) := hr.mono (by decide)
    refine ⟨_, pss_cons (ps_for PassesOwn.never rfl (pi_list (pe_call GC hr (by rfl) gC kC bC .nil pass0 (pa_cons (pv 0) pa_nil))) (pg_name (i := 3) scPF.nd rfl (.inl rfl))
        (pss_one (ps_if (pt_cmp (pc_dnotin (hu_of hr) (pv 3) (pv 1))) (pss_one (ps_ret pe_bl)) pss_nil)))
      (pss_cons (ps_for PassesOwn.never rfl (pi_list (pe_call GW hr6 (by rfl) gW kW bW .nil pass0 (pa_cons pe_str (pa_cons (pv 0) pa_nil)))) (pg_tup (by rfl) (pgs_cons (pg_name (i := 4) scPF.nd rfl (.inl rfl)) (pgs_cons (pg_name (i := 5) scPF.nd rfl (.inl rfl)) (pgs_cons (pg_name (i := 6) scPF.nd rfl (.inl rfl)) pgs_nil))))
        (pss_one (ps_if (PW.pt (pw_or (pt_cmp (pc_dnotin (hu_of hr) (pv 5) (pv 2)))
          (pw_or1 (pt_cmpR op_ne (pe_dget (hu_of hr) (pv 2) (pv 5) (fun _ _ => rfl)) (pe_callB call_len_seq (by rfl) M.len PySem.boot_len (pa_cons (pv 6) pa_nil)) (nomark _))))) (pss_one (ps_ret pe_bl)) pss_nil)))
      (pss_one (ps_ret pe_bl))), ?_⟩
    refine ⟨v, rfl, v, d, n, rfl, hv, hz, ht, fun ys p H1 s1 ep hp so => ?_⟩
    have eall := all_names (has kvs) hp
    refine ⟨p, rfl, ⟨_, .inl (.inl ep)⟩, ?_⟩
    refine for_list (K := K) (a := p) (xs := ys.map V.str) (fun j σ H' => ∃ z, σ = [some v, some (.ref pk), some (.ref pa), z, none, none, none] ∧ Same H1 H' ∧ (ys.take j).all (has kvs) = true) ⟨_, rfl, Same.refl _, rfl⟩ (fun j σ H2 _ pr => ?_) (fun j x σ H2 hx pr => ?_) (fun σ H2 pr => ?_)
    · obtain ⟨_, _, s2, _⟩ := pr
      exact .inl (.inl (s2 _ _ ep))
    · obtain ⟨z, rfl, s2, al⟩ := pr
      rw [List.getElem?_map] at hx
      obtain ⟨y, hy, rfl⟩ := Option.map_eq_some_iff.mp hx
      have t2 := s1.trans s2
      refine ⟨.str y, rfl, .ref pk, rfl, pk, _, rfl, .inl ⟨kvs, .inr y, .inl (t2 _ _ ek), rfl, rfl⟩, _, rfl, ?_⟩
      show if (!(valV kvs (.inr y : Key)).isSome) = true then _ else _
      cases hh : has kvs y with
      | false =>
        rw [show (valV kvs (.inr y : Key)).isSome = false from hh]
        refine iteT ?_
        have no : partFits kvs avs d = false := by
          unfold partFits
          rw [← eall, Bool.and_eq_false_iff]
          refine .inl (eq_false_of_ne_true fun q => ?_)
          have := List.all_eq_true.mp q y (List.mem_of_getElem? hy)
          rw [hh] at this
          cases this
        have q2 := q H2 t2
        rw [no] at q2
        exact q2
      | true =>
        rw [show (valV kvs (.inr y : Key)).isSome = true from hh]
        refine iteF ⟨_, rfl, s2, ?_⟩
        rw [take_snoc hy, List.all_append, al]
        show (true && (has kvs y && true)) = true
        rw [hh]
        rfl
    · obtain ⟨z, rfl, s2, al⟩ := pr
      rw [List.length_map, List.take_length] at al
      rw [al] at eall
      have t2 := s1.trans s2
      refine ⟨v, rfl, "call", v, d, n, rfl, dp_same t2 hv, hz, ht, fun a xs H3 s3 eb hxs => ?_⟩
      have t3 := t2.trans s3
      refine ⟨a, rfl, ⟨_, .inl (.inl eb)⟩, ?_⟩
      refine for_list (K := K) (a := a) (xs := xs) (fun j σ H' => ∃ z1 z2 z3, σ = [some v, some (.ref pk), some (.ref pa), z, z1, z2, z3] ∧ Same H3 H' ∧ ((withD "call" d).take j).all (callFits avs) = true) ⟨_, _, _, rfl, Same.refl _, rfl⟩ (fun j σ H4 _ pr => ?_) (fun j x σ H4 hx pr => ?_) (fun σ H4 pr => ?_)
      · obtain ⟨_, _, _, _, s4, _⟩ := pr
        exact .inl (.inl (s4 _ _ eb))
      · obtain ⟨z1, z2, z3, rfl, s4, al2⟩ := pr
        obtain ⟨di, hd, hxi⟩ := dpA_at hxs hx
        have hmem := List.mem_filter.mp (List.mem_of_getElem? hd)
        obtain ⟨x', ts, rfl⟩ := w_call3 (List.all_eq_true.mp (parts_form ht) _ hmem.1) hmem.2
        have t4 := t3.trans s4
        cases hxi with
        | @tup b zs _ hs ha =>
        cases ha with
        | @cons x0 xr _ _ g0 g1 =>
        cases g1 with
        | @cons x1 xr1 _ _ g2 g3 =>
        cases g3 with
        | @cons x2 xr2 _ _ g4 g5 =>
        cases g5
        cases g2
        cases g4 with
        | @tup c ws _ hs2 ha2 =>
        have eA := t4 _ _ ea
        refine ⟨b, _, rfl, same_sqT (s3.trans s4) hs, rfl, x0, _, rfl, _, _, rfl, _, _, rfl, rfl, ?_⟩
        have no : callFits avs (.tuple [.str "call", .str x', .tuple ts]) = false → Q (.bl false) H4 := fun e => by
          have no : partFits kvs avs d = false := by
            unfold partFits
            rw [Bool.and_eq_false_iff]
            refine .inr (eq_false_of_ne_true fun q => ?_)
            have := List.all_eq_true.mp q _ (List.mem_of_getElem? hd)
            rw [e] at this
            cases this
          have q2 := q H4 t4
          rw [no] at q2
          exact q2
        refine ⟨.str x', rfl, .ref pa, rfl, pa, _, rfl, .inl ⟨avs, .inr x', .inl eA, rfl, rfl⟩, _, rfl, ?_⟩
        cases hval : valV avs (.inr x' : Key) with
        | none =>
          refine iteT (iteT (no ?_))
          show decide (valV avs (.inr x' : Key) = _) = false
          rw [hval]
          rfl
        | some u =>
          obtain ⟨i, rfl⟩ := hA _ _ hval
          refine iteF ⟨.ref pa, rfl, .str x', rfl, pa, .int i, rfl, .inl ⟨avs, .inr x', .inl eA, rfl, hval.symm⟩, .ref c, rfl, c, ws, rfl, .inr (same_sqT (s3.trans s4) hs2), rfl, _, rfl, ?_⟩
          have el := dpA_len ha2
          by_cases e : i = (ts.length : Nat)
          · rw [decide_eq_true (by rw [e, el] : V.int i = V.int (ws.length : Nat))]
            refine iteF ⟨_, _, _, rfl, s4, ?_⟩
            rw [take_snoc hd, List.all_append, al2]
            show (true && (decide (valV avs (.inr x' : Key) = some (.int (ts.length : Nat))) && true)) = true
            rw [hval, e, decide_eq_true rfl]
            rfl
          · rw [decide_eq_false (fun z => e (by have := V.int.inj z; omega) : ¬ V.int i = V.int (ws.length : Nat))]
            refine iteT (no ?_)
            show decide (valV avs (.inr x' : Key) = some (.int (ts.length : Nat))) = false
            rw [hval]
            exact decide_eq_false fun z => e (V.int.inj (Option.some.inj z))
      · obtain ⟨z1, z2, z3, rfl, s4, al2⟩ := pr
        rw [dpA_len hxs, List.take_length] at al2
        have q2 := q H4 (t3.trans s4)
        have yes : partFits kvs avs d = true := by
          unfold partFits
          rw [← eall, al2]
          rfl
        rw [yes] at q2
        exact q2
end
def writeOk (kvs : List (Key × V)) : PyData → Bool
  | .tuple [.str z, _] => decide (valV kvs (.inr z : Key) = some (.str "table"))
  | _ => false
def fitsB (kvs avs : List (Key × V)) (F : FD) : Bool := !(has kvs F.nm || has avs F.nm) && F.ws.all (writeOk kvs) && (partsF F).all (partFits kvs avs)
theorem bad_at {n : Int} : ∀ {ws : List PyData} {j : Nat} {z t : PyData}, badTerm n ws = none → ws[j]? = some (.tuple [z, t]) → isTerm n t = true
  | [], _, _, _, _, e => by simp at e
  | d :: r, j, z, t, h, e => by
    cases j with
    | zero =>
      cases e
      unfold badTerm at h
      split at h
      · next q => exact q
      · cases h
    | succ j =>
      refine bad_at (ws := r) (j := j) ?_ e
      unfold badTerm at h
      split at h
      · next q => cases q
      · next q =>
        cases q
        split at h
        · exact h
        · cases h
      · next q =>
        cases q
        exact h
theorem parts_ok {F : FD} (k : FdOk F) {i : Nat} {d : PyData} (e : (partsF F)[i]? = some d) : isTerm F.ar d = true ∧ szD d = true := by
  unfold partsF at e
  cases i with
  | zero =>
    cases e
    exact ⟨k.res, k.zr⟩
  | succ i =>
    have e1 : (F.ws.map sndD)[i]? = some d := e
    rw [List.getElem?_map] at e1
    obtain ⟨c, hc, rfl⟩ := Option.map_eq_some_iff.mp e1
    obtain ⟨z, t, rfl⟩ := writes_at k.ws hc
    exact ⟨bad_at k.bt hc, szD_item (i := 1) (szD_seqT (szD_item k.zw hc)) rfl⟩
theorem partsF_len {F : FD} (k : FdOk F) : (partsF F).length ≤ 4 := by
  have := k.few
  unfold partsF
  rw [List.length_cons, List.length_map]
  omega
abbrev sFits : Stmt := topS 62
theorem scFits : FnScope ["function", "kinds", "ahead", "cell", "_", "part"] ["function", "kinds", "ahead"] (defScope sFits) := ⟨rfl, rfl, rfl, by decide +kernel, rfl, by decide +kernel, by decide +kernel⟩
def spFits (K : PySem.W.Frag) (CF : Addr) : Sp := fun vs H Q _ => ∃ (a pk pa : Addr) (F : FD) (kvs avs : List (Key × V)), vs = [.ref a, .ref pk, .ref pa] ∧ FunOf K H CF a F ∧ H pk = some (.dK kvs) ∧ H pa = some (.dK avs) ∧ IntsAt avs ∧ StrsAt kvs ∧
  ∀ H', Same H H' → Q (.bl (fitsB kvs avs F)) H'
section
variable {P : Program} {w : World} {K : PySem.W.Frag} {mg : Str → Option Value} {base : Heap}
theorem ok_fits {CF f fP fM : Addr} {fd dP dM : FuncData} (F0 : Fun K "_fits" "_fits" sFits f fd) (M : Blt mg) (C : FldC K CF) (GP : FnOk P w K mg base CX0 8 fP dP ["part", "kinds", "ahead"] (spPF K)) (kP : PySem.W.keepIn K (.ref fP) = true) (bP : Binds K dP ["part", "kinds", "ahead"] []) (gP : mg "_part_fits" = some (.ref fP))
    (GM : FnOk P w K mg base CX0 1 fM dM ["self"] (spFParts K CF)) (mM : Meth K CF "parts" fM) (bM : Binds K dM ["self"] []) : FnOk P w K mg base CX0 9 f fd ["function", "kinds", "ahead"] (spFits K CF) := by
  refine F0.ok scFits (fun vs H Q E h => ?_) (fun cdv A outer s H vs Q E hr h => ?_)
  · obtain ⟨a, pk, pa, F, kvs, avs, rfl, _⟩ := h
    rfl
  · obtain ⟨a, pk, pa, F, kvs, avs, rfl, hF, ek, ea, hA, hK, q⟩ := h
    obtain ⟨ok, dx, fs, vr, wa, eF, h1, h2, h3, hr3, h5, hw, h7⟩ := id hF
    have hr1 : Room 1 (A.deeper (envOfC "_fits" (defScope sFits) s.heap.objs.size f cdv)) := hr.mono (by decide)
    refine ⟨_, pss_cons (ps_if (PW.pt (pw_or (pt_cmp (pc_din (hu_of hr) (pe_fld (pv 0) (by rfl)) (pv 1))) (pw_or1 (pt_cmp (pc_din (hu_of hr) (pe_fld (pv 0) (by rfl)) (pv 2)))))) (pss_one (ps_ret pe_bl)) pss_nil)
      (pss_cons (ps_for PassesOwn.never rfl (pi_tup (pe_fld (pv 0) (by rfl))) (pg_tup (by rfl) (pgs_cons (pg_name (i := 3) scFits.nd rfl (.inl rfl)) (pgs_cons (pg_name (i := 4) scFits.nd rfl (.inl rfl)) pgs_nil)))
        (pss_one (ps_if (PW.pt (pw_or (pt_cmp (pc_dnotin (hu_of hr) (pv 3) (pv 1))) (pw_or1 (pt_cmpR op_ne (pe_dget (hu_of hr) (pv 1) (pv 3) (fun _ _ => rfl)) pe_str (nomark _))))) (pss_one (ps_ret pe_bl)) pss_nil)))
      (pss_one (ps_ret (pe_callB (cr_all rfl) (by rfl) M.all (by decide +kernel) (pa_cons
        (pe_lc (own := [("part", 5)]) (g := gName 5) (wi := iList K (tMeth CF "parts" (spFParts K CF) [] E0 (tVar 0) tNil)) (tt := tYes) (te := tCall (spPF K) [] E0 (tCons (tVar 5) (tCons (tVar 1) (tCons (tVar 2) tNil)))) (by rfl) scFits.nd (pi_list (pe_meth0 (pv 0) C.cl mM GM hr1 bM .nil pass0))
          (blkOk_by (own := [("part", 5)]) (N := ["function", "kinds", "ahead", "cell", "_", "part"]) (sc := defScope sFits) (by decide +kernel)) (fun _ _ _ _ _ => pg_name (i := 5) scFits.nd rfl (Or.inl rfl)) (fun _ _ _ _ _ => pts_nil) (fun _ _ _ _ _ => pe_call GP hr (by rfl) gP kP bP .nil pass0 (pa_cons (pv 5) (pa_cons (pv 1) (pa_cons (pv 2) pa_nil))))) pa_nil))))), ?_⟩
    have no : ∀ H', Same H H' → fitsB kvs avs F = false → Q (.bl false) H' := fun H' s e => by
      have q2 := q H' s
      rw [e] at q2
      exact q2
    refine ⟨.ref a, rfl, a, CF, dx, fs, _, rfl, eF, C.cl, C.n1, h1, .ref pk, rfl, pk, _, rfl, .inl ⟨kvs, .inr F.nm, .inl ek, rfl, rfl⟩, _, rfl, ?_⟩
    cases hk : has kvs F.nm with
    | true =>
      rw [show (valV kvs (.inr F.nm : Key)).isSome = true from hk]
      refine iteT (iteT (no H (Same.refl H) ?_))
      unfold fitsB
      rw [hk]
      rfl
    | false =>
    rw [show (valV kvs (.inr F.nm : Key)).isSome = false from hk]
    refine iteF ⟨.ref a, rfl, a, CF, dx, fs, _, rfl, eF, C.cl, C.n1, h1, .ref pa, rfl, pa, _, rfl, .inl ⟨avs, .inr F.nm, .inl ea, rfl, rfl⟩, _, rfl, ?_⟩
    cases ha : has avs F.nm with
    | true =>
      rw [show (valV avs (.inr F.nm : Key)).isSome = true from ha]
      refine iteT (no H (Same.refl H) ?_)
      unfold fitsB
      rw [hk, ha]
      rfl
    | false =>
    rw [show (valV avs (.inr F.nm : Key)).isSome = false from ha]
    refine iteF ?_
    cases hw with
    | @tup _ xs _ hs hds =>
    have eB : fitsB kvs avs F = (F.ws.all (writeOk kvs) && (partsF F).all (partFits kvs avs)) := by
      unfold fitsB
      rw [hk, ha]
      rfl
    refine ⟨.ref a, rfl, a, CF, dx, fs, .ref wa, rfl, eF, C.cl, C.n5, h5, wa, rfl, ⟨_, hs⟩, ?_⟩
    refine for_tup (K := K) (a := wa) (xs := xs) (fun j σ H' => ∃ z1 z2, σ = [some (.ref a), some (.ref pk), some (.ref pa), z1, z2, none] ∧ Same H H' ∧ (F.ws.take j).all (writeOk kvs) = true) ⟨_, _, rfl, Same.refl _, rfl⟩ (fun j σ H2 _ pr => ?_) (fun j x σ H2 hx pr => ?_) (fun σ H2 pr => ?_)
    · obtain ⟨_, _, _, s2, _⟩ := pr
      exact same_sqT s2 hs
    · obtain ⟨z1, z2, rfl, s2, al⟩ := pr
      obtain ⟨di, hd, hxi⟩ := dpA_at hds hx
      obtain ⟨z, t, rfl⟩ := writes_at ok.ws hd
      cases hxi with
      | @tup b ys _ hb hy =>
      obtain ⟨y0, y1, rfl, hy0, hy1⟩ := dp_pair hy
      cases hy0
      refine ⟨b, _, rfl, same_sqT s2 hb, rfl, _, _, rfl, y1, [], rfl, rfl, ?_⟩
      have eK := s2 _ _ ek
      have bad : writeOk kvs (.tuple [.str z, t]) = false → Q (.bl false) H2 := fun e => no H2 s2 (by
        rw [eB, Bool.and_eq_false_iff]
        refine .inl (eq_false_of_ne_true fun q => ?_)
        have := List.all_eq_true.mp q _ (List.mem_of_getElem? hd)
        rw [e] at this
        cases this)
      refine ⟨.str z, rfl, .ref pk, rfl, pk, _, rfl, .inl ⟨kvs, .inr z, .inl eK, rfl, rfl⟩, _, rfl, ?_⟩
      cases hval : valV kvs (.inr z : Key) with
      | none =>
        refine iteT (iteT (bad ?_))
        show decide (valV kvs (.inr z : Key) = _) = false
        rw [hval]
        rfl
      | some u =>
        obtain ⟨i, rfl⟩ := hK _ _ hval
        refine iteF ⟨.ref pk, rfl, .str z, rfl, pk, .str i, rfl, .inl ⟨kvs, .inr z, .inl eK, rfl, hval.symm⟩, rfl, _, rfl, ?_⟩
        by_cases e : i = "table"
        · rw [decide_eq_true (by rw [e] : V.str i = V.str "table")]
          refine iteF ⟨_, _, rfl, s2, ?_⟩
          rw [take_snoc hd, List.all_append, al]
          show (true && (decide (valV kvs (.inr z : Key) = some (.str "table")) && true)) = true
          rw [hval, e, decide_eq_true rfl]
          rfl
        · rw [decide_eq_false (fun z => e (V.str.inj z) : ¬ V.str i = V.str "table")]
          refine iteT (bad ?_)
          show decide (valV kvs (.inr z : Key) = some (.str "table")) = false
          rw [hval]
          exact decide_eq_false fun z => e (V.str.inj (Option.some.inj z))
    · obtain ⟨z1, z2, rfl, s2, al⟩ := pr
      rw [dpA_len hds, List.take_length] at al
      rw [al, Bool.true_and] at eB
      have hF2 := hF.same s2
      refine ⟨.ref a, rfl, a, dx, fs, rfl, s2 _ _ eF, h7, a, F, rfl, hF2, fun p ps H3 s3 ep hps => ?_⟩
      have t3 := s2.trans s3
      refine ⟨p, rfl, ⟨_, .inl (.inl ep)⟩, fun D hD => ?_⟩
      refine walk_gen (walk_list (K := K) (a := p) (xs := ps)) (fun i H' => Same H3 H' ∧ H' D = some (.lst (((partsF F).take i).map fun d => V.bl (partFits kvs avs d)))) ⟨same_upd hD, upd_same⟩ (fun i H' _ pr => .inl (.inl (pr.1 _ _ ep))) (fun i x H4 H5 hi pr y => ?_) (fun H' pr => ?_)
      · obtain ⟨s4, eD⟩ := pr
        obtain ⟨rfl, hx⟩ := y
        obtain ⟨di, hd, hxi⟩ := dpA_at hps hx
        obtain ⟨k1, k2⟩ := parts_ok ok hd
        have t4 := t3.trans s4
        refine And.intro rfl ?_
        unfold tYes
        refine iteT ⟨x, rfl, .ref pk, rfl, .ref pa, rfl, x, pk, pa, di, F.ar, kvs, avs, rfl, dp_same s4 hxi, k2, k1, t4 _ _ ek, t4 _ _ ea, hA, fun H6 s6 => ⟨_, s6 _ _ eD, ?_, fun b o e => ?_, ?_⟩⟩
        · rw [List.length_map, List.length_take]
          have := partsF_len ok
          exact Nat.lt_of_le_of_lt (show _ ≤ 4 by omega) (by decide)
        · rw [upd_ne (ne_of_none e hD)]
          exact s6 _ _ (s4 _ _ e)
        · rw [take_snoc hd, List.map_append]
          exact upd_same
      · obtain ⟨s4, eD⟩ := pr
        rw [dpA_len hps, List.take_length] at eD
        refine ⟨D, (partsF F).map (partFits kvs avs), rfl, .inl (.inl ?_), ?_⟩
        · rw [List.map_map]
          exact eD
        · have q2 := q H' (t3.trans s4)
          rw [eB] at q2
          rw [List.all_map]
          exact q2
end
/-! ### the cells of a book -/
/-- rows of items, by descriptions -/
def Items {α : Type} (R : V → α → Prop) (xs : List V) (is : List α) : Prop := xs.length = is.length ∧ ∀ (i : Nat) x c, xs[i]? = some x → is[i]? = some c → R x c
theorem Items.mono {α : Type} {R R' : V → α → Prop} {xs : List V} {is : List α} (h : Items R xs is) (k : ∀ x c, R x c → R' x c) : Items R' xs is := ⟨h.1, fun i x c e1 e2 => k x c (h.2 i x c e1 e2)⟩
theorem Items.at {α : Type} {R : V → α → Prop} {xs : List V} {is : List α} (h : Items R xs is) {i : Nat} {x : V} (e : xs[i]? = some x) : ∃ c, is[i]? = some c ∧ R x c := by
  have hi := (List.getElem?_eq_some_iff.mp e).1
  have hi : i < is.length := h.1 ▸ hi
  exact ⟨is[i], List.getElem?_eq_getElem hi, h.2 i x _ e (List.getElem?_eq_getElem hi)⟩
inductive CI where
  | cell (n k : Str)
  | odd
def CItem (K : PySem.W.Frag) (H : Hp) (C : Addr) (v : V) : CI → Prop
  | .cell n k => ∃ a, v = .ref a ∧ CellAt H C a n k
  | .odd => ∃ d, Dp K H v d
theorem CItem.same {K : PySem.W.Frag} {H H' : Hp} {C : Addr} {v : V} {c : CI} (h : CItem K H C v c) (s : Same H H') : CItem K H' C v c := by
  cases c with
  | cell n k =>
    obtain ⟨a, e, h⟩ := h
    exact ⟨a, e, h.same s⟩
  | odd =>
    obtain ⟨d, h⟩ := h
    exact ⟨d, dp_same s h⟩
def cN : CI → Str
  | .cell n _ => n
  | .odd => ""
/-- the first that is no cell, or whose name stands ahead -/
def badC (seen : List Str) (i : Nat) : List CI → Option Nat
  | [] => none
  | .odd :: _ => some i
  | .cell n _ :: r => if n ∈ seen then some i else badC (seen ++ [n]) (i + 1) r
/-- no list and no tuple -/
def NoSeq (K : PySem.W.Frag) (H : Hp) (v : V) : Prop := (∃ d, Dp K H v d ∧ isSeq d = false) ∨ ∃ p kvs, v = .ref p ∧ H p = some (.dK kvs)
theorem NoSeq.same {K : PySem.W.Frag} {H H' : Hp} {v : V} (h : NoSeq K H v) (s : Same H H') : NoSeq K H' v := by
  rcases h with ⟨d, h, e⟩ | ⟨p, kvs, e, h⟩
  · exact .inl ⟨d, dp_same s h, e⟩
  · exact .inr ⟨p, kvs, e, s _ _ h⟩
theorem NoSeq.ty {K : PySem.W.Frag} {H : Hp} {v : V} (h : NoSeq K H v) : ∃ t, TyX K H v t ∧ PySem.W.kitAny K t [.type "list", .type "tuple"] = some false := by
  rcases h with ⟨d, h, e⟩ | ⟨p, kvs, rfl, h⟩
  · have k := kit_seq K d
    rw [e] at k
    exact ⟨_, dp_ty h, k⟩
  · exact ⟨_, .base (.dK h), kit_seq K (.dict [])⟩
theorem sqA_ty {K : PySem.W.Frag} {H : Hp} {p : Addr} {xs : List V} (h : SqL K H p xs ∨ SqT K H p xs) : ∃ t, TyX K H (.ref p) t ∧ PySem.W.kitAny K t [.type "list", .type "tuple"] = some true := by
  rcases h with h | h
  · exact ⟨_, tyx_sqL h, kit_seq K (.list [])⟩
  · exact ⟨_, tyx_sqT h, kit_seq K (.tuple [])⟩
theorem sqA_same {K : PySem.W.Frag} {H H' : Hp} {p : Addr} {xs : List V} (h : SqL K H p xs ∨ SqT K H p xs) (s : Same H H') : SqL K H' p xs ∨ SqT K H' p xs := h.imp (fun h => s.seq h) fun h => same_sqT s h
structure BkT (mg : Str → Option Value) : Prop where
  en : mg "enumerate" = none
  c6 : ∃ t, mg "MOST_CELLS" = some (.int 6 t)
  f8 : ∃ t, mg "MOST_FUNCTIONS" = some (.int 8 t)
/-- what is wanted of an error made here -/
abbrev EWish (H : Hp) (C : Addr) (f : Str) (v : V) (E : XK) : Prop := ∀ H1 dd H', Same H H1 → Left H1 dd f v H' → E (.ref C) (some dd) H'
abbrev sCC : Stmt := topS 60
theorem scCC : FnScope ["cells", "names", "index", "cell"] ["cells"] (defScope sCC) := ⟨rfl, rfl, rfl, by decide +kernel, rfl, by decide +kernel, by decide +kernel⟩
def CWish8 (H : Hp) (CB CO : Addr) (E : XK) (ok : Prop) (many : Bool) : Option Nat → Prop
  | some i => EWish H CB "index" (.int (i : Nat)) E
  | none => if many = true then EWish H CO "limit" (.int 6) E else ok
def spCC (K : PySem.W.Frag) (C CB CO : Addr) : Sp := fun vs H Q E => ∃ v, vs = [v] ∧
  ((NoSeq K H v ∧ EWish H CB "index" .non E) ∨ ∃ (p : Addr) (xs : List V) (is : List CI), v = .ref p ∧ (SqL K H p xs ∨ SqT K H p xs) ∧ Items (CItem K H C) xs is ∧ is.length ≤ 20 ∧
    CWish8 H CB CO E (∀ H', Same H H' → Q .non H') (decide (6 < is.length)) (badC [] 0 is))
section
variable {P : Program} {w : World} {K : PySem.W.Frag} {mg : Str → Option Value} {base : Heap}
theorem ok_cc {C CB CO f fB fO : Addr} {fd dB dO : FuncData} (F : Fun K "_check_cells" "_check_cells" sCC f fd) (M : Blt mg) (B : BkT mg) (TC : CelC K mg C) (N : NoKit K C) (TB : ErrT K mg "BadCell" "index" CB fB) (TO : ErrO K mg famO "TooMany" "limit" CO fO)
    (GB : FnOk P w K mg base CX0 1 fB dB ["self", "index"] (spErr CB "index")) (bB : Binds K dB ["self", "index"] []) (GO : FnOk P w K mg base CX0 1 fO dO ["self", "limit"] (spErr CO "limit")) (bO : Binds K dO ["self", "limit"] []) :
    FnOk P w K mg base (L2.CX P w) 3 f fd ["cells"] (spCC K C CB CO) := by
  obtain ⟨t6, g6⟩ := B.c6
  refine F.okX scCC (fun vs H Q E h => ?_) (fun cdv A outer s H vs Q E hr h => ?_)
  · obtain ⟨v, rfl, _⟩ := h
    rfl
  · obtain ⟨v, rfl, h⟩ := h
    have one : (1 : Nat) ≤ 1000 := by decide
    refine ⟨_, pss_cons (ps_if (pt_not (pt_val (pe_callB call_isiT (by rfl) M.isinstance (by decide +kernel) (pa_cons (pv 0) (pa_cons (pe_tup (pa_cons (pe_bltn (v := .ty "list") (by rfl) M.list (by decide +kernel) rfl) (pa_cons (pe_bltn (v := .ty "tuple") (by rfl) M.tuple (by decide +kernel) rfl) pa_nil))) pa_nil)))))
        (pss_one (ps_raise rfl (takes_of rfl rfl rfl rfl) (pmk_oex (k := 1) (ps := ["self", "index"]) (sp := spErr CB "index") (ds := []) (dvs := []) TB.oex TB.ini TB.typ GB hr bB .nil pass0 (by rfl) TB.nam (pa_cons pe_non pa_nil)))) pss_nil)
      (pss_cons (ps_set (i := 1) scCC.nd rfl (.inl rfl) pe_dnewK)
      (pss_cons (ps_for (passes_of rfl) rfl (EnT.pi_enumA (by rfl) B.en (pa_cons (pv 0) pa_nil)) (pg_tup (by rfl) (pgs_cons (pg_name (i := 2) scCC.nd rfl (.inl rfl)) (pgs_cons (pg_name (i := 3) scCC.nd rfl (.inl rfl)) pgs_nil)))
        (pss_cons (ps_if (PW.pt (pw_or (pt_not (pt_val (pe_callB call_isi (by rfl) M.isinstance (by decide +kernel) (pa_cons (pv 3) (pa_cons (pe_glob (v := .ref C) (by rfl) TC.gC rfl) pa_nil)))))
          (pw_or1 (pt_cmp (pc_din (hu_of hr) (pe_fld (pv 3) (by rfl)) (pv 1))))))
          (pss_one (ps_raise rfl (takes_of rfl rfl rfl rfl) (pmk_oex (k := 1) (ps := ["self", "index"]) (sp := spErr CB "index") (ds := []) (dvs := []) TB.oex TB.ini TB.typ GB hr bB .nil pass0 (by rfl) TB.nam (pa_cons (pv 2) pa_nil)))) pss_nil)
        (pss_one (ps_dput (hu_of hr) (pv 1) (pe_fld (pv 3) (by rfl)) pe_bl (by rfl)))))
      (pss_one (ps_if (pt_cmpR op_gt (pe_callB call_len_seq (by rfl) M.len PySem.boot_len (pa_cons (pv 0) pa_nil)) (pe_glob (v := .int 6) (by rfl) g6 ⟨_, rfl⟩) (nomark _))
        (pss_one (ps_raise rfl (takes_of rfl rfl rfl rfl) (pmk_fam (k := 1) (ps := ["self", "limit"]) (sp := spErr CO "limit") famO_ok TO GO hr bO pass0 (by rfl) (pa_cons (pe_glob (v := .int 6) (by rfl) g6 ⟨_, rfl⟩) pa_nil)))) pss_nil)))), ?_⟩
    refine ⟨v, rfl, (by show 2 ≤ sizeLine; decide), fun tp np => ?_⟩
    have s0 : Same H (upd H tp (HO.tup [.ty "list", .ty "tuple"])) := same_upd np
    have tcs : Paired ClsV [V.ty "list", V.ty "tuple"] [Value.type "list", Value.type "tuple"] := .cons (.ty "list") (.cons (.ty "tuple") .nil)
    rcases h with ⟨hn, out⟩ | ⟨p, xs, is, rfl, hA, hI, h20, wish⟩
    · obtain ⟨t, ty, kt⟩ := (hn.same s0).ty
      exact ⟨v, tp, _, t, _, _, rfl, upd_same, tcs, ty, kt, _, rfl, iteT ⟨one, mk_left fun dd H' l => out _ dd H' s0 l⟩⟩
    · obtain ⟨t, ty, kt⟩ := sqA_ty (sqA_same hA s0)
      refine ⟨.ref p, tp, _, t, _, _, rfl, upd_same, tcs, ty, kt, _, rfl, iteF ?_⟩
      generalize upd H tp (HO.tup [.ty "list", .ty "tuple"]) = H0 at s0 ⊢
      intro td nd
      have sd : Same H0 (upd H0 td (.dK [])) := same_upd nd
      have ndH : H td = none := s0.free nd
      refine ⟨.ref p, rfl, p, xs, rfl, ?_⟩
      obtain ⟨Pv, hPv⟩ : ∃ Pv : Nat → L2.St → Hp → Prop, Pv = fun j σ H' => ∃ z2 z3 kvs, σ = [some (.ref p), some (.ref td), z2, z3] ∧ Same H H' ∧ H' td = some (.dK kvs) ∧ kvs.length ≤ j ∧ (∀ z, has kvs z = decide (z ∈ (is.take j).map cN)) ∧ badC [] 0 is = badC ((is.take j).map cN) j (is.drop j) := ⟨_, rfl⟩
      have h0 : Pv 0 [some (.ref p), some (.ref td), none, none] (upd H0 td (.dK [])) := by
        subst hPv
        exact ⟨_, _, [], rfl, s0.trans sd, upd_same, Nat.le_refl _, fun z => rfl, rfl⟩
      rcases hA with hA | hA
      case' inl => refine .inl ⟨(s0.trans sd).seq hA, ?_⟩; refine for_it (walk_enum (K := K) (a := p) (xs := xs)) Pv h0 (fun j σ H' _ pr => by subst hPv; obtain ⟨_, _, _, _, s, _⟩ := pr; exact s.seq hA) (fun j x σ H2 H3 hj pr y => ?_) (fun σ H2 pr => ?_)
      case' inr => refine .inr ⟨same_sqT (s0.trans sd) hA, ?_⟩; refine for_it (EnT.walk_enumT (K := K) (a := p) (xs := xs)) Pv h0 (fun j σ H' _ pr => by subst hPv; obtain ⟨_, _, _, _, s, _⟩ := pr; exact same_sqT s hA) (fun j x σ H2 H3 hj pr y => ?_) (fun σ H2 pr => ?_)
      all_goals subst hPv
      case' inl.refine_1 | inr.refine_1 =>
        obtain ⟨z2, z3, kvs, rfl, s2, eD, lk, hk, eb⟩ := pr
        obtain ⟨T, y0, x0, rfl, nT, rfl, ey, hx⟩ := y
        cases ey
        obtain ⟨c, hc, hx1⟩ := hI.at hx
        have sT : Same H2 (upd H2 T (.tup [.int (j : Nat), x0])) := same_upd nT
        have s3 := s2.trans sT
        have hx3 := hx1.same s3
        have eD3 := sT _ _ eD
        have jl : j < is.length := (List.getElem?_eq_some_iff.mp hc).1
        have hdr : is.drop j = c :: is.drop (j + 1) := by
          rw [List.drop_eq_getElem_cons jl]
          have := (List.getElem?_eq_some_iff.mp hc).2
          rw [this]
        rw [hdr] at eb
        have stop : badC [] 0 is = some j → EWish H CB "index" (.int (j : Nat)) E := fun e => by
          rw [e] at wish
          exact wish
        refine ⟨T, _, rfl, .inl (.inl upd_same), rfl, _, _, rfl, _, _, rfl, rfl, ?_⟩
        cases c with
        | odd =>
          obtain ⟨d, hd⟩ := hx3
          refine ⟨x0, rfl, x0, .ref C, _, _, _, rfl, .own C, dp_ty hd, N d, _, rfl, iteT (iteT ⟨.int (j : Nat), rfl, one, mk_left fun dd H' l => stop ?_ _ dd H' s3 l⟩)⟩
          rw [eb]
          rfl
        | cell n k =>
          obtain ⟨a, rfl, dx, fs, ea, ln, lk2⟩ := hx3
          refine ⟨.ref a, rfl, .ref a, .ref C, _, _, _, rfl, .own C, .base (.ins ea TC.cl TC.ca TC.cg TC.ct TC.cm), TC.me, _, rfl, iteF ?_⟩
          refine ⟨.ref a, rfl, a, C, dx, fs, _, rfl, ea, TC.cl, TC.nn, ln, .ref td, rfl, td, _, rfl, .inl ⟨kvs, .inr n, .inl eD3, rfl, rfl⟩, _, rfl, ?_⟩
          have hb : badC ((is.take j).map cN) j (.cell n k :: is.drop (j + 1)) = if n ∈ (is.take j).map cN then some j else badC ((is.take j).map cN ++ [n]) (j + 1) (is.drop (j + 1)) := rfl
          rw [show (valV kvs (.inr n : Key)).isSome = _ from hk n]
          by_cases hm : n ∈ (is.take j).map cN
          · rw [decide_eq_true hm]
            refine iteT ⟨.int (j : Nat), rfl, one, mk_left fun dd H' l => stop ?_ _ dd H' s3 l⟩
            rw [eb, hb, if_pos hm]
          · rw [decide_eq_false hm]
            rw [if_neg hm] at hb
            refine iteF ?_
            have nD : ∀ {b : Addr} {o : HO}, H b = some o → b ≠ td := fun e => ne_of_none e ndH
            refine ⟨.ref td, rfl, .ref a, rfl, a, C, dx, fs, _, rfl, ea, TC.cl, TC.nn, ln, td, _, rfl, .inl ⟨kvs, .inr n, eD3, rfl, Nat.lt_of_le_of_lt (show _ ≤ 20 by omega) (by decide), rfl⟩, ?_⟩
            refine ⟨_, _, putK kvs (.inr n : Key) (.bl true), rfl, fun b o e => ?_, upd_same, ?_, fun z => ?_, ?_⟩
            · rw [upd_ne (nD e)]
              exact s3 _ _ e
            · rw [putK_new _ (by
                have := hk n
                rw [decide_eq_false hm] at this
                unfold has at this
                exact Option.not_isSome_iff_eq_none.mp (by rw [this]; decide))]
              rw [List.length_append]
              exact Nat.add_le_add lk (Nat.le_refl 1)
            · unfold has
              rw [valV_put, take_snoc hc, List.map_append]
              have h0 := hk z
              unfold has at h0
              by_cases e : z = n
              · subst e
                rw [if_pos rfl]
                exact (decide_eq_true (List.mem_append_right _ (List.mem_singleton.mpr rfl))).symm
              · rw [if_neg (fun q => e (Sum.inr.inj q)), h0]
                refine decide_eq_decide.mpr ⟨fun q => List.mem_append_left _ q, fun q => ?_⟩
                rcases List.mem_append.mp q with q | q
                · exact q
                · exact (e (List.mem_singleton.mp q)).elim
            · rw [eb, hb, take_snoc hc, List.map_append]
              rfl
      case' inl.refine_2 | inr.refine_2 =>
        obtain ⟨z2, z3, kvs, rfl, s2, eD, lk, hk, eb⟩ := pr
        have en : badC [] 0 is = none := by
          rw [eb, hI.1, List.drop_length]
          rfl
        rw [en] at wish
        refine ⟨.ref p, rfl, p, xs, rfl, sqA_same (by first | exact .inl hA | exact .inr hA) s2, _, _, rfl, rfl, _, rfl, ?_⟩
        refine ite2 (fun t => ?_) (fun t => ?_)
        · have t6 : 6 < is.length := by
            have h4 := of_decide_eq_true t
            have := hI.1
            omega
          have wish : EWish H CO "limit" (.int 6) E := by
            have w := wish
            unfold CWish8 at w
            rw [decide_eq_true t6] at w
            exact w
          exact ⟨one, mk_left fun dd H' l => wish _ dd H' s2 l⟩
        · have t6 : ¬ 6 < is.length := fun q => t (decide_eq_true (by
            have := hI.1
            omega))
          have wish : ∀ H', Same H H' → Q .non H' := by
            have w := wish
            unfold CWish8 at w
            rw [decide_eq_false t6] at w
            exact w
          exact wish _ s2
end
/-! ### a walk over a list or a tuple -/
/-- what holds of a list or a tuple -/
abbrev SqA (K : PySem.W.Frag) (H : Hp) (a : Addr) (xs : List V) : Prop := SqL K H a xs ∨ SqT K H a xs
theorem SqA.same {K : PySem.W.Frag} {H H' : Hp} {a : Addr} {xs : List V} (h : SqA K H a xs) (s : Same H H') : SqA K H' a xs := h.imp s.seq fun r => r.imp (fun r => r.imp (s _ _) fun ⟨o, e⟩ => ⟨o, s _ _ e⟩) id
def iSeqA (K : PySem.W.Frag) (tl : TE) : TI := fun σ H R => tl σ H fun x H1 => ∃ a, x = .ref a ∧ (((∃ xs, SqL K H1 a xs) ∧ R (Itl K a) H1) ∨ ((∃ xs, SqT K H1 a xs) ∧ R (Itt K a) H1))
theorem pi_seqA {X : Cx} {tg l : Expr} {tl : TE} (hl : PE X l tl) : PI X tg l (iSeqA X.K tl) := by
  refine ⟨fun pins s σ H R I h => ?_⟩
  refine thn (hl.run pins s σ H _ I h) fun v s1 ⟨x, H1, I1, r1, q1⟩ => ?_
  obtain ⟨a, e, q1⟩ := q1
  subst e
  cases r1
  rcases q1 with ⟨⟨xs, hq⟩, q⟩ | ⟨⟨xs, hq⟩, q⟩
  · obtain ⟨its, rv, p, hz⟩ := I1.list hq
    refine wpAny_pyIter_list p.isList ?_
    refine ⟨s1.heap.objs.size, [s1.heap.objs.size], _, _, H1, rfl, I1.kept (t' := s1.toks) fun b o e => Heap.get?_push_of_some _ e, turn_list a _, ⟨_, Heap.get?_push_size _ rfl, rfl, rfl⟩, fun b hb => ?_, q⟩
    have e : b = s1.heap.objs.size := by simpa using hb
    subst e
    exact I1.fpOk (Nat.le_refl _) (I1.hok.fresh (Nat.le_refl _))
  · obtain ⟨its, rv, p, hz⟩ := I1.tuple hq
    refine wpAny_pyIter_tuple (show s1.heap.IsTuple a its.toArray from p) ?_
    refine ⟨s1.heap.objs.size, [s1.heap.objs.size], _, _, H1, rfl, I1.kept (t' := s1.toks) fun b o e => Heap.get?_push_of_some _ e, turn_tuple a _, ⟨_, Heap.get?_push_size _ rfl, rfl, rfl⟩, fun b hb => ?_, q⟩
    have e : b = s1.heap.objs.size := by simpa using hb
    subst e
    exact I1.fpOk (Nat.le_refl _) (I1.hok.fresh (Nat.le_refl _))
/-! ### the functions of a book -/
inductive FI where
  | fn (F : FD)
  | odd
def FItem (K : PySem.W.Frag) (H : Hp) (CF : Addr) (v : V) : FI → Prop
  | .fn F => ∃ a, v = .ref a ∧ FunOf K H CF a F
  | .odd => ∃ d, Dp K H v d
theorem FItem.same {K : PySem.W.Frag} {H H' : Hp} {C : Addr} {v : V} {c : FI} (h : FItem K H C v c) (s : Same H H') : FItem K H' C v c := by
  cases c with
  | fn F =>
    obtain ⟨a, e, h⟩ := h
    exact ⟨a, e, h.same s⟩
  | odd =>
    obtain ⟨d, h⟩ := h
    exact ⟨d, dp_same s h⟩
def cK : CI → Str
  | .cell _ k => k
  | .odd => ""
def kindsK (is : List CI) : List (Key × V) := is.map fun c => ((.inr (cN c) : Key), V.str (cK c))
/-- the first that is no function, or doesn't fit -/
def badF (kvs : List (Key × V)) (avs : List (Key × V)) (i : Nat) : List FI → Option Nat
  | [] => none
  | .odd :: _ => some i
  | .fn F :: r => if fitsB kvs avs F = true then badF kvs (putK avs (.inr F.nm : Key) (.int F.ar)) (i + 1) r else some i
theorem kinds_strs {is : List CI} : StrsAt (kindsK is) := fun z u e => by
  unfold valV kindsK at e
  obtain ⟨kv, hkv, rfl⟩ := Option.map_eq_some_iff.mp e
  obtain ⟨c, _, rfl⟩ := List.mem_map.mp (List.mem_of_find?_eq_some hkv)
  exact ⟨_, rfl⟩
/-- cells that are good are cells, of names of their own -/
theorem good_cells : ∀ {is : List CI} {seen : List Str} {i : Nat}, badC seen i is = none → ∀ j c, is[j]? = some c → (∃ n k, c = .cell n k) ∧ cN c ∉ seen ++ (is.take j).map cN
  | [], _, _, _, _, _, e => by simp at e
  | .odd :: _, _, _, h, _, _, _ => by cases h
  | .cell n k :: r, seen, i, h, j, c, e => by
    unfold badC at h
    split at h
    · cases h
    · next hn =>
      cases j with
      | zero =>
        cases e
        refine ⟨⟨n, k, rfl⟩, ?_⟩
        show n ∉ seen ++ []
        rw [List.append_nil]
        exact hn
      | succ j =>
        have h2 := good_cells h j c e
        refine ⟨h2.1, ?_⟩
        rw [List.append_assoc] at h2
        exact h2.2
theorem kinds_new {is : List CI} (h : badC [] 0 is = none) {j : Nat} {c : CI} (e : is[j]? = some c) : valV (kindsK (is.take j)) (.inr (cN c) : Key) = none := by
  have h2 := (good_cells h j c e).2
  unfold valV
  rw [List.find?_eq_none.mpr]
  · rfl
  · intro kv hkv q
    obtain ⟨c2, hc2, rfl⟩ := List.mem_map.mp hkv
    have q1 : (Sum.inr (cN c2) : Key) = .inr (cN c) := of_decide_eq_true q
    exact h2 (Sum.inr.inj q1 ▸ List.mem_map.mpr ⟨c2, hc2, rfl⟩)
theorem ints_put {avs : List (Key × V)} (h : IntsAt avs) (n : Str) (i : Int) : IntsAt (putK avs (.inr n : Key) (.int i)) := fun z u e => by
  rw [valV_put] at e
  split at e
  · cases e
    exact ⟨i, rfl⟩
  · exact h z u e
/-- what isinstance asks of a class -/
structure KitC (K : PySem.W.Frag) (C : Addr) : Prop where
  cl : Cls K C
  me : PySem.W.kitOne K (.ref C) (.ref C) = some true
  ca : PySem.W.findIn K (.ref C) "__class__" = some (some (.builtin "object.__class__"))
  cg : PySem.W.specialIn K (.builtin "object.__class__") "__get__" = some (some (.builtin "getset_descriptor.__get__"))
  ct : PySem.W.takesIn K (.builtin "object.__class__") = some true
  cm : PySem.W.mroIn K C (.type "object") = some true
  no : NoKit K C
abbrev sCFn : Stmt := topS 61
theorem scCFn : FnScope ["cells", "functions", "kinds", "ahead", "index", "function", "cell"] ["cells", "functions"] (defScope sCFn) := ⟨rfl, rfl, rfl, by decide +kernel, rfl, by decide +kernel, by decide +kernel⟩
def FWish8 (H : Hp) (CB CO : Addr) (E : XK) (ok : Prop) (none_ many : Bool) (r : Option Nat) : Prop :=
  if none_ = true then EWish H CB "index" .non E else
  match r with
  | some i => EWish H CB "index" (.int (i : Nat)) E
  | none => if many = true then EWish H CO "limit" (.int 8) E else ok
def spCFn (K : PySem.W.Frag) (C CF CB CO : Addr) : Sp := fun vs H Q E => ∃ (p : Addr) (xs : List V) (is : List CI) (v : V), vs = [.ref p, v] ∧ (SqL K H p xs ∨ SqT K H p xs) ∧ Items (CItem K H C) xs is ∧ badC [] 0 is = none ∧ is.length ≤ 6 ∧
  ((NoSeq K H v ∧ EWish H CB "index" .non E) ∨ ∃ (r : Addr) (ys : List V) (js : List FI), v = .ref r ∧ (SqL K H r ys ∨ SqT K H r ys) ∧ Items (FItem K H CF) ys js ∧ js.length ≤ 20 ∧
    FWish8 H CB CO E (∀ H', Same H H' → Q .non H') (decide (js.length = 0)) (decide (8 < js.length)) (badF (kindsK is) [] 0 js))
section
variable {P : Program} {w : World} {K : PySem.W.Frag} {mg : Str → Option Value} {base : Heap}
theorem ok_cfn {C CF CB CO f fB fO fT : Addr} {fd dB dO dT : FuncData} (F : Fun K "_check_functions" "_check_functions" sCFn f fd) (M : Blt mg) (B : BkT mg) (TC : CelC K mg C) (KF : KitC K CF) (gF : mg "Function" = some (.ref CF)) (FC : FldC K CF)
    (TB : ErrT K mg "BadFunction" "index" CB fB) (TO : ErrO K mg famO "TooMany" "limit" CO fO)
    (GB : FnOk P w K mg base CX0 1 fB dB ["self", "index"] (spErr CB "index")) (bB : Binds K dB ["self", "index"] []) (GO : FnOk P w K mg base CX0 1 fO dO ["self", "limit"] (spErr CO "limit")) (bO : Binds K dO ["self", "limit"] [])
    (GT : FnOk P w K mg base CX0 9 fT dT ["function", "kinds", "ahead"] (spFits K CF)) (kT : PySem.W.keepIn K (.ref fT) = true) (bT : Binds K dT ["function", "kinds", "ahead"] []) (gT : mg "_fits" = some (.ref fT)) :
    FnOk P w K mg base (L2.CX P w) 10 f fd ["cells", "functions"] (spCFn K C CF CB CO) := by
  obtain ⟨t8, g8⟩ := B.f8
  refine F.okX scCFn (fun vs H Q E h => ?_) (fun cdv A outer s H vs Q E hr h => ?_)
  · obtain ⟨p, xs, is, v, rfl, _⟩ := h
    rfl
  · obtain ⟨p, xs, is, v, rfl, hA, hI, hgood, h6, h⟩ := h
    have one : (1 : Nat) ≤ 1000 := by decide
    have hr2 : Room 2 (A.deeper (envOfC "_check_functions" (defScope sCFn) s.heap.objs.size f cdv)) := hr.mono (by decide)
    refine ⟨_, pss_cons (ps_if (PW.pt (pw_or (pt_not (pt_val (pe_callB call_isiT (by rfl) M.isinstance (by decide +kernel) (pa_cons (pv 1) (pa_cons (pe_tup (pa_cons (pe_bltn (v := .ty "list") (by rfl) M.list (by decide +kernel) rfl) (pa_cons (pe_bltn (v := .ty "tuple") (by rfl) M.tuple (by decide +kernel) rfl) pa_nil))) pa_nil)))))
          (pw_or1 (pt_cmpR op_eq (pe_callB call_len_seq (by rfl) M.len PySem.boot_len (pa_cons (pv 1) pa_nil)) pe_int (nomark _)))))
        (pss_one (ps_raise rfl (takes_of rfl rfl rfl rfl) (pmk_oex (k := 1) (ps := ["self", "index"]) (sp := spErr CB "index") (ds := []) (dvs := []) TB.oex TB.ini TB.typ GB hr2 bB .nil pass0 (by rfl) TB.nam (pa_cons pe_non pa_nil)))) pss_nil)
      (pss_cons (ps_setDc (i := 2) (own := [("cell", 6)]) (g := gName 6) (wi := iSeqA K (tVar 0)) (tk := tFld K (tVar 6) "name") (tv := tFld K (tVar 6) "kind") (by rfl) scCFn.nd rfl rfl (swd_true rfl rfl rfl (by decide +kernel)) (pi_seqA (pv 0)) (blkOk_by (own := [("cell", 6)]) (N := ["cells", "functions", "kinds", "ahead", "index", "function", "cell"]) (sc := defScope sCFn) (by decide +kernel))
          (fun _ _ _ _ _ => pg_name (i := 6) scCFn.nd rfl (Or.inl rfl)) (fun _ _ _ _ _ => pts_nil) (fun _ _ _ _ _ => pe_fld (pv 6) (by rfl)) (fun _ _ _ _ _ => pe_fld (pv 6) (by rfl)))
      (pss_cons (ps_set (i := 3) scCFn.nd rfl (.inl rfl) pe_dnewK)
      (pss_cons (ps_for (passes_of rfl) rfl (EnT.pi_enumA (by rfl) B.en (pa_cons (pv 1) pa_nil)) (pg_tup (by rfl) (pgs_cons (pg_name (i := 4) scCFn.nd rfl (.inl rfl)) (pgs_cons (pg_name (i := 5) scCFn.nd rfl (.inl rfl)) pgs_nil)))
        (pss_cons (ps_if (PW.pt (pw_or (pt_not (pt_val (pe_callB call_isi (by rfl) M.isinstance (by decide +kernel) (pa_cons (pv 5) (pa_cons (pe_glob (v := .ref CF) (by rfl) gF rfl) pa_nil)))))
          (pw_or1 (pt_not (pt_val (pe_call GT hr (by rfl) gT kT bT .nil pass0 (pa_cons (pv 5) (pa_cons (pv 2) (pa_cons (pv 3) pa_nil)))))))))
          (pss_one (ps_raise rfl (takes_of rfl rfl rfl rfl) (pmk_oex (k := 1) (ps := ["self", "index"]) (sp := spErr CB "index") (ds := []) (dvs := []) TB.oex TB.ini TB.typ GB hr2 bB .nil pass0 (by rfl) TB.nam (pa_cons (pv 4) pa_nil)))) pss_nil)
        (pss_one (ps_dput (hu_of hr) (pv 3) (pe_fld (pv 5) (by rfl)) (pe_fld (pv 5) (by rfl)) (by rfl)))))
      (pss_one (ps_if (pt_cmpR op_gt (pe_callB call_len_seq (by rfl) M.len PySem.boot_len (pa_cons (pv 1) pa_nil)) (pe_glob (v := .int 8) (by rfl) g8 ⟨_, rfl⟩) (nomark _))
        (pss_one (ps_raise rfl (takes_of rfl rfl rfl rfl) (pmk_fam (k := 1) (ps := ["self", "limit"]) (sp := spErr CO "limit") famO_ok TO GO hr2 bO pass0 (by rfl) (pa_cons (pe_glob (v := .int 8) (by rfl) g8 ⟨_, rfl⟩) pa_nil)))) pss_nil))))), ?_⟩
    refine ⟨v, rfl, (by show 2 ≤ sizeLine; decide), fun tp np => ?_⟩
    have s0 : Same H (upd H tp (HO.tup [.ty "list", .ty "tuple"])) := same_upd np
    have tcs : Paired ClsV [V.ty "list", V.ty "tuple"] [Value.type "list", Value.type "tuple"] := .cons (.ty "list") (.cons (.ty "tuple") .nil)
    rcases h with ⟨hn, out⟩ | ⟨r, ys, js, rfl, hY, hJ, h20, wish⟩
    · obtain ⟨t, ty, kt⟩ := (hn.same s0).ty
      exact ⟨v, tp, _, t, _, _, rfl, upd_same, tcs, ty, kt, _, rfl, iteT (iteT ⟨one, mk_left fun dd H' l => out _ dd H' s0 l⟩)⟩
    · obtain ⟨t, ty, kt⟩ := sqA_ty (sqA_same hY s0)
      refine ⟨.ref r, tp, _, t, _, _, rfl, upd_same, tcs, ty, kt, _, rfl, iteF ?_⟩
      generalize upd H tp (HO.tup [.ty "list", .ty "tuple"]) = H0 at s0 ⊢
      refine ⟨.ref r, rfl, r, ys, rfl, sqA_same hY s0, rfl, _, rfl, ?_⟩
      by_cases hz : js.length = 0
      · have e0 : decide (V.int (ys.length : Nat) = V.int 0) = true := decide_eq_true (by rw [hJ.1, hz]; rfl)
        rw [e0]
        have w : EWish H CB "index" .non E := by
          have w := wish
          unfold FWish8 at w
          rw [decide_eq_true hz] at w
          exact w
        exact iteT ⟨one, mk_left fun dd H' l => w _ dd H' s0 l⟩
      · have e0 : decide (V.int (ys.length : Nat) = V.int 0) = false := decide_eq_false fun q => hz (by have := V.int.inj q; have := hJ.1; omega)
        rw [e0]
        refine iteF ?_
        have wish : match badF (kindsK is) [] 0 js with
            | some i => EWish H CB "index" (.int (i : Nat)) E
            | none => if decide (8 < js.length) = true then EWish H CO "limit" (.int 8) E else (∀ H', Same H H' → Q .non H') := by
          have w := wish
          unfold FWish8 at w
          rw [decide_eq_false hz] at w
          exact w
        have hI0 := hI.mono fun x c h => h.same s0
        have hA0 := sqA_same hA s0
        have hY0 := sqA_same hY s0
        have hJ0 := hJ.mono fun x c h => h.same s0
        obtain ⟨Pc, hPc⟩ : ∃ Pc : Addr → Nat → Hp → Prop, Pc = fun D i H' => Same H0 H' ∧ H' D = some (.dK (kindsK (is.take i))) := ⟨_, rfl⟩
        refine ⟨_, rfl, p, rfl, ?_⟩
        rcases hA0 with hA0 | hA0
        case' inl => refine .inl ⟨⟨_, hA0⟩, fun D hD => ?_⟩; refine walk_gen (walk_list (K := K) (a := p) (xs := xs)) (Pc D) (by subst hPc; exact ⟨same_upd hD, upd_same⟩) (fun i H' _ pr => by subst hPc; exact pr.1.seq hA0) (fun i x H1 H2 hi pr y => ?_) (fun H1 pr => ?_)
        case' inr => refine .inr ⟨⟨_, hA0⟩, fun D hD => ?_⟩; refine walk_gen (walk_tup (K := K) (a := p) (xs := xs)) (Pc D) (by subst hPc; exact ⟨same_upd hD, upd_same⟩) (fun i H' _ pr => by subst hPc; exact same_sqT pr.1 hA0) (fun i x H1 H2 hi pr y => ?_) (fun H1 pr => ?_)
        all_goals subst hPc
        case' inl.refine_1 | inr.refine_1 =>
          obtain ⟨s1, e1⟩ := pr
          obtain ⟨rfl, hx⟩ := y
          obtain ⟨c, hc, hx1⟩ := hI0.at hx
          obtain ⟨⟨n, k, rfl⟩, _⟩ := good_cells hgood _ _ hc
          obtain ⟨a, rfl, dx, fs, ea, ln, lk⟩ := hx1
          have ea1 := s1 _ _ ea
          refine And.intro rfl ?_
          unfold tYes
          refine iteT ?_
          refine ⟨.ref a, rfl, a, C, dx, fs, _, rfl, ea1, TC.cl, TC.nn, ln, .ref a, rfl, a, C, dx, fs, _, rfl, ea1, TC.cl, TC.nk, lk, _, .inr n, rfl, e1, ?_, fun b o e => ?_, ?_⟩
          · unfold kindsK
            rw [List.length_map, List.length_take]
            exact Nat.lt_of_le_of_lt (show _ ≤ 6 by omega) (by decide)
          · rw [upd_ne (ne_of_none e hD)]
            exact s1 _ _ e
          · rw [upd_same, take_snoc hc, putK_new _ (show valV (kindsK (is.take i)) (.inr n : Key) = none from kinds_new hgood hc)]
            unfold kindsK
            rw [List.map_append]
            rfl
        all_goals
          obtain ⟨s1, e1⟩ := pr
          rw [hI.1, List.take_length] at e1
          intro td nd
          have sd : Same H1 (upd H1 td (.dK [])) := same_upd nd
          have t1 := s0.trans (s1.trans sd)
          refine ⟨.ref r, rfl, r, ys, rfl, ?_⟩
          obtain ⟨Pv, hPv⟩ : ∃ Pv : Nat → L2.St → Hp → Prop, Pv = fun j σ H' => ∃ z4 z5 avs, σ = [some (.ref p), some (.ref r), some (.ref D), some (.ref td), z4, z5, none] ∧ Same H1 H' ∧ H' td = some (.dK avs) ∧ avs.length ≤ j ∧ IntsAt avs ∧ badF (kindsK is) [] 0 js = badF (kindsK is) avs j (js.drop j) := ⟨_, rfl⟩
          have h0 : Pv 0 [some (.ref p), some (.ref r), some (.ref D), some (.ref td), none, none, none] (upd H1 td (.dK [])) := by
            subst hPv
            exact ⟨_, _, [], rfl, sd, upd_same, Nat.le_refl _, (fun z u e => by cases e), rfl⟩
          rcases hY0 with hY0 | hY0
          case' inl => refine .inl ⟨(s1.trans sd).seq hY0, ?_⟩; refine for_it (walk_enum (K := K) (a := r) (xs := ys)) Pv h0 (fun j σ H' _ pr => by subst hPv; obtain ⟨_, _, _, _, s, _⟩ := pr; exact (s1.trans s).seq hY0) (fun j x σ H2 H3 hj pr y => ?_) (fun σ H2 pr => ?_)
          case' inr => refine .inr ⟨same_sqT (s1.trans sd) hY0, ?_⟩; refine for_it (EnT.walk_enumT (K := K) (a := r) (xs := ys)) Pv h0 (fun j σ H' _ pr => by subst hPv; obtain ⟨_, _, _, _, s, _⟩ := pr; exact same_sqT (s1.trans s) hY0) (fun j x σ H2 H3 hj pr y => ?_) (fun σ H2 pr => ?_)
          all_goals subst hPv
          case' inl.refine_1 | inr.refine_1 =>
            obtain ⟨z4, z5, avs, rfl, s2, eD, lk, hAv, eb⟩ := pr
            obtain ⟨T, y0, x0, rfl, nT, rfl, ey, hx⟩ := y
            cases ey
            obtain ⟨c, hc, hx1⟩ := hJ0.at hx
            have sT : Same H2 (upd H2 T (.tup [.int (j : Nat), x0])) := same_upd nT
            have s3 := s1.trans (s2.trans sT)
            have hx3 := hx1.same s3
            have eD3 := sT _ _ eD
            have e13 := sT _ _ (s2 _ _ e1)
            have jl : j < js.length := (List.getElem?_eq_some_iff.mp hc).1
            have hdr : js.drop j = c :: js.drop (j + 1) := by
              rw [List.drop_eq_getElem_cons jl]
              have := (List.getElem?_eq_some_iff.mp hc).2
              rw [this]
            rw [hdr] at eb
            have stop : badF (kindsK is) [] 0 js = some j → EWish H CB "index" (.int (j : Nat)) E := fun e => by
              rw [e] at wish
              exact wish
            refine ⟨T, _, rfl, .inl (.inl upd_same), rfl, _, _, rfl, _, _, rfl, rfl, ?_⟩
            cases c with
            | odd =>
              obtain ⟨d, hd⟩ := hx3
              refine ⟨x0, rfl, x0, .ref CF, _, _, _, rfl, .own CF, dp_ty hd, KF.no d, _, rfl, iteT (iteT ⟨.int (j : Nat), rfl, one, mk_left fun dd H' l => stop ?_ _ dd H' (s0.trans s3) l⟩)⟩
              rw [eb]
              rfl
            | fn G =>
              obtain ⟨a, rfl, hG⟩ := hx3
              obtain ⟨ok, dx, fs, vr, wa, ea, l1, l2, _⟩ := id hG
              refine ⟨.ref a, rfl, .ref a, .ref CF, _, _, _, rfl, .own CF, .base (.ins ea KF.cl KF.ca KF.cg KF.ct KF.cm), KF.me, _, rfl, iteF ?_⟩
              refine ⟨.ref a, rfl, .ref D, rfl, .ref td, rfl, a, D, td, G, kindsK is, avs, rfl, hG, e13, eD3, hAv, kinds_strs, fun H4 s4 => ⟨_, rfl, ?_⟩⟩
              have hb : badF (kindsK is) avs j (.fn G :: js.drop (j + 1)) = if fitsB (kindsK is) avs G = true then badF (kindsK is) (putK avs (.inr G.nm : Key) (.int G.ar)) (j + 1) (js.drop (j + 1)) else some j := rfl
              cases hf : fitsB (kindsK is) avs G with
              | false =>
                rw [hf] at hb
                refine iteT ⟨.int (j : Nat), rfl, one, mk_left fun dd H' l => stop ?_ _ dd H' (s0.trans (s3.trans s4)) l⟩
                rw [eb, hb]
                rfl
              | true =>
                rw [hf, if_pos rfl] at hb
                refine iteF ?_
                have ea4 := s4 _ _ ea
                refine ⟨.ref a, rfl, a, CF, dx, fs, _, rfl, ea4, FC.cl, FC.n2, l2, .ref td, rfl, .ref a, rfl, a, CF, dx, fs, _, rfl, ea4, FC.cl, FC.n1, l1, td, _, rfl, .inl ⟨avs, .inr G.nm, s4 _ _ eD3, rfl, Nat.lt_of_le_of_lt (show _ ≤ 20 by omega) (by decide), rfl⟩, ?_⟩
                refine ⟨_, _, putK avs (.inr G.nm : Key) (.int G.ar), rfl, fun b o e => ?_, upd_same, ?_, ints_put hAv _ _, ?_⟩
                · rw [upd_ne (ne_of_none e nd)]
                  exact s4 _ _ (sT _ _ (s2 _ _ e))
                · rw [putK_new _ (by
                    have hn : has avs G.nm = false := by
                      have h1 : fitsB (kindsK is) avs G = true := hf
                      unfold fitsB at h1
                      rw [Bool.and_eq_true, Bool.and_eq_true, Bool.not_eq_true', Bool.or_eq_false_iff] at h1
                      exact h1.1.1.2
                    unfold has at hn
                    exact Option.not_isSome_iff_eq_none.mp (by rw [hn]; decide))]
                  rw [List.length_append]
                  exact Nat.add_le_add lk (Nat.le_refl 1)
                · rw [eb, hb]
          all_goals
            obtain ⟨z4, z5, avs, rfl, s2, eD, lk, hAv, eb⟩ := pr
            have en : badF (kindsK is) [] 0 js = none := by
              rw [eb, hJ.1, List.drop_length]
              rfl
            rw [en] at wish
            dsimp only at wish
            have t2 := s0.trans (s1.trans s2)
            refine ⟨.ref r, rfl, r, ys, rfl, sqA_same hY t2, _, _, rfl, rfl, _, rfl, ?_⟩
            refine ite2 (fun t => ?_) (fun t => ?_)
            · have t8 : 8 < js.length := by
                have h4 := of_decide_eq_true t
                have := hJ.1
                omega
              rw [decide_eq_true t8] at wish
              exact ⟨one, mk_left fun dd H' l => wish _ dd H' t2 l⟩
            · have t8 : ¬ 8 < js.length := fun q => t (decide_eq_true (by
                have := hJ.1
                omega))
              rw [decide_eq_false t8] at wish
              exact wish _ t2
end
/-! ### Function.__eq__ -/
abbrev sFEq : Stmt := inClass (topS 54) 1
theorem scFEq : FnScope ["self", "other"] ["self", "other"] (defScope sFEq) := ⟨rfl, rfl, rfl, by decide +kernel, rfl, by decide +kernel, by decide +kernel⟩
/-- a whole Function: its data, the number of its label, its cost -/
structure FX where
  d : FD
  lab : Nat
  cost : Int
structure FXOk (F : FX) : Prop where
  fd : FdOk F.d
  sr : SeqAt.shaped F.d.res = true
  sw : SeqAt.shaped (.tuple F.d.ws) = true
  ar : countOk 2 (.int F.d.ar) = true
  co : countOk 99 (.int F.cost) = true
def FunFull (K : PySem.W.Frag) (H : Hp) (CF CL a : Addr) (F : FX) : Prop := FXOk F ∧ ∃ (dx : Addr) (fs : List (Str × V)) (vr : V) (wa la : Addr), H a = some (.ins CF dx fs) ∧ fs.lookup ("name" : Str) = some (.str F.d.nm) ∧ fs.lookup ("arguments" : Str) = some (.int F.d.ar) ∧
  fs.lookup ("result" : Str) = some vr ∧ Dp K H vr F.d.res ∧ fs.lookup ("writes" : Str) = some (.ref wa) ∧ Dp K H (.ref wa) (.tuple F.d.ws) ∧ fs.lookup ("label" : Str) = some (.ref la) ∧ LabAt H CL la F.lab ∧ fs.lookup ("cost" : Str) = some (.int F.cost) ∧
  fs.lookup ("labelled" : Str) = none ∧ fs.lookup ("changed" : Str) = none ∧ fs.lookup ("parts" : Str) = none
theorem FunFull.same {K : PySem.W.Frag} {H H' : Hp} {CF CL a : Addr} {F : FX} (h : FunFull K H CF CL a F) (s : Same H H') : FunFull K H' CF CL a F := by
  obtain ⟨k, dx, fs, vr, wa, la, e, l1, l2, l3, d1, l4, d2, l5, la1, l6, r⟩ := h
  exact ⟨k, dx, fs, vr, wa, la, s _ _ e, l1, l2, l3, dp_same s d1, l4, dp_same s d2, l5, la1.ext s, l6, r⟩
theorem FunFull.of {K : PySem.W.Frag} {H : Hp} {CF CL a : Addr} {F : FX} (h : FunFull K H CF CL a F) : FunOf K H CF a F.d := by
  obtain ⟨k, dx, fs, vr, wa, la, e, l1, l2, l3, d1, l4, d2, l5, la1, l6, n1, n2, n3⟩ := h
  exact ⟨k.fd, dx, fs, vr, wa, e, l1, l2, l3, d1, l4, d2, n3⟩
def eqFX (F G : FX) : Bool := decide (F.d.nm = G.d.nm) && (decide (F.d.ar = G.d.ar) && (PyData.eqv F.d.res G.d.res && (decide (F.lab = G.lab) && (PyData.eqv (.tuple F.d.ws) (.tuple G.d.ws) && decide (F.cost = G.cost)))))
def spFEq (K : PySem.W.Frag) (CF CL : Addr) : Sp := fun vs H Q _ => ∃ (a : Addr) (F : FX) (y : V), vs = [.ref a, y] ∧ FunFull K H CF CL a F ∧ ((∃ b G, y = .ref b ∧ FunFull K H CF CL b G ∧ Q (.bl (eqFX F G)) H) ∨ ∃ z, y = .str z ∧ Q (.bl false) H)
/-- the attributes of a Function -/
structure FAtt (K : PySem.W.Frag) (CF : Addr) : Prop where
  n1 : NoAttr K CF "name"
  n2 : NoAttr K CF "arguments"
  n3 : NoAttr K CF "result"
  n4 : NoAttr K CF "label"
  n5 : NoAttr K CF "writes"
  n6 : NoAttr K CF "cost"
/-- Label.__eq__, as the own == goes by it -/
structure LabQ (P : Program) (w : World) (K : PySem.W.Frag) (mg : Str → Option Value) (base : Heap) (CL g : Addr) (fg : FuncData) : Prop where
  eq_ : PySem.W.findIn K (.ref CL) (cmpInfo .Eq).2.1 = some (some (.ref g))
  eqf : PySem.W.isFn K (.ref g) = true
  eqo : FnOk P w K mg base CX0 1 g fg ["self", "other"] (spLabEq K CL)
  eqb : Binds K fg ["self", "other"] []
section
variable {P : Program} {w : World} {K : PySem.W.Frag} {mg : Str → Option Value} {base : Heap}
theorem ok_feq {CF CL f g : Addr} {fd fg : FuncData} (F : Fun K "__eq__" "Function.__eq__" sFEq f fd) (M : Blt mg) (KC : KitC K CF) (gF : mg "Function" = some (.ref CF)) (T : FAtt K CF) (LQ : LabQ P w K mg base CL g fg) : FnOk P w K mg base CX0 2 f fd ["self", "other"] (spFEq K CF CL) := by
  refine F.ok scFEq (fun vs H Q E h => ?_) (fun cdv A outer s H vs Q E hr h => ?_)
  · obtain ⟨a, F, y, rfl, _⟩ := h
    rfl
  · obtain ⟨a, F, y, rfl, ⟨k, dx, fs, vr, wa, la, e, l1, l2, l3, d1, l4, d2, l5, la1, l6, _⟩, h⟩ := h
    refine ⟨_, pss_one (ps_ret (pe_and (pe_callB call_isi (by rfl) M.isinstance (by decide +kernel) (pa_cons (pv 1) (pa_cons (pe_glob (v := .ref CF) (by rfl) gF rfl) pa_nil)))
      (pe_and (pe_cmpR op_eq (pe_fld (pv 0) (by rfl)) (pe_fld (pv 1) (by rfl)) (nomark _)) (pe_and (pe_cmpR op_eq (pe_fld (pv 0) (by rfl)) (pe_fld (pv 1) (by rfl)) (nomark _)) (pe_and (pe_cmpR (op_eqD hr.units) (pe_fld (pv 0) (by rfl)) (pe_fld (pv 1) (by rfl)) (nomark _))
      (pe_and (pe_cmpR (op_ownI LQ.eq_ LQ.eqf LQ.eqo LQ.eqb hr) (pe_fld (pv 0) (by rfl)) (pe_fld (pv 1) (by rfl)) (nomark _)) (pe_and (pe_cmpR (op_eqD hr.units) (pe_fld (pv 0) (by rfl)) (pe_fld (pv 1) (by rfl)) (nomark _)) (pe_one (pe_cmpR op_eq (pe_fld (pv 0) (by rfl)) (pe_fld (pv 1) (by rfl)) (nomark _)))))))))), ?_⟩
    rcases h with ⟨b, G, rfl, ⟨k', dy, gs, ur, wb, lb, e', m1, m2, m3, c1, m4, c2, m5, lb1, m6, _⟩, q⟩ | ⟨z2, rfl, q⟩
    · obtain ⟨dxa, fsa, za, ela, _⟩ := id la1
      obtain ⟨dxb, fsb, zb, elb, _⟩ := id lb1
      have es : ∀ x y : Str, decide (V.str x = V.str y) = decide (x = y) := fun x y => by
        by_cases e : x = y
        · rw [decide_eq_true e, decide_eq_true (by rw [e])]
        · rw [decide_eq_false e, decide_eq_false (fun z => e (V.str.inj z))]
      have ei : ∀ x y : Int, decide (V.int x = V.int y) = decide (x = y) := fun x y => by
        by_cases e : x = y
        · rw [decide_eq_true e, decide_eq_true (by rw [e])]
        · rw [decide_eq_false e, decide_eq_false (fun z => e (V.int.inj z))]
      unfold eqFX at q
      refine ⟨_, rfl, _, _, _, _, _, rfl, .own CF, .base (.ins e' KC.cl KC.ca KC.cg KC.ct KC.cm), KC.me, _, rfl, iteT ?_⟩
      refine ⟨_, rfl, a, CF, dx, fs, _, rfl, e, KC.cl, T.n1, l1, _, rfl, b, CF, dy, gs, _, rfl, e', KC.cl, T.n1, m1, rfl, _, rfl, ?_⟩
      rw [es]
      cases h1 : decide (F.d.nm = G.d.nm) with
      | false => rw [h1] at q; exact iteF q
      | true =>
      rw [h1] at q
      refine iteT ⟨_, rfl, a, CF, dx, fs, _, rfl, e, KC.cl, T.n2, l2, _, rfl, b, CF, dy, gs, _, rfl, e', KC.cl, T.n2, m2, rfl, _, rfl, ?_⟩
      rw [ei]
      cases h2 : decide (F.d.ar = G.d.ar) with
      | false => rw [h2] at q; exact iteF q
      | true =>
      rw [h2] at q
      refine iteT ⟨_, rfl, a, CF, dx, fs, _, rfl, e, KC.cl, T.n3, l3, _, rfl, b, CF, dy, gs, _, rfl, e', KC.cl, T.n3, m3, _, _, d1, c1, k.sr, k'.sr, _, rfl, ?_⟩
      cases h3 : PyData.eqv F.d.res G.d.res with
      | false => rw [h3] at q; exact iteF q
      | true =>
      rw [h3] at q
      refine iteT ⟨_, rfl, a, CF, dx, fs, _, rfl, e, KC.cl, T.n4, l5, _, rfl, b, CF, dy, gs, _, rfl, e', KC.cl, T.n4, m5, la, lb, dxa, dxb, fsa, fsb, rfl, rfl, ela, elb, la, F.lab, .ref lb, rfl, la1, .inl ⟨lb, G.lab, rfl, lb1, _, rfl, ?_⟩⟩
      cases h4 : decide (F.lab = G.lab) with
      | false => rw [h4] at q; exact iteF q
      | true =>
      rw [h4] at q
      refine iteT ⟨_, rfl, a, CF, dx, fs, _, rfl, e, KC.cl, T.n5, l4, _, rfl, b, CF, dy, gs, _, rfl, e', KC.cl, T.n5, m4, _, _, d2, c2, k.sw, k'.sw, _, rfl, ?_⟩
      cases h5 : PyData.eqv (.tuple F.d.ws) (.tuple G.d.ws) with
      | false => rw [h5] at q; exact iteF q
      | true =>
      rw [h5] at q
      refine iteT ⟨_, rfl, a, CF, dx, fs, _, rfl, e, KC.cl, T.n6, l6, _, rfl, b, CF, dy, gs, _, rfl, e', KC.cl, T.n6, m6, rfl, ?_⟩
      rw [ei]
      exact q
    · exact ⟨_, rfl, _, _, _, _, _, rfl, .own CF, .base (.str z2), KC.no (.str z2), _, rfl, iteF q⟩
end
/-! ### the law's names -/
abbrev sLNames : Stmt := topS 68
theorem scLNames : FnScope ["_law_pool_here", "_law_count", "_law_signs", "_law_origin", "_law_step", "_law_ends", "_law_head", "_law_tail", "_law_k"] ["_law_pool_here", "_law_count"] (defScope sLNames) := ⟨rfl, rfl, rfl, by decide +kernel, rfl, by decide +kernel, by decide +kernel⟩
theorem low_at : ∀ i : Nat, i < 26 → ∃ c, (Str.ofString "abcdefghijklmnopqrstuvwxyz").cps.toList[i]? = some c ∧ lowCode c = true ∧ c = 97 + i := by
  have h : ∀ i : Nat, i < 26 → ((Str.ofString "abcdefghijklmnopqrstuvwxyz").cps.toList[i]?).any (fun c => lowCode c && decide (c = 97 + i)) = true := by decide +kernel
  intro i hi
  have h1 := h i hi
  cases e : (Str.ofString "abcdefghijklmnopqrstuvwxyz").cps.toList[i]? with
  | none =>
    rw [e] at h1
    cases h1
  | some c =>
    rw [e] at h1
    have h2 : (lowCode c && decide (c = 97 + i)) = true := h1
    rw [Bool.and_eq_true] at h2
    exact ⟨c, rfl, h2.1, of_decide_eq_true h2.2⟩
theorem name_of {h t : Str} {c : Nat} (hh : h.cps.toList.all lowCode = true) (ht : t.cps.toList.all lowCode = true) (hc : lowCode c = true) (hl : h.length + t.length ≤ 7) : isName (.str (h ++ ⟨#[c]⟩ ++ t)) = true := by
  have e1 : (h ++ (⟨#[c]⟩ : Str) ++ t).cps = h.cps ++ #[c] ++ t.cps := rfl
  have e2 : (h ++ (⟨#[c]⟩ : Str) ++ t).length = h.length + 1 + t.length := by
    show (h ++ (⟨#[c]⟩ : Str) ++ t).cps.size = h.cps.size + 1 + t.cps.size
    rw [e1, Array.size_append, Array.size_append]
    rfl
  show (decide (1 ≤ ((h ++ (⟨#[c]⟩ : Str) ++ t).length : Int)) && decide (((h ++ (⟨#[c]⟩ : Str) ++ t).length : Int) ≤ 8) && (h ++ (⟨#[c]⟩ : Str) ++ t).cps.toList.all lowCode) = true
  rw [e2, decide_eq_true (by omega), decide_eq_true (by omega), e1, Array.toList_append, Array.toList_append, List.all_append, List.all_append, hh, ht]
  show (true && true && (true && (lowCode c && true) && true)) = true
  rw [hc]
  rfl
theorem len_of {h t : Str} {c : Nat} : (h ++ (⟨#[c]⟩ : Str) ++ t).length = h.length + 1 + t.length := by
  show (h ++ (⟨#[c]⟩ : Str) ++ t).cps.size = h.cps.size + 1 + t.cps.size
  rw [show (h ++ (⟨#[c]⟩ : Str) ++ t).cps = h.cps ++ #[c] ++ t.cps from rfl, Array.size_append, Array.size_append]
  rfl
theorem but_sameN {p : Addr} {H H1 H2 : Hp} (b : But p H H1) (s : Same H1 H2) : But p H H2 := b.trans (But.of s)
theorem dpT {K : PySem.W.Frag} {H : Hp} {t : Addr} {xs : List V} {ds : List PyData} (n : H t = none) (h : DpAll K H xs ds) : Dp K (upd H t (.tup xs)) (.ref t) (.tuple ds) := .tup (.inl (.inl upd_same)) (dpA_same (same_upd n) h)
theorem sign_inj {h tl : Str} {c d : Nat} (e : h ++ (⟨#[c]⟩ : Str) ++ tl = h ++ (⟨#[d]⟩ : Str) ++ tl) : c = d := by
  have e1 : (h.cps ++ #[c] ++ tl.cps) = (h.cps ++ #[d] ++ tl.cps) := congrArg Str.cps e
  have e2 := congrArg Array.toList e1
  rw [Array.toList_append, Array.toList_append, Array.toList_append, Array.toList_append] at e2
  have e3 := List.append_cancel_left (List.append_cancel_right e2)
  exact (List.cons.inj e3).1
theorem signs_nodup {h tl : Str} {o z : Int} (z0 : 0 ≤ z) (z1 : z < 6) {zs : List Str} (hl : zs.length ≤ 8) (hs : ∀ (m : Nat) (u : Str), zs[m]? = some u → u = h ++ (⟨#[97 + ((o + (1 + 2 * z) * (m : Int)) % 26).toNat]⟩ : Str) ++ tl) : zs.Nodup := by
  refine List.pairwise_iff_getElem.mpr fun i j hi hj lt e => ?_
  have e1 := hs i _ (List.getElem?_eq_getElem hi)
  have e2 := hs j _ (List.getElem?_eq_getElem hj)
  rw [e1, e2] at e
  have e3 := sign_inj e
  rcases (show z = 0 ∨ z = 1 ∨ z = 2 ∨ z = 3 ∨ z = 4 ∨ z = 5 by omega) with q | q | q | q | q | q <;> subst q <;> omega
theorem not_z8 {h tl : Str} {c : Nat} (e : h.length + tl.length = 7 → (h = "abcdefg" ∧ tl = "") ∨ h = "" ∧ tl = "abcdefg") : h ++ (⟨#[c]⟩ : Str) ++ tl ≠ "zzzzzzzz" := fun q => by
  have l := congrArg Str.length q
  rw [len_of] at l
  have l2 : ("zzzzzzzz" : Str).length = 8 := by decide +kernel
  rw [l2] at l
  have k := congrArg (fun s : Str => s.cps.toList) q
  have k3 : ("zzzzzzzz" : Str).cps.toList = [122, 122, 122, 122, 122, 122, 122, 122] := by decide +kernel
  rcases e (by omega) with ⟨rfl, rfl⟩ | ⟨rfl, rfl⟩
  · have k2 : (("abcdefg" : Str) ++ (⟨#[c]⟩ : Str) ++ ("" : Str)).cps.toList = [97, 98, 99, 100, 101, 102, 103, c] := by
      show ((("abcdefg" : Str).cps ++ #[c]) ++ ("" : Str).cps).toList = _
      rw [show ("" : Str).cps = #[] by decide +kernel, show ("abcdefg" : Str).cps = #[97, 98, 99, 100, 101, 102, 103] by decide +kernel]
      simp
    have k := k2.symm.trans (k.trans k3)
    exact absurd (List.cons.inj k).1 (by decide)
  · have k2 : (("" : Str) ++ (⟨#[c]⟩ : Str) ++ ("abcdefg" : Str)).cps.toList = [c, 97, 98, 99, 100, 101, 102, 103] := by
      show ((("" : Str).cps ++ #[c]) ++ ("abcdefg" : Str).cps).toList = _
      rw [show ("" : Str).cps = #[] by decide +kernel, show ("abcdefg" : Str).cps = #[97, 98, 99, 100, 101, 102, 103] by decide +kernel]
      simp
    have k := k2.symm.trans (k.trans k3)
    exact absurd (List.cons.inj (List.cons.inj k).2).1 (by decide)
/-- what is known of a name's form -/
def WordZ (z : Str) : Prop := (z.length ≤ 4 ∨ z.length = 8) ∧ z ≠ "zz" ∧ z ≠ "zzzzzzzz"
theorem not_zz {h tl : Str} {c : Nat} (e : h.length + tl.length = 1 → h = "" ∧ tl = "q") : h ++ (⟨#[c]⟩ : Str) ++ tl ≠ "zz" := fun q => by
  have l := congrArg Str.length q
  rw [len_of] at l
  have l2 : ("zz" : Str).length = 2 := by decide +kernel
  rw [l2] at l
  obtain ⟨rfl, rfl⟩ := e (by omega)
  have k := congrArg (fun s : Str => s.cps.toList) q
  have k2 : (("" : Str) ++ (⟨#[c]⟩ : Str) ++ ("q" : Str)).cps.toList = [c, 113] := by
    show ((("" : Str).cps ++ #[c]) ++ ("q" : Str).cps).toList = _
    rw [show ("" : Str).cps = #[] by decide +kernel, show ("q" : Str).cps = #[113] by decide +kernel]
    simp
  have k3 : ("zz" : Str).cps.toList = [122, 122] := by decide +kernel
  have k := k2.symm.trans (k.trans k3)
  exact absurd (List.cons.inj (List.cons.inj k).2).1 (by decide)
def spLNames (K : PySem.W.Frag) : Sp := fun vs H Q _ => ∃ (p : Addr) (cn : Nat), vs = [.ref p, .int cn] ∧ cn ≤ 8 ∧ PoolAt H p ∧ ∀ (r : Addr) (zs : List Str) H', But p H H' → PoolAt H' p → H' r = some (.lst (zs.map V.str)) → zs.length = cn → (∀ z ∈ zs, isName (.str z) = true) → zs.Nodup → (∀ z ∈ zs, WordZ z) → Q (.ref r) H'
def endsD : List PyData := [.tuple [.str "", .str ""], .tuple [.str "", .str "q"], .tuple [.str "ab", .str ""], .tuple [.str "abcdefg", .str ""], .tuple [.str "", .str "abcdefg"]]
theorem ends_are : ∀ {i : Nat} {d : PyData}, endsD[i]? = some d → ∃ h t : Str, d = .tuple [.str h, .str t] ∧ h.cps.toList.all lowCode = true ∧ t.cps.toList.all lowCode = true ∧ h.length + t.length ≤ 7 ∧ (h.length + t.length ≤ 3 ∨ h.length + t.length = 7) ∧ (h.length + t.length = 1 → h = "" ∧ t = "q") ∧ (h.length + t.length = 7 → (h = "abcdefg" ∧ t = "") ∨ h = "" ∧ t = "abcdefg")
  | 0, _, e => ⟨_, _, (Option.some.inj e).symm, by decide +kernel, by decide +kernel, by decide +kernel, by decide +kernel, by decide +kernel, by decide +kernel⟩
  | 1, _, e => ⟨_, _, (Option.some.inj e).symm, by decide +kernel, by decide +kernel, by decide +kernel, by decide +kernel, by decide +kernel, by decide +kernel⟩
  | 2, _, e => ⟨_, _, (Option.some.inj e).symm, by decide +kernel, by decide +kernel, by decide +kernel, by decide +kernel, by decide +kernel, by decide +kernel⟩
  | 3, _, e => ⟨_, _, (Option.some.inj e).symm, by decide +kernel, by decide +kernel, by decide +kernel, by decide +kernel, by decide +kernel, by decide +kernel⟩
  | 4, _, e => ⟨_, _, (Option.some.inj e).symm, by decide +kernel, by decide +kernel, by decide +kernel, by decide +kernel, by decide +kernel, by decide +kernel⟩
  | n + 5, _, e => nomatch e
section
variable {P : Program} {w : World} {K : PySem.W.Frag} {mg : Str → Option Value} {base : Heap}
theorem ok_lnames {f fD fP : Addr} {fd dD dP : FuncData} (F : Fun K "_law_names" "_law_names" sLNames f fd) (M : Blt mg)
    (FD : Fun K "_law_draw" "_law_draw" sDraw fD dD) (bD : Binds K dD ["_law_pool_here", "_law_many"] []) (gD : mg "_law_draw" = some (.ref fD))
    (FP : Fun K "_law_pick" "_law_pick" sPick fP dP) (bP : Binds K dP ["_law_pool_here", "_law_row"] []) (gP : mg "_law_pick" = some (.ref fP)) :
    FnOk P w K mg base CX0 3 f fd ["_law_pool_here", "_law_count"] (spLNames K) := by
  have GD : FnOk P w K mg base CX0 1 fD dD ["_law_pool_here", "_law_many"] spDraw := ok_draw FD M
  have GP : FnOk P w K mg base CX0 2 fP dP ["_law_pool_here", "_law_row"] (spPick K) := ok_pick FP M FD bD gD
  refine F.ok scLNames (fun vs H Q E h => ?_) (fun cdv A outer s H vs Q E hr h => ?_)
  · obtain ⟨p, cn, rfl, _⟩ := h
    rfl
  · obtain ⟨p, cn, rfl, hc8, hp, q⟩ := h
    have hr1 : Room 1 _ := hr.mono (by omega)
    refine ⟨_, pss_cons (ps_set (i := 2) scLNames.nd rfl (.inr rfl) pe_str)
      (pss_cons (ps_asg (pe_tup (pa_cons (pe_call GD hr1 (by rfl) gD FD.kp bD .nil pass0 (pa_cons (pv 0) (pa_cons pe_int pa_nil)))
          (pa_cons (pe_op op_add pe_int (pe_op op_mul pe_int (pe_call GD hr1 (by rfl) gD FD.kp bD .nil pass0 (pa_cons (pv 0) (pa_cons pe_int pa_nil))))) pa_nil)))
          (pg_tup (by rfl) (pgs_cons (pg_name (i := 3) scLNames.nd rfl (.inr rfl)) (pgs_cons (pg_name (i := 4) scLNames.nd rfl (.inr rfl)) pgs_nil))))
      (pss_cons (ps_set (i := 5) scLNames.nd rfl (.inl rfl) (pe_lst (pa_cons (pe_tup (pa_cons pe_str (pa_cons pe_str pa_nil))) (pa_cons (pe_tup (pa_cons pe_str (pa_cons pe_str pa_nil))) (pa_cons (pe_tup (pa_cons pe_str (pa_cons pe_str pa_nil)))
          (pa_cons (pe_tup (pa_cons pe_str (pa_cons pe_str pa_nil))) (pa_cons (pe_tup (pa_cons pe_str (pa_cons pe_str pa_nil))) pa_nil)))))))
      (pss_cons (ps_asg (pe_call GP hr (by rfl) gP FP.kp bP .nil pass0 (pa_cons (pv 0) (pa_cons (pv 5) pa_nil)))
          (pg_tup (by rfl) (pgs_cons (pg_name (i := 6) scLNames.nd rfl (.inr rfl)) (pgs_cons (pg_name (i := 7) scLNames.nd rfl (.inr rfl)) pgs_nil))))
      (pss_one (ps_ret (pe_lc (own := [("_law_k", 8)]) (g := gName 8) (by rfl) scLNames.nd (pi_range1 (by rfl) M.range (pa_cons (pv 1) pa_nil)) (blkOk_by (own := [("_law_k", 8)]) (N := ["_law_pool_here", "_law_count", "_law_signs", "_law_origin", "_law_step", "_law_ends", "_law_head", "_law_tail", "_law_k"]) (sc := defScope sLNames) (by decide +kernel))
          (fun _ _ _ _ _ => pg_name (i := 8) scLNames.nd rfl (Or.inl rfl)) (fun _ _ _ _ _ => pts_nil)
          (fun _ _ _ _ _ => pe_op op_add_str (pe_op op_add_str (pv 6) (pe_ix ix_str (pv 2) (pe_op op_mod (pe_callTy call_int1 (by rfl) M.int (by decide +kernel) (pa_cons (pe_op op_add (pv 3) (pe_op op_mul (pv 4) (pv 8))) pa_nil)) pe_int) (fun _ _ => rfl))) (pv 7)))))))), ?_⟩
    refine q_c (i := 2) (v := .str "abcdefghijklmnopqrstuvwxyz") ?_
    dsimp only [List.set]
    refine ⟨.ref p, rfl, p, 26, rfl, hp, by omega, by omega, fun o H1 o0 o1 b1 hp1 fr1 => ?_⟩
    refine ⟨.ref p, rfl, p, 6, rfl, hp1, by omega, by omega, fun z H2 z0 z1 b2 hp2 fr2 => ?_⟩
    refine ⟨_, _, rfl, rfl, .inl ⟨by decide, by decide⟩, _, _, rfl, rfl, (by show 2 ≤ sizeLine; decide), fun t nt => ?_⟩
    refine ⟨t, _, rfl, .inl (.inl upd_same), rfl, _, _, rfl, _, _, rfl, rfl, ?_⟩
    have st : Same H2 (upd H2 t (.tup [.int o, .int (1 + 2 * z)])) := same_upd nt
    have b3 := but_sameN (b1.trans b2) st
    have hp3 := hp2.same st
    generalize upd H2 t (.tup [.int o, .int (1 + 2 * z)]) = H3 at b3 hp3
    refine ⟨(by show 2 ≤ sizeLine; decide), fun t1 m1 => ⟨(by show 2 ≤ sizeLine; decide), fun t2 m2 => ⟨(by show 2 ≤ sizeLine; decide), fun t3 m3 => ⟨(by show 2 ≤ sizeLine; decide), fun t4 m4 => ⟨(by show 2 ≤ sizeLine; decide), fun t5 m5 => ⟨(by show 5 ≤ sizeLine; decide), fun l ml => ?_⟩⟩⟩⟩⟩⟩
    have k2 := same_upd (o := .tup [.str "", .str "q"]) m2
    have k3 := same_upd (o := .tup [.str "ab", .str ""]) m3
    have k4 := same_upd (o := .tup [.str "abcdefg", .str ""]) m4
    have k5 := same_upd (o := .tup [.str "", .str "abcdefg"]) m5
    have k1 := same_upd (o := .tup [.str "", .str ""]) m1
    have kl := same_upd (o := .lst [.ref t1, .ref t2, .ref t3, .ref t4, .ref t5]) ml
    have two : ∀ (H : Hp) (a b : Str), DpAll K H [.str a, .str b] [.str a, .str b] := fun H a b => .cons (.str a) (.cons (.str b) .nil)
    have hA : DpAll K _ [.ref t1, .ref t2, .ref t3, .ref t4, .ref t5] endsD := dpA_same kl (.cons (dp_same (k2.trans (k3.trans (k4.trans k5))) (dpT m1 (two _ _ _))) (.cons (dp_same (k3.trans (k4.trans k5)) (dpT m2 (two _ _ _))) (.cons (dp_same (k4.trans k5) (dpT m3 (two _ _ _))) (.cons (dp_same k5 (dpT m4 (two _ _ _))) (.cons (dpT m5 (two _ _ _)) .nil)))))
    have s4 := k1.trans (k2.trans (k3.trans (k4.trans (k5.trans kl))))
    have el : (upd (upd (upd (upd (upd (upd H3 t1 (.tup [.str "", .str ""])) t2 (.tup [.str "", .str "q"])) t3 (.tup [.str "ab", .str ""])) t4 (.tup [.str "abcdefg", .str ""])) t5 (.tup [.str "", .str "abcdefg"])) l (.lst [.ref t1, .ref t2, .ref t3, .ref t4, .ref t5])) l = some (.lst [.ref t1, .ref t2, .ref t3, .ref t4, .ref t5]) := upd_same
    have npl : p ≠ l := (((((hp3.upd m1).upd m2).upd m3).upd m4).upd m5).ne ml
    generalize upd (upd (upd (upd (upd (upd H3 t1 (.tup [.str "", .str ""])) t2 (.tup [.str "", .str "q"])) t3 (.tup [.str "ab", .str ""])) t4 (.tup [.str "abcdefg", .str ""])) t5 (.tup [.str "", .str "abcdefg"])) l (.lst [.ref t1, .ref t2, .ref t3, .ref t4, .ref t5]) = H4 at hA s4 el
    have b4 := but_sameN b3 s4
    have hp4 := hp3.same s4
    refine ⟨.ref p, rfl, .ref l, rfl, p, l, _, rfl, hp4, npl, .inl (.inl (.inl el)), Nat.le_of_ble_eq_true rfl, Nat.le_of_ble_eq_true rfl, fun i hi H5 b5 hp5 fr5 => ?_⟩
    obtain ⟨de, hde, dv⟩ := dpA_at hA (List.getElem?_eq_getElem hi)
    obtain ⟨h, tl, rfl, lowh, lowt, hlen, hlen2, hzz, hz8⟩ := ends_are hde
    generalize [V.ref t1, .ref t2, .ref t3, .ref t4, .ref t5][i] = vv at dv
    cases dv with
    | @tup a ys _ hs ha =>
      cases ha with
      | cons h1 h2 =>
        cases h1
        cases h2 with
        | cons h3 h4 =>
          cases h3
          cases h4
          obtain ⟨px, py, pe, _⟩ := hp4
          refine ⟨a, _, rfl, but_sqT pe b5 hs, rfl, _, _, rfl, _, _, rfl, rfl, ?_⟩
          refine ⟨_, rfl, (cn : Int), rfl, by omega, by omega, fun D hD => ?_⟩
          refine walk_gen (walk_range (lo := 0) (n := (cn : Int).toNat)) (fun i H' => Same H5 H' ∧ ∃ zs : List Str, H' D = some (.lst (zs.map V.str)) ∧ zs.length = i ∧ (∀ z ∈ zs, isName (.str z) = true) ∧ ∀ (m : Nat) (u : Str), zs[m]? = some u → u = h ++ (⟨#[97 + ((o + (1 + 2 * z) * (m : Int)) % 26).toNat]⟩ : Str) ++ tl) ⟨same_upd hD, [], upd_same, rfl, (fun z h => by cases h), fun m u e => by simp at e⟩ (fun _ _ _ _ => True.intro) (fun i' x H6 H7 hi' pv' y => ?_) (fun H' pv' => ?_)
          · obtain ⟨s6, zs, e6, l6, a6, f6⟩ := pv'
            obtain ⟨rfl, rfl⟩ := y
            refine And.intro rfl ?_
            unfold tYes
            refine iteT ?_
            generalize hv : (o + (1 + 2 * z) * (0 + (i' : Int))) = vv
            have h1 := Int.emod_lt_of_pos vv (show (0 : Int) < 26 by decide)
            have h2 := Int.emod_nonneg vv (show (26 : Int) ≠ 0 by decide)
            obtain ⟨c, hc, lc, c97⟩ := low_at (vv % 26).toNat (by omega)
            have hat : atI (Str.ofString "abcdefghijklmnopqrstuvwxyz").cps.toList (vv % 26) = some c := by
              unfold atI ixN
              rw [if_pos h2, if_pos (show vv % 26 < (((Str.ofString "abcdefghijklmnopqrstuvwxyz").cps.toList.length : Nat) : Int) from h1)]
              exact hc
            refine ⟨_, rfl, _, rfl, _, rfl, _, rfl, _, rfl, _, _, rfl, rfl, .inl ⟨by omega, by omega⟩, _, _, rfl, rfl, .inl ⟨_, rfl, _, _, rfl, rfl, (by show (0 : Int) < 26; decide), ?_⟩⟩
            rw [hv]
            have hl1 : h.length + (⟨#[c]⟩ : Str).length ≤ sizeLine := Nat.le_trans (show h.length + 1 ≤ 8 by omega) (by decide)
            have hl2 : (h ++ (⟨#[c]⟩ : Str)).length + tl.length ≤ sizeLine := by
              have e2 : (h ++ (⟨#[c]⟩ : Str)).length = h.length + 1 := by
                show (h.cps ++ #[c]).size = h.cps.size + 1
                rw [Array.size_append]
                rfl
              rw [e2]
              exact Nat.le_trans (show h.length + 1 + tl.length ≤ 8 by omega) (by decide)
            refine ⟨_, _, c, rfl, rfl, (by decide +kernel), hat, _, _, rfl, rfl, hl1, _, rfl, _, _, rfl, rfl, hl2, zs.map V.str, e6, ?_, fun b o' e' => ?_, zs ++ [h ++ (⟨#[c]⟩ : Str) ++ tl], ?_, ?_, (fun u hu => ?_), fun m u em => ?_⟩
            · rw [List.length_map, l6]
              exact Nat.lt_of_le_of_lt (show i' ≤ 8 by omega) (by decide)
            · rw [upd_ne (ne_of_none e' hD)]
              exact s6 _ _ e'
            · rw [upd_same, List.map_append]
              rfl
            · rw [List.length_append, l6]
              rfl
            · rcases List.mem_append.mp hu with hu | hu
              · exact a6 u hu
              · rw [List.mem_singleton.mp hu]
                exact name_of lowh lowt lc hlen
            · by_cases hm : m < zs.length
              · rw [List.getElem?_append_left hm] at em
                exact f6 m u em
              · have hm2 : m = zs.length := by
                  have := (List.getElem?_eq_some_iff.mp em).1
                  rw [List.length_append] at this
                  simp at this
                  omega
                rw [hm2, List.getElem?_append_right (Nat.le_refl _), Nat.sub_self] at em
                have e2 := Option.some.inj em
                subst e2
                rw [hm2, l6, c97]
                rw [Int.zero_add] at hv
                rw [hv]
          · obtain ⟨s6, zs, e6, l6, a6, f6⟩ := pv'
            exact q D zs H' (but_sameN (b4.trans b5) s6) (hp5.same s6) e6 (by rw [l6]; rfl) a6 (signs_nodup z0 z1 (by omega) f6) (fun u hu => by
              obtain ⟨m, em⟩ := List.getElem?_of_mem hu
              rw [f6 m u em]
              exact ⟨by rw [len_of]; omega, not_zz hzz, not_z8 hz8⟩)
end
/-! ### the law's terms, drawn over any drawn book -/
/-- what a drawn book tells: cells with their kinds, functions with their numbers of arguments -/
structure LB where
  cells : List (Str × Str)
  fns : List (Str × Nat)
structure LOk (L : LB) : Prop where
  c : ∀ x ∈ L.cells, isName (.str x.1) = true ∧ x.2 ∈ (["frozen", "setting", "table"] : List Str)
  f : ∀ x ∈ L.fns, isName (.str x.1) = true ∧ x.2 ≤ 2
  lc : L.cells.length ≤ 8
  lf : L.fns.length ≤ 8
/-- a term over this book, of so many arguments -/
inductive GdL (L : LB) (n : Int) : Nat → PyData → Prop
  | val {f : Nat} {i : Int} : 0 ≤ i → i < 3 → GdL L n (f + 1) (.int i)
  | arg {f : Nat} {i : Int} : 0 ≤ i → i < n → GdL L n (f + 1) (.tuple [.str "arg", .int i])
  | cell {f : Nat} {x k : Str} : (x, k) ∈ L.cells → GdL L n (f + 1) (.tuple [.str "cell", .str x])
  | tick {f : Nat} : GdL L n (f + 1) (.tuple [.str "tick"])
  | call {f : Nat} {x : Str} {ts : List PyData} : (x, ts.length) ∈ L.fns → (∀ t ∈ ts, GdL L n f t) → GdL L n (f + 1) (.tuple [.str "call", .str x, .tuple ts])
  | op {f : Nat} {z : Str} {ts : List PyData} : (z = "if" ∧ ts.length = 3) ∨ (bin z ∧ ts.length = 2) → (∀ t ∈ ts, GdL L n f t) → GdL L n (f + 1) (.tuple (.str z :: ts))
theorem gdl_gd {L : LB} (o : LOk L) {n : Int} : ∀ (f : Nat) (d : PyData), GdL L n f d → Gd n f d
  | 0, _, h => nomatch h
  | f + 1, d, h => by
    cases h with
    | val a b => exact .val a b
    | arg a b => exact .arg a b
    | cell a => exact .cell (o.c _ a).1
    | tick => exact .tick
    | call a c => exact .call (o.f _ a).1 (o.f _ a).2 fun t ht => gdl_gd o f t (c t ht)
    | op a c => exact .op a fun t ht => gdl_gd o f t (c t ht)
theorem gdl_mono {L : LB} {n : Int} : ∀ (f f' : Nat) (d : PyData), GdL L n f d → f ≤ f' → GdL L n f' d
  | 0, _, _, h, _ => nomatch h
  | f + 1, 0, _, _, h => absurd h (Nat.not_succ_le_zero f)
  | f + 1, f' + 1, d, h, hf => by
    cases h with
    | val a b => exact .val a b
    | arg a b => exact .arg a b
    | cell a => exact .cell a
    | tick => exact .tick
    | call a c => exact .call a fun t ht => gdl_mono f f' t (c t ht) (by omega)
    | op a c => exact .op a fun t ht => gdl_mono f f' t (c t ht) (by omega)
theorem q_seqR {ta tz : TS} {D : Ends} {σ : L2.St} {H : Hp} (Pr : L2.St → Hp → Prop) (h : ∀ nx, (∀ σ' H', Pr σ' H' → nx σ' H') → ta { D with nx := nx } σ H) (k : ∀ σ' H', Pr σ' H' → tz D σ' H') : tSeq ta tz D σ H := h _ k
abbrev sLTerm : Stmt := topS 69
theorem scLTerm : FnScope ["_law_pool_here", "_law_b", "_law_many", "_law_deep", "_law_kind", "_law_f", "_law_head", "_law_at"] ["_law_pool_here", "_law_b", "_law_many", "_law_deep"] (defScope sLTerm) := ⟨rfl, rfl, rfl, by decide +kernel, rfl, by decide +kernel, by decide +kernel⟩
def rNeLen (K : PySem.W.Frag) : R2 := fun x y H Q => ∃ a b xs ys, x = .ref a ∧ y = .ref b ∧ SqL K H a xs ∧ SqL K H b ys ∧ xs.length ≠ ys.length ∧ Q (.bl true) H
theorem op_neLen {X : Cx} (few : X.A.units + 64 < cLine) : OpR X (compareOp .NotEq) (rNeLen X.K) := by
  rintro pins st σ H one other v1 v2 Q inv rel1 rel2 ⟨a1, a2, l1, l2, rfl, rfl, s1, s2, unlike, goal⟩
  obtain rfl : v1 = Value.ref a1 := rel1
  obtain rfl : v2 = Value.ref a2 := rel2
  have f1 := inv.list s1
  have f2 := inv.list s2
  rcases f1 with ⟨w1, vals1, is1, -⟩
  rcases f2 with ⟨w2, vals2, is2, -⟩
  have sizes : (w1.toArray.size != w2.toArray.size) = true := by
    have n1 : w1.toArray.size = l1.length := List.size_toArray.trans vals1.length.symm
    have n2 : w2.toArray.size = l2.length := List.size_toArray.trans vals2.length.symm
    rw [n1, n2]
    simpa using unlike
  exact SeqAt.RcNeAt.lists_lengths is1.isList is2.isList sizes (by omega) _ _ _ _ ⟨V.bl true, H, inv, rfl, goal⟩
theorem in_twoI (k a b : Int) : inV (.int k) [.int a, .int b] = decide (k = a ∨ k = b) := by
  show ((a == k) || ((b == k) || false)) = _
  rw [Bool.or_false, Bool.eq_iff_iff, Bool.or_eq_true, decide_eq_true_eq, beq_iff_eq, beq_iff_eq]
  exact ⟨fun h => h.imp Eq.symm Eq.symm, fun h => h.imp Eq.symm Eq.symm⟩
def CellT (K : PySem.W.Frag) (H : Hp) (v : V) (x : Str × Str) : Prop := ∃ t, v = .ref t ∧ SqT K H t [.str x.1, .str x.2]
def FnD (H : Hp) (v : V) (x : Str × Nat) : Prop := ∃ g kvs, v = .ref g ∧ H g = some (.dK kvs) ∧ valV kvs (.inr "name" : Key) = some (.str x.1) ∧ valV kvs (.inr "many" : Key) = some (.int (x.2 : Nat))
def Rows {α : Type} (R : V → α → Prop) (xs : List V) (cs : List α) : Prop := xs.length = cs.length ∧ ∀ (i : Nat) x c, xs[i]? = some x → cs[i]? = some c → R x c
theorem Rows.mono {α : Type} {R R' : V → α → Prop} {xs : List V} {cs : List α} (h : Rows R xs cs) (k : ∀ x c, R x c → R' x c) : Rows R' xs cs := ⟨h.1, fun i x c a b => k x c (h.2 i x c a b)⟩
theorem Rows.at {α : Type} {R : V → α → Prop} {xs : List V} {cs : List α} (h : Rows R xs cs) {i : Nat} (hi : i < xs.length) : ∃ c, c ∈ cs ∧ R xs[i] c := by
  have hj : i < cs.length := h.1 ▸ hi
  exact ⟨cs[i], List.getElem_mem hj, h.2 i _ _ (List.getElem?_eq_getElem hi) (List.getElem?_eq_getElem hj)⟩
/-- the drawn book stands at b -/
def LBk (K : PySem.W.Frag) (L : LB) (H : Hp) (b : Addr) : Prop := ∃ c f ts gs, H b = some (.dK [(.inr "cells", .ref c), (.inr "functions", .ref f)]) ∧ H c = some (.lst ts) ∧ H f = some (.lst gs) ∧ Rows (CellT K H) ts L.cells ∧ Rows (FnD H) gs L.fns
theorem LBk.but {K : PySem.W.Frag} {L : LB} {H H' : Hp} {b p : Addr} (h : LBk K L H b) (hp : PoolAt H p) (bt : But p H H') : LBk K L H' b := by
  obtain ⟨c, f, ts, gs, e0, e1, e4, r1, r2⟩ := h
  obtain ⟨x, y, ep, _⟩ := hp
  have nc : c ≠ p := fun q => by
    rw [q, ep] at e1
    cases e1
    obtain ⟨d, _, t, e, _⟩ := r1.at (i := 0) (by show 0 < 2; decide)
    cases e
  have nf : f ≠ p := fun q => by
    rw [q, ep] at e4
    cases e4
    obtain ⟨d, _, t, _, e, _⟩ := r2.at (i := 0) (by show 0 < 2; decide)
    cases e
  refine ⟨c, f, ts, gs, bt _ _ e0 (ne_of e0 ep (fun z => nomatch z)), bt _ _ e1 nc, bt _ _ e4 nf, r1.mono fun v d h => ?_, r2.mono fun v d h => ?_⟩
  · obtain ⟨t, e, h⟩ := h
    exact ⟨t, e, but_sqT ep bt h⟩
  · obtain ⟨g, kvs, e, h, h1, h2⟩ := h
    exact ⟨g, kvs, e, bt _ _ h (ne_of h ep (fun z => nomatch z)), h1, h2⟩
theorem dg {H : Hp} {r : Addr} {kv : List (Key × V)} (e : H r = some (.dK kv)) (z : Str) {v : V} (h : valV kv (.inr z) = some v) : DGet H r (.str z) (some v) := .inl ⟨kv, .inr z, .inl e, rfl, h.symm⟩
/-- the cells as data -/
def cellsD (L : LB) : List PyData := L.cells.map fun x => .tuple [.str x.1, .str x.2]
theorem cells_dp {K : PySem.W.Frag} {H : Hp} : ∀ {ts : List V} {cs : List (Str × Str)}, Rows (CellT K H) ts cs → DpAll K H ts (cs.map fun x => .tuple [.str x.1, .str x.2])
  | [], [], _ => .nil
  | [], _ :: _, h => absurd h.1 (by simp)
  | _ :: _, [], h => absurd h.1 (by simp)
  | v :: ts, x :: cs, h => by
    obtain ⟨t, rfl, ht⟩ := h.2 0 v x rfl rfl
    exact .cons (.tup ht (.cons (.str _) (.cons (.str _) .nil))) (cells_dp ⟨Nat.succ.inj h.1, fun i y d e1 e2 => h.2 (i + 1) y d e1 e2⟩)
theorem cells_shaped {L : LB} (o : LOk L) : SeqAt.shaped (.list (cellsD L)) = true := by
  have one : ∀ d ∈ cellsD L, d.canLay0 = true ∧ d.depth ≤ 1 := fun d hd => by
    obtain ⟨x, hx, rfl⟩ := List.mem_map.mp hd
    obtain ⟨h1, h2⟩ := o.c x hx
    have k : PyData.strOk x.2 = true := by
      simp only [List.mem_cons, List.not_mem_nil, or_false] at h2
      rcases h2 with e | e | e <;> rw [e] <;> decide +kernel
    refine ⟨?_, ?_⟩
    · show (PyData.strOk x.1 && (PyData.strOk x.2 && true)) = true
      rw [name_ok h1, k]
      rfl
    · show max 0 (max 0 0) + 1 ≤ 1
      decide
  refine Bool.and_eq_true_iff.mpr ⟨canLay_of fun t h => (one t h).1, decide_eq_true ?_⟩
  show PyData.depthAll (cellsD L) + 1 ≤ 64
  have := depth_of (m := 1) (ts := cellsD L) fun t h => (one t h).2
  omega
/-- != against an empty list -/
def rNeNil (K : PySem.W.Frag) : R2 := fun x y H Q => ∃ a b xs, x = .ref a ∧ y = .ref b ∧ SqL K H a xs ∧ SqL K H b [] ∧ Q (.bl (!xs.isEmpty)) H
theorem op_neNil {X : Cx} (few : X.A.units + 64 < cLine) : OpR X (compareOp .NotEq) (rNeNil X.K) := by
  intro pins st σ H one other v1 v2 Q inv rel1 rel2 h
  obtain ⟨a1, a2, l1, rfl, rfl, s1, s2, goal⟩ := h
  cases l1 with
  | nil => exact op_neD few pins st σ H _ _ v1 v2 Q inv rel1 rel2 ⟨.list [], .list [], .lst s1 .nil, .lst s2 .nil, by decide +kernel, by decide +kernel, by rw [show PyData.eqv (.list []) (.list []) = true from SeqAt.eqv_refl _ (by decide +kernel)]; exact goal⟩
  | cons x r => exact op_neLen few pins st σ H _ _ v1 v2 Q inv rel1 rel2 ⟨a1, a2, x :: r, [], rfl, rfl, s1, s2, by simp, goal⟩
/-- a comprehension of terms drawn -/
theorem lc_terms {K : PySem.W.Frag} {p : Addr} {L : LB} (ok : LOk L) {n : Int} {f : Nat} {J : It} {cnt : Nat} {Y : Nat → Hp → V → Hp → Prop} (w : Walk J cnt (fun _ => True) Y) {j : Nat} {te : TE} {vs : List Nat} {σ : L2.St} {H1 : Hp} {D : Addr} {Qd : Hp → Prop} (hz : cnt ≤ 1000)
    (hD : H1 D = none) (hp : PoolAt H1 p) (hw : ∀ x, wipe ((wipe σ vs).set j (some x)) vs = wipe σ vs)
    (he : ∀ i x H H', i < cnt → But p H1 H → PoolAt H p → Y i H x H' → H' = H ∧ ∀ Q : VK, (∀ v d H2, But p H H2 → PoolAt H2 p → Dp K H2 v d → GdL L n f d → Q v H2) → te ((wipe σ vs).set j (some x)) H Q)
    (hd : ∀ ys ts H, But p H1 H → PoolAt H p → H D = some (.lst ys) → DpAll K H ys ts → ts.length = cnt → (∀ t ∈ ts, GdL L n f t) → Qd H)  :
    Turns J (upd H1 D (.lst [])) Qd (LcBody D te vs j σ) := by
  have npD : D ≠ p := (hp.ne hD).symm
  refine lc_it w (fun i H => But p H1 H ∧ PoolAt H p ∧ ∃ ys ts, H D = some (.lst ys) ∧ DpAll K H ys ts ∧ ts.length = i ∧ ∀ t ∈ ts, GdL L n f t) ⟨But.of (same_upd hD), hp.upd hD, [], [], upd_same, .nil, rfl, fun v e => by cases e⟩ (fun i H _ p => True.intro) (fun i x H H' hi q y => ?_) (fun H q => ?_)
  · obtain ⟨s1, h1, ys, ts, e1, ea, el, er⟩ := q
    obtain ⟨rfl, k⟩ := he i x H H' hi s1 h1 y
    refine And.intro (hw x) ?_
    unfold tYes
    refine iteT ?_
    refine k _ fun v d H2 s3 h3 dv gd => ⟨ys, s3 _ _ e1 npD, ?_, fun b o e nb => ?_, ?_, ys ++ [v], ts ++ [d], upd_same, ?_, ?_, fun u hu => ?_⟩
    · exact Nat.lt_of_le_of_lt (show ys.length ≤ 1000 by rw [dpA_len ea]; omega) (by decide)
    · have hb : b ≠ D := ne_of_none e hD
      rw [upd_ne hb]
      exact s3 _ _ (s1 _ _ e nb) nb
    · obtain ⟨x, y, e, r⟩ := h3
      exact ⟨x, y, by rw [upd_ne npD.symm]; exact e, r⟩
    · have nl : noLs ts = true := noLs_of fun t ht => gd_nl f t (gdl_gd ok f t (er t ht))
      have e2 := s3 _ _ e1 npD
      obtain ⟨px, py, pe, _⟩ := h1
      have a1 : DpAll K H2 ys ts := dpAll_tups (fun _ _ => but_sqT pe s3) ts ys nl ea
      exact dpA_app (dpAll_tups (fun _ _ => but_sqT e2 But.upd) ts ys nl a1) (.cons (dp_tups (fun _ _ => but_sqT e2 But.upd) d v (gd_nl f d (gdl_gd ok f d gd)) dv) .nil)
    · rw [List.length_append, el]
      rfl
    · rcases List.mem_append.mp hu with hu | hu
      · exact er u hu
      · rw [List.mem_singleton.mp hu]
        exact gd
  · obtain ⟨s1, h1, ys, ts, e1, ea, el, er⟩ := q
    exact hd ys ts H s1 h1 e1 ea el er
def spLTerm (K : PySem.W.Frag) (m : Nat) : Sp := fun vs H Q _ => ∃ (L : LB) (p b : Addr) (n : Int) (deep : Nat), LOk L ∧ vs = [.ref p, .ref b, .int n, .int deep] ∧ PoolAt H p ∧ LBk K L H b ∧ 0 ≤ n ∧ n ≤ 2 ∧ deep < m ∧
  ∀ v d H', But p H H' → PoolAt H' p → Dp K H' v d → GdL L n (deep + 1) d → Q v H'
section
variable {P : Program} {w : World} {K : PySem.W.Frag} {mg : Str → Option Value} {base : Heap}
theorem ok_lterm {f fD fP : Addr} {fd dD dP : FuncData} (F : Fun K "_law_term" "_law_term" sLTerm f fd) (M : Blt mg) (bF : Binds K fd ["_law_pool_here", "_law_b", "_law_many", "_law_deep"] []) (gF : mg "_law_term" = some (.ref f))
    (FD : Fun K "_law_draw" "_law_draw" sDraw fD dD) (bD : Binds K dD ["_law_pool_here", "_law_many"] []) (gD : mg "_law_draw" = some (.ref fD))
    (FP : Fun K "_law_pick" "_law_pick" sPick fP dP) (bP : Binds K dP ["_law_pool_here", "_law_row"] []) (gP : mg "_law_pick" = some (.ref fP)) :
    ∀ m : Nat, FnOk P w K mg base CX0 (m + 3) f fd ["_law_pool_here", "_law_b", "_law_many", "_law_deep"] (spLTerm K m) := by
  have GD : FnOk P w K mg base CX0 1 fD dD ["_law_pool_here", "_law_many"] spDraw := ok_draw FD M
  have GP : FnOk P w K mg base CX0 2 fP dP ["_law_pool_here", "_law_row"] (spPick K) := ok_pick FP M FD bD gD
  intro m
  induction m with
  | zero =>
    refine F.ok scLTerm (fun vs H Q E h => ?_) (fun cdv A outer s H vs Q E hr h => ?_)
    · obtain ⟨L, p, b, n, deep, N, rfl, _⟩ := h
      rfl
    · obtain ⟨L, p, b, n, deep, N, rfl, _, _, _, _, h, _⟩ := h
      exact absurd h (Nat.not_lt_zero _)
  | succ m GT =>
    refine F.ok scLTerm (fun vs H Q E h => ?_) (fun cdv A outer s H vs Q E hr h => ?_)
    · obtain ⟨L, p, b, n, deep, N, rfl, _⟩ := h
      rfl
    · obtain ⟨L, p, b, n, deep, N, rfl, hp, hb, hn0, hn2, hdm, q⟩ := h
      have hr1 : Room 1 _ := hr.mono (by omega)
      have hr2 : Room 2 _ := hr.mono (by omega)
      have hu := hu_of hr
      refine ⟨_, pss_cons (ps_set (i := 4) scLTerm.nd rfl (.inl rfl) (pe_call GD hr1 (by rfl) gD FD.kp bD .nil pass0 (pa_cons (pv 0) (pa_cons (pe_ifExp (pt_cmpR op_gt (pv 3) pe_int (nomark _)) pe_int pe_int) pa_nil))))
        (pss_cons (ps_if (PW.pt (pw_or (pt_cmpR op_eq (pv 4) pe_int (nomark _)) (pw_or (PW.pt (pw_and (pt_cmpR op_eq (pv 4) pe_int (nomark _)) (pw_and1 (pt_cmpR op_eq (pv 2) pe_int (nomark _)))))
            (pw_or1 (PW.pt (pw_and (pt_cmpR op_in_seq (pv 4) (pe_lst (pa_cons pe_int (pa_cons pe_int pa_nil))) (by rfl)) (pw_and1 (pt_cmpR (op_eqD hr.units) (pe_dget hu (pv 1) pe_str (fun _ _ => rfl)) (pe_lst pa_nil) (nomark _)))))))))
            (pss_one (ps_ret (pe_call GD hr1 (by rfl) gD FD.kp bD .nil pass0 (pa_cons (pv 0) (pa_cons pe_int pa_nil))))) pss_nil)
        (pss_cons (ps_if (pt_cmpR op_eq (pv 4) pe_int (nomark _)) (pss_one (ps_ret (pe_tup (pa_cons pe_str (pa_cons (pe_call GD hr1 (by rfl) gD FD.kp bD .nil pass0 (pa_cons (pv 0) (pa_cons (pv 2) pa_nil))) pa_nil))))) pss_nil)
        (pss_cons (ps_if (PW.pt (pw_or (pt_cmpR op_eq (pv 4) pe_int (nomark _)) (pw_or1 (pt_cmpR op_eq (pv 4) pe_int (nomark _)))))
            (pss_one (ps_ret (pe_tup (pa_cons pe_str (pa_cons (pe_ix ix_tup (pe_call GP hr2 (by rfl) gP FP.kp bP .nil pass0 (pa_cons (pv 0) (pa_cons (pe_dget hu (pv 1) pe_str (fun _ _ => rfl)) pa_nil))) pe_int (fun _ _ => rfl)) pa_nil))))) pss_nil)
        (pss_cons (ps_if (pt_cmpR op_eq (pv 4) pe_int (nomark _))
            (pss_one (ps_ret (pe_ifExp (pt_cmpR op_eq (pe_call GD hr1 (by rfl) gD FD.kp bD .nil pass0 (pa_cons (pv 0) (pa_cons pe_int pa_nil))) pe_int (nomark _)) (pe_tup (pa_cons pe_str pa_nil)) (pe_call GD hr1 (by rfl) gD FD.kp bD .nil pass0 (pa_cons (pv 0) (pa_cons pe_int pa_nil)))))) pss_nil)
        (pss_cons (ps_if (PW.pt (pw_and (pt_cmpR op_eq (pv 4) pe_int (nomark _)) (pw_and1 (pt_cmpR (op_neNil hr.units) (pe_dget hu (pv 1) pe_str (fun _ _ => rfl)) (pe_lst pa_nil) (nomark _)))))
            (pss_cons (ps_set (i := 5) scLTerm.nd rfl (.inl rfl) (pe_call GP hr2 (by rfl) gP FP.kp bP .nil pass0 (pa_cons (pv 0) (pa_cons (pe_dget hu (pv 1) pe_str (fun _ _ => rfl)) pa_nil))))
            (pss_one (ps_ret (pe_tup (pa_cons pe_str (pa_cons (pe_dget hu (pv 5) pe_str (fun _ _ => rfl)) (pa_cons (pe_callTy call_tuple_of (by rfl) M.tuple (by decide +kernel) (pa_cons
              (pe_lc (own := [("_law_at", 7)]) (g := gName 7) (te := tCall (spLTerm K m) [] E0 (tCons (tVar 0) (tCons (tVar 1) (tCons (tVar 2) (tCons (tC (.int 0)) tNil))))) (by rfl) scLTerm.nd (pi_range1 (by rfl) M.range (pa_cons (pe_dget hu (pv 5) pe_str (fun _ _ => rfl)) pa_nil)) (blkOk_by (own := [("_law_at", 7)]) (N := ["_law_pool_here", "_law_b", "_law_many", "_law_deep", "_law_kind", "_law_f", "_law_head", "_law_at"]) (sc := defScope sLTerm) (by decide +kernel))
                (fun _ _ _ _ _ => pg_name (i := 7) scLTerm.nd rfl (Or.inl rfl)) (fun _ _ _ _ _ => pts_nil) (fun _ _ _ _ _ => pe_call GT hr (by rfl) gF F.kp bF .nil pass0 (pa_cons (pv 0) (pa_cons (pv 1) (pa_cons (pv 2) (pa_cons pe_int pa_nil)))))) pa_nil)) pa_nil))))))) pss_nil)
        (pss_cons (ps_if (pt_cmpR op_eq (pv 4) pe_int (nomark _))
            (pss_one (ps_ret (pe_op op_catT (pe_tup (pa_cons pe_str pa_nil)) (pe_callTy call_tuple_of (by rfl) M.tuple (by decide +kernel) (pa_cons
              (pe_lc (own := [("_law_at", 7)]) (g := gName 7) (te := tCall (spLTerm K m) [] E0 (tCons (tVar 0) (tCons (tVar 1) (tCons (tVar 2) (tCons (tOp (rI0 fun i j => .int (i - j)) (tVar 3) (tC (.int 1))) tNil))))) (by rfl) scLTerm.nd (pi_range1 (by rfl) M.range (pa_cons pe_int pa_nil)) (blkOk_by (own := [("_law_at", 7)]) (N := ["_law_pool_here", "_law_b", "_law_many", "_law_deep", "_law_kind", "_law_f", "_law_head", "_law_at"]) (sc := defScope sLTerm) (by decide +kernel))
                (fun _ _ _ _ _ => pg_name (i := 7) scLTerm.nd rfl (Or.inl rfl)) (fun _ _ _ _ _ => pts_nil) (fun _ _ _ _ _ => pe_call GT hr (by rfl) gF F.kp bF .nil pass0 (pa_cons (pv 0) (pa_cons (pv 1) (pa_cons (pv 2) (pa_cons (pe_op op_sub (pv 3) pe_int) pa_nil)))))) pa_nil))))) pss_nil)
        (pss_cons (ps_set (i := 6) scLTerm.nd rfl (.inl rfl) (pe_call GP hr2 (by rfl) gP FP.kp bP .nil pass0 (pa_cons (pv 0) (pa_cons (pe_lst (pa_cons pe_str (pa_cons pe_str (pa_cons pe_str pa_nil)))) pa_nil))))
        (pss_one (ps_ret (pe_tup (pa_cons (pv 6) (pa_cons (pe_call GT hr (by rfl) gF F.kp bF .nil pass0 (pa_cons (pv 0) (pa_cons (pv 1) (pa_cons (pv 2) (pa_cons (pe_op op_sub (pv 3) pe_int) pa_nil)))))
            (pa_cons (pe_call GT hr (by rfl) gF F.kp bF .nil pass0 (pa_cons (pv 0) (pa_cons (pv 1) (pa_cons (pv 2) (pa_cons (pe_op op_sub (pv 3) pe_int) pa_nil))))) pa_nil))))))))))))), ?_⟩
      refine q_asgP (Pr := fun v H1 => ∃ k : Int, v = .int k ∧ 0 ≤ k ∧ k < 9 ∧ (4 ≤ k → 0 < deep) ∧ But p H H1 ∧ PoolAt H1 p) (fun Q' hq => ?_) (fun v H1 hv => ?_)
      · refine ⟨.ref p, rfl, _, rfl, _, _, rfl, rfl, _, rfl, ite2 (fun e => ?_) (fun e => ?_)⟩
        · refine ⟨p, 9, rfl, hp, by omega, by omega, fun k H1 k0 k9 b1 hp1 fr => hq _ _ ⟨k, rfl, k0, k9, fun _ => ?_, b1, hp1⟩⟩
          have := of_decide_eq_true e
          omega
        · exact ⟨p, 4, rfl, hp, by omega, by omega, fun k H1 k0 k9 b1 hp1 fr => hq _ _ ⟨k, rfl, k0, by omega, fun _ => by omega, b1, hp1⟩⟩
      · obtain ⟨k, rfl, k0, k9, k4, b1, hp1⟩ := hv
        have leaf : ∀ (H2 : Hp) (Q2 : VK), But p H H2 → PoolAt H2 p → (∀ v H', Q v H' → Q2 v H') → ∃ (p' : Addr) (n' : Int), [V.ref p, V.int 3] = [.ref p', .int n'] ∧ PoolAt H2 p' ∧ 0 < n' ∧ n' ≤ 1000000000 ∧ ∀ (v : Int) H', 0 ≤ v → v < n' → But p' H2 H' → PoolAt H' p' → (∀ b, H2 b = none → H' b = none) → Q2 (.int v) H' :=
          fun H2 Q2 b2 hp2 hq => ⟨p, 3, rfl, hp2, by omega, by omega, fun z H3 z0 z3 b3 hp3 fr => hq _ _ (q _ (.int z) H3 (b2.trans b3) hp3 (.int z) (.val z0 z3))⟩
        refine q_seqR (fun σ' H' => σ' = [some (.ref p), some (.ref b), some (.int n), some (.int deep), some (.int k), none, none, none] ∧ But p H H' ∧ PoolAt H' p ∧ k ≠ 0 ∧ (k = 1 → n ≠ 0) ∧ ((k = 2 ∨ k = 8) → L.cells ≠ [])) (fun nx hnx => ?_) (fun σ' H2 hP => ?_)
        · refine ⟨_, rfl, rfl, _, rfl, ?_⟩
          rw [dint]
          by_cases h0 : k = 0
          · rw [decide_eq_true h0]
            exact iteT ⟨.ref p, rfl, leaf H1 _ b1 hp1 fun _ _ h => h⟩
          rw [decide_eq_false h0]
          refine iteF ⟨_, rfl, rfl, _, rfl, ?_⟩
          rw [dint]
          by_cases h1 : k = 1
          · rw [decide_eq_true h1]
            refine iteT ⟨_, rfl, rfl, _, rfl, ?_⟩
            rw [dint]
            by_cases hz : n = 0
            · rw [decide_eq_true hz]
              exact iteT ⟨.ref p, rfl, leaf H1 _ b1 hp1 fun _ _ h => h⟩
            · rw [decide_eq_false hz]
              refine iteF ⟨_, rfl, (by show 2 ≤ sizeLine; decide), fun l nl => ⟨l, _, rfl, .inl (.inl (.inl upd_same)), rfl, rfl, _, rfl, ?_⟩⟩
              rw [in_twoI, decide_eq_false (by omega)]
              exact iteF (iteF (hnx _ _ ⟨rfl, but_sameN b1 (same_upd nl), hp1.upd nl, h0, fun _ => hz, fun h => by omega⟩))
          · rw [decide_eq_false h1]
            refine iteF (iteF ⟨_, rfl, (by show 2 ≤ sizeLine; decide), fun l nl => ⟨l, _, rfl, .inl (.inl (.inl upd_same)), rfl, rfl, _, rfl, ?_⟩⟩)
            rw [in_twoI]
            by_cases h2 : k = 2 ∨ k = 8
            · rw [decide_eq_true h2]
              have b2 := but_sameN b1 (same_upd (o := .lst [.int 2, .int 8]) nl)
              have hp2 := hp1.upd (o := .lst [.int 2, .int 8]) nl
              obtain ⟨c, f', ts, gs, e0, e1, e4, r1, r2⟩ := hb.but hp b2
              refine iteT ⟨_, rfl, b, .ref c, rfl, dg e0 "cells" rfl, Nat.zero_le _, fun l2 nl2 => ?_⟩
              have s2 := same_upd (o := .lst []) nl2
              refine ⟨.list (cellsD L), .list [], .lst (.inl (.inl (s2 _ _ e1))) (dpA_same s2 (cells_dp r1)), .lst (.inl (.inl upd_same)) .nil, cells_shaped N, by decide +kernel, _, rfl, ?_⟩
              cases hcs : L.cells with
              | nil =>
                have ec : cellsD L = [] := by
                  unfold cellsD
                  rw [hcs]
                  rfl
                rw [ec, show PyData.eqv (.list []) (.list []) = true from SeqAt.eqv_refl _ (by decide +kernel)]
                exact iteT ⟨.ref p, rfl, leaf _ _ (but_sameN b2 s2) (hp2.upd nl2) fun _ _ h => h⟩
              | cons x r =>
                have ec : PyData.eqv (.list (cellsD L)) (.list []) = false := by
                  unfold cellsD
                  rw [hcs]
                  rfl
                rw [ec]
                exact iteF (hnx _ _ ⟨rfl, but_sameN b2 s2, hp2.upd nl2, h0, (fun h => absurd h h1), fun _ e => by rw [hcs] at e; cases e⟩)
            · rw [decide_eq_false h2]
              exact iteF (iteF (hnx _ _ ⟨rfl, but_sameN b1 (same_upd nl), hp1.upd nl, h0, (fun h => absurd h h1), fun h => absurd h h2⟩))
        · obtain ⟨rfl, b2, hp2, h0, hn1, hcell⟩ := hP
          clear b1 hp1
          have hb2 := hb.but hp b2
          refine ⟨_, rfl, rfl, _, rfl, ?_⟩
          rw [dint]
          by_cases h1 : k = 1
          · rw [decide_eq_true h1]
            refine iteT ⟨_, rfl, _, rfl, p, n, rfl, hp2, ?_, by omega, fun z H3 z0 zn b3 hp3 fr => ⟨(by show 2 ≤ sizeLine; decide), fun t nt => ?_⟩⟩
            · have := hn1 h1
              omega
            · exact q _ (.tuple [.str "arg", .int z]) _ (but_sameN (b2.trans b3) (same_upd nt)) (hp3.upd nt) (dpT nt (.cons (.str _) (.cons (.int _) .nil))) (.arg z0 zn)
          rw [decide_eq_false h1]
          refine iteF ⟨_, rfl, rfl, _, rfl, ?_⟩
          rw [dint]
          have cell : L.cells ≠ [] → ∀ (Q2 : VK), (∀ v d H', But p H H' → PoolAt H' p → Dp K H' v d → GdL L n (deep + 1) d → Q2 v H') → (tTup (tCons (tC (.str "cell")) (tCons (tOp (rIxT K) (tCall (spPick K) [] E0 (tCons (tVar 0) (tCons (tDGet (tVar 1) (tC (.str "cells"))) tNil))) (tC (.int 0))) tNil))) [some (.ref p), some (.ref b), some (.int n), some (.int deep), some (.int k), none, none, none] H2 Q2 := by
            intro hne Q2 hq
            obtain ⟨c, f', ts, gs, e0, e1, e4, r1, r2⟩ := hb2
            obtain ⟨x, y, ep, _⟩ := id hp2
            have l1 : 1 ≤ ts.length := by
              rw [r1.1]
              cases h : L.cells with
              | nil => exact absurd h hne
              | cons _ _ => simp
            have l8 : ts.length ≤ 8 := by rw [r1.1]; exact N.lc
            have npc : p ≠ c := fun q => by
              rw [← q, ep] at e1
              cases e1
              obtain ⟨d, _, t, e, _⟩ := r1.at (i := 0) (by show 0 < 2; decide)
              cases e
            refine ⟨_, rfl, _, rfl, b, .ref c, rfl, dg e0 "cells" rfl, p, c, ts, rfl, hp2, npc, .inl (.inl (.inl e1)), l1, Nat.le_trans l8 (by decide), fun i hi H3 b3 hp3 fr => ?_⟩
            obtain ⟨d, hd, t, et, ht⟩ := r1.at hi
            rw [et]
            exact ⟨t, _, 0, .str d.1, rfl, rfl, but_sqT ep b3 ht, atI_nat (j := 0) rfl, (by show 2 ≤ sizeLine; decide), fun l nl => hq _ (.tuple [.str "cell", .str d.1]) _ (but_sameN (b2.trans b3) (same_upd nl)) (hp3.upd nl) (dpT nl (.cons (.str _) (.cons (.str _) .nil))) (.cell (k := d.2) hd)⟩
          by_cases h2 : k = 2
          · rw [decide_eq_true h2]
            exact iteT (cell (hcell (.inl h2)) _ q)
          rw [decide_eq_false h2]
          refine iteF ⟨_, rfl, rfl, _, rfl, ?_⟩
          rw [dint]
          by_cases h8 : k = 8
          · rw [decide_eq_true h8]
            exact iteT (cell (hcell (.inr h8)) _ q)
          rw [decide_eq_false h8]
          refine iteF ⟨_, rfl, rfl, _, rfl, ?_⟩
          rw [dint]
          by_cases h3 : k = 3
          · rw [decide_eq_true h3]
            refine iteT ⟨_, rfl, p, 3, rfl, hp2, by omega, by omega, fun z H3 z0 z3 b3 hp3 fr => ⟨rfl, _, rfl, ite2 (fun _ => ⟨(by show 1 ≤ sizeLine; decide), fun t nt => ?_⟩) (fun _ => ⟨.ref p, rfl, leaf H3 _ (b2.trans b3) hp3 fun _ _ h => h⟩)⟩⟩
            exact q _ (.tuple [.str "tick"]) _ (but_sameN (b2.trans b3) (same_upd nt)) (hp3.upd nt) (dpT nt (.cons (.str _) .nil)) .tick
          rw [decide_eq_false h3]
          refine iteF ?_
          dsimp only [tNext]
          have dpos : 0 < deep := k4 (by omega)
          have dm : deep - 1 + 1 = deep := by omega
          have dcast : ((deep : Nat) : Int) - 1 = ((deep - 1 : Nat) : Int) := by omega
          have dargs : [V.ref p, V.ref b, V.int n, V.int (((deep : Nat) : Int) - 1)] = [V.ref p, V.ref b, V.int n, V.int ((deep - 1 : Nat) : Int)] := by rw [dcast]
          refine q_seqR (fun σ' H' => σ' = [some (.ref p), some (.ref b), some (.int n), some (.int deep), some (.int k), none, none, none] ∧ But p H H' ∧ PoolAt H' p ∧ LBk K L H' b) (fun nx hnx => ?_) (fun σ' H2 hP => ?_)
          · refine ⟨_, rfl, rfl, _, rfl, ?_⟩
            rw [dint]
            by_cases h4 : ¬ k = 4
            · rw [decide_eq_false h4]
              exact iteF (hnx _ _ ⟨rfl, b2, hp2, hb2⟩)
            rw [decide_eq_true (Decidable.not_not.mp h4)]
            have hb2' := hb2
            obtain ⟨c, f', ts, gs, e0, e1, e4, r1, r2⟩ := hb2
            refine iteT ⟨_, rfl, b, .ref f', rfl, dg e0 "functions" rfl, Nat.zero_le _, fun l nl => ?_⟩
            have sl : Same H2 (upd H2 l (.lst [])) := same_upd nl
            refine ⟨f', l, gs, rfl, rfl, .inl (.inl (sl _ _ e4)), .inl (.inl upd_same), _, rfl, ?_⟩
            cases hgs : gs with
            | nil => exact iteF (hnx _ _ ⟨rfl, but_sameN b2 sl, hp2.same sl, hb2'.but hp2 (But.of sl)⟩)
            | cons g0 gr =>
            refine iteT ?_
            have l1 : 1 ≤ gs.length := by rw [hgs]; simp
            have l8 : gs.length ≤ 8 := by rw [r2.1]; exact N.lf
            have b3 := but_sameN b2 sl
            have hp3 := hp2.same sl
            have npf : p ≠ f' := fun q => by
              obtain ⟨x, y, ep, _⟩ := hp2
              rw [← q, ep] at e4
              cases e4
              obtain ⟨d, _, t, _, e, _⟩ := r2.at (i := 0) (by show 0 < 2; decide)
              cases e
            have hb3 := hb2'.but hp2 (But.of sl)
            have r3 : Rows (FnD (upd H2 l (.lst []))) gs L.fns := r2.mono fun v d h => by
              obtain ⟨g, kvs, e, h, r⟩ := h
              exact ⟨g, kvs, e, sl _ _ h, r⟩
            generalize upd H2 l (.lst []) = H3 at sl b3 hp3 hb3 r3
            refine ⟨_, rfl, _, rfl, b, .ref f', rfl, dg (sl _ _ e0) "functions" rfl, p, f', gs, rfl, hp3, npf, .inl (.inl (.inl (sl _ _ e4))), l1, Nat.le_trans l8 (by decide), fun i hi H4 b4 hp4 fr => ?_⟩
            have hb4 := hb3.but hp3 b4
            obtain ⟨⟨nx, cnt⟩, hmem, g, kvs, eg, e3g, kn, km⟩ := r3.at hi
            have e4g : H4 g = some (.dK kvs) := by
              obtain ⟨x, y, ep, _⟩ := hp3
              exact b4 _ _ e3g (ne_of e3g ep (fun z => nomatch z))
            have hc := (N.f _ hmem).2
            dsimp only at hc kn km
            rw [eg]
            refine ⟨.ref g, rfl, g, .str nx, rfl, dg e4g "name" kn, .ref g, rfl, g, .int (cnt : Int), rfl, dg e4g "many" km, (cnt : Int), rfl, by omega, by omega, fun D hD => ?_⟩
            refine lc_terms (K := K) N (n := n) (f := 1) (vs := [7]) (j := 7) (D := D) (p := p) walk_range (by omega) hD hp4 (fun x => rfl)
              (fun i' x H5 H6 hi' b5 hp5 y => ⟨y.1, fun Q2 q2 => ⟨.ref p, rfl, .ref b, rfl, .int n, rfl, L, p, b, n, 0, N, rfl, hp5, hb4.but hp4 b5, hn0, hn2, by omega, fun v d H7 b7 hp7 dv gd => q2 v d H7 b7 hp7 dv gd⟩⟩)
              (fun ys ts H5 b5 hp5 e5' ha el hall => ⟨D, ys, rfl, .inl ⟨.inl (.inl e5'), fun t nt => ⟨(by show 3 ≤ sizeLine; decide), fun t2 nt2 => ?_⟩⟩⟩)
            refine q _ (.tuple [.str "call", .str nx, .tuple ts]) _ (but_sameN ((b3.trans b4).trans b5) ((same_upd nt).trans (same_upd nt2))) ((hp5.upd nt).upd nt2) (dpT nt2 (.cons (.str _) (.cons (.str _) (.cons (dpT nt ha) .nil)))) (.call (by rw [el, show ((cnt : Int)).toNat = cnt from rfl]; exact hmem) fun t ht => gdl_mono 1 deep t (hall t ht) dpos)
          clear b2 hp2 hb2
          obtain ⟨rfl, b2, hp2, hb2⟩ := hP
          refine ⟨_, rfl, rfl, _, rfl, ?_⟩
          rw [dint]
          by_cases h7 : k = 7
          · rw [decide_eq_true h7]
            refine iteT ⟨(by show 1 ≤ sizeLine; decide), fun t1 nt1 => ⟨3, rfl, by decide, by decide, fun D hD => ?_⟩⟩
            have s1 : Same H2 (upd H2 t1 (.tup [.str "if"])) := same_upd nt1
            have hp3 := hp2.upd (o := .tup [.str "if"]) nt1
            have et1 : SqT K (upd H2 t1 (.tup [.str "if"])) t1 [.str "if"] := .inl (.inl upd_same)
            refine lc_terms (K := K) N (n := n) (f := deep) (vs := [7]) (j := 7) (D := D) (p := p) (walk_range (n := 3)) (by decide) hD hp3 (fun x => rfl)
              (fun i' x H5 H6 hi' b5 hp5 y => ⟨y.1, fun Q2 q2 => ⟨.ref p, rfl, .ref b, rfl, .int n, rfl, .int deep, rfl, _, _, rfl, rfl, L, p, b, n, deep - 1, N, dargs, hp5, (hb2.but hp2 (But.of s1)).but hp3 b5, hn0, hn2, by omega, fun v d H7 b7 hp7 dv gd => q2 v d H7 b7 hp7 dv (by rw [dm] at gd; exact gd)⟩⟩)
              (fun ys ts H5 b5 hp5 e5' ha el hall => ⟨D, ys, rfl, .inl ⟨.inl (.inl e5'), fun t2 nt2 => ?_⟩⟩)
            have ely : ys.length = 3 := by rw [dpA_len ha, el]
            have et5 : SqT K H5 t1 [.str "if"] := by
              obtain ⟨x, y, ep, _⟩ := hp3
              exact but_sqT ep b5 et1
            refine ⟨t1, t2, [.str "if"], ys, rfl, rfl, same_sqT (same_upd nt2) et5, .inl (.inl upd_same), by simp, ?_, fun e => ?_, fun _ t3 nt3 => ?_⟩
            · rw [ely]
              decide
            · rw [e] at ely
              cases ely
            · exact q _ (.tuple (.str "if" :: ts)) _ (but_sameN ((but_sameN b2 s1).trans b5) ((same_upd nt2).trans (same_upd nt3))) ((hp5.upd nt2).upd nt3) (dpT nt3 (.cons (.str _) (dpA_same (same_upd nt2) ha))) (.op (.inl ⟨rfl, el⟩) hall)
          rw [decide_eq_false h7]
          refine iteF ?_
          refine ⟨.ref p, rfl, (by show 3 ≤ sizeLine; decide), fun l nl => ?_⟩
          refine ⟨p, l, _, rfl, hp2.upd nl, hp2.ne nl, .inl (.inl (.inl upd_same)), (by decide), (by decide), fun i hi H3 b3 hp3 fr => ?_⟩
          have sl : Same H2 (upd H2 l (.lst [.str "plus", .str "less", .str "same"])) := same_upd nl
          have hb3 := (hb2.but hp2 (But.of sl)).but (hp2.upd nl) b3
          have bb3 := (but_sameN b2 sl).trans b3
          obtain ⟨h, eh, hbin⟩ : ∃ h, [V.str "plus", .str "less", .str "same"][i] = .str h ∧ bin h := by
            match i, hi with
            | 0, _ => exact ⟨_, rfl, .inl rfl⟩
            | 1, _ => exact ⟨_, rfl, .inr (.inl rfl)⟩
            | 2, _ => exact ⟨_, rfl, .inr (.inr rfl)⟩
          rw [eh]
          refine ⟨.str h, rfl, .ref p, rfl, .ref b, rfl, .int n, rfl, .int deep, rfl, _, _, rfl, rfl, L, p, b, n, deep - 1, N, dargs, hp3, hb3, hn0, hn2, by omega, fun v1 d1 H4 b4 hp4 dv1 gd1 => ?_⟩
          rw [dm] at gd1
          refine ⟨.ref p, rfl, .ref b, rfl, .int n, rfl, .int deep, rfl, _, _, rfl, rfl, L, p, b, n, deep - 1, N, dargs, hp4, hb3.but hp3 b4, hn0, hn2, by omega, fun v2 d2 H5 b5 hp5 dv2 gd2 => ⟨(by show 3 ≤ sizeLine; decide), fun t nt => ?_⟩⟩
          rw [dm] at gd2
          refine q _ (.tuple [.str h, d1, d2]) _ (but_sameN ((bb3.trans b4).trans b5) (same_upd nt)) (hp5.upd nt) (dpT nt (.cons (.str _) (.cons (dp_but hp4 b5 (gd_nl _ _ (gdl_gd N _ _ gd1)) dv1) (.cons dv2 .nil)))) (.op (.inr ⟨hbin, rfl⟩) fun t ht => ?_)
          rcases List.mem_cons.mp ht with rfl | ht
          · exact gd1
          · rw [List.mem_singleton.mp ht]
            exact gd2
end
/-! ### the law's writes, drawn -/
def WrD (L : LB) (n : Int) (d : PyData) : Prop := d = .tuple [] ∨ ∃ z t, d = .tuple [.tuple [.str z, t]] ∧ (z, ("table" : Str)) ∈ L.cells ∧ GdL L n 2 t
abbrev sLW : Stmt := topS 70
theorem scLW : FnScope ["_law_pool_here", "_law_b", "_law_many", "_law_tables", "_law_cell"] ["_law_pool_here", "_law_b", "_law_many"] (defScope sLW) := ⟨rfl, rfl, rfl, by decide +kernel, rfl, by decide +kernel, by decide +kernel⟩
def tablesOf (cs : List (Str × Str)) : List Str := (cs.filter fun x => decide (x.2 = ("table" : Str))).map (·.1)
def spLW (K : PySem.W.Frag) : Sp := fun vs H Q _ => ∃ (L : LB) (p b : Addr) (n : Int), LOk L ∧ vs = [.ref p, .ref b, .int n] ∧ PoolAt H p ∧ LBk K L H b ∧ 0 ≤ n ∧ n ≤ 2 ∧
  ∀ v d H', But p H H' → PoolAt H' p → Dp K H' v d → WrD L n d → Q v H'
theorem strs_dp {K : PySem.W.Frag} {H : Hp} : ∀ zs : List Str, DpAll K H (zs.map V.str) (zs.map PyData.str)
  | [] => .nil
  | z :: zs => .cons (.str z) (strs_dp zs)
section
variable {P : Program} {w : World} {K : PySem.W.Frag} {mg : Str → Option Value} {base : Heap}
theorem ok_lw {f fD fP fT : Addr} {fd dD dP dT : FuncData} (F : Fun K "_law_writes" "_law_writes" sLW f fd) (M : Blt mg)
    (FD : Fun K "_law_draw" "_law_draw" sDraw fD dD) (bD : Binds K dD ["_law_pool_here", "_law_many"] []) (gD : mg "_law_draw" = some (.ref fD))
    (FP : Fun K "_law_pick" "_law_pick" sPick fP dP) (bP : Binds K dP ["_law_pool_here", "_law_row"] []) (gP : mg "_law_pick" = some (.ref fP))
    (FT : Fun K "_law_term" "_law_term" sLTerm fT dT) (bT : Binds K dT ["_law_pool_here", "_law_b", "_law_many", "_law_deep"] []) (gT : mg "_law_term" = some (.ref fT)) : FnOk P w K mg base CX0 6 f fd ["_law_pool_here", "_law_b", "_law_many"] (spLW K) := by
  have GD : FnOk P w K mg base CX0 1 fD dD ["_law_pool_here", "_law_many"] spDraw := ok_draw FD M
  have GP : FnOk P w K mg base CX0 2 fP dP ["_law_pool_here", "_law_row"] (spPick K) := ok_pick FP M FD bD gD
  have GT : FnOk P w K mg base CX0 5 fT dT ["_law_pool_here", "_law_b", "_law_many", "_law_deep"] (spLTerm K 2) := ok_lterm FT M bT gT FD bD gD FP bP gP 2
  refine F.ok scLW (fun vs H Q E h => ?_) (fun cdv A outer s H vs Q E hr h => ?_)
  · obtain ⟨L, p, b, n, _, rfl, _⟩ := h
    rfl
  · obtain ⟨L, p, b, n, o, rfl, hp, hb, n0, n2, q⟩ := h
    have hr1 : Room 1 (A.deeper (envOfC "_law_writes" (defScope sLW) s.heap.objs.size f cdv)) := hr.mono (by decide)
    have hr2 : Room 2 (A.deeper (envOfC "_law_writes" (defScope sLW) s.heap.objs.size f cdv)) := hr.mono (by decide)
    have hu := hu_of hr
    refine ⟨_, pss_cons (ps_setLc (i := 3) (own := [("_law_cell", 4)]) (g := gName 4) (wi := iList K (tDGet (tVar 1) (tC (.str "cells")))) (tt := tTest (tOp rEq (tOp (rIxT K) (tVar 4) (tC (.int 1))) (tC (.str "table")))) (te := tOp (rIxT K) (tVar 4) (tC (.int 0))) (by rfl) scLW.nd rfl rfl (sw_true rfl rfl rfl (by decide +kernel)) (pi_list (pe_dget hu (pv 1) pe_str (fun _ _ => rfl)))
          (blkOk_by (own := [("_law_cell", 4)]) (N := ["_law_pool_here", "_law_b", "_law_many", "_law_tables", "_law_cell"]) (sc := defScope sLW) (by decide +kernel)) (fun _ _ _ _ _ => pg_name (i := 4) scLW.nd rfl (Or.inl rfl)) (fun _ _ _ _ _ => pts_one (pt_cmpR op_eq (pe_ix ix_tup (pv 4) pe_int (fun _ _ => rfl)) pe_str (nomark _))) (fun _ _ _ _ _ => pe_ix ix_tup (pv 4) pe_int (fun _ _ => rfl)))
      (pss_cons (ps_if (PW.pt (pw_or (pt_cmpR (op_eqD hr.units) (pv 3) (pe_lst pa_nil) (nomark _)) (pw_or1 (pt_cmpR op_eq (pe_call GD hr1 (by rfl) gD FD.kp bD .nil pass0 (pa_cons (pv 0) (pa_cons pe_int pa_nil))) pe_int (nomark _))))) (pss_one (ps_ret (pe_tup pa_nil))) pss_nil)
      (pss_one (ps_ret (pe_tup (pa_cons (pe_tup (pa_cons (pe_call GP hr2 (by rfl) gP FP.kp bP .nil pass0 (pa_cons (pv 0) (pa_cons (pv 3) pa_nil))) (pa_cons (pe_call GT hr (by rfl) gT FT.kp bT .nil pass0 (pa_cons (pv 0) (pa_cons (pv 1) (pa_cons (pv 2) (pa_cons pe_int pa_nil))))) pa_nil))) pa_nil))))), ?_⟩
    obtain ⟨c, fa, ts, gs, e0, e1, e4, r1, r2⟩ := id hb
    refine ⟨.ref b, rfl, b, .ref c, rfl, dg e0 "cells" rfl, c, rfl, ⟨_, .inl (.inl e1)⟩, fun D hD => ?_⟩
    refine walk_gen (walk_list (K := K) (a := c) (xs := ts)) (fun i H' => Same H H' ∧ H' D = some (.lst ((tablesOf (L.cells.take i)).map V.str))) ⟨same_upd hD, upd_same⟩ (fun i H' _ pr => .inl (.inl (pr.1 _ _ e1))) (fun i x H1 H2 hi pr y => ?_) (fun H1 pr => ?_)
    · obtain ⟨s1, eD⟩ := pr
      obtain ⟨rfl, hx⟩ := y
      have hi' : i < L.cells.length := by
        have := (List.getElem?_eq_some_iff.mp hx).1
        rw [r1.1] at this
        exact this
      have hc := List.getElem?_eq_getElem hi'
      obtain ⟨t, rfl, ht⟩ := r1.2 i x _ hx hc
      have ht1 := same_sqT s1 ht
      have snoc : tablesOf (L.cells.take (i + 1)) = tablesOf (L.cells.take i) ++ (if decide (L.cells[i].2 = ("table" : Str)) = true then [L.cells[i].1] else []) := by
        unfold tablesOf
        rw [take_snoc hc, List.filter_append, List.map_append]
        congr 1
        cases e : decide (L.cells[i].2 = ("table" : Str)) with
        | true => rw [List.filter_cons_of_pos (by exact e)]; rfl
        | false => rw [List.filter_cons_of_neg (by rw [e]; decide)]; rfl
      refine And.intro rfl ?_
      refine ⟨.ref t, rfl, t, _, 1, .str _, rfl, rfl, ht1, atI_nat (j := 1) rfl, rfl, _, rfl, ?_⟩
      have dd : decide (V.str L.cells[i].2 = V.str "table") = decide (L.cells[i].2 = ("table" : Str)) := by
        by_cases e : L.cells[i].2 = "table"
        · rw [decide_eq_true e, decide_eq_true (by rw [e])]
        · rw [decide_eq_false e, decide_eq_false (fun z => e (V.str.inj z))]
      rw [dd]
      cases e : decide (L.cells[i].2 = ("table" : Str)) with
      | true =>
        rw [e] at snoc
        refine iteT ⟨.ref t, rfl, t, _, 0, .str _, rfl, rfl, ht1, atI_nat (j := 0) rfl, _, eD, ?_, fun b o e => ?_, ?_⟩
        · rw [List.length_map]
          unfold tablesOf
          rw [List.length_map]
          refine Nat.lt_of_le_of_lt (List.length_filter_le _ _) ?_
          rw [List.length_take]
          have := o.lc
          exact Nat.lt_of_le_of_lt (show _ ≤ 8 by omega) (by decide)
        · rw [upd_ne (ne_of_none e hD)]
          exact s1 _ _ e
        · rw [snoc, List.map_append]
          exact upd_same
      | false =>
        rw [e] at snoc
        refine iteF ⟨s1, ?_⟩
        rw [snoc]
        simpa using eD
    · obtain ⟨s1, eD⟩ := pr
      rw [r1.1, List.take_length] at eD
      have hp1 := hp.same s1
      have hb1 := hb.but hp (But.of s1)
      obtain ⟨zs, ez⟩ : ∃ zs, tablesOf L.cells = zs := ⟨_, rfl⟩
      have mem : ∀ z ∈ zs, (z, ("table" : Str)) ∈ L.cells := fun z hz => by
        rw [← ez] at hz
        unfold tablesOf at hz
        obtain ⟨x, hx, rfl⟩ := List.mem_map.mp hz
        obtain ⟨h1, h2⟩ := List.mem_filter.mp hx
        have e : x.2 = ("table" : Str) := of_decide_eq_true h2
        rw [← e]
        exact h1
      have lz : zs.length ≤ 8 := by
        rw [← ez]
        unfold tablesOf
        rw [List.length_map]
        exact Nat.le_trans (List.length_filter_le _ _) o.lc
      rw [ez] at eD
      refine ⟨.ref D, rfl, Nat.zero_le _, fun l nl => ?_⟩
      have sl := same_upd (o := .lst []) nl
      have names : ∀ z ∈ zs, PyData.strOk z = true := fun z hz => name_ok (o.c _ (mem z hz)).1
      have shp : SeqAt.shaped (.list (zs.map PyData.str)) = true := by
        refine Bool.and_eq_true_iff.mpr ⟨canLay_of fun t h => ?_, decide_eq_true ?_⟩
        · obtain ⟨z, hz, rfl⟩ := List.mem_map.mp h
          exact names z hz
        · show PyData.depthAll (zs.map PyData.str) + 1 ≤ 64
          have := depth_of (m := 0) (ts := zs.map PyData.str) fun t h => by
            obtain ⟨z, hz, rfl⟩ := List.mem_map.mp h
            exact Nat.le_refl _
          omega
      refine ⟨.list (zs.map PyData.str), .list [], .lst (.inl (.inl (sl _ _ eD))) (strs_dp zs), .lst (.inl (.inl upd_same)) .nil, shp, by decide +kernel, _, rfl, ?_⟩
      have b2 : But p H (upd H1 l (.lst [])) := (But.of s1).trans (But.of sl)
      have hp2 := hp1.same sl
      have hb2 := hb1.but hp1 (But.of sl)
      have eD2 := sl _ _ eD
      have nDp : p ≠ D := by
        obtain ⟨x, y, ep, _⟩ := hp
        exact ne_of_none ep hD
      have gone : ∀ H', But p H H' → PoolAt H' p → (tTup tNil) [some (.ref p), some (.ref b), some (.int n), some (.ref D), none] H' Q := fun H' k h => ⟨by show 0 ≤ sizeLine; decide, fun t nt => q _ (.tuple []) _ (but_sameN k (same_upd nt)) (h.upd nt) (dpT nt .nil) (.inl rfl)⟩
      cases hz : zs with
      | nil =>
        rw [show PyData.eqv (.list (([] : List Str).map PyData.str)) (.list []) = true from SeqAt.eqv_refl _ (by decide +kernel)]
        exact iteT (gone _ b2 hp2)
      | cons z0 zr =>
        rw [show PyData.eqv (.list ((z0 :: zr).map PyData.str)) (.list []) = false from rfl]
        have l1 : 1 ≤ (zs.map V.str).length := by rw [hz]; simp
        refine iteF ⟨.ref p, rfl, p, 2, rfl, hp2, by omega, by omega, fun k H3 k0 k2 b3 hp3 fr => ⟨rfl, _, rfl, ?_⟩⟩
        have b13 := b2.trans b3
        refine ite2 (fun _ => gone _ b13 hp3) (fun _ => ?_)
        have eD3 := b3 _ _ eD2 nDp.symm
        refine ⟨.ref p, rfl, .ref D, rfl, p, D, zs.map V.str, rfl, hp3, nDp, .inl (.inl (.inl eD3)), l1, Nat.le_trans (by rw [List.length_map]; exact lz) (by decide), fun i hi H4 b4 hp4 fr4 => ?_⟩
        have hi' : i < zs.length := by rw [List.length_map] at hi; exact hi
        have hb4 := (hb2.but hp2 b3).but hp3 b4
        rw [List.getElem_map]
        refine ⟨.ref p, rfl, .ref b, rfl, .int n, rfl, L, p, b, n, 1, o, rfl, hp4, hb4, n0, n2, by decide, fun v d H5 b5 hp5 dv gd => ?_⟩
        refine ⟨by show 2 ≤ sizeLine; decide, fun t1 m1 => ⟨by show 1 ≤ sizeLine; decide, fun t2 m2 => ?_⟩⟩
        refine q _ (.tuple [.tuple [.str zs[i], d]]) _ (but_sameN ((b13.trans b4).trans b5) ((same_upd m1).trans (same_upd m2))) ((hp5.upd m1).upd m2) (dpT m2 (.cons (dpT m1 (.cons (.str _) (.cons dv .nil))) .nil)) (.inr ⟨_, d, rfl, mem _ (List.getElem_mem hi'), gd⟩)
end
/-! ### the law's book, drawn -/
structure FDr where
  nm : Str
  many : Nat
  res : PyData
  ws : PyData
  cost : Int
  label : Str
def FDrAt (K : PySem.W.Frag) (H : Hp) (v : V) (F : FDr) : Prop := ∃ (g : Addr) (vr vw : V), v = .ref g ∧ H g = some (.dK [(.inr "name", .str F.nm), (.inr "many", .int (F.many : Nat)), (.inr "result", vr), (.inr "writes", vw), (.inr "cost", .int F.cost), (.inr "label", .str F.label)]) ∧
  Dp K H vr F.res ∧ Dp K H vw F.ws ∧ noL F.res = true ∧ noL F.ws = true
def lbOf (cells : List (Str × Str)) (fs : List FDr) : LB := ⟨cells, fs.map fun F => (F.nm, F.many)⟩
def labelRow : List Str := ["always", "session", "statement", "changing"]
/-- what is known of a function drawn behind others -/
structure FOk (deep : Nat) (cells : List (Str × Str)) (prev : List FDr) (F : FDr) : Prop where
  nm : isName (.str F.nm) = true
  many : F.many ≤ 2
  res : GdL (lbOf cells prev) F.many (deep + 1) F.res
  ws : WrD (lbOf cells prev) F.many F.ws
  c0 : 0 ≤ F.cost
  c9 : F.cost < 10
  lab : F.label ∈ labelRow
/-- what is known of a drawn book, its functions so far -/
structure DOk (deep : Nat) (words : List Str) (cells : List (Str × Str)) (fs : List FDr) : Prop where
  lc : cells.length ≤ 3
  lf : fs.length ≤ 3
  cn : ∀ (i : Nat) x, cells[i]? = some x → words[i]? = some x.1 ∧ x.2 ∈ (["frozen", "setting", "table"] : List Str)
  fn : ∀ (i : Nat) F, fs[i]? = some F → words[4 + i]? = some F.nm ∧ FOk deep cells (fs.take i) F
/-- the drawn book stands at b -/
def BkAt (K : PySem.W.Frag) (cells : List (Str × Str)) (fs : List FDr) (H : Hp) (b : Addr) : Prop := ∃ c f ts gs, H b = some (.dK [(.inr "cells", .ref c), (.inr "functions", .ref f)]) ∧ H c = some (.lst ts) ∧ H f = some (.lst gs) ∧ Rows (CellT K H) ts cells ∧ Rows (FDrAt K H) gs fs
theorem BkAt.lbk {K : PySem.W.Frag} {cells : List (Str × Str)} {fs : List FDr} {H : Hp} {b : Addr} (h : BkAt K cells fs H b) : LBk K (lbOf cells fs) H b := by
  obtain ⟨c, f, ts, gs, e0, e1, e2, r1, r2⟩ := h
  refine ⟨c, f, ts, gs, e0, e1, e2, r1, ⟨by rw [r2.1]; simp [lbOf], fun i x y e1 e2 => ?_⟩⟩
  have e3 : (fs.map fun F => (F.nm, F.many))[i]? = some y := e2
  rw [List.getElem?_map] at e3
  obtain ⟨F, hF, rfl⟩ := Option.map_eq_some_iff.mp e3
  obtain ⟨g, vr, vw, rfl, e, _⟩ := r2.2 i x F e1 hF
  exact ⟨g, _, rfl, e, rfl, rfl⟩
theorem DOk.lok {deep : Nat} {words : List Str} {cells : List (Str × Str)} {fs : List FDr} (h : DOk deep words cells fs) (wn : ∀ z ∈ words, isName (.str z) = true) : LOk (lbOf cells fs) where
  c := fun x hx => by
    obtain ⟨i, hi⟩ := List.getElem?_of_mem hx
    obtain ⟨h1, h2⟩ := h.cn i x hi
    exact ⟨wn _ (List.mem_of_getElem? h1), h2⟩
  f := fun x hx => by
    obtain ⟨F, hF, rfl⟩ := List.mem_map.mp hx
    obtain ⟨i, hi⟩ := List.getElem?_of_mem hF
    obtain ⟨_, h2⟩ := h.fn i F hi
    exact ⟨h2.nm, h2.many⟩
  lc := Nat.le_trans h.lc (by decide)
  lf := by
    show (fs.map _).length ≤ 8
    rw [List.length_map]
    exact Nat.le_trans h.lf (by decide)
theorem rows_nil {α : Type} {R : V → α → Prop} : Rows R [] [] := ⟨rfl, fun i x c e _ => by simp at e⟩
theorem rows_snoc {α : Type} {R : V → α → Prop} {xs : List V} {cs : List α} {x : V} {c : α} (h : Rows R xs cs) (k : R x c) : Rows R (xs ++ [x]) (cs ++ [c]) := ⟨by rw [List.length_append, List.length_append, h.1]; rfl, fun i y d e1 e2 => by
  by_cases hi : i < xs.length
  · rw [List.getElem?_append_left hi] at e1
    rw [List.getElem?_append_left (h.1 ▸ hi)] at e2
    exact h.2 i y d e1 e2
  · have h1 := (List.getElem?_eq_some_iff.mp e1).1
    rw [List.length_append] at h1
    have hi2 : i = xs.length := by simp at h1; omega
    rw [hi2, List.getElem?_append_right (Nat.le_refl _), Nat.sub_self] at e1
    rw [hi2, h.1, List.getElem?_append_right (Nat.le_refl _), Nat.sub_self] at e2
    cases e1
    cases e2
    exact k⟩
theorem sqT_dk {K : PySem.W.Frag} {H H' : Hp} {g : Addr} {kvs : List (Key × V)} (e : H g = some (.dK kvs)) (b : But g H H') {a : Addr} {xs : List V} (h : SqT K H a xs) : SqT K H' a xs := by
  rcases h with (h | ⟨o, h⟩) | h
  · exact .inl (.inl (b _ _ h (ne_of h e (fun z => nomatch z))))
  · exact .inl (.inr ⟨o, b _ _ h (ne_of h e (fun z => nomatch z))⟩)
  · exact .inr h
theorem cellT_of {K : PySem.W.Frag} {H H' : Hp} (k : ∀ a xs, SqT K H a xs → SqT K H' a xs) {v : V} {x : Str × Str} (h : CellT K H v x) : CellT K H' v x := by
  obtain ⟨t, e, h⟩ := h
  exact ⟨t, e, k _ _ h⟩
theorem fdrAt_of {K : PySem.W.Frag} {H H' : Hp} (k : ∀ a xs, SqT K H a xs → SqT K H' a xs) {v : V} {F : FDr} (kd : ∀ g kvs, v = .ref g → H g = some (.dK kvs) → kvs.length = 6 → H' g = some (.dK kvs)) (h : FDrAt K H v F) : FDrAt K H' v F := by
  obtain ⟨g, vr, vw, rfl, e, h1, h2, n1, n2⟩ := h
  exact ⟨g, vr, vw, rfl, kd g _ rfl e rfl, dp_tups k _ _ n1 h1, dp_tups k _ _ n2 h2, n1, n2⟩
theorem BkAt.but {K : PySem.W.Frag} {cells : List (Str × Str)} {fs : List FDr} {H H' : Hp} {b p : Addr} (h : BkAt K cells fs H b) (hp : PoolAt H p) (bt : But p H H') : BkAt K cells fs H' b := by
  obtain ⟨c, f, ts, gs, e0, e1, e4, r1, r2⟩ := h
  obtain ⟨x, y, ep, _⟩ := hp
  have nc : c ≠ p := fun q => by
    rw [q, ep] at e1
    cases e1
    obtain ⟨d, _, t, e, _⟩ := r1.at (i := 0) (by show 0 < 2; decide)
    cases e
  have nf : f ≠ p := fun q => by
    rw [q, ep] at e4
    cases e4
    obtain ⟨d, _, t, _, _, e, _⟩ := r2.at (i := 0) (by show 0 < 2; decide)
    cases e
  exact ⟨c, f, ts, gs, bt _ _ e0 (ne_of e0 ep (fun z => nomatch z)), bt _ _ e1 nc, bt _ _ e4 nf, r1.mono fun v d h => cellT_of (fun a xs h => but_sqT ep bt h) h, r2.mono fun v d h => fdrAt_of (fun a xs h => but_sqT ep bt h) (fun g kvs _ e _ => bt _ _ e (ne_of e ep (fun z => nomatch z))) h⟩
theorem upd_two {H : Hp} {a : Addr} {x y : HO} : upd (upd H a x) a y = upd H a y := by
  funext b
  by_cases h : b = a
  · subst h
    rw [upd_same, upd_same]
  · rw [upd_ne h, upd_ne h, upd_ne h]
theorem pool_ne {H : Hp} {p g : Addr} {o : HO} (h : PoolAt H p) (n : p ≠ g) : PoolAt (upd H g o) p := by
  obtain ⟨x, y, e, r⟩ := h
  exact ⟨x, y, by rw [upd_ne n]; exact e, r⟩
theorem but_new {p g : Addr} {G X : Hp} {o : HO} (k : But p G X) (ng : G g = none) : But p G (upd X g o) := fun x u e n => by
  rw [upd_ne (ne_of_none e ng)]
  exact k _ _ e n
theorem wr_nl {L : LB} (o : LOk L) {n : Int} {d : PyData} (h : WrD L n d) : noL d = true := by
  rcases h with rfl | ⟨z, t, rfl, _, g⟩
  · rfl
  · show ((true && (noL t && true)) && true) = true
    rw [gd_nl 2 t (gdl_gd o 2 t g)]
    rfl
abbrev sLB : Stmt := topS 71
theorem scLB : FnScope ["_law_pool_here", "_law_most", "_law_deep", "_law_words", "_law_b", "_law_at", "_law_many", "_law_f"] ["_law_pool_here", "_law_most", "_law_deep"] (defScope sLB) := ⟨rfl, rfl, rfl, by decide +kernel, rfl, by decide +kernel, by decide +kernel⟩
def spLB (K : PySem.W.Frag) : Sp := fun vs H Q _ => ∃ (p : Addr) (most : Int) (deep : Nat), vs = [.ref p, .int most, .int (deep : Nat)] ∧ PoolAt H p ∧ 0 < most ∧ most ≤ 3 ∧ deep ≤ 2 ∧
  ∀ b words cells fs H', But p H H' → PoolAt H' p → words.length = 8 → (∀ z ∈ words, isName (.str z) = true) → words.Nodup → (∀ z ∈ words, WordZ z) → BkAt K cells fs H' b → DOk deep words cells fs → 1 ≤ fs.length → H b = none → Q (.ref b) H'
section
variable {P : Program} {w : World} {K : PySem.W.Frag} {mg : Str → Option Value} {base : Heap}
theorem ok_lb {f fD fP fT fN fW : Addr} {fd dD dP dT dN dW : FuncData} (F : Fun K "_law_book" "_law_book" sLB f fd) (M : Blt mg)
    (FD : Fun K "_law_draw" "_law_draw" sDraw fD dD) (bD : Binds K dD ["_law_pool_here", "_law_many"] []) (gD : mg "_law_draw" = some (.ref fD))
    (FP : Fun K "_law_pick" "_law_pick" sPick fP dP) (bP : Binds K dP ["_law_pool_here", "_law_row"] []) (gP : mg "_law_pick" = some (.ref fP))
    (FN : Fun K "_law_names" "_law_names" sLNames fN dN) (bN : Binds K dN ["_law_pool_here", "_law_count"] []) (gN : mg "_law_names" = some (.ref fN))
    (FT : Fun K "_law_term" "_law_term" sLTerm fT dT) (bT : Binds K dT ["_law_pool_here", "_law_b", "_law_many", "_law_deep"] []) (gT : mg "_law_term" = some (.ref fT))
    (FW : Fun K "_law_writes" "_law_writes" sLW fW dW) (bW : Binds K dW ["_law_pool_here", "_law_b", "_law_many"] []) (gW : mg "_law_writes" = some (.ref fW)) : FnOk P w K mg base CX0 8 f fd ["_law_pool_here", "_law_most", "_law_deep"] (spLB K) := by
  have GD : FnOk P w K mg base CX0 1 fD dD ["_law_pool_here", "_law_many"] spDraw := ok_draw FD M
  have GP : FnOk P w K mg base CX0 2 fP dP ["_law_pool_here", "_law_row"] (spPick K) := ok_pick FP M FD bD gD
  have GN : FnOk P w K mg base CX0 3 fN dN ["_law_pool_here", "_law_count"] (spLNames K) := ok_lnames FN M FD bD gD FP bP gP
  have GT : FnOk P w K mg base CX0 6 fT dT ["_law_pool_here", "_law_b", "_law_many", "_law_deep"] (spLTerm K 3) := ok_lterm FT M bT gT FD bD gD FP bP gP 3
  have GW : FnOk P w K mg base CX0 6 fW dW ["_law_pool_here", "_law_b", "_law_many"] (spLW K) := ok_lw FW M FD bD gD FP bP gP FT bT gT
  refine F.ok scLB (fun vs H Q E h => ?_) (fun cdv A outer s H vs Q E hr h => ?_)
  · obtain ⟨p, most, deep, rfl, _⟩ := h
    rfl
  · obtain ⟨p, most, deep, rfl, hp, m0, m3, d2, q⟩ := h
    have hr1 : Room 1 (A.deeper (envOfC "_law_book" (defScope sLB) s.heap.objs.size f cdv)) := hr.mono (by decide)
    have hr2 : Room 2 (A.deeper (envOfC "_law_book" (defScope sLB) s.heap.objs.size f cdv)) := hr.mono (by decide)
    have hr3 : Room 3 (A.deeper (envOfC "_law_book" (defScope sLB) s.heap.objs.size f cdv)) := hr.mono (by decide)
    have hr6 : Room 6 (A.deeper (envOfC "_law_book" (defScope sLB) s.heap.objs.size f cdv)) := hr.mono (by decide)
    have hu := hu_of hr
    refine ⟨_, pss_cons (ps_set (i := 3) scLB.nd rfl (.inr rfl) (pe_call GN hr3 (by rfl) gN FN.kp bN .nil pass0 (pa_cons (pv 0) (pa_cons pe_int pa_nil))))
      (pss_cons (ps_set (i := 4) scLB.nd rfl (.inl rfl) (pe_disp (pps_cons pe_str (pe_lc (own := [("_law_at", 5)]) (g := gName 5) (tt := tYes) (te := tTup (tCons (tOp (rIxL K) (tVar 3) (tVar 5)) (tCons (tCall (spPick K) [] E0 (tCons (tVar 0) (tCons (tLst (tCons (tC (.str "frozen")) (tCons (tC (.str "setting")) (tCons (tC (.str "table")) (tCons (tC (.str "table")) tNil))))) tNil))) tNil))) (by rfl) scLB.nd
            (pi_range1 (by rfl) M.range (pa_cons (pe_call GD hr1 (by rfl) gD FD.kp bD .nil pass0 (pa_cons (pv 0) (pa_cons pe_int pa_nil))) pa_nil)) (blkOk_by (own := [("_law_at", 5)]) (N := ["_law_pool_here", "_law_most", "_law_deep", "_law_words", "_law_b", "_law_at", "_law_many", "_law_f"]) (sc := defScope sLB) (by decide +kernel)) (fun _ _ _ _ _ => pg_name (i := 5) scLB.nd rfl (Or.inl rfl)) (fun _ _ _ _ _ => pts_nil)
            (fun _ _ _ _ _ => pe_tup (pa_cons (pe_ix ix_list (pv 3) (pv 5) (fun _ _ => rfl)) (pa_cons (pe_call GP hr2 (by rfl) gP FP.kp bP .nil pass0 (pa_cons (pv 0) (pa_cons (pe_lst (pa_cons pe_str (pa_cons pe_str (pa_cons pe_str (pa_cons pe_str pa_nil))))) pa_nil))) pa_nil)))) pps_nil) (by rfl) (by rfl) (by simp) (by decide)))
      (pss_cons (ps_dput hu (pv 4) pe_str (pe_lst pa_nil) (by rfl))
      (pss_cons (ps_for PassesOwn.never rfl (pi_range1 (by rfl) M.range (pa_cons (pe_op op_add pe_int (pe_call GD hr1 (by rfl) gD FD.kp bD .nil pass0 (pa_cons (pv 0) (pa_cons (pv 1) pa_nil)))) pa_nil)) (pg_name (i := 5) scLB.nd rfl (.inl rfl))
        (pss_cons (ps_set (i := 6) scLB.nd rfl (.inl rfl) (pe_call GD hr1 (by rfl) gD FD.kp bD .nil pass0 (pa_cons (pv 0) (pa_cons pe_int pa_nil))))
        (pss_cons (ps_set (i := 7) scLB.nd rfl (.inl rfl) (pe_disp (pps_cons pe_str (pe_ix ix_list (pv 3) (pe_op op_add pe_int (pv 5)) (fun _ _ => rfl)) (pps_cons pe_str (pv 6) (pps_cons pe_str (pe_call GT hr6 (by rfl) gT FT.kp bT .nil pass0 (pa_cons (pv 0) (pa_cons (pv 4) (pa_cons (pv 6) (pa_cons (pv 2) pa_nil))))) pps_nil))) (by rfl) (by rfl) (by simp) (by decide)))
        (pss_cons (ps_asg (pe_tup (pa_cons (pe_call GW hr6 (by rfl) gW FW.kp bW .nil pass0 (pa_cons (pv 0) (pa_cons (pv 4) (pa_cons (pv 6) pa_nil)))) (pa_cons (pe_call GD hr1 (by rfl) gD FD.kp bD .nil pass0 (pa_cons (pv 0) (pa_cons pe_int pa_nil))) pa_nil)))
            (pg_tup (by rfl) (pgs_cons (pg_sub (pv 7) pe_str (set_dict hu)) (pgs_cons (pg_sub (pv 7) pe_str (set_dict hu)) pgs_nil))))
        (pss_cons (ps_dput hu (pv 7) pe_str (pe_call GP hr2 (by rfl) gP FP.kp bP .nil pass0 (pa_cons (pv 0) (pa_cons (pe_lst (pa_cons pe_str (pa_cons pe_str (pa_cons pe_str (pa_cons pe_str (pa_cons pe_str pa_nil)))))) pa_nil))) (by rfl))
        (pss_one (ps_dput hu (pv 4) pe_str (pe_op op_cat (pe_dget hu (pv 4) pe_str (fun _ _ => rfl)) (pe_lst (pa_cons (pv 7) pa_nil))) (by rfl))))))))
      (pss_one (ps_ret (pv 4)))))), ?_⟩
    refine ⟨.ref p, rfl, p, 8, rfl, by decide, hp, fun wl words H1 b1 hp1 ew lw wn wnd wln => ?_⟩
    have nw : wl ≠ p := fun e => by
      obtain ⟨x, y, ep, _⟩ := hp1
      rw [e, ep] at ew
      have e2 := HO.lst.inj (Option.some.inj ew)
      rcases words with _ | ⟨z0, zr⟩
      · cases lw
      · cases e2
    dsimp only [gName, List.set]
    refine q_asgP (Pr := fun v H' => ∃ b c ts cells, v = .ref b ∧ But p H1 H' ∧ PoolAt H' p ∧ H1 b = none ∧ H' b = some (.dK [(.inr "cells", .ref c)]) ∧ H' c = some (.lst ts) ∧ Rows (CellT K H') ts cells ∧ cells.length ≤ 3 ∧ ∀ (i : Nat) x, cells[i]? = some x → words[i]? = some x.1 ∧ x.2 ∈ (["frozen", "setting", "table"] : List Str)) (fun Q' hq => ?_) (fun v H2 hv => ?_)
    · refine fun b nb => ?_
      have sb : Same H1 (upd H1 b (.dK [])) := same_upd nb
      have hpb := hp1.upd (o := .dK []) nb
      have npb : p ≠ b := hp1.ne nb
      refine ⟨.ref p, rfl, p, 4, rfl, hpb, by omega, by omega, fun k H2 k0 k4 b2 hp2 fr => ⟨k, rfl, by omega, by omega, fun D hD => ?_⟩⟩
      have nDp : D ≠ p := (hp2.ne hD).symm
      have e2b : H2 b = some (.dK []) := b2 _ _ upd_same npb.symm
      have e2w := b2 _ _ (sb _ _ ew) nw
      refine walk_gen (walk_range (lo := 0) (n := k.toNat)) (fun i H' => But p H2 H' ∧ PoolAt H' p ∧ ∃ ts cells, H' D = some (.lst ts) ∧ Rows (CellT K H') ts cells ∧ cells.length = i ∧ ∀ (i : Nat) x, cells[i]? = some x → words[i]? = some x.1 ∧ x.2 ∈ (["frozen", "setting", "table"] : List Str))
        ⟨But.of (same_upd hD), hp2.upd hD, [], [], upd_same, rows_nil, rfl, fun i x e => by simp at e⟩ (fun i H' _ w => True.intro) (fun i x H3 H4 hi w y => ?_) (fun H3 w => ?_)
      · obtain ⟨b3, hp3, ts, cells, eD, rc, lc, cn⟩ := w
        obtain ⟨rfl, rfl⟩ := y
        have i3 : i < 4 := by omega
        obtain ⟨wd, hwd⟩ : ∃ wd, words[i]? = some wd := ⟨_, List.getElem?_eq_getElem (by omega)⟩
        refine And.intro rfl ?_
        unfold tYes
        refine iteT ?_
        refine ⟨.ref wl, rfl, _, rfl, wl, words.map V.str, (i : Nat), .str wd, (by rfl), (by show V.int (0 + (i : Int)) = _; rw [Int.zero_add]), .inl (.inl (b3 _ _ e2w nw)), atI_nat (by rw [List.getElem?_map, hwd]; rfl), ?_⟩
        refine ⟨.ref p, rfl, by show 4 ≤ sizeLine; decide, fun l nl => ?_⟩
        refine ⟨p, l, _, rfl, hp3.upd nl, hp3.ne nl, .inl (.inl (.inl upd_same)), by decide, by decide, fun m hm H5 b5 hp5 fr5 => ?_⟩
        obtain ⟨kd, hkd, ek⟩ : ∃ kd, kd ∈ (["frozen", "setting", "table"] : List Str) ∧ [V.str "frozen", .str "setting", .str "table", .str "table"][m] = V.str kd := by
          have hm' : m < 4 := hm
          rcases (show m = 0 ∨ m = 1 ∨ m = 2 ∨ m = 3 by omega) with e | e | e | e <;> subst e
          · exact ⟨"frozen", by decide, rfl⟩
          · exact ⟨"setting", by decide, rfl⟩
          · exact ⟨"table", by decide, rfl⟩
          · exact ⟨"table", by decide, rfl⟩
        rw [ek]
        refine ⟨by show 2 ≤ sizeLine; decide, fun t nt => ?_⟩
        have sl : Same H4 (upd H4 l (.lst [V.str "frozen", .str "setting", .str "table", .str "table"])) := same_upd nl
        have st := same_upd (o := HO.tup [V.str wd, .str kd]) nt
        have b35 : But p H4 (upd H5 t (.tup [V.str wd, .str kd])) := ((But.of sl).trans b5).trans (But.of st)
        have e5D := b35 _ _ eD nDp
        obtain ⟨px, py, ep3, _⟩ := id hp3
        refine ⟨ts, e5D, ?_, fun x o e n => ?_, ?_, ts ++ [.ref t], cells ++ [(wd, kd)], upd_same, ?_, ?_, fun j x ej => ?_⟩
        · rw [rc.1, lc]
          exact Nat.lt_of_le_of_lt (show i ≤ 4 by omega) (by decide)
        · rw [upd_ne (ne_of_none e hD)]
          exact b35 _ _ (b3 _ _ e n) n
        · obtain ⟨x, y, e, r⟩ := hp5.upd (o := HO.tup [V.str wd, .str kd]) nt
          exact ⟨x, y, by rw [upd_ne nDp.symm]; exact e, r⟩
        · exact rows_snoc (rc.mono fun v x h => cellT_of (fun a xs h => but_sqT e5D But.upd (but_sqT ep3 b35 h)) h) ⟨t, rfl, but_sqT e5D But.upd (.inl (.inl upd_same))⟩
        · rw [List.length_append, lc]
          rfl
        · by_cases hj : j < cells.length
          · rw [List.getElem?_append_left hj] at ej
            exact cn j x ej
          · have hj2 : j = cells.length := by
              have := (List.getElem?_eq_some_iff.mp ej).1
              rw [List.length_append] at this
              simp at this
              omega
            rw [hj2, List.getElem?_append_right (Nat.le_refl _), Nat.sub_self] at ej
            cases ej
            exact ⟨by rw [hj2, lc]; exact hwd, hkd⟩
      · obtain ⟨b3, hp3, ts, cells, eD, rc, lc, cn⟩ := w
        have e3b := b3 _ _ e2b npb.symm
        refine ⟨e3b, [(.inr "cells", .ref D)], rfl, (by show 1 ≤ 15; decide), hq _ _ ⟨b, D, ts, cells, rfl, fun x o e n => ?_, ?_, nb, upd_same, ?_, rc.mono fun v x h => cellT_of (fun a xs h => sqT_dk e3b But.upd h) h, by omega, cn⟩⟩
        · rw [upd_ne (ne_of_none e nb)]
          exact b3 _ _ (b2 _ _ (sb _ _ e) n) n
        · obtain ⟨x, y, e, r⟩ := hp3
          exact ⟨x, y, by rw [upd_ne npb]; exact e, r⟩
        · rw [upd_ne (ne_of eD e3b (fun z => nomatch z))]
          exact eD
    · obtain ⟨b, c, ts, cells, rfl, b2, hp2, nb1, eb, ec, rc, lc, cn⟩ := hv
      have npb : p ≠ b := hp1.ne nb1
      have nwb : wl ≠ b := ne_of_none ew nb1
      have nbH : H b = none := by
        cases h : H b with
        | none => rfl
        | some o =>
          have := b1 _ _ h npb.symm
          rw [nb1] at this
          cases this
      -- no functions as yet
      refine ⟨by show 0 ≤ sizeLine; decide, fun fl nfl => ⟨.ref b, rfl, b, _, rfl, .inl ⟨_, .inr "functions", same_upd nfl _ _ eb, rfl, by show 1 < sizeLine; decide, rfl⟩, ?_⟩⟩
      have sf : Same H2 (upd H2 fl (.lst [])) := same_upd nfl
      have efl : (upd H2 fl (.lst [])) fl = some (.lst []) := upd_same
      have hpf := hp2.upd (o := .lst []) nfl
      generalize upd H2 fl (.lst []) = H3 at sf efl hpf
      have eb3 := sf _ _ eb
      have nfb : fl ≠ b := ne_of efl eb3 (fun z => nomatch z)
      have ncb : c ≠ b := ne_of (sf _ _ ec) eb3 (fun z => nomatch z)
      have bk0 : BkAt K cells [] (upd H3 b (.dK (putK [(.inr "cells", .ref c)] (.inr "functions" : Key) (.ref fl)))) b := ⟨c, fl, ts, [], upd_same, by rw [upd_ne ncb]; exact sf _ _ ec, by rw [upd_ne nfb]; exact efl, rc.mono fun v x h => cellT_of (fun a xs h => sqT_dk eb3 But.upd (same_sqT sf h)) h, rows_nil⟩
      have b13 : But p H (upd H3 b (.dK (putK [(.inr "cells", .ref c)] (.inr "functions" : Key) (.ref fl)))) := fun x o e n => by
        rw [upd_ne (ne_of_none e nbH)]
        exact sf _ _ (b2 _ _ (b1 _ _ e n) n)
      have hp3 : PoolAt (upd H3 b (.dK (putK [(.inr "cells", .ref c)] (.inr "functions" : Key) (.ref fl)))) p := by
        obtain ⟨x, y, e, r⟩ := hpf
        exact ⟨x, y, by rw [upd_ne npb]; exact e, r⟩
      have ew3 : (upd H3 b (.dK (putK [(.inr "cells", .ref c)] (.inr "functions" : Key) (.ref fl)))) wl = some (.lst (words.map V.str)) := by
        rw [upd_ne nwb]
        exact sf _ _ (b2 _ _ ew nw)
      generalize upd H3 b (.dK (putK [(.inr "cells", .ref c)] (.inr "functions" : Key) (.ref fl))) = H4 at bk0 b13 hp3 ew3
      clear efl sf hpf eb3 ec rc eb b2 hp2
      refine ⟨.ref p, rfl, .int most, rfl, p, most, rfl, hp3, m0, by omega, fun k H5 k0 km b5 hp5 fr => ⟨_, _, rfl, rfl, _, rfl, by omega, by omega, ?_⟩⟩
      have bk5 : BkAt K cells [] H5 b := bk0.but hp3 b5
      refine for_range (lo := 0) (n := _) (fun j σ H' => ∃ y5 y6 y7, σ = [some (.ref p), some (.int most), some (.int (deep : Nat)), some (.ref wl), some (.ref b), y5, y6, y7] ∧ But p H H' ∧ PoolAt H' p ∧ H' wl = some (.lst (words.map V.str)) ∧ ∃ fs, BkAt K cells fs H' b ∧ DOk deep words cells fs ∧ fs.length = j)
        ⟨none, none, none, rfl, b13.trans b5, hp5, b5 _ _ ew3 nw, [], bk5, ⟨lc, Nat.zero_le _, cn, fun i F e => by simp at e⟩, rfl⟩ (fun j σ G hj hW => ?_) (fun σ G hW => ?_)
      · obtain ⟨y5, y6, y7, rfl, bG, hpG, eG, fs, bk, ok, lf⟩ := hW
        have j3 : j < 3 := by omega
        have L1 := ok.lok wn
        obtain ⟨wd, hwd⟩ : ∃ wd, words[4 + j]? = some wd := ⟨_, List.getElem?_eq_getElem (by omega)⟩
        refine ⟨.ref p, rfl, p, 3, rfl, hpG, by omega, by omega, fun mk G1 mk0 mk3 k1 hpA fr1 => ?_⟩
        obtain ⟨mn, rfl⟩ : ∃ mn : Nat, mk = mn := ⟨mk.toNat, by omega⟩
        dsimp only [gName, List.set]
        refine fun g ng => ?_
        have ngG : G g = none := by
          cases h : G g with
          | none => rfl
          | some o => exact absurd (k1 _ _ h (hpA.ne ng).symm) (by rw [ng]; simp)
        have npg : p ≠ g := hpA.ne ng
        have kA : But p G (upd G1 g (.dK [])) := but_new k1 ngG
        have hpB := pool_ne (o := .dK []) hpA npg
        have egB : (upd G1 g (.dK [])) g = some (.dK []) := upd_same
        generalize upd G1 g (.dK []) = G2 at kA hpB egB
        refine ⟨.ref wl, rfl, .int (0 + (j : Int)), rfl, _, _, rfl, rfl, wl, words.map V.str, _, .str wd, rfl, rfl, .inl (.inl (kA _ _ eG nw)), (by rw [show (4 + (0 + (j : Int))) = ((4 + j : Nat) : Int) by omega]; exact atI_nat (by rw [List.getElem?_map, hwd]; rfl)), .int (mn : Nat), rfl, ?_⟩
        refine ⟨.ref p, rfl, .ref b, rfl, .int (mn : Nat), rfl, .int (deep : Nat), rfl, lbOf cells fs, p, b, (mn : Nat), deep, L1, rfl, hpB, (bk.but hpG kA).lbk, by omega, by omega, by omega, fun v1 d1 G3 k3 hpC dv1 gd1 => ?_⟩
        have e3g := k3 _ _ egB npg.symm
        refine ⟨e3g, [(.inr "name", .str wd), (.inr "many", .int (mn : Nat)), (.inr "result", v1)], rfl, (by show 3 ≤ 15; decide), ?_⟩
        have nl1 := gd_nl _ _ (gdl_gd L1 _ _ gd1)
        have kC := kA.trans k3
        have dv1 : Dp K (upd G3 g (.dK (mergeK [] [(.inr "name", .str wd), (.inr "many", .int (mn : Nat)), (.inr "result", v1)]))) v1 d1 := dp_tups (fun a xs h => sqT_dk e3g But.upd h) _ _ nl1 dv1
        have kD : But p G (upd G3 g (.dK (mergeK [] [(.inr "name", .str wd), (.inr "many", .int (mn : Nat)), (.inr "result", v1)]))) := but_new kC ngG
        have hpD := pool_ne (o := .dK (mergeK [] [(.inr "name", .str wd), (.inr "many", .int (mn : Nat)), (.inr "result", v1)])) hpC npg
        have e4g : (upd G3 g (.dK (mergeK [] [(.inr "name", .str wd), (.inr "many", .int (mn : Nat)), (.inr "result", v1)]))) g = some (.dK [(.inr "name", .str wd), (.inr "many", .int (mn : Nat)), (.inr "result", v1)]) := upd_same
        generalize upd G3 g (.dK (mergeK [] [(.inr "name", .str wd), (.inr "many", .int (mn : Nat)), (.inr "result", v1)])) = G4 at kD hpD e4g dv1
        clear e3g kC egB kA hpB hpC k3
        dsimp only [gName, List.set]
        refine ⟨.ref p, rfl, .ref b, rfl, .int (mn : Nat), rfl, lbOf cells fs, p, b, (mn : Nat), L1, rfl, hpD, (bk.but hpG kD).lbk, by omega, by omega, fun v2 d2 G5 k5 hpE dv2 wr2 => ?_⟩
        have nl2 := wr_nl L1 wr2
        refine ⟨.ref p, rfl, p, 10, rfl, hpE, by omega, by omega, fun cost G6 c0 c9 k6 hpF fr6 => ⟨by show 2 ≤ sizeLine; decide, fun t nt => ?_⟩⟩
        have k46 := k5.trans k6
        have e6g := k46 _ _ e4g npg.symm
        have dv1 := dp_but hpD k46 nl1 dv1
        have dv2 := dp_but hpE k6 nl2 dv2
        have st := same_upd (o := HO.tup [v2, .int cost]) nt
        have ntg : t ≠ g := (ne_of_none e6g nt).symm
        refine ⟨t, _, rfl, .inl (.inl upd_same), rfl, v2, _, rfl, .ref g, rfl, g, _, rfl, .inl ⟨_, .inr "writes", st _ _ e6g, rfl, (by show 3 < sizeLine; decide), rfl⟩, _, _, rfl, .ref g, rfl, g, _, rfl, .inl ⟨_, .inr "cost", upd_same, rfl, (by show 4 < sizeLine; decide), rfl⟩, rfl, ?_⟩
        rw [upd_two]
        have kG : But p G (upd (upd G6 t (.tup [v2, .int cost])) g (.dK (putK (putK [(.inr "name", .str wd), (.inr "many", .int (mn : Nat)), (.inr "result", v1)] (.inr "writes" : Key) v2) (.inr "cost" : Key) (.int cost)))) := but_new ((kD.trans k46).trans (But.of st)) ngG
        have hpG2 := pool_ne (o := .dK (putK (putK [(.inr "name", .str wd), (.inr "many", .int (mn : Nat)), (.inr "result", v1)] (.inr "writes" : Key) v2) (.inr "cost" : Key) (.int cost))) (hpF.upd (o := .tup [v2, .int cost]) nt) npg
        have e9g : (upd (upd G6 t (.tup [v2, .int cost])) g (.dK (putK (putK [(.inr "name", .str wd), (.inr "many", .int (mn : Nat)), (.inr "result", v1)] (.inr "writes" : Key) v2) (.inr "cost" : Key) (.int cost)))) g = some (.dK [(.inr "name", .str wd), (.inr "many", .int (mn : Nat)), (.inr "result", v1), (.inr "writes", v2), (.inr "cost", .int cost)]) := upd_same
        have dv1 : Dp K (upd (upd G6 t (.tup [v2, .int cost])) g (.dK (putK (putK [(.inr "name", .str wd), (.inr "many", .int (mn : Nat)), (.inr "result", v1)] (.inr "writes" : Key) v2) (.inr "cost" : Key) (.int cost)))) v1 d1 := dp_tups (fun a xs h => sqT_dk (st _ _ e6g) But.upd (same_sqT st h)) _ _ nl1 dv1
        have dv2 : Dp K (upd (upd G6 t (.tup [v2, .int cost])) g (.dK (putK (putK [(.inr "name", .str wd), (.inr "many", .int (mn : Nat)), (.inr "result", v1)] (.inr "writes" : Key) v2) (.inr "cost" : Key) (.int cost)))) v2 d2 := dp_tups (fun a xs h => sqT_dk (st _ _ e6g) But.upd (same_sqT st h)) _ _ nl2 dv2
        generalize upd (upd G6 t (.tup [v2, .int cost])) g (.dK (putK (putK [(.inr "name", .str wd), (.inr "many", .int (mn : Nat)), (.inr "result", v1)] (.inr "writes" : Key) v2) (.inr "cost" : Key) (.int cost))) = G9 at kG hpG2 e9g dv1 dv2
        clear st ntg e6g k46 kD hpD e4g
        refine ⟨.ref p, rfl, (by show 5 ≤ sizeLine; decide), fun l nl => ⟨p, l, _, rfl, hpG2.upd nl, hpG2.ne nl, .inl (.inl (.inl upd_same)), by decide, by decide, fun m hm G10 k10 hpH fr10 => ?_⟩⟩
        obtain ⟨lb, hlb, elb⟩ : ∃ lb, lb ∈ labelRow ∧ [V.str "always", .str "session", .str "statement", .str "changing", .str "changing"][m] = V.str lb := by
          have hm' : m < 5 := hm
          rcases (show m = 0 ∨ m = 1 ∨ m = 2 ∨ m = 3 ∨ m = 4 by omega) with e | e | e | e | e <;> subst e
          · exact ⟨"always", by decide, rfl⟩
          · exact ⟨"session", by decide, rfl⟩
          · exact ⟨"statement", by decide, rfl⟩
          · exact ⟨"changing", by decide, rfl⟩
          · exact ⟨"changing", by decide, rfl⟩
        rw [elb]
        have sl := same_upd (o := HO.lst [V.str "always", .str "session", .str "statement", .str "changing", .str "changing"]) nl
        have k910 : But p G9 G10 := (But.of sl).trans k10
        have eag := k910 _ _ e9g npg.symm
        have dv1 := dp_but hpG2 k910 nl1 dv1
        have dv2 := dp_but hpG2 k910 nl2 dv2
        refine ⟨.ref g, rfl, g, _, rfl, .inl ⟨_, .inr "label", eag, rfl, (by show 5 < sizeLine; decide), rfl⟩, ?_⟩
        have kL : But p G (upd G10 g (.dK (putK [(.inr "name", .str wd), (.inr "many", .int (mn : Nat)), (.inr "result", v1), (.inr "writes", v2), (.inr "cost", .int cost)] (.inr "label" : Key) (.str lb)))) := but_new (kG.trans k910) ngG
        have hpL := pool_ne (o := .dK (putK [(.inr "name", .str wd), (.inr "many", .int (mn : Nat)), (.inr "result", v1), (.inr "writes", v2), (.inr "cost", .int cost)] (.inr "label" : Key) (.str lb))) hpH npg
        have fdr : FDrAt K (upd G10 g (.dK (putK [(.inr "name", .str wd), (.inr "many", .int (mn : Nat)), (.inr "result", v1), (.inr "writes", v2), (.inr "cost", .int cost)] (.inr "label" : Key) (.str lb)))) (.ref g) ⟨wd, mn, d1, d2, cost, lb⟩ := ⟨g, v1, v2, rfl, upd_same, dp_tups (fun a xs h => sqT_dk eag But.upd h) _ _ nl1 dv1, dp_tups (fun a xs h => sqT_dk eag But.upd h) _ _ nl2 dv2, nl1, nl2⟩
        generalize upd G10 g (.dK (putK [(.inr "name", .str wd), (.inr "many", .int (mn : Nat)), (.inr "result", v1), (.inr "writes", v2), (.inr "cost", .int cost)] (.inr "label" : Key) (.str lb))) = G11 at kL hpL fdr
        clear dv1 dv2 eag k910 sl hpH k10 hpG2 e9g kG
        obtain ⟨cc, ff, ts2, gs2, f0, f1, f4, r1, r2⟩ := bk.but hpG kL
        refine ⟨.ref b, rfl, b, .ref ff, rfl, dg f0 "functions" rfl, .ref g, rfl, (by show 1 ≤ sizeLine; decide), fun l2 m2 => ⟨ff, l2, gs2, [.ref g], rfl, rfl, same_upd m2 _ _ f4, upd_same, (by rw [r2.1]; exact Nat.le_trans (show fs.length + 1 ≤ 4 by omega) (by decide)), fun l3 m3 => ?_⟩⟩
        have s2 := same_upd (o := HO.lst [V.ref g]) m2
        have s3 := same_upd (o := HO.lst (gs2 ++ [V.ref g])) m3
        have s23 := s2.trans s3
        have f0' := s23 _ _ f0
        refine ⟨.ref b, rfl, b, _, rfl, .inl ⟨_, .inr "functions", f0', rfl, (by show 2 < sizeLine; decide), rfl⟩, ?_⟩
        have bb : ∀ {a : Addr} {u : HO}, (upd (upd G11 l2 (.lst [V.ref g])) l3 (.lst (gs2 ++ [V.ref g]))) a = some u → (∀ kvs, u = .dK kvs → kvs.length = 6) → a ≠ b := fun e n q => by
          rw [q, f0'] at e
          have := n _ (Option.some.inj e).symm
          simp at this
        have tk : ∀ a xs, SqT K G11 a xs → SqT K (upd (upd (upd G11 l2 (.lst [V.ref g])) l3 (.lst (gs2 ++ [V.ref g]))) b (.dK (putK [(.inr "cells", .ref cc), (.inr "functions", .ref ff)] (.inr "functions" : Key) (.ref l3)))) a xs := fun a xs h => sqT_dk f0' But.upd (same_sqT s23 h)
        have kd : ∀ (v : V) (a : Addr) (kvs : List (Key × V)), v = .ref a → G11 a = some (.dK kvs) → kvs.length = 6 → (upd (upd (upd G11 l2 (.lst [V.ref g])) l3 (.lst (gs2 ++ [V.ref g]))) b (.dK (putK [(.inr "cells", .ref cc), (.inr "functions", .ref ff)] (.inr "functions" : Key) (.ref l3)))) a = some (.dK kvs) := fun v a kvs _ e n => by
          have e2 := s23 _ _ e
          rw [upd_ne (bb e2 (fun k2 e3 => by cases e3; exact n))]
          exact e2
        refine ⟨_, _, _, rfl, fun x u e n => ?_, ?_, ?_, fs ++ [⟨wd, mn, d1, d2, cost, lb⟩], ⟨cc, l3, ts2, gs2 ++ [.ref g], upd_same, ?_, ?_, r1.mono fun v x h => cellT_of tk h, rows_snoc (r2.mono fun v F h => fdrAt_of tk (kd v) h) (fdrAt_of tk (kd _) fdr)⟩, ⟨ok.lc, ?_, ok.cn, fun i F e => ?_⟩, ?_⟩
        · rw [upd_ne (ne_of_none e nbH)]
          exact s23 _ _ (kL _ _ (bG _ _ e n) n)
        · exact pool_ne (hpL.same s23) npb
        · rw [upd_ne nwb]
          exact s23 _ _ (kL _ _ eG nw)
        · rw [upd_ne (bb (s23 _ _ f1) (fun k e => by cases e))]
          exact s23 _ _ f1
        · rw [upd_ne (bb upd_same (fun k e => by cases e))]
          exact upd_same
        · rw [List.length_append, lf]
          show j + 1 ≤ 3
          omega
        · by_cases hi : i < fs.length
          · rw [List.getElem?_append_left hi] at e
            rw [List.take_append_of_le_length (by omega)]
            exact ok.fn i F e
          · have hi2 : i = fs.length := by
              have := (List.getElem?_eq_some_iff.mp e).1
              rw [List.length_append] at this
              simp at this
              omega
            rw [hi2, List.getElem?_append_right (Nat.le_refl _), Nat.sub_self] at e
            cases e
            rw [hi2, List.take_left', lf]
            · exact ⟨hwd, wn _ (List.mem_of_getElem? hwd), by show mn ≤ 2; omega, gd1, wr2, c0, c9, hlb⟩
            · rfl
        · rw [List.length_append, lf]
          rfl
      · obtain ⟨y5, y6, y7, rfl, bG, hpG, eG, fs, bk, ok, lf⟩ := hW
        exact ⟨.ref b, rfl, q b words cells fs G bG hpG lw wn wnd wln bk ok (by rw [lf]; show 1 ≤ (1 + k).toNat; omega) nbH⟩
end
/-! ### displays of data -/
/-- G has all that is new in H' -/
def NewIn (H H' G : Hp) : Prop := ∀ b o, H b = none → H' b = some o → G b = some o
/-- te makes a datum d at the slots σ, whatever is there; it stands in each heap that has what is new -/
def Dat (K : PySem.W.Frag) (te : TE) (σ : L2.St) (d : PyData) : Prop := ∀ (H : Hp) (Q : VK), (∀ v H', Same H H' → (∀ G, NewIn H H' G → Dp K G v d) → Q v H') → te σ H Q
def DatA (K : PySem.W.Frag) (ta : TA) (σ : L2.St) (ds : List PyData) : Prop := ∀ (H : Hp) (Q : List V → Hp → Prop), (∀ vs H', Same H H' → (∀ G, NewIn H H' G → DpAll K G vs ds) → Q vs H') → ta σ H Q
section
variable {K : PySem.W.Frag} {σ : L2.St}
theorem dat_non : Dat K (tC .non) σ .none := fun H Q q => q _ H (Same.refl H) fun _ _ => .non
theorem dat_bl {b : Bool} : Dat K (tC (.bl b)) σ (.bool b) := fun H Q q => q _ H (Same.refl H) fun _ _ => .bl b
theorem dat_int {i : Int} : Dat K (tC (.int i)) σ (.int i) := fun H Q q => q _ H (Same.refl H) fun _ _ => .int i
theorem dat_neg {i : Int} : Dat K (tUn (rU fun i => .int (-i)) (tC (.int i))) σ (.int (-i)) := fun H Q q => ⟨_, rfl, q _ H (Same.refl H) fun _ _ => .int _⟩
theorem dat_str {z : Str} : Dat K (tC (.str z)) σ (.str z) := fun H Q q => q _ H (Same.refl H) fun _ _ => .str z
theorem da_nil : DatA K tNil σ [] := fun H Q q => q _ H (Same.refl H) fun _ _ => .nil
theorem da_cons {te : TE} {ta : TA} {d : PyData} {ds : List PyData} (h : Dat K te σ d) (r : DatA K ta σ ds) : DatA K (tCons te ta) σ (d :: ds) := fun H Q q => h H _ fun v H1 s1 hv => r H1 _ fun vs H2 s2 hs => q _ H2 (s1.trans s2) fun G g =>
  .cons (hv G fun b o n e => g b o n (s2 _ _ e)) (hs G fun b o n e => g b o (s1.free n) e)
theorem newIn_self {H H' : Hp} : NewIn H H' H' := fun _ _ _ e => e
theorem dat_tup {ta : TA} {ds : List PyData} (h : DatA K ta σ ds) (n : ds.length ≤ sizeLine) : Dat K (tTup ta) σ (.tuple ds) := fun H Q q => h H _ fun vs H1 s1 hs => ⟨by rw [dpA_len (hs H1 newIn_self)]; exact n, fun p np => q _ _ (s1.trans (same_upd np)) fun G g =>
  .tup (.inl (.inl (g p _ (s1.free np) upd_same))) (hs G fun b o n e => g b o n (same_upd np _ _ e))⟩
theorem dat_lst {ta : TA} {ds : List PyData} (h : DatA K ta σ ds) (n : ds.length ≤ sizeLine) : Dat K (tLst ta) σ (.list ds) := fun H Q q => h H _ fun vs H1 s1 hs => ⟨by rw [dpA_len (hs H1 newIn_self)]; exact n, fun p np => q _ _ (s1.trans (same_upd np)) fun G g =>
  .lst (.inl (.inl (g p _ (s1.free np) upd_same))) (hs G fun b o n e => g b o n (same_upd np _ _ e))⟩
/-- a new list, with its items -/
theorem lst_new {ta : TA} {ds : List PyData} (h : DatA K ta σ ds) (n : ds.length ≤ sizeLine) (H : Hp) (Q : VK) (q : ∀ l xs H', Same H H' → H' l = some (.lst xs) → DpAll K H' xs ds → Q (.ref l) H') : tLst ta σ H Q :=
  h H _ fun vs H1 s1 hs => ⟨by rw [dpA_len (hs H1 newIn_self)]; exact n, fun p np => q p vs _ (s1.trans (same_upd np)) upd_same (hs _ fun b o n e => same_upd np _ _ e)⟩
theorem a_consP {te : TE} {ta : TA} {H : Hp} {Q : List V → Hp → Prop} (Pr : V → Hp → Prop) (h : ∀ Q' : VK, (∀ v H', Pr v H' → Q' v H') → te σ H Q') (k : ∀ v H1, Pr v H1 → ta σ H1 fun vs H2 => Q (v :: vs) H2) : tCons te ta σ H Q := h _ k
/-- a list at t that grows: its items stand whatever is written at t -/
def Grows (K : PySem.W.Frag) (t : Addr) (ds : List PyData) (H : Hp) : Prop := ∃ xs, H t = some (.lst xs) ∧ ∀ G : Hp, (∀ b o, H b = some o → b ≠ t → G b = some o) → DpAll K G xs ds
theorem q_append {te : TE} {tz : TS} {D : Ends} {H : Hp} {t : Addr} {ds : List PyData} {d : PyData} {i : Nat} (at_ : σ[i]? = some (some (.ref t))) (g : Grows K t ds H) (hd : Dat K te σ d) (n : ds.length < sizeLine)
    (k : ∀ H', (∀ b o, H b = some o → b ≠ t → H' b = some o) → Grows K t (ds ++ [d]) H' → tz D σ H') : tSeq (tDrop (tBM K "list" rAppend (tVar i) (tCons te tNil))) tz D σ H := by
  obtain ⟨xs, et, hx⟩ := g
  refine ⟨.ref t, at_, .inl ⟨rfl, xs, .inl (.inl et)⟩, hd H _ fun v H1 s1 hv => ?_⟩
  refine ⟨t, xs, v, rfl, rfl, s1 _ _ et, by rw [dpA_len (hx H fun _ _ e _ => e)]; exact n, k _ (fun b o e nb => ?_) ⟨xs ++ [v], upd_same, fun G ag => ?_⟩⟩
  · rw [upd_ne nb]
    exact s1 _ _ e
  · refine dpA_app (hx G fun b o e nb => ag b o (by rw [upd_ne nb]; exact s1 _ _ e) nb) (.cons (hv G fun b o nn e => ?_) .nil)
    have nb : b ≠ t := fun q => by
      rw [q, et] at nn
      cases nn
    exact ag b o (by rw [upd_ne nb]; exact e) nb
end
/-! ### words for a law -/
theorem same_but {p : Addr} {H H1 H2 : Hp} (s : Same H H1) (n : H p = none) (h2 : But p H1 H2) : Same H H2 := fun b o e => h2 b o (s b o e) (ne_of_none e n)
theorem turns {L i : Nat} (h : i < (if (if (2 : Int) < (L : Int) then (2 : Int) else (L : Int)) > 1 then (if (2 : Int) < (L : Int) then (2 : Int) else (L : Int)) else 1).toNat) : i ≤ 1 ∧ (i < L ∨ L = 0) := by
  split at h <;> split at h <;> omega
theorem dpL {K : PySem.W.Frag} {H : Hp} {t : Addr} {xs : List V} {ds : List PyData} (n : H t = none) (h : DpAll K H xs ds) : Dp K (upd H t (.lst xs)) (.ref t) (.list ds) := .lst (.inl (.inl upd_same)) (dpA_same (same_upd n) h)
theorem range_bounds {L : Nat} : -(2 ^ 62) ≤ (if (if (2 : Int) < (L : Int) then (2 : Int) else (L : Int)) > 1 then (if (2 : Int) < (L : Int) then (2 : Int) else (L : Int)) else 1) ∧ (if (if (2 : Int) < (L : Int) then (2 : Int) else (L : Int)) > 1 then (if (2 : Int) < (L : Int) then (2 : Int) else (L : Int)) else 1) < 2 ^ 62 := by
  split <;> split <;> omega
theorem op_P {r : R2} {ta tb : TE} {σ : L2.St} {H : Hp} {Q : VK} (P1 : V → Hp → Prop) (P2 : V → Hp → V → Hp → Prop) (h1 : ∀ Q' : VK, (∀ v H', P1 v H' → Q' v H') → ta σ H Q')
    (h2 : ∀ v H1, P1 v H1 → ∀ Q' : VK, (∀ u H', P2 v H1 u H' → Q' u H') → tb σ H1 Q') (k : ∀ v H1 u H2, P1 v H1 → P2 v H1 u H2 → r v u H2 Q) : tOp r ta tb σ H Q :=
  h1 _ fun v H1 p1 => h2 v H1 p1 _ fun u H2 p2 => k v H1 u H2 p1 p2
theorem ifop_P {r : R2} {ta tb : TE} {t1 t2 : TS} {D : Ends} {σ : L2.St} {H : Hp} (P1 : V → Hp → Prop) (P2 : V → Hp → V → Hp → Prop) (h1 : ∀ Q' : VK, (∀ v H', P1 v H' → Q' v H') → ta σ H Q')
    (h2 : ∀ v H1, P1 v H1 → ∀ Q' : VK, (∀ u H', P2 v H1 u H' → Q' u H') → tb σ H1 Q') (k : ∀ v H1 u H2, P1 v H1 → P2 v H1 u H2 → r v u H2 fun x H' => ∃ b, x = .bl b ∧ if b = true then t1 D σ H' else t2 D σ H') : tIfS (tTest (tOp r ta tb)) t1 t2 D σ H :=
  op_P P1 P2 h1 h2 k
theorem ifor_P {r : R2} {ta tb : TE} {c2 : TT} {t1 t2 : TS} {D : Ends} {σ : L2.St} {H : Hp} (P1 : V → Hp → Prop) (P2 : V → Hp → V → Hp → Prop) (h1 : ∀ Q' : VK, (∀ v H', P1 v H' → Q' v H') → ta σ H Q')
    (h2 : ∀ v H1, P1 v H1 → ∀ Q' : VK, (∀ u H', P2 v H1 u H' → Q' u H') → tb σ H1 Q') (k : ∀ v H1 u H2, P1 v H1 → P2 v H1 u H2 → r v u H2 fun x H' => ∃ b, x = .bl b ∧ if b = true then (if true = true then t1 D σ H' else t2 D σ H') else tIfS c2 t1 t2 D σ H') : tIfS (tOr (tTest (tOp r ta tb)) c2) t1 t2 D σ H :=
  h1 _ fun v H1 p1 => h2 v H1 p1 _ fun u H2 p2 => k v H1 u H2 p1 p2
/-! ### Book.__init__ -/
/-- an argument that is a list or a tuple of items, or neither -/
inductive InD (α : Type) where
  | no
  | seq (p : Addr) (xs : List V) (l : List α)
def InAt {α : Type} (K : PySem.W.Frag) (R : Hp → V → α → Prop) (H : Hp) (v : V) : InD α → Prop
  | .no => NoSeq K H v
  | .seq p xs l => v = .ref p ∧ (SqL K H p xs ∨ SqT K H p xs) ∧ Items (R H) xs l ∧ l.length ≤ 20
def fN : FI → Str
  | .fn F => F.nm
  | .odd => ""
/-- names with what stands at them, the last one holds -/
def namesK (l : List (V × FI)) : List (Key × V) := l.foldl (fun acc p => putK acc (.inr (fN p.2) : Key) p.1) []
theorem namesK_snoc (l : List (V × FI)) (p : V × FI) : namesK (l ++ [p]) = putK (namesK l) (.inr (fN p.2) : Key) p.1 := by
  unfold namesK
  rw [List.foldl_append]
  rfl
theorem namesK_len : ∀ (l : List (V × FI)), (namesK l).length ≤ l.length := fun l => by
  have h : ∀ (l : List (V × FI)) (acc : List (Key × V)), (l.foldl (fun acc p => putK acc (.inr (fN p.2) : Key) p.1) acc).length ≤ acc.length + l.length := fun l => by
    induction l with
    | nil => exact fun acc => Nat.le_refl _
    | cons p l ih =>
      intro acc
      have h1 := ih (putK acc (.inr (fN p.2) : Key) p.1)
      have h2 := length_putK acc (.inr (fN p.2) : Key) p.1
      rw [List.foldl_cons, List.length_cons]
      omega
  exact Nat.le_trans (h l []) (by rw [List.length_nil, Nat.zero_add]; exact Nat.le_refl _)
theorem namesK_val (l : List (V × FI)) (z : Str) : ∀ acc : List (Key × V), valV (l.foldl (fun acc p => putK acc (.inr (fN p.2) : Key) p.1) acc) (.inr z : Key) = ((l.reverse.find? fun p => decide (fN p.2 = z)).map (·.1)).or (valV acc (.inr z : Key)) := by
  induction l with
  | nil => exact fun acc => rfl
  | cons p l ih =>
    intro acc
    rw [List.foldl_cons, ih, List.reverse_cons, List.find?_append, valV_put]
    cases h : l.reverse.find? fun p => decide (fN p.2 = z) with
    | some q => rfl
    | none =>
      rw [Option.none_or]
      by_cases e : fN p.2 = z
      · rw [if_pos (by rw [e]), List.find?_cons_of_pos (by exact decide_eq_true e)]
        rfl
      · rw [if_neg (fun q => e (Sum.inr.inj q).symm), List.find?_cons_of_neg (by simpa using e)]
        rfl
/-- how the Book stands when it is made -/
def BookLeft (K : PySem.W.Frag) (H : Hp) (CK a dx : Addr) (xs ys : List V) (js : List FI) : Prop := ∃ t1 t2 D, H a = some (.ins CK dx [("_cells", .ref t1), ("_functions", .ref t2), ("_by_name", .ref D)]) ∧ SqT K H t1 xs ∧ SqT K H t2 ys ∧ H D = some (.dK (namesK (ys.zip js)))
inductive BErr where
  | cell (i : Option Nat)
  | func (i : Option Nat)
  | many (n : Nat)
def idxV : Option Nat → V
  | none => .non
  | some i => .int (i : Nat)
def bookOut (c : InD CI) (f : InD FI) : Option BErr :=
  match c with
  | .no => some (.cell none)
  | .seq _ _ is =>
    match badC [] 0 is with
    | some i => some (.cell (some i))
    | none =>
      if 6 < is.length then some (.many 6) else
      match f with
      | .no => some (.func none)
      | .seq _ _ js =>
        if js.length = 0 then some (.func none) else
        match badF (kindsK is) [] 0 js with
        | some i => some (.func (some i))
        | none => if 8 < js.length then some (.many 8) else none
def BWish (H : Hp) (CC CN CO : Addr) (E : XK) (ok : Prop) : Option BErr → Prop
  | some (.cell i) => EWish H CC "index" (idxV i) E
  | some (.func i) => EWish H CN "index" (idxV i) E
  | some (.many n) => EWish H CO "limit" (.int (n : Nat)) E
  | none => ok
theorem EWish.back {H H1 : Hp} {C : Addr} {f : Str} {v : V} {E : XK} (h : EWish H C f v E) (s : Same H H1) : EWish H1 C f v E := fun H2 dd H' s2 l => h H2 dd H' (s.trans s2) l
abbrev sBook : Stmt := inClass (topS 59) 0
theorem scBook : FnScope ["self", "cells", "functions", "function"] ["self", "cells", "functions"] (defScope sBook) := ⟨rfl, rfl, rfl, by decide +kernel, rfl, by decide +kernel, by decide +kernel⟩
def spBook (K : PySem.W.Frag) (CK C CF CC CN CO : Addr) : Sp := fun vs H Q E => ∃ (a dx : Addr) (vc vf : V) (c : InD CI) (f : InD FI), vs = [.ref a, vc, vf] ∧ H a = some (.ins CK dx []) ∧ InAt K (fun H => CItem K H C) H vc c ∧ InAt K (fun H => FItem K H CF) H vf f ∧
  BWish H CC CN CO E (∀ H', But a H H' → (∀ p xs is r ys js, c = .seq p xs is → f = .seq r ys js → BookLeft K H' CK a dx xs ys js) → Q .non H') (bookOut c f)
structure BookC (K : PySem.W.Frag) (CK : Addr) : Prop where
  cl : Cls K CK
  n1 : NoAttr K CK "_cells"
  n2 : NoAttr K CK "_functions"
  n3 : NoAttr K CK "_by_name"
theorem good_fns {kvs : List (Key × V)} : ∀ {js : List FI} {avs : List (Key × V)} {i : Nat}, badF kvs avs i js = none → ∀ (j : Nat) c, js[j]? = some c → ∃ F, c = FI.fn F
  | [], _, _, _, _, _, e => by simp at e
  | .odd :: _, _, _, h, _, _, _ => by cases h
  | .fn F :: r, avs, i, h, j, c, e => by
    unfold badF at h
    split at h
    · cases j with
      | zero =>
        cases e
        exact ⟨F, rfl⟩
      | succ j => exact good_fns h j c e
    · cases h
theorem q_fldTup {K : PySem.W.Frag} {a C dx p : Addr} {fs : List (Str × V)} {f : Str} {i : Nat} {xs : List V} {tz : TS} {D : Ends} {σ : L2.St} {H : Hp} (at0 : σ[0]? = some (some (V.ref a))) (ati : σ[i]? = some (some (V.ref p))) (e : H a = some (.ins C dx fs)) (hs : SqL K H p xs ∨ SqT K H p xs) (cl : Cls K C) (no : NoAttr K C f) (few : fs.length < 1000)
    (k : ∀ G t, But a H G → G a = some (.ins C dx (putF f (.ref t) fs)) → SqT K G t xs → tz D σ G) : tSeq (sFld K (tVar 0) (tCB (fun xs H Q => ∃ p ys, xs = [V.ref p] ∧ ((SqL K H p ys ∧ ∀ l, H l = none → Q (V.ref l) (upd H l (.tup ys))) ∨ (SqT K H p ys ∧ Q (V.ref p) H))) (tCons (tVar i) tNil)) f) tz D σ H := by
  refine ⟨.ref p, ati, p, xs, rfl, ?_⟩
  rcases hs with hs | hs
  · refine .inl ⟨hs, fun l nl => ⟨.ref a, at0, a, C, dx, fs, rfl, same_upd nl _ _ e, cl, no, few, k _ _ (fun b o h n => ?_) upd_same (.inl (.inl ?_))⟩⟩
    · rw [upd_ne n]
      exact same_upd nl _ _ h
    · rw [upd_ne (ne_of_none e nl).symm]
      exact upd_same
  · exact .inr ⟨hs, .ref a, at0, a, C, dx, fs, rfl, e, cl, no, few, k _ _ But.upd upd_same (sqT_aside e (fun b o h n => But.upd b o h n) hs)⟩
section
variable {P : Program} {w : World} {K : PySem.W.Frag} {mg : Str → Option Value} {base : Heap}
theorem ok_book {CK C CF CC CN CO f fA fB : Addr} {fd dA dB : FuncData} (F : Fun K "__init__" "Book.__init__" sBook f fd) (M : Blt mg) (BC : BookC K CK) (FC : FldC K CF)
    (GA : FnOk P w K mg base (L2.CX P w) 3 fA dA ["cells"] (spCC K C CC CO)) (kA : PySem.W.keepIn K (.ref fA) = true) (bA : Binds K dA ["cells"] []) (gA : mg "_check_cells" = some (.ref fA))
    (GB : FnOk P w K mg base (L2.CX P w) 10 fB dB ["cells", "functions"] (spCFn K C CF CN CO)) (kB : PySem.W.keepIn K (.ref fB) = true) (bB : Binds K dB ["cells", "functions"] []) (gB : mg "_check_functions" = some (.ref fB)) :
    FnOk P w K mg base (L2.CX P w) 11 f fd ["self", "cells", "functions"] (spBook K CK C CF CC CN CO) := by
  refine F.okX scBook (fun vs H Q E h => ?_) (fun cdv A outer s H vs Q E hr h => ?_)
  · obtain ⟨a, dx, vc, vf, c, fi, rfl, _⟩ := h
    rfl
  · obtain ⟨a, dx, vc, vf, c, fi, rfl, ea, hc, hf, wish⟩ := h
    have hr3 : Room 3 (A.deeper (envOfC "Book.__init__" (defScope sBook) s.heap.objs.size f cdv)) := hr.mono (by decide)
    refine ⟨_, pss_cons (ps_expr (pe_call (E := E) GA hr3 (by rfl) gA kA bA .nil (passes_call (takes_of rfl rfl rfl rfl) (fun _ _ _ _ h => h)) (pa_cons (pv 1) pa_nil)))
      (pss_cons (ps_expr (pe_call (E := E) GB hr (by rfl) gB kB bB .nil (passes_call (takes_of rfl rfl rfl rfl) (fun _ _ _ _ h => h)) (pa_cons (pv 1) (pa_cons (pv 2) pa_nil))))
      (pss_cons (ps_fld (pv 0) (pe_callTy call_tuple_of (by rfl) M.tuple (by decide +kernel) (pa_cons (pv 1) pa_nil)) (by rfl))
      (pss_cons (ps_fld (pv 0) (pe_callTy call_tuple_of (by rfl) M.tuple (by decide +kernel) (pa_cons (pv 2) pa_nil)) (by rfl))
      (pss_one (ps_fld (pv 0) (pe_dc (own := [("function", 3)]) (g := gName 3) (wi := iSeqA K (tVar 2)) (tt := tYes) (tk := tFld K (tVar 3) "name") (tv := tVar 3) (by rfl) scBook.nd (pi_seqA (pv 2)) (blkOk_by (own := [("function", 3)]) (N := ["self", "cells", "functions", "function"]) (sc := defScope sBook) (by decide +kernel))
          (fun _ _ _ _ _ => pg_name (i := 3) scBook.nd rfl (Or.inl rfl)) (fun _ _ _ _ _ => pts_nil) (fun _ _ _ _ _ => pe_fld (pv 3) (by rfl)) (fun _ _ _ _ _ => pv 3)) (by rfl)))))), ?_⟩
    refine ⟨vc, rfl, vc, rfl, ?_⟩
    cases c with
    | no => exact .inl ⟨hc, wish⟩
    | seq p xs is =>
    obtain ⟨rfl, hA, hI, h20⟩ := hc
    refine .inr ⟨p, xs, is, rfl, hA, hI, h20, ?_⟩
    cases hb : badC [] 0 is with
    | some i =>
      have e : bookOut (.seq p xs is) fi = some (.cell (some i)) := by
        unfold bookOut
        dsimp only
        rw [hb]
      rw [e] at wish
      exact wish
    | none =>
    by_cases h6 : 6 < is.length
    · have e : bookOut (.seq p xs is) fi = some (.many 6) := by
        unfold bookOut
        dsimp only
        rw [hb]
        dsimp only
        rw [if_pos h6]
      rw [e] at wish
      unfold CWish8
      rw [decide_eq_true h6]
      exact wish
    · unfold CWish8
      rw [decide_eq_false h6]
      refine iteF fun H1 s1 => ?_
      have hI1 := hI.mono fun x c h => h.same s1
      have hA1 := sqA_same hA s1
      refine ⟨.ref p, rfl, vf, rfl, p, xs, is, vf, rfl, hA1, hI1, hb, by omega, ?_⟩
      cases fi with
      | no =>
        have e : bookOut (.seq p xs is) .no = some (.func none) := by
          unfold bookOut
          dsimp only
          rw [hb]
          dsimp only
          rw [if_neg h6]
        rw [e] at wish
        exact .inl ⟨NoSeq.same hf s1, EWish.back wish s1⟩
      | seq r ys js =>
      obtain ⟨rfl, hY, hJ, j20⟩ := hf
      refine .inr ⟨r, ys, js, rfl, sqA_same hY s1, hJ.mono fun x c h => h.same s1, j20, ?_⟩
      have e1 : bookOut (.seq p xs is) (.seq r ys js) = (if js.length = 0 then some (.func none) else
        match badF (kindsK is) [] 0 js with
        | some i => some (.func (some i))
        | none => if 8 < js.length then some (.many 8) else none) := by
        unfold bookOut
        dsimp only
        rw [hb]
        dsimp only
        rw [if_neg h6]
      unfold FWish8
      by_cases hz : js.length = 0
      · rw [if_pos hz] at e1
        rw [e1] at wish
        rw [decide_eq_true hz]
        exact iteT (EWish.back wish s1)
      · rw [if_neg hz] at e1
        rw [decide_eq_false hz]
        refine iteF ?_
        cases hbf : badF (kindsK is) [] 0 js with
        | some i =>
          rw [hbf] at e1
          rw [e1] at wish
          exact EWish.back wish s1
        | none =>
        rw [hbf] at e1
        dsimp only at e1
        by_cases h8 : 8 < js.length
        · rw [if_pos h8] at e1
          rw [e1] at wish
          rw [decide_eq_true h8]
          exact iteT (EWish.back wish s1)
        · rw [if_neg h8] at e1
          rw [e1] at wish
          rw [decide_eq_false h8]
          refine iteF fun H2 s2 => ?_
          have t2 := s1.trans s2
          have keepA : ∀ {b : Addr} {o : HO} {H' : Hp}, But a H H' → H b = some o → b ≠ a → H' b = some o := fun k e n => k _ _ e n
          have seqL : ∀ {H' : Hp}, But a H H' → ∀ {p : Addr} {xs : List V}, SqL K H p xs → SqL K H' p xs := fun k _ _ h => sqL_aside ea (fun b o e n => k b o e n) h
          have seqT : ∀ {H' : Hp}, But a H H' → ∀ {p : Addr} {xs : List V}, SqT K H p xs → SqT K H' p xs := fun k _ _ h => sqT_aside ea (fun b o e n => k b o e n) h
          have nA : ∀ {b : Addr} {o : HO} {H' : Hp}, Same H H' → H' b = none → a ≠ b := fun s n => ne_of_none (s _ _ ea) n
          refine q_fldTup (i := 1) rfl rfl (t2 _ _ ea) (sqA_same hA t2) BC.cl BC.n1 (by show 0 < 1000; decide) fun H3 t1 b3 e3 q3 => ?_
          have k3 : But a H H3 := (But.of t2).trans b3
          refine q_fldTup (i := 2) rfl rfl e3 (hY.imp (fun h => seqL k3 h) (fun h => seqT k3 h)) BC.cl BC.n2 (by show 1 < 1000; decide) fun H4 t2 b4 e4 q4 => ?_
          have k4 := k3.trans b4
          have q3 : SqT K H4 t1 xs := sqT_aside e3 (fun b o e n => b4 b o e n) q3
          obtain ⟨Pc, hPc⟩ : ∃ Pc : Addr → Nat → Hp → Prop, Pc = fun D i H' => But a H H' ∧ H' a = some (.ins CK dx [("_cells", .ref t1), ("_functions", .ref t2)]) ∧ SqT K H' t1 xs ∧ SqT K H' t2 ys ∧ H' D = some (.dK (namesK ((ys.zip js).take i))) := ⟨_, rfl⟩
          have hc0 : ∀ D, H4 D = none → Pc D 0 (upd H4 D (.dK [])) := fun D hD => by
            subst hPc
            have nD := ne_of_none e4 hD
            exact ⟨fun b o e n => same_upd hD _ _ (k4 _ _ e n), by rw [upd_ne nD]; exact e4, same_sqT (same_upd hD) q3, same_sqT (same_upd hD) q4, by rw [List.take_zero]; exact upd_same⟩
          refine ⟨.ref r, rfl, r, rfl, ?_⟩
          rcases hY with hY | hY
          case' inl => refine .inl ⟨⟨_, seqL k4 hY⟩, fun D hD => ?_⟩; refine walk_gen (walk_list (K := K) (a := r) (xs := ys)) (Pc D) (hc0 D hD) (fun i H' _ pr => by subst hPc; exact seqL pr.1 hY) (fun i x G1 G2 hi pr y => ?_) (fun G1 pr => ?_)
          case' inr => refine .inr ⟨⟨_, seqT k4 hY⟩, fun D hD => ?_⟩; refine walk_gen (walk_tup (K := K) (a := r) (xs := ys)) (Pc D) (hc0 D hD) (fun i H' _ pr => by subst hPc; exact seqT pr.1 hY) (fun i x G1 G2 hi pr y => ?_) (fun G1 pr => ?_)
          all_goals subst hPc
          case' inl.refine_1 | inr.refine_1 =>
            obtain ⟨k5, e5, u3, u4, eD⟩ := pr
            obtain ⟨rfl, hx⟩ := y
            obtain ⟨c, hc, hx1⟩ := hJ.at hx
            obtain ⟨G, rfl⟩ := good_fns hbf _ _ hc
            have hz : (ys.zip js)[i]? = some (x, .fn G) := List.getElem?_zip_eq_some.mpr ⟨hx, hc⟩
            obtain ⟨b, rfl, ok, dy, gs, vr, wa, eb, l1, _⟩ := hx1
            have nb : b ≠ a := fun q => by
              rw [q, ea] at eb
              cases eb
              cases l1
            have eb5 := k5 _ _ eb nb
            refine And.intro rfl ?_
            unfold tYes
            refine iteT ?_
            have jl := (List.getElem?_eq_some_iff.mp hc).1
            refine ⟨.ref b, rfl, b, CF, dy, gs, _, rfl, eb5, FC.cl, FC.n1, l1, .ref b, rfl, _, .inr G.nm, rfl, eD, Nat.lt_of_le_of_lt (show _ ≤ 20 from Nat.le_trans (namesK_len _) (by rw [List.length_take, List.length_zip]; omega)) (by decide), ?_⟩
            have nD : a ≠ D := ne_of_none e4 hD
            refine ⟨fun b o e n => ?_, by rw [upd_ne nD]; exact e5, sqT_dk eD But.upd u3, sqT_dk eD But.upd u4, ?_⟩
            · have := k4 _ _ e n
              rw [upd_ne (ne_of_none this hD)]
              exact k5 _ _ e n
            · rw [take_snoc hz, namesK_snoc]
              exact upd_same
          all_goals
            obtain ⟨k5, e5, u3, u4, eD⟩ := pr
            have full : (ys.zip js).take ys.length = ys.zip js := List.take_of_length_le (by rw [List.length_zip]; omega)
            rw [full] at eD
            have ad : a ≠ D := ne_of e5 eD (fun z => nomatch z)
            refine ⟨.ref a, rfl, a, CK, dx, _, rfl, e5, BC.cl, BC.n3, (by show 2 < 1000; decide), wish _ (k5.trans But.upd) fun p' xs' is' r' ys' js' ec ef => ?_⟩
            cases ec
            cases ef
            exact ⟨t1, t2, D, upd_same, sqT_aside e5 (fun b o e n => But.upd b o e n) u3, sqT_aside e5 (fun b o e n => But.upd b o e n) u4, by rw [upd_ne ad.symm]; exact eD⟩
end
/-! ### own in, not in, len, [] -/
/-- an own method by which an operation goes -/
structure Op1 (P : Program) (w : World) (K : PySem.W.Frag) (mg : Str → Option Value) (base : Heap) (CX : CXT) (n : Nat) (C : Addr) (name : String) (g : Addr) (fd : FuncData) (ps : List Str) (sp : Sp) : Prop where
  at_ : PySem.W.findIn K (.ref C) name = some (some (.ref g))
  fn : PySem.W.isFn K (.ref g) = true
  fi : PySem.W.fnIn K g = true
  ok : FnOk P w K mg base CX n g fd ps sp
  b : Binds K fd ps []
section
variable {X : Cx} {CX : CXT} {n : Nat} {C g : Addr} {fd : FuncData} {ps : List Str} {sp : Sp} {E : XK}
/-- y in x, by x's own __contains__ -/
def rOwnIn (C : Addr) (sp : Sp) (E : XK) (neg : Bool) : R2 := fun y x H Q => ∃ a dx fs, x = .ref a ∧ H a = some (.ins C dx fs) ∧ sp [x, y] H (fun v H' => ∃ k, v = .bl k ∧ Q (.bl (if neg = true then !k else k)) H') E
theorem op_ownIn (O : Op1 X.prog X.w X.K X.mg X.base CX n C "__contains__" g fd ps sp) (hr : Room n X.A) (hx : Passes CX X E) : OpR X (compareOp .In) (rOwnIn C sp E false) := by
  intro pins s σ H y x u v Q I ry rx h
  obtain ⟨a, dx, fs, rfl, ea, q⟩ := h
  cases (show v = Value.ref a from rx)
  obtain ⟨mA, J, _⟩ := ins_get I.hok ea
  obtain ⟨od, J, _⟩ := J.look
  obtain ⟨m, hF⟩ := I.fr
  refine PySem.W.in_K hF I.ok.mod.kin J O.at_ O.fn (wpAny_mono (wpAny_call (SlX.run_at (us := [.ref a, u]) (ws := [.ref a, y]) (O.ok.raw O.b .nil) hr I.env0 hx I (.cons rfl (.cons ry .nil)) q)) (fun w' s' z => ?_) fun _ _ z => z)
  obtain ⟨z', H', I', rz, k, ez, qz⟩ := z
  subst ez
  cases rz
  exact wpAny_truthy_bool ⟨.bl k, H', I', rfl, qz⟩
theorem op_ownNotIn (O : Op1 X.prog X.w X.K X.mg X.base CX n C "__contains__" g fd ps sp) (hr : Room n X.A) (hx : Passes CX X E) : OpR X (compareOp .NotIn) (rOwnIn C sp E true) := by
  intro pins s σ H y x u v Q I ry rx h
  obtain ⟨a, dx, fs, rfl, ea, q⟩ := h
  cases (show v = Value.ref a from rx)
  obtain ⟨mA, J, _⟩ := ins_get I.hok ea
  obtain ⟨od, J, _⟩ := J.look
  obtain ⟨m, hF⟩ := I.fr
  refine PySem.W.notIn_K hF I.ok.mod.kin J O.at_ O.fn (wpAny_mono (wpAny_call (SlX.run_at (us := [.ref a, u]) (ws := [.ref a, y]) (O.ok.raw O.b .nil) hr I.env0 hx I (.cons rfl (.cons ry .nil)) q)) (fun w' s' z => ?_) fun _ _ z => z)
  obtain ⟨z', H', I', rz, k, ez, qz⟩ := z
  subst ez
  cases rz
  exact wpAny_truthy_bool ⟨.bl (!k), H', I', rfl, qz⟩
/-- len(x), by x's own __len__ -/
def rOwnLen (C : Addr) (sp : Sp) (E : XK) : List V → Hp → VK → Prop := fun xs H Q => ∃ a dx fs, xs = [V.ref a] ∧ H a = some (.ins C dx fs) ∧ sp [.ref a] H (fun v H' => ∃ k : Nat, v = .int (k : Nat) ∧ k < 2 ^ 63 ∧ Q v H') E
theorem call_ownLen (O : Op1 X.prog X.w X.K X.mg X.base CX n C "__len__" g fd ps sp) (hr : Room (n + 1) X.A) (hx : Passes CX X E) : CallR X (.builtin "len") (rOwnLen C sp E) := by
  intro pins s σ H xs us Q I r h
  obtain ⟨a, dx, fs, rfl, ea, q⟩ := h
  obtain ⟨u, rfl, rx⟩ := vals1 r
  cases (show u = Value.ref a from rx)
  obtain ⟨mA, J, _⟩ := ins_get I.hok ea
  obtain ⟨od, J, _⟩ := J.look
  obtain ⟨m, hF⟩ := I.fr
  refine PySem.W.len_K hF I.ok.mod.kin J O.at_ O.fn (wpAny_mono (wpAny_call (SlX.run_at (us := [.ref a]) (ws := [.ref a]) (O.ok.raw O.b .nil) hr.in1 I.env0.in1 hx I (.cons rfl .nil) q)) (fun w' s' z => ?_) fun _ _ z => z)
  obtain ⟨z', H', I', rz, k, ez, hk, qz⟩ := z
  subst ez
  obtain ⟨t, rfl⟩ := rz
  refine ⟨⟨Int.natCast_nonneg k, by omega⟩, .int (k : Nat), H', I'.tok _, ⟨_, rfl⟩, qz⟩
/-- x[y], by x's own __getitem__ -/
def tOwnSub (C : Addr) (sp : Sp) (E : XK) (td ty : TE) : TE := fun σ H Q => td σ H fun x H1 => ty σ H1 fun y H2 => ∃ a dx fs, x = .ref a ∧ H2 a = some (.ins C dx fs) ∧ sp [x, y] H2 Q E
theorem pe_ownSub {o i : Expr} {pos : Pos} {td ty : TE} (O : Op1 X.prog X.w X.K X.mg X.base CX n C "__getitem__" g fd ps sp) (hr : Room (n + 1) X.A) (hx : Passes CX X E) (ho : PE X o td) (hi : PE X i ty)
    (hsl : ∀ (a : Addr) (v : Value), subscripted i true (.ref a) v = runValue (.builtin "lifetime.subscript" ⟨[.ref a, v], []⟩)) : PE X (.Subscript o i pos) (tOwnSub C sp E td ty) := by
  refine ⟨fun pins s σ H Q I h => ?_⟩
  refine Subscript_ (thn (ho.run pins s σ H _ I h) fun u s1 ⟨x, H1, I1, rx, q1⟩ => thn (hi.run pins s1 σ H1 _ I1 q1) fun iv s2 ⟨y, H2, I2, ry, a, dx, fs, ex, ea, q2⟩ => ?_)
  subst ex
  obtain rfl : u = Value.ref a := rx
  obtain ⟨mA, J, _⟩ := ins_get I2.hok ea
  obtain ⟨od, J, _⟩ := J.look
  obtain ⟨m, hF⟩ := I2.fr
  exact PySem.W.sub_K hF I2.ok.mod.kin J O.at_ O.fi O.fn (wpAny_call (SlX.run_at (us := [.ref a, iv]) (ws := [.ref a, y]) (O.ok.raw O.b .nil) hr.in1 I2.env0.in1 hx I2 (.cons rfl (.cons ry .nil)) q2)) (hsl a iv)
end
/-! ### errors of KeyError -/
def famK : Fam := ⟨"LookupError", "LookupError.__new__", "KeyError", "KeyError.__init__", [.type "KeyError", .type "LookupError", .type "Exception", .type "BaseException", .type "object"]⟩
theorem ini_key : ExG.Ini "KeyError" "KeyError.__init__" := ⟨PyProof.Rows.excClass_KeyError.init, PyProof.Rows.excClass_KeyError.initEntry, PyProof.Rows.excClass_KeyError.initKind, PyProof.Rows.excClass_KeyError.initSplit, PyProof.Rows.excClass_KeyError.initSig, PyProof.Rows.excClass_KeyError.notStar⟩
theorem famK_ok : FamOk famK where
  new := ⟨_, _, PySem.F.excBase_LookupError⟩
  cha := ⟨by decide +kernel, by decide +kernel, by decide +kernel⟩
  ini := ini_key
  has := by decide +kernel
  pas := fun self => by kernel_rfl
  obj := by decide +kernel
/-! ### a whole Book, by its data -/
def CRow (H : Hp) (C : Addr) (v : V) (c : Str × Str) : Prop := ∃ b, v = .ref b ∧ CellAt H C b c.1 c.2
def FRow (K : PySem.W.Frag) (H : Hp) (CF CL : Addr) (v : V) (F : FX) : Prop := ∃ b, v = .ref b ∧ FunFull K H CF CL b F
def byN (ys : List V) (fs : List FX) : List (Key × V) := namesK (ys.zip (fs.map fun F => FI.fn F.d))
def BookAt (K : PySem.W.Frag) (H : Hp) (CK C CF CL a : Addr) (cells : List (Str × Str)) (fs : List FX) : Prop := ∃ dx t1 t2 D xs ys, H a = some (.ins CK dx [("_cells", .ref t1), ("_functions", .ref t2), ("_by_name", .ref D)]) ∧ SqT K H t1 xs ∧ Rows (CRow H C) xs cells ∧ SqT K H t2 ys ∧ Rows (FRow K H CF CL) ys fs ∧ H D = some (.dK (byN ys fs)) ∧ cells.length ≤ 6 ∧ fs.length ≤ 8
theorem BookAt.same {K : PySem.W.Frag} {H H' : Hp} {CK C CF CL a : Addr} {cells : List (Str × Str)} {fs : List FX} (h : BookAt K H CK C CF CL a cells fs) (s : Same H H') : BookAt K H' CK C CF CL a cells fs := by
  obtain ⟨dx, t1, t2, D, xs, ys, e, h1, r1, h2, r2, h3, l⟩ := h
  refine ⟨dx, t1, t2, D, xs, ys, s _ _ e, same_sqT s h1, r1.mono fun v c h => ?_, same_sqT s h2, r2.mono fun v F h => ?_, s _ _ h3, l⟩
  · obtain ⟨b, e, h⟩ := h
    exact ⟨b, e, h.same s⟩
  · obtain ⟨b, e, h⟩ := h
    exact ⟨b, e, h.same s⟩
def atName (fs : List FX) (z : Str) : Option FX := fs.reverse.find? fun F => decide (F.d.nm = z)
def nameIn (fs : List FX) : PyData → Option FX
  | .str z => atName fs z
  | _ => none
theorem atName_snoc (fs : List FX) (F : FX) (z : Str) : atName (fs ++ [F]) z = if F.d.nm = z then some F else atName fs z := by
  unfold atName
  rw [List.reverse_append]
  show List.find? _ (F :: fs.reverse) = _
  by_cases e : F.d.nm = z
  · rw [if_pos e, List.find?_cons_of_pos (by exact decide_eq_true e)]
  · rw [if_neg e, List.find?_cons_of_neg (by simpa using e)]
theorem atName_nm {fs : List FX} {z : Str} {F : FX} (h : atName fs z = some F) : F.d.nm = z ∧ F ∈ fs := by
  unfold atName at h
  exact ⟨of_decide_eq_true (List.find?_some (p := fun F : FX => decide (F.d.nm = z)) h), List.mem_reverse.mp (List.mem_of_find?_eq_some h)⟩
theorem names_at {R : V → FX → Prop} {ys : List V} {fs : List FX} (r : Rows R ys fs) (z : Str) : ∀ n, n ≤ ys.length →
    (∃ F g, atName (fs.take n) z = some F ∧ valV (namesK ((ys.zip (fs.map fun F => FI.fn F.d)).take n)) (.inr z : Key) = some g ∧ R g F) ∨ (atName (fs.take n) z = none ∧ valV (namesK ((ys.zip (fs.map fun F => FI.fn F.d)).take n)) (.inr z : Key) = none) := by
  intro n
  induction n with
  | zero => exact fun _ => .inr ⟨rfl, rfl⟩
  | succ n ih =>
    intro hn
    obtain ⟨y, hy⟩ : ∃ y, ys[n]? = some y := ⟨_, List.getElem?_eq_getElem (show n < ys.length by omega)⟩
    obtain ⟨F, hf⟩ : ∃ F, fs[n]? = some F := ⟨_, List.getElem?_eq_getElem (show n < fs.length by rw [← r.1]; omega)⟩
    have hz : (ys.zip (fs.map fun F => FI.fn F.d))[n]? = some (y, FI.fn F.d) := List.getElem?_zip_eq_some.mpr ⟨hy, by rw [List.getElem?_map, hf]; rfl⟩
    rw [take_snoc hf, take_snoc hz, atName_snoc, namesK_snoc, valV_put]
    show (∃ G g, (if F.d.nm = z then some F else atName (fs.take n) z) = some G ∧ (if (Sum.inr z : Key) = .inr F.d.nm then some y else valV (namesK ((ys.zip (fs.map fun F => FI.fn F.d)).take n)) (.inr z : Key)) = some g ∧ R g G) ∨ ((if F.d.nm = z then some F else atName (fs.take n) z) = none ∧ (if (Sum.inr z : Key) = .inr F.d.nm then some y else valV (namesK ((ys.zip (fs.map fun F => FI.fn F.d)).take n)) (.inr z : Key)) = none)
    by_cases e : F.d.nm = z
    · rw [if_pos e, if_pos (by rw [e])]
      exact .inl ⟨_, _, rfl, rfl, r.2 n _ _ hy hf⟩
    · rw [if_neg e, if_neg (fun q => e (Sum.inr.inj q).symm)]
      exact ih (by omega)
theorem byN_at {R : V → FX → Prop} {ys : List V} {fs : List FX} (r : Rows R ys fs) (z : Str) : (∃ F g, atName fs z = some F ∧ valV (byN ys fs) (.inr z : Key) = some g ∧ R g F) ∨ (atName fs z = none ∧ valV (byN ys fs) (.inr z : Key) = none) := by
  have h := names_at r z ys.length (Nat.le_refl _)
  rw [List.take_of_length_le (show fs.length ≤ ys.length by rw [r.1]; exact Nat.le_refl _), List.take_of_length_le (by rw [List.length_zip]; omega)] at h
  exact h
/-- the attributes and methods of a Book -/
structure BookK (K : PySem.W.Frag) (CK C CF : Addr) : Prop where
  cl : Cls K CK
  n1 : NoAttr K CK "_cells"
  n2 : NoAttr K CK "_functions"
  n3 : NoAttr K CK "_by_name"
  fc : FldC K CF
  cc : Cls K C
  cn : NoAttr K C "name"
abbrev sGet : Stmt := inClass (topS 59) 4
theorem scGet : FnScope ["self", "at"] ["self", "at"] (defScope sGet) := ⟨rfl, rfl, rfl, by decide +kernel, rfl, by decide +kernel, by decide +kernel⟩
abbrev sHasN : Stmt := inClass (topS 59) 3
theorem scHasN : FnScope ["self", "x"] ["self", "x"] (defScope sHasN) := ⟨rfl, rfl, rfl, by decide +kernel, rfl, by decide +kernel, by decide +kernel⟩
abbrev sBLen : Stmt := inClass (topS 59) 2
theorem scBLen : FnScope ["self"] ["self"] (defScope sBLen) := ⟨rfl, rfl, rfl, by decide +kernel, rfl, by decide +kernel, by decide +kernel⟩
abbrev sAllC : Stmt := inClass (topS 59) 6
theorem scAllC : FnScope ["self"] ["self"] (defScope sAllC) := ⟨rfl, rfl, rfl, by decide +kernel, rfl, by decide +kernel, by decide +kernel⟩
abbrev sBNames : Stmt := inClass (topS 59) 7
theorem scBNames : FnScope ["self", "function"] ["self"] (defScope sBNames) := ⟨rfl, rfl, rfl, by decide +kernel, rfl, by decide +kernel, by decide +kernel⟩
abbrev sBCell : Stmt := inClass (topS 59) 8
theorem scBCell : FnScope ["self", "name", "cell"] ["self", "name"] (defScope sBCell) := ⟨rfl, rfl, rfl, by decide +kernel, rfl, by decide +kernel, by decide +kernel⟩
def GetW (K : PySem.W.Frag) (H : Hp) (CF CL CU : Addr) (v : V) (Q : VK) (E : XK) : Option FX → Prop
  | some F => ∀ g, FunFull K H CF CL g F → Q (.ref g) H
  | none => EWish H CU "name" v E
def spGet (K : PySem.W.Frag) (CK C CF CL CU : Addr) : Sp := fun vs H Q E => ∃ (a : Addr) (v : V) (d : PyData) (cells : List (Str × Str)) (fs : List FX), vs = [.ref a, v] ∧ BookAt K H CK C CF CL a cells fs ∧ Dp K H v d ∧ GetW K H CF CL CU v Q E (nameIn fs d)
def spHasN (K : PySem.W.Frag) (CK C CF CL : Addr) : Sp := fun vs H Q _ => ∃ (a : Addr) (v : V) (d : PyData) (cells : List (Str × Str)) (fs : List FX), vs = [.ref a, v] ∧ BookAt K H CK C CF CL a cells fs ∧ Dp K H v d ∧ Q (.bl (nameIn fs d).isSome) H
def spBLen (K : PySem.W.Frag) (CK C CF CL : Addr) : Sp := fun vs H Q _ => ∃ (a : Addr) (cells : List (Str × Str)) (fs : List FX), vs = [.ref a] ∧ BookAt K H CK C CF CL a cells fs ∧ Q (.int (fs.length : Nat)) H
def spAllC (K : PySem.W.Frag) (CK C CF CL : Addr) : Sp := fun vs H Q _ => ∃ (a : Addr) (cells : List (Str × Str)) (fs : List FX), vs = [.ref a] ∧ BookAt K H CK C CF CL a cells fs ∧ ∀ l xs H', Same H H' → H l = none → H' l = some (.lst xs) → Rows (CRow H' C) xs cells → Q (.ref l) H'
def spBNames (K : PySem.W.Frag) (CK C CF CL : Addr) : Sp := fun vs H Q _ => ∃ (a : Addr) (cells : List (Str × Str)) (fs : List FX), vs = [.ref a] ∧ BookAt K H CK C CF CL a cells fs ∧ ∀ l H', Same H H' → H l = none → H' l = some (.lst ((fs.map fun F => F.d.nm).map V.str)) → Q (.ref l) H'
def cellIn (cells : List (Str × Str)) : PyData → Option (Str × Str)
  | .str z => cells.find? fun c => decide (c.1 = z)
  | _ => none
def CellW (H : Hp) (C CU : Addr) (v : V) (Q : VK) (E : XK) : Option (Str × Str) → Prop
  | some c => ∀ b H', Same H H' → CellAt H' C b c.1 c.2 → Q (.ref b) H'
  | none => EWish H CU "name" v E
def spBCell (K : PySem.W.Frag) (CK C CF CL CU : Addr) : Sp := fun vs H Q E => ∃ (a : Addr) (v : V) (d : PyData) (cells : List (Str × Str)) (fs : List FX), vs = [.ref a, v] ∧ BookAt K H CK C CF CL a cells fs ∧ Dp K H v d ∧ CellW H C CU v Q E (cellIn cells d)
theorem ps_raiseK : True := True.intro
section
variable {P : Program} {w : World} {K : PySem.W.Frag} {mg : Str → Option Value} {base : Heap}
theorem ok_bget {CK C CF CL CU f fU : Addr} {fd dU : FuncData} (F : Fun K "__getitem__" "Book.__getitem__" sGet f fd) (M : Blt mg) (BK : BookK K CK C CF) (TU : ErrO K mg famK "UnknownName" "name" CU fU) (GU : FnOk P w K mg base CX0 1 fU dU ["self", "name"] (spErr CU "name")) (bU : Binds K dU ["self", "name"] []) :
    FnOk P w K mg base (L2.CX P w) 3 f fd ["self", "at"] (spGet K CK C CF CL CU) := by
  refine F.okX scGet (fun vs H Q E h => ?_) (fun cdv A outer s H vs Q E hr h => ?_)
  · obtain ⟨a, v, d, cells, fs, rfl, _⟩ := h
    rfl
  · obtain ⟨a, v, d, cells, fs, rfl, ⟨dx, t1, t2, D, xs, ys, ea, h1, r1, h2, r2, h3, l6, l8⟩, hv, wish⟩ := h
    have one : (1 : Nat) ≤ 1000 := by decide
    refine ⟨_, pss_cons (ps_if (PW.pt (pw_or (pt_not (pt_val (pe_callB call_isi (by rfl) M.isinstance (by decide +kernel) (pa_cons (pv 1) (pa_cons (pe_bltn (v := .ty "str") (by rfl) M.str (by decide +kernel) rfl) pa_nil)))))
          (pw_or1 (pt_cmp (pc_dnotin (hu_of hr) (pv 1) (pe_fld (pv 0) (by rfl)))))))
          (pss_one (ps_raise rfl (takes_of rfl rfl rfl rfl) (pmk_fam (k := 1) (ps := ["self", "name"]) (sp := spErr CU "name") famK_ok TU GU (hr.mono (by decide)) bU pass0 (by rfl) (pa_cons (pv 1) pa_nil)))) pss_nil)
      (pss_one (ps_ret (pe_dget (hu_of hr) (pe_fld (pv 0) (by rfl)) (pv 1) (fun _ _ => rfl)))), ?_⟩
    refine ⟨v, rfl, v, _, _, _, _, rfl, .ty "str", dp_ty hv, kit_str K d, _, rfl, ?_⟩
    have bad : nameIn fs d = none → ∀ dd H', Left H dd ("name" : Str) v H' → E (.ref CU) (some dd) H' := fun e dd H' l => by
      rw [e] at wish
      exact wish _ dd H' (Same.refl H) l
    cases d with
    | str z =>
      cases hv
      refine iteF ⟨_, rfl, .ref a, rfl, a, CK, dx, _, .ref D, rfl, ea, BK.cl, BK.n3, rfl, D, _, rfl, .inl ⟨_, .inr z, .inl h3, rfl, rfl⟩, _, rfl, ?_⟩
      rcases byN_at r2 z with ⟨G, g, eG, eg, b, rfl, hF⟩ | ⟨eG, eg⟩
      · rw [eg]
        rw [show nameIn fs (.str z) = some G from eG] at wish
        exact iteF ⟨.ref a, rfl, a, CK, dx, _, .ref D, rfl, ea, BK.cl, BK.n3, rfl, .str z, rfl, D, .ref b, rfl, .inl ⟨_, .inr z, .inl h3, rfl, eg.symm⟩, wish b hF⟩
      · rw [eg]
        exact iteT ⟨.str z, rfl, one, mk_left fun dd H' l => bad eG dd H' l⟩
    | none => exact iteT (iteT ⟨v, rfl, one, mk_left fun dd H' l => bad rfl dd H' l⟩)
    | bool b => exact iteT (iteT ⟨v, rfl, one, mk_left fun dd H' l => bad rfl dd H' l⟩)
    | int b => exact iteT (iteT ⟨v, rfl, one, mk_left fun dd H' l => bad rfl dd H' l⟩)
    | list b => exact iteT (iteT ⟨v, rfl, one, mk_left fun dd H' l => bad rfl dd H' l⟩)
    | tuple b => exact iteT (iteT ⟨v, rfl, one, mk_left fun dd H' l => bad rfl dd H' l⟩)
    | dict b => exact iteT (iteT ⟨v, rfl, one, mk_left fun dd H' l => bad rfl dd H' l⟩)
theorem ok_bhas {CK C CF CL f : Addr} {fd : FuncData} (F : Fun K "__contains__" "Book.__contains__" sHasN f fd) (M : Blt mg) (BK : BookK K CK C CF) : FnOk P w K mg base CX0 1 f fd ["self", "x"] (spHasN K CK C CF CL) := by
  refine F.ok scHasN (fun vs H Q E h => ?_) (fun cdv A outer s H vs Q E hr h => ?_)
  · obtain ⟨a, v, d, cells, fs, rfl, _⟩ := h
    rfl
  · obtain ⟨a, v, d, cells, fs, rfl, ⟨dx, t1, t2, D, xs, ys, ea, h1, r1, h2, r2, h3, l6, l8⟩, hv, q⟩ := h
    refine ⟨_, pss_one (ps_ret (pe_and (pe_callB call_isi (by rfl) M.isinstance (by decide +kernel) (pa_cons (pv 1) (pa_cons (pe_bltn (v := .ty "str") (by rfl) M.str (by decide +kernel) rfl) pa_nil))) (pe_one (pe_cmp (pc_din (hu_of hr) (pv 1) (pe_fld (pv 0) (by rfl))))))), ?_⟩
    refine ⟨v, rfl, v, _, _, _, _, rfl, .ty "str", dp_ty hv, kit_str K d, _, rfl, ?_⟩
    cases d with
    | str z =>
      cases hv
      refine iteT ⟨_, rfl, .ref a, rfl, a, CK, dx, _, .ref D, rfl, ea, BK.cl, BK.n3, rfl, D, _, rfl, .inl ⟨_, .inr z, .inl h3, rfl, rfl⟩, ?_⟩
      rcases byN_at r2 z with ⟨G, g, eG, eg, b, rfl, hF⟩ | ⟨eG, eg⟩
      · rw [eg]
        rw [show nameIn fs (.str z) = some G from eG] at q
        exact q
      · rw [eg]
        rw [show nameIn fs (.str z) = none from eG] at q
        exact q
    | none => exact iteF q
    | bool b => exact iteF q
    | int b => exact iteF q
    | list b => exact iteF q
    | tuple b => exact iteF q
    | dict b => exact iteF q
theorem ok_blen {CK C CF CL f : Addr} {fd : FuncData} (F : Fun K "__len__" "Book.__len__" sBLen f fd) (M : Blt mg) (BK : BookK K CK C CF) : FnOk P w K mg base CX0 1 f fd ["self"] (spBLen K CK C CF CL) := by
  refine F.ok scBLen (fun vs H Q E h => ?_) (fun cdv A outer s H vs Q E hr h => ?_)
  · obtain ⟨a, cells, fs, rfl, _⟩ := h
    rfl
  · obtain ⟨a, cells, fs, rfl, ⟨dx, t1, t2, D, xs, ys, ea, h1, r1, h2, r2, h3, l6, l8⟩, q⟩ := h
    refine ⟨_, pss_one (ps_ret (pe_callB call_len_seq (by rfl) M.len PySem.boot_len (pa_cons (pe_fld (pv 0) (by rfl)) pa_nil))), ?_⟩
    refine ⟨.ref a, rfl, a, CK, dx, _, .ref t2, rfl, ea, BK.cl, BK.n2, rfl, t2, ys, rfl, .inr h2, ?_⟩
    rw [r2.1]
    exact q
theorem ok_allc {CK C CF CL f : Addr} {fd : FuncData} (F : Fun K "all_cells" "Book.all_cells" sAllC f fd) (M : Blt mg) (BK : BookK K CK C CF) : FnOk P w K mg base CX0 1 f fd ["self"] (spAllC K CK C CF CL) := by
  refine F.ok scAllC (fun vs H Q E h => ?_) (fun cdv A outer s H vs Q E hr h => ?_)
  · obtain ⟨a, cells, fs, rfl, _⟩ := h
    rfl
  · obtain ⟨a, cells, fs, rfl, ⟨dx, t1, t2, D, xs, ys, ea, h1, r1, h2, r2, h3, l6, l8⟩, q⟩ := h
    refine ⟨_, pss_one (ps_ret (pe_callTy call_list_of (by rfl) M.list (by decide +kernel) (pa_cons (pe_fld (pv 0) (by rfl)) pa_nil))), ?_⟩
    refine ⟨.ref a, rfl, a, CK, dx, _, .ref t1, rfl, ea, BK.cl, BK.n1, rfl, t1, xs, rfl, .inr h1, fun l nl => q l xs _ (same_upd nl) nl upd_same (r1.mono fun v c h => ?_)⟩
    obtain ⟨b, e, h⟩ := h
    exact ⟨b, e, h.same (same_upd nl)⟩
theorem ok_bnames {CK C CF CL f : Addr} {fd : FuncData} (F : Fun K "names" "Book.names" sBNames f fd) (M : Blt mg) (BK : BookK K CK C CF) : FnOk P w K mg base CX0 1 f fd ["self"] (spBNames K CK C CF CL) := by
  refine F.ok scBNames (fun vs H Q E h => ?_) (fun cdv A outer s H vs Q E hr h => ?_)
  · obtain ⟨a, cells, fs, rfl, _⟩ := h
    rfl
  · obtain ⟨a, cells, fs, rfl, ⟨dx, t1, t2, D, xs, ys, ea, h1, r1, h2, r2, h3, l6, l8⟩, q⟩ := h
    refine ⟨_, pss_one (ps_ret (pe_lc (own := [("function", 1)]) (g := gName 1) (wi := iTup K (tFld K (tVar 0) "_functions")) (tt := tYes) (te := tFld K (tVar 1) "name") (by rfl) scBNames.nd (pi_tup (pe_fld (pv 0) (by rfl)))
        (blkOk_by (own := [("function", 1)]) (N := ["self", "function"]) (sc := defScope sBNames) (by decide +kernel)) (fun _ _ _ _ _ => pg_name (i := 1) scBNames.nd rfl (Or.inl rfl)) (fun _ _ _ _ _ => pts_nil) (fun _ _ _ _ _ => pe_fld (pv 1) (by rfl)))), ?_⟩
    refine ⟨.ref a, rfl, a, CK, dx, _, .ref t2, rfl, ea, BK.cl, BK.n2, rfl, t2, rfl, ⟨_, h2⟩, fun D2 hD => ?_⟩
    obtain ⟨ns, hns⟩ : ∃ ns, ns = (fs.map fun F => F.d.nm).map V.str := ⟨_, rfl⟩
    have len : ys.length = ns.length := by rw [hns, List.length_map, List.length_map, r2.1]
    refine lc_vals (walk_tup (K := K) (a := t2) (xs := ys)) (fun i => (ns[i]?).getD .non) (by rw [r2.1]; exact Nat.le_trans l8 (by decide)) hD (fun x => rfl) (fun H' s => same_sqT s h2) (fun i x H2 H3 hi s2 y => ?_) (fun H2 s2 e2 => ?_)
    · obtain ⟨rfl, hx⟩ := y
      obtain ⟨F, hf⟩ : ∃ F, fs[i]? = some F := ⟨_, List.getElem?_eq_getElem (show i < fs.length by rw [← r2.1]; exact hi)⟩
      obtain ⟨b, rfl, hF⟩ := r2.2 i x _ hx hf
      obtain ⟨_, dy, gs, vr, wa, la, eb, n1, _⟩ := hF.same s2
      refine ⟨Same.refl _, fun Q' hq => ⟨.ref b, rfl, b, CF, dy, gs, _, rfl, eb, BK.fc.cl, BK.fc.n1, n1, ?_⟩⟩
      have e : (ns[i]?).getD V.non = V.str F.d.nm := by
        rw [hns, List.getElem?_map, List.getElem?_map, hf]
        rfl
      have := hq _ (Same.refl _)
      rw [e] at this
      exact this
    · refine q _ _ s2 hD ?_
      rw [e2, len, range_get ns (fun i => (ns[i]?).getD .non) (fun i x e => by rw [e]; rfl), hns]
theorem ok_bcell {CK C CF CL CU f fU : Addr} {fd dU : FuncData} (F : Fun K "cell" "Book.cell" sBCell f fd) (M : Blt mg) (BK : BookK K CK C CF) (TU : ErrO K mg famK "UnknownName" "name" CU fU) (GU : FnOk P w K mg base CX0 1 fU dU ["self", "name"] (spErr CU "name")) (bU : Binds K dU ["self", "name"] []) :
    FnOk P w K mg base (L2.CX P w) 3 f fd ["self", "name"] (spBCell K CK C CF CL CU) := by
  refine F.okX scBCell (fun vs H Q E h => ?_) (fun cdv A outer s H vs Q E hr h => ?_)
  · obtain ⟨a, v, d, cells, fs, rfl, _⟩ := h
    rfl
  · obtain ⟨a, v, d, cells, fs, rfl, ⟨dx, t1, t2, D, xs, ys, ea, h1, r1, h2, r2, h3, l6, l8⟩, hv, wish⟩ := h
    have one : (1 : Nat) ≤ 1000 := by decide
    refine ⟨_, pss_cons (ps_for (passes_of rfl) rfl (pi_tup (pe_fld (pv 0) (by rfl))) (pg_name (i := 2) scBCell.nd rfl (.inl rfl))
        (pss_one (ps_if (PW.pt (pw_and (pt_val (pe_callB call_isi (by rfl) M.isinstance (by decide +kernel) (pa_cons (pv 1) (pa_cons (pe_bltn (v := .ty "str") (by rfl) M.str (by decide +kernel) rfl) pa_nil)))) (pw_and1 (pt_cmpR op_eq (pe_fld (pv 2) (by rfl)) (pv 1) (nomark _)))))
          (pss_one (ps_ret (pv 2))) pss_nil)))
      (pss_one (ps_raise rfl (takes_of rfl rfl rfl rfl) (pmk_fam (k := 1) (ps := ["self", "name"]) (sp := spErr CU "name") famK_ok TU GU (hr.mono (by decide)) bU pass0 (by rfl) (pa_cons (pv 1) pa_nil)))), ?_⟩
    refine ⟨.ref a, rfl, a, CK, dx, _, .ref t1, rfl, ea, BK.cl, BK.n1, rfl, t1, rfl, ⟨_, h1⟩, ?_⟩
    refine for_tup (K := K) (a := t1) (xs := xs) (fun j σ H' => ∃ z, σ = [some (.ref a), some v, z] ∧ H' = H ∧ cellIn (cells.take j) d = none) ⟨_, rfl, rfl, by cases d <;> rfl⟩ (fun j σ H2 _ pr => ?_) (fun j x σ H2 hx pr => ?_) (fun σ H2 pr => ?_)
    · obtain ⟨_, _, rfl, _⟩ := pr
      exact h1
    · obtain ⟨z, rfl, rfl, no⟩ := pr
      obtain ⟨c, hc⟩ : ∃ c, cells[j]? = some c := ⟨_, List.getElem?_eq_getElem (show j < cells.length by rw [← r1.1]; exact (List.getElem?_eq_some_iff.mp hx).1)⟩
      obtain ⟨b, rfl, hC⟩ := r1.2 j x _ hx hc
      obtain ⟨dy, gs, eb, n1, n2⟩ := id hC
      refine ⟨v, rfl, v, _, _, _, _, rfl, .ty "str", dp_ty hv, kit_str K d, _, rfl, ?_⟩
      have go : cellIn (cells.take (j + 1)) d = none → ∃ z, ([some (.ref a), some v, some (.ref b)] : L2.St) = [some (.ref a), some v, z] ∧ H2 = H2 ∧ cellIn (cells.take (j + 1)) d = none := fun e => ⟨_, rfl, rfl, e⟩
      cases d with
      | str y =>
        cases hv
        refine iteT ⟨.ref b, rfl, b, C, dy, gs, _, rfl, eb, BK.cc, BK.cn, n1, .str y, rfl, rfl, _, rfl, ?_⟩
        rw [dstr]
        have st : cellIn (cells.take (j + 1)) (.str y) = if c.1 = y then some c else none := by
          show List.find? _ (cells.take (j + 1)) = _
          rw [take_snoc hc, List.find?_append, show List.find? _ (cells.take j) = none from no, Option.none_or]
          by_cases e : c.1 = y
          · rw [if_pos e, List.find?_cons_of_pos (by exact decide_eq_true e)]
          · rw [if_neg e, List.find?_cons_of_neg (by simpa using e)]
            rfl
        by_cases e : c.1 = y
        · rw [decide_eq_true e]
          rw [if_pos e] at st
          have full : cellIn cells (.str y) = some c := by
            show List.find? _ cells = _
            rw [← List.take_append_drop (j + 1) cells, List.find?_append, show List.find? _ (cells.take (j + 1)) = some c from st]
            rfl
          rw [full] at wish
          exact iteT ⟨.ref b, rfl, wish b _ (Same.refl _) hC⟩
        · rw [decide_eq_false e]
          rw [if_neg e] at st
          exact iteF (go st)
      | none => exact iteF (iteF (go rfl))
      | bool b => exact iteF (iteF (go rfl))
      | int b => exact iteF (iteF (go rfl))
      | list b => exact iteF (iteF (go rfl))
      | tuple b => exact iteF (iteF (go rfl))
      | dict b => exact iteF (iteF (go rfl))
    · obtain ⟨z, rfl, rfl, no⟩ := pr
      rw [List.take_of_length_le (by rw [r1.1]; exact Nat.le_refl _)] at no
      rw [no] at wish
      exact ⟨v, rfl, one, mk_left fun dd H' l => wish _ dd H' (Same.refl _) l⟩
end
/-! ### Functions made, labelled, changed -/
def LabGiven (H : Hp) (CL : Addr) (vl : V) (lab : Option PyData) (i : Nat) : Prop := (∃ a, vl = .ref a ∧ lab = none ∧ LabAt H CL a i) ∨ ∃ z, lab = some (.str z) ∧ vl = .str z ∧ labRow[i]? = some z
theorem LabGiven.same {H H' : Hp} {CL : Addr} {vl : V} {lab : Option PyData} {i : Nat} (h : LabGiven H CL vl lab i) (s : Same H H') : LabGiven H' CL vl lab i := by
  rcases h with ⟨a, e, el, l⟩ | h
  · exact .inl ⟨a, e, el, l.ext s⟩
  · exact .inr h
theorem LabGiven.in {K : PySem.W.Frag} {H : Hp} {CL : Addr} {vl : V} {lab : Option PyData} {i : Nat} (h : LabGiven H CL vl lab i) : LabIn K H CL vl lab := by
  rcases h with ⟨a, rfl, rfl, l⟩ | ⟨z, rfl, rfl, _⟩
  · exact .inl ⟨a, i, rfl, rfl, l⟩
  · exact .inr ⟨.str z, rfl, .str z⟩
theorem LabGiven.ok {H : Hp} {CL : Addr} {vl : V} {lab : Option PyData} {i : Nat} (h : LabGiven H CL vl lab i) : lab.filter noLab = none := by
  rcases h with ⟨a, rfl, rfl, l⟩ | ⟨z, rfl, rfl, hi⟩
  · rfl
  · have hz : z ∈ labRow := List.mem_of_getElem? hi
    have : noLab (.str z) = false := decide_eq_false (fun n => n hz)
    exact Option.filter_some_neg (by rw [this])
theorem labRow_inj {i j : Nat} {z : Str} (hi : labRow[i]? = some z) (hj : labRow[j]? = some z) : i = j := by
  rcases row_str hi with ⟨e, e'⟩ | ⟨e, e'⟩ | ⟨e, e'⟩ | ⟨e, e'⟩ <;> rcases row_str hj with ⟨g, g'⟩ | ⟨g, g'⟩ | ⟨g, g'⟩ | ⟨g, g'⟩ <;> subst e g <;> first | rfl | (rw [e'] at g'; exact absurd g' (by decide))
theorem LabGiven.no {H H' : Hp} {CL : Addr} {vl : V} {lab : Option PyData} {i j : Nat} (h : LabGiven H CL vl lab i) (s : Same H H') (n : LabNo H' CL vl lab j) : j = i := by
  rcases h with ⟨a, rfl, rfl, l⟩ | ⟨z, rfl, rfl, hi⟩
  · rcases n with ⟨b, eb, _, l2⟩ | ⟨z, e, _⟩
    · cases eb
      obtain ⟨dx, fs, z, e1, hi, h1, _⟩ := l.ext s
      obtain ⟨dy, gs, y, e2, hj, h2, _⟩ := l2
      rw [e1] at e2
      cases e2
      rw [h1] at h2
      have := V.int.inj (Option.some.inj h2)
      omega
    · cases e
  · rcases n with ⟨b, eb, _, l2⟩ | ⟨y, e, hj⟩
    · cases eb
    · cases e
      exact labRow_inj hj hi
theorem fx_out {F : FX} (k : FXOk F) {lab : Option PyData} (hl : lab.filter noLab = none) {dw : PyData} (he : entries dw = F.d.ws) (hw : areWrites dw = true) : funOut (.str F.d.nm) (.int F.d.ar) F.d.res lab dw (.int F.cost) = none := by
  unfold funOut
  rw [k.fd.nm, k.ar, hl]
  show (if !isTerm F.d.ar F.d.res then some (FErr.term F.d.res) else if !areWrites dw then some (.part "writes") else match badTerm F.d.ar (entries dw) with | some t => some (.term t) | none => if !countOk 99 (.int F.cost) then some (FErr.part "cost") else none) = none
  rw [k.fd.res, hw, he, k.fd.bt]
  show (if !countOk 99 (.int F.cost) then some (FErr.part "cost") else none) = none
  rw [k.co]
  rfl
theorem fun_full {K : PySem.W.Frag} {CF CL CB CP CT : Addr} {H : Hp} {x dx : Addr} {vn va vr vl vw vc : V} {F : FX} {lab : Option PyData} {dw : PyData} {Q : VK} {E : XK} (k : FXOk F) (nx : H x = none) (nd : H dx = none) (hn : Dp K H vn (.str F.d.nm)) (ha : Dp K H va (.int F.d.ar)) (hr : Dp K H vr F.d.res) (hw : Dp K H vw dw) (hc : Dp K H vc (.int F.cost)) (hi : LabGiven H CL vl lab F.lab) (he : entries dw = F.d.ws) (haw : areWrites dw = true) (zw : szD dw = true)
    (q : ∀ H', Same H H' → FunFull K H' CF CL x F → Q (.ref x) H') : spFun K CF CL CB CP CT [.ref x, vn, va, vr, vl, vw, vc] (upd (upd H dx (.own x)) x (.ins CF dx [])) (fun v H2 => v = .non ∧ Q (.ref x) H2) E := by
  have ms := made_same (C := CF) nx nd
  have zn : szD (.str F.d.nm) = true := name_sz k.fd.nm
  refine ⟨x, dx, vn, va, vr, vl, vw, vc, .str F.d.nm, .int F.d.ar, F.d.res, dw, .int F.cost, lab, rfl, upd_same, dp_same ms hn, dp_same ms ha, dp_same ms hr, dp_same ms hw, dp_same ms hc, (hi.same ms).in, zn, rfl, k.fd.zr, zw, rfl, ?_⟩
  rw [fx_out k hi.ok he haw]
  intro fs H' keep e T
  have s1 : Same H H' := fun b o e => keep b o (ms b o e) (ne_of_none e nx)
  obtain ⟨la, i, e5, l5, no⟩ := T.lab
  obtain ⟨wa, e6, h6⟩ := T.wr
  have ei := hi.no ms no
  subst ei
  cases hn
  cases ha
  cases hc
  rw [he] at h6
  exact ⟨rfl, q H' s1 ⟨k, dx, fs, vr, wa, la, e, T.name, T.args, T.res, dp_same s1 hr, e6, h6, e5, l5, T.cost, T.no1, T.no2, T.no3⟩⟩
theorem tup_writes {F : FX} (k : FXOk F) : areWrites (.tuple F.d.ws) = true := by
  show (decide (F.d.ws.length ≤ 3) && writesGo [] F.d.ws) = true
  rw [decide_eq_true k.fd.few, k.fd.ws]
  rfl
theorem tup_sz {F : FX} (k : FXOk F) : szD (.tuple F.d.ws) = true := by
  show (decide (F.d.ws.length ≤ 1000) && szDs F.d.ws) = true
  have := k.fd.few
  rw [decide_eq_true (by omega), k.fd.zw]
  rfl
structure FunM (P : Program) (w : World) (K : PySem.W.Frag) (mg : Str → Option Value) (base : Heap) (CF CL CB CP CT f : Addr) (fd : FuncData) : Prop where
  make : Mk K CF f
  ok : FnOk P w K mg base (L2.CX P w) 6 f fd ["self", "name", "arguments", "result", "label", "writes", "cost"] (spFun K CF CL CB CP CT)
  gC : mg "Function" = some (.ref CF)
  b3 : KBn K fd ["self", "name", "arguments", "result", "label", "writes", "cost"] 4 ["label", "writes", "cost"] (fun us ws => us ++ ws) (fun vs zs => vs ++ zs)
/-! ### a drawn book fits -/
theorem gdl_inner {L : LB} {n : Int} {f : Nat} {d : PyData} (h : GdL L n (f + 1) d) : ∀ t ∈ inner d, GdL L n f t := by
  cases h with
  | val _ _ => exact fun t ht => (by cases ht)
  | arg _ _ => exact fun t ht => (by cases ht)
  | cell _ => exact fun t ht => (by cases ht)
  | tick => exact fun t ht => (by cases ht)
  | call _ ht => exact ht
  | op hz ht =>
    rw [op_inner (op_word hz)]
    exact ht
theorem gdl_flat {L : LB} {n : Int} : ∀ (f : Nat) (lv : List PyData), (∀ d ∈ lv, ∃ k, GdL L n k d) → ∀ p ∈ flatGo f lv, ∃ k, GdL L n k p
  | 0, _, _, p, hp => by cases hp
  | f + 1, lv, h, p, hp => by
    rcases List.mem_append.mp (show p ∈ lv ++ flatGo f (lv.flatMap inner) from hp) with hp | hp
    · exact h p hp
    · refine gdl_flat f _ (fun d hd => ?_) p hp
      obtain ⟨e, he, hd⟩ := List.mem_flatMap.mp hd
      obtain ⟨k, hk⟩ := h e he
      cases k with
      | zero => exact nomatch hk
      | succ k => exact ⟨k, gdl_inner hk d hd⟩
theorem gdl_parts {L : LB} {n : Int} {f : Nat} {d : PyData} (h : GdL L n f d) : ∀ p ∈ partsD d, ∃ k, GdL L n k p := gdl_flat 9 [d] fun e he => ⟨f, by rw [List.mem_singleton.mp he]; exact h⟩
theorem head_of {z y : Str} {r : List PyData} (h : isW z (.tuple (.str y :: r)) = true) : y = z := of_decide_eq_true (Bool.and_eq_true_iff.mp (show (!isValue (.tuple (.str y :: r)) && decide (y = z)) = true from h)).2
theorem gdl_cell {L : LB} {n : Int} {k : Nat} {p : PyData} (h : GdL L n k p) (w : isW "cell" p = true) : ∃ x kk, (x, kk) ∈ L.cells ∧ p = .tuple [.str "cell", .str x] := by
  cases h with
  | val a b => simp [isW, headIs] at w
  | arg _ _ => exact absurd (head_of w) (by decide +kernel)
  | cell hx => exact ⟨_, _, hx, rfl⟩
  | tick => exact absurd (head_of w) (by decide +kernel)
  | call _ _ => exact absurd (head_of w) (by decide +kernel)
  | op hz _ =>
    have e := head_of w
    rcases op_word hz with q | q | q | q <;> (rw [q] at e; exact absurd e (by decide +kernel))
theorem gdl_call {L : LB} {n : Int} {k : Nat} {p : PyData} (h : GdL L n k p) (w : isW "call" p = true) : ∃ x ts, (x, ts.length) ∈ L.fns ∧ p = .tuple [.str "call", .str x, .tuple ts] := by
  cases h with
  | val a b => simp [isW, headIs] at w
  | arg _ _ => exact absurd (head_of w) (by decide +kernel)
  | cell hx => exact absurd (head_of w) (by decide +kernel)
  | tick => exact absurd (head_of w) (by decide +kernel)
  | call hx _ => exact ⟨_, _, hx, rfl⟩
  | op hz _ =>
    have e := head_of w
    rcases op_word hz with q | q | q | q <;> (rw [q] at e; exact absurd e (by decide +kernel))
theorem gdl_names {L : LB} {n : Int} {f : Nat} {d : PyData} (h : GdL L n f d) : (∀ x ∈ namesD "cell" d, ∃ k, (x, k) ∈ L.cells) ∧ ∀ x ∈ namesD "call" d, ∃ m, (x, m) ∈ L.fns := by
  refine ⟨fun x hx => ?_, fun x hx => ?_⟩
  · obtain ⟨p, hp, rfl⟩ := List.mem_map.mp hx
    obtain ⟨h1, h2⟩ := List.mem_filter.mp hp
    obtain ⟨k, hk⟩ := gdl_parts h p h1
    obtain ⟨y, kk, hy, rfl⟩ := gdl_cell hk h2
    exact ⟨kk, hy⟩
  · obtain ⟨p, hp, rfl⟩ := List.mem_map.mp hx
    obtain ⟨h1, h2⟩ := List.mem_filter.mp hp
    obtain ⟨k, hk⟩ := gdl_parts h p h1
    obtain ⟨y, ts, hy, rfl⟩ := gdl_call hk h2
    exact ⟨_, hy⟩
theorem part_fits {L : LB} {n : Int} {f : Nat} {d : PyData} (h : GdL L n f d) {kvs avs : List (Key × V)} (hc : ∀ x k, (x, k) ∈ L.cells → has kvs x = true) (hf : ∀ x (m : Nat), (x, m) ∈ L.fns → valV avs (.inr x : Key) = some (.int m)) : partFits kvs avs d = true := by
  refine Bool.and_eq_true_iff.mpr ⟨List.all_eq_true.mpr fun x hx => ?_, List.all_eq_true.mpr fun p hp => ?_⟩
  · obtain ⟨k, hk⟩ := (gdl_names h).1 x hx
    exact hc x k hk
  · obtain ⟨h1, h2⟩ := List.mem_filter.mp hp
    obtain ⟨k, hk⟩ := gdl_parts h p h1
    obtain ⟨y, ts, hy, rfl⟩ := gdl_call hk h2
    exact decide_eq_true (hf y _ hy)
/-! names of their own -/
theorem nd_inj {l : List Str} (n : l.Nodup) {i j : Nat} {z : Str} (hi : l[i]? = some z) (hj : l[j]? = some z) : i = j := by
  have h1 := (List.getElem?_eq_some_iff.mp hi).1
  exact (List.getElem?_inj h1 n).mp (by rw [hi, hj])
theorem badC_none : ∀ (l : List (Str × Str)) (seen : List Str) (i : Nat), (∀ c ∈ l, c.1 ∉ seen) → (l.map (·.1)).Nodup → badC seen i (l.map fun c => CI.cell c.1 c.2) = none
  | [], _, _, _, _ => rfl
  | c :: l, seen, i, h, n => by
    rw [List.map_cons, List.nodup_cons] at n
    show (if c.1 ∈ seen then some i else badC (seen ++ [c.1]) (i + 1) (l.map fun c => CI.cell c.1 c.2)) = none
    rw [if_neg (h c List.mem_cons_self)]
    refine badC_none l _ _ (fun e he q => ?_) n.2
    rcases List.mem_append.mp q with q | q
    · exact h e (List.mem_cons_of_mem _ he) q
    · exact n.1 (List.mem_map.mpr ⟨e, he, List.mem_singleton.mp q⟩)
theorem kinds_val {cells : List (Str × Str)} (n : (cells.map (·.1)).Nodup) {x k : Str} (h : (x, k) ∈ cells) : valV (kindsK (cells.map fun c => CI.cell c.1 c.2)) (.inr x : Key) = some (.str k) := by
  induction cells with
  | nil => cases h
  | cons c l ih =>
    rw [List.map_cons, List.nodup_cons] at n
    show valV (((.inr c.1 : Key), V.str c.2) :: kindsK (l.map fun c => CI.cell c.1 c.2)) _ = _
    rcases List.mem_cons.mp h with e | h
    · subst e
      exact valV_pos rfl
    · rw [valV_neg (fun q => n.1 (List.mem_map.mpr ⟨_, h, (Sum.inr.inj q).symm⟩))]
      exact ih n.2 h
theorem kinds_no {cells : List (Str × Str)} {x : Str} (h : x ∉ cells.map (·.1)) : has (kindsK (cells.map fun c => CI.cell c.1 c.2)) x = false := by
  induction cells with
  | nil => rfl
  | cons c l ih =>
    rw [List.map_cons, List.mem_cons] at h
    show (valV (((.inr c.1 : Key), V.str c.2) :: kindsK (l.map fun c => CI.cell c.1 c.2)) _).isSome = _
    rw [valV_neg (fun q => h (.inl (Sum.inr.inj q).symm))]
    exact ih fun q => h (.inr q)
theorem snoc_ind {α : Type} {P : List α → Prop} (h0 : P []) (hs : ∀ l x, P l → P (l ++ [x])) (l : List α) : P l := by
  have h : ∀ r : List α, P r.reverse := by
    intro r
    induction r with
    | nil => exact h0
    | cons x r ih =>
      rw [List.reverse_cons]
      exact hs _ _ ih
  have := h l.reverse
  rw [List.reverse_reverse] at this
  exact this
def avsOf (fs : List FDr) : List (Key × V) := fs.foldl (fun acc F => putK acc (.inr F.nm : Key) (.int (F.many : Nat))) []
theorem avs_snoc (fs : List FDr) (F : FDr) : avsOf (fs ++ [F]) = putK (avsOf fs) (.inr F.nm : Key) (.int (F.many : Nat)) := by
  unfold avsOf
  rw [List.foldl_append]
  rfl
theorem avs_at : ∀ (fs : List FDr), (fs.map (·.nm)).Nodup → (∀ F ∈ fs, valV (avsOf fs) (.inr F.nm : Key) = some (.int (F.many : Nat))) ∧ ∀ z, z ∉ fs.map (·.nm) → has (avsOf fs) z = false := by
  refine snoc_ind ?_ fun fs G ih => ?_
  · exact fun _ => ⟨fun F hF => (by cases hF), fun z _ => rfl⟩
  · intro n
    rw [List.map_append, List.nodup_append] at n
    obtain ⟨n1, n2, n3⟩ := n
    obtain ⟨i1, i2⟩ := ih n1
    rw [avs_snoc]
    refine ⟨fun F hF => ?_, fun z hz => ?_⟩
    · rw [valV_put]
      rcases List.mem_append.mp hF with hF | hF
      · rw [if_neg (fun q => n3 _ (List.mem_map.mpr ⟨F, hF, rfl⟩) _ (List.mem_singleton.mpr rfl) (Sum.inr.inj q))]
        exact i1 F hF
      · rw [List.mem_singleton.mp hF, if_pos rfl]
    · unfold has
      rw [List.map_append] at hz
      rw [valV_put, if_neg (fun q => hz (List.mem_append.mpr (.inr (List.mem_singleton.mpr (Sum.inr.inj q)))))]
      exact i2 z fun q => hz (List.mem_append.mpr (.inl q))
/-! a drawn function as a whole one -/
def fxOf (F : FDr) : FX := ⟨⟨F.nm, F.many, F.res, entries F.ws⟩, labRow.idxOf F.label, F.cost⟩
theorem lab_idx {z : Str} (h : z ∈ labRow) : labRow[labRow.idxOf z]? = some z := by
  have h1 : ∀ y ∈ labRow, labRow[labRow.idxOf y]? = some y := by decide +kernel
  exact h1 z h
theorem gd_geo {n : Int} : ∀ (f k : Nat) (d : PyData) (m : Nat), Gd n f d → 2 * m + 1 = 3 ^ f → szF k d ≤ m
  | 0, _, _, _, h, _ => nomatch h
  | f + 1, 0, d, m, h, e => by
    show 0 ≤ m
    omega
  | f + 1, k + 1, d, m, h, e => by
    obtain ⟨ht, hl⟩ := gd_inner h
    obtain ⟨r, hr⟩ : ∃ r, 2 * r + 1 = 3 ^ f := by
      have : 3 ^ f % 2 = 1 := by
        clear ht hl h e
        induction f with
        | zero => rfl
        | succ f ih => rw [Nat.pow_succ]; omega
      exact ⟨3 ^ f / 2, by omega⟩
    have each : ∀ x ∈ (inner d).map (szF k), x ≤ r := fun x hx => by
      obtain ⟨t, htm, rfl⟩ := List.mem_map.mp hx
      exact gd_geo f k t r (ht t htm) hr
    have sum_le : ∀ l : List Nat, (∀ x ∈ l, x ≤ r) → l.sum ≤ l.length * r := by
      intro l
      induction l with
      | nil => intro _; exact Nat.zero_le _
      | cons a l ih =>
        intro h
        rw [List.sum_cons, List.length_cons, Nat.succ_mul]
        have := h a List.mem_cons_self
        have := ih fun x hx => h x (List.mem_cons_of_mem _ hx)
        omega
    have h2 := sum_le _ each
    rw [List.length_map] at h2
    have h3 : (inner d).length * r ≤ 3 * r := Nat.mul_le_mul_right r hl
    rw [Nat.pow_succ] at e
    show 1 + ((inner d).map (szF k)).sum ≤ m
    omega
theorem gdm {n : Int} : ∀ (f f' : Nat) (d : PyData), Gd n f d → f ≤ f' → Gd n f' d
  | 0, _, _, h, _ => nomatch h
  | f + 1, 0, _, _, h => absurd h (Nat.not_succ_le_zero f)
  | f + 1, f' + 1, d, h, hf => by
    cases h with
    | val a b => exact .val a b
    | arg a b => exact .arg a b
    | cell a => exact .cell a
    | tick => exact .tick
    | call a b c => exact .call a b fun t ht => gdm f f' t (c t ht) (by omega)
    | op a c => exact .op a fun t ht => gdm f f' t (c t ht) (by omega)
theorem gd_term {n : Int} {f : Nat} {d : PyData} (h : Gd n f d) (hf : f ≤ 3) : isTerm n d = true := by
  rw [gd_isTerm h (by omega)]
  have h13 : sz9 d ≤ 13 := by
    have h3 : Gd n 3 d := gdm f 3 d h hf
    exact gd_geo 3 9 d 13 h3 rfl
  exact decide_eq_true (by omega)
theorem fok_mono {cells : List (Str × Str)} {prev : List FDr} {F : FDr} {deep : Nat} (h : FOk deep cells prev F) (hd : deep ≤ 2) : FOk 2 cells prev F := ⟨h.nm, h.many, gdl_mono _ _ _ h.res (by omega), h.ws, h.c0, h.c9, h.lab⟩
theorem ws_of {L : LB} (o : LOk L) {n : Int} {d : PyData} (h : WrD L n d) : d = .tuple (entries d) ∧ writesGo [] (entries d) = true ∧ badTerm n (entries d) = none ∧ szDs (entries d) = true ∧ (entries d).length ≤ 1 ∧ PyData.canLayAll0 (entries d) = true ∧ PyData.depthAll (entries d) ≤ 20 ∧ ∀ e ∈ entries d, ∃ z t, e = .tuple [.str z, t] ∧ (z, ("table" : Str)) ∈ L.cells ∧ GdL L n 2 t := by
  rcases h with rfl | ⟨z, t, rfl, hz, gt⟩
  · exact ⟨rfl, rfl, rfl, rfl, Nat.zero_le _, by simp [entries, PyData.canLayAll0], by simp [entries, PyData.depthAll], fun e he => by cases he⟩
  · have hn := (o.c _ hz).1
    have g2 := gdl_gd o _ _ gt
    have l2 := gd_lay 2 _ g2
    refine ⟨rfl, ?_, ?_, ?_, Nat.le_refl _, ?_, ?_, fun e he => ⟨z, t, List.mem_singleton.mp he, hz, gt⟩⟩
    · have e1 : entryOk [] (.tuple [.str z, t]) = some z := by
        show (if (isName (.str z) && !decide (z ∈ ([] : List Str))) = true then some z else none) = some z
        rw [hn]
        rfl
      show writesGo [] [.tuple [.str z, t]] = true
      unfold writesGo
      rw [e1]
      rfl
    · show (if isTerm n t then none else some t) = none
      rw [gd_term g2 (by decide)]
      rfl
    · show ((true && (szD (.str z) && (szD t && true))) && true) = true
      rw [name_sz hn, gd_sz 2 t g2]
      rfl
    · have : PyData.canLayAll0 [.tuple [.str z, t]] = true := canLay_of fun d hd => by
        rw [List.mem_singleton.mp hd]
        show (PyData.strOk z && (t.canLay0 && true)) = true
        rw [name_ok hn, l2.1]
        rfl
      exact this
    · show PyData.depthAll [.tuple [.str z, t]] ≤ 20
      refine depth_of fun d hd => ?_
      rw [List.mem_singleton.mp hd]
      show max 0 (max t.depth 0) + 1 ≤ 20
      have := l2.2
      omega
theorem fxOf_ok {cells : List (Str × Str)} {prev : List FDr} {F : FDr} (o : LOk (lbOf cells prev)) (h : FOk 2 cells prev F) : FXOk (fxOf F) := by
  have gd := gdl_gd o _ _ h.res
  obtain ⟨w0, w1, w2, w3, w4, w5, w6, _⟩ := ws_of o h.ws
  have mo : F.many = 0 ∨ F.many = 1 ∨ F.many = 2 := by have := h.many; omega
  have shw : SeqAt.shaped (.tuple (entries F.ws)) = true := Bool.and_eq_true_iff.mpr ⟨w5, decide_eq_true (by show PyData.depthAll (entries F.ws) + 1 ≤ 64; omega)⟩
  exact ⟨⟨h.nm, gd_term gd (by decide), gd_sz _ _ gd, w1, w2, w3, Nat.le_trans w4 (by decide)⟩, gd_shaped gd (by decide), shw, by unfold fxOf; rcases mo with e | e | e <;> rw [e] <;> rfl, by
    show (decide (0 ≤ F.cost) && decide (F.cost ≤ 99)) = true
    rw [decide_eq_true h.c0, decide_eq_true (by have := h.c9; omega)]
    rfl⟩
theorem lok_take {cells : List (Str × Str)} {fs : List FDr} (o : LOk (lbOf cells fs)) (i : Nat) : LOk (lbOf cells (fs.take i)) where
  c := o.c
  f := fun x hx => by
    obtain ⟨F, hF, rfl⟩ := List.mem_map.mp hx
    exact o.f _ (List.mem_map.mpr ⟨F, List.mem_of_mem_take hF, rfl⟩)
  lc := o.lc
  lf := by
    have h := o.lf
    show ((fs.take i).map _).length ≤ 8
    rw [List.length_map, List.length_take]
    have h2 : (fs.map fun F => (F.nm, F.many)).length ≤ 8 := h
    rw [List.length_map] at h2
    omega
/-! the whole book fits -/
/-- a drawn book, whose names are its own, perhaps with one more cell -/
structure Fit (cells : List (Str × Str)) (fs : List FDr) : Prop where
  lc : cells.length ≤ 6
  lf : fs.length ≤ 8
  l1 : 1 ≤ fs.length
  ok : LOk (lbOf cells fs)
  nc : (cells.map (·.1)).Nodup
  nf : (fs.map (·.nm)).Nodup
  dj : ∀ x ∈ fs.map (·.nm), x ∉ cells.map (·.1)
  fn : ∀ (i : Nat) F, fs[i]? = some F → FOk 2 cells (fs.take i) F
theorem Fit.noBad {cells : List (Str × Str)} {fs : List FDr} (h : Fit cells fs) : ∀ (rest prev : List FDr) (i : Nat), prev ++ rest = fs → badF (kindsK (cells.map fun c => CI.cell c.1 c.2)) (avsOf prev) i (rest.map fun F => FI.fn (fxOf F).d) = none
  | [], _, _, _ => rfl
  | F :: rest, prev, i, e => by
    have hF : fs[prev.length]? = some F := by
      rw [← e, List.getElem?_append_right (Nat.le_refl _), Nat.sub_self]
      rfl
    have hp : fs.take prev.length = prev := by
      rw [← e, List.take_left']
      rfl
    have ok := h.fn _ F hF
    rw [hp] at ok
    have nd : (prev.map (·.nm)).Nodup ∧ F.nm ∉ prev.map (·.nm) := by
      have n := h.nf
      rw [← e, List.map_append, List.nodup_append] at n
      exact ⟨n.1, fun q => n.2.2 _ q _ (List.mem_map.mpr ⟨F, List.mem_cons_self, rfl⟩) rfl⟩
    obtain ⟨a1, a2⟩ := avs_at prev nd.1
    have oP : LOk (lbOf cells prev) := by
      have := lok_take h.ok prev.length
      rw [hp] at this
      exact this
    have hc : ∀ x k, (x, k) ∈ (lbOf cells prev).cells → has (kindsK (cells.map fun c => CI.cell c.1 c.2)) x = true := fun x k hx => by
      unfold has
      rw [kinds_val h.nc hx]
      rfl
    have hf : ∀ x (m : Nat), (x, m) ∈ (lbOf cells prev).fns → valV (avsOf prev) (.inr x : Key) = some (.int m) := fun x m hx => by
      obtain ⟨G, hG, q⟩ := List.mem_map.mp hx
      cases q
      exact a1 G hG
    obtain ⟨w0, w1, w2, w3, w4, w5, w6, w7⟩ := ws_of oP ok.ws
    have fit : fitsB (kindsK (cells.map fun c => CI.cell c.1 c.2)) (avsOf prev) (fxOf F).d = true := by
      unfold fitsB
      rw [show has (kindsK (cells.map fun c => CI.cell c.1 c.2)) (fxOf F).d.nm = false from kinds_no (h.dj _ (List.mem_map.mpr ⟨F, List.mem_of_getElem? hF, rfl⟩)), show has (avsOf prev) (fxOf F).d.nm = false from a2 _ nd.2]
      refine Bool.and_eq_true_iff.mpr ⟨Bool.and_eq_true_iff.mpr ⟨rfl, List.all_eq_true.mpr fun d hd => ?_⟩, List.all_eq_true.mpr fun d hd => ?_⟩
      · obtain ⟨z, t, rfl, hz, _⟩ := w7 d hd
        show decide (valV _ (.inr z : Key) = some (.str "table")) = true
        exact decide_eq_true (kinds_val h.nc hz)
      · rcases List.mem_cons.mp (show d ∈ F.res :: (entries F.ws).map sndD from hd) with rfl | hd
        · exact part_fits ok.res hc hf
        · obtain ⟨d', hd', rfl⟩ := List.mem_map.mp hd
          obtain ⟨z, t, rfl, hz, gt⟩ := w7 d' hd'
          exact part_fits gt hc hf
    show (if fitsB (kindsK (cells.map fun c => CI.cell c.1 c.2)) (avsOf prev) (fxOf F).d = true then badF _ (putK (avsOf prev) (.inr (fxOf F).d.nm : Key) (.int (fxOf F).d.ar)) (i + 1) (rest.map fun F => FI.fn (fxOf F).d) else some i) = none
    rw [if_pos fit]
    have := Fit.noBad h rest (prev ++ [F]) (i + 1) (by rw [List.append_assoc]; exact e)
    rw [avs_snoc] at this
    exact this
theorem Fit.out {cells : List (Str × Str)} {fs : List FDr} (h : Fit cells fs) (p r : Addr) (xs ys : List V) : bookOut (.seq p xs (cells.map fun c => CI.cell c.1 c.2)) (.seq r ys (fs.map fun F => FI.fn (fxOf F).d)) = none := by
  unfold bookOut
  dsimp only
  rw [badC_none cells [] 0 (fun c _ => List.not_mem_nil) h.nc]
  dsimp only
  rw [List.length_map, List.length_map, if_neg (by have := h.lc; omega), if_neg (by have := h.l1; omega), show badF _ [] 0 _ = none from h.noBad fs [] 0 rfl]
  dsimp only
  rw [if_neg (by have := h.lf; omega)]
theorem DOk.fit {deep : Nat} {words : List Str} {cells : List (Str × Str)} {fs : List FDr} (h : DOk deep words cells fs) (hd : deep ≤ 2) (wn : ∀ z ∈ words, isName (.str z) = true) (wd : words.Nodup) (l1 : 1 ≤ fs.length) : Fit cells fs where
  lc := Nat.le_trans h.lc (by decide)
  lf := Nat.le_trans h.lf (by decide)
  l1 := l1
  ok := h.lok wn
  nc := by
    refine List.pairwise_iff_getElem.mpr fun i j hi hj lt e => ?_
    rw [List.length_map] at hi hj
    rw [List.getElem_map, List.getElem_map] at e
    have q1 := (h.cn i _ (List.getElem?_eq_getElem hi)).1
    have q2 := (h.cn j _ (List.getElem?_eq_getElem hj)).1
    rw [e] at q1
    exact absurd (nd_inj wd q1 q2) (by omega)
  nf := by
    refine List.pairwise_iff_getElem.mpr fun i j hi hj lt e => ?_
    rw [List.length_map] at hi hj
    rw [List.getElem_map, List.getElem_map] at e
    have q1 := (h.fn i _ (List.getElem?_eq_getElem hi)).1
    have q2 := (h.fn j _ (List.getElem?_eq_getElem hj)).1
    rw [e] at q1
    exact absurd (nd_inj wd q1 q2) (by omega)
  dj := fun x hx q => by
    obtain ⟨F, hF, rfl⟩ := List.mem_map.mp hx
    obtain ⟨c, hc, e⟩ := List.mem_map.mp q
    obtain ⟨i, hi⟩ := List.getElem?_of_mem hF
    obtain ⟨j, hj⟩ := List.getElem?_of_mem hc
    have q1 := (h.fn i _ hi).1
    have q2 := (h.cn j _ hj).1
    rw [e] at q2
    have := nd_inj wd q1 q2
    have := (List.getElem?_eq_some_iff.mp hj).1
    have := h.lc
    omega
  fn := fun i F e => fok_mono (h.fn i F e).2 hd
/-! ### the law's book, made -/
abbrev sMade : Stmt := topS 72
theorem scMade : FnScope ["_law_b", "_law_rows", "_law_f", "_law_one", "_law_name", "_law_kind"] ["_law_b"] (defScope sMade) := ⟨rfl, rfl, rfl, by decide +kernel, rfl, by decide +kernel, by decide +kernel⟩
structure BookMk (P : Program) (w : World) (K : PySem.W.Frag) (mg : Str → Option Value) (base : Heap) (CK C CF CC CN CO f : Addr) (fd : FuncData) : Prop where
  make : Mk K CK f
  ok : FnOk P w K mg base (L2.CX P w) 11 f fd ["self", "cells", "functions"] (spBook K CK C CF CC CN CO)
  gC : mg "Book" = some (.ref CK)
  bi : Binds K fd ["self", "cells", "functions"] []
structure CellMk (P : Program) (w : World) (K : PySem.W.Frag) (mg : Str → Option Value) (base : Heap) (C CB f : Addr) (fd : FuncData) : Prop where
  make : Mk K C f
  ok : FnOk P w K mg base (L2.CX P w) 3 f fd ["self", "name", "kind"] (spCell K C CB)
  gC : mg "Cell" = some (.ref C)
  bi : Binds K fd ["self", "name", "kind"] []
theorem cell_made {K : PySem.W.Frag} {C CB : Addr} {H : Hp} {x dx : Addr} {n k : Str} {Q : VK} {E : XK} (hn : isName (.str n) = true) (hk : k ∈ (["frozen", "setting", "table"] : List Str)) (nx : H x = none) (nd : H dx = none) (q : ∀ H', Same H H' → CellAt H' C x n k → Q (.ref x) H') :
    spCell K C CB [.ref x, .str n, .str k] (upd (upd H dx (.own x)) x (.ins C dx [])) (fun v H2 => v = .non ∧ Q (.ref x) H2) E := by
  have ms := made_same (C := C) nx nd
  refine ⟨x, dx, .str n, .str k, .str n, .str k, rfl, upd_same, .str n, .str k, name_sz hn, .inr ⟨n, k, rfl, rfl, ?_, fun H1 fs s1 l1 l2 => ⟨rfl, q _ (fun b o e => ?_) ⟨dx, fs, upd_same, l1, l2⟩⟩⟩⟩
  · unfold cellOut
    rw [hn]
    have : isKind (.str k) = true := by
      simp only [List.mem_cons, List.not_mem_nil, or_false] at hk
      rcases hk with e | e | e <;> rw [e] <;> decide +kernel
    rw [this]
    rfl
  · rw [upd_ne (ne_of_none e nx)]
    exact s1 _ _ (ms b o e)
/-- the cells of a drawn book, as Cells -/
theorem FDrAt.same {K : PySem.W.Frag} {H H' : Hp} {v : V} {F : FDr} (h : FDrAt K H v F) (s : Same H H') : FDrAt K H' v F := by
  obtain ⟨g, vr, vw, e, eg, d1, d2, n1, n2⟩ := h
  exact ⟨g, vr, vw, e, s _ _ eg, dp_same s d1, dp_same s d2, n1, n2⟩
theorem BkAt.same {K : PySem.W.Frag} {H H' : Hp} {cells : List (Str × Str)} {fs : List FDr} {b : Addr} (h : BkAt K cells fs H b) (s : Same H H') : BkAt K cells fs H' b := by
  obtain ⟨c, f, ts, gs, e0, e1, e2, r1, r2⟩ := h
  exact ⟨c, f, ts, gs, s _ _ e0, s _ _ e1, s _ _ e2, r1.mono fun v c h => cellT_of (fun _ _ => same_sqT s) h, r2.mono fun v F h => h.same s⟩
def spMade (K : PySem.W.Frag) (CK C CF CL : Addr) : Sp := fun vs H Q _ => ∃ (b : Addr) (cells : List (Str × Str)) (fs : List FDr), vs = [.ref b] ∧ BkAt K cells fs H b ∧ Fit cells fs ∧ ∀ x H', Same H H' → H x = none → BookAt K H' CK C CF CL x cells (fs.map fxOf) → Q (.ref x) H'
theorem cells_row {K : PySem.W.Frag} {H : Hp} {C : Addr} {xs : List V} {cells : List (Str × Str)} (h : Rows (CRow H C) xs cells) : Items (CItem K H C) xs (cells.map fun c => CI.cell c.1 c.2) := ⟨by rw [h.1, List.length_map], fun i x c e1 e2 => by
  rw [List.getElem?_map] at e2
  obtain ⟨c', hc, rfl⟩ := Option.map_eq_some_iff.mp e2
  exact h.2 i x c' e1 hc⟩
theorem fns_row {K : PySem.W.Frag} {H : Hp} {CF CL : Addr} {ys : List V} {fs : List FX} (h : Rows (FRow K H CF CL) ys fs) : Items (FItem K H CF) ys (fs.map fun F => FI.fn F.d) := ⟨by rw [h.1, List.length_map], fun i x c e1 e2 => by
  rw [List.getElem?_map] at e2
  obtain ⟨F, hF, rfl⟩ := Option.map_eq_some_iff.mp e2
  obtain ⟨b, e, hb⟩ := h.2 i x F e1 hF
  exact ⟨b, e, hb.of⟩⟩
/-! terms hold no lists -/
theorem nl_term {n : Int} : ∀ (f : Nat) (d : PyData), fmF n f d = true → dpF f d < f → noL d = true
  | 0, _, _, h => absurd h (Nat.not_lt_zero _)
  | f + 1, d, h, hd => by
    have h1 := Bool.and_eq_true_iff.mp (show (hasForm n d && (inner d).all (fmF n f)) = true from h)
    have each : ∀ t ∈ inner d, noL t = true := fun t ht => by
      have mx : ∀ l : List PyData, t ∈ l → dpF f t ≤ (l.map (dpF f)).foldr max 0 := fun l => by
        induction l with
        | nil => intro q; cases q
        | cons a l ih =>
          intro q
          show _ ≤ max (dpF f a) _
          rcases List.mem_cons.mp q with q | q
          · rw [q]
            exact Nat.le_max_left _ _
          · exact Nat.le_trans (ih q) (Nat.le_max_right _ _)
      have : 1 + ((inner d).map (dpF f)).foldr max 0 < f + 1 := hd
      have := mx _ ht
      exact nl_term f t (List.all_eq_true.mp h1.2 t ht) (by omega)
    cases hv : isValue d with
    | true =>
      cases d with
      | int i => rfl
      | _ => simp [isValue] at hv
    | false =>
      obtain ⟨z, rest, rfl, hf⟩ := form_str h1.1 hv
      show (true && noLs rest) = true
      rw [Bool.true_and]
      unfold formOf at hf
      by_cases z1 : z = "arg"
      · rw [if_pos z1] at hf
        match rest, hf with
        | [x], hf =>
          cases x with
          | int i => rfl
          | _ => simp [on1, below] at hf
      rw [if_neg z1] at hf
      by_cases z2 : z = "cell"
      · rw [if_pos z2] at hf
        match rest, hf with
        | [x], hf =>
          obtain ⟨y, rfl⟩ := isName_str (show isName x = true from hf)
          rfl
      rw [if_neg z2] at hf
      by_cases z3 : z = "call"
      · rw [if_pos z3] at hf
        match rest, hf with
        | [x, y], hf =>
          have h2 := Bool.and_eq_true_iff.mp (show (isName x && callForm y) = true from hf)
          obtain ⟨y', rfl⟩ := isName_str h2.1
          match y, h2.2 with
          | .tuple ts, _ =>
            have e : inner (.tuple (.str z :: [.str y', .tuple ts])) = ts := by
              show (if z = "arg" ∨ z = "cell" then [] else if z = "call" then second [.str y', .tuple ts] else _) = ts
              rw [if_neg (fun q => q.elim z1 z2), if_pos z3]
              rfl
            rw [e] at each
            show (true && (noLs ts && true)) = true
            rw [noLs_of each]
            rfl
      have e : inner (.tuple (.str z :: rest)) = rest := by
        show (if z = "arg" ∨ z = "cell" then [] else if z = "call" then second rest else rest) = rest
        rw [if_neg (fun q => q.elim z1 z2), if_neg z3]
      rw [e] at each
      exact noLs_of each
theorem term_nl {n : Int} {d : PyData} (h : isTerm n d = true) : noL d = true := by
  rw [isTerm_is] at h
  have h1 := Bool.and_eq_true_iff.mp h
  have h2 := of_decide_eq_true (Bool.and_eq_true_iff.mp h1.2).2
  exact nl_term 9 d h1.1 (by omega)
theorem fd_nl {F : FD} (k : FdOk F) : noL F.res = true ∧ noLs F.ws = true := ⟨term_nl k.res, noLs_of fun d hd => by
  obtain ⟨i, hi⟩ := List.getElem?_of_mem hd
  obtain ⟨z, t, rfl⟩ := writes_at k.ws hi
  have ht : isTerm F.ar t = true := by
    have : (partsF F)[i + 1]? = some t := by
      show (F.ws.map sndD)[i]? = _
      rw [List.getElem?_map, hi]
      rfl
    exact (parts_ok k this).1
  show (true && (noL t && true)) = true
  rw [term_nl ht]
  rfl⟩
theorem FunFull.but {K : PySem.W.Frag} {H H' : Hp} {CF CL a l : Addr} {F : FX} {xs : List V} (h : FunFull K H CF CL a F) (e : H l = some (.lst xs)) (b : But l H H') : FunFull K H' CF CL a F := by
  obtain ⟨k, dx, fs, vr, wa, la, ea, l1, l2, l3, d1, l4, d2, l5, la1, l6, n⟩ := h
  obtain ⟨n1, n2⟩ := fd_nl k.fd
  obtain ⟨dy, gs, z, e2, r2⟩ := la1
  exact ⟨k, dx, fs, vr, wa, la, b _ _ ea (ne_of ea e (fun z => nomatch z)), l1, l2, l3, dp_tups (fun _ _ => but_sqT e b) _ _ n1 d1, l4, dp_tups (fun _ _ => but_sqT e b) _ _ n2 d2, l5, ⟨dy, gs, z, b _ _ e2 (ne_of e2 e (fun z => nomatch z)), r2⟩, l6, n⟩
/-- what stays while a new instance is written -/
theorem but_new_same {H H1 H2 : Hp} {x : Addr} (s : Same H H1) (nx : H x = none) (b : But x H1 H2) : Same H H2 := fun a o e => b a o (s a o e) (ne_of_none e nx)
theorem book_made {K : PySem.W.Frag} {CK C CF CL CC CN CO : Addr} {H : Hp} {x dx p r : Addr} {xs ys : List V} {cells : List (Str × Str)} {fs : List FX} {Q : VK} {E : XK} (nx : H x = none) (nd : H dx = none) (hp : SqL K H p xs ∨ SqT K H p xs) (hr : SqL K H r ys ∨ SqT K H r ys) (rc : Rows (CRow H C) xs cells) (rf : Rows (FRow K H CF CL) ys fs)
    (out : bookOut (.seq p xs (cells.map fun c => CI.cell c.1 c.2)) (.seq r ys (fs.map fun F => FI.fn F.d)) = none) (lc : cells.length ≤ 6) (lf : fs.length ≤ 8)
    (q : ∀ H', Same H H' → BookAt K H' CK C CF CL x cells fs → Q (.ref x) H') : spBook K CK C CF CC CN CO [.ref x, .ref p, .ref r] (upd (upd H dx (.own x)) x (.ins CK dx [])) (fun v H2 => v = .non ∧ Q (.ref x) H2) E := by
  have ms := made_same (C := CK) nx nd
  have rc1 : Rows (CRow (upd (upd H dx (.own x)) x (.ins CK dx [])) C) xs cells := rc.mono fun v c ⟨b, e, h⟩ => ⟨b, e, h.same ms⟩
  have rf1 : Rows (FRow K (upd (upd H dx (.own x)) x (.ins CK dx [])) CF CL) ys fs := rf.mono fun v c ⟨b, e, h⟩ => ⟨b, e, h.same ms⟩
  refine ⟨x, dx, .ref p, .ref r, .seq p xs (cells.map fun c => CI.cell c.1 c.2), .seq r ys (fs.map fun F => FI.fn F.d), rfl, upd_same, ⟨rfl, sqA_same hp ms, cells_row rc1, by rw [List.length_map]; omega⟩, ⟨rfl, sqA_same hr ms, fns_row rf1, by rw [List.length_map]; omega⟩, ?_⟩
  rw [out]
  intro H' bt left
  have s1 : Same H H' := but_new_same ms nx bt
  obtain ⟨t1, t2, D, e, h1, h2, h3⟩ := left _ _ _ _ _ _ rfl rfl
  exact ⟨rfl, q H' s1 ⟨dx, t1, t2, D, xs, ys, e, h1, rc.mono fun v c ⟨b, e, h⟩ => ⟨b, e, h.same s1⟩, h2, rf.mono fun v c ⟨b, e, h⟩ => ⟨b, e, h.same s1⟩, h3, lc, lf⟩⟩
section
variable {P : Program} {w : World} {K : PySem.W.Frag} {mg : Str → Option Value} {base : Heap}
theorem ok_made {CK C CF CL CB CP CT CC CN CO CQ f fF fB fC : Addr} {fd fdF fdB fdC : FuncData} (F : Fun K "_law_made_book" "_law_made_book" sMade f fd) (M : FunM P w K mg base CF CL CB CP CT fF fdF) (BM : BookMk P w K mg base CK C CF CC CN CO fB fdB) (CM : CellMk P w K mg base C CQ fC fdC) :
    FnOk P w K mg base CX0 13 f fd ["_law_b"] (spMade K CK C CF CL) := by
  refine F.ok scMade (fun vs H Q E h => ?_) (fun cdv A outer s H vs Q E hr h => ?_)
  · obtain ⟨b, cells, fs, rfl, _⟩ := h
    rfl
  · obtain ⟨b, cells, fs, rfl, hb, fit, q⟩ := h
    have hu := hu_of hr
    refine ⟨_, pss_cons (ps_set (i := 1) scMade.nd rfl (.inl rfl) (pe_lst pa_nil))
      (pss_cons (ps_for PassesOwn.never rfl (pi_list (pe_dget hu (pv 0) pe_str (fun _ _ => rfl))) (pg_name (i := 2) scMade.nd rfl (.inl rfl))
        (pss_cons (ps_set (i := 3) scMade.nd rfl (.inl rfl) (pe_makeK M.make M.ok (hr.mono (by decide)) (by rfl) M.gC M.b3 pass00 (pa_cons (pe_dget hu (pv 2) pe_str (fun _ _ => rfl)) (pa_cons (pe_dget hu (pv 2) pe_str (fun _ _ => rfl)) (pa_cons (pe_dget hu (pv 2) pe_str (fun _ _ => rfl)) pa_nil)))
          (pk_cons (pe_dget hu (pv 2) pe_str (fun _ _ => rfl)) (pk_cons (pe_dget hu (pv 2) pe_str (fun _ _ => rfl)) (pk_cons (pe_dget hu (pv 2) pe_str (fun _ _ => rfl)) pk_nil)))))
        (pss_one (ps_expr (pe_bm PySem.F.plainAttrs_list PySem.F.slot_list_append PySem.F.type_list_append mt_append (pv 1) (pa_cons (pv 3) pa_nil))))))
      (pss_one (ps_ret (pe_make (dvs := []) BM.make BM.ok (hr.mono (by decide)) (by rfl) BM.gC BM.bi .nil pass00 (pa_cons
        (pe_lc (own := [("_law_name", 4), ("_law_kind", 5)]) (g := gTup K 2 (gCons (gName 4) (gCons (gName 5) gNil))) (wi := iList K (tDGet (tVar 0) (tC (.str "cells")))) (tt := tYes) (te := tMake C (spCell K C CQ) [] E0 (tCons (tVar 4) (tCons (tVar 5) tNil))) (by rfl) scMade.nd (pi_list (pe_dget hu (pv 0) pe_str (fun _ _ => rfl)))
          (blkOk_by (own := [("_law_name", 4), ("_law_kind", 5)]) (N := ["_law_b", "_law_rows", "_law_f", "_law_one", "_law_name", "_law_kind"]) (sc := defScope sMade) (by decide +kernel)) (fun _ _ _ _ _ => pg_tup (by rfl) (pgs_cons (pg_name (i := 4) scMade.nd rfl (Or.inl rfl)) (pgs_cons (pg_name (i := 5) scMade.nd rfl (Or.inl rfl)) pgs_nil))) (fun _ _ _ _ _ => pts_nil)
          (fun _ _ _ _ _ => pe_make (dvs := []) CM.make CM.ok (hr.mono (by decide)) (by rfl) CM.gC CM.bi .nil pass00 (pa_cons (pv 4) (pa_cons (pv 5) pa_nil)))) (pa_cons (pv 1) pa_nil)))))), ?_⟩
    refine ⟨by show 0 ≤ sizeLine; decide, fun l nl => ?_⟩
    have sl := same_upd (o := HO.lst []) nl
    have el : (upd H l (.lst [])) l = some (.lst []) := upd_same
    generalize upd H l (.lst []) = H1 at sl el
    obtain ⟨c, ff, ts, gs, e0, e1, e2, r1, r2⟩ := id hb
    refine ⟨.ref b, rfl, b, .ref ff, rfl, dg (sl _ _ e0) "functions" rfl, ff, rfl, ⟨_, .inl (.inl (sl _ _ e2))⟩, ?_⟩
    refine for_list (K := K) (a := ff) (xs := gs) (fun j σ H' => ∃ z2 z3, σ = [some (.ref b), some (.ref l), z2, z3, none, none] ∧ Same H H' ∧ ∃ ys, H' l = some (.lst ys) ∧ Rows (FRow K H' CF CL) ys ((fs.take j).map fxOf))
      ⟨_, _, rfl, sl, [], el, rows_nil⟩ (fun j σ H2 _ pr => ?_) (fun j x σ H2 hx pr => ?_) (fun σ H2 pr => ?_)
    · obtain ⟨_, _, _, s2, _⟩ := pr
      exact .inl (.inl (s2 _ _ e2))
    · obtain ⟨z2, z3, rfl, s2, ys, eL, rY⟩ := pr
      obtain ⟨F, hF⟩ : ∃ F, fs[j]? = some F := ⟨_, List.getElem?_eq_getElem (by rw [← r2.1]; exact (List.getElem?_eq_some_iff.mp hx).1)⟩
      obtain ⟨g, vr, vw, rfl, eg, d1, d2, n1, n2⟩ := (r2.2 j x F hx hF).same s2
      have ok := fit.fn j F hF
      have kF : FXOk (fxOf F) := fxOf_ok (lok_take fit.ok j) ok
      obtain ⟨w0, w1, w2, w3, w4, w5, w6, w7⟩ := ws_of (lok_take fit.ok j) ok.ws
      have D : ∀ {y : Str} {v : V}, valV [((.inr "name" : Key), V.str F.nm), (.inr "many", .int (F.many : Nat)), (.inr "result", vr), (.inr "writes", vw), (.inr "cost", .int F.cost), (.inr "label", .str F.label)] (.inr y : Key) = some v → DGet H2 g (.str y) (some v) := fun {y v} h => .inl ⟨_, .inr y, .inl eg, rfl, h.symm⟩
      dsimp only [gName, List.set]
      refine q_asgP (Pr := fun v H3 => ∃ x, v = .ref x ∧ H2 x = none ∧ Same H2 H3 ∧ FunFull K H3 CF CL x (fxOf F)) (fun Q' hq => ?_) (fun v H3 hv => ?_)
      · refine ⟨.ref g, rfl, g, _, rfl, D rfl, .ref g, rfl, g, _, rfl, D rfl, .ref g, rfl, g, _, rfl, D rfl, .ref g, rfl, g, _, rfl, D rfl, .ref g, rfl, g, _, rfl, D rfl, .ref g, rfl, g, _, rfl, D rfl, rfl, rfl, fun x dx nx nd ne => ?_⟩
        exact fun_full (F := fxOf F) (Q := Q') kF nx nd (.str _) (.int _) d1 d2 (.int _) (.inr ⟨F.label, rfl, rfl, lab_idx ok.lab⟩) rfl (by rw [w0]; exact tup_writes kF) (by rw [w0]; exact tup_sz kF) fun H3 s3 hX => hq _ _ ⟨x, rfl, nx, s3, hX⟩
      obtain ⟨x, rfl, nx, s3, hX⟩ := hv
      have nxl : x ≠ l := (ne_of_none eL nx).symm
      dsimp only [gName, List.set]
      refine ⟨.ref l, rfl, .inl ⟨rfl, _, .inl (.inl (s3 _ _ eL))⟩, .ref x, rfl, l, ys, .ref x, rfl, rfl, s3 _ _ eL, ?_, ?_⟩
      · have := rY.1
        rw [List.length_map, List.length_take] at this
        have := fit.lf
        exact Nat.lt_of_le_of_lt (show ys.length ≤ 8 by omega) (by decide)
      have nlH : H l = none := nl
      have s4 : Same H (upd H3 l (.lst (ys ++ [V.ref x]))) := but_new_same (s2.trans s3) nlH But.upd
      have up : ∀ {v : V} {G : FX}, FRow K H3 CF CL v G → FRow K (upd H3 l (.lst (ys ++ [V.ref x]))) CF CL v G := by
        intro v G ⟨q, e, h⟩
        exact ⟨q, e, h.but (s3 _ _ eL) But.upd⟩
      refine ⟨_, _, rfl, s4, _, upd_same, ?_⟩
      rw [take_snoc hF, List.map_append]
      exact rows_snoc (rY.mono fun v G ⟨q, e, h⟩ => up ⟨q, e, h.same s3⟩) (up ⟨x, rfl, hX⟩)
    · obtain ⟨z2, z3, rfl, s2, ys, eL, rY⟩ := pr
      rw [List.take_of_length_le (by rw [r2.1]; exact Nat.le_refl _)] at rY
      refine ⟨.ref b, rfl, b, .ref c, rfl, dg (s2 _ _ e0) "cells" rfl, c, rfl, ⟨_, .inl (.inl (s2 _ _ e1))⟩, fun D2 hD2 => ?_⟩
      refine walk_gen (walk_list (K := K) (a := c) (xs := ts)) (fun i H' => Same H2 H' ∧ ∃ xs, H' D2 = some (.lst xs) ∧ Rows (CRow H' C) xs (cells.take i)) ⟨same_upd hD2, [], upd_same, rows_nil⟩ (fun i H' _ p => .inl (.inl (p.1 _ _ (s2 _ _ e1)))) (fun i x H3 H4 hi p y => ?_) (fun H3 p => ?_)
      · obtain ⟨s3, xs, eD, rX⟩ := p
        obtain ⟨rfl, hx⟩ := y
        obtain ⟨cc, hcc⟩ : ∃ cc, cells[i]? = some cc := ⟨_, List.getElem?_eq_getElem (by rw [← r1.1]; exact hi)⟩
        obtain ⟨t, rfl, ht⟩ := r1.2 i x cc hx hcc
        have mem := fit.ok.c cc (List.mem_of_getElem? hcc)
        refine ⟨t, _, rfl, same_sqT (s2.trans s3) ht, rfl, _, _, rfl, _, _, rfl, rfl, rfl, ?_⟩
        unfold tYes
        refine iteT ⟨.str cc.1, rfl, .str cc.2, rfl, fun x dx nx nd ne => ?_⟩
        refine cell_made (Q := fun v Hm => ∃ sofar, Hm D2 = some (.lst sofar) ∧ sofar.length < sizeLine ∧ (Same H2 (upd Hm D2 (.lst (sofar ++ [v]))) ∧ ∃ xs, (upd Hm D2 (.lst (sofar ++ [v]))) D2 = some (.lst xs) ∧ Rows (CRow (upd Hm D2 (.lst (sofar ++ [v]))) C) xs (cells.take (i + 1)))) mem.1 mem.2 nx nd fun H5 s5 hC => ⟨xs, s5 _ _ eD, ?_, but_new_same (s3.trans s5) hD2 But.upd, _, upd_same, ?_⟩
        · have := rX.1
          rw [List.length_take] at this
          have := fit.lc
          exact Nat.lt_of_le_of_lt (show xs.length ≤ 6 by omega) (by decide)
        · have up : ∀ {v : V} {c : Str × Str}, CRow H5 C v c → CRow (upd H5 D2 (.lst (xs ++ [V.ref x]))) C v c := fun ⟨q', e', dy, gy, h1', h2'⟩ => ⟨q', e', dy, gy, by rw [upd_ne (ne_of h1' (s5 _ _ eD) (fun z => nomatch z))]; exact h1', h2'⟩
          rw [take_snoc hcc]
          exact rows_snoc (rX.mono fun v c ⟨q', e', h'⟩ => up ⟨q', e', h'.same s5⟩) (up ⟨x, rfl, hC⟩)
      · obtain ⟨s3, xs, eD, rc⟩ := p
        rw [List.take_of_length_le (by rw [r1.1]; exact Nat.le_refl _)] at rc
        refine ⟨.ref l, rfl, fun x dx nx nd ne => ?_⟩
        have s23 := s2.trans s3
        have rf : Rows (FRow K H3 CF CL) ys (fs.map fxOf) := rY.mono fun v G ⟨q, e, h⟩ => ⟨q, e, h.same s3⟩
        refine book_made (Q := Q) nx nd (.inl (.inl (.inl eD))) (.inl (.inl (.inl (s3 _ _ eL)))) rc rf ?_ fit.lc (by rw [List.length_map]; exact fit.lf) fun H' s' hB => q x H' (s23.trans s') (s23.free nx) hB
        rw [List.map_map]
        exact fit.out _ _ _ _
end
/-! ### xs[:] = a tuple's items -/
section
variable {s : Shared} {prog : Program} {w : World} {A : Around} {E : Value → Shared → Prop}
theorem bnd_ {α β : Type} {M : Model} {A : Around} {E : Value → Shared → Prop} {s : Shared} {m : Sem α} {f : α → Sem β} {Q : β → Shared → Prop}
    (first : wpAny M A m (fun got after => wpAny M A (f got) Q E after) E s) : wpAny M A (m >>= f) Q E s := wpAny_bind first
/-- what `l[:] = t` comes to, l a list and t a tuple: the slice object sl has no bounds; the list holds the tuple's items then -/
theorem setItem_all {l t sl : Addr} {old its : Array Value} {n m : Nat} {ot : Obj} {Q : Unit → Shared → Prop} (el : s.heap.get? l = some { cls := .type "list", data := .seq old n }) (et : s.heap.get? t = some ot) (ct : ot.cls = .type "tuple") (dt : ot.data = .seq its m) (ne : l ≠ t)
    (hsl : s.heap.IsSliceOf sl .none .none .none) (few : old.size + its.size ≤ sizeLine) (goal : Q () { s with heap := s.heap.update l (Obj.mapSeq fun xs => xs.extract 0 0 ++ its ++ xs.extract old.size xs.size) }) : wpAny (model prog w) A (setItem (Value.ref l) (.ref sl) (.ref t)) Q E s := by
  have tl := (PySem.IsL.isList el).typeIs
  obtain ⟨o, ho, co, fo⟩ := id hsl
  have ts : s.TypeIs (.ref sl) "slice" := ⟨o, ho, co⟩
  have tt : s.TypeIs (.ref t) "tuple" := ⟨ot, et, ct⟩
  have other : Builtin.List.listSameRef (.ref l) (.ref t) = false := beq_eq_false_iff_ne.mpr ne
  have fits : ((fun xs : Array Value => xs.extract 0 0 ++ its ++ xs.extract old.size xs.size) old).size ≤ sizeLine + 1 := by simp only [Array.size_append, Array.size_extract] <;> omega
  have whole : sliceBounds none none none old.size = ((0 : Int), (old.size : Int), 1) := by simp [sliceBounds]
  unfold setItem
  with_reducible refine wpAny_holding ?_
  try refine bnd_ (wpAny_pure ?_)
  refine bnd_ (wpAny_sequenceKey tl (by decide) ?_)
  refine bnd_ (wpAny_callSpecial?_slot (name := "__setitem__") tl PySem.slot_list_setitem (wpAny_call_entry PySem.slot_list_setitem tl PySem.entry_list_setitem ?_ (PySem.args_list_setitem (.ref l) (.ref sl) (.ref t))))
  show wpAny _ _ (Bind.bind (Builtin.List.listSubscript? (.ref sl)) _) _ _ s
  unfold Builtin.List.listSubscript?
  refine bnd_ (wpAny_bind (wpAny_specialOf ts slice_no_index ?_))
  simp only [if_true, Option.isNone_none]
  apply wpAny_pure
  show wpAny _ _ (Bind.bind (typeOf (.ref sl)) _) _ _ s
  refine bnd_ (wpAny_typeOf ts ?_)
  rw [if_neg (by decide), listSliceParts_eq]
  refine bnd_ (wpAny_bind (wpAny_field ho fo (x := Value.none) rfl (wpAny_bind (wpAny_listPart .none ?_))))
  rw [if_neg (show ¬ (rawPart none == rawInt 0) = true from Bool.false_ne_true)]
  refine bnd_ (wpAny_field ho fo (x := Value.none) rfl (wpAny_bind (wpAny_listPart .none (wpAny_bind (wpAny_field ho fo (x := Value.none) rfl (wpAny_bind (wpAny_listPart .none (wpAny_pure ?_))))))))
  simp only [other, if_false, Bool.false_eq_true]
  refine wpAny_bind (m := Builtin.List.listAllItems (.ref t) _) ?_
  unfold Builtin.List.listAllItems
  refine bnd_ (wpAny_typeOf tt ?_)
  simp only [beq_self_eq_true, if_true, Bool.or_true]
  unfold Builtin.List.listItems
  refine bnd_ (wpAny_seqItems et dt (wpAny_pure ?_))
  refine bnd_ (wpAny_bind (wpAny_seqItems el rfl (wpAny_pure ?_)))
  refine bnd_ (wpAny_of_eq ((sliceIndices_raw none none none old.size (by simp)).trans (congrArg (pure : Int × Int × Int → Sem (Int × Int × Int)) whole)) ?_)
  show wpAny _ _ (ite (((1 : Int) == 1) = true) _ _) _ _ s
  rw [if_pos (show ((1 : Int) == 1) = true by decide)]
  refine bnd_ (wpAny_rule ?_)
  simp only [notLongL few, if_false, Bool.false_eq_true]
  try refine bnd_ (wpAny_pure ?_)
  show wpAny _ _ (Bind.bind (updateSeq l fun xs => xs.extract 0 (0 : Int).toNat ++ its ++ xs.extract (max (0 : Int) (old.size : Int)).toNat xs.size) _) _ _ s
  rw [show (max (0 : Int) (old.size : Int)).toNat = old.size by omega]
  refine bnd_ (wpAny_updateSeq (hz := Nat.le_trans (Nat.le_add_right old.size its.size) few) (_hz' := fits) el rfl ?_)
  refine bnd_ (wpAny_letGo ?_)
  first | exact wpAny_pure ⟨Value.none, rfl, wpAny_pure goal⟩ | exact wpAny_bind (wpAny_pure (wpAny_pure ⟨Value.none, rfl, wpAny_pure goal⟩))
end
def sSetAll (K : PySem.W.Frag) (td tv : TE) : TS := fun D σ H => tv σ H fun y H1 => td σ H1 fun x H2 => ∃ l b xs ys, x = .ref l ∧ y = .ref b ∧ H2 l = some (.lst xs) ∧ SqT K H2 b ys ∧ xs.length + ys.length ≤ sizeLine ∧ D.nx σ (upd H2 l (.lst ys))
section
variable {X : Cx} {o value : Expr} {pos pos' p : Pos} {td tv : TE}
theorem ps_setAll (ho : PE X o td) (hv : PE X value tv) (hs : swapsWith value (some (.Subscript o (.Slice none none none p) pos')) pos.line X.env = pure false) : PS X (.Assign [.Subscript o (.Slice none none none p) pos'] value pos) (sSetAll X.K td tv) := by
  refine .mk fun pins s σ H D I h => ?_
  refine wpAny_Assign_Subscript (thn (hv.run pins s σ H _ I h) fun r s1 ⟨y, H1, I1, ry, q1⟩ => thn (ho.run pins s1 σ H1 _ I1 q1) fun u s2 ⟨x, H2, I2, rx, l, b, xs, ys, ex, ey, el, hb, hz, q3⟩ => ?_) hs
  subst ex ey
  obtain ⟨⟩ := (show Value.ref l = u from Eq.symm rx)
  obtain ⟨⟩ := (show Value.ref b = r from Eq.symm ry)
  have none_at : ∀ (sA : Shared) (HA : Hp), Inv X pins σ HA sA → tNoPart σ HA (fun o HB => o = none ∧ HB = HA) := fun _ _ _ => ⟨rfl, rfl⟩
  refine wpAny_Slice (thn (po_none.run pins s2 σ H2 _ I2 (none_at _ _ I2)) fun vl s3 ⟨lo, H3, I3, pl, e1⟩ => ?_)
  obtain ⟨e11, e12⟩ := e1
  subst e11 e12
  refine thn (po_none.run pins s3 σ H3 _ I3 (none_at _ _ I3)) fun vu s4 ⟨hi, H4, I4, pu, e2⟩ => ?_
  obtain ⟨e21, e22⟩ := e2
  subst e21 e22
  refine thn (po_none.run pins s4 σ H4 _ I4 (none_at _ _ I4)) fun vk s5 ⟨st, H5, I5, pk, e3⟩ => ?_
  obtain ⟨e31, e32⟩ := e3
  subst e31 e32
  cases pl
  cases pu
  cases pk
  have I6 : Inv X pins σ H5 { s5 with heap := s5.heap.push { cls := .type "slice", data := .fields #[Value.none, .none, .none] } } := I5.kept (t' := s5.toks) fun b ob z => Heap.get?_push_of_some _ z
  obtain ⟨z, its, n, r1, hl, e⟩ := I6.lstM el
  obtain ⟨its2, rv, ⟨ot, ho, hc, n2, hd⟩, hz2⟩ := I6.tuple hb
  have hne : l ≠ b := fun q => by
    subst q
    rw [e] at ho
    cases ho
    exact absurd (show Value.type "list" = Value.type "tuple" from hc) (fun q => by simp at q)
  have lr := rv.length
  have lr1 := r1.length
  have hz' : its.toArray.size + its2.toArray.size ≤ sizeLine := by
    rw [List.size_toArray, List.size_toArray, ← lr, ← lr1]
    exact hz
  refine setItem_all e ho hc hd hne (Heap.IsSliceOf.new _ .none .none .none) hz' ?_
  refine ⟨σ, _, I6.lset (its' := its2) (t' := s5.toks) el e ?_ rv ?_, q3⟩
  · simp
  · omega
end
/-! ### what a run comes to -/
def join3 (z : Str) (a b : Int) : Int := if z = "plus" then (a + b) % 3 else if z = "less" then (if a < b then 1 else 0) else if a = b then 1 else 0
abbrev CallF := Str → List Int → List Int → Int × List Int
def evs (ev : PyData → List Int → Int × List Int) : List PyData → List Int → List Int × List Int
  | [], st => ([], st)
  | t :: ts, st => ((ev t st).1 :: (evs ev ts (ev t st).2).1, (evs ev ts (ev t st).2).2)
def evH (ev : PyData → List Int → Int × List Int) (call : CallF) (pl : Str → Nat) (beat : Int) (args : List Int) (z : Str) (rest : List PyData) (st : List Int) : Int × List Int :=
  if z = "arg" then (match rest with | [.int i] => (args.getD i.toNat 0, st) | _ => (0, st))
  else if z = "cell" then (match rest with | [.str x] => (st.getD (pl x) 0, st) | _ => (0, st))
  else if z = "tick" then (beat % 3, st)
  else if z = "call" then (match rest with | [.str x, .tuple ts] => call x (evs ev ts st).1 (evs ev ts st).2 | _ => (0, st))
  else match rest with
    | [a, b, c] => if (ev a st).1 ≠ 0 then ev b (ev a st).2 else ev c (ev a st).2
    | [a, b] => (join3 z (ev a st).1 (ev b (ev a st).2).1, (ev b (ev a st).2).2)
    | _ => (0, st)
def evF (call : CallF) (pl : Str → Nat) (beat : Int) (args : List Int) : Nat → PyData → List Int → Int × List Int
  | 0, _, st => (0, st)
  | f + 1, d, st => match d with
    | .int i => (i, st)
    | .tuple (.str z :: rest) => evH (evF call pl beat args f) call pl beat args z rest st
    | _ => (0, st)
def wrF (ev : PyData → List Int → Int × List Int) (pl : Str → Nat) : List PyData → List Int → List Int
  | [], st => st
  | .tuple [.str z, t] :: ws, st => wrF ev pl ws ((ev t st).2.set (pl z) (ev t st).1)
  | _ :: ws, st => wrF ev pl ws st
def bodyF (call : CallF) (pl : Str → Nat) (beat : Int) (args : List Int) (F : FDr) (st : List Int) : Int × List Int :=
  ((evF call pl beat args 3 F.res st).1, wrF (evF call pl beat args 3) pl (entries F.ws) (evF call pl beat args 3 F.res st).2)
def semR (pl : Str → Nat) (beat : Int) : List FDr → CallF
  | [], _, _, st => (0, st)
  | F :: r, x, args, st => if F.nm = x then bodyF (semR pl beat r) pl beat args F st else semR pl beat r x args st
def sem (pl : Str → Nat) (beat : Int) (fs : List FDr) : CallF := semR pl beat fs.reverse
def Ok3 (l : List Int) : Prop := ∀ x ∈ l, 0 ≤ x ∧ x < 3
/-- a right value and a right state -/
def OkR (n : Nat) (p : Int × List Int) : Prop := (0 ≤ p.1 ∧ p.1 < 3) ∧ p.2.length = n ∧ Ok3 p.2
/-- what a call makes of right arguments in a right state is right -/
def CallOk (call : CallF) (L : LB) : Prop := ∀ x args st, (x, args.length) ∈ L.fns → Ok3 args → st.length = L.cells.length → Ok3 st → OkR L.cells.length (call x args st)
def placeIn (cells : List (Str × Str)) (x : Str) : Nat := (cells.map (·.1)).idxOf x
theorem place_lt {cells : List (Str × Str)} {x k : Str} (h : (x, k) ∈ cells) : placeIn cells x < cells.length := by
  have : x ∈ cells.map (·.1) := List.mem_map.mpr ⟨_, h, rfl⟩
  have := List.idxOf_lt_length_iff.mpr this
  rw [List.length_map] at this
  exact this
theorem ok3_set {l : List Int} (h : Ok3 l) (i : Nat) {v : Int} (hv : 0 ≤ v ∧ v < 3) : Ok3 (l.set i v) := fun x hx => by
  rcases List.mem_or_eq_of_mem_set hx with h1 | h1
  · exact h x h1
  · rw [h1]; exact hv
theorem ok3_get {l : List Int} (h : Ok3 l) {i : Nat} (hi : i < l.length) : 0 ≤ l.getD i 0 ∧ l.getD i 0 < 3 := by
  rw [List.getD_eq_getElem?_getD, List.getElem?_eq_getElem hi]
  exact h _ (List.getElem_mem hi)
theorem join_ok {z : Str} {a b : Int} (ha : 0 ≤ a ∧ a < 3) (hb : 0 ≤ b ∧ b < 3) : 0 ≤ join3 z a b ∧ join3 z a b < 3 := by
  unfold join3
  by_cases h1 : z = "plus"
  · rw [if_pos h1]; omega
  · rw [if_neg h1]
    by_cases h2 : z = "less"
    · rw [if_pos h2]; split <;> omega
    · rw [if_neg h2]; split <;> omega
theorem zero_lt3 : (0 : Int) < 3 := by decide
theorem bin_ne {z : Str} (h : bin z) : z ≠ "arg" ∧ z ≠ "cell" ∧ z ≠ "tick" ∧ z ≠ "call" := by
  rcases h with e | e | e <;> subst e <;> decide +kernel
section
variable {call call' : CallF} {pl : Str → Nat} {beat : Int} {args : List Int}
theorem evH_op {ev : PyData → List Int → Int × List Int} {z : Str} {rest : List PyData} {st : List Int} (n : z ≠ "arg" ∧ z ≠ "cell" ∧ z ≠ "tick" ∧ z ≠ "call") : evH ev call pl beat args z rest st = match rest with
    | [a, b, c] => if (ev a st).1 ≠ 0 then ev b (ev a st).2 else ev c (ev a st).2
    | [a, b] => (join3 z (ev a st).1 (ev b (ev a st).2).1, (ev b (ev a st).2).2)
    | _ => (0, st) := by
  unfold evH
  rw [if_neg n.1, if_neg n.2.1, if_neg n.2.2.1, if_neg n.2.2.2]
theorem evH_arg {ev : PyData → List Int → Int × List Int} {i : Int} {st : List Int} : evH ev call pl beat args "arg" [.int i] st = (args.getD i.toNat 0, st) := by unfold evH; rw [if_pos rfl]
theorem evH_cell {ev : PyData → List Int → Int × List Int} {x : Str} {st : List Int} : evH ev call pl beat args "cell" [.str x] st = (st.getD (pl x) 0, st) := by
  unfold evH
  rw [if_neg (by decide +kernel), if_pos rfl]
theorem evH_tick {ev : PyData → List Int → Int × List Int} {st : List Int} : evH ev call pl beat args "tick" [] st = (beat % 3, st) := by
  unfold evH
  rw [if_neg (by decide +kernel), if_neg (by decide +kernel), if_pos rfl]
theorem evH_call {ev : PyData → List Int → Int × List Int} {x : Str} {ts : List PyData} {st : List Int} : evH ev call pl beat args "call" [.str x, .tuple ts] st = call x (evs ev ts st).1 (evs ev ts st).2 := by
  unfold evH
  rw [if_neg (by decide +kernel), if_neg (by decide +kernel), if_neg (by decide +kernel), if_pos rfl]
theorem evF_tup {f : Nat} {z : Str} {rest : List PyData} {st : List Int} : evF call pl beat args (f + 1) (.tuple (.str z :: rest)) st = evH (evF call pl beat args f) call pl beat args z rest st := rfl
/-- only the names in the book matter -/
theorem evF_congr {L : LB} {n : Int} (h : ∀ x m, (x, m) ∈ L.fns → ∀ as st, call x as st = call' x as st) : ∀ (f : Nat) (d : PyData), GdL L n f d → ∀ st, evF call pl beat args f d st = evF call' pl beat args f d st
  | 0, _, g, _ => nomatch g
  | f + 1, d, g, st => by
    have ih := fun d (g : GdL L n f d) => evF_congr h f d g
    cases g with
    | val a b => rfl
    | arg a b => rw [evF_tup, evF_tup, evH_arg, evH_arg]
    | cell a => rw [evF_tup, evF_tup, evH_cell, evH_cell]
    | tick => rw [evF_tup, evF_tup, evH_tick, evH_tick]
    | @call _ x ts a c =>
      have : ∀ (ts : List PyData), (∀ t ∈ ts, GdL L n f t) → ∀ st, evs (evF call pl beat args f) ts st = evs (evF call' pl beat args f) ts st := by
        intro ts
        induction ts with
        | nil => intro _ _; rfl
        | cons t ts iht =>
          intro c st
          show (_, _) = (_, _)
          rw [ih t (c t List.mem_cons_self) st, iht (fun u hu => c u (List.mem_cons_of_mem _ hu))]
      rw [evF_tup, evF_tup, evH_call, evH_call, this ts c st, h x _ a]
    | @op _ z ts a c =>
      have ne : z ≠ "arg" ∧ z ≠ "cell" ∧ z ≠ "tick" ∧ z ≠ "call" := by
        rcases a with ⟨e, _⟩ | ⟨b, _⟩
        · subst e; decide +kernel
        · exact bin_ne b
      rw [evF_tup, evF_tup, evH_op ne, evH_op ne]
      match ts, c with
      | [], _ => rfl
      | [_], _ => rfl
      | [a, b], c =>
        dsimp only
        rw [ih a (c a (by simp)) st, ih b (c b (by simp))]
      | [a, b, d], c =>
        dsimp only
        rw [ih a (c a (by simp)) st, ih b (c b (by simp)), ih d (c d (by simp))]
      | _ :: _ :: _ :: _ :: _, _ => rfl
theorem evF_ok {L : LB} {n : Nat} (hc : CallOk call L) (hp : ∀ x k, (x, k) ∈ L.cells → pl x < L.cells.length) (hn : args.length = n) (ha : Ok3 args) : ∀ (f : Nat) (d : PyData), GdL L n f d → ∀ st, st.length = L.cells.length → Ok3 st → OkR L.cells.length (evF call pl beat args f d st)
  | 0, _, g, _, _, _ => nomatch g
  | f + 1, d, g, st, hl, hs => by
    have ih := fun d (g : GdL L (n : Int) f d) => evF_ok hc hp hn ha f d g
    cases g with
    | val a b => exact ⟨⟨a, b⟩, hl, hs⟩
    | @arg _ i a b =>
      rw [evF_tup]
      rw [evH_arg]
      exact ⟨ok3_get ha (by omega), hl, hs⟩
    | @cell _ x k a =>
      rw [evF_tup]
      rw [evH_cell]
      exact ⟨ok3_get hs (by rw [hl]; exact hp x k a), hl, hs⟩
    | tick =>
      rw [evF_tup]
      rw [evH_tick]
      exact ⟨⟨Int.emod_nonneg _ (by decide), Int.emod_lt_of_pos _ (by decide)⟩, hl, hs⟩
    | @call _ x ts a c =>
      have each : ∀ (ts : List PyData), (∀ t ∈ ts, GdL L n f t) → ∀ st, st.length = L.cells.length → Ok3 st → (evs (evF call pl beat args f) ts st).1.length = ts.length ∧ Ok3 (evs (evF call pl beat args f) ts st).1 ∧ (evs (evF call pl beat args f) ts st).2.length = L.cells.length ∧ Ok3 (evs (evF call pl beat args f) ts st).2 := by
        clear hl hs
        intro ts
        induction ts with
        | nil => intro _ st hl hs; exact ⟨rfl, (fun x hx => by cases hx), hl, hs⟩
        | cons t ts iht =>
          intro c st hl hs
          obtain ⟨h1, h2, h3⟩ := ih t (c t List.mem_cons_self) st hl hs
          obtain ⟨k1, k2, k3, k4⟩ := iht (fun u hu => c u (List.mem_cons_of_mem _ hu)) _ h2 h3
          refine ⟨by show _ + 1 = _ + 1; rw [k1], fun x hx => ?_, k3, k4⟩
          rcases List.mem_cons.mp hx with rfl | hx
          · exact h1
          · exact k2 x hx
      rw [evF_tup]
      rw [evH_call]
      obtain ⟨k1, k2, k3, k4⟩ := each ts c st hl hs
      exact hc x _ _ (by rw [k1]; exact a) k2 k3 k4
    | @op _ z ts a c =>
      have ne : z ≠ "arg" ∧ z ≠ "cell" ∧ z ≠ "tick" ∧ z ≠ "call" := by
        rcases a with ⟨e, _⟩ | ⟨b, _⟩
        · subst e; decide +kernel
        · exact bin_ne b
      rw [evF_tup]
      rw [evH_op ne]
      match ts, a, c with
      | [], _, _ => exact ⟨⟨Int.le_refl _, zero_lt3⟩, hl, hs⟩
      | [_], _, _ => exact ⟨⟨Int.le_refl _, zero_lt3⟩, hl, hs⟩
      | [a, b], _, c =>
        dsimp only
        obtain ⟨h1, h2, h3⟩ := ih a (c a (by simp)) st hl hs
        obtain ⟨k1, k2, k3⟩ := ih b (c b (by simp)) _ h2 h3
        exact ⟨join_ok h1 k1, k2, k3⟩
      | [a, b, d], _, c =>
        dsimp only
        obtain ⟨h1, h2, h3⟩ := ih a (c a (by simp)) st hl hs
        split
        · exact ih b (c b (by simp)) _ h2 h3
        · exact ih d (c d (by simp)) _ h2 h3
      | _ :: _ :: _ :: _ :: _, _, _ => exact ⟨⟨Int.le_refl _, zero_lt3⟩, hl, hs⟩
end
theorem gdl_up {L : LB} {n : Int} : ∀ (f : Nat) (d : PyData), GdL L n f d → GdL L n (f + 1) d
  | 0, _, h => nomatch h
  | f + 1, d, h => by
    cases h with
    | val a b => exact .val a b
    | arg a b => exact .arg a b
    | cell a => exact .cell a
    | tick => exact .tick
    | call a c => exact .call a fun t ht => gdl_up f t (c t ht)
    | op a c => exact .op a fun t ht => gdl_up f t (c t ht)
/-- what is written is right -/
def WsOk (L : LB) (n : Nat) (ws : List PyData) : Prop := ∀ e ∈ ws, ∃ z t, e = .tuple [.str z, t] ∧ (z, ("table" : Str)) ∈ L.cells ∧ GdL L (n : Int) 3 t
theorem wrF_ok {L : LB} {n : Nat} {ev : PyData → List Int → Int × List Int} {pl : Str → Nat} (he : ∀ t, GdL L (n : Int) 3 t → ∀ st, st.length = L.cells.length → Ok3 st → OkR L.cells.length (ev t st)) :
    ∀ (ws : List PyData), WsOk L n ws → ∀ st, st.length = L.cells.length → Ok3 st → (wrF ev pl ws st).length = L.cells.length ∧ Ok3 (wrF ev pl ws st)
  | [], _, st, hl, hs => ⟨hl, hs⟩
  | e :: ws, h, st, hl, hs => by
    obtain ⟨z, t, rfl, _, gt⟩ := h e List.mem_cons_self
    obtain ⟨h1, h2, h3⟩ := he t gt st hl hs
    exact wrF_ok he ws (fun e he => h e (List.mem_cons_of_mem _ he)) _ (by rw [List.length_set]; exact h2) (ok3_set h3 _ h1)
theorem wrF_congr {L : LB} {n : Nat} {ev ev' : PyData → List Int → Int × List Int} {pl : Str → Nat} (he : ∀ t, GdL L (n : Int) 3 t → ∀ st, ev t st = ev' t st) : ∀ (ws : List PyData), WsOk L n ws → ∀ st, wrF ev pl ws st = wrF ev' pl ws st
  | [], _, _ => rfl
  | e :: ws, h, st => by
    obtain ⟨z, t, rfl, _, gt⟩ := h e List.mem_cons_self
    show wrF ev pl ws _ = wrF ev' pl ws _
    rw [he t gt st]
    exact wrF_congr he ws (fun e he => h e (List.mem_cons_of_mem _ he)) _
theorem ws_ok {L : LB} (o : LOk L) {n : Nat} {d : PyData} (h : WrD L (n : Int) d) : WsOk L n (entries d) := fun e he => by
  obtain ⟨w0, w1, w2, w3, w4, w5, w6, w7⟩ := ws_of o h
  obtain ⟨z, t, e1, e2, e3⟩ := w7 e he
  exact ⟨z, t, e1, e2, gdl_up _ _ e3⟩
theorem sem_snoc {pl : Str → Nat} {beat : Int} {fs : List FDr} {F : FDr} {x : Str} {args st : List Int} : sem pl beat (fs ++ [F]) x args st = if F.nm = x then bodyF (sem pl beat fs) pl beat args F st else sem pl beat fs x args st := by
  unfold sem
  rw [List.reverse_append]
  rfl
section
variable {cells : List (Str × Str)} {fs : List FDr} {beat : Int}
theorem body_ok {call : CallF} {prev : List FDr} {F : FDr} {args st : List Int} (o : LOk (lbOf cells prev)) (h : FOk 2 cells prev F) (hc : CallOk call (lbOf cells prev)) (hn : args.length = F.many) (ha : Ok3 args) (hl : st.length = cells.length) (hs : Ok3 st) :
    OkR cells.length (bodyF call (placeIn cells) beat args F st) := by
  have hp : ∀ x k, (x, k) ∈ (lbOf cells prev).cells → placeIn cells x < (lbOf cells prev).cells.length := fun x k h => place_lt h
  obtain ⟨h1, h2, h3⟩ := evF_ok (beat := beat) hc hp hn ha 3 F.res h.res st hl hs
  obtain ⟨k1, k2⟩ := wrF_ok (pl := placeIn cells) (fun t gt st hl hs => evF_ok (beat := beat) hc hp hn ha 3 t gt st hl hs) (entries F.ws) (ws_ok o h.ws) _ h2 h3
  exact ⟨h1, k1, k2⟩
theorem sem_ok (fit : Fit cells fs) : ∀ i, i ≤ fs.length → CallOk (sem (placeIn cells) beat (fs.take i)) (lbOf cells (fs.take i)) := by
  intro i
  induction i with
  | zero =>
    intro _ x args st hx
    rw [List.take_zero] at hx
    exact absurd hx (by simp [lbOf])
  | succ i ih =>
    intro hi x args st hx ha hl hs
    obtain ⟨F, hF⟩ : ∃ F, fs[i]? = some F := ⟨_, List.getElem?_eq_getElem (show i < fs.length by omega)⟩
    rw [take_snoc hF, sem_snoc]
    have hx2 : (x, args.length) ∈ ((fs.take i).map fun F => (F.nm, F.many)) ++ [(F.nm, F.many)] := by
      have : (x, args.length) ∈ (fs.take (i + 1)).map fun F => (F.nm, F.many) := hx
      rw [take_snoc hF, List.map_append] at this
      exact this
    by_cases e : F.nm = x
    · rw [if_pos e]
      have hm : args.length = F.many := by
        rcases List.mem_append.mp hx2 with h | h
        · exfalso
          obtain ⟨G, hG, eG⟩ := List.mem_map.mp h
          obtain ⟨j, hj⟩ := List.getElem?_of_mem hG
          have hj2 := (List.getElem?_eq_some_iff.mp hj).1
          rw [List.length_take] at hj2
          rw [List.getElem?_take] at hj
          split at hj
          · have := nd_inj fit.nf (i := j) (j := i) (z := x) (by rw [List.getElem?_map, hj, Option.map_some, (Prod.mk.inj eG).1]) (by rw [List.getElem?_map, hF, Option.map_some, e])
            omega
          · cases hj
        · exact (Prod.mk.inj (List.mem_singleton.mp h)).2
      exact body_ok (lok_take fit.ok i) (fit.fn i F hF) (ih (by omega)) hm ha hl hs
    · rw [if_neg e]
      refine ih (by omega) x args st ?_ ha hl hs
      rcases List.mem_append.mp hx2 with h | h
      · exact h
      · exact absurd (Prod.mk.inj (List.mem_singleton.mp h)).1.symm e
theorem sem_take (fit : Fit cells fs) {i : Nat} {x : Str} (hx : x ∈ (fs.take i).map (·.nm)) (args st : List Int) : ∀ j, i ≤ j → j ≤ fs.length → sem (placeIn cells) beat (fs.take j) x args st = sem (placeIn cells) beat (fs.take i) x args st := by
  intro j hij
  induction j with
  | zero => intro _; rw [show i = 0 by omega]
  | succ j ih =>
    intro hj
    by_cases e : i = j + 1
    · rw [e]
    obtain ⟨F, hF⟩ : ∃ F, fs[j]? = some F := ⟨_, List.getElem?_eq_getElem (show j < fs.length by omega)⟩
    rw [take_snoc hF, sem_snoc, if_neg (fun q => ?_)]
    · exact ih (by omega) (by omega)
    · obtain ⟨G, hG, eG⟩ := List.mem_map.mp hx
      obtain ⟨m, hm⟩ := List.getElem?_of_mem hG
      have hm2 := (List.getElem?_eq_some_iff.mp hm).1
      rw [List.length_take] at hm2
      rw [List.getElem?_take] at hm
      split at hm
      · have := nd_inj fit.nf (i := m) (j := j) (z := x) (by rw [List.getElem?_map, hm, Option.map_some, eG]) (by rw [List.getElem?_map, hF, Option.map_some, q])
        omega
      · cases hm
/-- what a call comes to, by what the function says -/
theorem sem_fix (fit : Fit cells fs) {i : Nat} {F : FDr} (hF : fs[i]? = some F) (args st : List Int) : sem (placeIn cells) beat fs F.nm args st = bodyF (sem (placeIn cells) beat fs) (placeIn cells) beat args F st := by
  have hi := (List.getElem?_eq_some_iff.mp hF).1
  have e1 : sem (placeIn cells) beat fs F.nm args st = sem (placeIn cells) beat (fs.take (i + 1)) F.nm args st := by
    have := sem_take fit (beat := beat) (i := i + 1) (x := F.nm) (by rw [take_snoc hF, List.map_append]; exact List.mem_append.mpr (.inr (List.mem_singleton.mpr rfl))) args st fs.length hi (Nat.le_refl _)
    rw [List.take_length] at this
    exact this
  rw [e1, take_snoc hF, sem_snoc, if_pos rfl]
  have ok := fit.fn i F hF
  have cg : ∀ x m, (x, m) ∈ (lbOf cells (fs.take i)).fns → ∀ as st, sem (placeIn cells) beat (fs.take i) x as st = sem (placeIn cells) beat fs x as st := fun x m h as st => by
    have := sem_take fit (beat := beat) (i := i) (x := x) (by
      obtain ⟨G, hG, e⟩ := List.mem_map.mp h
      exact List.mem_map.mpr ⟨G, hG, (Prod.mk.inj e).1⟩) as st fs.length (by omega) (Nat.le_refl _)
    rw [List.take_length] at this
    exact this.symm
  unfold bodyF
  rw [evF_congr cg 3 F.res ok.res st, wrF_congr (fun t gt st => evF_congr cg 3 t gt st) (entries F.ws) (ws_ok (lok_take fit.ok i) ok.ws)]
end
/-! ### states as dicts -/
def stK (cells : List (Str × Str)) (st : List Int) : List (Key × V) := (cells.zip st).map fun p => ((.inr p.1.1 : Key), V.int p.2)
theorem stK_cons (c : Str × Str) (cells : List (Str × Str)) (v : Int) (st : List Int) : stK (c :: cells) (v :: st) = (.inr c.1, .int v) :: stK cells st := rfl
theorem stK_len {cells : List (Str × Str)} {st : List Int} (l : st.length = cells.length) : (stK cells st).length = cells.length := by
  unfold stK
  rw [List.length_map, List.length_zip, l, Nat.min_self]
theorem stK_not : ∀ {cells : List (Str × Str)} {st : List Int} {x : Str}, x ∉ cells.map (·.1) → valV (stK cells st) (.inr x : Key) = none
  | [], _, _, _ => rfl
  | _ :: _, [], _, _ => rfl
  | c :: cells, v :: st, x, h => by
    rw [List.map_cons, List.mem_cons] at h
    rw [stK_cons, valV_neg (fun q => h (.inl (Sum.inr.inj q).symm))]
    exact stK_not fun q => h (.inr q)
theorem stK_get : ∀ {cells : List (Str × Str)} {st : List Int} {i : Nat} {c : Str × Str} {v : Int}, (cells.map (·.1)).Nodup → cells[i]? = some c → st[i]? = some v → valV (stK cells st) (.inr c.1 : Key) = some (.int v)
  | [], _, _, _, _, _, h, _ => by simp at h
  | _ :: _, [], _, _, _, _, _, h => by simp at h
  | a :: cells, u :: st, 0, c, v, _, h1, h2 => by
    cases h1
    cases h2
    exact valV_pos rfl
  | a :: cells, u :: st, i + 1, c, v, n, h1, h2 => by
    rw [List.map_cons, List.nodup_cons] at n
    rw [List.getElem?_cons_succ] at h1 h2
    rw [stK_cons, valV_neg (fun q => n.1 (List.mem_map.mpr ⟨c, List.mem_of_getElem? h1, (Sum.inr.inj q).symm⟩))]
    exact stK_get n.2 h1 h2
theorem stK_set : ∀ {cells : List (Str × Str)} {st : List Int} {i : Nat} {c : Str × Str} {v : Int}, (cells.map (·.1)).Nodup → cells[i]? = some c → st.length = cells.length → putK (stK cells st) (.inr c.1 : Key) (.int v) = stK cells (st.set i v)
  | [], _, _, _, _, _, h, _ => by simp at h
  | _ :: _, [], _, _, _, _, _, h => by simp at h
  | a :: cells, u :: st, 0, c, v, n, h1, l => by
    cases h1
    rw [List.map_cons, List.nodup_cons] at n
    unfold putK
    rw [if_pos (by rw [stK_cons, List.any_cons]; simp)]
    rw [stK_cons, List.map_cons]
    rw [List.set_cons_zero, stK_cons, if_pos rfl]
    congr 1
    have : ∀ kv ∈ stK cells st, kv.1 ≠ (.inr a.1 : Key) := fun kv hkv e => by
      obtain ⟨p, hp, rfl⟩ := List.mem_map.mp hkv
      exact n.1 (List.mem_map.mpr ⟨p.1, (List.of_mem_zip hp).1, Sum.inr.inj e⟩)
    refine (List.map_congr_left fun kv hkv => ?_).trans (List.map_id _)
    rw [if_neg (this kv hkv)]
    rfl
  | a :: cells, u :: st, i + 1, c, v, n, h1, l => by
    rw [List.map_cons, List.nodup_cons] at n
    rw [List.getElem?_cons_succ] at h1
    have ne : (.inr a.1 : Key) ≠ .inr c.1 := fun q => n.1 (List.mem_map.mpr ⟨c, List.mem_of_getElem? h1, (Sum.inr.inj q).symm⟩)
    have ih := stK_set (v := v) n.2 h1 (Nat.succ.inj l)
    have hi : i < cells.length := (List.getElem?_eq_some_iff.mp h1).1
    have has : ((stK cells st).any fun kv => decide (kv.1 = (.inr c.1 : Key))) = true := by
      have hs : i < st.length := by have := Nat.succ.inj l; omega
      rw [valV_any, stK_get n.2 h1 (List.getElem?_eq_getElem hs)]
      rfl
    unfold putK at ih ⊢
    rw [if_pos has] at ih
    rw [stK_cons, List.any_cons, has, Bool.or_true, if_pos rfl, List.map_cons, if_neg ne, List.set_cons_succ, stK_cons, ih]
theorem stK_snoc {cells : List (Str × Str)} {st : List Int} {c : Str × Str} {v : Int} (l : st.length = cells.length) (n : c.1 ∉ cells.map (·.1)) : putK (stK cells st) (.inr c.1 : Key) (.int v) = stK (cells ++ [c]) (st ++ [v]) := by
  unfold putK
  rw [if_neg (by rw [valV_any, stK_not n]; decide)]
  unfold stK
  rw [List.zip_append l.symm, List.map_append]
  rfl
theorem place_at {cells : List (Str × Str)} (n : (cells.map (·.1)).Nodup) {i : Nat} {c : Str × Str} (h : cells[i]? = some c) : placeIn cells c.1 = i := by
  have m : c.1 ∈ cells.map (·.1) := List.mem_map.mpr ⟨c, List.mem_of_getElem? h, rfl⟩
  have lt := List.idxOf_lt_length_iff.mpr m
  refine nd_inj n (z := c.1) ?_ (by rw [List.getElem?_map, h]; rfl)
  unfold placeIn
  rw [List.getElem?_eq_getElem lt, List.getElem_idxOf]
theorem cell_place {cells : List (Str × Str)} {x k : Str} (h : (x, k) ∈ cells) : ∃ c, cells[placeIn cells x]? = some c ∧ c.1 = x := by
  have m : x ∈ cells.map (·.1) := List.mem_map.mpr ⟨_, h, rfl⟩
  have lt := List.idxOf_lt_length_iff.mpr m
  have e : (cells.map (·.1))[placeIn cells x]? = some x := by
    unfold placeIn
    rw [List.getElem?_eq_getElem lt, List.getElem_idxOf]
  rw [List.getElem?_map] at e
  obtain ⟨c, hc, ec⟩ := Option.map_eq_some_iff.mp e
  exact ⟨c, hc, ec⟩
def placesK (cells : List (Str × Str)) : List (Key × V) := stK cells ((List.range cells.length).map Int.ofNat)
theorem places_get {cells : List (Str × Str)} (n : (cells.map (·.1)).Nodup) {x k : Str} (h : (x, k) ∈ cells) : valV (placesK cells) (.inr x : Key) = some (.int (placeIn cells x : Nat)) := by
  obtain ⟨c, hc, ec⟩ := cell_place h
  subst ec
  have lt := (List.getElem?_eq_some_iff.mp hc).1
  exact stK_get n hc (by rw [List.getElem?_map, List.getElem?_range lt]; rfl)
/-! ### BadState, BadArguments, BadTick -/
abbrev sBadState : Stmt := inClass (topS 8) 0
theorem scBadState : FnScope ["self", "name"] ["self", "name"] (defScope sBadState) := ⟨rfl, rfl, rfl, by decide +kernel, rfl, by decide +kernel, by decide +kernel⟩
abbrev sBadArguments : Stmt := inClass (topS 9) 0
theorem scBadArguments : FnScope ["self", "arguments"] ["self", "arguments"] (defScope sBadArguments) := ⟨rfl, rfl, rfl, by decide +kernel, rfl, by decide +kernel, by decide +kernel⟩
abbrev sBadTick : Stmt := inClass (topS 10) 0
theorem scBadTick : FnScope ["self", "value"] ["self", "value"] (defScope sBadTick) := ⟨rfl, rfl, rfl, by decide +kernel, rfl, by decide +kernel, by decide +kernel⟩
section
variable {P : Program} {w : World} {K : PySem.W.Frag} {mg : Str → Option Value} {base : Heap}
theorem ok_badState {C f B : Addr} {fd : FuncData} (F : Fun K "__init__" "BadState.__init__" sBadState f fd) (TB : OwnBase K mg "StoreError" B) (oex : OexC K C) (nof : PySem.W.findIn K (.ref C) "name" = some none) :
    FnOk P w K mg base CX0 1 f fd ["self", "name"] (spErr C "name") := by
  refine F.ok scBadState (fun vs H Q E h => ?_) (fun cdv A outer s H vs Q E hr h => ?_)
  · obtain ⟨a, v, rfl, _⟩ := h
    rfl
  · obtain ⟨a, v, rfl, e, q⟩ := h
    refine ⟨_, pss_cons (ps_expr (pe_baseI (by rfl) TB (pa_cons (pv 0) (pa_cons pe_str pa_nil)))) (pss_one (ps_ost (pv 0) (pv 1))), ?_⟩
    refine ⟨.ref a, rfl, a, C, _, rfl, by show (1 : Nat) ≤ 1000; decide, oex, e, ?_⟩
    exact ⟨v, rfl, .ref a, rfl, a, C, rfl, oex, nof, .inl ⟨e, fun d nd ne => q d nd ne⟩⟩
theorem ok_badArguments {C f B : Addr} {fd : FuncData} (F : Fun K "__init__" "BadArguments.__init__" sBadArguments f fd) (TB : OwnBase K mg "StoreError" B) (oex : OexC K C) (nof : PySem.W.findIn K (.ref C) "arguments" = some none) :
    FnOk P w K mg base CX0 1 f fd ["self", "arguments"] (spErr C "arguments") := by
  refine F.ok scBadArguments (fun vs H Q E h => ?_) (fun cdv A outer s H vs Q E hr h => ?_)
  · obtain ⟨a, v, rfl, _⟩ := h
    rfl
  · obtain ⟨a, v, rfl, e, q⟩ := h
    refine ⟨_, pss_cons (ps_expr (pe_baseI (by rfl) TB (pa_cons (pv 0) (pa_cons pe_str pa_nil)))) (pss_one (ps_ost (pv 0) (pv 1))), ?_⟩
    refine ⟨.ref a, rfl, a, C, _, rfl, by show (1 : Nat) ≤ 1000; decide, oex, e, ?_⟩
    exact ⟨v, rfl, .ref a, rfl, a, C, rfl, oex, nof, .inl ⟨e, fun d nd ne => q d nd ne⟩⟩
theorem ok_badTick {C f B : Addr} {fd : FuncData} (F : Fun K "__init__" "BadTick.__init__" sBadTick f fd) (TB : OwnBase K mg "StoreError" B) (oex : OexC K C) (nof : PySem.W.findIn K (.ref C) "value" = some none) :
    FnOk P w K mg base CX0 1 f fd ["self", "value"] (spErr C "value") := by
  refine F.ok scBadTick (fun vs H Q E h => ?_) (fun cdv A outer s H vs Q E hr h => ?_)
  · obtain ⟨a, v, rfl, _⟩ := h
    rfl
  · obtain ⟨a, v, rfl, e, q⟩ := h
    refine ⟨_, pss_cons (ps_expr (pe_baseI (by rfl) TB (pa_cons (pv 0) (pa_cons pe_str pa_nil)))) (pss_one (ps_ost (pv 0) (pv 1))), ?_⟩
    refine ⟨.ref a, rfl, a, C, _, rfl, by show (1 : Nat) ≤ 1000; decide, oex, e, ?_⟩
    exact ⟨v, rfl, .ref a, rfl, a, C, rfl, oex, nof, .inl ⟨e, fun d nd ne => q d nd ne⟩⟩
end
/-! ### what run_alone looks at, whatever is given -/
theorem ps_dead {X : Cx} {st : Stmt} : PS X st (fun _ _ _ => False) := ⟨fun _ _ _ _ _ _ h => h.elim⟩
abbrev sAV : Stmt := topS 20
theorem scAV : FnScope ["values", "many", "value"] ["values", "many"] (defScope sAV) := ⟨rfl, rfl, rfl, by decide +kernel, rfl, by decide +kernel, by decide +kernel⟩
abbrev sCA : Stmt := topS 31
theorem scCA : FnScope ["function", "arguments"] ["function", "arguments"] (defScope sCA) := ⟨rfl, rfl, rfl, by decide +kernel, rfl, by decide +kernel, by decide +kernel⟩
abbrev sCS : Stmt := topS 22
theorem scCS : FnScope ["cells", "state", "cell"] ["cells", "state"] (defScope sCS) := ⟨rfl, rfl, rfl, by decide +kernel, rfl, by decide +kernel, by decide +kernel⟩
theorem iteT' {c : Bool} {A B : Prop} (hc : c = true) (h : A) : if c = true then A else B := by
  rw [if_pos hc]
  exact h
theorem iteF' {c : Bool} {A B : Prop} (hc : c = false) (h : B) : if c = true then A else B := by
  rw [hc]
  exact h
/-! ### the Runner's methods -/
/-- arguments of the right form, so many -/
def valuesB (many : Nat) (ds : List PyData) : Bool := decide (ds.length = many) && ds.all isValue
def argsB (many : Nat) : PyData → Bool
  | .list ds => valuesB many ds
  | .tuple ds => valuesB many ds
  | _ => false
/-- a datum, or the empty dict -/
inductive Od where
  | dat (d : PyData)
  | emp
def OdAt (K : PySem.W.Frag) (H : Hp) (v : V) : Od → Prop
  | .dat d => Dp K H v d ∧ szD d = true
  | .emp => ∃ g, v = .ref g ∧ H g = some (.dK [])
def Od.args (many : Nat) : Od → Bool
  | .dat d => argsB many d
  | .emp => false
theorem OdAt.same {K : PySem.W.Frag} {H H' : Hp} {v : V} {o : Od} (h : OdAt K H v o) (s : Same H H') : OdAt K H' v o := by
  cases o with
  | dat d => exact ⟨dp_same s h.1, h.2⟩
  | emp =>
    obtain ⟨g, e, eg⟩ := h
    exact ⟨g, e, s _ _ eg⟩
def isSq : Od → Bool
  | .dat d => isSeq d
  | .emp => false
theorem OdAt.ty {K : PySem.W.Frag} {H : Hp} {v : V} {o : Od} (h : OdAt K H v o) : ∃ t, TyX K H v t ∧ PySem.W.kitAny K t [.type "list", .type "tuple"] = some (isSq o) := by
  cases o with
  | dat d => exact ⟨_, dp_ty h.1, kit_seq K d⟩
  | emp =>
    obtain ⟨g, rfl, eg⟩ := h
    refine ⟨_, .base (.dK eg), ?_⟩
    exact kit_seq K (.dict [])
theorem Od.args_sq {many : Nat} {o : Od} (h : isSq o = false) : o.args many = false := by
  cases o with
  | dat d => cases d <;> first | rfl | cases h
  | emp => rfl
theorem kit_dict (K : PySem.W.Frag) : ∀ d : PyData, PySem.W.kitOne K (.type (kind d)) (.type "dict") = some (match d with | .dict _ => true | _ => false)
  | .none => kit_ty (show kitB "NoneType" "dict" = some false by decide +kernel)
  | .bool _ => kit_ty (show kitB "bool" "dict" = some false by decide +kernel)
  | .int _ => kit_ty (show kitB "int" "dict" = some false by decide +kernel)
  | .str _ => kit_ty (show kitB "str" "dict" = some false by decide +kernel)
  | .list _ => kit_ty (show kitB "list" "dict" = some false by decide +kernel)
  | .tuple _ => kit_ty (show kitB "tuple" "dict" = some false by decide +kernel)
  | .dict _ => kit_ty (show kitB "dict" "dict" = some true by decide +kernel)
theorem dp_nodict {K : PySem.W.Frag} {H : Hp} {v : V} {d : PyData} (h : Dp K H v d) : PySem.W.kitOne K (.type (kind d)) (.type "dict") = some false := by
  rw [kit_dict]
  cases h <;> rfl
def spAV (K : PySem.W.Frag) : Sp := fun vs H Q _ => ∃ (v : V) (a : Addr) (us : List V) (ds : List PyData) (many : Nat), vs = [.ref a, .int many] ∧ (SqL K H a us ∨ SqT K H a us) ∧ DpAll K H us ds ∧ szDs ds = true ∧ ds.length ≤ 1000 ∧ ∀ H', Same H H' → Q (.bl (valuesB many ds)) H'
def spCA (K : PySem.W.Frag) (CF CL CA : Addr) : Sp := fun vs H Q E => ∃ (fa : Addr) (v : V) (o : Od) (F : FX) (many : Nat), vs = [.ref fa, v] ∧ FunFull K H CF CL fa F ∧ F.d.ar = (many : Nat) ∧ OdAt K H v o ∧ (∀ ds, o = .dat (.list ds) ∨ o = .dat (.tuple ds) → ds.length ≤ 1000) ∧
  (o.args many = true → ∀ H', Same H H' → Q .non H') ∧ (o.args many = false → EWish H CA "arguments" v E)
/-- a state that is none: x is what the error tells -/
def StBad (K : PySem.W.Frag) (H : Hp) (cells : List (Str × Str)) (v x : V) : Prop := (∃ d, Dp K H v d ∧ x = .non) ∨ (∃ g kvs, v = .ref g ∧ H g = some (.dK kvs) ∧ kvs.length ≠ cells.length ∧ kvs.length ≤ 6 ∧ x = .non) ∨
  (∃ (g : Addr) (st : List Int) (i : Nat) (c : Str × Str) (n : Int), v = .ref g ∧ H g = some (.dK (stK cells st)) ∧ st.length = cells.length ∧ cells[i]? = some c ∧ st[i]? = some n ∧ ¬(0 ≤ n ∧ n < 3) ∧ (∀ j m, j < i → st[j]? = some m → 0 ≤ m ∧ m < 3) ∧ x = .str c.1)
def StGood (H : Hp) (cells : List (Str × Str)) (v : V) (st : List Int) : Prop := ∃ g, v = .ref g ∧ H g = some (.dK (stK cells st)) ∧ st.length = cells.length ∧ Ok3 st
theorem StBad.same {K : PySem.W.Frag} {H H' : Hp} {cells : List (Str × Str)} {v x : V} (h : StBad K H cells v x) (s : Same H H') : StBad K H' cells v x := by
  rcases h with ⟨d, hd, e⟩ | ⟨g, kvs, e, eg, r⟩ | ⟨g, st, i, c, n, e, eg, r⟩
  · exact .inl ⟨d, dp_same s hd, e⟩
  · exact .inr (.inl ⟨g, kvs, e, s _ _ eg, r⟩)
  · exact .inr (.inr ⟨g, st, i, c, n, e, s _ _ eg, r⟩)
theorem StGood.same {H H' : Hp} {cells : List (Str × Str)} {v : V} {st : List Int} (h : StGood H cells v st) (s : Same H H') : StGood H' cells v st := by
  obtain ⟨g, e, eg, r⟩ := h
  exact ⟨g, e, s _ _ eg, r⟩
def spCS (K : PySem.W.Frag) (C CS : Addr) : Sp := fun vs H Q E => ∃ (l : Addr) (v : V) (xs : List V) (cells : List (Str × Str)), vs = [.ref l, v] ∧ H l = some (.lst xs) ∧ Rows (CRow H C) xs cells ∧ (cells.map (·.1)).Nodup ∧ cells.length ≤ 6 ∧
  ((∃ x, StBad K H cells v x ∧ EWish H CS "name" x E) ∨ (∃ st, StGood H cells v st ∧ ∀ H', Same H H' → Q .non H'))
theorem val_int {v : Int} : isValue (.int v) = decide (0 ≤ v ∧ v < 3) := (Bool.decide_and _ _).symm
section
variable {P : Program} {w : World} {K : PySem.W.Frag} {mg : Str → Option Value} {base : Heap}
theorem ok_av {f fV : Addr} {fd dV : FuncData} (F : Fun K "are_values" "are_values" sAV f fd) (M : Blt mg) (GV : FnOk P w K mg base CX0 2 fV dV ["value"] (spB K isValue)) (kV : PySem.W.keepIn K (.ref fV) = true) (bV : Binds K dV ["value"] []) (gV : mg "is_value" = some (.ref fV)) : FnOk P w K mg base CX0 3 f fd ["values", "many"] (spAV K) := by
  refine F.ok scAV (fun vs H Q E h => ?_) (fun cdv A outer s H vs Q E hr h => ?_)
  · obtain ⟨_, a, us, ds, many, rfl, _⟩ := h
    rfl
  · obtain ⟨_, a, us, ds, many, rfl, hs, hd, hz, hl, q⟩ := h
    refine ⟨_, pss_one (ps_ret (pe_and (pe_cmpR op_eq (pe_callB call_len_seq (by rfl) M.len PySem.boot_len (pa_cons (pv 0) pa_nil)) (pv 1) (nomark _)) (pe_one (pe_callB (cr_all rfl) (by rfl) M.all (by decide +kernel) (pa_cons
      (pe_lc (own := [("value", 2)]) (g := gName 2) (wi := iSeqA K (tVar 0)) (tt := tYes) (te := tCall (spB K isValue) [] E0 (tCons (tVar 2) tNil)) (by rfl) scAV.nd (pi_seqA (pv 0)) (blkOk_by (own := [("value", 2)]) (N := ["values", "many", "value"]) (sc := defScope sAV) (by decide +kernel))
        (fun _ _ _ _ _ => pg_name (i := 2) scAV.nd rfl (Or.inl rfl)) (fun _ _ _ _ _ => pts_nil) (fun _ _ _ _ _ => pe_call GV hr (by rfl) gV kV bV .nil pass0 (pa_cons (pv 2) pa_nil))) pa_nil))))), ?_⟩
    have lu := dpA_len hd
    refine ⟨.ref a, rfl, a, _, rfl, hs, .int many, rfl, rfl, _, rfl, ?_⟩
    have step : ∀ (i : Nat) (x : V) (H1 : Hp), Same H H1 → us[i]? = some x → ∀ Q' : VK, (∀ H2, Same H1 H2 → Q' (.bl (isValue (ds.getD i .none))) H2) → spB K isValue [x] H1 Q' E0 := fun i x H1 s1 hx Q' q' => by
      obtain ⟨d, hi, hv⟩ := dpA_at hd hx
      refine ⟨x, d, rfl, dp_same s1 hv, szD_item hz hi, fun H2 s2 => ?_⟩
      have e : ds.getD i .none = d := by rw [List.getD_eq_getElem?_getD, hi]; rfl
      rw [← e]
      exact q' H2 s2
    by_cases hm : ds.length ≠ many
    · refine iteF' (decide_eq_false fun e => hm (by rw [lu] at e; exact Int.ofNat.inj (V.int.inj e))) ?_
      · have e : valuesB many ds = false := by unfold valuesB; rw [decide_eq_false hm]; rfl
        rw [e] at q
        exact q H (Same.refl H)
    have hm := Decidable.of_not_not hm
    refine iteT' (by rw [lu, hm]; exact decide_eq_true rfl) ⟨.ref a, rfl, a, rfl, ?_⟩
    have fin : ∀ (D : Addr) (H' : Hp), Same H H' → H' D = some (.lst ((List.range us.length).map fun i => V.bl (isValue (ds.getD i .none)))) → ∃ a bs, [V.ref D] = [V.ref a] ∧ SqL K H' a (List.map V.bl bs) ∧ Q (.bl (bs.all id)) H' := fun D H' s' e' => by
      have el : ((List.range us.length).map fun i => V.bl (isValue (ds.getD i .none))) = (ds.map isValue).map V.bl := by
        rw [lu]
        apply List.ext_getElem?
        intro i
        rw [List.getElem?_map, List.getElem?_map, List.getElem?_map]
        by_cases h : i < ds.length
        · rw [List.getElem?_range h, List.getElem?_eq_getElem h, Option.map_some, Option.map_some, Option.map_some, List.getD_eq_getElem?_getD, List.getElem?_eq_getElem h]
          rfl
        · rw [List.getElem?_eq_none (by rw [List.length_range]; omega), List.getElem?_eq_none (by omega)]
          rfl
      rw [el] at e'
      refine ⟨D, ds.map isValue, rfl, .inl (.inl e'), ?_⟩
      have e : valuesB many ds = (ds.map isValue).all id := by
        unfold valuesB
        rw [decide_eq_true hm, Bool.true_and, List.all_map]
        rfl
      rw [e] at q
      exact q H' s'
    rcases hs with hs | hs
    · refine .inl ⟨⟨_, hs⟩, fun D hD => ?_⟩
      refine lc_vals (walk_list (K := K) (a := a) (xs := us)) (fun i => .bl (isValue (ds.getD i .none))) (by omega) hD (fun x => rfl) (fun H' s => s.seq hs) (fun i x H2 H3 hi s2 y => ?_) (fun H2 s2 e2 => fin D H2 s2 e2)
      obtain ⟨rfl, hx⟩ := y
      exact ⟨Same.refl _, fun Q' q' => ⟨x, rfl, step i x _ s2 hx Q' q'⟩⟩
    · refine .inr ⟨⟨_, hs⟩, fun D hD => ?_⟩
      refine lc_vals (walk_tup (K := K) (a := a) (xs := us)) (fun i => .bl (isValue (ds.getD i .none))) (by omega) hD (fun x => rfl) (fun H' s => same_sqT s hs) (fun i x H2 H3 hi s2 y => ?_) (fun H2 s2 e2 => fin D H2 s2 e2)
      obtain ⟨rfl, hx⟩ := y
      exact ⟨Same.refl _, fun Q' q' => ⟨x, rfl, step i x _ s2 hx Q' q'⟩⟩
theorem ok_ca {CF CL CA f fA fE : Addr} {fd dA dE : FuncData} (F : Fun K "_check_arguments" "_check_arguments" sCA f fd) (M : Blt mg) (cF : Cls K CF) (na : NoAttr K CF "arguments") (TE : ErrT K mg "BadArguments" "arguments" CA fE) (GE : FnOk P w K mg base CX0 1 fE dE ["self", "arguments"] (spErr CA "arguments")) (bE : Binds K dE ["self", "arguments"] [])
    (GA : FnOk P w K mg base CX0 3 fA dA ["values", "many"] (spAV K)) (kA : PySem.W.keepIn K (.ref fA) = true) (bA : Binds K dA ["values", "many"] []) (gA : mg "are_values" = some (.ref fA)) : FnOk P w K mg base (L2.CX P w) 4 f fd ["function", "arguments"] (spCA K CF CL CA) := by
  refine F.okX scCA (fun vs H Q E h => ?_) (fun cdv A outer s H vs Q E hr h => ?_)
  · obtain ⟨fa, v, o, F, many, rfl, _⟩ := h
    rfl
  · obtain ⟨fa, v, o, F, many, rfl, hX, har, hv, hlen, good, bad⟩ := h
    have one : (1 : Nat) ≤ 1000 := by decide
    refine ⟨_, pss_one (ps_if (PW.pt (pw_or (pt_not (pt_val (pe_callB call_isiT (by rfl) M.isinstance (by decide +kernel) (pa_cons (pv 1) (pa_cons (pe_tup (pa_cons (pe_bltn (v := .ty "list") (by rfl) M.list (by decide +kernel) rfl) (pa_cons (pe_bltn (v := .ty "tuple") (by rfl) M.tuple (by decide +kernel) rfl) pa_nil))) pa_nil)))))
      (pw_or1 (pt_not (pt_val (pe_call (E := E0) GA hr (by rfl) gA kA bA .nil pass0 (pa_cons (pv 1) (pa_cons (pe_fld (pv 0) (by rfl)) pa_nil))))))))
      (pss_one (ps_raise rfl (takes_of rfl rfl rfl rfl) (pmk_oex (k := 1) (ps := ["self", "arguments"]) (sp := spErr CA "arguments") (ds := []) (dvs := []) TE.oex TE.ini TE.typ GE (hr.mono (by decide)) bE .nil pass0 (by rfl) TE.nam (pa_cons (pv 1) pa_nil)))) pss_nil), ?_⟩
    refine ⟨v, rfl, (by show 2 ≤ sizeLine; decide), fun tp np => ?_⟩
    have s0 : Same H (upd H tp (HO.tup [.ty "list", .ty "tuple"])) := same_upd np
    have tcs : Paired ClsV [V.ty "list", V.ty "tuple"] [Value.type "list", Value.type "tuple"] := .cons (.ty "list") (.cons (.ty "tuple") .nil)
    obtain ⟨t, ty, kt⟩ := (hv.same s0).ty
    obtain ⟨_, dx, fs, vr, wa, la, ea, l1, l2, _⟩ := id hX
    refine ⟨v, tp, _, t, _, _, rfl, upd_same, tcs, ty, kt, _, rfl, ?_⟩
    cases hq : isSq o with
    | false => exact iteT ⟨v, rfl, one, mk_left fun dd H' l => bad (Od.args_sq hq) _ dd H' s0 l⟩
    | true =>
      refine iteF ?_
      obtain ⟨a, us, ds, rfl, hs, hd, hz, ho, hl⟩ : ∃ a us ds, v = .ref a ∧ (SqL K H a us ∨ SqT K H a us) ∧ DpAll K H us ds ∧ szDs ds = true ∧ o.args many = valuesB many ds ∧ ds.length ≤ 1000 := by
        cases o with
        | emp => cases hq
        | dat d =>
          obtain ⟨hd, hz⟩ := hv
          cases hd with
          | lst h1 h2 => exact ⟨_, _, _, rfl, .inl h1, h2, szD_seqL hz, rfl, hlen _ (.inl rfl)⟩
          | tup h1 h2 => exact ⟨_, _, _, rfl, .inr h1, h2, szD_seqT hz, rfl, hlen _ (.inr rfl)⟩
          | _ => cases hq
      refine ⟨.ref a, rfl, .ref fa, rfl, fa, CF, dx, fs, .int F.d.ar, rfl, s0 _ _ ea, cF, na, l2, .non, a, us, ds, many, by rw [har]; rfl, sqA_same hs s0, dpA_same s0 hd, hz, hl, fun H1 s1 => ⟨_, rfl, ?_⟩⟩
      cases hb : valuesB many ds with
      | true => exact iteF (good (ho.trans hb) H1 (s0.trans s1))
      | false => exact iteT ⟨.ref a, rfl, one, mk_left fun dd H' l => bad (ho.trans hb) _ dd H' (s0.trans s1) l⟩
theorem ok_cs {C CS f fV fE : Addr} {fd dV dE : FuncData} (F : Fun K "check_state" "check_state" sCS f fd) (M : Blt mg) (cC : Cls K C) (nC : NoAttr K C "name") (TE : ErrT K mg "BadState" "name" CS fE) (GE : FnOk P w K mg base CX0 1 fE dE ["self", "name"] (spErr CS "name")) (bE : Binds K dE ["self", "name"] [])
    (GV : FnOk P w K mg base CX0 2 fV dV ["value"] (spB K isValue)) (kV : PySem.W.keepIn K (.ref fV) = true) (bV : Binds K dV ["value"] []) (gV : mg "is_value" = some (.ref fV)) : FnOk P w K mg base (L2.CX P w) 3 f fd ["cells", "state"] (spCS K C CS) := by
  refine F.okX scCS (fun vs H Q E h => ?_) (fun cdv A outer s H vs Q E hr h => ?_)
  · obtain ⟨l, v, xs, cells, rfl, _⟩ := h
    rfl
  · obtain ⟨l, v, xs, cells, rfl, el, rX, nc, l6, cs⟩ := h
    have hu := hu_of hr
    have one : (1 : Nat) ≤ 1000 := by decide
    refine ⟨_, pss_cons (ps_if (PW.pt (pw_or (pt_not (pt_val (pe_callB call_isi (by rfl) M.isinstance (by decide +kernel) (pa_cons (pv 1) (pa_cons (pe_bltn (v := .ty "dict") (by rfl) M.dict (by decide +kernel) rfl) pa_nil)))))
        (pw_or1 (pt_cmpR op_ne (pe_callB call_lenD (by rfl) M.len PySem.boot_len (pa_cons (pv 1) pa_nil)) (pe_callB call_len_seq (by rfl) M.len PySem.boot_len (pa_cons (pv 0) pa_nil)) (nomark _)))))
        (pss_one (ps_raise rfl (takes_of rfl rfl rfl rfl) (pmk_oex (k := 1) (ps := ["self", "name"]) (sp := spErr CS "name") (ds := []) (dvs := []) TE.oex TE.ini TE.typ GE (hr.mono (by decide)) bE .nil pass0 (by rfl) TE.nam (pa_cons pe_non pa_nil)))) pss_nil)
      (pss_one (ps_for (passes_of rfl) rfl (pi_list (pv 0)) (pg_name (i := 2) scCS.nd rfl (.inl rfl)) (pss_one (ps_if (PW.pt (pw_or (pt_cmp (pc_dnotin hu (pe_fld (pv 2) (by rfl)) (pv 1))) (pw_or1 (pt_not (pt_val (pe_call (E := E0) GV (hr.mono (by decide)) (by rfl) gV kV bV .nil pass0 (pa_cons (pe_dget hu (pv 1) (pe_fld (pv 2) (by rfl)) (fun _ _ => rfl)) pa_nil)))))))
        (pss_one (ps_raise rfl (takes_of rfl rfl rfl rfl) (pmk_oex (k := 1) (ps := ["self", "name"]) (sp := spErr CS "name") (ds := []) (dvs := []) TE.oex TE.ini TE.typ GE (hr.mono (by decide)) bE .nil pass0 (by rfl) TE.nam (pa_cons (pe_fld (pv 2) (by rfl)) pa_nil)))) pss_nil)))), ?_⟩
    have dk : PySem.W.kitOne K (.type "dict") (.type "dict") = some true := kit_dict K (.dict [])
    have cs2 : (∃ d, Dp K H v d ∧ EWish H CS "name" .non E) ∨ (∃ g kvs, v = .ref g ∧ H g = some (.dK kvs) ∧ kvs.length ≠ cells.length ∧ EWish H CS "name" .non E) ∨ (∃ (g : Addr) (st : List Int), v = .ref g ∧ H g = some (.dK (stK cells st)) ∧ st.length = cells.length ∧
        ((Ok3 st ∧ ∀ H', Same H H' → Q .non H') ∨ ∃ (i : Nat) (c : Str × Str) (n : Int), cells[i]? = some c ∧ st[i]? = some n ∧ ¬(0 ≤ n ∧ n < 3) ∧ (∀ j m, j < i → st[j]? = some m → 0 ≤ m ∧ m < 3) ∧ EWish H CS "name" (.str c.1) E)) := by
      rcases cs with ⟨x, hb, out⟩ | ⟨st, ⟨g, e, eg, sl, h3⟩, q⟩
      · rcases hb with ⟨d, hd, rfl⟩ | ⟨g, kvs, rfl, eg, ne, k6, rfl⟩ | ⟨g, st, i, c, n, e, eg, sl, hc, hn, no, bef, rfl⟩
        · exact .inl ⟨d, hd, out⟩
        · exact .inr (.inl ⟨g, kvs, rfl, eg, ne, out⟩)
        · exact .inr (.inr ⟨g, st, e, eg, sl, .inr ⟨i, c, n, hc, hn, no, bef, out⟩⟩)
      · exact .inr (.inr ⟨g, st, e, eg, sl, .inl ⟨h3, q⟩⟩)
    rcases cs2 with ⟨d, hd, out⟩ | ⟨g, kvs, rfl, eg, ne, out⟩ | ⟨g, st, rfl, eg, sl, way⟩
    · exact ⟨v, rfl, v, .ty "dict", _, _, _, rfl, .ty "dict", dp_ty hd, dp_nodict hd, _, rfl, iteT ⟨one, mk_left fun dd H' lf => out _ dd H' (Same.refl H) lf⟩⟩
    · refine ⟨.ref g, rfl, .ref g, .ty "dict", _, _, _, rfl, .ty "dict", .base (.dK eg), dk, _, rfl, iteF ⟨.ref g, rfl, g, _, rfl, eg, .ref l, rfl, l, xs, rfl, .inl (.inl (.inl el)), rfl, _, rfl, ?_⟩⟩
      refine iteT' (by rw [rX.1, decide_eq_false (show ¬ (V.int ((kvs.length : Nat) : Int) = V.int ((cells.length : Nat) : Int)) from fun e => ne (Int.ofNat.inj (V.int.inj e)))]; rfl) ⟨one, mk_left fun dd H' lf => out _ dd H' (Same.refl H) lf⟩
    · refine ⟨.ref g, rfl, .ref g, .ty "dict", _, _, _, rfl, .ty "dict", .base (.dK eg), dk, _, rfl, iteF ⟨.ref g, rfl, g, _, rfl, eg, .ref l, rfl, l, xs, rfl, .inl (.inl (.inl el)), rfl, _, rfl, ?_⟩⟩
      refine iteF' (by rw [stK_len sl, rX.1, decide_eq_true rfl]; rfl) ?_
      dsimp only [tNext]
      refine ⟨.ref l, rfl, l, rfl, ⟨_, .inl (.inl el)⟩, ?_⟩
      refine for_list (K := K) (a := l) (xs := xs) (fun j σ H' => ∃ z, σ = [some (.ref l), some (.ref g), z] ∧ Same H H' ∧ ∀ i m, i < j → st[i]? = some m → 0 ≤ m ∧ m < 3) ⟨_, rfl, Same.refl H, fun i m h => absurd h (Nat.not_lt_zero _)⟩ (fun j σ H' _ pr => ?_) (fun j x σ H' hx pr => ?_) (fun σ H' pr => ?_)
      · obtain ⟨_, _, s', _⟩ := pr
        exact .inl (.inl (s' _ _ el))
      · obtain ⟨z, rfl, s', was⟩ := pr
        obtain ⟨c, hc⟩ : ∃ c, cells[j]? = some c := ⟨_, List.getElem?_eq_getElem (by rw [← rX.1]; exact (List.getElem?_eq_some_iff.mp hx).1)⟩
        obtain ⟨b, rfl, dx, gs, eb, ln, lk⟩ := rX.2 j x c hx hc
        have js : j < st.length := by rw [sl]; exact (List.getElem?_eq_some_iff.mp hc).1
        have get := stK_get nc hc (List.getElem?_eq_getElem js)
        dsimp only [gName, List.set]
        refine ⟨.ref b, rfl, b, C, dx, gs, .str c.1, rfl, s' _ _ eb, cC, nC, ln, .ref g, rfl, g, _, rfl, .inl ⟨_, .inr c.1, .inl (s' _ _ eg), rfl, rfl⟩, _, rfl, ?_⟩
        refine iteF' (by rw [get]; rfl) ⟨.ref g, rfl, .ref b, rfl, b, C, dx, gs, .str c.1, rfl, s' _ _ eb, cC, nC, ln, g, .int st[j], rfl, .inl ⟨_, .inr c.1, .inl (s' _ _ eg), rfl, get.symm⟩, .int st[j], .int st[j], rfl, .int _, rfl, fun H2 s2 => ?_⟩
        rw [val_int]
        by_cases ok : 0 ≤ st[j] ∧ st[j] < 3
        · rw [decide_eq_true ok]
          refine ⟨_, rfl, iteF ⟨_, rfl, s'.trans s2, fun i m hi hm => ?_⟩⟩
          by_cases e : i = j
          · subst e
            rw [List.getElem?_eq_getElem js] at hm
            exact Option.some.inj hm ▸ ok
          · exact was i m (by omega) hm
        · rw [decide_eq_false ok]
          refine ⟨_, rfl, iteT ⟨.ref b, rfl, b, C, dx, gs, .str c.1, rfl, s2 _ _ (s' _ _ eb), cC, nC, ln, one, mk_left fun dd H3 lf => ?_⟩⟩
          rcases way with ⟨h3, _⟩ | ⟨i, c', n, hc', hn, no, bef, out⟩
          · exact absurd (h3 _ (List.getElem_mem js)) ok
          · have ij : i = j := by
              rcases Nat.lt_trichotomy i j with h | h | h
              · exact absurd (was i n h hn) no
              · exact h
              · exact absurd (bef j _ h (List.getElem?_eq_getElem js)) ok
            subst ij
            rw [hc] at hc'
            cases hc'
            exact out _ dd H3 (s'.trans s2) lf
      · obtain ⟨z, rfl, s', was⟩ := pr
        rcases way with ⟨_, q⟩ | ⟨i, c', n, hc', hn, no, _⟩
        · exact q H' s'
        · exact absurd (was i n (by rw [rX.1]; exact (List.getElem?_eq_some_iff.mp hc').1) hn) no
end
/-! ### values_in, state_with, Runner, Calling, World -/
abbrev sRunI : Stmt := inClass (topS 24) 0
theorem scRunI : FnScope ["self", "book", "tick", "view", "steady", "place", "cell"] ["self", "book", "tick", "view", "steady"] (defScope sRunI) := ⟨rfl, rfl, rfl, by decide +kernel, rfl, by decide +kernel, by decide +kernel⟩
abbrev sCalI : Stmt := inClass (topS 25) 0
theorem scCalI : FnScope ["self", "book", "view", "tick"] ["self", "book", "view"] (defScope sCalI) := ⟨rfl, rfl, rfl, by decide +kernel, rfl, by decide +kernel, by decide +kernel⟩
abbrev sWorI : Stmt := inClass (topS 32) 0
theorem scWorI : FnScope ["self", "book", "state"] ["self", "book", "state"] (defScope sWorI) := ⟨rfl, rfl, rfl, by decide +kernel, rfl, by decide +kernel, by decide +kernel⟩
structure RunK (K : PySem.W.Frag) (CR : Addr) : Prop where
  cl : Cls K CR
  n1 : NoAttr K CR "_book"
  n2 : NoAttr K CR "_tick"
  n3 : NoAttr K CR "_view"
  n4 : NoAttr K CR "_steady"
  n5 : NoAttr K CR "_places"
  n6 : NoAttr K CR "_kept"
def spRunI (K : PySem.W.Frag) (CR CK C CF CL : Addr) : Sp := fun vs H Q _ => ∃ (a dx bb : Addr) (v3 v4 : V) (beat : Int) (cells : List (Str × Str)) (fs : List FX) (H0 : Hp), vs = [.ref a, .ref bb, .int beat, v3, v4] ∧ H a = some (.ins CR dx []) ∧ Same H0 H ∧ H0 a = none ∧ BookAt K H0 CK C CF CL bb cells fs ∧ (cells.map (·.1)).Nodup ∧ cells.length ≤ 3 ∧
  ∀ H', Same H0 H' → Q .non H'
def spCalI (K : PySem.W.Frag) (CG CK C CF CL : Addr) : Sp := fun vs H Q _ => ∃ (a dx bb : Addr) (v : V) (cells : List (Str × Str)) (fs : List FX) (H0 : Hp), vs = [.ref a, .ref bb, v] ∧ H a = some (.ins CG dx []) ∧ Same H0 H ∧ H0 a = none ∧ BookAt K H0 CK C CF CL bb cells fs ∧ (cells.map (·.1)).Nodup ∧ cells.length ≤ 3 ∧
  ∀ H', Same H0 H' → Q .non H'
section
variable {P : Program} {w : World} {K : PySem.W.Frag} {mg : Str → Option Value} {base : Heap}
theorem ok_runI {CR CK C CF CL f fA : Addr} {fd dA : FuncData} (F : FunD K "__init__" "Runner.__init__" (defArgs sRunI) (defBody sRunI) (defScope sRunI) [.non, .non] [] f fd) (M : Blt mg) (RK : RunK K CR) (BK : BookK K CK C CF) (gE : mg "enumerate" = none)
    (GA : FnOk P w K mg base CX0 1 fA dA ["self"] (spAllC K CK C CF CL)) (mA : Meth K CK "all_cells" fA) (bA : Binds K dA ["self"] []) : FnOk P w K mg base CX0 2 f fd ["self", "book", "tick", "view", "steady"] (spRunI K CR CK C CF CL) := by
  refine F.ok scRunI (fun vs H Q E h => ?_) (fun cdv A outer s H vs Q E hr h => ?_)
  · obtain ⟨a, dx, bb, v3, v4, beat, cells, fs, H0, rfl, _⟩ := h
    rfl
  · obtain ⟨a, dx, bb, v3, v4, beat, cells, fs, H0, rfl, ea, s0, n0, hB0, nc, lc, q⟩ := h
    refine ⟨_, pss_cons (ps_fld (pv 0) (pv 1) (by rfl)) (pss_cons (ps_fld (pv 0) (pe_op op_mod (pv 2) pe_int) (by rfl)) (pss_cons (ps_fld (pv 0) (pv 3) (by rfl)) (pss_cons (ps_fld (pv 0) (pv 4) (by rfl))
      (pss_cons (ps_fld (pv 0) (pe_dc (own := [("place", 5), ("cell", 6)]) (g := gTup K 2 (gCons (gName 5) (gCons (gName 6) gNil))) (tt := tYes) (tk := tFld K (tVar 6) "name") (tv := tVar 5) (by rfl) scRunI.nd (EnT.pi_enumA (by rfl) gE (pa_cons (pe_meth0 (pv 1) BK.cl mA GA hr bA .nil pass0) pa_nil)) (blkOk_by (own := [("place", 5), ("cell", 6)]) (N := ["self", "book", "tick", "view", "steady", "place", "cell"]) (sc := defScope sRunI) (by decide +kernel))
          (fun _ _ _ _ _ => pg_tup (by rfl) (pgs_cons (pg_name (i := 5) scRunI.nd rfl (Or.inl rfl)) (pgs_cons (pg_name (i := 6) scRunI.nd rfl (Or.inl rfl)) pgs_nil))) (fun _ _ _ _ _ => pts_nil) (fun _ _ _ _ _ => pe_fld (pv 6) (by rfl)) (fun _ _ _ _ _ => pv 5)) (by rfl))
      (pss_one (ps_fld (pv 0) pe_dnewK (by rfl))))))), ?_⟩
    refine ⟨.ref bb, rfl, .ref a, rfl, a, CR, dx, [], rfl, ea, RK.cl, RK.n1, (by decide), ?_⟩
    have s1 : Same H0 (upd H a (.ins CR dx (putF "_book" (.ref bb) []))) := but_new_same s0 n0 But.upd
    have e1 : (upd H a (.ins CR dx (putF "_book" (.ref bb) []))) a = some (.ins CR dx [("_book", .ref bb)]) := upd_same
    generalize upd H a (.ins CR dx (putF "_book" (.ref bb) [])) = H1 at s1 e1
    refine ⟨.int beat, rfl, beat, 3, rfl, rfl, by show (0 : Int) < 3; decide, .ref a, rfl, a, CR, dx, _, rfl, e1, RK.cl, RK.n2, (by show 1 < 1000; decide), ?_⟩
    have s2 : Same H0 (upd H1 a (.ins CR dx (putF "_tick" (.int (beat % 3)) [("_book", .ref bb)]))) := but_new_same s1 n0 But.upd
    have e2 : (upd H1 a (.ins CR dx (putF "_tick" (.int (beat % 3)) [("_book", .ref bb)]))) a = some (.ins CR dx [("_book", .ref bb), ("_tick", .int (beat % 3))]) := upd_same
    generalize upd H1 a (.ins CR dx (putF "_tick" (.int (beat % 3)) [("_book", .ref bb)])) = H2 at s2 e2
    refine ⟨v3, rfl, .ref a, rfl, a, CR, dx, _, rfl, e2, RK.cl, RK.n3, (by show 2 < 1000; decide), ?_⟩
    have s3 : Same H0 (upd H2 a (.ins CR dx (putF "_view" v3 [("_book", .ref bb), ("_tick", .int (beat % 3))]))) := but_new_same s2 n0 But.upd
    have e3 : (upd H2 a (.ins CR dx (putF "_view" v3 [("_book", .ref bb), ("_tick", .int (beat % 3))]))) a = some (.ins CR dx [("_book", .ref bb), ("_tick", .int (beat % 3)), ("_view", v3)]) := upd_same
    generalize upd H2 a (.ins CR dx (putF "_view" v3 [("_book", .ref bb), ("_tick", .int (beat % 3))])) = H3 at s3 e3
    refine ⟨v4, rfl, .ref a, rfl, a, CR, dx, _, rfl, e3, RK.cl, RK.n4, (by show 3 < 1000; decide), ?_⟩
    have s4 : Same H0 (upd H3 a (.ins CR dx (putF "_steady" v4 [("_book", .ref bb), ("_tick", .int (beat % 3)), ("_view", v3)]))) := but_new_same s3 n0 But.upd
    have e4 : (upd H3 a (.ins CR dx (putF "_steady" v4 [("_book", .ref bb), ("_tick", .int (beat % 3)), ("_view", v3)]))) a = some (.ins CR dx [("_book", .ref bb), ("_tick", .int (beat % 3)), ("_view", v3), ("_steady", v4)]) := upd_same
    generalize upd H3 a (.ins CR dx (putF "_steady" v4 [("_book", .ref bb), ("_tick", .int (beat % 3)), ("_view", v3)])) = H4 at s4 e4
    obtain ⟨dB, tB1, tB2, DB, xsB, ysB, eB, _⟩ := id hB0
    refine ⟨.ref bb, rfl, bb, dB, _, rfl, s4 _ _ eB, rfl, bb, cells, fs, rfl, hB0.same s4, fun l xs H5 s5 nl el rX => ⟨l, xs, rfl, .inl ⟨.inl (.inl el), fun D hD => ?_⟩⟩⟩
    refine walk_gen (walk_enum (K := K) (a := l) (xs := xs)) (fun i H' => Same H5 H' ∧ ∃ kvs : List (Key × V), H' D = some (.dK kvs) ∧ kvs.length ≤ i) ⟨same_upd hD, [], upd_same, Nat.le_refl _⟩ (fun i H' _ p => .inl (.inl (p.1 _ _ el))) (fun i x H6 H7 hi p y => ?_) (fun H6 p => ?_)
    · obtain ⟨s6, kvs, eD, lk⟩ := p
      obtain ⟨T, y0, y1, rfl, nT, rfl, h0, h1⟩ := y
      cases h0
      obtain ⟨c, hc⟩ : ∃ c, cells[i]? = some c := ⟨_, List.getElem?_eq_getElem (by rw [← rX.1]; exact hi)⟩
      obtain ⟨b, rfl, hb⟩ := rX.2 i y1 c h1 hc
      have sT := same_upd (o := HO.tup [V.int (i : Nat), .ref b]) nT
      obtain ⟨dc, gs, ec, ln, _⟩ := id hb
      refine ⟨T, _, rfl, .inl (.inl upd_same), rfl, _, _, rfl, _, _, rfl, rfl, rfl, ?_⟩
      unfold tYes
      have il : i < 3 := by have := (List.getElem?_eq_some_iff.mp hc).1; omega
      refine iteT ⟨.ref b, rfl, b, C, dc, gs, .str c.1, rfl, sT _ _ (s6 _ _ ec), BK.cc, BK.cn, ln, .int (i : Nat), rfl, _, .inr c.1, rfl, sT _ _ eD, ?_, fun b' o e => ?_, _, upd_same, ?_⟩
      · exact Nat.lt_of_le_of_lt (show kvs.length ≤ 3 by omega) (by decide)
      · rw [upd_ne (ne_of_none e hD)]
        exact sT _ _ (s6 _ _ e)
      · exact Nat.le_trans (length_putK _ _ _) (by omega)
    · obtain ⟨s6, kvs, eD, _⟩ := p
      have t6 := s4.trans (s5.trans s6)
      refine ⟨.ref a, rfl, a, CR, dx, _, rfl, s6 _ _ (s5 _ _ e4), RK.cl, RK.n5, (by show 4 < 1000; decide), ?_⟩
      have s7 : Same H0 (upd H6 a (.ins CR dx (putF "_places" (.ref D) [("_book", .ref bb), ("_tick", .int (beat % 3)), ("_view", v3), ("_steady", v4)]))) := but_new_same t6 n0 But.upd
      have e7 : (upd H6 a (.ins CR dx (putF "_places" (.ref D) [("_book", .ref bb), ("_tick", .int (beat % 3)), ("_view", v3), ("_steady", v4)]))) a = some (.ins CR dx [("_book", .ref bb), ("_tick", .int (beat % 3)), ("_view", v3), ("_steady", v4), ("_places", .ref D)]) := upd_same
      generalize upd H6 a (.ins CR dx (putF "_places" (.ref D) [("_book", .ref bb), ("_tick", .int (beat % 3)), ("_view", v3), ("_steady", v4)])) = H7 at s7 e7
      refine fun kd nkd => ?_
      have s78 := same_upd (o := HO.dK []) nkd
      generalize upd H7 kd (.dK []) = H8 at s78 ⊢
      refine ⟨.ref a, rfl, a, CR, dx, _, rfl, s78 _ _ e7, RK.cl, RK.n6, (by show 5 < 1000; decide), ?_⟩
      exact q _ (but_new_same (s7.trans s78) n0 But.upd)
/-- what is written of the class Calling, as a World uses it -/
structure CalK (K : PySem.W.Frag) (CG : Addr) : Prop where
  cl : Cls K CG
  n1 : NoAttr K CG "_view"
  n2 : NoAttr K CG "_steady"
  n3 : NoAttr K CG "_changing"
theorem ok_calI {CG CR CK C CF CL f fI : Addr} {fd dI : FuncData} {ds ds0 : List Value} (F : Fun K "__init__" "Calling.__init__" sCalI f fd) (M : Blt mg) (CGk : CalK K CG) (mk : Mk K CR fI) (gR : mg "Runner" = some (.ref CR))
    (GI : FnOk P w K mg base CX0 2 fI dI ["self", "book", "tick", "view", "steady"] (spRunI K CR CK C CF CL)) (bI : Binds K dI ["self", "book", "tick", "view", "steady"] ds) (hds : Vals [V.non, .non] ds) (bI0 : Binds K dI ["self", "book", "tick", "view", "steady"] ds0) (hd0 : Vals [] ds0) : FnOk P w K mg base CX0 4 f fd ["self", "book", "view"] (spCalI K CG CK C CF CL) := by
  refine F.ok scCalI (fun vs H Q E h => ?_) (fun cdv A outer s H vs Q E hr h => ?_)
  · obtain ⟨a, dx, bb, v, cells, fs, H0, rfl, _⟩ := h
    rfl
  · obtain ⟨a, dx, bb, v, cells, fs, H0, rfl, ea, s0, n0, hB0, nc, lc, q⟩ := h
    refine ⟨_, pss_cons (ps_fld (pv 0) (pv 2) (by rfl)) (pss_cons (ps_fld (pv 0) (pe_make (dvs := [.non, .non]) mk GI (hr.mono (by decide)) (by rfl) gR bI hds pass0 (pa_cons (pv 1) (pa_cons pe_int pa_nil))) (by rfl))
      (pss_one (ps_fld (pv 0) (pe_lc (own := [("tick", 3)]) (g := gName 3) (tt := tYes) (te := tMake CR (spRunI K CR CK C CF CL) [] E0 (tCons (tVar 1) (tCons (tVar 3) (tCons (tVar 2) (tCons (tFld K (tVar 0) "_steady") tNil))))) (by rfl) scCalI.nd (pi_range1 (by rfl) M.range (pa_cons pe_int pa_nil)) (blkOk_by (own := [("tick", 3)]) (N := ["self", "book", "view", "tick"]) (sc := defScope sCalI) (by decide +kernel))
          (fun _ _ _ _ _ => pg_name (i := 3) scCalI.nd rfl (Or.inl rfl)) (fun _ _ _ _ _ => pts_nil) (fun _ _ _ _ _ => pe_make (dvs := []) mk GI (hr.mono (by decide)) (by rfl) gR bI0 hd0 pass0 (pa_cons (pv 1) (pa_cons (pv 3) (pa_cons (pv 2) (pa_cons (pe_fld (pv 0) (by rfl)) pa_nil)))))) (by rfl)))), ?_⟩
    refine ⟨v, rfl, .ref a, rfl, a, CG, dx, [], rfl, ea, CGk.cl, CGk.n1, (by decide), ?_⟩
    have s1 : Same H0 (upd H a (.ins CG dx (putF "_view" v []))) := but_new_same s0 n0 But.upd
    have e1 : (upd H a (.ins CG dx (putF "_view" v []))) a = some (.ins CG dx [("_view", v)]) := upd_same
    generalize upd H a (.ins CG dx (putF "_view" v [])) = H1 at s1 e1
    refine ⟨.ref bb, rfl, fun r dr nr nd ne => ?_⟩
    have m1 := made_same (C := CR) nr nd
    refine ⟨r, dr, bb, .non, .non, 0, cells, fs, H1, rfl, upd_same, m1, nr, hB0.same s1, nc, lc, fun H2 s2 => ⟨rfl, .ref a, rfl, a, CG, dx, _, rfl, s2 _ _ e1, CGk.cl, CGk.n2, (by show 1 < 1000; decide), ?_⟩⟩
    have s3 : Same H0 (upd H2 a (.ins CG dx (putF "_steady" (.ref r) [("_view", v)]))) := but_new_same (s1.trans s2) n0 But.upd
    have e3 : (upd H2 a (.ins CG dx (putF "_steady" (.ref r) [("_view", v)]))) a = some (.ins CG dx [("_view", v), ("_steady", .ref r)]) := upd_same
    generalize upd H2 a (.ins CG dx (putF "_steady" (.ref r) [("_view", v)])) = H3 at s3 e3
    refine ⟨3, rfl, by decide, by decide, fun D hD => ?_⟩
    refine walk_gen (walk_range (lo := 0) (n := 3)) (fun i H' => Same H3 H' ∧ ∃ ys, H' D = some (.lst ys) ∧ ys.length = i) ⟨same_upd hD, [], upd_same, rfl⟩ (fun _ _ _ _ => True.intro) (fun i x H4 H5 hi p y => ?_) (fun H4 p => ?_)
    · obtain ⟨s4, ys, eD, ly⟩ := p
      obtain ⟨rfl, rfl⟩ := y
      refine ⟨rfl, ?_⟩
      unfold tYes
      refine iteT ⟨.ref bb, rfl, .int (0 + (i : Nat)), rfl, v, rfl, .ref a, rfl, a, CG, dx, _, .ref r, rfl, s4 _ _ e3, CGk.cl, CGk.n2, rfl, fun r2 dr2 nr2 nd2 ne2 => ?_⟩
      have m2 := made_same (C := CR) nr2 nd2
      refine ⟨r2, dr2, bb, v, .ref r, _, cells, fs, _, rfl, upd_same, m2, nr2, hB0.same (s3.trans s4), nc, lc, fun H6 s6 => ⟨rfl, ys, s6 _ _ eD, ?_, but_new_same (s4.trans s6) hD But.upd, _, upd_same, ?_⟩⟩
      · exact Nat.lt_of_le_of_lt (show ys.length ≤ 3 by omega) (by decide)
      · rw [List.length_append, ly]
        rfl
    · obtain ⟨s4, ys, eD, ly⟩ := p
      exact ⟨.ref a, rfl, a, CG, dx, _, rfl, s4 _ _ e3, CGk.cl, CGk.n3, (by show 2 < 1000; decide), q _ (but_new_same (s3.trans s4) n0 But.upd)⟩
end
/-! ### zip of a list and a tuple -/
namespace ZipG
open PySem PySem.W
/-- an iterator i over the container l: I h k says that it stands before the item number k; at_ tells the items -/
structure Feed (prog : Program) (w : World) (i l : Addr) (I : Heap → Nat → Prop) (at_ : Nat → Option Value) : Prop where
  next : ∀ {A : Around} {E : Value → Shared → Prop} {s : Shared} {k : Nat} {x : Value} {Q : Value → Shared → Prop}, I s.heap k → at_ k = some x → (∀ h', I h' (k + 1) → Heap.SameBut i s.heap h' → Q x { s with heap := h' }) → wpAny (model prog w) A (Builtin.SmallTypes.nextOf (.ref i)) Q E s
  last : ∀ {A : Around} {E : Value → Shared → Prop} {s : Shared} {k : Nat} {Q : Value → Shared → Prop}, A.handled = none → I s.heap k → at_ k = none → (∀ h' e, Heap.ExtBut i s.heap h' → (∃ o, h'.get? e = some o ∧ o.cls = .type "StopIteration") → E (.ref e) { s with heap := h' }) → wpAny (model prog w) A (Builtin.SmallTypes.nextOf (.ref i)) Q E s
  keep : ∀ {h h' : Heap} {k : Nat}, I h k → (∀ o, h.get? i = some o → h'.get? i = some o) → (∀ o, h.get? l = some o → h'.get? l = some o) → I h' k
  lt : ∀ {h : Heap} {k : Nat}, I h k → i < h.objs.size ∧ l < h.objs.size
theorem feedL {prog : Program} {w : World} {i l : Addr} {xs : Array Value} (ne : l ≠ i) : Feed prog w i l (fun h k => h.IsListIter i l k ∧ h.IsList l xs) (fun k => xs[k]?) where
  next := fun st hx q => wpAny_nextOf_list_item st.1 st.2 hx fun h' a b => q h' ⟨a, st.2.at fun o e => b.extBut _ _ ne e⟩ b
  last := fun hh st hx q => wpAny_nextOf_list_end hh st.1 st.2 hx q
  keep := fun st a b => ⟨st.1.at a, st.2.at b⟩
  lt := fun st => let ⟨⟨_, e1, _⟩, ⟨_, e2, _⟩⟩ := st; ⟨Heap.lt_size e1, Heap.lt_size e2⟩
theorem feedT {prog : Program} {w : World} {i l : Addr} {xs : Array Value} (ne : l ≠ i) : Feed prog w i l (fun h k => h.IsTupleIter i l k ∧ h.IsTuple l xs) (fun k => xs[k]?) where
  next := fun st hx q => RZ.nextOf_tuple_item st.1 st.2 hx fun h' a b => q h' ⟨a, st.2.at fun o e => b.extBut _ _ ne e⟩ b
  last := fun hh st hx q => RZ.nextOf_tuple_end hh st.1 st.2 hx q
  keep := fun st a b => ⟨st.1.at a, st.2.at b⟩
  lt := fun st => let ⟨⟨_, e1, _⟩, ⟨_, e2, _⟩⟩ := st; ⟨Heap.lt_size e1, Heap.lt_size e2⟩
section
variable {prog : Program} {w : World} {z u o i j a b : Addr} {I J : Heap → Nat → Prop} {f g : Nat → Option Value} {A : Around} {E : Value → Shared → Prop} {s : Shared}
/-- one step of zip's __next__, both containers with an item left: u holds the iterators, o the pair of the last turn -/
theorem step_item (FI : Feed prog w i a I f) (FJ : Feed prog w j b J g) (D : ZipApart z u o i j a b) {k : Nat} {x y p q : Value} {Q : Value → Shared → Prop} (hz : IsZip s.heap z u o .none) (hu : IsPair s.heap u (.ref i) (.ref j)) (ho : IsPair s.heap o p q) (si : I s.heap k) (sj : J s.heap k) (fx : f k = some x) (gy : g k = some y)
    (goal : ∀ h, IsZip h z u o (rawInt s.heap.objs.size) → IsPair h o x y → I h (k + 1) → J h (k + 1) → IsPair h s.heap.objs.size x y → h.objs.size = s.heap.objs.size + 1 → (∀ c v, c ≠ z → c ≠ o → c ≠ i → c ≠ j → s.heap.get? c = some v → h.get? c = some v) → Q (.ref s.heap.objs.size) { s with heap := h }) :
    wpAny (model prog w) A (Builtin.«zip.__next__» ⟨[Value.ref z], []⟩) (fun r s' => ∃ v, r = Fin.done (Flow.ret v) ∧ Q v s') E s := by
  show wpAny _ _ (Bind.bind (field (Value.ref z) 2) _) _ _ _
  refine bnd_ (wpAny_field hz rfl (x := Value.bool false) rfl ?_)
  show wpAny _ _ (Bind.bind (field (Value.ref z) 3) _) _ _ _
  refine bnd_ (wpAny_field hz rfl (x := Value.ref u) rfl (wpAny_bind (wpAny_seqItems hu rfl ?_)))
  show wpAny _ _ (Bind.bind (Builtin.SmallTypes.ownedTupleIsFree (Value.ref z)) _) _ _ _
  unfold Builtin.SmallTypes.ownedTupleIsFree
  refine bnd_ (wpAny_bind (wpAny_field hz rfl (x := Value.none) rfl (wpAny_pure ?_)))
  simp only [if_true]
  refine bnd_ (wpAny_rule (wpAny_bind (wpAny_field hz rfl (x := Value.ref o) rfl (wpAny_bind (wpAny_setField_rec hz (by simp) fun m1 z1 b1 => ?_)))))
  have z1 : IsZip m1 z u o .ellipsis := z1
  have k1 := b1.extBut
  refine wpAny_bind ?_
  simp only [List.forIn_nil, List.forIn_cons, List.zipIdx_nil, List.zipIdx_cons]
  refine bnd_ (wpAny_bind (wpAny_onRaise ?_))
  show wpAny _ _ (Bind.bind (Builtin.SmallTypes.nextOf (Value.ref i)) _) _ _ _
  refine bnd_ (FI.next (FI.keep si (fun v => k1 _ _ D.i1z) (fun v => k1 _ _ D.l1z)) fx fun m2 i2 b2 => wpAny_pure ?_)
  have k2 := b2.extBut
  have o2 : IsPair m2 o p q := k2 _ _ D.TOi1 (k1 _ _ D.TOz ho)
  refine bnd_ (wpAny_seqItems o2 rfl (wpAny_bind (wpAny_updateSeq_pair o2 fun m3 o3 b3 => wpAny_bind (wpAny_letGo (wpAny_pure ?_)))))
  have o3 : IsPair m3 o x q := o3
  have k3 := b3.extBut
  have sj3 : J m3 k := FJ.keep sj (fun v e => k3 _ _ D.TOi2.symm (k2 _ _ D.i12.symm (k1 _ _ D.i2z e))) (fun v e => k3 _ _ D.l2TO (k2 _ _ D.l2i1 (k1 _ _ D.l2z e)))
  refine bnd_ (wpAny_bind (wpAny_onRaise ?_))
  show wpAny _ _ (Bind.bind (Builtin.SmallTypes.nextOf (Value.ref j)) _) _ _ _
  refine bnd_ (FJ.next sj3 gy fun m4 j4 b4 => wpAny_pure ?_)
  have k4 := b4.extBut
  have o4 : IsPair m4 o x q := k4 _ _ D.TOi2 o3
  refine bnd_ (wpAny_seqItems o4 rfl (wpAny_bind (wpAny_updateSeq_pair o4 fun m5 o5 b5 => wpAny_bind (wpAny_letGo (wpAny_pure (wpAny_pure ?_))))))
  have o5 : IsPair m5 o x y := o5
  have k5 := b5.extBut
  refine bnd_ (wpAny_seqItems o5 rfl (wpAny_bind (wpAny_newTuple ?_)))
  have size5 : m5.objs.size = s.heap.objs.size := b5.1.trans (b4.1.trans (b3.1.trans (b2.1.trans b1.1)))
  have z5 : IsZip m5 z u o .ellipsis := k5 _ _ D.TOz.symm (k4 _ _ D.i2z.symm (k3 _ _ D.TOz.symm (k2 _ _ D.i1z.symm z1)))
  have all5 : ∀ c v, c ≠ z → c ≠ o → c ≠ i → c ≠ j → s.heap.get? c = some v → m5.get? c = some v := fun c v n1 n2 n3 n4 e => k5 _ _ n2 (k4 _ _ n4 (k3 _ _ n2 (k2 _ _ n3 (k1 _ _ n1 e))))
  have i5 : I m5 (k + 1) := FI.keep i2 (fun v e => k5 _ _ D.TOi1.symm (k4 _ _ D.i12 (k3 _ _ D.TOi1.symm e))) (fun v e => k5 _ _ D.l1TO (k4 _ _ D.l1i2 (k3 _ _ D.l1TO e)))
  have j5 : J m5 (k + 1) := FJ.keep j4 (fun v => k5 _ _ D.TOi2.symm) (fun v => k5 _ _ D.l2TO)
  have ltz : z < m5.objs.size := Heap.lt_size z5
  show wpAny _ _ (Bind.bind (Builtin.SmallTypes.ownedTupleHandOut (Value.ref z) (Value.ref m5.objs.size)) _) _ _ _
  unfold Builtin.SmallTypes.ownedTupleHandOut
  have z6 : IsZip (m5.push { cls := .type "tuple", data := .seq #[x, y] }) z u o .ellipsis := Heap.get?_push_of_some _ z5
  refine bnd_ (wpAny_bind (wpAny_setField_rec z6 (by simp) fun m7 z7 b7 => wpAny_setField_rec (show IsZip m7 z u o (rawInt m5.objs.size) from z7) (by simp) fun m8 z8 b8 => ?_))
  have z8 : IsZip m8 z u o (rawInt m5.objs.size) := z8
  have k8 : ∀ c v, c ≠ z → m5.get? c = some v → m8.get? c = some v := fun c v n e => b8.extBut _ _ n (b7.extBut _ _ n (Heap.get?_push_of_some _ e))
  have t8 : IsPair m8 m5.objs.size x y := b8.extBut _ _ (Nat.ne_of_gt ltz) (b7.extBut _ _ (Nat.ne_of_gt ltz) (Heap.get?_push_size _ rfl))
  have size8 : m8.objs.size = m5.objs.size + 1 := by rw [b8.1, b7.1, Heap.size_push]
  rw [size5] at z8 t8 size8
  refine wpAny_pure ⟨_, rfl, ?_⟩
  show Q (Value.ref m5.objs.size) _
  rw [size5]
  exact goal m8 z8 (k8 _ _ D.TOz o5) (FI.keep i5 (fun v => k8 _ _ D.i1z) (fun v => k8 _ _ D.l1z)) (FJ.keep j5 (fun v => k8 _ _ D.i2z) (fun v => k8 _ _ D.l2z)) t8 size8 fun c v n1 n2 n3 n4 e => k8 _ _ n1 (all5 _ _ n1 n2 n3 n4 e)
/-- the last step: one of the two has no item left -/
theorem step_last (hh : A.handled = none) (FI : Feed prog w i a I f) (FJ : Feed prog w j b J g) (D : ZipApart z u o i j a b) {k : Nat} {p q : Value} {Q : Fin → Shared → Prop} (hz : IsZip s.heap z u o .none) (hu : IsPair s.heap u (.ref i) (.ref j)) (ho : IsPair s.heap o p q) (si : I s.heap k) (sj : J s.heap k) (stop : f k = none ∨ g k = none)
    (goal : ∀ h e, (∀ c v, c ≠ z → c ≠ o → c ≠ i → c ≠ j → s.heap.get? c = some v → h.get? c = some v) → (∃ v, h.get? e = some v ∧ v.cls = .type "StopIteration") → E (.ref e) { s with heap := h }) : wpAny (model prog w) A (Builtin.«zip.__next__» ⟨[Value.ref z], []⟩) Q E s := by
  show wpAny _ _ (Bind.bind (field (Value.ref z) 2) _) _ _ _
  refine bnd_ (wpAny_field hz rfl (x := Value.bool false) rfl ?_)
  show wpAny _ _ (Bind.bind (field (Value.ref z) 3) _) _ _ _
  refine bnd_ (wpAny_field hz rfl (x := Value.ref u) rfl (wpAny_bind (wpAny_seqItems hu rfl ?_)))
  show wpAny _ _ (Bind.bind (Builtin.SmallTypes.ownedTupleIsFree (Value.ref z)) _) _ _ _
  unfold Builtin.SmallTypes.ownedTupleIsFree
  refine bnd_ (wpAny_bind (wpAny_field hz rfl (x := Value.none) rfl (wpAny_pure ?_)))
  simp only [if_true]
  refine bnd_ (wpAny_rule (wpAny_bind (wpAny_field hz rfl (x := Value.ref o) rfl (wpAny_bind (wpAny_setField_rec hz (by simp) fun m1 z1 b1 => ?_)))))
  have z1 : IsZip m1 z u o .ellipsis := z1
  have k1 := b1.extBut
  refine wpAny_bind ?_
  simp only [List.forIn_nil, List.forIn_cons, List.zipIdx_nil, List.zipIdx_cons]
  refine bnd_ (wpAny_bind (wpAny_onRaise ?_))
  show wpAny _ _ (Bind.bind (Builtin.SmallTypes.nextOf (Value.ref i)) _) _ _ _
  have si1 : I m1 k := FI.keep si (fun v => k1 _ _ D.i1z) (fun v => k1 _ _ D.l1z)
  have off : ∀ {h : Heap} {e : Addr} {v : Obj}, IsZip h z u o .ellipsis → h.get? e = some v → v.cls = .type "StopIteration" → e ≠ z := fun {h e v} hz he hc q => by
    rw [q, hz] at he
    cases he
    simp at hc
  cases fx : f k with
  | none =>
    refine bnd_ (FI.last hh si1 fx fun m2 e k2 ⟨v, he, hc⟩ => ?_)
    have z2 := k2 _ _ D.i1z.symm z1
    exact wpAny_setField_rec z2 (by simp) fun m3 _ b3 => goal m3 e (fun c v n1 _ n3 _ x => b3.extBut _ _ n1 (k2 _ _ n3 (k1 _ _ n1 x))) ⟨v, b3.extBut _ _ (off z2 he hc) he, hc⟩
  | some x =>
    have gy : g k = none := stop.elim (fun h => by rw [fx] at h; cases h) id
    refine bnd_ (FI.next si1 fx fun m2 i2 b2 => wpAny_pure ?_)
    have k2 := b2.extBut
    have o2 : IsPair m2 o p q := k2 _ _ D.TOi1 (k1 _ _ D.TOz ho)
    refine bnd_ (wpAny_seqItems o2 rfl (wpAny_bind (wpAny_updateSeq_pair o2 fun m3 o3 b3 => wpAny_bind (wpAny_letGo (wpAny_pure ?_)))))
    have k3 := b3.extBut
    have sj3 : J m3 k := FJ.keep sj (fun v e => k3 _ _ D.TOi2.symm (k2 _ _ D.i12.symm (k1 _ _ D.i2z e))) (fun v e => k3 _ _ D.l2TO (k2 _ _ D.l2i1 (k1 _ _ D.l2z e)))
    refine bnd_ (wpAny_bind (wpAny_onRaise ?_))
    show wpAny _ _ (Bind.bind (Builtin.SmallTypes.nextOf (Value.ref j)) _) _ _ _
    refine bnd_ (FJ.last hh sj3 gy fun m4 e k4 ⟨v, he, hc⟩ => ?_)
    have z4 := k4 _ _ D.i2z.symm (k3 _ _ D.TOz.symm (k2 _ _ D.i1z.symm z1))
    exact wpAny_setField_rec z4 (by simp) fun m5 _ b5 => goal m5 e (fun c v n1 n2 n3 n4 x => b5.extBut _ _ n1 (k4 _ _ n4 (k3 _ _ n2 (k2 _ _ n3 (k1 _ _ n1 x))))) ⟨v, b5.extBut _ _ (off z4 he hc) he, hc⟩
theorem next_item (FI : Feed prog w i a I f) (FJ : Feed prog w j b J g) (D : ZipApart z u o i j a b) {k : Nat} {x y p q : Value} {Q : Option Value → Shared → Prop} (hz : IsZip s.heap z u o .none) (hu : IsPair s.heap u (.ref i) (.ref j)) (ho : IsPair s.heap o p q) (si : I s.heap k) (sj : J s.heap k) (fx : f k = some x) (gy : g k = some y)
    (goal : ∀ h, IsZip h z u o (rawInt s.heap.objs.size) → IsPair h o x y → I h (k + 1) → J h (k + 1) → IsPair h s.heap.objs.size x y → h.objs.size = s.heap.objs.size + 1 → (∀ c v, c ≠ z → c ≠ o → c ≠ i → c ≠ j → s.heap.get? c = some v → h.get? c = some v) → Q (some (.ref s.heap.objs.size)) { s with heap := h }) :
    wpAny (model prog w) A (pyNext (Value.ref z)) Q E s := by
  have tz : s.TypeIs (Value.ref z) "zip" := ⟨_, hz, rfl⟩
  unfold pyNext
  exact wpAny_bind (wpAny_attempt (wpAny_callSpecial?_slot (name := "__next__") tz F.slot_zip_next (wpAny_call_entry F.slot_zip_next tz F.entry_zip_next (step_item FI FJ D hz hu ho si sj fx gy fun h c1 c2 c3 c4 c5 c6 c7 => wpAny_pure (goal h c1 c2 c3 c4 c5 c6 c7)) (F.args_zip_next_1 _))))
theorem next_last (hh : A.handled = none) (FI : Feed prog w i a I f) (FJ : Feed prog w j b J g) (D : ZipApart z u o i j a b) {k : Nat} {p q : Value} {Q : Option Value → Shared → Prop} (hz : IsZip s.heap z u o .none) (hu : IsPair s.heap u (.ref i) (.ref j)) (ho : IsPair s.heap o p q) (si : I s.heap k) (sj : J s.heap k) (stop : f k = none ∨ g k = none)
    (goal : ∀ h, (∀ c v, c ≠ z → c ≠ o → c ≠ i → c ≠ j → s.heap.get? c = some v → h.get? c = some v) → Q none { s with heap := h }) : wpAny (model prog w) A (pyNext (Value.ref z)) Q E s := by
  have tz : s.TypeIs (Value.ref z) "zip" := ⟨_, hz, rfl⟩
  unfold pyNext
  refine bnd_ (wpAny_attempt (wpAny_callSpecial?_slot (name := "__next__") tz F.slot_zip_next (wpAny_call_entry F.slot_zip_next tz F.entry_zip_next (step_last (A := A.in1) (show A.in1.handled = none from hh) FI FJ D hz hu ho si sj stop fun h e k ⟨v, he, hc⟩ => ?_) (F.args_zip_next_1 _))))
  exact wpAny_bind (wpAny_isInstance (T := "StopIteration") (b := true) ⟨v, he, hc⟩ isSubtype_stop (wpAny_pure (goal _ k)))
end
/-- what zip of a list and a tuple lays: the two iterators, their pair, the pair of the last turn, the zip -/
def laid (h : Heap) (a b : Addr) : Heap := ((((h.push { cls := .type "list_iterator", data := .fields #[.ref a, .int 0 0] }).push { cls := .type "tuple_iterator", data := .fields #[.ref b, .int 0 0] }).push { cls := .type "tuple", data := .seq #[.ref h.objs.size, .ref (h.objs.size + 1)] }).push { cls := .type "tuple", data := .seq #[.none, .none] }).push { cls := .type "zip", data := .fields #[.none, .bool false, .bool false, .ref (h.objs.size + 2), .ref (h.objs.size + 3)] }
theorem new_LT (a b : Addr) (xs ys : Array Value) : Meets (Builtin.«zip.__new__» ⟨[.type "zip", .ref a, .ref b], []⟩) (fun _ R s => s.heap.IsList a xs ∧ s.heap.IsTuple b ys ∧ R (.ok (.ret (.ref (s.heap.objs.size + 4)))) { s with heap := laid s.heap a b }) :=
  .of_wp fun prog w A R s hyp => by
    obtain ⟨hp, gn, dr, tk, os⟩ := s
    obtain ⟨ha, hb, goal⟩ := hyp
    have sub := sub_zip
    have la : Heap.IsList (Shared.heap ⟨hp, gn, dr, tk, os⟩) a xs := ha
    have lb : Heap.IsTuple (Shared.heap ⟨hp.push { cls := .type "list_iterator", data := .fields #[.ref a, .int 0 0] }, gn, dr, tk, os⟩) b ys := Heap.IsTuple.push hb _
    wp_walk using wpAny_pyIter_list la, wpAny_pyIter_tuple lb
    have z1 : ∀ (h : Heap) (v : Obj), (h.push v).objs.size = h.objs.size + 1 := fun h v => Heap.size_push ..
    simp only [laid, z1] at goal ⊢
    exact ⟨_, rfl, goal⟩
theorem call_LT {prog : Program} {w : World} {a b : Addr} {xs ys : Array Value} {A : Around} {E : Value → Shared → Prop} {s : Shared} {Q : Value → Shared → Prop} (ha : s.heap.IsList a xs) (hb : s.heap.IsTuple b ys)
    (goal : ∀ h, IsZip h (s.heap.objs.size + 4) (s.heap.objs.size + 2) (s.heap.objs.size + 3) .none → IsPair h (s.heap.objs.size + 2) (.ref s.heap.objs.size) (.ref (s.heap.objs.size + 1)) → IsPair h (s.heap.objs.size + 3) .none .none → h.IsListIter s.heap.objs.size a 0 → h.IsTupleIter (s.heap.objs.size + 1) b 0 → (∀ c v, s.heap.get? c = some v → h.get? c = some v) → Q (.ref (s.heap.objs.size + 4)) { s with heap := h }) :
    wpAny (model prog w) A (call (.type "zip") [.ref a, .ref b]) Q E s := by
  refine callType_new F.called_zip (by decide) (F.typeCall_zip_2 _ _) (F.newCall_zip_2 _ _) (fun obj => F.args_object_init_3 obj _ _) F.entry_zip_new (new_LT a b xs ys) ⟨ha, hb, ?_⟩
  have one : ∀ (h : Heap) (v : Obj) (m : Nat), h.objs.size = m → v.isFreed = false → (h.push v).get? m = some v := fun h v m e f => by
    subst e
    exact Heap.get?_push_size _ f
  have big : ∀ (h : Heap) (v : Obj), (h.push v).objs.size = h.objs.size + 1 := fun h v => Heap.size_push ..
  have old : ∀ {h : Heap} {v : Obj} {c : Addr} {x : Obj}, h.get? c = some x → (h.push v).get? c = some x := fun e => Heap.get?_push_of_some _ e
  have p5 : IsZip (laid s.heap a b) (s.heap.objs.size + 4) (s.heap.objs.size + 2) (s.heap.objs.size + 3) .none := one _ _ _ (by rw [big, big, big, big]) rfl
  have p4 : IsPair (laid s.heap a b) (s.heap.objs.size + 3) .none .none := old (one _ _ _ (by rw [big, big, big]) rfl)
  have p3 : IsPair (laid s.heap a b) (s.heap.objs.size + 2) (.ref s.heap.objs.size) (.ref (s.heap.objs.size + 1)) := old (old (one _ _ _ (by rw [big, big]) rfl))
  have p2 : (laid s.heap a b).get? (s.heap.objs.size + 1) = some { cls := .type "tuple_iterator", data := .fields #[.ref b, .int 0 0] } := old (old (old (one _ _ _ (by rw [big]) rfl)))
  have p1 : (laid s.heap a b).get? s.heap.objs.size = some { cls := .type "list_iterator", data := .fields #[.ref a, .int 0 0] } := old (old (old (old (one _ _ _ rfl rfl))))
  show _ ∧ _
  exact ⟨⟨_, p5, rfl⟩, goal _ p5 p3 p4 ⟨_, p1, rfl, rfl⟩ ⟨_, p2, rfl, rfl⟩ fun c v e => old (old (old (old (old e))))⟩
open PySem.Spec PyProof.Rows L2
/-- the list at a and the tuple at b as they stand at each turn, the items in new pairs -/
def ItLT (K : PySem.W.Frag) (a b : Addr) : It :=
  ⟨fun i H => ∃ xs ys x y, SqL K H a xs ∧ SqT K H b ys ∧ xs[i]? = some x ∧ ys[i]? = some y, fun i H v G => ∃ T x y, v = .ref T ∧ H T = none ∧ G = upd H T (.tup [x, y]) ∧ (∀ xs, SqL K H a xs → xs[i]? = some x) ∧ ∀ ys, SqT K H b ys → ys[i]? = some y,
    fun i H => ∃ xs ys, SqL K H a xs ∧ SqT K H b ys ∧ (xs.length ≤ i ∨ ys.length ≤ i)⟩
theorem walk_LT {K : PySem.W.Frag} {a b : Addr} {xs ys : List V} (e : xs.length = ys.length) : Walk (ItLT K a b) xs.length (fun H => SqL K H a xs ∧ SqT K H b ys) (YPair (fun i => xs[i]?) (fun i => ys[i]?)) :=
  ⟨fun i _ hi q => ⟨xs, ys, xs[i], ys[i]'(by omega), q.1, q.2, List.getElem?_eq_getElem hi, List.getElem?_eq_getElem (by omega)⟩, fun _ q => ⟨xs, ys, q.1, q.2, .inl (Nat.le_refl _)⟩, fun i H v G _ q ⟨T, x, y, h1, h2, h3, h4, h5⟩ => ⟨T, x, y, h1, h2, h3, h4 xs q.1, h5 ys q.2⟩⟩
end ZipG
/-! ### for c, v in zip(a list, a tuple) -/
namespace ZipG
open PySem PySem.W PySem.Spec PyProof.Rows L2
theorem turn_LT {P : Program} {w : World} {K : PySem.W.Frag} {elts : List Expr} {kk : Nat} {tpos : Pos} {a b z u o i j : Addr} {its jts : Array Value} (D : ZipApart z u o i j a b) :
    Turn P w K (.Tuple elts kk tpos) (ItLT K a b) [z, u, o, i, j] z (fun k h => IsZip h z u o .none ∧ IsPair h u (.ref i) (.ref j) ∧ (∃ x y, IsPair h o x y) ∧ h.IsListIter i a k ∧ h.IsTupleIter j b k) where
  mem := List.mem_cons_self
  obj := by
    rintro k h ⟨hz, hu, ⟨x, y, ho⟩, ⟨o1, e1, _, d1⟩, ⟨o2, e2, _, d2⟩⟩ c hc
    rcases (by simpa using hc : c = z ∨ c = u ∨ c = o ∨ c = i ∨ c = j) with rfl | rfl | rfl | rfl | rfl
    · exact ⟨_, hz, fun v q => nomatch q⟩
    · exact ⟨_, hu, fun v q => nomatch q⟩
    · exact ⟨_, ho, fun v q => nomatch q⟩
    · exact ⟨_, e1, fun v q => by rw [d1] at q; cases q⟩
    · exact ⟨_, e2, fun v q => by rw [d2] at q; cases q⟩
  keep := by
    rintro k h h' ⟨hz, hu, ⟨x, y, ho⟩, h1, h2⟩ same
    exact ⟨same z (by simp) _ hz, same u (by simp) _ hu, ⟨x, y, same o (by simp) _ ho⟩, h1.at fun v => same i (by simp) v, h2.at fun v => same j (by simp) v⟩
  item := by
    intro X eP ew eK calm k pins s σ H E inv free st at_
    subst eP ew eK
    obtain ⟨hz, hu, ⟨x0, y0, ho⟩, h1, h2⟩ := st
    obtain ⟨xs, ys, x, y, qx, qy, hx, hy⟩ := at_
    obtain ⟨vs, rv, pl, _⟩ := inv.list qx
    obtain ⟨us, ru, pt, _⟩ := inv.tuple qy
    obtain ⟨v, hv, rx⟩ := rv.get hx
    obtain ⟨t, ht, ry⟩ := ru.get hy
    have zlt : z < s.heap.objs.size := Heap.lt_size hz
    refine next_item (feedL (xs := vs.toArray) D.l1i1) (feedT (xs := us.toArray) D.l2i2) D hz hu ho ⟨h1, pl.isList⟩ ⟨h2, pt⟩ (x := v) (y := t) (by simpa using hv) (by simpa using ht) fun h' z' o' st1 st2 new big rest => ?_
    refine ⟨_, rfl, wpAny_letOwnedTupleGo_zip (s := { s with heap := h' }) z' fun h'' z'' sb => ?_⟩
    have new2 : h''.get? s.heap.objs.size = some { cls := .type "tuple", data := .seq #[v, t] } := (sb.2 _ (Nat.ne_of_gt zlt)).trans new
    have ok : ObjOk X.prog X.w (upd H s.heap.objs.size (.tup [x, y])) h'' s.heap.objs.size (.tup [x, y]) := ⟨by show 2 ≤ sizeLine; decide, [v, t], .cons rx (.cons ry .nil), ⟨_, new2, rfl, _, rfl⟩⟩
    have away : ∀ {c : Addr}, ¬ c ∈ [z, u, o, i, j] → c ≠ z ∧ c ≠ o ∧ c ≠ i ∧ c ≠ j := fun h => ⟨fun q => h (by simp [q]), fun q => h (by simp [q]), fun q => h (by simp [q]), fun q => h (by simp [q])⟩
    have inv2 : Inv X pins σ (upd H s.heap.objs.size (.tup [x, y])) { s with heap := h'' } := inv.turnedNew (t' := s.toks) (ch := [z, u, o, i, j]) (fun c ob nb e => (sb.2 c (away nb).1).trans (rest c ob (away nb).1 (away nb).2.1 (away nb).2.2.1 (away nb).2.2.2 e)) free (Nat.le_refl _) ok
    refine ⟨.ref s.heap.objs.size, _, inv2, rfl, ⟨_, x, y, rfl, inv.hok.fresh (Nat.le_refl _), rfl, fun l hl => by rw [inv.list_inj hl qx]; exact hx, fun l hl => by rw [inv.tuple_inj hl qy]; exact hy⟩, ⟨z'', (sb.2 _ D.TIz).trans (rest _ _ D.TIz D.TITO D.TIi1 D.TIi2 hu), ⟨v, t, (sb.2 _ D.TOz).trans o'⟩, st1.1.at fun ob e => (sb.2 _ D.i1z).trans e, st2.1.at fun ob e => (sb.2 _ D.i2z).trans e⟩, fun c hc => ?_⟩
    have clt : c < s.heap.objs.size := by
      rcases (by simpa using hc : c = z ∨ c = u ∨ c = o ∨ c = i ∨ c = j) with rfl | rfl | rfl | rfl | rfl
      · exact zlt
      · exact Heap.lt_size hu
      · exact Heap.lt_size ho
      · exact h1.elim fun _ e => Heap.lt_size e.1
      · exact h2.elim fun _ e => Heap.lt_size e.1
    rw [upd_ne (Nat.ne_of_lt clt)]
    exact (free c hc).1
  done := by
    intro X eP ew eK calm k pins s σ H E inv free st at_
    subst eP ew eK
    obtain ⟨hz, hu, ⟨x0, y0, ho⟩, h1, h2⟩ := st
    obtain ⟨xs, ys, qx, qy, stop⟩ := at_
    obtain ⟨vs, rv, pl, _⟩ := inv.list qx
    obtain ⟨us, ru, pt, _⟩ := inv.tuple qy
    have l1 := rv.length
    have l2 := ru.length
    have none_ : vs.toArray[k]? = none ∨ us.toArray[k]? = none := stop.imp (fun q => by simp; omega) (fun q => by simp; omega)
    exact next_last (inv.ok.hd calm) (feedL (xs := vs.toArray) D.l1i1) (feedT (xs := us.toArray) D.l2i2) D hz hu ho ⟨h1, pl.isList⟩ ⟨h2, pt⟩ none_ fun h' rest => ⟨rfl, inv.turnedL (t' := s.toks) (ch := [z, u, o, i, j]) (fun c ob nb e => rest c ob (fun q => nb (by simp [q])) (fun q => nb (by simp [q])) (fun q => nb (by simp [q])) (fun q => nb (by simp [q])) e) free⟩
  self := fun A k s Q E st q => wpAny_pyIter_zip st.1 q
def iZipLT (K : PySem.W.Frag) (ta : TA) : TI := fun σ H R => ta σ H fun vs H1 => ∃ a b xs ys, vs = [.ref a, .ref b] ∧ SqL K H1 a xs ∧ SqT K H1 b ys ∧ R (ItLT K a b) H1
theorem pi_zipLT {X : Cx} {e e2 : Expr} {ta : TA} {p pos tpos : Pos} {elts : List Expr} {kk : Nat} (vis : Gl X "zip") (none_ : X.mg "zip" = none) (ha : PA X [e, e2] ta) (one : starEach [e, e2] X.env = (false, eval e X.env) :: starEach [e2] X.env := by rfl) (nos : (backTo pos (starEach [e2] X.env)).any (·.1) = false := by rfl) :
    PI X (.Tuple elts kk tpos) (.Call (.Name "zip" p) [e, e2] [] pos) (iZipLT X.K ta) := .mk fun pins s σ H R inv h => by
  refine Call_ (ld_blt inv vis none_ PyProof.Rows.boot_zip (PyProof.Rows.callWith_type1 (thn (ha.run pos pins s σ H _ inv h) fun us s1 ⟨vs, H1, inv1, rel, a, b, xs, ys, ex, qx, qy, goal⟩ => ?_) one nos))
  subst ex
  obtain ⟨v1, v2, rfl, r1, r2⟩ := vals2 rel
  obtain rfl : v1 = Value.ref a := r1
  obtain rfl : v2 = Value.ref b := r2
  obtain ⟨its, rv, pl, _⟩ := inv1.list qx
  obtain ⟨jts, ru, pt, _⟩ := inv1.tuple qy
  have la : a < s1.heap.objs.size := pl.lt
  have lb : b < s1.heap.objs.size := Exists.elim pt fun _ e => Heap.lt_size e.1
  refine call_LT pl.isList pt fun h' hz hu ho h1 h2 keep => wpAny_pyIter_zip hz ?_
  refine ⟨s1.heap.objs.size + 4, [s1.heap.objs.size + 4, s1.heap.objs.size + 2, s1.heap.objs.size + 3, s1.heap.objs.size, s1.heap.objs.size + 1], _, _, H1, rfl, inv1.kept (t' := s1.toks) keep, turn_LT (its := #[]) (jts := #[]) (PySem.W.ktu_apart s1.heap.objs.size a b la lb), ⟨hz, hu, ⟨_, _, ho⟩, h1, h2⟩, fun c hc => ?_, goal⟩
  have le : s1.heap.objs.size ≤ c := by
    rcases (by simpa using hc : c = s1.heap.objs.size + 4 ∨ c = s1.heap.objs.size + 2 ∨ c = s1.heap.objs.size + 3 ∨ c = s1.heap.objs.size ∨ c = s1.heap.objs.size + 1) with q | q | q | q | q <;> rw [q] <;> first | exact Nat.le_add_right _ _ | exact Nat.le_refl _
  exact inv1.fpOk le (inv1.hok.fresh le)
end ZipG
/-! ### values_in, state_with -/
abbrev sVI : Stmt := topS 29
theorem scVI : FnScope ["book", "state", "cell"] ["book", "state"] (defScope sVI) := ⟨rfl, rfl, rfl, by decide +kernel, rfl, by decide +kernel, by decide +kernel⟩
abbrev sSW : Stmt := topS 30
theorem scSW : FnScope ["book", "values", "cell", "value"] ["book", "values"] (defScope sSW) := ⟨rfl, rfl, rfl, by decide +kernel, rfl, by decide +kernel, by decide +kernel⟩
def spVI (K : PySem.W.Frag) (CK C CF CL : Addr) : Sp := fun vs H Q _ => ∃ (a g : Addr) (cells : List (Str × Str)) (fs : List FX) (st : List Int), vs = [.ref a, .ref g] ∧ BookAt K H CK C CF CL a cells fs ∧ (cells.map (·.1)).Nodup ∧ H g = some (.dK (stK cells st)) ∧ st.length = cells.length ∧ ∀ t H', Same H H' → SqT K H' t (st.map V.int) → Q (.ref t) H'
def spSW (K : PySem.W.Frag) (CK C CF CL : Addr) : Sp := fun vs H Q _ => ∃ (a t : Addr) (cells : List (Str × Str)) (fs : List FX) (st : List Int), vs = [.ref a, .ref t] ∧ BookAt K H CK C CF CL a cells fs ∧ (cells.map (·.1)).Nodup ∧ SqT K H t (st.map V.int) ∧ st.length = cells.length ∧ ∀ g H', Same H H' → H g = none → H' g = some (.dK (stK cells st)) → Q (.ref g) H'
theorem take_names {cells : List (Str × Str)} (nc : (cells.map (·.1)).Nodup) {i : Nat} {c : Str × Str} (hc : cells[i]? = some c) : c.1 ∉ (cells.take i).map (·.1) := fun m => by
  obtain ⟨c', hc', e⟩ := List.mem_map.mp m
  obtain ⟨j, hj⟩ := List.getElem?_of_mem hc'
  have hj2 := (List.getElem?_eq_some_iff.mp hj).1
  rw [List.length_take] at hj2
  rw [List.getElem?_take] at hj
  split at hj
  · have := nd_inj nc (i := j) (j := i) (z := c.1) (by rw [List.getElem?_map, hj, Option.map_some, e]) (by rw [List.getElem?_map, hc]; rfl)
    omega
  · cases hj
section
variable {P : Program} {w : World} {K : PySem.W.Frag} {mg : Str → Option Value} {base : Heap}
theorem ok_vi {CK C CF CL f fA : Addr} {fd dA : FuncData} (F : Fun K "values_in" "values_in" sVI f fd) (M : Blt mg) (BK : BookK K CK C CF) (GA : FnOk P w K mg base CX0 1 fA dA ["self"] (spAllC K CK C CF CL)) (mA : Meth K CK "all_cells" fA) (bA : Binds K dA ["self"] []) : FnOk P w K mg base CX0 2 f fd ["book", "state"] (spVI K CK C CF CL) := by
  refine F.ok scVI (fun vs H Q E h => ?_) (fun cdv A outer s H vs Q E hr h => ?_)
  · obtain ⟨a, g, cells, fs, st, rfl, _⟩ := h
    rfl
  · obtain ⟨a, g, cells, fs, st, rfl, hB, nc, eg, sl, q⟩ := h
    have hu := hu_of hr
    refine ⟨_, pss_one (ps_ret (pe_callTy call_tuple_of (by rfl) M.tuple (by decide +kernel) (pa_cons
      (pe_lc (own := [("cell", 2)]) (g := gName 2) (wi := iList K (tMeth CK "all_cells" (spAllC K CK C CF CL) [] E0 (tVar 0) tNil)) (tt := tYes) (te := tDGet (tVar 1) (tFld K (tVar 2) "name")) (by rfl) scVI.nd (pi_list (pe_meth0 (pv 0) BK.cl mA GA hr bA .nil pass0)) (blkOk_by (own := [("cell", 2)]) (N := ["book", "state", "cell"]) (sc := defScope sVI) (by decide +kernel))
        (fun _ _ _ _ _ => pg_name (i := 2) scVI.nd rfl (Or.inl rfl)) (fun _ _ _ _ _ => pts_nil) (fun _ _ _ _ _ => pe_dget hu (pv 1) (pe_fld (pv 2) (by rfl)) (fun _ _ => rfl))) pa_nil))), ?_⟩
    obtain ⟨dB, tB1, tB2, DB, xsB, ysB, eB, _, _, _, _, _, l6, _⟩ := id hB
    refine ⟨.ref a, rfl, a, dB, _, rfl, eB, rfl, a, cells, fs, rfl, hB, fun l xs H1 s1 nl el rX => ⟨l, rfl, ⟨_, .inl (.inl el)⟩, fun D hD => ?_⟩⟩
    refine lc_vals (walk_list (K := K) (a := l) (xs := xs)) (fun i => .int (st.getD i 0)) (by rw [rX.1]; omega) hD (fun x => rfl) (fun H' s => .inl (.inl (s _ _ el))) (fun i x H2 H3 hi s2 y => ?_) (fun H2 s2 e2 => ?_)
    · obtain ⟨rfl, hx⟩ := y
      obtain ⟨c, hc⟩ : ∃ c, cells[i]? = some c := ⟨_, List.getElem?_eq_getElem (by rw [← rX.1]; exact hi)⟩
      obtain ⟨b, rfl, dx, gs, eb, ln, lk⟩ := rX.2 i x c hx hc
      have js : i < st.length := by rw [sl]; exact (List.getElem?_eq_some_iff.mp hc).1
      refine ⟨Same.refl _, fun Q' q' => ⟨.ref g, rfl, .ref b, rfl, b, C, dx, gs, .str c.1, rfl, s2 _ _ eb, BK.cc, BK.cn, ln, g, .int (st.getD i 0), rfl, .inl ⟨_, .inr c.1, .inl (s2 _ _ (s1 _ _ eg)), rfl, ?_⟩, q' _ (Same.refl _)⟩⟩
      rw [stK_get nc hc (List.getElem?_eq_getElem js), List.getD_eq_getElem?_getD, List.getElem?_eq_getElem js]
      rfl
    · have e3 : ((List.range xs.length).map fun i => V.int (st.getD i 0)) = st.map V.int := by
        rw [rX.1, ← sl]
        apply List.ext_getElem?
        intro i
        rw [List.getElem?_map, List.getElem?_map]
        by_cases h : i < st.length
        · rw [List.getElem?_range h, List.getElem?_eq_getElem h, Option.map_some, Option.map_some, List.getD_eq_getElem?_getD, List.getElem?_eq_getElem h]
          rfl
        · rw [List.getElem?_eq_none (by rw [List.length_range]; omega), List.getElem?_eq_none (by omega)]
          rfl
      rw [e3] at e2
      exact ⟨D, _, rfl, .inl ⟨.inl (.inl e2), fun t nt => q t _ (s1.trans (s2.trans (same_upd nt))) (.inl (.inl upd_same))⟩⟩
theorem ok_sw {CK C CF CL f fA : Addr} {fd dA : FuncData} (F : Fun K "state_with" "state_with" sSW f fd) (M : Blt mg) (BK : BookK K CK C CF) (GA : FnOk P w K mg base CX0 1 fA dA ["self"] (spAllC K CK C CF CL)) (mA : Meth K CK "all_cells" fA) (bA : Binds K dA ["self"] []) : FnOk P w K mg base CX0 2 f fd ["book", "values"] (spSW K CK C CF CL) := by
  refine F.ok scSW (fun vs H Q E h => ?_) (fun cdv A outer s H vs Q E hr h => ?_)
  · obtain ⟨a, t, cells, fs, st, rfl, _⟩ := h
    rfl
  · obtain ⟨a, t, cells, fs, st, rfl, hB, nc, ht, sl, q⟩ := h
    refine ⟨_, pss_one (ps_ret (pe_dc (own := [("cell", 2), ("value", 3)]) (g := gTup K 2 (gCons (gName 2) (gCons (gName 3) gNil))) (wi := ZipG.iZipLT K (tCons (tMeth CK "all_cells" (spAllC K CK C CF CL) [] E0 (tVar 0) tNil) (tCons (tVar 1) tNil))) (tt := tYes) (tk := tFld K (tVar 2) "name") (tv := tVar 3) (by rfl) scSW.nd
        (ZipG.pi_zipLT (by rfl) M.zip (pa_cons (pe_meth0 (pv 0) BK.cl mA GA hr bA .nil pass0) (pa_cons (pv 1) pa_nil))) (blkOk_by (own := [("cell", 2), ("value", 3)]) (N := ["book", "values", "cell", "value"]) (sc := defScope sSW) (by decide +kernel))
        (fun _ _ _ _ _ => pg_tup (by rfl) (pgs_cons (pg_name (i := 2) scSW.nd rfl (Or.inl rfl)) (pgs_cons (pg_name (i := 3) scSW.nd rfl (Or.inl rfl)) pgs_nil))) (fun _ _ _ _ _ => pts_nil) (fun _ _ _ _ _ => pe_fld (pv 2) (by rfl)) (fun _ _ _ _ _ => pv 3))), ?_⟩
    obtain ⟨dB, tB1, tB2, DB, xsB, ysB, eB, _, _, _, _, _, l6, _⟩ := id hB
    refine ⟨.ref a, rfl, a, dB, _, rfl, eB, rfl, a, cells, fs, rfl, hB, fun l xs H1 s1 nl el rX => ⟨.ref t, rfl, l, t, xs, st.map V.int, rfl, .inl (.inl el), same_sqT s1 ht, fun D hD => ?_⟩⟩
    refine walk_gen (ZipG.walk_LT (K := K) (a := l) (b := t) (xs := xs) (ys := st.map V.int) (by rw [rX.1, List.length_map, sl])) (fun i H' => Same H1 H' ∧ H' D = some (.dK (stK (cells.take i) (st.take i)))) ⟨same_upd hD, upd_same⟩ (fun i H' _ p => ⟨.inl (.inl (p.1 _ _ el)), same_sqT (s1.trans p.1) ht⟩) (fun i x H2 H3 hi p y => ?_) (fun H2 p => ?_)
    · obtain ⟨s2, eD⟩ := p
      obtain ⟨T, y0, y1, rfl, nT, rfl, h0, h1⟩ := y
      obtain ⟨c, hc⟩ : ∃ c, cells[i]? = some c := ⟨_, List.getElem?_eq_getElem (by rw [← rX.1]; exact hi)⟩
      obtain ⟨b, rfl, dc, gs, ec, ln, lk⟩ := rX.2 i y0 c h0 hc
      have h1 : (st.map V.int)[i]? = some y1 := h1
      rw [List.getElem?_map] at h1
      obtain ⟨v, hv, rfl⟩ := Option.map_eq_some_iff.mp h1
      have sT := same_upd (o := HO.tup [V.ref b, .int v]) nT
      have il : i < 6 := by have := (List.getElem?_eq_some_iff.mp hc).1; omega
      refine ⟨T, _, rfl, .inl (.inl upd_same), rfl, _, _, rfl, _, _, rfl, rfl, rfl, ?_⟩
      unfold tYes
      refine iteT ⟨.ref b, rfl, b, C, dc, gs, .str c.1, rfl, sT _ _ (s2 _ _ ec), BK.cc, BK.cn, ln, .int v, rfl, _, .inr c.1, rfl, sT _ _ eD, ?_, fun b' o e => ?_, ?_⟩
      · unfold stK
        rw [List.length_map, List.length_zip, List.length_take, List.length_take]
        exact Nat.lt_of_le_of_lt (show _ ≤ 6 by omega) (by decide)
      · rw [upd_ne (ne_of_none e hD)]
        exact sT _ _ (s2 _ _ e)
      · rw [take_snoc hc, take_snoc hv, ← stK_snoc (by rw [List.length_take, List.length_take, sl]) (take_names nc hc)]
        exact upd_same
    · obtain ⟨s2, eD⟩ := p
      rw [rX.1, List.take_length, ← sl, List.take_length] at eD
      exact q D H2 (s1.trans s2) (s1.free hD) eD
end
/-! ### World -/
structure WorK (K : PySem.W.Frag) (CW : Addr) : Prop where
  cl : Cls K CW
  n1 : NoAttr K CW "_book"
  n2 : NoAttr K CW "_state"
  n3 : NoAttr K CW "_view"
  n4 : NoAttr K CW "_calling"
  n5 : NoAttr K CW "_calls"
/-- a World at its beginning -/
def WorldAt (K : PySem.W.Frag) (H : Hp) (CW CK C CF CL a bb : Addr) (cells : List (Str × Str)) (fs : List FX) (st : List Int) : Prop := ∃ dx t ca cl, H a = some (.ins CW dx [("_book", .ref bb), ("_state", .ref t), ("_view", .ref t), ("_calling", .ref ca), ("_calls", .ref cl)]) ∧ BookAt K H CK C CF CL bb cells fs ∧ SqT K H t (st.map V.int) ∧ H cl = some (.lst []) ∧ st.length = cells.length ∧ (cells.map (·.1)).Nodup
theorem WorldAt.same {K : PySem.W.Frag} {H H' : Hp} {CW CK C CF CL a bb : Addr} {cells : List (Str × Str)} {fs : List FX} {st : List Int} (h : WorldAt K H CW CK C CF CL a bb cells fs st) (s : Same H H') : WorldAt K H' CW CK C CF CL a bb cells fs st := by
  obtain ⟨dx, t, ca, cl, e, hB, ht, ec, r⟩ := h
  exact ⟨dx, t, ca, cl, s _ _ e, hB.same s, same_sqT s ht, s _ _ ec, r⟩
abbrev sWLen : Stmt := inClass (topS 32) 1
theorem scWLen : FnScope ["self"] ["self"] (defScope sWLen) := ⟨rfl, rfl, rfl, by decide +kernel, rfl, by decide +kernel, by decide +kernel⟩
abbrev sWCall : Stmt := inClass (topS 32) 2
theorem scWCall : FnScope ["self", "name", "arguments", "function", "given", "value"] ["self", "name", "arguments"] (defScope sWCall) := ⟨rfl, rfl, rfl, by decide +kernel, rfl, by decide +kernel, by decide +kernel⟩
abbrev sWSt : Stmt := inClass (topS 32) 3
theorem scWSt : FnScope ["self"] ["self"] (defScope sWSt) := ⟨rfl, rfl, rfl, by decide +kernel, rfl, by decide +kernel, by decide +kernel⟩
abbrev sWPut : Stmt := inClass (topS 32) 8
theorem scWPut : FnScope ["self", "name", "value"] ["self", "name", "value"] (defScope sWPut) := ⟨rfl, rfl, rfl, by decide +kernel, rfl, by decide +kernel, by decide +kernel⟩
abbrev sWAsg : Stmt := inClass (topS 32) 9
theorem scWAsg : FnScope ["self", "name", "value"] ["self", "name", "value"] (defScope sWAsg) := ⟨rfl, rfl, rfl, by decide +kernel, rfl, by decide +kernel, by decide +kernel⟩
abbrev sWCh : Stmt := inClass (topS 32) 11
theorem scWCh : FnScope ["self", "name", "value", "kind", "state"] ["self", "name", "value", "kind"] (defScope sWCh) := ⟨rfl, rfl, rfl, by decide +kernel, rfl, by decide +kernel, by decide +kernel⟩
abbrev sRA : Stmt := topS 28
theorem scRA : FnScope ["book", "name", "arguments", "state", "tick", "ahead", "value", "behind"] ["book", "name", "arguments", "state", "tick"] (defScope sRA) := ⟨rfl, rfl, rfl, by decide +kernel, rfl, by decide +kernel, by decide +kernel⟩
/-- the classes of the errors of a run -/
structure Ers where
  U : Addr
  A : Addr
  S : Addr
  T : Addr
  P : Addr
/-- so many arguments, or something else -/
def ArgIs (K : PySem.W.Frag) (H : Hp) (v : V) (F : FX) (b : Bool) : Prop := ∃ (o : Od) (many : Nat), OdAt K H v o ∧ (∀ ds, o = .dat (.list ds) ∨ o = .dat (.tuple ds) → ds.length ≤ 1000) ∧ F.d.ar = (many : Nat) ∧ o.args many = b
theorem ArgIs.same {K : PySem.W.Frag} {H H' : Hp} {v : V} {F : FX} {b : Bool} (h : ArgIs K H v F b) (s : Same H H') : ArgIs K H' v F b := by
  obtain ⟨o, many, ho, r⟩ := h
  exact ⟨o, many, ho.same s, r⟩
/-- a call that is refused: the error's class, its attribute, its value -/
def CallBad (K : PySem.W.Frag) (H : Hp) (fs : List FX) (R : Ers) (v0 v1 : V) (k : Addr) (f : Str) (x : V) : Prop :=
  (∃ d, Dp K H v0 d ∧ nameIn fs d = none ∧ k = R.U ∧ f = "name" ∧ x = v0) ∨ (∃ d F, Dp K H v0 d ∧ nameIn fs d = some F ∧ ArgIs K H v1 F false ∧ k = R.A ∧ f = "arguments" ∧ x = v1)
def tickB : PyData → Bool
  | .int i => decide (0 ≤ i)
  | _ => false
/-- a run alone that is refused -/
def RunBad (K : PySem.W.Frag) (H : Hp) (cells : List (Str × Str)) (fs : List FX) (R : Ers) (v0 v1 v2 v3 : V) (k : Addr) (f : Str) (x : V) : Prop :=
  CallBad K H fs R v0 v1 k f x ∨ (∃ d F, Dp K H v0 d ∧ nameIn fs d = some F ∧ ArgIs K H v1 F true ∧ ((StBad K H cells v2 x ∧ k = R.S ∧ f = "name") ∨ (∃ st d3, StGood H cells v2 st ∧ Dp K H v3 d3 ∧ szD d3 = true ∧ tickB d3 = false ∧ k = R.T ∧ f = "value" ∧ x = v3)))
/-- a value put that is refused -/
def ChBad (K : PySem.W.Frag) (H : Hp) (cells : List (Str × Str)) (R : Ers) (kind : Str) (v0 v1 : V) (k : Addr) (f : Str) (x : V) : Prop :=
  (∃ d, Dp K H v0 d ∧ cellIn cells d = none ∧ k = R.U ∧ f = "name" ∧ x = v0) ∨ (∃ d c, Dp K H v0 d ∧ cellIn cells d = some c ∧
    ((c.2 ≠ kind ∧ k = R.P ∧ f = "part" ∧ x = .str "name") ∨ (∃ d1, c.2 = kind ∧ Dp K H v1 d1 ∧ szD d1 = true ∧ isValue d1 = false ∧ k = R.P ∧ f = "part" ∧ x = .str "value")))
def spWI (K : PySem.W.Frag) (CW CK C CF CL CS : Addr) : Sp := fun vs H Q E => ∃ (a dx bb : Addr) (v : V) (cells : List (Str × Str)) (fs : List FX) (H0 : Hp), vs = [.ref a, .ref bb, v] ∧ H a = some (.ins CW dx []) ∧ Same H0 H ∧ H0 a = none ∧ BookAt K H0 CK C CF CL bb cells fs ∧ (cells.map (·.1)).Nodup ∧ cells.length ≤ 3 ∧
  ((∃ x, StBad K H0 cells v x ∧ EWish H CS "name" x E) ∨ (∃ st, StGood H0 cells v st ∧ ∀ H', Same H0 H' → WorldAt K H' CW CK C CF CL a bb cells fs st → Q .non H'))
def spWLen (K : PySem.W.Frag) (CW CK C CF CL : Addr) : Sp := fun vs H Q _ => ∃ (a bb : Addr) (cells : List (Str × Str)) (fs : List FX) (st : List Int), vs = [.ref a] ∧ WorldAt K H CW CK C CF CL a bb cells fs st ∧ Q (.int 0) H
def spWSt (K : PySem.W.Frag) (CW CK C CF CL : Addr) : Sp := fun vs H Q _ => ∃ (a bb : Addr) (cells : List (Str × Str)) (fs : List FX) (st : List Int), vs = [.ref a] ∧ WorldAt K H CW CK C CF CL a bb cells fs st ∧ ∀ g H', Same H H' → H g = none → H' g = some (.dK (stK cells st)) → Q (.ref g) H'
def spWCall (K : PySem.W.Frag) (CW CK C CF CL : Addr) (R : Ers) : Sp := fun vs H _ E => ∃ (a bb : Addr) (v0 v1 : V) (cells : List (Str × Str)) (fs : List FX) (st : List Int), vs = [.ref a, v0, v1] ∧ WorldAt K H CW CK C CF CL a bb cells fs st ∧ ∃ k f x, CallBad K H fs R v0 v1 k f x ∧ EWish H k f x E
def spWCh (K : PySem.W.Frag) (CW CK C CF CL : Addr) (R : Ers) : Sp := fun vs H _ E => ∃ (a bb : Addr) (v0 v1 : V) (kind : Str) (cells : List (Str × Str)) (fs : List FX) (st : List Int), vs = [.ref a, v0, v1, .str kind] ∧ WorldAt K H CW CK C CF CL a bb cells fs st ∧ ∃ k f x, ChBad K H cells R kind v0 v1 k f x ∧ EWish H k f x E
def spWPut (K : PySem.W.Frag) (CW CK C CF CL : Addr) (R : Ers) (kind : Str) : Sp := fun vs H _ E => ∃ (a bb : Addr) (v0 v1 : V) (cells : List (Str × Str)) (fs : List FX) (st : List Int), vs = [.ref a, v0, v1] ∧ WorldAt K H CW CK C CF CL a bb cells fs st ∧ ∃ k f x, ChBad K H cells R kind v0 v1 k f x ∧ EWish H k f x E
def spRA (K : PySem.W.Frag) (CK C CF CL : Addr) (R : Ers) : Sp := fun vs H _ E => ∃ (bb : Addr) (v0 v1 v2 v3 : V) (cells : List (Str × Str)) (fs : List FX), vs = [.ref bb, v0, v1, v2, v3] ∧ BookAt K H CK C CF CL bb cells fs ∧ (cells.map (·.1)).Nodup ∧ ∃ k f x, RunBad K H cells fs R v0 v1 v2 v3 k f x ∧ EWish H k f x E
/-- what is at hand of the book's own methods and of the looks -/
structure BkUse (P : Program) (w : World) (K : PySem.W.Frag) (mg : Str → Option Value) (base : Heap) (CK C CF CL : Addr) (R : Ers) (fG fA fL fC1 fC2 : Addr) (dG dA dL dC1 dC2 : FuncData) : Prop where
  bk : BookK K CK C CF
  get : Op1 P w K mg base (L2.CX P w) 3 CK "__getitem__" fG dG ["self", "at"] (spGet K CK C CF CL R.U)
  all : FnOk P w K mg base CX0 1 fA dA ["self"] (spAllC K CK C CF CL)
  mA : Meth K CK "all_cells" fA
  bA : Binds K dA ["self"] []
  cel : FnOk P w K mg base (L2.CX P w) 3 fL dL ["self", "name"] (spBCell K CK C CF CL R.U)
  mL : Meth K CK "cell" fL
  bL : Binds K dL ["self", "name"] []
  nk : NoAttr K C "kind"
  ca : FnOk P w K mg base (L2.CX P w) 4 fC1 dC1 ["function", "arguments"] (spCA K CF CL R.A)
  k1 : PySem.W.keepIn K (.ref fC1) = true
  b1 : Binds K dC1 ["function", "arguments"] []
  g1 : mg "_check_arguments" = some (.ref fC1)
  cs : FnOk P w K mg base (L2.CX P w) 3 fC2 dC2 ["cells", "state"] (spCS K C R.S)
  k2 : PySem.W.keepIn K (.ref fC2) = true
  b2 : Binds K dC2 ["cells", "state"] []
  g2 : mg "check_state" = some (.ref fC2)
section
variable {P : Program} {w : World} {K : PySem.W.Frag} {mg : Str → Option Value} {base : Heap}
theorem ok_wlen {CW CK C CF CL f : Addr} {fd : FuncData} (F : Fun K "__len__" "World.__len__" sWLen f fd) (M : Blt mg) (WK : WorK K CW) : FnOk P w K mg base CX0 1 f fd ["self"] (spWLen K CW CK C CF CL) := by
  refine F.ok scWLen (fun vs H Q E h => ?_) (fun cdv A outer s H vs Q E hr h => ?_)
  · obtain ⟨a, bb, cells, fs, st, rfl, _⟩ := h
    rfl
  · obtain ⟨a, bb, cells, fs, st, rfl, ⟨dx, t, ca, cl, ea, hB, ht, ec, _⟩, q⟩ := h
    refine ⟨_, pss_one (ps_ret (pe_callB call_len_seq (by rfl) M.len PySem.boot_len (pa_cons (pe_fld (pv 0) (by rfl)) pa_nil))), ?_⟩
    exact ⟨.ref a, rfl, a, CW, dx, _, .ref cl, rfl, ea, WK.cl, WK.n5, rfl, cl, [], rfl, .inl (.inl (.inl ec)), q⟩
theorem ok_wst {CW CK C CF CL f fS : Addr} {fd dS : FuncData} (F : Fun K "state" "World.state" sWSt f fd) (M : Blt mg) (WK : WorK K CW) (GS : FnOk P w K mg base CX0 2 fS dS ["book", "values"] (spSW K CK C CF CL)) (kS : PySem.W.keepIn K (.ref fS) = true) (bS : Binds K dS ["book", "values"] []) (gS : mg "state_with" = some (.ref fS)) : FnOk P w K mg base CX0 3 f fd ["self"] (spWSt K CW CK C CF CL) := by
  refine F.ok scWSt (fun vs H Q E h => ?_) (fun cdv A outer s H vs Q E hr h => ?_)
  · obtain ⟨a, bb, cells, fs, st, rfl, _⟩ := h
    rfl
  · obtain ⟨a, bb, cells, fs, st, rfl, ⟨dx, t, ca, cl, ea, hB, ht, ec, sl, nc⟩, q⟩ := h
    refine ⟨_, pss_one (ps_ret (pe_call GS hr (by rfl) gS kS bS .nil pass0 (pa_cons (pe_fld (pv 0) (by rfl)) (pa_cons (pe_fld (pv 0) (by rfl)) pa_nil)))), ?_⟩
    exact ⟨.ref a, rfl, a, CW, dx, _, .ref bb, rfl, ea, WK.cl, WK.n1, rfl, .ref a, rfl, a, CW, dx, _, .ref t, rfl, ea, WK.cl, WK.n2, rfl, bb, t, cells, fs, st, rfl, hB, nc, ht, sl, q⟩
theorem get_some {H : Hp} {CF CL CU : Addr} {v : V} {Q : VK} {E : XK} {F : FX} {o : Option FX} (h : o = some F) (k : ∀ g, FunFull K H CF CL g F → Q (.ref g) H) : GetW K H CF CL CU v Q E o := by
  rw [h]
  exact k
theorem get_none {H : Hp} {CF CL CU : Addr} {v : V} {Q : VK} {E : XK} {o : Option FX} (h : o = none) (k : EWish H CU "name" v E) : GetW K H CF CL CU v Q E o := by
  rw [h]
  exact k
theorem ok_wcall {CW CK C CF CL f fG fA fL fC1 fC2 : Addr} {R : Ers} {fd dG dA dL dC1 dC2 : FuncData} (F : Fun K "call" "World.call" sWCall f fd) (M : Blt mg) (WK : WorK K CW) (B : BkUse P w K mg base CK C CF CL R fG fA fL fC1 fC2 dG dA dL dC1 dC2) : FnOk P w K mg base (L2.CX P w) 6 f fd ["self", "name", "arguments"] (spWCall K CW CK C CF CL R) := by
  refine F.okX scWCall (fun vs H Q E h => ?_) (fun cdv A outer s H vs Q E hr h => ?_)
  · obtain ⟨a, bb, v0, v1, cells, fs, st, rfl, _⟩ := h
    rfl
  · obtain ⟨a, bb, v0, v1, cells, fs, st, rfl, ⟨dx, t, ca, cl, ea, hB, ht, ec, sl, nc⟩, k, fe, x, bad, wish⟩ := h
    refine ⟨_, pss_cons (ps_set (i := 3) scWCall.nd rfl (.inl rfl) (pe_ownSub (E := E) B.get (hr.mono (by decide)) (passes_call (takes_of rfl rfl rfl rfl) (fun _ _ _ _ h => h)) (pe_fld (pv 0) (by rfl)) (pv 1) (fun _ _ => rfl)))
      (pss_cons (ps_expr (pe_call (E := E) B.ca (hr.mono (by decide)) (by rfl) B.g1 B.k1 B.b1 .nil (passes_call (takes_of rfl rfl rfl rfl) (fun _ _ _ _ h => h)) (pa_cons (pv 3) (pa_cons (pv 2) pa_nil))))
      (pss_cons ps_dead (pss_cons ps_dead (pss_cons ps_dead (pss_cons ps_dead (pss_one ps_dead)))))), ?_⟩
    obtain ⟨dB, tB1, tB2, DB, xsB, ysB, eB, _⟩ := id hB
    rcases bad with ⟨d, hd, no, rfl, rfl, rfl⟩ | ⟨d, F, hd, yes, ⟨o, many, ho, hl, har, hb⟩, rfl, rfl, rfl⟩
    · exact ⟨.ref a, rfl, a, CW, dx, _, .ref bb, rfl, ea, WK.cl, WK.n1, rfl, x, rfl, bb, dB, _, rfl, eB, bb, x, d, cells, fs, rfl, hB, hd, get_none no wish⟩
    · refine ⟨.ref a, rfl, a, CW, dx, _, .ref bb, rfl, ea, WK.cl, WK.n1, rfl, v0, rfl, bb, dB, _, rfl, eB, bb, v0, d, cells, fs, rfl, hB, hd, get_some yes fun g hg => ?_⟩
      dsimp only [gName, List.set]
      exact ⟨.ref g, rfl, x, rfl, g, x, o, F, many, rfl, hg, har, ho, hl, fun z => absurd (hb.symm.trans z) (by decide), fun _ => wish⟩
theorem ok_wch {CW CK C CF CL f fG fA fL fC1 fC2 fV fE : Addr} {R : Ers} {fd dG dA dL dC1 dC2 dV dE : FuncData} (F : Fun K "_change" "World._change" sWCh f fd) (M : Blt mg) (WK : WorK K CW) (B : BkUse P w K mg base CK C CF CL R fG fA fL fC1 fC2 dG dA dL dC1 dC2)
    (TE : ErrT K mg "BadPart" "part" R.P fE) (GE : FnOk P w K mg base CX0 1 fE dE ["self", "part"] (spErr R.P "part")) (bE : Binds K dE ["self", "part"] [])
    (GV : FnOk P w K mg base CX0 2 fV dV ["value"] (spB K isValue)) (kV : PySem.W.keepIn K (.ref fV) = true) (bV : Binds K dV ["value"] []) (gV : mg "is_value" = some (.ref fV)) : FnOk P w K mg base (L2.CX P w) 5 f fd ["self", "name", "value", "kind"] (spWCh K CW CK C CF CL R) := by
  refine F.okX scWCh (fun vs H Q E h => ?_) (fun cdv A outer s H vs Q E hr h => ?_)
  · obtain ⟨a, bb, v0, v1, kind, cells, fs, st, rfl, _⟩ := h
    rfl
  · obtain ⟨a, bb, v0, v1, kind, cells, fs, st, rfl, ⟨dx, t, ca, cl, ea, hB, ht, ec, sl, nc⟩, k, fe, x, bad, wish⟩ := h
    have one : (1 : Nat) ≤ 1000 := by decide
    refine ⟨_, pss_cons (ps_if (pt_cmpR op_ne (pe_fld (pe_meth (E := E) (pe_fld (pv 0) (by rfl)) B.bk.cl B.mL B.cel (hr.mono (by decide)) B.bL .nil (passes_call (takes_of rfl rfl rfl rfl) (fun _ _ _ _ h => h)) (pa_cons (pv 1) pa_nil)) (by rfl)) (pv 3) (nomark _))
        (pss_one (ps_raise rfl (takes_of rfl rfl rfl rfl) (pmk_oex (k := 1) (ps := ["self", "part"]) (sp := spErr R.P "part") (ds := []) (dvs := []) TE.oex TE.ini TE.typ GE (hr.mono (by decide)) bE .nil pass0 (by rfl) TE.nam (pa_cons pe_str pa_nil)))) pss_nil)
      (pss_cons (ps_if (pt_not (pt_val (pe_call (E := E0) GV (hr.mono (by decide)) (by rfl) gV kV bV .nil pass0 (pa_cons (pv 2) pa_nil))))
        (pss_one (ps_raise rfl (takes_of rfl rfl rfl rfl) (pmk_oex (k := 1) (ps := ["self", "part"]) (sp := spErr R.P "part") (ds := []) (dvs := []) TE.oex TE.ini TE.typ GE (hr.mono (by decide)) bE .nil pass0 (by rfl) TE.nam (pa_cons pe_str pa_nil)))) pss_nil)
      (pss_cons ps_dead (pss_cons ps_dead (pss_one ps_dead)))), ?_⟩
    obtain ⟨dB, tB1, tB2, DB, xsB, ysB, eB, _⟩ := id hB
    have go : ∀ {Q' : VK} d, Dp K H v0 d → CellW H C R.U v0 Q' E (cellIn cells d) → spBCell K CK C CF CL R.U [.ref bb, v0] H Q' E := fun d hd hc => ⟨bb, v0, d, cells, fs, rfl, hB, hd, hc⟩
    rcases bad with ⟨d, hd, no, rfl, rfl, rfl⟩ | ⟨d, c, hd, yes, way⟩
    · exact ⟨.ref a, rfl, a, CW, dx, _, .ref bb, rfl, ea, WK.cl, WK.n1, rfl, bb, dB, _, rfl, eB, rfl, x, rfl, go d hd (by rw [no]; exact wish)⟩
    · refine ⟨.ref a, rfl, a, CW, dx, _, .ref bb, rfl, ea, WK.cl, WK.n1, rfl, bb, dB, _, rfl, eB, rfl, v0, rfl, go d hd ?_⟩
      rw [yes]
      intro b H1 s1 hb
      obtain ⟨dc, gs, eb, ln, lk⟩ := hb
      refine ⟨b, C, dc, gs, .str c.2, rfl, eb, B.bk.cc, B.nk, lk, .str kind, rfl, rfl, _, rfl, ?_⟩
      rcases way with ⟨ne, rfl, rfl, rfl⟩ | ⟨d1, e, hd1, hz, hv, rfl, rfl, rfl⟩
      · exact iteT' (by rw [decide_eq_false fun z => ne (V.str.inj z)]; rfl) ⟨one, mk_left fun dd H' lf => wish _ dd H' s1 lf⟩
      · refine iteF' (by rw [e, decide_eq_true rfl]; rfl) ?_
        dsimp only [tNext]
        refine ⟨v1, rfl, v1, d1, rfl, dp_same s1 hd1, hz, fun H2 s2 => ?_⟩
        rw [hv]
        exact ⟨_, rfl, iteT ⟨one, mk_left fun dd H' lf => wish _ dd H' (s1.trans s2) lf⟩⟩
theorem ok_wput {CW CK C CF CL f fH : Addr} {R : Ers} {fd dH : FuncData} (F : Fun K "put" "World.put" sWPut f fd) (WK : WorK K CW) (GH : FnOk P w K mg base (L2.CX P w) 5 fH dH ["self", "name", "value", "kind"] (spWCh K CW CK C CF CL R)) (mH : Meth K CW "_change" fH) (bH : Binds K dH ["self", "name", "value", "kind"] []) :
    FnOk P w K mg base (L2.CX P w) 6 f fd ["self", "name", "value"] (spWPut K CW CK C CF CL R "table") := by
  refine F.okX scWPut (fun vs H Q E h => ?_) (fun cdv A outer s H vs Q E hr h => ?_)
  · obtain ⟨a, bb, v0, v1, cells, fs, st, rfl, _⟩ := h
    rfl
  · obtain ⟨a, bb, v0, v1, cells, fs, st, rfl, hW, bad⟩ := h
    refine ⟨_, pss_one (ps_expr (pe_meth (E := E) (pv 0) WK.cl mH GH hr bH .nil (passes_call (takes_of rfl rfl rfl rfl) (fun _ _ _ _ h => h)) (pa_cons (pv 1) (pa_cons (pv 2) (pa_cons pe_str pa_nil))))), ?_⟩
    obtain ⟨dx, t, ca, cl, ea, _⟩ := id hW
    exact ⟨.ref a, rfl, a, dx, _, rfl, ea, rfl, v0, rfl, v1, rfl, a, bb, v0, v1, _, cells, fs, st, rfl, hW, bad⟩
theorem ok_wasg {CW CK C CF CL f fH : Addr} {R : Ers} {fd dH : FuncData} (F : Fun K "assign" "World.assign" sWAsg f fd) (WK : WorK K CW) (GH : FnOk P w K mg base (L2.CX P w) 5 fH dH ["self", "name", "value", "kind"] (spWCh K CW CK C CF CL R)) (mH : Meth K CW "_change" fH) (bH : Binds K dH ["self", "name", "value", "kind"] []) :
    FnOk P w K mg base (L2.CX P w) 6 f fd ["self", "name", "value"] (spWPut K CW CK C CF CL R "setting") := by
  refine F.okX scWAsg (fun vs H Q E h => ?_) (fun cdv A outer s H vs Q E hr h => ?_)
  · obtain ⟨a, bb, v0, v1, cells, fs, st, rfl, _⟩ := h
    rfl
  · obtain ⟨a, bb, v0, v1, cells, fs, st, rfl, hW, bad⟩ := h
    refine ⟨_, pss_cons (ps_expr (pe_meth (E := E) (pv 0) WK.cl mH GH hr bH .nil (passes_call (takes_of rfl rfl rfl rfl) (fun _ _ _ _ h => h)) (pa_cons (pv 1) (pa_cons (pv 2) (pa_cons pe_str pa_nil))))) (pss_one ps_dead), ?_⟩
    obtain ⟨dx, t, ca, cl, ea, _⟩ := id hW
    exact ⟨.ref a, rfl, a, dx, _, rfl, ea, rfl, v0, rfl, v1, rfl, a, bb, v0, v1, _, cells, fs, st, rfl, hW, bad⟩
theorem ok_wi {CW CG CK C CF CL f fG fA fL fC1 fC2 fV fI : Addr} {R : Ers} {fd dG dA dL dC1 dC2 dV dI : FuncData} (F : Fun K "__init__" "World.__init__" sWorI f fd) (M : Blt mg) (WK : WorK K CW) (B : BkUse P w K mg base CK C CF CL R fG fA fL fC1 fC2 dG dA dL dC1 dC2)
    (GV : FnOk P w K mg base CX0 2 fV dV ["book", "state"] (spVI K CK C CF CL)) (kV : PySem.W.keepIn K (.ref fV) = true) (bV : Binds K dV ["book", "state"] []) (gV : mg "values_in" = some (.ref fV))
    (mk : Mk K CG fI) (gC : mg "Calling" = some (.ref CG)) (GI : FnOk P w K mg base CX0 4 fI dI ["self", "book", "view"] (spCalI K CG CK C CF CL)) (bI : Binds K dI ["self", "book", "view"] []) : FnOk P w K mg base (L2.CX P w) 6 f fd ["self", "book", "state"] (spWI K CW CK C CF CL R.S) := by
  refine F.okX scWorI (fun vs H Q E h => ?_) (fun cdv A outer s H vs Q E hr h => ?_)
  · obtain ⟨a, dx, bb, v, cells, fs, H0, rfl, _⟩ := h
    rfl
  · obtain ⟨a, dx, bb, v, cells, fs, H0, rfl, ea, s0, n0, hB0, nc, lc, way⟩ := h
    refine ⟨_, pss_cons (ps_expr (pe_call (E := E) B.cs (hr.mono (by decide)) (by rfl) B.g2 B.k2 B.b2 .nil (passes_call (takes_of rfl rfl rfl rfl) (fun _ _ _ _ h => h)) (pa_cons (pe_meth0 (E := E0) (pv 1) B.bk.cl B.mA B.all (hr.mono (by decide)) B.bA .nil pass0) (pa_cons (pv 2) pa_nil))))
      (pss_cons (ps_fld (pv 0) (pv 1) (by rfl)) (pss_cons (ps_fld (pv 0) (pe_call (E := E0) GV (hr.mono (by decide)) (by rfl) gV kV bV .nil pass0 (pa_cons (pv 1) (pa_cons (pv 2) pa_nil))) (by rfl)) (pss_cons (ps_fld (pv 0) (pe_fld (pv 0) (by rfl)) (by rfl))
      (pss_cons (ps_fld (pv 0) (pe_make (E := E0) (dvs := []) mk GI (hr.mono (by decide)) (by rfl) gC bI .nil pass0 (pa_cons (pv 1) (pa_cons (pe_fld (pv 0) (by rfl)) pa_nil))) (by rfl)) (pss_one (ps_fld (pv 0) (pe_lst pa_nil) (by rfl))))))), ?_⟩
    have hB := hB0.same s0
    obtain ⟨dB, tB1, tB2, DB, xsB, ysB, eB, _⟩ := id hB
    refine ⟨.ref bb, rfl, bb, dB, _, rfl, eB, rfl, bb, cells, fs, rfl, hB, fun l xs H1 s1 nl el rX => ⟨v, rfl, l, v, xs, cells, rfl, el, rX, nc, by omega, ?_⟩⟩
    rcases way with ⟨x, hb, wish⟩ | ⟨st, hg, q⟩
    · exact .inl ⟨x, hb.same (s0.trans s1), fun H2 dd H' s2 lf => wish _ dd H' (s1.trans s2) lf⟩
    · refine .inr ⟨st, hg.same (s0.trans s1), fun H2 s2 => ?_⟩
      have s02 : Same H0 H2 := s0.trans (s1.trans s2)
      have e2 : H2 a = some (.ins CW dx []) := s2 _ _ (s1 _ _ ea)
      obtain ⟨g, rfl, eg, sl, h3⟩ := hg
      refine ⟨.ref bb, rfl, .ref a, rfl, a, CW, dx, [], rfl, e2, WK.cl, WK.n1, (by decide), ?_⟩
      have s3 : Same H0 (upd H2 a (.ins CW dx (putF "_book" (.ref bb) []))) := but_new_same s02 n0 But.upd
      have e3 : (upd H2 a (.ins CW dx (putF "_book" (.ref bb) []))) a = some (.ins CW dx [("_book", .ref bb)]) := upd_same
      generalize upd H2 a (.ins CW dx (putF "_book" (.ref bb) [])) = H3 at s3 e3
      refine ⟨.ref bb, rfl, .ref g, rfl, bb, g, cells, fs, st, rfl, hB0.same s3, nc, s3 _ _ eg, sl, fun t H4 s4 ht => ⟨.ref a, rfl, a, CW, dx, _, rfl, s4 _ _ e3, WK.cl, WK.n2, (by show 1 < 1000; decide), ?_⟩⟩
      have s5 : Same H0 (upd H4 a (.ins CW dx (putF "_state" (.ref t) [("_book", .ref bb)]))) := but_new_same (s3.trans s4) n0 But.upd
      have e5 : (upd H4 a (.ins CW dx (putF "_state" (.ref t) [("_book", .ref bb)]))) a = some (.ins CW dx [("_book", .ref bb), ("_state", .ref t)]) := upd_same
      have t5 : SqT K (upd H4 a (.ins CW dx (putF "_state" (.ref t) [("_book", .ref bb)]))) t (st.map V.int) := sqT_aside (s4 _ _ e3) (fun b o e n => by rw [upd_ne n]; exact e) ht
      generalize upd H4 a (.ins CW dx (putF "_state" (.ref t) [("_book", .ref bb)])) = H5 at s5 e5 t5
      refine ⟨.ref a, rfl, a, CW, dx, _, .ref t, rfl, e5, WK.cl, WK.n2, rfl, .ref a, rfl, a, CW, dx, _, rfl, e5, WK.cl, WK.n3, (by show 2 < 1000; decide), ?_⟩
      have s6 : Same H0 (upd H5 a (.ins CW dx (putF "_view" (.ref t) [("_book", .ref bb), ("_state", .ref t)]))) := but_new_same s5 n0 But.upd
      have e6 : (upd H5 a (.ins CW dx (putF "_view" (.ref t) [("_book", .ref bb), ("_state", .ref t)]))) a = some (.ins CW dx [("_book", .ref bb), ("_state", .ref t), ("_view", .ref t)]) := upd_same
      have t6 : SqT K (upd H5 a (.ins CW dx (putF "_view" (.ref t) [("_book", .ref bb), ("_state", .ref t)]))) t (st.map V.int) := sqT_aside e5 (fun b o e n => by rw [upd_ne n]; exact e) t5
      generalize upd H5 a (.ins CW dx (putF "_view" (.ref t) [("_book", .ref bb), ("_state", .ref t)])) = H6 at s6 e6 t6
      refine ⟨.ref bb, rfl, .ref a, rfl, a, CW, dx, _, .ref t, rfl, e6, WK.cl, WK.n3, rfl, fun r dr nr nd ne => ?_⟩
      have m1 := made_same (C := CG) nr nd
      refine ⟨r, dr, bb, .ref t, cells, fs, H6, rfl, upd_same, m1, nr, hB0.same s6, nc, lc, fun H7 s7 => ⟨rfl, .ref a, rfl, a, CW, dx, _, rfl, s7 _ _ e6, WK.cl, WK.n4, (by show 3 < 1000; decide), ?_⟩⟩
      have s8 : Same H0 (upd H7 a (.ins CW dx (putF "_calling" (.ref r) [("_book", .ref bb), ("_state", .ref t), ("_view", .ref t)]))) := but_new_same (s6.trans s7) n0 But.upd
      have e8 : (upd H7 a (.ins CW dx (putF "_calling" (.ref r) [("_book", .ref bb), ("_state", .ref t), ("_view", .ref t)]))) a = some (.ins CW dx [("_book", .ref bb), ("_state", .ref t), ("_view", .ref t), ("_calling", .ref r)]) := upd_same
      have t8 : SqT K (upd H7 a (.ins CW dx (putF "_calling" (.ref r) [("_book", .ref bb), ("_state", .ref t), ("_view", .ref t)]))) t (st.map V.int) := sqT_aside (s7 _ _ e6) (fun b o e n => by rw [upd_ne n]; exact e) (same_sqT s7 t6)
      generalize upd H7 a (.ins CW dx (putF "_calling" (.ref r) [("_book", .ref bb), ("_state", .ref t), ("_view", .ref t)])) = H8 at s8 e8 t8
      refine ⟨by show 0 ≤ sizeLine; decide, fun c nc' => ⟨.ref a, rfl, a, CW, dx, _, rfl, same_upd nc' _ _ e8, WK.cl, WK.n5, (by show 4 < 1000; decide), ?_⟩⟩
      have s9 := same_upd (o := HO.lst []) nc'
      have nca : c ≠ a := (ne_of_none e8 nc').symm
      have s10 : Same H0 (upd (upd H8 c (.lst [])) a (.ins CW dx (putF "_calls" (.ref c) [("_book", .ref bb), ("_state", .ref t), ("_view", .ref t), ("_calling", .ref r)]))) := but_new_same (s8.trans s9) n0 But.upd
      exact q _ s10 ⟨dx, t, r, c, upd_same, hB0.same s10, sqT_aside (s9 _ _ e8) (fun b o e n => by rw [upd_ne n]; exact e) (same_sqT s9 t8), by rw [upd_ne nca]; exact upd_same, sl, nc⟩
theorem ok_ra {CK C CF CL f fG fA fL fC1 fC2 fW fE : Addr} {R : Ers} {fd dG dA dL dC1 dC2 dW dE : FuncData} (D : FunD K "run_alone" "run_alone" (defArgs sRA) (defBody sRA) (defScope sRA) [] [("tick", .int 0)] f fd) (M : Blt mg) (B : BkUse P w K mg base CK C CF CL R fG fA fL fC1 fC2 dG dA dL dC1 dC2)
    (TE : ErrT K mg "BadTick" "value" R.T fE) (GE : FnOk P w K mg base CX0 1 fE dE ["self", "value"] (spErr R.T "value")) (bE : Binds K dE ["self", "value"] [])
    (GW : FnOk P w K mg base CX0 1 fW dW ["value"] (spB K isWhole)) (kW : PySem.W.keepIn K (.ref fW) = true) (bW : Binds K dW ["value"] []) (gW : mg "is_whole" = some (.ref fW)) : FnOk P w K mg base (L2.CX P w) 6 f fd ["book", "name", "arguments", "state", "tick"] (spRA K CK C CF CL R) := by
  refine D.ok scRA (fun vs H Q E h => ?_) (fun cdv A outer s H vs Q E hr h => ?_)
  · obtain ⟨bb, v0, v1, v2, v3, cells, fs, rfl, _⟩ := h
    rfl
  · obtain ⟨bb, v0, v1, v2, v3, cells, fs, rfl, hB, nc, k, fe, x, bad, wish⟩ := h
    have one : (1 : Nat) ≤ 1000 := by decide
    refine ⟨_, pss_cons (ps_expr (pe_call (E := E) B.ca (hr.mono (by decide)) (by rfl) B.g1 B.k1 B.b1 .nil (passes_call (takes_of rfl rfl rfl rfl) (fun _ _ _ _ h => h)) (pa_cons (pe_ownSub (E := E) B.get (hr.mono (by decide)) (passes_call (takes_of rfl rfl rfl rfl) (fun _ _ _ _ h => h)) (pv 0) (pv 1) (fun _ _ => rfl)) (pa_cons (pv 2) pa_nil))))
      (pss_cons (ps_expr (pe_call (E := E) B.cs (hr.mono (by decide)) (by rfl) B.g2 B.k2 B.b2 .nil (passes_call (takes_of rfl rfl rfl rfl) (fun _ _ _ _ h => h)) (pa_cons (pe_meth0 (E := E0) (pv 0) B.bk.cl B.mA B.all (hr.mono (by decide)) B.bA .nil pass0) (pa_cons (pv 3) pa_nil))))
      (pss_cons (ps_if (PW.pt (pw_or (pt_not (pt_val (pe_call (E := E0) GW (hr.mono (by decide)) (by rfl) gW kW bW .nil pass0 (pa_cons (pv 4) pa_nil)))) (pw_or1 (pt_cmpR op_lt (pv 4) pe_int (nomark _)))))
        (pss_one (ps_raise rfl (takes_of rfl rfl rfl rfl) (pmk_oex (k := 1) (ps := ["self", "value"]) (sp := spErr R.T "value") (ds := []) (dvs := []) TE.oex TE.ini TE.typ GE (hr.mono (by decide)) bE .nil pass0 (by rfl) TE.nam (pa_cons (pv 4) pa_nil)))) pss_nil)
      (pss_cons ps_dead (pss_cons ps_dead (pss_one ps_dead))))), ?_⟩
    obtain ⟨dB, tB1, tB2, DB, xsB, ysB, eB, _⟩ := id hB
    rcases bad with (⟨d, hd, no, rfl, rfl, rfl⟩ | ⟨d, F, hd, yes, ⟨o, many, ho, hl, har, hb⟩, rfl, rfl, rfl⟩) | ⟨d, F, hd, yes, ⟨o, many, ho, hl, har, hb⟩, way⟩
    · exact ⟨.ref bb, rfl, x, rfl, bb, dB, _, rfl, eB, bb, x, d, cells, fs, rfl, hB, hd, get_none no wish⟩
    · exact ⟨.ref bb, rfl, v0, rfl, bb, dB, _, rfl, eB, bb, v0, d, cells, fs, rfl, hB, hd, get_some yes fun g hg => ⟨x, rfl, g, x, o, F, many, rfl, hg, har, ho, hl, fun z => absurd (hb.symm.trans z) (by decide), fun _ => wish⟩⟩
    · refine ⟨.ref bb, rfl, v0, rfl, bb, dB, _, rfl, eB, bb, v0, d, cells, fs, rfl, hB, hd, get_some yes fun g hg => ⟨v1, rfl, g, v1, o, F, many, rfl, hg, har, ho, hl, fun _ H1 s1 => ?_, fun z => absurd (hb.symm.trans z) (by decide)⟩⟩
      have hB1 := hB.same s1
      refine ⟨.ref bb, rfl, bb, dB, _, rfl, s1 _ _ eB, rfl, bb, cells, fs, rfl, hB1, fun l xs H2 s2 nl el rX => ⟨v2, rfl, l, v2, xs, cells, rfl, el, rX, nc, ?_, ?_⟩⟩
      · obtain ⟨_, _, _, _, _, _, _, _, _, _, _, _, l6, _⟩ := hB
        exact l6
      · rcases way with ⟨hs, rfl, rfl⟩ | ⟨st, d3, hg3, hd3, hz, ht, rfl, rfl, rfl⟩
        · exact .inl ⟨x, hs.same (s1.trans s2), fun H3 dd H' s3 lf => wish _ dd H' ((s1.trans s2).trans s3) lf⟩
        · refine .inr ⟨st, hg3.same (s1.trans s2), fun H3 s3 => ?_⟩
          have t3 := (s1.trans s2).trans s3
          refine ⟨x, rfl, x, d3, rfl, dp_same t3 hd3, hz, fun H4 s4 => ⟨_, rfl, ?_⟩⟩
          cases hw : isWhole d3 with
          | false => exact iteT ⟨x, rfl, one, mk_left fun dd H' lf => wish _ dd H' (t3.trans s4) lf⟩
          | true =>
            refine iteF ?_
            cases hd3 with
            | int i =>
              have neg : i < 0 := by
                have := of_decide_eq_false (show decide (0 ≤ i) = false from ht)
                omega
              exact ⟨.int i, rfl, i, 0, rfl, rfl, _, rfl, iteT' (decide_eq_true neg) ⟨.int i, rfl, one, mk_left fun dd H' lf => wish _ dd H' (t3.trans s4) lf⟩⟩
            | _ => cases hw
end
/-! ### what the law is told -/
structure Shown (d : PyData) : Prop where
  sh : d.showable = true
  nd : d.hasDict = false
  dp : d.depth ≤ 60
  sz : d.shown.length ≤ sizeLine
/-- repr of x is z -/
def ShAt (K : PySem.W.Frag) (H : Hp) (x : V) (z : Str) : Prop := (∃ d, Dp K H x d ∧ Shown d ∧ z = d.shown) ∨ (∃ g, x = .ref g ∧ H g = some (.dK []) ∧ z = "{}")
theorem ShAt.same {K : PySem.W.Frag} {H H' : Hp} {x : V} {z : Str} (h : ShAt K H x z) (s : Same H H') : ShAt K H' x z := by
  rcases h with ⟨d, hd, r⟩ | ⟨g, e, eg, r⟩
  · exact .inl ⟨d, dp_same s hd, r⟩
  · exact .inr ⟨g, e, s _ _ eg, r⟩
def rReprO (K : PySem.W.Frag) : List V → Hp → VK → Prop := fun xs H Q => ∃ (x : V) (z : Str), xs = [x] ∧ ShAt K H x z ∧ Q (.str z) H
theorem call_reprO {X : Cx} (gu : X.A.guards = some []) (un : X.A.units + 100 < cLine) : CallR X (.builtin "repr") (rReprO X.K) := by
  intro pins s σ H xs us Q I r h
  obtain ⟨x, z, rfl, ⟨d, hd, sh, rfl⟩ | ⟨g, rfl, eg, rfl⟩, q⟩ := h
  · exact call_reprD gu un pins s σ H [x] us Q I r ⟨x, d, rfl, hd, sh.sh, sh.nd, sh.dp, sh.sz, q⟩
  · obtain ⟨u, rfl, ru⟩ := r.one
    cases (show u = Value.ref g from ru)
    obtain ⟨_, low, vs, kv, ob, es, ep, e, ex, ed, _, pr, _⟩ := I.hok g _ eg
    cases kv
    have ee : es.toList = [] := by
      generalize es.toList = q at pr
      cases pr
      rfl
    have R : Reads s.heap (.ref g) (.dict []) [g] := .dict (as := []) (bs := []) e ex.1 ed (by rw [ee]; exact .nil) (by rw [ee]; exact .nil)
    have sz : (PyData.shown (.dict [])).length ≤ sizeLine := by decide +kernel
    have es : PyData.shown (.dict []) = "{}" := by kernel_rfl
    refine repr_of_reads' R (by decide +kernel) (fun _ m => ?_) gu (by show X.A.units + (0 + 1 + 1) < cLine; omega) (fun _ _ e => e) (fun h' t tk k => ⟨.str _, H, I.kept (t' := tk) k, ⟨t, rfl⟩, by rw [es]; exact q⟩) sz
    rw [List.mem_singleton] at m
    rw [← m] at low
    cases (beq_self_eq_true sysModules).symm.trans low
/-- what the law calls: the way, the thing, the values; what it is refused for -/
def Way (K : PySem.W.Frag) (H : Hp) (CW CK C CF CL : Addr) (R : Ers) (way : Nat) (thing : V) (xs : List V) (k : Addr) (f : Str) (x : V) : Prop :=
  (way = 0 ∧ ∃ bb v0 v1 v2 v3 cells fs, thing = .ref bb ∧ xs = [v0, v1, v2, v3] ∧ BookAt K H CK C CF CL bb cells fs ∧ (cells.map (·.1)).Nodup ∧ RunBad K H cells fs R v0 v1 v2 v3 k f x) ∨
  (way = 1 ∧ ∃ bb v cells fs, thing = .ref bb ∧ xs = [v] ∧ BookAt K H CK C CF CL bb cells fs ∧ (cells.map (·.1)).Nodup ∧ cells.length ≤ 3 ∧ StBad K H cells v x ∧ k = R.S ∧ f = "name") ∨
  (way = 2 ∧ ∃ a bb v0 v1 cells fs st, thing = .ref a ∧ xs = [v0, v1] ∧ WorldAt K H CW CK C CF CL a bb cells fs st ∧ CallBad K H fs R v0 v1 k f x) ∨
  (way = 3 ∧ ∃ a bb v0 v1 cells fs st, thing = .ref a ∧ xs = [v0, v1] ∧ WorldAt K H CW CK C CF CL a bb cells fs st ∧ ChBad K H cells R "table" v0 v1 k f x) ∨
  (way = 4 ∧ ∃ a bb v0 v1 cells fs st, thing = .ref a ∧ xs = [v0, v1] ∧ WorldAt K H CW CK C CF CL a bb cells fs st ∧ ChBad K H cells R "setting" v0 v1 k f x)
/-- what is told of it -/
def Tell (K : PySem.W.Frag) (H : Hp) (R : Ers) (k : Addr) (f : Str) (x : V) (ys : List Str) : Prop :=
  (k = R.U ∧ f = "name" ∧ ∃ z, ShAt K H x z ∧ ys = (["name", z] : List Str)) ∨ (k = R.A ∧ f = "arguments" ∧ ∃ z, ShAt K H x z ∧ ys = (["arguments", z] : List Str)) ∨ (k = R.S ∧ f = "name" ∧ ∃ z, ShAt K H x z ∧ ys = (["state", z] : List Str)) ∨ (k = R.T ∧ f = "value" ∧ ∃ z, ShAt K H x z ∧ ys = (["tick", z] : List Str)) ∨ (k = R.P ∧ f = "part" ∧ ∃ z, x = .str z ∧ ys = (["part", z] : List Str))
abbrev sLC : Stmt := topS 74
theorem scLC : FnScope ["_law_way", "_law_thing", "_law_some"] ["_law_way", "_law_thing", "_law_some"] (defScope sLC) := ⟨rfl, rfl, rfl, by decide +kernel, rfl, by decide +kernel, by decide +kernel⟩
abbrev sTold : Stmt := topS 75
theorem scTold : FnScope ["_law_way", "_law_thing", "_law_some", "e"] ["_law_way", "_law_thing", "_law_some"] (defScope sTold) := ⟨rfl, rfl, rfl, by decide +kernel, rfl, by decide +kernel, by decide +kernel⟩
def spLC (K : PySem.W.Frag) (CW CK C CF CL : Addr) (R : Ers) : Sp := fun vs H _ E => ∃ (way : Nat) (thing : V) (p : Addr) (xs : List V), vs = [.int way, thing, .ref p] ∧ SqL K H p xs ∧ ∃ k f x, Way K H CW CK C CF CL R way thing xs k f x ∧ EWish H k f x E
def spTold (K : PySem.W.Frag) (CW CK C CF CL : Addr) (R : Ers) : Sp := fun vs H Q _ => ∃ (way : Nat) (thing : V) (p : Addr) (xs : List V), vs = [.int way, thing, .ref p] ∧ SqL K H p xs ∧ ∃ k f x ys, Way K H CW CK C CF CL R way thing xs k f x ∧ Tell K H R k f x ys ∧ ∀ l H', Same H H' → H' l = some (.lst (ys.map V.str)) → Q (.ref l) H'
/-- what the law's clauses want of the errors -/
structure ErrX (K : PySem.W.Frag) (mg : Str → Option Value) (R : Ers) : Prop where
  gU : mg "UnknownName" = some (.ref R.U)
  gA : mg "BadArguments" = some (.ref R.A)
  gS : mg "BadState" = some (.ref R.S)
  gT : mg "BadTick" = some (.ref R.T)
  gP : mg "BadPart" = some (.ref R.P)
  xU : XfC K R.U
  xA : XfC K R.A
  xS : XfC K R.S
  xT : XfC K R.T
  xP : XfC K R.P
  nU : PySem.W.findIn K (.ref R.U) "name" = some none
  nA : PySem.W.findIn K (.ref R.A) "arguments" = some none
  nS : PySem.W.findIn K (.ref R.S) "name" = some none
  nT : PySem.W.findIn K (.ref R.T) "value" = some none
  nP : PySem.W.findIn K (.ref R.P) "part" = some none
  uu : PySem.W.exmOne K (.ref R.U) (.ref R.U) = some true
  au : PySem.W.exmOne K (.ref R.A) (.ref R.U) = some false
  aa : PySem.W.exmOne K (.ref R.A) (.ref R.A) = some true
  su : PySem.W.exmOne K (.ref R.S) (.ref R.U) = some false
  sa : PySem.W.exmOne K (.ref R.S) (.ref R.A) = some false
  ss : PySem.W.exmOne K (.ref R.S) (.ref R.S) = some true
  tu : PySem.W.exmOne K (.ref R.T) (.ref R.U) = some false
  ta : PySem.W.exmOne K (.ref R.T) (.ref R.A) = some false
  ts : PySem.W.exmOne K (.ref R.T) (.ref R.S) = some false
  tt : PySem.W.exmOne K (.ref R.T) (.ref R.T) = some true
  pu : PySem.W.exmOne K (.ref R.P) (.ref R.U) = some false
  pa : PySem.W.exmOne K (.ref R.P) (.ref R.A) = some false
  ps : PySem.W.exmOne K (.ref R.P) (.ref R.S) = some false
  pt : PySem.W.exmOne K (.ref R.P) (.ref R.T) = some false
  pp : PySem.W.exmOne K (.ref R.P) (.ref R.P) = some true
section
variable {P : Program} {w : World} {K : PySem.W.Frag} {mg : Str → Option Value} {base : Heap}
theorem ok_lc {CW CK C CF CL f fA fI fC fP fG : Addr} {R : Ers} {fd dA dI dC dP dG : FuncData} (F : Fun K "_law_call" "_law_call" sLC f fd) (WK : WorK K CW)
    (GA : FnOk P w K mg base (L2.CX P w) 6 fA dA ["book", "name", "arguments", "state", "tick"] (spRA K CK C CF CL R)) (kA : PySem.W.keepIn K (.ref fA) = true) (gA : mg "run_alone" = some (.ref fA)) (nA : KBn K dA ["book", "name", "arguments", "state", "tick"] 4 ["tick"] (fun us ws => us ++ ws) (fun vs zs => vs ++ zs))
    (mk : Mk K CW fI) (gW : mg "World" = some (.ref CW)) (GI : FnOk P w K mg base (L2.CX P w) 6 fI dI ["self", "book", "state"] (spWI K CW CK C CF CL R.S)) (bI : Binds K dI ["self", "book", "state"] [])
    (GC : FnOk P w K mg base (L2.CX P w) 6 fC dC ["self", "name", "arguments"] (spWCall K CW CK C CF CL R)) (mC : Meth K CW "call" fC) (bC : Binds K dC ["self", "name", "arguments"] [])
    (GP : FnOk P w K mg base (L2.CX P w) 6 fP dP ["self", "name", "value"] (spWPut K CW CK C CF CL R "table")) (mP : Meth K CW "put" fP) (bP : Binds K dP ["self", "name", "value"] [])
    (GG : FnOk P w K mg base (L2.CX P w) 6 fG dG ["self", "name", "value"] (spWPut K CW CK C CF CL R "setting")) (mG : Meth K CW "assign" fG) (bG : Binds K dG ["self", "name", "value"] []) : FnOk P w K mg base (L2.CX P w) 8 f fd ["_law_way", "_law_thing", "_law_some"] (spLC K CW CK C CF CL R) := by
  refine F.okX scLC (fun vs H Q E h => ?_) (fun cdv A outer s H vs Q E hr h => ?_)
  · obtain ⟨way, thing, p, xs, rfl, _⟩ := h
    rfl
  · obtain ⟨way, thing, p, xs, rfl, hS, k, fe, x, hw, wish⟩ := h
    have hr6 : ∀ {n}, n ≤ 7 → Room n (A.deeper (envOfC "_law_call" (defScope sLC) s.heap.objs.size f cdv)) := fun h => hr.mono h
    refine ⟨_, pss_one (ps_if (pt_cmpR op_eq (pv 0) pe_int (nomark _))
        (pss_one (ps_expr (pe_callN (E := E) GA (hr6 (by decide)) (by rfl) gA kA nA (passes_call (takes_of rfl rfl rfl rfl) (fun _ _ _ _ h => h)) (pa_cons (pv 1) (pa_cons (pe_ix ix_list (pv 2) pe_int (fun _ _ => rfl)) (pa_cons (pe_ix ix_list (pv 2) pe_int (fun _ _ => rfl)) (pa_cons (pe_ix ix_list (pv 2) pe_int (fun _ _ => rfl)) pa_nil)))) (pk_cons (pe_ix ix_list (pv 2) pe_int (fun _ _ => rfl)) pk_nil))))
      (pss_one (ps_if (pt_cmpR op_eq (pv 0) pe_int (nomark _)) (pss_one (ps_expr (pe_make (E := E) (dvs := []) mk GI (hr6 (by decide)) (by rfl) gW bI .nil (passes_call (takes_of rfl rfl rfl rfl) (fun _ _ _ _ h => h)) (pa_cons (pv 1) (pa_cons (pe_ix ix_list (pv 2) pe_int (fun _ _ => rfl)) pa_nil)))))
      (pss_one (ps_if (pt_cmpR op_eq (pv 0) pe_int (nomark _)) (pss_one (ps_expr (pe_meth (E := E) (pv 1) WK.cl mC GC (hr6 (by decide)) bC .nil (passes_call (takes_of rfl rfl rfl rfl) (fun _ _ _ _ h => h)) (pa_cons (pe_ix ix_list (pv 2) pe_int (fun _ _ => rfl)) (pa_cons (pe_ix ix_list (pv 2) pe_int (fun _ _ => rfl)) pa_nil)))))
      (pss_one (ps_if (pt_cmpR op_eq (pv 0) pe_int (nomark _)) (pss_one (ps_expr (pe_meth (E := E) (pv 1) WK.cl mP GP (hr6 (by decide)) bP .nil (passes_call (takes_of rfl rfl rfl rfl) (fun _ _ _ _ h => h)) (pa_cons (pe_ix ix_list (pv 2) pe_int (fun _ _ => rfl)) (pa_cons (pe_ix ix_list (pv 2) pe_int (fun _ _ => rfl)) pa_nil)))))
        (pss_one (ps_expr (pe_meth (E := E) (pv 1) WK.cl mG GG (hr6 (by decide)) bG .nil (passes_call (takes_of rfl rfl rfl rfl) (fun _ _ _ _ h => h)) (pa_cons (pe_ix ix_list (pv 2) pe_int (fun _ _ => rfl)) (pa_cons (pe_ix ix_list (pv 2) pe_int (fun _ _ => rfl)) pa_nil)))))))))))), ?_⟩
    rcases hw with ⟨rfl, bb, v0, v1, v2, v3, cells, fs, rfl, rfl, hB, nc, bad⟩ | ⟨rfl, bb, v, cells, fs, rfl, rfl, hB, nc, lc, bad, rfl, rfl⟩ | ⟨rfl, a, bb, v0, v1, cells, fs, st, rfl, rfl, hW, bad⟩ | ⟨rfl, a, bb, v0, v1, cells, fs, st, rfl, rfl, hW, bad⟩ | ⟨rfl, a, bb, v0, v1, cells, fs, st, rfl, rfl, hW, bad⟩
    · refine ⟨_, rfl, rfl, _, rfl, iteT' (decide_eq_true rfl) ?_⟩
      exact ⟨.ref bb, rfl, .ref p, rfl, p, _, 0, v0, rfl, rfl, hS, rfl, .ref p, rfl, p, _, 1, v1, rfl, rfl, hS, rfl, .ref p, rfl, p, _, 2, v2, rfl, rfl, hS, rfl, .ref p, rfl, p, _, 3, v3, rfl, rfl, hS, rfl, rfl, rfl, bb, v0, v1, v2, v3, cells, fs, rfl, hB, nc, k, fe, x, bad, wish⟩
    · refine ⟨_, rfl, rfl, _, rfl, iteF' (decide_eq_false (by decide)) ⟨_, rfl, rfl, _, rfl, iteT' (decide_eq_true rfl) ?_⟩⟩
      refine ⟨.ref bb, rfl, .ref p, rfl, p, _, 0, v, rfl, rfl, hS, rfl, fun a dx na nd ne => ?_⟩
      have m1 := made_same (C := CW) na nd
      exact ⟨a, dx, bb, v, cells, fs, H, rfl, upd_same, m1, na, hB, nc, lc, .inl ⟨x, bad, fun H1 dd H' s1 lf => wish _ dd H' (m1.trans s1) lf⟩⟩
    all_goals obtain ⟨dx, t, ca, cl, ea, _⟩ := id hW
    · refine ⟨_, rfl, rfl, _, rfl, iteF' (decide_eq_false (by decide)) ⟨_, rfl, rfl, _, rfl, iteF' (decide_eq_false (by decide)) ⟨_, rfl, rfl, _, rfl, iteT' (decide_eq_true rfl) ?_⟩⟩⟩
      exact ⟨.ref a, rfl, a, dx, _, rfl, ea, rfl, .ref p, rfl, p, _, 0, v0, rfl, rfl, hS, rfl, .ref p, rfl, p, _, 1, v1, rfl, rfl, hS, rfl, a, bb, v0, v1, cells, fs, st, rfl, hW, k, fe, x, bad, wish⟩
    · refine ⟨_, rfl, rfl, _, rfl, iteF' (decide_eq_false (by decide)) ⟨_, rfl, rfl, _, rfl, iteF' (decide_eq_false (by decide)) ⟨_, rfl, rfl, _, rfl, iteF' (decide_eq_false (by decide)) ⟨_, rfl, rfl, _, rfl, iteT' (decide_eq_true rfl) ?_⟩⟩⟩⟩
      exact ⟨.ref a, rfl, a, dx, _, rfl, ea, rfl, .ref p, rfl, p, _, 0, v0, rfl, rfl, hS, rfl, .ref p, rfl, p, _, 1, v1, rfl, rfl, hS, rfl, a, bb, v0, v1, cells, fs, st, rfl, hW, k, fe, x, bad, wish⟩
    · refine ⟨_, rfl, rfl, _, rfl, iteF' (decide_eq_false (by decide)) ⟨_, rfl, rfl, _, rfl, iteF' (decide_eq_false (by decide)) ⟨_, rfl, rfl, _, rfl, iteF' (decide_eq_false (by decide)) ⟨_, rfl, rfl, _, rfl, iteF' (decide_eq_false (by decide)) ?_⟩⟩⟩⟩
      exact ⟨.ref a, rfl, a, dx, _, rfl, ea, rfl, .ref p, rfl, p, _, 0, v0, rfl, rfl, hS, rfl, .ref p, rfl, p, _, 1, v1, rfl, rfl, hS, rfl, a, bb, v0, v1, cells, fs, st, rfl, hW, k, fe, x, bad, wish⟩
theorem ok_told {CW CK C CF CL f fC : Addr} {R : Ers} {fd dC : FuncData} (F : Fun K "_law_told" "_law_told" sTold f fd) (M : Blt mg) (GC : FnOk P w K mg base (L2.CX P w) 8 fC dC ["_law_way", "_law_thing", "_law_some"] (spLC K CW CK C CF CL R)) (kC : PySem.W.keepIn K (.ref fC) = true) (bC : Binds K dC ["_law_way", "_law_thing", "_law_some"] []) (gC : mg "_law_call" = some (.ref fC)) (X : ErrX K mg R) : FnG P w K mg base 9 f fd ["_law_way", "_law_thing", "_law_some"] (spTold K CW CK C CF CL R) := by
  refine Fun.okG F scTold (fun vs H Q h => ?_) (fun cdv A outer s H vs Q gu hr h => ?_)
  · obtain ⟨way, thing, p, xs, rfl, _⟩ := h
    rfl
  · obtain ⟨way, thing, p, xs, rfl, hS, k, fe, x, ys, hw, tell, q⟩ := h
    have un0 : (A.deeper (envOfC "_law_told" (defScope sTold) s.heap.objs.size f cdv)).units + 100 < cLine := by have := hr.un; omega
    refine ⟨_, pss_cons (ps_try_row (i := 3) (tb := fun W => tDrop (tCallS (spLC K CW CK C CF CL R) (WE W) (tCons (tVar 0) (tCons (tVar 1) (tCons (tVar 2) tNil))))) (Wout := fun _ _ _ _ => False) rfl rfl scTold.nd rfl rfl takes0
        (fun W pn xe tk _ => pss_one (ps_expr (pe_callS GC hr (by rfl) gC kC bC (fun σ => passAt tk σ) (pa_cons (pv 0) (pa_cons (pv 1) (pa_cons (pv 2) pa_nil))))))
        (.cons ⟨rfl, by decide, Or.inl X.gU⟩ (fun a oe k d pn hz hf => pss_one (ps_ret (pe_lst (pa_cons pe_str (pa_cons (pe_callB (id := "repr") (r := rReprO K) (call_reprO (by exact gu) (by exact un0)) (by rfl) M.repr (by decide +kernel) (pa_cons (pe_xf X.xU X.nU hz hf (pv 3)) pa_nil)) pa_nil))))) (.cons ⟨rfl, by decide, Or.inl X.gA⟩ (fun a oe k d pn hz hf => pss_one (ps_ret (pe_lst (pa_cons pe_str (pa_cons (pe_callB (id := "repr") (r := rReprO K) (call_reprO (by exact gu) (by exact un0)) (by rfl) M.repr (by decide +kernel) (pa_cons (pe_xf X.xA X.nA hz hf (pv 3)) pa_nil)) pa_nil)))))
        (.cons ⟨rfl, by decide, Or.inl X.gS⟩ (fun a oe k d pn hz hf => pss_one (ps_ret (pe_lst (pa_cons pe_str (pa_cons (pe_callB (id := "repr") (r := rReprO K) (call_reprO (by exact gu) (by exact un0)) (by rfl) M.repr (by decide +kernel) (pa_cons (pe_xf X.xS X.nS hz hf (pv 3)) pa_nil)) pa_nil))))) (.cons ⟨rfl, by decide, Or.inl X.gT⟩ (fun a oe k d pn hz hf => pss_one (ps_ret (pe_lst (pa_cons pe_str (pa_cons (pe_callB (id := "repr") (r := rReprO K) (call_reprO (by exact gu) (by exact un0)) (by rfl) M.repr (by decide +kernel) (pa_cons (pe_xf X.xT X.nT hz hf (pv 3)) pa_nil)) pa_nil)))))
        (.cons ⟨rfl, by decide, Or.inl X.gP⟩ (fun a oe k d pn hz hf => pss_one (ps_ret (pe_lst (pa_cons pe_str (pa_cons (pe_xf X.xP X.nP hz hf (pv 3)) pa_nil))))) .nil))))))
      (pss_one (ps_ret (pe_lst pa_nil))), ?_⟩
    have two : (2 : Nat) ≤ sizeLine := by decide
    refine ⟨.int way, rfl, thing, rfl, .ref p, rfl, way, thing, p, xs, rfl, hS, k, fe, x, hw, fun H1 dd H' s1 left => ?_⟩
    obtain ⟨_, s2, ed⟩ := left
    have s12 := s1.trans s2
    have fin : ∀ {l : Addr} {zs : List V}, H' l = none → zs = ys.map V.str → Q (.ref l) (upd H' l (.lst zs)) := fun {l zs} nl e => q l _ (s12.trans (same_upd nl)) (by rw [e]; exact upd_same)
    rcases tell with ⟨rfl, rfl, z, hz, rfl⟩ | ⟨rfl, rfl, z, hz, rfl⟩ | ⟨rfl, rfl, z, hz, rfl⟩ | ⟨rfl, rfl, z, hz, rfl⟩ | ⟨rfl, rfl, z, rfl, rfl⟩
    · exact ⟨true, X.uu, fun _ a na => ⟨.ref a, rfl, rfl, rfl, dd, _, x, rfl, ed, rfl, x, z, rfl, hz.same s12, two, fun l nl => fin nl rfl⟩, fun e => Bool.noConfusion e⟩
    · exact ⟨false, X.au, fun e => Bool.noConfusion e, fun _ => ⟨true, X.aa, fun _ a na => ⟨.ref a, rfl, rfl, rfl, dd, _, x, rfl, ed, rfl, x, z, rfl, hz.same s12, two, fun l nl => fin nl rfl⟩, fun e => Bool.noConfusion e⟩⟩
    · exact ⟨false, X.su, fun e => Bool.noConfusion e, fun _ => ⟨false, X.sa, fun e => Bool.noConfusion e, fun _ => ⟨true, X.ss, fun _ a na => ⟨.ref a, rfl, rfl, rfl, dd, _, x, rfl, ed, rfl, x, z, rfl, hz.same s12, two, fun l nl => fin nl rfl⟩, fun e => Bool.noConfusion e⟩⟩⟩
    · exact ⟨false, X.tu, fun e => Bool.noConfusion e, fun _ => ⟨false, X.ta, fun e => Bool.noConfusion e, fun _ => ⟨false, X.ts, fun e => Bool.noConfusion e, fun _ => ⟨true, X.tt, fun _ a na => ⟨.ref a, rfl, rfl, rfl, dd, _, x, rfl, ed, rfl, x, z, rfl, hz.same s12, two, fun l nl => fin nl rfl⟩, fun e => Bool.noConfusion e⟩⟩⟩⟩
    · exact ⟨false, X.pu, fun e => Bool.noConfusion e, fun _ => ⟨false, X.pa, fun e => Bool.noConfusion e, fun _ => ⟨false, X.ps, fun e => Bool.noConfusion e, fun _ => ⟨false, X.pt, fun e => Bool.noConfusion e, fun _ => ⟨true, X.pp, fun _ a na => ⟨.ref a, rfl, rfl, rfl, dd, _, .str z, rfl, ed, rfl, two, fun l nl => fin nl rfl⟩, fun e => Bool.noConfusion e⟩⟩⟩⟩⟩
end
/-! ### comparisons that find nothing unlike; odd values -/
def namesF (fs : List FX) : List Str := fs.map fun F => F.d.nm
theorem namesF_fx (fs : List FDr) : namesF (fs.map fxOf) = fs.map (·.nm) := by
  unfold namesF
  rw [List.map_map]
  rfl
theorem atName_nd {fs : List FX} (n : (namesF fs).Nodup) {F : FX} (h : F ∈ fs) : atName fs F.d.nm = some F := by
  have : ∀ l : List FX, (namesF l).Nodup → F ∈ l → atName l F.d.nm = some F := by
    refine fun l => snoc_ind (P := fun l => (namesF l).Nodup → F ∈ l → atName l F.d.nm = some F) (fun _ h => by cases h) (fun l G ih n h => ?_) l
    rw [atName_snoc]
    unfold namesF at n
    rw [List.map_append, List.nodup_append] at n
    rcases List.mem_append.mp h with h | h
    · rw [if_neg (fun e => n.2.2 _ (List.mem_map.mpr ⟨F, h, rfl⟩) _ (List.mem_singleton.mpr rfl) e.symm)]
      exact ih n.1 h
    · rw [List.mem_singleton.mp h, if_pos rfl]
  exact this fs n h
def NF (te : TE) (σ : L2.St) (H : Hp) : Prop := ∀ Q : VK, (∀ H', Same H H' → Q (.bl false) H') → te σ H Q
theorem nf_if {te : TE} {t1 t2 : TS} {D : Ends} {σ : L2.St} {H : Hp} (h : NF te σ H) (k : ∀ H', Same H H' → t2 D σ H') : tIfS (tTest te) t1 t2 D σ H := h _ fun H' s => ⟨false, rfl, iteF (k H' s)⟩
theorem nf_or {te : TE} {tb : TT} {t1 t2 : TS} {D : Ends} {σ : L2.St} {H : Hp} (h : NF te σ H) (k : ∀ H', Same H H' → tIfS tb t1 t2 D σ H') : tIfS (tOr (tTest te) tb) t1 t2 D σ H := h _ fun H' s => ⟨false, rfl, iteF (k H' s)⟩
theorem q_forD {K : PySem.W.Frag} {H : Hp} {ds : List PyData} {ta : TA} {σ : L2.St} {g : TG} {tb tz : TS} {D : Ends} (h : DatA K ta σ ds) (n : ds.length ≤ sizeLine) (Pv : Nat → L2.St → Hp → Hp → Prop) (h0 : ∀ G, Pv 0 σ G G) (hl : ∀ j σ' G H', Pv j σ' G H' → Same G H')
    (hs : ∀ G, Same H G → ∀ (j : Nat) x d σ' H', ds[j]? = some d → Dp K G x d → Pv j σ' G H' → g x σ' H' fun σ2 H2 => tb { ({ D with nx := tz D } : Ends) with nx := fun σ3 H3 => Pv (j + 1) σ3 G H3, ct := fun σ3 H3 => Pv (j + 1) σ3 G H3, bk := ({ D with nx := tz D } : Ends).nx } σ2 H2)
    (hd : ∀ G σ' H', Same H G → Pv ds.length σ' G H' → tz D σ' H') : tSeq (tFor (iList K (tLst ta)) g tb) tz D σ H := by
  unfold tSeq tFor iList
  refine lst_new h n H _ fun l us H' s e i => ⟨l, rfl, ⟨_, .inl (.inl e)⟩, ?_⟩
  exact for_list (K := K) (a := l) (xs := us) (D := { D with nx := tz D }) (fun j σ' H'' => Pv j σ' H' H'') (h0 H') (fun j σ' H'' _ w => .inl (.inl (hl _ _ _ _ w _ _ e))) (fun j x σ' H'' hx w => by
    obtain ⟨c, hc, hr⟩ := dpA_at i hx
    exact hs H' s j x c σ' H'' hc hr w) (fun σ' H'' w => hd H' σ' H'' s (dpA_len i ▸ w))
theorem atName_none {fs : List FX} {z : Str} (h : z ∉ namesF fs) : atName fs z = none := by
  cases e : atName fs z with
  | none => rfl
  | some F =>
    obtain ⟨e1, e2⟩ := atName_nm e
    exact absurd (List.mem_map.mpr ⟨F, e2, e1⟩) h
theorem cell_find {cells : List (Str × Str)} (n : (cells.map (·.1)).Nodup) {c : Str × Str} (h : c ∈ cells) : cells.find? (fun x => decide (x.1 = c.1)) = some c := by
  induction cells with
  | nil => cases h
  | cons a l ih =>
    rw [List.map_cons, List.nodup_cons] at n
    rcases List.mem_cons.mp h with rfl | h
    · rw [List.find?_cons_of_pos (by exact decide_eq_true rfl)]
    · rw [List.find?_cons_of_neg (by
        show ¬ decide (a.1 = c.1) = true
        rw [decide_eq_true_eq]
        exact fun e => n.1 (List.mem_map.mpr ⟨c, h, e.symm⟩))]
      exact ih n.2 h
theorem cell_none {cells : List (Str × Str)} {z : Str} (h : z ∉ cells.map (·.1)) : cells.find? (fun x => decide (x.1 = z)) = none :=
  List.find?_eq_none.mpr fun x hx => by
    show ¬ decide (x.1 = z) = true
    rw [decide_eq_true_eq]
    exact fun e => h (List.mem_map.mpr ⟨x, hx, e⟩)
def Strs (K : PySem.W.Frag) (tz : TE) (σ : L2.St) (H : Hp) (zs : List Str) : Prop := ∀ H1, Same H H1 → ∀ Q : VK, (∀ u H2, Same H1 H2 → Dp K H2 u (.list (zs.map PyData.str)) → Q u H2) → tz σ H1 Q
section
variable {K : PySem.W.Frag} {σ : L2.St} {H : Hp}
theorem strs_two {y z : Str} : Strs K (tLst (tCons (tC (.str y)) (tCons (tC (.str z)) tNil))) σ H [y, z] := fun H1 _ Q q => ⟨by show 2 ≤ sizeLine; decide, fun p np => q _ _ (same_upd np) (.lst (.inl (.inl upd_same)) (.cons (.str _) (.cons (.str _) .nil)))⟩
theorem strs_eqv (zs : List Str) (h : ∀ z ∈ zs, PyData.strOk z = true) : SeqAt.shaped (.list (zs.map PyData.str)) = true ∧ PyData.eqv (.list (zs.map PyData.str)) (.list (zs.map PyData.str)) = true := by
  have lay : PyData.canLayAll0 (zs.map PyData.str) = true := by
    induction zs with
    | nil => simp [PyData.canLayAll0]
    | cons z zs ih => simp [PyData.canLayAll0, PyData.canLay0, h z List.mem_cons_self, ih fun y hy => h y (List.mem_cons_of_mem _ hy)]
  have dep : PyData.depthAll (zs.map PyData.str) = 0 := by
    clear lay h
    induction zs with
    | nil => simp [PyData.depthAll]
    | cons z zs ih => simp [PyData.depthAll, PyData.depth, ih]
  have sh : SeqAt.shaped (.list (zs.map PyData.str)) = true := Bool.and_eq_true_iff.mpr ⟨by simp [PyData.canLay0, lay], decide_eq_true (by simp [PyData.depth, dep])⟩
  exact ⟨sh, SeqAt.eqv_refl _ (SeqAt.canLay_of_shaped sh)⟩
end
structure LFn (P : Program) (w : World) (K : PySem.W.Frag) (mg : Str → Option Value) (base : Heap) (x : Str) (n : Nat) (f : Addr) (fd : FuncData) (ps : List Str) (sp : Sp) : Prop where
  ok : FnOk P w K mg base CX0 n f fd ps sp
  k : PySem.W.keepIn K (.ref f) = true
  b : Binds K fd ps []
  g : mg x = some (.ref f)
/-! ### _law_state, _law_inputs -/
abbrev sLSt : Stmt := topS 73
theorem scLSt : FnScope ["_law_pool_here", "_law_b", "_law_cell"] ["_law_pool_here", "_law_b"] (defScope sLSt) := ⟨rfl, rfl, rfl, by decide +kernel, rfl, by decide +kernel, by decide +kernel⟩
/-- a drawn book stays while the pool is drawn from -/
theorem BkAt.pool {K : PySem.W.Frag} {H H' : Hp} {cells : List (Str × Str)} {fs : List FDr} {b p : Addr} (h : BkAt K cells fs H b) (hp : PoolAt H p) (bu : But p H H') : BkAt K cells fs H' b := by
  obtain ⟨c, f, ts, gs, e0, e1, e2, r1, r2⟩ := h
  obtain ⟨x, y, ep, _⟩ := hp
  have nb : b ≠ p := ne_of e0 ep (fun z => nomatch z)
  have noints : ∀ {l : Addr} {vs : List V}, H l = some (.lst vs) → (∀ (i : Nat) v, vs[i]? = some v → ∃ t, v = .ref t) → l ≠ p := fun {l vs} e h q => by
    rw [q, ep] at e
    obtain ⟨t, ht⟩ := h 0 (.int x) (by rw [← HO.lst.inj (Option.some.inj e)]; rfl)
    cases ht
  refine ⟨c, f, ts, gs, bu _ _ e0 nb, bu _ _ e1 (noints e1 fun i v hv => ?_), bu _ _ e2 (noints e2 fun i v hv => ?_), r1.mono fun v c h => cellT_of (fun _ _ => but_sqT ep bu) h, r2.mono fun v F h => ?_⟩
  · obtain ⟨cc, hcc⟩ : ∃ cc, cells[i]? = some cc := ⟨_, List.getElem?_eq_getElem (by rw [← r1.1]; exact (List.getElem?_eq_some_iff.mp hv).1)⟩
    obtain ⟨t, rfl, _⟩ := r1.2 i v cc hv hcc
    exact ⟨t, rfl⟩
  · obtain ⟨F, hF⟩ : ∃ F, fs[i]? = some F := ⟨_, List.getElem?_eq_getElem (by rw [← r2.1]; exact (List.getElem?_eq_some_iff.mp hv).1)⟩
    obtain ⟨g, _, _, rfl, _⟩ := r2.2 i v F hv hF
    exact ⟨g, rfl⟩
  · obtain ⟨g, vr, vw, rfl, eg, d1, d2, n1, n2⟩ := h
    exact ⟨g, vr, vw, rfl, bu _ _ eg (ne_of eg ep (fun z => nomatch z)), dp_tups (fun _ _ => but_sqT ep bu) _ _ n1 d1, dp_tups (fun _ _ => but_sqT ep bu) _ _ n2 d2, n1, n2⟩
def spLSt (K : PySem.W.Frag) : Sp := fun vs H Q _ => ∃ (p b : Addr) (cells : List (Str × Str)) (fs : List FDr), vs = [.ref p, .ref b] ∧ PoolAt H p ∧ BkAt K cells fs H b ∧ (cells.map (·.1)).Nodup ∧ cells.length ≤ 3 ∧ ∀ g (st : List Int) H', But p H H' → PoolAt H' p → H g = none → H' g = some (.dK (stK cells st)) → st.length = cells.length → Ok3 st → Q (.ref g) H'
theorem merge_stK : ∀ (cells : List (Str × Str)) (st : List Int) (pre : List (Str × Str)) (ps : List Int), ((pre ++ cells).map (·.1)).Nodup → ps.length = pre.length → st.length = cells.length → mergeK (stK pre ps) (stK cells st) = stK (pre ++ cells) (ps ++ st)
  | [], [], pre, ps, _, _, _ => by simp [mergeK, stK]
  | [], _ :: _, _, _, _, _, h => by simp at h
  | _ :: _, [], _, _, _, _, h => by simp at h
  | c :: cells, v :: st, pre, ps, n, l1, l2 => by
    have nc : c.1 ∉ pre.map (·.1) := fun m => by
      rw [List.map_append, List.nodup_append] at n
      exact n.2.2 _ m _ (by simp) rfl
    have step : mergeK (stK pre ps) (stK (c :: cells) (v :: st)) = mergeK (stK (pre ++ [c]) (ps ++ [v])) (stK cells st) := by
      rw [← stK_snoc l1 nc, stK_cons]
      rfl
    rw [step, merge_stK cells st (pre ++ [c]) (ps ++ [v]) (by rw [List.append_assoc]; exact n) (by rw [List.length_append, List.length_append, l1]; rfl) (Nat.succ.inj l2), List.append_assoc, List.append_assoc]
    rfl
section
variable {P : Program} {w : World} {K : PySem.W.Frag} {mg : Str → Option Value} {base : Heap}
theorem ok_lst {f fD : Addr} {fd dD : FuncData} (F : Fun K "_law_state" "_law_state" sLSt f fd) (M : Blt mg) (FD : Fun K "_law_draw" "_law_draw" sDraw fD dD) (bD : Binds K dD ["_law_pool_here", "_law_many"] []) (gD : mg "_law_draw" = some (.ref fD)) : FnOk P w K mg base CX0 2 f fd ["_law_pool_here", "_law_b"] (spLSt K) := by
  have GD : FnOk P w K mg base CX0 1 fD dD ["_law_pool_here", "_law_many"] spDraw := ok_draw FD M
  refine F.ok scLSt (fun vs H Q E h => ?_) (fun cdv A outer s H vs Q E hr h => ?_)
  · obtain ⟨p, b, cells, fs, rfl, _⟩ := h
    rfl
  · obtain ⟨p, b, cells, fs, rfl, hp, hb, nc, lc, q⟩ := h
    have hu := hu_of hr
    refine ⟨_, pss_one (ps_ret (pe_callTy (call_dictP rfl) (by rfl) M.dict (by decide +kernel) (pa_cons
      (pe_lc (own := [("_law_cell", 2)]) (g := gName 2) (wi := iList K (tDGet (tVar 1) (tC (.str "cells")))) (tt := tYes) (te := tTup (tCons (tOp (rIxT K) (tVar 2) (tC (.int 0))) (tCons (tCall spDraw [] E0 (tCons (tVar 0) (tCons (tC (.int 3)) tNil))) tNil))) (by rfl) scLSt.nd (pi_list (pe_dget hu (pv 1) pe_str (fun _ _ => rfl))) (blkOk_by (own := [("_law_cell", 2)]) (N := ["_law_pool_here", "_law_b", "_law_cell"]) (sc := defScope sLSt) (by decide +kernel))
        (fun _ _ _ _ _ => pg_name (i := 2) scLSt.nd rfl (Or.inl rfl)) (fun _ _ _ _ _ => pts_nil) (fun _ _ _ _ _ => pe_tup (pa_cons (pe_ix ix_tup (pv 2) pe_int (fun _ _ => rfl)) (pa_cons (pe_call GD hr (by rfl) gD FD.kp bD .nil pass0 (pa_cons (pv 0) (pa_cons pe_int pa_nil))) pa_nil)))) pa_nil))), ?_⟩
    obtain ⟨c, ff, ts, gs, e0, e1, e2, r1, r2⟩ := id hb
    refine ⟨.ref b, rfl, b, .ref c, rfl, dg e0 "cells" rfl, c, rfl, ⟨_, .inl (.inl e1)⟩, fun D hD => ?_⟩
    have sD : Same H (upd H D (.lst [])) := same_upd hD
    obtain ⟨px, py, ep, _⟩ := id hp
    have nDp : D ≠ p := (ne_of_none ep hD).symm
    have ncp : c ≠ p := fun q => by
      rw [q, ep] at e1
      have e := HO.lst.inj (Option.some.inj e1)
      obtain ⟨cc, hcc⟩ : ∃ cc, cells[0]? = some cc := ⟨_, List.getElem?_eq_getElem (by rw [← r1.1, ← e]; exact Nat.succ_pos _)⟩
      obtain ⟨t, ht, _⟩ := r1.2 0 (.int px) cc (by rw [← e]; rfl) hcc
      cases ht
    refine walk_gen (walk_list (K := K) (a := c) (xs := ts)) (fun i H' => But p H H' ∧ PoolAt H' p ∧ ∃ (ps : List Addr) (st : List Int), H' D = some (.lst (ps.map V.ref)) ∧ Paired (fun q (kv : Key × V) => SqT K H' q [kV kv.1, kv.2]) ps (stK (cells.take i) st) ∧ st.length = (cells.take i).length ∧ Ok3 st)
      ⟨But.of sD, hp.upd hD, [], [], upd_same, .nil, by rw [List.take_zero]; rfl, fun x hx => by cases hx⟩ (fun i H' _ w => .inl (.inl (w.1 _ _ e1 ncp))) (fun i x H3 H4 hi w y => ?_) (fun H3 w => ?_)
    · obtain ⟨b3, hp3, ps, st, eD, pr, ls, o3⟩ := w
      obtain ⟨rfl, hx⟩ := y
      obtain ⟨cc, hcc⟩ : ∃ cc, cells[i]? = some cc := ⟨_, List.getElem?_eq_getElem (by rw [← r1.1]; exact hi)⟩
      obtain ⟨t, rfl, ht⟩ := r1.2 i x cc hx hcc
      have il : i < 3 := by have := (List.getElem?_eq_some_iff.mp hcc).1; omega
      refine And.intro rfl ?_
      unfold tYes
      refine iteT ⟨.ref t, rfl, t, _, 0, .str cc.1, rfl, rfl, but_sqT ep b3 ht, atI_nat (j := 0) rfl, .ref p, rfl, p, 3, rfl, hp3, by decide, by decide, fun v H5 v0 v3 b5 hp5 f5 => ⟨by show 2 ≤ sizeLine; decide, fun u nu => ?_⟩⟩
      obtain ⟨qx, qy, ep3, _⟩ := id hp3
      have su := same_upd (o := HO.tup [V.str cc.1, .int v]) nu
      have eD5 := su _ _ (b5 _ _ eD nDp)
      have b35 : But p H4 (upd H5 u (.tup [V.str cc.1, .int v])) := fun a o e n => su _ _ (b5 _ _ e n)
      refine ⟨_, eD5, ?_, fun a o e n => ?_, ?_, ps ++ [u], st ++ [v], ?_, ?_, ?_, fun x hx => ?_⟩
      · rw [List.length_map, pr.length, stK_len ls, List.length_take]
        exact Nat.lt_of_le_of_lt (show _ ≤ 3 by omega) (by decide)
      · rw [upd_ne (ne_of_none e hD)]
        exact b35 _ _ (b3 _ _ e n) n
      · obtain ⟨x', y', e', r'⟩ := hp5.upd (o := HO.tup [V.str cc.1, .int v]) nu
        exact ⟨x', y', by rw [upd_ne nDp.symm]; exact e', r'⟩
      · rw [upd_same, List.map_append]
        rfl
      · rw [take_snoc hcc]
        have e : stK (cells.take i ++ [cc]) (st ++ [v]) = stK (cells.take i) st ++ [((.inr cc.1 : Key), V.int v)] := by
          unfold stK
          rw [List.zip_append ls.symm, List.map_append]
          rfl
        rw [e]
        refine Paired.snoc (pr.mono fun q kv h => but_sqT eD5 But.upd (but_sqT ep3 b35 h)) ?_
        exact but_sqT eD5 But.upd (.inl (.inl upd_same))
      · rw [take_snoc hcc, List.length_append, List.length_append, ls]
        rfl
      · rcases List.mem_append.mp hx with hx | hx
        · exact o3 x hx
        · rw [List.mem_singleton.mp hx]
          exact ⟨v0, v3⟩
    · obtain ⟨b3, hp3, ps, st, eD, pr, ls, o3⟩ := w
      rw [r1.1, List.take_length] at pr ls
      refine ⟨D, ps, stK cells st, rfl, .inl (.inl eD), pr, fun g ng => ?_⟩
      obtain ⟨zx, zy, ep3, _⟩ := id hp3
      have m := merge_stK cells st [] [] nc rfl ls
      rw [show stK [] [] = [] from rfl, List.nil_append, List.nil_append] at m
      rw [m]
      have sg := same_upd (o := HO.dK (stK cells st)) ng
      exact q g st _ (fun a o e n => sg _ _ (b3 _ _ e n)) (hp3.upd ng) (Option.eq_none_iff_forall_ne_some.mpr fun o e => if h : g = p then by rw [h, ep3] at ng; cases ng else by rw [b3 g o e h] at ng; cases ng) upd_same ls o3
end
/-! ### _law_cells_right -/
theorem char_low {q : Nat} (hq : q = 39 ∨ q = 34) {c : Nat} (h : lowCode c = true) : PySem.Builtin.Str.reprChar q c = [c] := by
  have a : ∀ c, c < 123 → 97 ≤ c → PySem.Builtin.Str.reprChar 39 c = [c] ∧ PySem.Builtin.Str.reprChar 34 c = [c] := by decide +kernel
  unfold lowCode at h
  simp only [Bool.and_eq_true, decide_eq_true_eq] at h
  rcases hq with rfl | rfl
  · exact (a c (by omega) h.1).1
  · exact (a c (by omega) h.1).2
theorem fold_low {q : Nat} (hq : q = 39 ∨ q = 34) : ∀ (l : List Nat) (acc : Array Nat), (∀ c ∈ l, lowCode c = true) → l.foldl (fun out c => out ++ (PySem.Builtin.Str.reprChar q c).toArray) acc = acc ++ l.toArray
  | [], acc, _ => by simp
  | c :: r, acc, h => by
    rw [List.foldl_cons, char_low hq (h c List.mem_cons_self), fold_low hq r _ fun d hd => h d (List.mem_cons_of_mem _ hd)]
    simp
theorem quote_two (x : Str) : PySem.reprQuote x = 39 ∨ PySem.reprQuote x = 34 := by
  unfold PySem.reprQuote
  split
  · exact .inr rfl
  · exact .inl rfl
theorem name_cps {z : Str} (h : isName (.str z) = true) : z.length ≤ 8 ∧ ∀ c ∈ z.cps.toList, lowCode c = true := by
  have h2 : (decide (1 ≤ (z.length : Int)) && decide ((z.length : Int) ≤ 8) && z.cps.toList.all lowCode) = true := h
  simp only [Bool.and_eq_true, decide_eq_true_eq, List.all_eq_true] at h2
  exact ⟨by omega, h2.2⟩
theorem name_repr {z : Str} (h : isName (.str z) = true) : (PyData.shown (.str z)).cps = ((#[PySem.reprQuote z] ++ z.cps.toList.toArray).push (PySem.reprQuote z)) := by
  obtain ⟨_, low⟩ := name_cps h
  show (PySem.reprText z).cps = _
  unfold PySem.reprText
  show ((z.cps.foldl (fun out c => out ++ (PySem.Builtin.Str.reprChar (PySem.reprQuote z) c).toArray) #[PySem.reprQuote z]).push (PySem.reprQuote z)) = _
  rw [← Array.foldl_toList, fold_low (quote_two z) _ _ low]
/-- a datum that is shown, and its text too -/
def OkD (d : PyData) : Prop := Shown d ∧ PyData.strOk d.shown = true
theorem name_ok8 {z : Str} (h : isName (.str z) = true) : OkD (.str z) := by
  obtain ⟨l8, low⟩ := name_cps h
  have e := name_repr h
  refine ⟨⟨rfl, rfl, Nat.zero_le _, ?_⟩, ?_⟩
  · show (PyData.shown (.str z)).cps.size ≤ _
    rw [e]
    have lz : z.cps.size ≤ 8 := l8
    simp only [Array.size_push, Array.size_append, List.size_toArray, Array.length_toList]
    refine Nat.le_trans (show _ ≤ 100 from ?_) (by decide)
    simp only [List.size_toArray, List.length_cons, List.length_nil]
    omega
  · unfold PyData.strOk
    rw [e, Array.all_eq_true_iff_forall_mem]
    intro c hc
    rcases Array.mem_push.mp hc with hc | rfl
    · rcases Array.mem_append.mp hc with hc | hc
      · have e2 : c = PySem.reprQuote z := by simpa using hc
        rw [e2]
        rcases quote_two z with q | q <;> rw [q] <;> decide
      · have h2 := low c (by simpa using hc)
        unfold lowCode at h2
        simp only [Bool.and_eq_true, decide_eq_true_eq] at h2
        exact decide_eq_true (by omega)
    · rcases quote_two z with q | q <;> rw [q] <;> decide
theorem name_strOk {z : Str} (h : isName (.str z) = true) : PyData.strOk z = true := by
  obtain ⟨_, low⟩ := name_cps h
  unfold PyData.strOk
  rw [Array.all_eq_true_iff_forall_mem]
  intro c hc
  have h2 := low c (by simpa using hc)
  unfold lowCode at h2
  simp only [Bool.and_eq_true, decide_eq_true_eq] at h2
  exact decide_eq_true (by omega)
/-- the law's book and its World -/
structure SitW (K : PySem.W.Frag) (H : Hp) (CW CK C CF CL b wa bb : Addr) (cells : List (Str × Str)) (fs : List FDr) (st : List Int) : Prop where
  bk : BkAt K cells fs H b
  w : WorldAt K H CW CK C CF CL wa bb cells (fs.map fxOf) st
  fit : Fit cells fs
  nz : ∀ z ∈ fs.map (·.nm) ++ cells.map (·.1), isName (.str z) = true ∧ z ≠ "zzzzzzzz"
theorem BkAt.same2 {K : PySem.W.Frag} {cells : List (Str × Str)} {fs : List FDr} {H H' : Hp} {b : Addr} (h : BkAt K cells fs H b) (s : Same H H') : BkAt K cells fs H' b := BkAt.same h s
theorem SitW.same {K : PySem.W.Frag} {H H' : Hp} {CW CK C CF CL b wa bb : Addr} {cells : List (Str × Str)} {fs : List FDr} {st : List Int} (h : SitW K H CW CK C CF CL b wa bb cells fs st) (s : Same H H') : SitW K H' CW CK C CF CL b wa bb cells fs st := ⟨h.bk.same s, h.w.same s, h.fit, h.nz⟩
abbrev sCR : Stmt := topS 76
theorem scCR : FnScope ["_law_b", "_law_world", "_law_name", "_law_kind", "_law_way", "_law_wanted", "_law_odd", "_law_odds"] ["_law_b", "_law_world"] (defScope sCR) := ⟨rfl, rfl, rfl, by decide +kernel, rfl, by decide +kernel, by decide +kernel⟩
def spCR (K : PySem.W.Frag) (CW CK C CF CL : Addr) : Sp := fun vs H Q _ => ∃ (b wa bb : Addr) (cells : List (Str × Str)) (fs : List FDr) (st : List Int), vs = [.ref b, .ref wa] ∧ SitW K H CW CK C CF CL b wa bb cells fs st ∧ ∀ H', Same H H' → Q (.bl true) H'
section
variable {K : PySem.W.Frag} {σ : L2.St} {H : Hp} {CW CK C CF CL : Addr} {R : Ers}
theorem strs_repO {y : Str} {i : Nat} {v : V} {z : Str} (at_ : σ[i]? = some (some v)) (hv : ShAt K H v z) : Strs K (tLst (tCons (tC (.str y)) (tCons (tCB (rReprO K) (tCons (tVar i) tNil)) tNil))) σ H [y, z] := fun H1 s Q q =>
  ⟨v, at_, v, z, rfl, hv.same s, by show 2 ≤ sizeLine; decide, fun p np => q _ _ (same_upd np) (.lst (.inl (.inl upd_same)) (.cons (.str _) (.cons (.str _) .nil)))⟩
theorem nf_told {ta : TA} {tz : TE} {ys : List Str} (hta : ∀ Q : List V → Hp → Prop, (∀ (way : Nat) thing p xs H1, Same H H1 → SqL K H1 p xs → (∃ k f x, Way K H1 CW CK C CF CL R way thing xs k f x ∧ Tell K H1 R k f x ys) → Q [.int way, thing, .ref p] H1) → ta σ H Q)
    (ok : ∀ z ∈ ys, PyData.strOk z = true) (hz : Strs K tz σ H ys) : NF (tOp (rNeD K) (tCall (spTold K CW CK C CF CL R) [] E0 ta) tz) σ H := fun Q q => by
  refine hta _ fun way thing p xs H1 s1 hS ⟨k, f, x, hw, tell⟩ => ?_
  refine ⟨way, thing, p, xs, rfl, hS, k, f, x, ys, hw, tell, fun l H2 s2 e2 => ?_⟩
  refine hz H2 (s1.trans s2) _ fun u H3 s3 hu => ?_
  obtain ⟨shp, ev⟩ := strs_eqv ys ok
  refine ⟨_, _, .lst (.inl (.inl (s3 _ _ e2))) (strs_dp _), hu, shp, shp, ?_⟩
  rw [ev]
  exact q H3 (s1.trans (s2.trans s3))
end
theorem q_forD1 {K : PySem.W.Frag} {H : Hp} {ds : List PyData} {ta : TA} {σ : L2.St} {g : TG} {tb : TS} {D : Ends} (h : DatA K ta σ ds) (n : ds.length ≤ sizeLine) (Pv : Nat → L2.St → Hp → Hp → Prop) (h0 : ∀ G, Pv 0 σ G G) (hl : ∀ j σ' G H', Pv j σ' G H' → Same G H')
    (hs : ∀ G, Same H G → ∀ (j : Nat) x d σ' H', ds[j]? = some d → Dp K G x d → Pv j σ' G H' → g x σ' H' fun σ2 H2 => tb { D with nx := fun σ3 H3 => Pv (j + 1) σ3 G H3, ct := fun σ3 H3 => Pv (j + 1) σ3 G H3, bk := D.nx } σ2 H2)
    (hd : ∀ G σ' H', Same H G → Pv ds.length σ' G H' → D.nx σ' H') : tFor (iList K (tLst ta)) g tb D σ H := by
  unfold tFor iList
  refine lst_new h n H _ fun l us H' s e i => ⟨l, rfl, ⟨_, .inl (.inl e)⟩, ?_⟩
  exact for_list (K := K) (a := l) (xs := us) (D := D) (fun j σ' H'' => Pv j σ' H' H'') (h0 H') (fun j σ' H'' _ w => .inl (.inl (hl _ _ _ _ w _ _ e))) (fun j x σ' H'' hx w => by
    obtain ⟨c, hc, hr⟩ := dpA_at i hx
    exact hs H' s j x c σ' H'' hc hr w) (fun σ' H'' w => hd H' σ' H'' s (dpA_len i ▸ w))
theorem at_zero {α : Type} {xs : List α} {x : α} (h : xs[0]? = some x) : atI xs 0 = some x := atI_nat (j := 0) h
theorem nf_and {tb : TT} {te : TE} {t1 t2 : TS} {D : Ends} {σ : L2.St} {H : Hp} (b : Bool) (hb : ∀ Q : Bool → Hp → Prop, Q b H → tb σ H Q) (h : b = true → NF te σ H) (k : ∀ H', Same H H' → t2 D σ H') : tIfS (tAnd tb (tTest te)) t1 t2 D σ H := by
  refine hb _ ?_
  cases b with
  | false => exact iteF (k H (Same.refl H))
  | true => exact iteT (h rfl _ fun H' s => ⟨false, rfl, iteF (k H' s)⟩)
section
variable {P : Program} {w : World} {K : PySem.W.Frag} {mg : Str → Option Value} {base : Heap}
theorem ok_cr {CW CK C CF CL f fT : Addr} {R : Ers} {fd dT : FuncData} (F : Fun K "_law_cells_right" "_law_cells_right" sCR f fd) (M : Blt mg) (GT : FnG P w K mg base 9 fT dT ["_law_way", "_law_thing", "_law_some"] (spTold K CW CK C CF CL R)) (kT : PySem.W.keepIn K (.ref fT) = true) (bT : Binds K dT ["_law_way", "_law_thing", "_law_some"] []) (gT : mg "_law_told" = some (.ref fT)) : FnG P w K mg base 10 f fd ["_law_b", "_law_world"] (spCR K CW CK C CF CL) := by
  refine Fun.okG F scCR (fun vs H Q h => ?_) (fun cdv A outer s H vs Q gu hr h => ?_)
  · obtain ⟨b, wa, bb, cells, fs, st, rfl, _⟩ := h
    rfl
  · obtain ⟨b, wa, bb, cells, fs, st, rfl, S, q⟩ := h
    have un0 : (A.deeper (envOfC "_law_cells_right" (defScope sCR) s.heap.objs.size f cdv)).units + 100 < cLine := by have := hr.un; omega
    have hu := hu_of hr
    refine ⟨_, pss_cons (ps_for PassesOwn.never rfl (pi_list (pe_dget hu (pv 0) pe_str (fun _ _ => rfl))) (pg_tup (by rfl) (pgs_cons (pg_name (i := 2) scCR.nd rfl (.inl rfl)) (pgs_cons (pg_name (i := 3) scCR.nd rfl (.inl rfl)) pgs_nil)))
        (pss_one (ps_for PassesOwn.never rfl (pi_list (pe_lst (pa_cons (pe_tup (pa_cons pe_int (pa_cons pe_str pa_nil))) (pa_cons (pe_tup (pa_cons pe_int (pa_cons pe_str pa_nil))) pa_nil)))) (pg_tup (by rfl) (pgs_cons (pg_name (i := 4) scCR.nd rfl (.inl rfl)) (pgs_cons (pg_name (i := 5) scCR.nd rfl (.inl rfl)) pgs_nil)))
          (pss_cons (ps_if (PW.pt (pw_and (pt_cmpR op_ne (pv 3) (pv 5) (nomark _)) (pw_and1 (pt_cmpR (op_neD hr.units) (pe_callG GT gu hr (by rfl) gT kT bT (pa_cons (pv 4) (pa_cons (pv 1) (pa_cons (pe_lst (pa_cons (pv 2) (pa_cons pe_non pa_nil))) pa_nil)))) (pe_lst (pa_cons pe_str (pa_cons pe_str pa_nil))) (nomark _))))) (pss_one (ps_ret pe_bl)) pss_nil)
          (pss_one (ps_for PassesOwn.never rfl (pi_list (pe_lst (pa_cons pe_non (pa_cons pe_int (pa_cons (pe_un un_neg pe_int) (pa_cons pe_bl (pa_cons pe_str pa_nil))))))) (pg_name (i := 6) scCR.nd rfl (.inl rfl))
            (pss_one (ps_if (PW.pt (pw_and (pt_cmpR op_eq (pv 3) (pv 5) (nomark _)) (pw_and1 (pt_cmpR (op_neD hr.units) (pe_callG GT gu hr (by rfl) gT kT bT (pa_cons (pv 4) (pa_cons (pv 1) (pa_cons (pe_lst (pa_cons (pv 2) (pa_cons (pv 6) pa_nil))) pa_nil)))) (pe_lst (pa_cons pe_str (pa_cons pe_str pa_nil))) (nomark _))))) (pss_one (ps_ret pe_bl)) pss_nil))))))))
      (pss_cons (ps_set (i := 7) scCR.nd rfl (.inl rfl) (pe_lst (pa_cons pe_non (pa_cons pe_int (pa_cons pe_str (pa_cons (pe_dget hu (pe_ix ix_list (pe_dget hu (pv 0) pe_str (fun _ _ => rfl)) pe_int (fun _ _ => rfl)) pe_str (fun _ _ => rfl)) pa_nil))))))
      (pss_one (ps_ret (pe_cmpR (op_eqD hr.units) (pe_lc (own := [("_law_odd", 6)]) (g := gName 6) (wi := iList K (tVar 7))
          (tt := tOr (tTest (tOp (rNeD K) (tCall (spTold K CW CK C CF CL R) [] E0 (tCons (tC (.int 3)) (tCons (tVar 1) (tCons (tLst (tCons (tVar 6) (tCons (tC (.int 1)) tNil))) tNil)))) (tLst (tCons (tC (.str "name")) (tCons (tCB (rReprO K) (tCons (tVar 6) tNil)) tNil)))))
            (tTest (tOp (rNeD K) (tCall (spTold K CW CK C CF CL R) [] E0 (tCons (tC (.int 4)) (tCons (tVar 1) (tCons (tLst (tCons (tVar 6) (tCons (tC (.int 1)) tNil))) tNil)))) (tLst (tCons (tC (.str "name")) (tCons (tCB (rReprO K) (tCons (tVar 6) tNil)) tNil))))))
          (te := tVar 6) (by rfl) scCR.nd (pi_list (pv 7)) (blkOk_by (own := [("_law_odd", 6)]) (N := ["_law_b", "_law_world", "_law_name", "_law_kind", "_law_way", "_law_wanted", "_law_odd", "_law_odds"]) (sc := defScope sCR) (by decide +kernel)) (fun _ _ _ _ _ => pg_name (i := 6) scCR.nd rfl (Or.inl rfl))
          (fun _ _ _ _ _ => pts_one (PW.pt (pw_or (pt_cmpR (op_neD hr.units) (pe_callG GT gu hr (by rfl) gT kT bT (pa_cons pe_int (pa_cons (pv 1) (pa_cons (pe_lst (pa_cons (pv 6) (pa_cons pe_int pa_nil))) pa_nil)))) (pe_lst (pa_cons pe_str (pa_cons (pe_callB (id := "repr") (r := rReprO K) (call_reprO (by exact gu) (by exact un0)) (by rfl) M.repr (by decide +kernel) (pa_cons (pv 6) pa_nil)) pa_nil))) (nomark _))
            (pw_or1 (pt_cmpR (op_neD hr.units) (pe_callG GT gu hr (by rfl) gT kT bT (pa_cons pe_int (pa_cons (pv 1) (pa_cons (pe_lst (pa_cons (pv 6) (pa_cons pe_int pa_nil))) pa_nil)))) (pe_lst (pa_cons pe_str (pa_cons (pe_callB (id := "repr") (r := rReprO K) (call_reprO (by exact gu) (by exact un0)) (by rfl) M.repr (by decide +kernel) (pa_cons (pv 6) pa_nil)) pa_nil))) (nomark _))))))
          (fun _ _ _ _ _ => pv 6)) (pe_lst pa_nil) (nomark _))))), ?_⟩
    obtain ⟨c, ff, ts, gs, e0, e1, e2, r1, r2⟩ := id S.bk
    have okp : ∀ z ∈ (["part", "name"] : List Str), PyData.strOk z = true := by decide +kernel
    have okv : ∀ z ∈ (["part", "value"] : List Str), PyData.strOk z = true := by decide +kernel
    refine ⟨.ref b, rfl, b, .ref c, rfl, dg e0 "cells" rfl, c, rfl, ⟨_, .inl (.inl e1)⟩, ?_⟩
    refine for_list (K := K) (a := c) (xs := ts) (fun j σ H' => ∃ z2 z3 z4 z5 z6, σ = [some (.ref b), some (.ref wa), z2, z3, z4, z5, z6, none] ∧ Same H H') ⟨_, _, _, _, _, rfl, Same.refl H⟩ (fun j σ H' _ pr => ?_) (fun j x σ H1 hx pr => ?_) (fun σ H1 pr => ?_)
    · obtain ⟨_, _, _, _, _, _, s1⟩ := pr
      exact .inl (.inl (s1 _ _ e1))
    · obtain ⟨z2, z3, z4, z5, z6, rfl, s1⟩ := pr
      obtain ⟨cc, hcc⟩ : ∃ cc, cells[j]? = some cc := ⟨_, List.getElem?_eq_getElem (by rw [← r1.1]; exact (List.getElem?_eq_some_iff.mp hx).1)⟩
      obtain ⟨t, rfl, ht⟩ := r1.2 j x cc hx hcc
      have mc : cc ∈ cells := List.mem_of_getElem? hcc
      have nm := (S.nz cc.1 (List.mem_append.mpr (.inr (List.mem_map.mpr ⟨cc, mc, rfl⟩)))).1
      have fnd : cellIn cells (.str cc.1) = some cc := cell_find S.fit.nc mc
      refine ⟨t, _, rfl, same_sqT s1 ht, rfl, _, _, rfl, _, _, rfl, rfl, ?_⟩
      dsimp only [gName, List.set]
      refine q_forD1 (ds := [.tuple [.int 3, .str "table"], .tuple [.int 4, .str "setting"]]) (da_cons (dat_tup (da_cons dat_int (da_cons dat_str da_nil)) (Nat.le_of_ble_eq_true rfl)) (da_cons (dat_tup (da_cons dat_int (da_cons dat_str da_nil)) (Nat.le_of_ble_eq_true rfl)) da_nil)) (by show 2 ≤ sizeLine; decide)
        (fun m σ G H' => ∃ z4 z5 z6, σ = [some (.ref b), some (.ref wa), some (.str cc.1), some (.str cc.2), z4, z5, z6, none] ∧ Same G H') (fun G' => ⟨_, _, _, rfl, Same.refl _⟩) (fun m σ G H' w => by obtain ⟨_, _, _, _, s⟩ := w; exact s) (fun G s2 m x d σ H2 hd hx w => ?_) (fun G σ H2 s2 w => ?_)
      · obtain ⟨z4, z5, z6, rfl, s3⟩ := w
        have t3 := s1.trans (s2.trans s3)
        obtain ⟨way, kind, rfl, hwk⟩ : ∃ (way : Nat) (kind : Str), d = .tuple [.int way, .str kind] ∧ ((way = 3 ∧ kind = "table") ∨ (way = 4 ∧ kind = "setting")) := by
          match m, hd with
          | 0, hd => exact ⟨3, "table", (Option.some.inj hd).symm, .inl ⟨rfl, rfl⟩⟩
          | 1, hd => exact ⟨4, "setting", (Option.some.inj hd).symm, .inr ⟨rfl, rfl⟩⟩
          | m + 2, hd => simp at hd
        have hx2 := dp_same s3 hx
        cases hx2 with
        | @tup tt us _ hs hi =>
        obtain ⟨u0, u1, rfl, h0, h1⟩ := dp_pair hi
        cases h0
        cases h1
        refine ⟨tt, _, rfl, hs, rfl, _, _, rfl, _, _, rfl, rfl, ?_⟩
        dsimp only [gName, List.set]
        have wy : ∀ {H4 : Hp} {v1 : V} {k : Addr} {fe : Str} {x : V}, Same H2 H4 → ChBad K H4 cells R kind (.str cc.1) v1 k fe x → Way K H4 CW CK C CF CL R way (.ref wa) [.str cc.1, v1] k fe x := fun {H4 v1 k fe x} s4 bad => by
          have W4 := S.w.same (t3.trans s4)
          rcases hwk with ⟨rfl, rfl⟩ | ⟨rfl, rfl⟩
          · exact .inr (.inr (.inr (.inl ⟨rfl, wa, bb, _, _, cells, _, st, rfl, rfl, W4, bad⟩)))
          · exact .inr (.inr (.inr (.inr ⟨rfl, wa, bb, _, _, cells, _, st, rfl, rfl, W4, bad⟩)))
        refine nf_and (decide (cc.2 ≠ kind)) (fun Q' q' => ⟨_, rfl, _, rfl, rfl, _, rfl, ?_⟩) (fun ne => nf_told (ys := ["part", "name"]) (fun Q' q' => ?_) okp strs_two) (fun H3 s4 => ?_)
        · rw [show (!decide (V.str cc.2 = V.str kind)) = decide (cc.2 ≠ kind) by rw [decide_not]; exact congrArg _ (decide_eq_decide.mpr ⟨V.str.inj, fun h => by rw [h]⟩)]; exact q'
        · have ne := of_decide_eq_true ne
          refine ⟨_, rfl, _, rfl, _, rfl, (by show 2 ≤ sizeLine; decide), fun p np => q' way _ p _ _ (same_upd np) (.inl (.inl upd_same)) ⟨R.P, "part", .str "name", wy (same_upd np) (.inr ⟨_, cc, .str _, fnd, .inl ⟨ne, rfl, rfl, rfl⟩⟩), .inr (.inr (.inr (.inr ⟨rfl, rfl, _, rfl, rfl⟩)))⟩⟩
        · dsimp only [tNext]
          have t4 := t3.trans s4
          refine q_forD1 (ds := [.none, .int 3, .int (-1), .bool true, .str "1"]) (da_cons dat_non (da_cons dat_int (da_cons dat_neg (da_cons dat_bl (da_cons dat_str da_nil))))) (by show 5 ≤ sizeLine; decide)
            (fun m σ G H' => ∃ z6, σ = [some (.ref b), some (.ref wa), some (.str cc.1), some (.str cc.2), some (.int way), some (.str kind), z6, none] ∧ Same G H') (fun G' => ⟨_, rfl, Same.refl _⟩) (fun m σ G H' w => by obtain ⟨_, _, s⟩ := w; exact s) (fun G5 s5 m5 x5 d5 σ5 H5 hd5 hx5 w5 => ?_) (fun G5 σ5 H5 s5 w5 => ?_)
          · obtain ⟨z6, rfl, s6⟩ := w5
            dsimp only [gName, List.set]
            have bad5 : isValue d5 = false ∧ szD d5 = true := by
              match m5, hd5 with
              | 0, h => cases h; exact ⟨by decide +kernel, by decide +kernel⟩
              | 1, h => cases h; exact ⟨by decide +kernel, by decide +kernel⟩
              | 2, h => cases h; exact ⟨by decide +kernel, by decide +kernel⟩
              | 3, h => cases h; exact ⟨by decide +kernel, by decide +kernel⟩
              | 4, h => cases h; exact ⟨by decide +kernel, by decide +kernel⟩
              | m + 5, h => simp at h
            refine nf_and (decide (cc.2 = kind)) (fun Q' q' => ⟨_, rfl, _, rfl, rfl, _, rfl, ?_⟩) (fun ee => nf_told (ys := ["part", "value"]) (fun Q' q' => ?_) okv strs_two) (fun H6 s7 => ⟨_, rfl, s6.trans s7⟩)
            · rw [show decide (V.str cc.2 = V.str kind) = decide (cc.2 = kind) from decide_eq_decide.mpr ⟨V.str.inj, fun h => by rw [h]⟩]; exact q'
            · have ee := of_decide_eq_true ee
              refine ⟨_, rfl, _, rfl, _, rfl, _, rfl, (by show 2 ≤ sizeLine; decide), fun p np => q' way _ p _ _ (same_upd np) (.inl (.inl upd_same)) ⟨R.P, "part", .str "value", wy (s4.trans (s5.trans (s6.trans (same_upd np)))) (.inr ⟨_, cc, .str _, fnd, .inr ⟨d5, ee, dp_same (s6.trans (same_upd np)) hx5, bad5.2, bad5.1, rfl, rfl, rfl⟩⟩), .inr (.inr (.inr (.inr ⟨rfl, rfl, _, rfl, rfl⟩)))⟩⟩
          · obtain ⟨z6, rfl, s6⟩ := w5
            exact ⟨_, _, _, rfl, s3.trans (s4.trans (s5.trans s6))⟩
      · obtain ⟨z4, z5, z6, rfl, s3⟩ := w
        exact ⟨_, _, _, _, _, rfl, s1.trans (s2.trans s3)⟩
    · obtain ⟨z2, z3, z4, z5, z6, rfl, s1⟩ := pr
      obtain ⟨F, hF⟩ : ∃ F, fs[0]? = some F := ⟨_, List.getElem?_eq_getElem S.fit.l1⟩
      obtain ⟨g0, hg0⟩ : ∃ g0, gs[0]? = some g0 := ⟨_, List.getElem?_eq_getElem (by rw [r2.1]; exact S.fit.l1)⟩
      obtain ⟨fa, vr, vw, rfl, ef, d1, d2, n1, n2⟩ := r2.2 0 g0 F hg0 hF
      have mF : F ∈ fs := List.mem_of_getElem? hF
      refine ⟨.ref b, rfl, b, .ref ff, rfl, dg (s1 _ _ e0) "functions" rfl, ff, gs, 0, .ref fa, rfl, rfl, .inl (.inl (s1 _ _ e2)), ?_, fa, .str F.nm, rfl, dg (s1 _ _ ef) "name" rfl, (by show 4 ≤ sizeLine; decide), fun l nl => ?_⟩
      · exact at_zero hg0
      · have s2 := same_upd (o := HO.lst [.non, .int 5, .str "zzzzzzzz", .str F.nm]) nl
        have el : (upd H1 l (.lst [.non, .int 5, .str "zzzzzzzz", .str F.nm])) l = some (.lst [.non, .int 5, .str "zzzzzzzz", .str F.nm]) := upd_same
        generalize upd H1 l (.lst [.non, .int 5, .str "zzzzzzzz", .str F.nm]) = H2 at s2 el
        have t2 := s1.trans s2
        dsimp only [gName, List.set]
        refine ⟨.ref l, rfl, l, rfl, ⟨_, .inl (.inl el)⟩, fun D hD => ?_⟩
        refine walk_gen (walk_list (K := K) (a := l) (xs := [.non, .int 5, .str "zzzzzzzz", .str F.nm])) (fun i H' => Same H2 H' ∧ H' D = some (.lst [])) ⟨same_upd hD, upd_same⟩ (fun i H' _ p => .inl (.inl (p.1 _ _ el))) (fun i x H3 H4 hi p y => ?_) (fun H3 p => ?_)
        · obtain ⟨s3, eD⟩ := p
          obtain ⟨rfl, hx⟩ := y
          obtain ⟨d, hd, ok, no⟩ : ∃ d, Dp K H4 x d ∧ OkD d ∧ cellIn cells d = none := by
            match i, hx with
            | 0, h => cases h; exact ⟨.none, .non, ⟨⟨by decide +kernel, by decide +kernel, by decide +kernel, by decide +kernel⟩, by decide +kernel⟩, rfl⟩
            | 1, h => cases h; exact ⟨.int 5, .int 5, ⟨⟨by decide +kernel, by decide +kernel, by decide +kernel, by decide +kernel⟩, by decide +kernel⟩, rfl⟩
            | 2, h => cases h; exact ⟨.str "zzzzzzzz", .str _, ⟨⟨by decide +kernel, by decide +kernel, by decide +kernel, by decide +kernel⟩, by decide +kernel⟩, cell_none fun h => (S.nz _ (List.mem_append.mpr (.inr h))).2 rfl⟩
            | 3, h => cases h; exact ⟨.str F.nm, .str _, name_ok8 (S.nz _ (List.mem_append.mpr (.inl (List.mem_map.mpr ⟨F, mF, rfl⟩)))).1, cell_none fun h => S.fit.dj _ (List.mem_map.mpr ⟨F, mF, rfl⟩) h⟩
            | i + 4, h => simp at h
          have t3 := t2.trans s3
          have oks : ∀ z ∈ ([("name" : Str), d.shown] : List Str), PyData.strOk z = true := fun z hz => by
            rcases List.mem_cons.mp hz with rfl | hz
            · decide +kernel
            · rw [List.mem_singleton.mp hz]
              exact ok.2
          have wy : ∀ (way : Nat) (kind : Str), (way = 3 ∧ kind = "table") ∨ (way = 4 ∧ kind = "setting") → ∀ {H5 : Hp}, Same H4 H5 → ∃ k f x', Way K H5 CW CK C CF CL R way (.ref wa) [x, .int 1] k f x' ∧ Tell K H5 R k f x' ["name", d.shown] := fun way kind hwk {H5} s5 => by
            have W5 := S.w.same (t3.trans s5)
            have hd5 := dp_same s5 hd
            have bad : ChBad K H5 cells R kind x (.int 1) R.U "name" x := .inl ⟨d, hd5, no, rfl, rfl, rfl⟩
            refine ⟨R.U, "name", x, ?_, .inl ⟨rfl, rfl, _, .inl ⟨d, hd5, ok.1, rfl⟩, rfl⟩⟩
            rcases hwk with ⟨rfl, rfl⟩ | ⟨rfl, rfl⟩
            · exact .inr (.inr (.inr (.inl ⟨rfl, wa, bb, _, _, cells, _, st, rfl, rfl, W5, bad⟩)))
            · exact .inr (.inr (.inr (.inr ⟨rfl, wa, bb, _, _, cells, _, st, rfl, rfl, W5, bad⟩)))
          refine And.intro rfl ?_
          refine (nf_told (σ := [some (.ref b), some (.ref wa), z2, z3, z4, z5, some x, some (.ref l)]) (ys := ["name", d.shown]) (fun Q' q' => ⟨_, rfl, x, rfl, (by show 2 ≤ sizeLine; decide), fun p np => q' 3 _ p _ _ (same_upd np) (.inl (.inl upd_same)) (wy 3 _ (.inl ⟨rfl, rfl⟩) (same_upd np))⟩) oks (strs_repO rfl (.inl ⟨d, hd, ok.1, rfl⟩))) _ fun H5 s5 => ⟨false, rfl, iteF ?_⟩
          refine (nf_told (σ := [some (.ref b), some (.ref wa), z2, z3, z4, z5, some x, some (.ref l)]) (ys := ["name", d.shown]) (fun Q' q' => ⟨_, rfl, x, rfl, (by show 2 ≤ sizeLine; decide), fun p np => q' 4 _ p _ _ (same_upd np) (.inl (.inl upd_same)) (wy 4 _ (.inr ⟨rfl, rfl⟩) (s5.trans (same_upd np)))⟩) oks (strs_repO rfl (.inl ⟨d, dp_same s5 hd, ok.1, rfl⟩))) _ fun H6 s6 => ⟨false, rfl, iteF ?_⟩
          exact ⟨s3.trans (s5.trans s6), s6 _ _ (s5 _ _ eD)⟩
        · obtain ⟨s3, eD⟩ := p
          refine ⟨by show 0 ≤ sizeLine; decide, fun l2 nl2 => ⟨_, _, .lst (ds := []) (.inl (.inl (same_upd nl2 _ _ eD))) .nil, .lst (ds := []) (.inl (.inl upd_same)) .nil, by decide +kernel, by decide +kernel, ?_⟩⟩
          rw [show PyData.eqv (.list []) (.list []) = true by decide +kernel]
          exact q _ (t2.trans (s3.trans (same_upd nl2)))
end
/-! ### a text so many times -/
def zerosT (n : Nat) : Str := ⟨Array.replicate n 48⟩
def rMulS : R2 := fun x y H Q => ∃ n : Nat, x = .str "0" ∧ y = .int n ∧ n ≤ 2 ∧ Q (.str (zerosT n)) H
theorem op_mulS {X : Cx} : OpR X (binaryOp .Mult) rMulS := by
  intro pins s σ H x y v u Q I rx ry h
  obtain ⟨n, rfl, rfl, h2, q⟩ := h
  obtain ⟨t, rfl⟩ := rx
  obtain ⟨k, rfl⟩ := ry
  rcases (show n = 0 ∨ n = 1 ∨ n = 2 by omega) with rfl | rfl | rfl
  · exact PySem.P.mul_str_none (by decide) (by decide) ⟨.str (zerosT 0), H, I.tok _, ⟨_, rfl⟩, q⟩
  · refine PySem.P.mul_str (by decide) (fun _ e => ?_) (fun _ e => ?_) ?_
    · cases e
    · cases e
    · exact ⟨.str (zerosT 1), H, I, ⟨_, rfl⟩, q⟩
  · refine PySem.P.mul_str (by decide) (fun _ _ => by decide) (fun _ _ => by decide) ?_
    exact ⟨by decide, .str (zerosT 2), H, I.tok _, ⟨_, rfl⟩, q⟩
/-! ### the law of runs refused -/
abbrev sLaw : Stmt := topS 77
theorem scLaw : FnScope ["_law_script", "_law_k", "_law_pool_here", "_law_b", "_law_book_here", "_law_state_here", "_law_f", "_law_word", "_law_world", "_law_values", "_law_odd", "_law_cell", "_law_bent", "_law_due"] ["_law_script"] (defScope sLaw) := ⟨rfl, rfl, rfl, by decide +kernel, rfl, by decide +kernel, by decide +kernel⟩
def spLaw (K : PySem.W.Frag) : Sp := fun vs H Q _ => ∃ (a : Addr) (ns : List Int), vs = [.ref a] ∧ SqL K H a (ns.map V.int) ∧ ns.length ≤ 63 ∧ ∀ H', Q (.bl true) H'
theorem stK_self {cells : List (Str × Str)} {st : List Int} (n : (cells.map (·.1)).Nodup) : ∀ p ∈ stK cells st, valV (stK cells st) p.1 = some p.2 ∧ flatB p.2 = true := fun p hp => by
  obtain ⟨⟨c, v⟩, hm, rfl⟩ := List.mem_map.mp hp
  obtain ⟨i, hi⟩ := List.getElem?_of_mem hm
  rw [List.getElem?_zip_eq_some] at hi
  exact ⟨stK_get n hi.1 hi.2, rfl⟩
theorem BookAt.but {K : PySem.W.Frag} {H H' : Hp} {CK C CF CL a p : Addr} {zs : List V} {cells : List (Str × Str)} {fs : List FX} (h : BookAt K H CK C CF CL a cells fs) (ep : H p = some (.lst zs)) (b : But p H H') : BookAt K H' CK C CF CL a cells fs := by
  obtain ⟨dx, t1, t2, D, xs, ys, e, h1, r1, h2, r2, h3, l⟩ := h
  have np : ∀ {q : Addr} {o : HO}, H q = some o → (∀ zs, o ≠ .lst zs) → H' q = some o := fun {q o} e n => b _ _ e (fun z => n zs (by rw [z, ep] at e; exact (Option.some.inj e).symm))
  refine ⟨dx, t1, t2, D, xs, ys, np e (fun _ z => nomatch z), but_sqT ep b h1, r1.mono fun v c h => ?_, but_sqT ep b h2, r2.mono fun v F h => ?_, np h3 (fun _ z => nomatch z), l⟩
  · obtain ⟨q, e, dc, gs, eq, r⟩ := h
    exact ⟨q, e, dc, gs, np eq (fun _ z => nomatch z), r⟩
  · obtain ⟨q, e, h⟩ := h
    exact ⟨q, e, h.but ep b⟩
/-- what the law has drawn and made -/
structure Sit11 (K : PySem.W.Frag) (H : Hp) (CW CK C CF CL b bb wa b2 g vl fa : Addr) (cells : List (Str × Str)) (fs : List FDr) (st : List Int) (F : FDr) : Prop where
  bA : BookAt K H CK C CF CL bb cells (fs.map fxOf)
  S : SitW K H CW CK C CF CL b wa b2 cells fs st
  eg : H g = some (.dK (stK cells st))
  sl : st.length = cells.length
  st3 : Ok3 st
  lc : cells.length ≤ 3
  mF : F ∈ fs
  mn : F.many ≤ 2
  ev : H vl = some (.lst (List.replicate F.many (.int 0)))
  ef : FDrAt K H (.ref fa) F
theorem Sit11.same {K : PySem.W.Frag} {H H' : Hp} {CW CK C CF CL b bb wa b2 g vl fa : Addr} {cells : List (Str × Str)} {fs : List FDr} {st : List Int} {F : FDr} (h : Sit11 K H CW CK C CF CL b bb wa b2 g vl fa cells fs st F) (s : Same H H') : Sit11 K H' CW CK C CF CL b bb wa b2 g vl fa cells fs st F :=
  ⟨h.bA.same s, h.S.same s, s _ _ h.eg, h.sl, h.st3, h.lc, h.mF, h.mn, s _ _ h.ev, h.ef.same s⟩
/-- a value that is no function's name -/
def OddN (K : PySem.W.Frag) (H : Hp) (fs : List FX) (x : V) (z : Str) : Prop := ∃ d, Dp K H x d ∧ OkD d ∧ nameIn fs d = none ∧ z = d.shown
/-- a value that is no row of so many arguments -/
def OddA (K : PySem.W.Frag) (H : Hp) (n : Nat) (x : V) (z : Str) : Prop := ∃ o, OdAt K H x o ∧ (∀ ds, o = .dat (.list ds) ∨ o = .dat (.tuple ds) → ds.length ≤ 1000) ∧ o.args n = false ∧ ShAt K H x z ∧ PyData.strOk z = true
theorem OddA.same {K : PySem.W.Frag} {H H' : Hp} {n : Nat} {x : V} {z : Str} (h : OddA K H n x z) (s : Same H H') : OddA K H' n x z := by
  obtain ⟨o, ho, r1, r2, sh, r3⟩ := h
  exact ⟨o, ho.same s, r1, r2, sh.same s, r3⟩
theorem OddN.same {K : PySem.W.Frag} {H H' : Hp} {fs : List FX} {x : V} {z : Str} (h : OddN K H fs x z) (s : Same H H') : OddN K H' fs x z := by
  obtain ⟨d, hd, r⟩ := h
  exact ⟨d, dp_same s hd, r⟩
section
variable {K : PySem.W.Frag} {H : Hp} {CW CK C CF CL b bb wa b2 g vl fa : Addr} {cells : List (Str × Str)} {fs : List FDr} {st : List Int} {F : FDr} {R : Ers}
theorem Sit11.name (h : Sit11 K H CW CK C CF CL b bb wa b2 g vl fa cells fs st F) : nameIn (fs.map fxOf) (.str F.nm) = some (fxOf F) := by
  show atName (fs.map fxOf) (fxOf F).d.nm = _
  exact atName_nd (by rw [namesF_fx]; exact h.S.fit.nf) (List.mem_map.mpr ⟨F, h.mF, rfl⟩)
theorem ok_words {w z : Str} (hw : PyData.strOk w = true) (hz : PyData.strOk z = true) : ∀ y ∈ ([w, z] : List Str), PyData.strOk y = true := fun y hy => by
  rcases List.mem_cons.mp hy with rfl | hy
  · exact hw
  · rw [List.mem_singleton.mp hy]
    exact hz
/-- refused for the name -/
theorem Sit11.n0 (h : Sit11 K H CW CK C CF CL b bb wa b2 g vl fa cells fs st F) {x v1 v2 v3 : V} {z : Str} (o : OddN K H (fs.map fxOf) x z) : ∃ k f y, Way K H CW CK C CF CL R 0 (.ref bb) [x, v1, v2, v3] k f y ∧ Tell K H R k f y ["name", z] := by
  obtain ⟨d, hd, ok, no, rfl⟩ := o
  exact ⟨R.U, "name", x, .inl ⟨rfl, bb, x, v1, v2, v3, cells, _, rfl, rfl, h.bA, h.S.fit.nc, .inl (.inl ⟨d, hd, no, rfl, rfl, rfl⟩)⟩, .inl ⟨rfl, rfl, _, .inl ⟨d, hd, ok.1, rfl⟩, rfl⟩⟩
theorem Sit11.n2 (h : Sit11 K H CW CK C CF CL b bb wa b2 g vl fa cells fs st F) {x v1 : V} {z : Str} (o : OddN K H (fs.map fxOf) x z) : ∃ k f y, Way K H CW CK C CF CL R 2 (.ref wa) [x, v1] k f y ∧ Tell K H R k f y ["name", z] := by
  obtain ⟨d, hd, ok, no, rfl⟩ := o
  exact ⟨R.U, "name", x, .inr (.inr (.inl ⟨rfl, wa, b2, x, v1, cells, _, st, rfl, rfl, h.S.w, .inl ⟨d, hd, no, rfl, rfl, rfl⟩⟩)), .inl ⟨rfl, rfl, _, .inl ⟨d, hd, ok.1, rfl⟩, rfl⟩⟩
/-- refused for the arguments -/
theorem Sit11.a0 (h : Sit11 K H CW CK C CF CL b bb wa b2 g vl fa cells fs st F) {x v2 v3 : V} {z : Str} (o : OddA K H F.many x z) : ∃ k f y, Way K H CW CK C CF CL R 0 (.ref bb) [.str F.nm, x, v2, v3] k f y ∧ Tell K H R k f y ["arguments", z] := by
  obtain ⟨o, ho, r1, r2, sh, r3⟩ := o
  exact ⟨R.A, "arguments", x, .inl ⟨rfl, bb, _, x, v2, v3, cells, _, rfl, rfl, h.bA, h.S.fit.nc, .inl (.inr ⟨.str F.nm, fxOf F, .str _, h.name, ⟨o, F.many, ho, r1, rfl, r2⟩, rfl, rfl, rfl⟩)⟩, .inr (.inl ⟨rfl, rfl, _, sh, rfl⟩)⟩
theorem Sit11.a2 (h : Sit11 K H CW CK C CF CL b bb wa b2 g vl fa cells fs st F) {x : V} {z : Str} (o : OddA K H F.many x z) : ∃ k f y, Way K H CW CK C CF CL R 2 (.ref wa) [.str F.nm, x] k f y ∧ Tell K H R k f y ["arguments", z] := by
  obtain ⟨o, ho, r1, r2, sh, r3⟩ := o
  exact ⟨R.A, "arguments", x, .inr (.inr (.inl ⟨rfl, wa, b2, _, x, cells, _, st, rfl, rfl, h.S.w, .inr ⟨.str F.nm, fxOf F, .str _, h.name, ⟨o, F.many, ho, r1, rfl, r2⟩, rfl, rfl, rfl⟩⟩)), .inr (.inl ⟨rfl, rfl, _, sh, rfl⟩)⟩
theorem zeros_dp {K : PySem.W.Frag} {H : Hp} : ∀ n : Nat, DpAll K H (List.replicate n (V.int 0)) (List.replicate n (PyData.int 0))
  | 0 => .nil
  | n + 1 => .cons (.int 0) (zeros_dp n)
theorem Sit11.args (h : Sit11 K H CW CK C CF CL b bb wa b2 g vl fa cells fs st F) : ArgIs K H (.ref vl) (fxOf F) true := by
  have m := h.mn
  refine ⟨.dat (.list (List.replicate F.many (.int 0))), F.many, ⟨.lst (.inl (.inl h.ev)) (zeros_dp _), ?_⟩, fun ds e => ?_, rfl, ?_⟩
  · rcases (show F.many = 0 ∨ F.many = 1 ∨ F.many = 2 by omega) with e | e | e <;> rw [e] <;> decide +kernel
  · rcases e with e | e
    · have e2 : List.replicate F.many (PyData.int 0) = ds := PyData.list.inj (Od.dat.inj e)
      rw [← e2, List.length_replicate]
      omega
    · cases e
  · rcases (show F.many = 0 ∨ F.many = 1 ∨ F.many = 2 by omega) with e | e | e <;> rw [e] <;> decide +kernel
/-- refused for the state -/
theorem Sit11.s0 (h : Sit11 K H CW CK C CF CL b bb wa b2 g vl fa cells fs st F) {v y v3 : V} {z : Str} (o : StBad K H cells v y) (sh : ShAt K H y z) : ∃ k f y, Way K H CW CK C CF CL R 0 (.ref bb) [.str F.nm, .ref vl, v, v3] k f y ∧ Tell K H R k f y ["state", z] :=
  ⟨R.S, "name", y, .inl ⟨rfl, bb, _, _, v, v3, cells, _, rfl, rfl, h.bA, h.S.fit.nc, .inr ⟨.str F.nm, fxOf F, .str _, h.name, h.args, .inl ⟨o, rfl, rfl⟩⟩⟩, .inr (.inr (.inl ⟨rfl, rfl, _, sh, rfl⟩))⟩
theorem Sit11.s1 (h : Sit11 K H CW CK C CF CL b bb wa b2 g vl fa cells fs st F) {v y : V} {z : Str} (o : StBad K H cells v y) (sh : ShAt K H y z) : ∃ k f y, Way K H CW CK C CF CL R 1 (.ref bb) [v] k f y ∧ Tell K H R k f y ["state", z] :=
  ⟨R.S, "name", y, .inr (.inl ⟨rfl, bb, v, cells, _, rfl, rfl, h.bA, h.S.fit.nc, h.lc, o, rfl, rfl⟩), .inr (.inr (.inl ⟨rfl, rfl, _, sh, rfl⟩))⟩
/-- refused for the tick -/
theorem Sit11.t0 (h : Sit11 K H CW CK C CF CL b bb wa b2 g vl fa cells fs st F) {v : V} {d : PyData} (hd : Dp K H v d) (hz : szD d = true) (no : tickB d = false) (ok : OkD d) : ∃ k f y, Way K H CW CK C CF CL R 0 (.ref bb) [.str F.nm, .ref vl, .ref g, v] k f y ∧ Tell K H R k f y ["tick", d.shown] :=
  ⟨R.T, "value", v, .inl ⟨rfl, bb, _, _, _, v, cells, _, rfl, rfl, h.bA, h.S.fit.nc, .inr ⟨.str F.nm, fxOf F, .str _, h.name, h.args, .inr ⟨st, d, ⟨g, rfl, h.eg, h.sl, h.st3⟩, hd, hz, no, rfl, rfl, rfl⟩⟩⟩, .inr (.inr (.inr (.inl ⟨rfl, rfl, _, .inl ⟨d, hd, ok.1, rfl⟩, rfl⟩)))⟩
theorem rep_dp {v : V} {d : PyData} (h : Dp K H v d) : ∀ n : Nat, DpAll K H (List.replicate n v) (List.replicate n d)
  | 0 => .nil
  | n + 1 => .cons h (rep_dp h n)
theorem oddA_list {n : Nat} {r : Addr} {xs : List V} {ds : List PyData} (e : H r = some (.lst xs)) (hd : DpAll K H xs ds) (h : szD (.list ds) = true ∧ ds.length ≤ 1000 ∧ valuesB n ds = false ∧ OkD (.list ds)) : ∃ z, OddA K H n (.ref r) z := by
  obtain ⟨hz, hl, no, ok⟩ := h
  have hD : Dp K H (.ref r) (.list ds) := .lst (.inl (.inl e)) hd
  refine ⟨_, .dat (.list ds), ⟨hD, hz⟩, fun es q => ?_, no, .inl ⟨_, hD, ok.1, rfl⟩, ok.2⟩
  rcases q with q | q
  · rw [← PyData.list.inj (Od.dat.inj q)]
    exact hl
  · cases q
theorem oddA_flat {n : Nat} {v : V} {d : PyData} (hd : Dp K H v d) (hz : szD d = true) (no : isSeq d = false) (ok : OkD d) : ∃ z, OddA K H n v z := by
  refine ⟨_, .dat d, ⟨hd, hz⟩, fun es q => ?_, Od.args_sq no, .inl ⟨_, hd, ok.1, rfl⟩, ok.2⟩
  rcases q with q | q <;> cases q <;> cases no
theorem okD_of {d : PyData} (h : d.showable = true ∧ d.hasDict = false ∧ d.depth ≤ 60 ∧ d.shown.length ≤ sizeLine ∧ PyData.strOk d.shown = true) : OkD d := ⟨⟨h.1, h.2.1, h.2.2.1, h.2.2.2.1⟩, h.2.2.2.2⟩
theorem cut_two {n : Nat} (h : n ≤ 2) {x y : V} {u : V} (m : u ∈ cutV [x, y] none (some (2 * (if ((n : Nat) : Int) < 1 then ((n : Nat) : Int) else 1)))) : (n = 1 ∨ n = 2) ∧ (u = x ∨ u = y) := by
  rcases (show n = 0 ∨ n = 1 ∨ n = 2 by omega) with rfl | rfl | rfl
  · exact absurd (show u ∈ ([] : List V) from m) (by simp)
  · exact ⟨.inl rfl, by simpa using (show u ∈ ([x, y] : List V) from m)⟩
  · exact ⟨.inr rfl, by simpa using (show u ∈ ([x, y] : List V) from m)⟩
theorem strs_var {K : PySem.W.Frag} {σ : L2.St} {H : Hp} {i : Nat} {d : Addr} {ys : List Str} (at_ : σ[i]? = some (some (V.ref d))) (e : H d = some (.lst (ys.map V.str))) : Strs K (tVar i) σ H ys := fun H1 s Q q => ⟨_, at_, q _ H1 (Same.refl H1) (.lst (.inl (.inl (s _ _ e))) (strs_dp _))⟩
theorem sh_none {K : PySem.W.Frag} {H : Hp} : ShAt K H .non "None" := .inl ⟨.none, .non, (okD_of (by decide +kernel)).1, rfl⟩
end
section
variable {P : Program} {w : World} {K : PySem.W.Frag} {mg : Str → Option Value} {base : Heap}
theorem ok_law {CW CK C CF CL fD fK fPl fB fMk fS fT fR fI fL fX f : Addr} {R : Ers} {fd dD dK dPl dB dMk dS dT dR dI dL dX : FuncData} (F0 : Fun K "law" "law" sLaw f fd) (M : Blt mg) (WK : WorK K CW)
    (FPl : Fun K "_law_pool" "_law_pool" sPool fPl dPl) (bPl : Binds K dPl ["_law_script", "_law_k"] []) (gPl : mg "_law_pool" = some (.ref fPl)) (FD : Fun K "_law_draw" "_law_draw" sDraw fD dD) (bD : Binds K dD ["_law_pool_here", "_law_many"] []) (gD : mg "_law_draw" = some (.ref fD)) (FK : Fun K "_law_pick" "_law_pick" sPick fK dK) (bK : Binds K dK ["_law_pool_here", "_law_row"] []) (gK : mg "_law_pick" = some (.ref fK))
    (LB : LFn P w K mg base "_law_book" 8 fB dB ["_law_pool_here", "_law_most", "_law_deep"] (spLB K)) (LM : LFn P w K mg base "_law_made_book" 13 fMk dMk ["_law_b"] (spMade K CK C CF CL)) (LS : LFn P w K mg base "_law_state" 2 fS dS ["_law_pool_here", "_law_b"] (spLSt K))
    (GT : FnG P w K mg base 9 fT dT ["_law_way", "_law_thing", "_law_some"] (spTold K CW CK C CF CL R)) (kT : PySem.W.keepIn K (.ref fT) = true) (bT : Binds K dT ["_law_way", "_law_thing", "_law_some"] []) (gT : mg "_law_told" = some (.ref fT))
    (GR : FnG P w K mg base 10 fR dR ["_law_b", "_law_world"] (spCR K CW CK C CF CL)) (kR : PySem.W.keepIn K (.ref fR) = true) (bR : Binds K dR ["_law_b", "_law_world"] []) (gR : mg "_law_cells_right" = some (.ref fR))
    (mkW : Mk K CW fI) (gW : mg "World" = some (.ref CW)) (GWI : FnOk P w K mg base (L2.CX P w) 6 fI dI ["self", "book", "state"] (spWI K CW CK C CF CL R.S)) (bWI : Binds K dI ["self", "book", "state"] [])
    (OL : Op1 P w K mg base CX0 1 CW "__len__" fL dL ["self"] (spWLen K CW CK C CF CL)) (GS : FnOk P w K mg base CX0 3 fX dX ["self"] (spWSt K CW CK C CF CL)) (mS : Meth K CW "state" fX) (bS : Binds K dX ["self"] []) : FnG P w K mg base 14 f fd ["_law_script"] (spLaw K) := by
  have GP := ok_pool (P := P) (w := w) (base := base) FPl M
  have GK : FnOk P w K mg base CX0 2 fK dK ["_law_pool_here", "_law_row"] (spPick K) := ok_pick FK M FD bD gD
  refine Fun.okG F0 scLaw (fun vs H Q h => ?_) (fun cdv A outer s H vs Q gu hr h => ?_)
  · obtain ⟨a, ns, rfl, _⟩ := h
    rfl
  · obtain ⟨a, ns, rfl, hS, hlen, q⟩ := h
    have hrX : ∀ {n : Nat}, n ≤ 13 → Room n (A.deeper (envOfC "law" (defScope sLaw) s.heap.objs.size f cdv)) := fun h => hr.mono h
    have un0 : (A.deeper (envOfC "law" (defScope sLaw) s.heap.objs.size f cdv)).units + 100 < cLine := by have := hr.un; omega
    have hu := hu_of hr
    refine ⟨_, pss_cons (ps_for PassesOwn.never rfl (pi_range1 (by rfl) M.range (pa_cons (pe_callB (call_max2 rfl) (by rfl) M.max (by decide +kernel) (pa_cons pe_int (pa_cons (pe_callB (call_min2 rfl) (by rfl) M.min (by decide +kernel) (pa_cons (pe_callB call_len_seq (by rfl) M.len PySem.boot_len (pa_cons (pv 0) pa_nil)) (pa_cons pe_int pa_nil))) pa_nil))) pa_nil)) (pg_name (i := 1) scLaw.nd rfl (.inl rfl))
        (pss_cons (ps_set (i := 2) scLaw.nd rfl (.inl rfl) (pe_call GP (hrX (by decide)) (by rfl) gPl FPl.kp bPl .nil pass0 (pa_cons (pv 0) (pa_cons (pv 1) pa_nil))))
        (pss_cons (ps_set (i := 3) scLaw.nd rfl (.inl rfl) (pe_call LB.ok (hrX (by decide)) (by rfl) LB.g LB.k LB.b .nil pass0 (pa_cons (pv 2) (pa_cons pe_int (pa_cons pe_int pa_nil)))))
        (pss_cons (ps_par3 (i := 4) (j := 5) (l := 6) (by rfl) scLaw.nd rfl rfl rfl (by decide) (by decide) (by decide) rfl rfl rfl (pa_cons (pe_call LM.ok (hrX (by decide)) (by rfl) LM.g LM.k LM.b .nil pass0 (pa_cons (pv 3) pa_nil)) (pa_cons (pe_call LS.ok (hrX (by decide)) (by rfl) LS.g LS.k LS.b .nil pass0 (pa_cons (pv 2) (pa_cons (pv 3) pa_nil))) (pa_cons (pe_call GK (hrX (by decide)) (by rfl) gK FK.kp bK .nil pass0 (pa_cons (pv 2) (pa_cons (pe_dget hu (pv 3) pe_str (fun _ _ => rfl)) pa_nil))) pa_nil))) rfl)
        (pss_cons (ps_par (i := 7) (j := 8) (by rfl) scLaw.nd rfl rfl (by decide) rfl rfl (pa_cons (pe_dget hu (pv 6) pe_str (fun _ _ => rfl)) (pa_cons (pe_make (dvs := []) mkW GWI (hrX (by decide)) (by rfl) gW bWI .nil pass00 (pa_cons (pe_call LM.ok (hrX (by decide)) (by rfl) LM.g LM.k LM.b .nil pass0 (pa_cons (pv 3) pa_nil)) (pa_cons (pv 5) pa_nil))) pa_nil)) rfl)
        (pss_cons (ps_set (i := 9) scLaw.nd rfl (.inl rfl) (pe_op op_rep (pe_lst (pa_cons pe_int pa_nil)) (pe_dget hu (pv 6) pe_str (fun _ _ => rfl))))
        (pss_cons (ps_for PassesOwn.never rfl (pi_list (pe_op op_cat (pe_lst (pa_cons pe_non (pa_cons pe_int (pa_cons pe_str (pa_cons (pe_lst (pa_cons pe_str pa_nil)) pa_nil))))) (pe_lc (own := [("_law_cell", 11)]) (g := gName 11) (wi := iList K (tDGet (tVar 3) (tC (.str "cells")))) (tt := tYes) (te := tOp (rIxT K) (tVar 11) (tC (.int 0))) (by rfl) scLaw.nd (pi_list (pe_dget hu (pv 3) pe_str (fun _ _ => rfl))) (blkOk_by (own := [("_law_cell", 11)]) (N := ["_law_script", "_law_k", "_law_pool_here", "_law_b", "_law_book_here", "_law_state_here", "_law_f", "_law_word", "_law_world", "_law_values", "_law_odd", "_law_cell", "_law_bent", "_law_due"]) (sc := defScope sLaw) (by decide +kernel)) (fun _ _ _ _ _ => pg_name (i := 11) scLaw.nd rfl (Or.inl rfl)) (fun _ _ _ _ _ => pts_nil) (fun _ _ _ _ _ => (pe_ix ix_tup (pv 11) pe_int (fun _ _ => rfl)))))) (pg_name (i := 10) scLaw.nd rfl (.inl rfl)) (pss_one (ps_if (PW.pt (pw_or (pt_cmpR (op_neD hr.units) (pe_callG GT gu (hrX (by decide)) (by rfl) gT kT bT (pa_cons pe_int (pa_cons (pv 4) (pa_cons (pe_lst (pa_cons (pv 10) (pa_cons pe_non (pa_cons pe_non (pa_cons pe_non pa_nil))))) pa_nil)))) (pe_lst (pa_cons pe_str (pa_cons (pe_callB (id := "repr") (r := rReprO K) (call_reprO (by exact gu) (by exact un0)) (by rfl) M.repr (by decide +kernel) (pa_cons (pv 10) pa_nil)) pa_nil))) (nomark _)) (pw_or1 (pt_cmpR (op_neD hr.units) (pe_callG GT gu (hrX (by decide)) (by rfl) gT kT bT (pa_cons pe_int (pa_cons (pv 8) (pa_cons (pe_lst (pa_cons (pv 10) (pa_cons pe_non pa_nil))) pa_nil)))) (pe_lst (pa_cons pe_str (pa_cons (pe_callB (id := "repr") (r := rReprO K) (call_reprO (by exact gu) (by exact un0)) (by rfl) M.repr (by decide +kernel) (pa_cons (pv 10) pa_nil)) pa_nil))) (nomark _))))) (pss_one (ps_ret pe_bl)) pss_nil)))
        (pss_cons (ps_for PassesOwn.never rfl (pi_list (pe_op op_cat (pe_lst (pa_cons pe_non (pa_cons pe_int (pa_cons (pe_op op_cat (pv 9) (pe_lst (pa_cons pe_int pa_nil))) (pa_cons (pe_op op_add_str (pe_op op_mulS pe_str (pe_dget hu (pv 6) pe_str (fun _ _ => rfl))) pe_str) (pa_cons pe_dnewK (pa_cons (pe_op op_cat (pe_op op_rep (pe_lst (pa_cons pe_non pa_nil)) (pe_dget hu (pv 6) pe_str (fun _ _ => rfl))) (pe_lst (pa_cons pe_int pa_nil))) pa_nil))))))) (pe_slice sl_list (pe_lst (pa_cons (pe_op op_rep (pe_lst (pa_cons pe_int pa_nil)) (pe_dget hu (pv 6) pe_str (fun _ _ => rfl))) (pa_cons (pe_op op_rep (pe_lst (pa_cons pe_bl pa_nil)) (pe_dget hu (pv 6) pe_str (fun _ _ => rfl))) pa_nil))) po_none (po_some (pe_op op_mul pe_int (pe_callB (call_min2 rfl) (by rfl) M.min (by decide +kernel) (pa_cons pe_int (pa_cons (pe_dget hu (pv 6) pe_str (fun _ _ => rfl)) pa_nil)))))))) (pg_name (i := 10) scLaw.nd rfl (.inl rfl)) (pss_one (ps_if (PW.pt (pw_or (pt_cmpR (op_neD hr.units) (pe_callG GT gu (hrX (by decide)) (by rfl) gT kT bT (pa_cons pe_int (pa_cons (pv 4) (pa_cons (pe_lst (pa_cons (pv 7) (pa_cons (pv 10) (pa_cons pe_non (pa_cons pe_non pa_nil))))) pa_nil)))) (pe_lst (pa_cons pe_str (pa_cons (pe_callB (id := "repr") (r := rReprO K) (call_reprO (by exact gu) (by exact un0)) (by rfl) M.repr (by decide +kernel) (pa_cons (pv 10) pa_nil)) pa_nil))) (nomark _)) (pw_or1 (pt_cmpR (op_neD hr.units) (pe_callG GT gu (hrX (by decide)) (by rfl) gT kT bT (pa_cons pe_int (pa_cons (pv 8) (pa_cons (pe_lst (pa_cons (pv 7) (pa_cons (pv 10) pa_nil))) pa_nil)))) (pe_lst (pa_cons pe_str (pa_cons (pe_callB (id := "repr") (r := rReprO K) (call_reprO (by exact gu) (by exact un0)) (by rfl) M.repr (by decide +kernel) (pa_cons (pv 10) pa_nil)) pa_nil))) (nomark _))))) (pss_one (ps_ret pe_bl)) pss_nil)))
        (pss_cons (ps_for PassesOwn.never rfl (pi_list (pe_lst (pa_cons pe_non (pa_cons pe_int (pa_cons (pe_lst pa_nil) (pa_cons pe_str (pa_cons (pe_disp (pps_cons pe_str pe_int (pps_cons pe_str pe_int (pps_cons pe_str pe_int (pps_cons pe_str pe_int pps_nil)))) (by rfl) (by rfl) (by simp) (by decide)) pa_nil))))))) (pg_name (i := 10) scLaw.nd rfl (.inl rfl)) (pss_one (ps_if (PW.pt (pw_or (pt_cmpR (op_neD hr.units) (pe_callG GT gu (hrX (by decide)) (by rfl) gT kT bT (pa_cons pe_int (pa_cons (pv 4) (pa_cons (pe_lst (pa_cons (pv 7) (pa_cons (pv 9) (pa_cons (pv 10) (pa_cons pe_non pa_nil))))) pa_nil)))) (pe_lst (pa_cons pe_str (pa_cons pe_str pa_nil))) (nomark _)) (pw_or1 (pt_cmpR (op_neD hr.units) (pe_callG GT gu (hrX (by decide)) (by rfl) gT kT bT (pa_cons pe_int (pa_cons (pv 4) (pa_cons (pe_lst (pa_cons (pv 10) pa_nil)) pa_nil)))) (pe_lst (pa_cons pe_str (pa_cons pe_str pa_nil))) (nomark _))))) (pss_one (ps_ret pe_bl)) pss_nil)))
        (pss_cons (ps_for PassesOwn.never rfl (pi_list (pe_dget hu (pv 3) pe_str (fun _ _ => rfl))) (pg_name (i := 11) scLaw.nd rfl (.inl rfl)) (pss_cons (ps_set (i := 12) scLaw.nd rfl (.inl rfl) (pe_callTy call_dictD (by rfl) M.dict (by decide +kernel) (pa_cons (pv 5) pa_nil)))
        (pss_cons (ps_dput hu (pv 12) (pe_ix ix_tup (pv 11) pe_int (fun _ _ => rfl)) pe_int (by rfl))
        (pss_cons (ps_set (i := 13) scLaw.nd rfl (.inl rfl) (pe_lst (pa_cons pe_str (pa_cons (pe_callB (id := "repr") (r := rReprO K) (call_reprO (by exact gu) (by exact un0)) (by rfl) M.repr (by decide +kernel) (pa_cons (pe_ix ix_tup (pv 11) pe_int (fun _ _ => rfl)) pa_nil)) pa_nil))))
        (pss_one (ps_if (PW.pt (pw_or (pt_cmpR (op_neD hr.units) (pe_callG GT gu (hrX (by decide)) (by rfl) gT kT bT (pa_cons pe_int (pa_cons (pv 4) (pa_cons (pe_lst (pa_cons (pv 7) (pa_cons (pv 9) (pa_cons (pv 12) (pa_cons pe_non pa_nil))))) pa_nil)))) (pv 13) (nomark _)) (pw_or1 (pt_cmpR (op_neD hr.units) (pe_callG GT gu (hrX (by decide)) (by rfl) gT kT bT (pa_cons pe_int (pa_cons (pv 4) (pa_cons (pe_lst (pa_cons (pv 12) pa_nil)) pa_nil)))) (pv 13) (nomark _))))) (pss_one (ps_ret pe_bl)) pss_nil))))))
        (pss_cons (ps_for PassesOwn.never rfl (pi_list (pe_lst (pa_cons pe_non (pa_cons (pe_un un_neg pe_int) (pa_cons pe_bl (pa_cons pe_str pa_nil)))))) (pg_name (i := 10) scLaw.nd rfl (.inl rfl)) (pss_one (ps_if (pt_cmpR (op_neD hr.units) (pe_callG GT gu (hrX (by decide)) (by rfl) gT kT bT (pa_cons pe_int (pa_cons (pv 4) (pa_cons (pe_lst (pa_cons (pv 7) (pa_cons (pv 9) (pa_cons (pv 5) (pa_cons (pv 10) pa_nil))))) pa_nil)))) (pe_lst (pa_cons pe_str (pa_cons (pe_callB (id := "repr") (r := rReprO K) (call_reprO (by exact gu) (by exact un0)) (by rfl) M.repr (by decide +kernel) (pa_cons (pv 10) pa_nil)) pa_nil))) (nomark _)) (pss_one (ps_ret pe_bl)) pss_nil)))
        (pss_one (ps_if (PW.pt (pw_or (pt_not (pt_val (pe_callG GR gu (hrX (by decide)) (by rfl) gR kR bR (pa_cons (pv 3) (pa_cons (pv 8) pa_nil))))) (pw_or (pt_cmpR op_ne (pe_callB (call_ownLen OL (hrX (by decide)) pass0) (by rfl) M.len PySem.boot_len (pa_cons (pv 8) pa_nil)) pe_int (nomark _)) (pw_or1 (pt_cmpR (op_ne_dictA hr.units0) (pe_meth0 (pv 8) WK.cl mS GS (hrX (by decide)) bS .nil pass0) (pv 5) (nomark _)))))) (pss_one (ps_ret pe_bl)) pss_nil)))))))))))))
      (pss_one (ps_ret pe_bl)), ?_⟩
    refine ⟨.ref a, rfl, a, _, rfl, .inl hS, _, _, rfl, _, _, rfl, _, rfl, range_bounds.1, range_bounds.2, ?_⟩
    refine for_range (lo := 0) (n := _) (fun i σ H' => ∃ y1 y2 y3 y4 y5 y6 y7 y8 y9 y10 y11 y12 y13, σ = [some (.ref a), y1, y2, y3, y4, y5, y6, y7, y8, y9, y10, y11, y12, y13] ∧ Same H H')
      ⟨none, none, none, none, none, none, none, none, none, none, none, none, none, rfl, Same.refl H⟩ (fun i σ H0 hi hW => ?_) (fun σ H0 hW => q H0)
    obtain ⟨y1, y2, y3, y4, y5, y6, y7, y8, y9, y10, y11, y12, y13, rfl, s0⟩ := hW
    have ht := turns hi
    rw [List.length_map] at ht
    refine ⟨.ref a, rfl, _, rfl, a, ns, i, (by show ([V.ref a, V.int (0 + (i : Int))] : List V) = _; rw [Int.zero_add]), s0.seq hS, ht.1, ht.2.imp id (fun e => List.eq_nil_of_length_eq_zero e), fun H1 p np s1 hp => ?_⟩
    have nHp : H p = none := s0.free np
    dsimp only [gName, List.set]
    refine ⟨.ref p, rfl, p, 3, 2, rfl, hp, by decide, by decide, by decide, fun b words cells fs H2 b2 hp2 lw wn wnd wz bk ok lf nb => ?_⟩
    have s2 : Same H H2 := same_but (s0.trans s1) nHp b2
    have fit := ok.fit (by decide) wn wnd lf
    have l3 := ok.lf
    have c3 := ok.lc
    have nz : ∀ z ∈ fs.map (·.nm) ++ cells.map (·.1), isName (.str z) = true ∧ z ≠ "zzzzzzzz" := fun z hz => by
      rcases List.mem_append.mp hz with hz | hz
      · obtain ⟨F, hF, rfl⟩ := List.mem_map.mp hz
        obtain ⟨m, hm⟩ := List.getElem?_of_mem hF
        have mw := List.mem_of_getElem? (ok.fn m F hm).1
        exact ⟨wn _ mw, (wz _ mw).2.2⟩
      · obtain ⟨c, hc, rfl⟩ := List.mem_map.mp hz
        obtain ⟨m, hm⟩ := List.getElem?_of_mem hc
        have mw := List.mem_of_getElem? (ok.cn m c hm).1
        exact ⟨wn _ mw, (wz _ mw).2.2⟩
    dsimp only [gName, List.set]
    -- the book, a state, a function
    refine ⟨.ref b, rfl, b, cells, fs, rfl, bk, fit, fun bb H3 s3 nbb hB => ?_⟩
    have hp3 : PoolAt H3 p := hp2.same s3
    have bk3 : BkAt K cells fs H3 b := bk.same s3
    refine ⟨.ref p, rfl, .ref b, rfl, p, b, cells, fs, rfl, hp3, bk3, fit.nc, c3, fun g st H4 b4 hp4 ng eg sl st3 => ?_⟩
    have bk4 := bk3.pool hp3 b4
    obtain ⟨cc, ff, ts, gs, f0, f1, f2, r1, r2⟩ := id bk4
    obtain ⟨qx, qy, ep3, _⟩ := id hp3
    obtain ⟨px, py, ep4, _⟩ := id hp4
    have nfp : p ≠ ff := fun e => by
      rw [← e, ep4] at f2
      have e2 := HO.lst.inj (Option.some.inj f2)
      obtain ⟨F, hF⟩ : ∃ F, fs[0]? = some F := ⟨_, List.getElem?_eq_getElem lf⟩
      obtain ⟨g, _, _, hg, _⟩ := r2.2 0 (.int px) F (by rw [← e2]; rfl) hF
      cases hg
    refine ⟨.ref p, rfl, .ref b, rfl, b, .ref ff, rfl, dg f0 "functions" rfl, p, ff, gs, rfl, hp4, nfp, .inl (.inl (.inl f2)), by rw [r2.1]; omega, by rw [r2.1]; omega, fun m hm H5 b5 hp5 fr5 => ?_⟩
    obtain ⟨F, hF⟩ : ∃ F, fs[m]? = some F := ⟨_, List.getElem?_eq_getElem (by rw [← r2.1]; exact hm)⟩
    obtain ⟨fa, vr, vw, eg4, ef4, d1, d2, n1, n2⟩ := r2.2 m _ F (List.getElem?_eq_getElem hm) hF
    rw [eg4]
    refine ⟨_, _, _, rfl, ?_⟩
    have mF : F ∈ fs := List.mem_of_getElem? hF
    have mn : F.many ≤ 2 := (fit.fn m F hF).many
    have bk5 := bk4.pool hp4 b5
    have hB5 := hB.but ep3 (b4.trans b5)
    have eg5 := b5 _ _ eg (ne_of eg ep4 (fun z => nomatch z))
    have ef5 : H5 fa = _ := b5 _ _ ef4 (ne_of ef4 ep4 (fun z => nomatch z))
    have fd5 : FDrAt K H5 (.ref fa) F := ⟨fa, vr, vw, rfl, ef5, dp_tups (fun _ _ => but_sqT ep4 b5) _ _ n1 d1, dp_tups (fun _ _ => but_sqT ep4 b5) _ _ n2 d2, n1, n2⟩
    have s5 : Same H H5 := same_but (s0.trans s1) nHp (b2.trans ((But.of s3).trans (b4.trans b5)))
    clear b4 b5 hp4 hp5 ep4 ep3 hp3 bk3 bk4 d1 d2 eg f0 f1 f2 r1 r2 fr5 hB s3 bk hp2 b2
    dsimp only [gName, List.set]
    -- its name, a World
    refine ⟨.ref fa, rfl, fa, .str F.nm, rfl, dg ef5 "name" rfl, .ref b, rfl, b, cells, fs, rfl, bk5, fit, fun b2 H6 s6 nb2 hB2 => ⟨.ref g, rfl, fun wa dw nwa ndw new => ?_⟩⟩
    refine ⟨wa, dw, b2, .ref g, cells, fs.map fxOf, H6, rfl, upd_same, made_same nwa ndw, nwa, hB2, fit.nc, c3, .inr ⟨st, ⟨g, rfl, s6 _ _ eg5, sl, st3⟩, fun H7 s7 hW => ⟨rfl, _, _, rfl, ?_⟩⟩⟩
    have s57 := s6.trans s7
    dsimp only [gName, List.set]
    refine ⟨by show 1 ≤ sizeLine; decide, fun l0 nl0 => ?_⟩
    have sl0 := same_upd (o := HO.lst [.int 0]) nl0
    have el0 : (upd H7 l0 (.lst [.int 0])) l0 = some (.lst [.int 0]) := upd_same
    generalize upd H7 l0 (.lst [.int 0]) = H8 at sl0 el0
    refine ⟨.ref fa, rfl, fa, .int (F.many : Nat), rfl, dg (sl0 _ _ (s57 _ _ ef5)) "many" rfl, l0, F.many, _, rfl, rfl, el0, by omega, by omega, ?_, fun vl nvl => ?_⟩
    · show 1 * (F.many : Int).toNat ≤ sizeLine
      exact Nat.le_trans (show _ ≤ 2 by omega) (by decide)
    have evl : (upd H8 vl (.lst (List.replicate (F.many : Int).toNat [V.int 0]).flatten)) vl = some (.lst (List.replicate F.many (.int 0))) := by
      rw [upd_same, List.flatten_replicate_singleton]
      rfl
    have svl := same_upd (o := HO.lst (List.replicate (F.many : Int).toNat [V.int 0]).flatten) nvl
    generalize upd H8 vl (.lst (List.replicate (F.many : Int).toNat [V.int 0]).flatten) = H9 at svl evl
    have s79 := sl0.trans svl
    have s59 := s57.trans s79
    have S9 : Sit11 K H9 CW CK C CF CL b bb wa b2 g vl fa cells fs st F := ⟨hB5.same s59, ⟨bk5.same s59, hW.same s79, fit, nz⟩, s59 _ _ eg5, sl, st3, c3, mF, mn, evl, fd5.same s59⟩
    have s9 := s5.trans s59
    clear s59 s79 svl sl0 el0 nl0 s57 hW s7 s6 fd5 eg5 hB5 bk5 hB2 nb2 nwa ndw new evl nvl
    dsimp only [gName, List.set]
    obtain ⟨cc, ff, ts, gs, f0, f1, f2, rC, rF⟩ := id S9.S.bk
    have ef9 : ∀ {H' : Hp}, Same H9 H' → ∃ vr vw, H' fa = some (.dK [(.inr "name", .str F.nm), (.inr "many", .int (F.many : Nat)), (.inr "result", vr), (.inr "writes", vw), (.inr "cost", .int F.cost), (.inr "label", .str F.label)]) := fun s => by
      obtain ⟨fa', vr, vw, e, ef, _⟩ := S9.ef.same s
      cases e
      exact ⟨vr, vw, ef⟩
    have two : (2 : Nat) ≤ sizeLine := by decide
    have four : (4 : Nat) ≤ sizeLine := by decide
    -- no names
    refine ⟨by show 1 ≤ sizeLine; decide, fun la nla => ⟨by show 4 ≤ sizeLine; decide, fun l1 nl1 => ?_⟩⟩
    have sa := same_upd (o := HO.lst [.str "a"]) nla
    have ea : (upd H9 la (.lst [.str "a"])) la = some (.lst [.str "a"]) := upd_same
    generalize upd H9 la (.lst [.str "a"]) = HA at sa ea nl1 ⊢
    have sb := same_upd (o := HO.lst [.non, .int 5, .str "zzzzzzzz", .ref la]) nl1
    have eb : (upd HA l1 (.lst [.non, .int 5, .str "zzzzzzzz", .ref la])) l1 = some (.lst [.non, .int 5, .str "zzzzzzzz", .ref la]) := upd_same
    generalize upd HA l1 (.lst [.non, .int 5, .str "zzzzzzzz", .ref la]) = HB at sb eb ⊢
    have sB := sa.trans sb
    refine ⟨.ref b, rfl, b, .ref cc, rfl, dg (sB _ _ f0) "cells" rfl, cc, rfl, ⟨_, .inl (.inl (sB _ _ f1))⟩, fun D hD => ?_⟩
    refine walk_gen (walk_list (K := K) (a := cc) (xs := ts)) (fun j H' => Same HB H' ∧ H' D = some (.lst ((cells.take j).map fun c => V.str c.1))) ⟨same_upd hD, upd_same⟩ (fun j H' _ w => .inl (.inl (w.1 _ _ (sB _ _ f1)))) (fun j x HC HC' hj w y => ?_) (fun HC w => ?_)
    · obtain ⟨sC, eD⟩ := w
      obtain ⟨rfl, hx⟩ := y
      obtain ⟨c, hc⟩ : ∃ c, cells[j]? = some c := ⟨_, List.getElem?_eq_getElem (by rw [← rC.1]; exact hj)⟩
      obtain ⟨t, rfl, ht⟩ := rC.2 j x c hx hc
      refine ⟨rfl, ?_⟩
      unfold tYes
      refine iteT ⟨.ref t, rfl, t, _, 0, .str c.1, rfl, rfl, same_sqT (sB.trans sC) ht, rfl, _, eD, ?_, fun b' o e => ?_, ?_⟩
      · rw [List.length_map, List.length_take]
        exact Nat.lt_of_le_of_lt (show _ ≤ 3 by omega) (by decide)
      · rw [upd_ne (ne_of_none e hD)]
        exact sC _ _ e
      · rw [take_snoc hc, List.map_append]
        exact upd_same
    obtain ⟨sC, eD⟩ := w
    rw [List.take_of_length_le (by rw [rC.1]; exact Nat.le_refl _)] at eD
    refine ⟨l1, D, _, _, rfl, rfl, sC _ _ eb, eD, ?_, fun l nl => ⟨l, rfl, ⟨_, .inl (.inl upd_same)⟩, ?_⟩⟩
    · rw [List.length_map]
      exact Nat.le_trans (show _ ≤ 7 by simp only [List.length_cons, List.length_nil]; omega) (by decide)
    have sl1 := same_upd (o := HO.lst ([.non, .int 5, .str "zzzzzzzz", .ref la] ++ cells.map fun c => V.str c.1)) nl
    have el1 : (upd HC l (.lst ([.non, .int 5, .str "zzzzzzzz", .ref la] ++ cells.map fun c => V.str c.1))) l = some (.lst ([.non, .int 5, .str "zzzzzzzz", .ref la] ++ cells.map fun c => V.str c.1)) := upd_same
    have items : ∀ x ∈ ([.non, .int 5, .str "zzzzzzzz", .ref la] ++ cells.map fun c => V.str c.1 : List V), ∃ z, OddN K (upd HC l (.lst ([.non, .int 5, .str "zzzzzzzz", .ref la] ++ cells.map fun c => V.str c.1))) (fs.map fxOf) x z := fun x hx => by
      rcases List.mem_append.mp hx with hx | hx
      · simp only [List.mem_cons, List.not_mem_nil, or_false] at hx
        rcases hx with rfl | rfl | rfl | rfl
        · exact ⟨_, .none, .non, ⟨⟨by decide +kernel, by decide +kernel, by decide +kernel, by decide +kernel⟩, by decide +kernel⟩, rfl, rfl⟩
        · exact ⟨_, .int 5, .int 5, ⟨⟨by decide +kernel, by decide +kernel, by decide +kernel, by decide +kernel⟩, by decide +kernel⟩, rfl, rfl⟩
        · exact ⟨_, .str "zzzzzzzz", .str _, ⟨⟨by decide +kernel, by decide +kernel, by decide +kernel, by decide +kernel⟩, by decide +kernel⟩, atName_none (by rw [namesF_fx]; exact fun h => (nz _ (List.mem_append.mpr (.inl h))).2 rfl), rfl⟩
        · exact ⟨_, .list [.str "a"], .lst (.inl (.inl (sl1 _ _ (sC _ _ (sb _ _ ea))))) (.cons (.str _) .nil), ⟨⟨by decide +kernel, by decide +kernel, by decide +kernel, by decide +kernel⟩, by decide +kernel⟩, rfl, rfl⟩
      · obtain ⟨c, hc, rfl⟩ := List.mem_map.mp hx
        have mc : c.1 ∈ cells.map (·.1) := List.mem_map.mpr ⟨c, hc, rfl⟩
        exact ⟨_, .str c.1, .str _, name_ok8 (nz _ (List.mem_append.mpr (.inr mc))).1, atName_none (by rw [namesF_fx]; exact fun h => fit.dj _ h mc), rfl⟩
    have sD := sB.trans (sC.trans sl1)
    generalize upd HC l (.lst ([.non, .int 5, .str "zzzzzzzz", .ref la] ++ cells.map fun c => V.str c.1)) = HD at el1 items sD ⊢
    generalize ([.non, .int 5, .str "zzzzzzzz", .ref la] ++ cells.map fun c => V.str c.1 : List V) = xs at el1 items ⊢
    clear sl1 sC eD sb sa ea eb
    refine for_list (K := K) (a := l) (xs := xs) (fun j σ H' => ∃ z10 z11 z12 z13, σ = [some (.ref a), some (.int ((0 : Int) + (i : Nat))), some (.ref p), some (.ref b), some (.ref bb), some (.ref g), some (.ref fa), some (.str F.nm), some (.ref wa), some (.ref vl), z10, z11, z12, z13] ∧ Same HD H') ⟨_, _, _, _, rfl, Same.refl HD⟩ (fun j σ H' _ w => ?_) (fun j x σ H' hx w => ?_) (fun σ HE w => ?_)
    · obtain ⟨_, _, _, _, _, s⟩ := w
      exact .inl (.inl (s _ _ el1))
    · obtain ⟨z10, z11, z12, z13, rfl, sE⟩ := w
      obtain ⟨z, o0⟩ := items x (List.mem_of_getElem? hx)
      have o := o0.same sE
      obtain ⟨d, hd, okd, no, ez⟩ := id o
      subst ez
      have oks := ok_words (show PyData.strOk "name" = true by decide +kernel) okd.2
      have SE := S9.same (sD.trans sE)
      dsimp only [gName, List.set]
      refine nf_or (nf_told (R := R) (ys := ["name", d.shown]) (fun Q' q' => ⟨_, rfl, x, rfl, four, fun p np => q' 0 _ p _ _ (same_upd np) (.inl (.inl upd_same)) ((SE.same (same_upd np)).n0 (o.same (same_upd np)))⟩) oks (strs_repO rfl (.inl ⟨d, hd, okd.1, rfl⟩))) fun HF sF => ?_
      refine nf_if (nf_told (R := R) (ys := ["name", d.shown]) (fun Q' q' => ⟨_, rfl, x, rfl, two, fun p np => q' 2 _ p _ _ (same_upd np) (.inl (.inl upd_same)) (((SE.same sF).same (same_upd np)).n2 ((o.same sF).same (same_upd np)))⟩) oks (strs_repO rfl (.inl ⟨d, dp_same sF hd, okd.1, rfl⟩))) fun HG sG => ?_
      exact ⟨_, _, _, _, rfl, sE.trans (sF.trans sG)⟩
    obtain ⟨z10, z11, z12, z13, rfl, sE⟩ := w
    have s9E := sD.trans sE
    have SE := S9.same s9E
    clear sD sE items el1
    -- no arguments
    obtain ⟨vr9, vw9, efE⟩ := ef9 s9E
    have mI : ((F.many : Nat) : Int).toNat = F.many := Int.toNat_natCast _
    have rep1 : ∀ v : V, (List.replicate ((F.many : Nat) : Int).toNat [v]).flatten = List.replicate F.many v := fun v => by rw [mI, List.flatten_replicate_singleton]
    have lrep : ∀ v : V, (List.replicate F.many v).length = F.many := fun v => List.length_replicate
    have lz1 : (1 : Nat) * ((F.many : Nat) : Int).toNat ≤ sizeLine := by rw [mI]; exact Nat.le_trans (show _ ≤ 2 by omega) (by decide)
    have small : ∀ {n : Nat}, n ≤ 9 → n ≤ sizeLine := fun h => Nat.le_trans h (by decide)
    refine ⟨.ref vl, rfl, small (by decide), fun u1 nu1 => ?_⟩
    have t1 := same_upd (o := HO.lst [.int 0]) nu1
    have e1 : (upd HE u1 (.lst [.int 0])) u1 = some (.lst [.int 0]) := upd_same
    generalize upd HE u1 (.lst [.int 0]) = G1 at t1 e1 ⊢
    refine ⟨vl, u1, _, _, rfl, rfl, t1 _ _ SE.ev, e1, by rw [lrep]; exact small (show F.many + 1 ≤ 9 by omega), fun r1 nr1 => ?_⟩
    have t2 := same_upd (o := HO.lst (List.replicate F.many (.int 0) ++ [.int 0])) nr1
    have e2 : (upd G1 r1 (.lst (List.replicate F.many (.int 0) ++ [.int 0]))) r1 = some (.lst (List.replicate F.many (.int 0) ++ [.int 0])) := upd_same
    generalize upd G1 r1 (.lst (List.replicate F.many (.int 0) ++ [.int 0])) = G2 at t2 e2 ⊢
    have w2 := t1.trans t2
    refine ⟨.ref fa, rfl, fa, _, rfl, dg (w2 _ _ efE) "many" rfl, F.many, rfl, rfl, mn, _, _, rfl, rfl, ?_, fun d3 nd3 => ?_⟩
    · show (Array.replicate F.many 48).size + _ ≤ sizeLine
      rw [Array.size_replicate]
      exact small (show F.many + 1 ≤ 9 by omega)
    have t3 := same_upd (o := HO.dK []) nd3
    have e3 : (upd G2 d3 (.dK [])) d3 = some (.dK []) := upd_same
    generalize upd G2 d3 (.dK []) = G3 at t3 e3 ⊢
    refine ⟨small (by decide), fun u4 nu4 => ?_⟩
    have t4 := same_upd (o := HO.lst [.non]) nu4
    have e4 : (upd G3 u4 (.lst [.non])) u4 = some (.lst [.non]) := upd_same
    generalize upd G3 u4 (.lst [.non]) = G4 at t4 e4 ⊢
    have w4 := w2.trans (t3.trans t4)
    refine ⟨.ref fa, rfl, fa, _, rfl, dg (w4 _ _ efE) "many" rfl, u4, _, _, rfl, rfl, e4, by omega, by omega, lz1, fun r4 nr4 => ?_⟩
    rw [rep1]
    have t5 := same_upd (o := HO.lst (List.replicate F.many .non)) nr4
    have e5 : (upd G4 r4 (.lst (List.replicate F.many .non))) r4 = some (.lst (List.replicate F.many .non)) := upd_same
    generalize upd G4 r4 (.lst (List.replicate F.many .non)) = G5 at t5 e5 ⊢
    refine ⟨small (by decide), fun u6 nu6 => ?_⟩
    have t6 := same_upd (o := HO.lst [.int 1]) nu6
    have e6 : (upd G5 u6 (.lst [.int 1])) u6 = some (.lst [.int 1]) := upd_same
    generalize upd G5 u6 (.lst [.int 1]) = G6 at t6 e6 ⊢
    refine ⟨r4, u6, _, _, rfl, rfl, t6 _ _ e5, e6, by rw [lrep]; exact small (show F.many + 1 ≤ 9 by omega), fun r7 nr7 => ?_⟩
    have t7 := same_upd (o := HO.lst (List.replicate F.many .non ++ [.int 1])) nr7
    have e7 : (upd G6 r7 (.lst (List.replicate F.many .non ++ [.int 1]))) r7 = some (.lst (List.replicate F.many .non ++ [.int 1])) := upd_same
    generalize upd G6 r7 (.lst (List.replicate F.many .non ++ [.int 1])) = G7 at t7 e7 ⊢
    refine ⟨small (show 6 ≤ 9 by decide), fun l8 nl8 => ?_⟩
    have t8 := same_upd (o := HO.lst [.non, .int 5, .ref r1, .str (zerosT F.many ++ "0"), .ref d3, .ref r7]) nl8
    have e8 : (upd G7 l8 (.lst [.non, .int 5, .ref r1, .str (zerosT F.many ++ "0"), .ref d3, .ref r7])) l8 = some (.lst [.non, .int 5, .ref r1, .str (zerosT F.many ++ "0"), .ref d3, .ref r7]) := upd_same
    generalize upd G7 l8 (.lst [.non, .int 5, .ref r1, .str (zerosT F.many ++ "0"), .ref d3, .ref r7]) = G8 at t8 e8 ⊢
    have w8 := w4.trans (t5.trans (t6.trans (t7.trans t8)))
    refine ⟨small (by decide), fun u9 nu9 => ?_⟩
    have t9 := same_upd (o := HO.lst [.int 3]) nu9
    have e9 : (upd G8 u9 (.lst [.int 3])) u9 = some (.lst [.int 3]) := upd_same
    generalize upd G8 u9 (.lst [.int 3]) = G9 at t9 e9 ⊢
    have w9 := w8.trans t9
    refine ⟨.ref fa, rfl, fa, _, rfl, dg (w9 _ _ efE) "many" rfl, u9, _, _, rfl, rfl, e9, by omega, by omega, lz1, fun r10 nr10 => ?_⟩
    rw [rep1]
    have t10 := same_upd (o := HO.lst (List.replicate F.many (.int 3))) nr10
    have e10 : (upd G9 r10 (.lst (List.replicate F.many (.int 3)))) r10 = some (.lst (List.replicate F.many (.int 3))) := upd_same
    generalize upd G9 r10 (.lst (List.replicate F.many (.int 3))) = G10 at t10 e10 ⊢
    refine ⟨small (by decide), fun u11 nu11 => ?_⟩
    have t11 := same_upd (o := HO.lst [.bl true]) nu11
    have e11 : (upd G10 u11 (.lst [.bl true])) u11 = some (.lst [.bl true]) := upd_same
    generalize upd G10 u11 (.lst [.bl true]) = G11 at t11 e11 ⊢
    have w11 := w9.trans (t10.trans t11)
    refine ⟨.ref fa, rfl, fa, _, rfl, dg (w11 _ _ efE) "many" rfl, u11, _, _, rfl, rfl, e11, by omega, by omega, lz1, fun r12 nr12 => ?_⟩
    rw [rep1]
    have t12 := same_upd (o := HO.lst (List.replicate F.many (.bl true))) nr12
    have e12 : (upd G11 r12 (.lst (List.replicate F.many (.bl true)))) r12 = some (.lst (List.replicate F.many (.bl true))) := upd_same
    generalize upd G11 r12 (.lst (List.replicate F.many (.bl true))) = G12 at t12 e12 ⊢
    refine ⟨small (show 2 ≤ 9 by decide), fun l13 nl13 => ?_⟩
    have t13 := same_upd (o := HO.lst [.ref r10, .ref r12]) nl13
    have e13 : (upd G12 l13 (.lst [.ref r10, .ref r12])) l13 = some (.lst [.ref r10, .ref r12]) := upd_same
    generalize upd G12 l13 (.lst [.ref r10, .ref r12]) = G13 at t13 e13 ⊢
    have w13 := w11.trans (t12.trans t13)
    refine ⟨.ref fa, rfl, fa, _, rfl, dg (w13 _ _ efE) "many" rfl, _, _, rfl, _, _, rfl, rfl, ?_, _, rfl, l13, _, rfl, .inl (.inl e13), fun r14 nr14 => ?_⟩
    · refine .inl ⟨by decide, by decide⟩
    have t14 := same_upd (o := HO.lst (cutV [.ref r10, .ref r12] none (some (2 * (if ((F.many : Nat) : Int) < 1 then ((F.many : Nat) : Int) else 1))))) nr14
    have e14 : (upd G13 r14 (.lst (cutV [.ref r10, .ref r12] none (some (2 * (if ((F.many : Nat) : Int) < 1 then ((F.many : Nat) : Int) else 1)))))) r14 = some (.lst (cutV [.ref r10, .ref r12] none (some (2 * (if ((F.many : Nat) : Int) < 1 then ((F.many : Nat) : Int) else 1))))) := upd_same
    have c14 := cutV_length [.ref r10, .ref r12] none (some (2 * (if ((F.many : Nat) : Int) < 1 then ((F.many : Nat) : Int) else 1)))
    have m14 : ∀ u ∈ cutV [.ref r10, .ref r12] none (some (2 * (if ((F.many : Nat) : Int) < 1 then ((F.many : Nat) : Int) else 1))), (F.many = 1 ∨ F.many = 2) ∧ (u = .ref r10 ∨ u = .ref r12) := fun u hu => cut_two mn hu
    generalize upd G13 r14 (.lst (cutV [.ref r10, .ref r12] none (some (2 * (if ((F.many : Nat) : Int) < 1 then ((F.many : Nat) : Int) else 1))))) = G14 at t14 e14 ⊢
    generalize cutV [.ref r10, .ref r12] none (some (2 * (if ((F.many : Nat) : Int) < 1 then ((F.many : Nat) : Int) else 1))) = cs at e14 c14 m14 ⊢
    have v8 := t9.trans (t10.trans (t11.trans (t12.trans (t13.trans t14))))
    refine ⟨l8, r14, _, _, rfl, rfl, v8 _ _ e8, e14, small (show 6 + cs.length ≤ 9 by have : cs.length ≤ 2 := c14; omega), fun l nl => ⟨l, rfl, ⟨_, .inl (.inl upd_same)⟩, ?_⟩⟩
    have t15 := same_upd (o := HO.lst ([.non, .int 5, .ref r1, .str (zerosT F.many ++ "0"), .ref d3, .ref r7] ++ cs)) nl
    have el2 : (upd G14 l (.lst ([.non, .int 5, .ref r1, .str (zerosT F.many ++ "0"), .ref d3, .ref r7] ++ cs))) l = some (.lst ([.non, .int 5, .ref r1, .str (zerosT F.many ++ "0"), .ref d3, .ref r7] ++ cs)) := upd_same
    generalize upd G14 l (.lst ([.non, .int 5, .ref r1, .str (zerosT F.many ++ "0"), .ref d3, .ref r7] ++ cs)) = GL at t15 el2 ⊢
    have n3 : F.many = 0 ∨ F.many = 1 ∨ F.many = 2 := by omega
    have items2 : ∀ x ∈ ([.non, .int 5, .ref r1, .str (zerosT F.many ++ "0"), .ref d3, .ref r7] ++ cs : List V), ∃ z, OddA K GL F.many x z := fun x hx => by
      have v15 := v8.trans t15
      rcases List.mem_append.mp hx with hx | hx
      · simp only [List.mem_cons, List.not_mem_nil, or_false] at hx
        rcases hx with rfl | rfl | rfl | rfl | rfl | rfl
        · exact oddA_flat .non (by decide +kernel) rfl (okD_of (by decide +kernel))
        · exact oddA_flat (.int 5) (by decide +kernel) rfl (okD_of (by decide +kernel))
        · refine oddA_list ((t3.trans (t4.trans (t5.trans (t6.trans (t7.trans (t8.trans v15)))))) _ _ e2) (dpA_app (rep_dp (.int 0) F.many) (.cons (.int 0) .nil)) ?_
          rcases n3 with e | e | e <;> rw [e] <;> exact ⟨by decide +kernel, by decide +kernel, by decide +kernel, okD_of (by decide +kernel)⟩
        · refine oddA_flat (.str _) ?_ rfl ?_
          · rcases n3 with e | e | e <;> rw [e] <;> decide +kernel
          · rcases n3 with e | e | e <;> rw [e] <;> exact okD_of (by decide +kernel)
        · exact ⟨"{}", .emp, ⟨d3, rfl, (t4.trans (t5.trans (t6.trans (t7.trans (t8.trans v15))))) _ _ e3⟩, (fun es q => by rcases q with q | q <;> cases q), rfl, .inr ⟨d3, rfl, (t4.trans (t5.trans (t6.trans (t7.trans (t8.trans v15))))) _ _ e3, rfl⟩, by decide +kernel⟩
        · refine oddA_list ((t8.trans v15) _ _ e7) (dpA_app (rep_dp .non F.many) (.cons (.int 1) .nil)) ?_
          rcases n3 with e | e | e <;> rw [e] <;> exact ⟨by decide +kernel, by decide +kernel, by decide +kernel, okD_of (by decide +kernel)⟩
      · obtain ⟨n2, hx⟩ := m14 x hx
        rcases hx with rfl | rfl
        · refine oddA_list ((t11.trans (t12.trans (t13.trans (t14.trans t15)))) _ _ e10) (rep_dp (.int 3) F.many) ?_
          rcases n2 with e | e <;> rw [e] <;> exact ⟨by decide +kernel, by decide +kernel, by decide +kernel, okD_of (by decide +kernel)⟩
        · refine oddA_list ((t13.trans (t14.trans t15)) _ _ e12) (rep_dp (.bl true) F.many) ?_
          rcases n2 with e | e <;> rw [e] <;> exact ⟨by decide +kernel, by decide +kernel, by decide +kernel, okD_of (by decide +kernel)⟩
    have sEL := w8.trans (v8.trans t15)
    generalize ([.non, .int 5, .ref r1, .str (zerosT F.many ++ "0"), .ref d3, .ref r7] ++ cs : List V) = xs2 at el2 items2 ⊢
    clear t1 t2 t3 t4 t5 t6 t7 t8 t9 t10 t11 t12 t13 t14 t15 e1 e2 e3 e4 e5 e6 e7 e8 e9 e10 e11 e12 e13 e14 w2 w4 w8 w9 w11 w13 v8 m14 c14
    refine for_list (K := K) (a := l) (xs := xs2) (fun j σ H' => ∃ z10 z11 z12 z13, σ = [some (.ref a), some (.int ((0 : Int) + (i : Nat))), some (.ref p), some (.ref b), some (.ref bb), some (.ref g), some (.ref fa), some (.str F.nm), some (.ref wa), some (.ref vl), z10, z11, z12, z13] ∧ Same GL H') ⟨_, _, _, _, rfl, Same.refl GL⟩ (fun j σ H' _ w => ?_) (fun j x σ H' hx w => ?_) (fun σ HF w => ?_)
    · obtain ⟨_, _, _, _, _, s⟩ := w
      exact .inl (.inl (s _ _ el2))
    · obtain ⟨z10, z11, z12, z13, rfl, sF⟩ := w
      obtain ⟨z, o0⟩ := items2 x (List.mem_of_getElem? hx)
      have o := o0.same sF
      obtain ⟨_, _, _, _, hsh, okz⟩ := id o
      have oks := ok_words (show PyData.strOk "arguments" = true by decide +kernel) okz
      have SF := SE.same (sEL.trans sF)
      dsimp only [gName, List.set]
      refine nf_or (nf_told (R := R) (ys := ["arguments", z]) (fun Q' q' => ⟨_, rfl, _, rfl, x, rfl, four, fun p np => q' 0 _ p _ _ (same_upd np) (.inl (.inl upd_same)) ((SF.same (same_upd np)).a0 (o.same (same_upd np)))⟩) oks (strs_repO rfl hsh)) fun HF sF2 => ?_
      refine nf_if (nf_told (R := R) (ys := ["arguments", z]) (fun Q' q' => ⟨_, rfl, _, rfl, x, rfl, two, fun p np => q' 2 _ p _ _ (same_upd np) (.inl (.inl upd_same)) (((SF.same sF2).same (same_upd np)).a2 ((o.same sF2).same (same_upd np)))⟩) oks (strs_repO rfl (hsh.same sF2))) fun HG sG => ?_
      exact ⟨_, _, _, _, rfl, sF.trans (sF2.trans sG)⟩
    obtain ⟨z10, z11, z12, z13, rfl, sF⟩ := w
    have sEF := sEL.trans sF
    have SF := SE.same sEF
    have s9F := s9E.trans sEF
    clear sEL sF items2 el2 sEF
    -- no states
    have okS := ok_words (w := "state") (z := "None") (by decide +kernel) (by decide +kernel)
    refine ⟨small (by decide), fun u1 nu1 => ?_⟩
    have t1 := same_upd (o := HO.lst []) nu1
    have e1 : (upd HF u1 (.lst [])) u1 = some (.lst []) := upd_same
    generalize upd HF u1 (.lst []) = G1 at t1 e1 ⊢
    refine fun d2 nd2 => ⟨upd_same, [(.inr "zzzzzzzz", .int 0), (.inr "y", .int 1), (.inr "x", .int 2), (.inr "w", .int 0)], rfl, by decide, ?_⟩
    have t2 : Same G1 (upd (upd G1 d2 (.dK [])) d2 (.dK (mergeK [] [((.inr "zzzzzzzz" : Key), V.int 0), (.inr "y", .int 1), (.inr "x", .int 2), (.inr "w", .int 0)]))) := but_new_same (same_upd nd2) nd2 But.upd
    have e2 : (upd (upd G1 d2 (.dK [])) d2 (.dK (mergeK [] [((.inr "zzzzzzzz" : Key), V.int 0), (.inr "y", .int 1), (.inr "x", .int 2), (.inr "w", .int 0)]))) d2 = some (.dK (mergeK [] [((.inr "zzzzzzzz" : Key), V.int 0), (.inr "y", .int 1), (.inr "x", .int 2), (.inr "w", .int 0)])) := upd_same
    generalize upd (upd G1 d2 (.dK [])) d2 (.dK (mergeK [] [((.inr "zzzzzzzz" : Key), V.int 0), (.inr "y", .int 1), (.inr "x", .int 2), (.inr "w", .int 0)])) = G2 at t2 e2 ⊢
    refine ⟨small (show 5 ≤ 9 by decide), fun l nl => ⟨l, rfl, ⟨_, .inl (.inl upd_same)⟩, ?_⟩⟩
    have t3 := same_upd (o := HO.lst [.non, .int 5, .ref u1, .str "ab", .ref d2]) nl
    have el3 : (upd G2 l (.lst [.non, .int 5, .ref u1, .str "ab", .ref d2])) l = some (.lst [.non, .int 5, .ref u1, .str "ab", .ref d2]) := upd_same
    generalize upd G2 l (.lst [.non, .int 5, .ref u1, .str "ab", .ref d2]) = GL at t3 el3 ⊢
    have items3 : ∀ x ∈ ([.non, .int 5, .ref u1, .str "ab", .ref d2] : List V), StBad K GL cells x .non := fun x hx => by
      simp only [List.mem_cons, List.not_mem_nil, or_false] at hx
      rcases hx with rfl | rfl | rfl | rfl | rfl
      · exact .inl ⟨.none, .non, rfl⟩
      · exact .inl ⟨.int 5, .int 5, rfl⟩
      · exact .inl ⟨.list [], .lst (.inl (.inl ((t2.trans t3) _ _ e1))) .nil, rfl⟩
      · exact .inl ⟨.str "ab", .str _, rfl⟩
      · refine .inr (.inl ⟨d2, _, rfl, t3 _ _ e2, ?_, ?_, rfl⟩)
        · have : (mergeK [] [((.inr "zzzzzzzz" : Key), V.int 0), (.inr "y", .int 1), (.inr "x", .int 2), (.inr "w", .int 0)]).length = 4 := by decide +kernel
          omega
        · decide +kernel
    have sFL := t1.trans (t2.trans t3)
    generalize ([.non, .int 5, .ref u1, .str "ab", .ref d2] : List V) = xs3 at el3 items3 ⊢
    clear t1 t2 t3 e1 e2
    refine for_list (K := K) (a := l) (xs := xs3) (fun j σ H' => ∃ z10 z11 z12 z13, σ = [some (.ref a), some (.int ((0 : Int) + (i : Nat))), some (.ref p), some (.ref b), some (.ref bb), some (.ref g), some (.ref fa), some (.str F.nm), some (.ref wa), some (.ref vl), z10, z11, z12, z13] ∧ Same GL H') ⟨_, _, _, _, rfl, Same.refl GL⟩ (fun j σ H' _ w => ?_) (fun j x σ H' hx w => ?_) (fun σ HG w => ?_)
    · obtain ⟨_, _, _, _, _, s⟩ := w
      exact .inl (.inl (s _ _ el3))
    · obtain ⟨z10, z11, z12, z13, rfl, sG⟩ := w
      have o := (items3 x (List.mem_of_getElem? hx)).same sG
      have SG := SF.same (sFL.trans sG)
      dsimp only [gName, List.set]
      refine nf_or (nf_told (R := R) (ys := ["state", "None"]) (fun Q' q' => ⟨_, rfl, _, rfl, _, rfl, x, rfl, four, fun p np => q' 0 _ p _ _ (same_upd np) (.inl (.inl upd_same)) ((SG.same (same_upd np)).s0 (o.same (same_upd np)) sh_none)⟩) okS strs_two) fun HF sF2 => ?_
      refine nf_if (nf_told (R := R) (ys := ["state", "None"]) (fun Q' q' => ⟨_, rfl, x, rfl, small (show 1 ≤ 9 by decide), fun p np => q' 1 _ p _ _ (same_upd np) (.inl (.inl upd_same)) (((SG.same sF2).same (same_upd np)).s1 ((o.same sF2).same (same_upd np)) sh_none)⟩) okS strs_two) fun HG sG2 => ?_
      exact ⟨_, _, _, _, rfl, sG.trans (sF2.trans sG2)⟩
    obtain ⟨z10, z11, z12, z13, rfl, sG⟩ := w
    have sFG := sFL.trans sG
    have SG := SF.same sFG
    have s9G := s9F.trans sFG
    clear sFL sG items3 el3 sFG
    -- a state bent
    refine ⟨.ref b, rfl, b, .ref cc, rfl, dg (s9G _ _ f0) "cells" rfl, cc, rfl, ⟨_, .inl (.inl (s9G _ _ f1))⟩, ?_⟩
    refine for_list (K := K) (a := cc) (xs := ts) (fun j σ H' => ∃ z10 z11 z12 z13, σ = [some (.ref a), some (.int ((0 : Int) + (i : Nat))), some (.ref p), some (.ref b), some (.ref bb), some (.ref g), some (.ref fa), some (.str F.nm), some (.ref wa), some (.ref vl), z10, z11, z12, z13] ∧ Same HG H') ⟨_, _, _, _, rfl, Same.refl HG⟩ (fun j σ H' _ w => ?_) (fun j x σ H' hx w => ?_) (fun σ HH w => ?_)
    · obtain ⟨_, _, _, _, _, s⟩ := w
      exact .inl (.inl (s _ _ (s9G _ _ f1)))
    · obtain ⟨z10, z11, z12, z13, rfl, sH⟩ := w
      obtain ⟨c, hc⟩ : ∃ c, cells[j]? = some c := ⟨_, List.getElem?_eq_getElem (by rw [← rC.1]; exact (List.getElem?_eq_some_iff.mp hx).1)⟩
      obtain ⟨t, rfl, ht⟩ := rC.2 j x c hx hc
      have SH := SG.same sH
      have ht' := same_sqT (s9G.trans sH) ht
      have mc : c.1 ∈ cells.map (·.1) := List.mem_map.mpr ⟨c, List.mem_of_getElem? hc, rfl⟩
      have okc := name_ok8 (nz _ (List.mem_append.mpr (.inr mc))).1
      have js : j < st.length := by rw [sl]; exact (List.getElem?_eq_some_iff.mp hc).1
      dsimp only [gName, List.set]
      refine ⟨.ref g, rfl, g, _, rfl, .inl SH.eg, fun h nh => ?_⟩
      dsimp only [gName, List.set]
      have t1 := same_upd (o := HO.dK (stK cells st)) nh
      have e1 : (upd H' h (.dK (stK cells st))) h = some (.dK (stK cells st)) := upd_same
      generalize upd H' h (.dK (stK cells st)) = G1 at t1 e1 ⊢
      refine ⟨.ref h, rfl, .ref t, rfl, t, _, 0, .str c.1, rfl, rfl, same_sqT t1 ht', rfl, h, _, rfl, .inl ⟨_, .inr c.1, e1, rfl, ?_, rfl⟩, ?_⟩
      · unfold stK
        rw [List.length_map, List.length_zip]
        exact Nat.lt_of_le_of_lt (show _ ≤ 3 by omega) (by decide)
      have t2 : Same H' (upd G1 h (.dK (putK (stK cells st) (.inr c.1 : Key) (.int 3)))) := but_new_same t1 nh But.upd
      have e2 : (upd G1 h (.dK (putK (stK cells st) (.inr c.1 : Key) (.int 3)))) h = some (.dK (stK cells (st.set j 3))) := by rw [upd_same, stK_set fit.nc hc sl]
      generalize upd G1 h (.dK (putK (stK cells st) (.inr c.1 : Key) (.int 3))) = G2 at t2 e2 ⊢
      dsimp only [tNext]
      refine ⟨.ref t, rfl, t, _, 0, .str c.1, rfl, rfl, same_sqT t2 ht', rfl, .str c.1, _, rfl, .inl ⟨.str c.1, .str _, okc.1, rfl⟩, two, fun d nd => ?_⟩
      dsimp only [gName, List.set]
      have t3 := same_upd (o := HO.lst [.str "state", .str (PyData.shown (.str c.1))]) nd
      have e3 : (upd G2 d (.lst [.str "state", .str (PyData.shown (.str c.1))])) d = some (.lst ((["state", PyData.shown (.str c.1)] : List Str).map V.str)) := upd_same
      generalize upd G2 d (.lst [.str "state", .str (PyData.shown (.str c.1))]) = G3 at t3 e3 ⊢
      have w3 := t2.trans t3
      have bad : ∀ {H5 : Hp}, Same G3 H5 → StBad K H5 cells (.ref h) (.str c.1) := fun s5 => by
        refine .inr (.inr ⟨h, st.set j 3, j, c, 3, rfl, s5 _ _ (t3 _ _ e2), by rw [List.length_set]; exact sl, hc, by rw [List.getElem?_set_self js], by omega, fun m v hm hv => ?_, rfl⟩)
        rw [List.getElem?_set_ne (by omega)] at hv
        exact st3 _ (List.mem_of_getElem? hv)
      have oks := ok_words (show PyData.strOk "state" = true by decide +kernel) okc.2
      have SG3 := SH.same w3
      have shc : ∀ {H5 : Hp}, ShAt K H5 (.str c.1) (PyData.shown (.str c.1)) := .inl ⟨.str c.1, .str _, okc.1, rfl⟩
      refine nf_or (nf_told (R := R) (ys := ["state", PyData.shown (.str c.1)]) (fun Q' q' => ⟨_, rfl, _, rfl, _, rfl, _, rfl, four, fun p np => q' 0 _ p _ _ (same_upd np) (.inl (.inl upd_same)) ((SG3.same (same_upd np)).s0 (bad (same_upd np)) shc)⟩) oks (strs_var rfl e3)) fun H5 s5 => ?_
      refine nf_if (nf_told (R := R) (ys := ["state", PyData.shown (.str c.1)]) (fun Q' q' => ⟨_, rfl, _, rfl, small (show 1 ≤ 9 by decide), fun p np => q' 1 _ p _ _ (same_upd np) (.inl (.inl upd_same)) (((SG3.same s5).same (same_upd np)).s1 (bad (s5.trans (same_upd np))) shc)⟩) oks (strs_var rfl (s5 _ _ e3))) fun H6 s6 => ?_
      exact ⟨_, _, _, _, rfl, sH.trans (w3.trans (s5.trans s6))⟩
    obtain ⟨z10, z11, z12, z13, rfl, sH⟩ := w
    have SH := SG.same sH
    have s9H := s9G.trans sH
    -- no ticks
    refine q_forD (ds := [.none, .int (-1), .bool true, .str "1"]) (da_cons dat_non (da_cons dat_neg (da_cons dat_bl (da_cons dat_str da_nil)))) (by show 4 ≤ sizeLine; decide)
      (fun m σ G H' => ∃ z10 z11 z12 z13, σ = [some (.ref a), some (.int ((0 : Int) + (i : Nat))), some (.ref p), some (.ref b), some (.ref bb), some (.ref g), some (.ref fa), some (.str F.nm), some (.ref wa), some (.ref vl), z10, z11, z12, z13] ∧ Same G H') (fun G' => ⟨_, _, _, _, rfl, Same.refl _⟩) (fun m σ G H' w => by obtain ⟨_, _, _, _, _, s⟩ := w; exact s) (fun G s1 m x d σ H2 hd hx w => ?_) (fun G σ H2 s1 w => ?_)
    · obtain ⟨z10, z11, z12, z13, rfl, s3⟩ := w
      obtain ⟨hz, no, ok⟩ : szD d = true ∧ tickB d = false ∧ OkD d := by
        match m, hd with
        | 0, h => cases h; exact ⟨by decide +kernel, rfl, okD_of (by decide +kernel)⟩
        | 1, h => cases h; exact ⟨by decide +kernel, by decide +kernel, okD_of (by decide +kernel)⟩
        | 2, h => cases h; exact ⟨by decide +kernel, rfl, okD_of (by decide +kernel)⟩
        | 3, h => cases h; exact ⟨by decide +kernel, rfl, okD_of (by decide +kernel)⟩
        | m + 4, h => simp at h
      have hx2 := dp_same s3 hx
      have S2 := SH.same (s1.trans s3)
      have oks := ok_words (show PyData.strOk "tick" = true by decide +kernel) ok.2
      dsimp only [gName, List.set]
      refine nf_if (nf_told (R := R) (ys := ["tick", d.shown]) (fun Q' q' => ⟨_, rfl, _, rfl, _, rfl, _, rfl, x, rfl, four, fun p np => q' 0 _ p _ _ (same_upd np) (.inl (.inl upd_same)) ((S2.same (same_upd np)).t0 (dp_same (same_upd np) hx2) hz no ok)⟩) oks (strs_repO rfl (.inl ⟨d, hx2, ok.1, rfl⟩))) fun H6 s6 => ?_
      exact ⟨_, _, _, _, rfl, s3.trans s6⟩
    obtain ⟨z10, z11, z12, z13, rfl, s3⟩ := w
    have S2 := SH.same (s1.trans s3)
    have s92 := s9H.trans (s1.trans s3)
    -- the World's cells, its length, its state
    refine ⟨.ref b, rfl, .ref wa, rfl, b, wa, b2, cells, fs, st, rfl, S2.S, fun H5 s5 => ⟨true, rfl, iteF ?_⟩⟩
    have S5 := S2.same s5
    obtain ⟨dxw, tw, caw, clw, eww, _⟩ := id S5.S.w
    refine ⟨.ref wa, rfl, wa, dxw, _, rfl, eww, wa, b2, cells, _, st, rfl, S5.S.w, 0, rfl, by decide, rfl, _, rfl, iteF' (by decide +kernel) ?_⟩
    refine ⟨.ref wa, rfl, wa, dxw, _, rfl, eww, rfl, wa, b2, cells, _, st, rfl, S5.S.w, fun g2 H6 s6 ng2 eg2 => ?_⟩
    refine ⟨.ref g, rfl, g2, g, _, _, rfl, rfl, eg2, s6 _ _ S5.eg, rfl, stK_self fit.nc, false, rfl, iteF ?_⟩
    exact ⟨_, _, _, _, _, _, _, _, _, _, _, _, _, rfl, s9.trans (s92.trans (s5.trans s6))⟩
end
/-! ### UnknownName -/
abbrev sUnkErr : Stmt := inClass (topS 11) 0
theorem scUnkErr : FnScope ["self", "name"] ["self", "name"] (defScope sUnkErr) := ⟨rfl, rfl, rfl, by decide +kernel, rfl, by decide +kernel, by decide +kernel⟩
section
variable {P : Program} {w : World} {K : PySem.W.Frag} {mg : Str → Option Value} {base : Heap}
theorem ok_Unknown {C g : Addr} {fd : FuncData} (F : Fun K "__init__" "UnknownName.__init__" sUnkErr g fd) (nb : mg "KeyError" = none) (fi : PySem.W.findCls K (.type "KeyError") (.type "type") "__init__" = some (.val (.builtin "KeyError.__init__"))) (oex : OexG K famK C) (no : PySem.W.findIn K (.ref C) "name" = some none) : FnOk P w K mg base CX0 1 g fd ["self", "name"] (spErr C "name") :=
  F.ok scUnkErr (fun vs H Q E ⟨a, v, e, _⟩ => by subst e; rfl) (fun cdv A outer s H vs Q E hr ⟨a, v, ev, e, q⟩ => by
    subst ev
    exact ⟨_, pss_cons (ps_expr (pe_iniBlt famK_ok (by rfl) nb (by decide +kernel) (by kernel_rfl) (by decide +kernel) fi (by decide +kernel) (pa_cons (pv 0) (pa_cons pe_str pa_nil)))) (pss_one (ps_fst famK_ok (pv 0) (pv 1))),
      .ref a, rfl, a, C, _, rfl, (by show (1 : Nat) ≤ 1000; decide), oex, e, v, rfl, .ref a, rfl, a, C, rfl, oex, no, e, fun d nd ne => q d nd ne⟩)
end
/-! ### the table of lengths -/
def Lens (r : Option DictEntry) (o : Option Int) : Prop := match o with
  | some k => ∃ e t, r = some e ∧ e.val = .int k t
  | none => r = none
theorem lens_in {K : PySem.W.Frag} {aL : Addr} {es : Array DictEntry} {n : Nat} (l : K.lookup aL = some ⟨.type "dict", none, .dict es n, #[]⟩) {z : Str} (e : Lens (es.toList.find? (·.key.isStr z)) (lenOf z)) (o : es.toList.any (·.refKey) = false) :
    match lenOf z with
    | some k => ∃ t, PySem.W.nsIn K aL z = some (some (.int k t))
    | none => PySem.W.nsIn K aL z = some none := by
  have h : PySem.W.nsIn K aL z = (match es.toList.find? (·.key.isStr z) with
      | some e => some (some e.val)
      | none => if es.toList.any (·.refKey) then none else some none) := by
    unfold PySem.W.nsIn
    rw [l]
    rfl
  unfold Lens at e
  cases hz : lenOf z with
  | none =>
    rw [hz] at e
    show PySem.W.nsIn K aL z = some none
    have e' : es.toList.find? (·.key.isStr z) = none := e
    rw [h, e', o]
    rfl
  | some k =>
    rw [hz] at e
    obtain ⟨en, t, e1, e2⟩ := (e : ∃ en t, es.toList.find? (·.key.isStr z) = some en ∧ en.val = .int k t)
    refine ⟨t, ?_⟩
    rw [h, e1]
    show some (some en.val) = _
    rw [e2]
theorem isStr_str (a b : Str) (t : Tok) : (Value.str a t).isStr b = decide (b = a) := by
  rw [PySem.W.isStr_of]
  by_cases h : b = a
  · subst h
    rw [decide_eq_true rfl]
    simp [Value.isStrOf]
  · rw [decide_eq_false h]
    simp [Value.isStrOf]
    intro q
    exact h q.symm
theorem lens_five (z : Str) (e1 e2 e3 e4 e5 : DictEntry) {t1 t2 t3 t4 t5 : Tok} (k1 : e1.key = .str "tick" t1) (k2 : e2.key = .str "plus" t2) (k3 : e3.key = .str "less" t3) (k4 : e4.key = .str "same" t4) (k5 : e5.key = .str "if" t5)
    (v1 : ∃ t, e1.val = .int 1 t) (v2 : ∃ t, e2.val = .int 3 t) (v3 : ∃ t, e3.val = .int 3 t) (v4 : ∃ t, e4.val = .int 3 t) (v5 : ∃ t, e5.val = .int 4 t) : Lens ([e1, e2, e3, e4, e5].find? (·.key.isStr z)) (lenOf z) := by
  unfold lenOf
  rw [List.find?_cons, k1, isStr_str]
  by_cases h1 : z = "tick"
  · rw [if_pos h1, decide_eq_true h1]
    obtain ⟨t, v⟩ := v1
    exact ⟨e1, t, rfl, v⟩
  · rw [if_neg h1, decide_eq_false h1]
    show Lens (List.find? _ [e2, e3, e4, e5]) _
    rw [List.find?_cons, k2, isStr_str]
    by_cases h2 : z = "plus"
    · rw [if_pos h2, decide_eq_true h2]
      obtain ⟨t, v⟩ := v2
      exact ⟨e2, t, rfl, v⟩
    · rw [if_neg h2, decide_eq_false h2]
      show Lens (List.find? _ [e3, e4, e5]) _
      rw [List.find?_cons, k3, isStr_str]
      by_cases h3 : z = "less"
      · rw [if_pos h3, decide_eq_true h3]
        obtain ⟨t, v⟩ := v3
        exact ⟨e3, t, rfl, v⟩
      · rw [if_neg h3, decide_eq_false h3]
        show Lens (List.find? _ [e4, e5]) _
        rw [List.find?_cons, k4, isStr_str]
        by_cases h4 : z = "same"
        · rw [if_pos h4, decide_eq_true h4]
          obtain ⟨t, v⟩ := v4
          exact ⟨e4, t, rfl, v⟩
        · rw [if_neg h4, decide_eq_false h4]
          show Lens (List.find? _ [e5]) _
          rw [List.find?_cons, k5, isStr_str]
          by_cases h5 : z = "if"
          · rw [if_pos h5, decide_eq_true h5]
            obtain ⟨t, v⟩ := v5
            exact ⟨e5, t, rfl, v⟩
          · rw [if_neg h5, decide_eq_false h5]
            rfl
/-! ### the head: what the top has left, looked at in the kernel -/
namespace Hd
open He
theorem at_ {l : List Bool} (c : l.all id = true) (i : Nat) {b : Bool} (h : l[i]? = some b) : b = true := List.all_eq_true.mp c b (List.mem_of_getElem? h)
theorem fun_of {K : PySem.W.Frag} {x q : Str} {st : Stmt} {f : Addr} {fd : FuncData} (D : FunD K x q (defArgs st) (defBody st) (defScope st) [] [] f fd) : Fun K x q st f fd := by
  obtain ⟨oc, od, dV, kV, doc, pm, an, cdv, ct, osl, rfl, lk, hcd, dl, _⟩ := D.ex
  rcases dl with ⟨_, rfl⟩ | ⟨h, _⟩
  · exact ⟨⟨oc, od, kV, doc, pm, an, cdv, ct, osl, rfl, lk, hcd⟩, D.kp⟩
  · exact absurd rfl h
theorem dfl0 {K : PySem.W.Frag} {dV : Value} (h : DflV K dV []) : dV = .none := by
  rcases h with ⟨_, e⟩ | ⟨h, _⟩
  · exact e
  · exact absurd rfl h
/-- a number of the module -/
def intB (K : PySem.W.Frag) (x : Str) (i : Int) : Bool := match PySem.W.nsIn K mainGlobals x with
  | some (some (.int j _)) => decide (j = i)
  | _ => false
theorem int_at {K : PySem.W.Frag} {x : Str} {i : Int} (c : intB K x i = true) : ∃ t, PySem.W.nsIn K mainGlobals x = some (some (.int i t)) := by
  unfold intB at c
  cases e : PySem.W.nsIn K mainGlobals x with
  | none =>
    rw [e] at c
    cases c
  | some o =>
    cases o with
    | none =>
      rw [e] at c
      cases c
    | some v =>
      rw [e] at c
      cases v with
      | int j t =>
        have ej : j = i := of_decide_eq_true c
        exact ⟨t, by rw [ej]⟩
      | _ => cases c
/-- a tuple of the module -/
def tupB (K : PySem.W.Frag) (a : Addr) (vs : List V) : Bool := match K.lookup a with
  | some ⟨.type c, none, .seq its _, _⟩ => decide (c = "tuple") && (decide (its.size ≤ sizeLine) && relAll vs its.toList)
  | _ => false
theorem tup_at {K : PySem.W.Frag} {a : Addr} {vs : List V} (h : Hd.tupB K a vs = true) : ∃ (its : Array Value) (n : Nat) (sl : Array (Option Value)), K.lookup a = some ⟨.type "tuple", none, .seq its n, sl⟩ ∧ its.size ≤ sizeLine ∧ Vals vs its.toList := by
  unfold Hd.tupB at h
  cases q : K.lookup a with
  | none =>
    rw [q] at h
    cases h
  | some o =>
    obtain ⟨oc, od, dt, osl⟩ := o
    rw [q] at h
    cases oc with
    | type c =>
      cases od with
      | none =>
        cases dt with
        | seq its n =>
          obtain ⟨h1, h2⟩ := ba (show (decide (c = "tuple") && (decide (its.size ≤ sizeLine) && relAll vs its.toList)) = true from h)
          obtain ⟨h3, h4⟩ := ba h2
          have e : c = "tuple" := of_decide_eq_true h1
          rw [e]
          exact ⟨its, n, osl, rfl, of_decide_eq_true h3, relAll_ok h4⟩
        | _ => cases h
      | some d => cases dt <;> cases h
    | _ => cases od <;> cases dt <;> cases h
/-- a class of errors -/
def excB (K : PySem.W.Frag) (C : Addr) (bm : List Value) (newId : String) : Bool := match K.lookup C with
  | some ⟨.type "type", _, .cls cd, sl⟩ => (match cd.mro, sl.toList with
    | .ref C' :: bm', [_, _, _, _, some (.builtin n), _] => C' == C && n == newId && !cd.hasDel && cd.hasDict && decide (bm' = bm)
    | _, _ => false)
  | _ => false
theorem exc_at {K : PySem.W.Frag} {C : Addr} {bm : List Value} {newId : String} (q : excB K C bm newId = true) :
    ∃ nm qn N bs sn sub ab col dd k0 k1 k2 k3 k5, K.lookup C = some (excClassObj nm qn C N bs bm true sn sub ab col dd k0 k1 k2 k3 k5 newId) := by
  unfold excB at q
  split at q
  · rename_i dd cd sl ho
    split at q
    · rename_i C' bm k0 k1 k2 k3 n k5 hm hs
      simp only [Bool.and_eq_true, beq_iff_eq, Bool.not_eq_true', decide_eq_true_eq] at q
      obtain ⟨⟨⟨⟨rfl, rfl⟩, hdel⟩, hdc⟩, rfl⟩ := q
      obtain ⟨nm, bs, mro, ns, qn, hd, sn, sub, ab, col, del⟩ := cd
      dsimp only at hm hdel hdc
      subst hm hdel hdc
      have hsl : sl = #[k0, k1, k2, k3, some (.builtin n), k5] := by
        obtain ⟨l⟩ := sl
        simp only at hs
        rw [hs]
      subst hsl
      exact ⟨nm, qn, ns, bs, sn, sub, ab, col, dd, k0, k1, k2, k3, k5, ho⟩
    · cases q
  · cases q
/-- what a class's look-up finds, if it is a plain value -/
def fclsB (K : PySem.W.Frag) (c m : Value) (n : Str) (b : String) : Bool := match PySem.W.findCls K c m n with
  | some (.val (.builtin x)) => decide (x = b)
  | _ => false
theorem fcls_at {K : PySem.W.Frag} {c m : Value} {n : Str} {b : String} (h : fclsB K c m n b = true) : PySem.W.findCls K c m n = some (.val (.builtin b)) := by
  unfold fclsB at h
  split at h
  · rename_i x e
    rw [e, (of_decide_eq_true h : x = b)]
  · cases h
/-- an entry of the table of lengths -/
def pairOf (e : DictEntry) : Option (Str × Int) := match e.key, e.val with
  | .str x _, .int i _ => some (x, i)
  | _, _ => none
theorem pair_at {e : DictEntry} {x : Str} {i : Int} (h : pairOf e = some (x, i)) : ∃ t, e.key = .str x t ∧ ∃ t, e.val = .int i t := by
  obtain ⟨hash, k, v⟩ := e
  cases k with
  | str y t => cases v with
    | int j u =>
      have h1 : (some (y, j) : Option (Str × Int)) = some (x, i) := h
      obtain ⟨rfl, rfl⟩ := Prod.mk.inj (Option.some.inj h1)
      exact ⟨t, rfl, u, rfl⟩
    | _ => cases h
  | _ => cases v <;> cases h
def lenRow : List (Option (Str × Int)) := [some ("tick", 1), some ("plus", 3), some ("less", 3), some ("same", 3), some ("if", 4)]
def lensB (K : PySem.W.Frag) (a : Addr) : Bool := match K.lookup a with
  | some ⟨_, _, .dict es _, _⟩ => decide (es.toList.map pairOf = lenRow) && !(es.toList.any (·.refKey))
  | _ => false
theorem lens_at {K : PySem.W.Frag} {a : Addr} {es : Array DictEntry} {n : Nat} (l : K.lookup a = some ⟨.type "dict", none, .dict es n, #[]⟩) (h : lensB K a = true) : (∀ z : Str, Lens (es.toList.find? (·.key.isStr z)) (lenOf z)) ∧ es.toList.any (·.refKey) = false := by
  unfold lensB at h
  rw [l] at h
  obtain ⟨h1, h2⟩ := ba (show (decide (es.toList.map pairOf = lenRow) && !(es.toList.any (·.refKey))) = true from h)
  have e : es.toList.map pairOf = lenRow := of_decide_eq_true h1
  unfold lenRow at e
  refine ⟨fun z => ?_, by simpa using h2⟩
  generalize es.toList = q at e
  obtain ⟨e1, q1, rfl, p1, h⟩ := List.map_eq_cons_iff.mp e
  obtain ⟨e2, q2, rfl, p2, h⟩ := List.map_eq_cons_iff.mp h
  obtain ⟨e3, q3, rfl, p3, h⟩ := List.map_eq_cons_iff.mp h
  obtain ⟨e4, q4, rfl, p4, h⟩ := List.map_eq_cons_iff.mp h
  obtain ⟨e5, q5, rfl, p5, h⟩ := List.map_eq_cons_iff.mp h
  cases List.map_eq_nil_iff.mp h
  obtain ⟨t1, k1, v1⟩ := pair_at p1
  obtain ⟨t2, k2, v2⟩ := pair_at p2
  obtain ⟨t3, k3, v3⟩ := pair_at p3
  obtain ⟨t4, k4, v4⟩ := pair_at p4
  obtain ⟨t5, k5, v5⟩ := pair_at p5
  exact lens_five z e1 e2 e3 e4 e5 k1 k2 k3 k4 k5 v1 v2 v3 v4 v5
/-- what an object of the top names: a def's code and defaults, a class's names -/
def selO (o : Obj) : List Addr := match o.data with
  | .func fd => refV fd.code ++ refV fd.defaults ++ refV fd.kwdefaults
  | .cls cd => [cd.ns]
  | _ => []
def selG (g : Addr → Option Obj) (a : Addr) : List Addr := match g a with
  | some o => selO o
  | none => []
/-- the methods that are wanted -/
def metG (g : Addr → Option Obj) (ms : List Str) (a : Addr) : List Addr := match g a with
  | some ⟨_, _, .dict es _, _⟩ => es.toList.flatMap fun e => match e.key with
    | .str x _ => (match ms.contains x with
      | true => refV e.val
      | false => [])
    | _ => []
  | _ => []
def seqL {α : Type} (l : List Addr) (k : List Addr → α) : α := match l with
  | [] => k []
  | a :: r => seqL r fun z => HandSHeadRun.frNat a fun a => k (a :: z)
def asP (g : Addr → Option Obj) (rs ms : List Str) : List Addr := seqL (rs.map (ga (frG g [mainGlobals]))) fun l1 => seqL (l1.flatMap (selG g)) fun l2 => seqL (l2.flatMap (metG g ms)) fun l3 => seqL (l3.flatMap (selG g)) fun l4 => mainGlobals :: cStatics :: (l1 ++ (l2 ++ (l3 ++ l4)))
/-- what is told: the defs, the tables, the rest by one Bool -/
structure Says (fn : List DefD) (ts : List Tab) (ex : PySem.W.Frag → Bool) (w : World) (K : PySem.W.Frag) : Prop where
  t : SaysT [] fn ts w K
  more : ex K = true
def obsP (rs ms : List Str) (fn : List DefD) (ts : List Tab) (ex : PySem.W.Frag → Bool) (g : Addr → Option Obj) : AlX := (obsT [] fn ts (frG g (asP g rs ms)), ex (frG g (asP g rs ms)))
def hookP (rs ms : List Str) (fn : List DefD) (ts : List Tab) (ex : PySem.W.Frag → Bool) : PySem.W.Hook where
  α := AlX
  obs := fun s => obsP rs ms fn ts ex s.heap.get?
  val := fun w => valX fn ts w
  says := fun w h => ∃ K : PySem.W.Frag, K.In h ∧ Says fn ts ex w K
  of := fun _ _ e => ⟨_, frG_in, ⟨congrArg (fun z : AlX => z.1) e, congrArg (fun z : AlX => z.2) e⟩⟩
  keeps := fun _ _ _ ⟨K, hK, c⟩ k => ⟨K, PySem.W.Frag.In.keeps hK k, c⟩
theorem obsP_eq {rs ms : List Str} {fn : List DefD} {ts : List Tab} {ex : PySem.W.Frag → Bool} {g : Addr → Option Obj} {s : Shared} (h : ∀ a, g a = s.heap.get? a) : obsP rs ms fn ts ex g = (hookP rs ms fn ts ex).obs s := by
  have e : g = s.heap.get? := funext h
  rw [e] <;> rfl
end Hd
namespace EndG
section
variable {P : Program} {w : World} {k : Nat} {x : Str}
theorem walk_toldE {l : PySem.W.OpenLaw} {n k : Nat} {q : Program} {loose : List Str} {XP : (Str → Option Value) → Heap → Prop} {YP : World → Heap → Prop} {d : DefRec} {x : Str} (most : l.most = some n) (few : n ≤ sizeLine) (nod : d.params.defaults = []) (hr : Room k callerA)
    (F : ∀ (w : World) (mg : Str → Option Value) (fa : Addr) (h : Heap), YP w h → h.Ns mainGlobals mg → mg d.name = some (.ref fa) → ∃ (K : PySem.W.Frag) (fd : FuncData) (sp : Sp), K.In h ∧ (∀ (s : Shared) (u : Value), BindsTo s fd ⟨[u], []⟩ [(x, u)]) ∧
      (∀ (H : Hp) (a : Addr) (ns : List Int), ns.length ≤ n → SqL K H a (ns.map V.int) → sp [.ref a] H (fun v _ => v = .bl true) E0) ∧ ∀ base : Heap, K.In base → base.Ns mainGlobals mg → FnG l.prog w K mg base k fa fd [x] sp) : PySem.W.WalkO q loose XP YP l.row.toRowW d [] (fun f vs => PySem.call f vs) := Att.attach_call most nod fun w s₀ s₁ mg mb fa o pm cd doc a vs ns G Y ho hd hcd hmg hobj hints hlen hg => by
  obtain ⟨K, fd, sp, KX, bind, holds, F1⟩ := F w mg fa _ Y G.T.g hmg
  exact law_told KX G.T.g G.T.b G.T.builtins G.T.nolimit hg hobj hints (Nat.le_trans hlen few) hr F1 bind fun H _ hS => holds H a ns hlen hS
end
end EndG
/-! ### what the top has written; the end -/
theorem all_mk {l : PySem.W.OpenLaw} {w : World} {K : PySem.W.Frag} {h : Heap} {mg : Str → Option Value} {fa : Addr} (X : K.In h) (G : h.Ns mainGlobals mg) (hfa : mg "law" = some (.ref fa))
    {cL cB cP cT cU cN cO cY cS cF cC cK cW cG cD cE cA cI : Addr}
    {fBI : Addr} {fdBI : FuncData}
    {fPI : Addr} {fdPI : FuncData}
    {fTI : Addr} {fdTI : FuncData}
    {fUI : Addr} {fdUI : FuncData}
    {fNI : Addr} {fdNI : FuncData}
    {fEI : Addr} {fdEI : FuncData}
    {fAI : Addr} {fdAI : FuncData}
    {fII : Addr} {fdII : FuncData}
    {fOI : Addr} {fdOI : FuncData}
    {fYI : Addr} {fdYI : FuncData}
    {fLI : Addr} {fdLI : FuncData}
    {fFI : Addr} {fdFI : FuncData}
    {fFP : Addr} {fdFP : FuncData}
    {fCI : Addr} {fdCI : FuncData}
    {fKI : Addr} {fdKI : FuncData}
    {fKG : Addr} {fdKG : FuncData}
    {fKA : Addr} {fdKA : FuncData}
    {fWI : Addr} {fdWI : FuncData}
    {fKL : Addr} {fdKL : FuncData}
    {fGI : Addr} {fdGI : FuncData}
    {fDI : Addr} {fdDI : FuncData}
    {fDL : Addr} {fdDL : FuncData}
    {fDC : Addr} {fdDC : FuncData}
    {fDS : Addr} {fdDS : FuncData}
    {fDP : Addr} {fdDP : FuncData}
    {fDA : Addr} {fdDA : FuncData}
    {fDH : Addr} {fdDH : FuncData}
    {fWh : Addr} {fdWh : FuncData}
    {fVa : Addr} {fdVa : FuncData}
    {fNa : Addr} {fdNa : FuncData}
    {fTl : Addr} {fdTl : FuncData}
    {fTe : Addr} {fdTe : FuncData}
    {fHa : Addr} {fdHa : FuncData}
    {fCf : Addr} {fdCf : FuncData}
    {fIn : Addr} {fdIn : FuncData}
    {fNx : Addr} {fdNx : FuncData}
    {fAw : Addr} {fdAw : FuncData}
    {fPa : Addr} {fdPa : FuncData}
    {fWi : Addr} {fdWi : FuncData}
    {fAs : Addr} {fdAs : FuncData}
    {fCi : Addr} {fdCi : FuncData}
    {fPf : Addr} {fdPf : FuncData}
    {fFt : Addr} {fdFt : FuncData}
    {fCc : Addr} {fdCc : FuncData}
    {fCn : Addr} {fdCn : FuncData}
    {fPl : Addr} {fdPl : FuncData}
    {fDr : Addr} {fdDr : FuncData}
    {fPk : Addr} {fdPk : FuncData}
    {fNm : Addr} {fdNm : FuncData}
    {fLt : Addr} {fdLt : FuncData}
    {fLw : Addr} {fdLw : FuncData}
    {fLb : Addr} {fdLb : FuncData}
    {fLm : Addr} {fdLm : FuncData}
    {fLs : Addr} {fdLs : FuncData}
    {fLc : Addr} {fdLc : FuncData}
    {fLd : Addr} {fdLd : FuncData}
    {fLr : Addr} {fdLr : FuncData}
    {fRa : Addr} {fdRa : FuncData}
    {fAv : Addr} {fdAv : FuncData}
    {fKa : Addr} {fdKa : FuncData}
    {fKs : Addr} {fdKs : FuncData}
    {fVi : Addr} {fdVi : FuncData}
    {fSw : Addr} {fdSw : FuncData}
    {fLa : Addr} {fdLa : FuncData}
    {t_LONGEST_NAME : Tok}
    {t_MOST_ARGUMENTS : Tok}
    {t_MOST_DEEP : Tok}
    {t_MOST_PARTS : Tok}
    {t_MOST_WRITES : Tok}
    {t_GREATEST_COST : Tok}
    {t_MOST_CELLS : Tok}
    {t_MOST_FUNCTIONS : Tok}
    {nmB qqB : Str} {NNB : Addr} {bsB : List Value} {snB : List Str} {suB : List Value} {abB : Bool} {coB : Option Bool} {ddB : Option Addr} {maB mbB mcB mdB me_B : Option Value} {nmP qqP : Str} {NNP : Addr} {bsP : List Value} {snP : List Str} {suP : List Value} {abP : Bool} {coP : Option Bool} {ddP : Option Addr} {maP mbP mcP mdP me_P : Option Value} {nmT qqT : Str} {NNT : Addr} {bsT : List Value} {snT : List Str} {suT : List Value} {abT : Bool} {coT : Option Bool} {ddT : Option Addr} {maT mbT mcT mdT me_T : Option Value} {nmU qqU : Str} {NNU : Addr} {bsU : List Value} {snU : List Str} {suU : List Value} {abU : Bool} {coU : Option Bool} {ddU : Option Addr} {maU mbU mcU mdU me_U : Option Value} {nmN qqN : Str} {NNN : Addr} {bsN : List Value} {snN : List Str} {suN : List Value} {abN : Bool} {coN : Option Bool} {ddN : Option Addr} {maN mbN mcN mdN me_N : Option Value} {nmE qqE : Str} {NNE : Addr} {bsE : List Value} {snE : List Str} {suE : List Value} {abE : Bool} {coE : Option Bool} {ddE : Option Addr} {maE mbE mcE mdE me_E : Option Value} {nmA qqA : Str} {NNA : Addr} {bsA : List Value} {snA : List Str} {suA : List Value} {abA : Bool} {coA : Option Bool} {ddA : Option Addr} {maA mbA mcA mdA me_A : Option Value} {nmI qqI : Str} {NNI : Addr} {bsI : List Value} {snI : List Str} {suI : List Value} {abI : Bool} {coI : Option Bool} {ddI : Option Addr} {maI mbI mcI mdI me_I : Option Value} {nmO qqO : Str} {NNO : Addr} {bsO : List Value} {snO : List Str} {suO : List Value} {abO : Bool} {coO : Option Bool} {ddO : Option Addr} {maO mbO mcO mdO me_O : Option Value} {nmY qqY : Str} {NNY : Addr} {bsY : List Value} {snY : List Str} {suY : List Value} {abY : Bool} {coY : Option Bool} {ddY : Option Addr} {maY mbY mcY mdY me_Y : Option Value} {aR : Addr} {itsR : Array Value} {nR : Nat} {slR : Array (Option Value)} {aV : Addr} {itsV : Array Value} {nV : Nat} {slV : Array (Option Value)} {aJ : Addr} {itsJ : Array Value} {nJ : Nat} {slJ : Array (Option Value)} {aQ : Addr} {esL : Array DictEntry} {nQ : Nat} 
    (a_L : PySem.W.nsIn K mainGlobals "Label" = some (some (.ref cL)))
    (a_B : PySem.W.nsIn K mainGlobals "BadLabel" = some (some (.ref cB)))
    (a_P : PySem.W.nsIn K mainGlobals "BadPart" = some (some (.ref cP)))
    (a_T : PySem.W.nsIn K mainGlobals "BadTerm" = some (some (.ref cT)))
    (a_U : PySem.W.nsIn K mainGlobals "BadCell" = some (some (.ref cU)))
    (a_N : PySem.W.nsIn K mainGlobals "BadFunction" = some (some (.ref cN)))
    (a_O : PySem.W.nsIn K mainGlobals "TooMany" = some (some (.ref cO)))
    (a_Y : PySem.W.nsIn K mainGlobals "UnknownName" = some (some (.ref cY)))
    (a_S : PySem.W.nsIn K mainGlobals "StoreError" = some (some (.ref cS)))
    (a_F : PySem.W.nsIn K mainGlobals "Function" = some (some (.ref cF)))
    (a_C : PySem.W.nsIn K mainGlobals "Cell" = some (some (.ref cC)))
    (a_K : PySem.W.nsIn K mainGlobals "Book" = some (some (.ref cK)))
    (a_W : PySem.W.nsIn K mainGlobals "Runner" = some (some (.ref cW)))
    (a_G : PySem.W.nsIn K mainGlobals "Calling" = some (some (.ref cG)))
    (a_D : PySem.W.nsIn K mainGlobals "World" = some (some (.ref cD)))
    (a_E : PySem.W.nsIn K mainGlobals "BadState" = some (some (.ref cE)))
    (a_A : PySem.W.nsIn K mainGlobals "BadArguments" = some (some (.ref cA)))
    (a_I : PySem.W.nsIn K mainGlobals "BadTick" = some (some (.ref cI)))
    (aBI : PySem.W.findIn K (.ref cB) "__init__" = some (some (.ref fBI)))
    (iBI : PySem.W.isFn K (.ref fBI) = true)
    (DBI : FunD K "__init__" "BadLabel.__init__" (defArgs sBL) (defBody sBL) (defScope sBL) [] [] fBI fdBI)
    (aPI : PySem.W.findIn K (.ref cP) "__init__" = some (some (.ref fPI)))
    (iPI : PySem.W.isFn K (.ref fPI) = true)
    (DPI : FunD K "__init__" "BadPart.__init__" (defArgs sBadPart) (defBody sBadPart) (defScope sBadPart) [] [] fPI fdPI)
    (aTI : PySem.W.findIn K (.ref cT) "__init__" = some (some (.ref fTI)))
    (iTI : PySem.W.isFn K (.ref fTI) = true)
    (DTI : FunD K "__init__" "BadTerm.__init__" (defArgs sBadTerm) (defBody sBadTerm) (defScope sBadTerm) [] [] fTI fdTI)
    (aUI : PySem.W.findIn K (.ref cU) "__init__" = some (some (.ref fUI)))
    (iUI : PySem.W.isFn K (.ref fUI) = true)
    (DUI : FunD K "__init__" "BadCell.__init__" (defArgs sBadCell) (defBody sBadCell) (defScope sBadCell) [] [] fUI fdUI)
    (aNI : PySem.W.findIn K (.ref cN) "__init__" = some (some (.ref fNI)))
    (iNI : PySem.W.isFn K (.ref fNI) = true)
    (DNI : FunD K "__init__" "BadFunction.__init__" (defArgs sBadFunction) (defBody sBadFunction) (defScope sBadFunction) [] [] fNI fdNI)
    (aEI : PySem.W.findIn K (.ref cE) "__init__" = some (some (.ref fEI)))
    (iEI : PySem.W.isFn K (.ref fEI) = true)
    (DEI : FunD K "__init__" "BadState.__init__" (defArgs sBadState) (defBody sBadState) (defScope sBadState) [] [] fEI fdEI)
    (aAI : PySem.W.findIn K (.ref cA) "__init__" = some (some (.ref fAI)))
    (iAI : PySem.W.isFn K (.ref fAI) = true)
    (DAI : FunD K "__init__" "BadArguments.__init__" (defArgs sBadArguments) (defBody sBadArguments) (defScope sBadArguments) [] [] fAI fdAI)
    (aII : PySem.W.findIn K (.ref cI) "__init__" = some (some (.ref fII)))
    (iII : PySem.W.isFn K (.ref fII) = true)
    (DII : FunD K "__init__" "BadTick.__init__" (defArgs sBadTick) (defBody sBadTick) (defScope sBadTick) [] [] fII fdII)
    (aOI : PySem.W.findIn K (.ref cO) "__init__" = some (some (.ref fOI)))
    (iOI : PySem.W.isFn K (.ref fOI) = true)
    (DOI : FunD K "__init__" "TooMany.__init__" (defArgs sTooMany) (defBody sTooMany) (defScope sTooMany) [] [] fOI fdOI)
    (aYI : PySem.W.findIn K (.ref cY) "__init__" = some (some (.ref fYI)))
    (iYI : PySem.W.isFn K (.ref fYI) = true)
    (DYI : FunD K "__init__" "UnknownName.__init__" (defArgs sUnkErr) (defBody sUnkErr) (defScope sUnkErr) [] [] fYI fdYI)
    (aLI : PySem.W.findIn K (.ref cL) "__init__" = some (some (.ref fLI)))
    (iLI : PySem.W.isFn K (.ref fLI) = true)
    (DLI : FunD K "__init__" "Label.__init__" (defArgs sLab) (defBody sLab) (defScope sLab) [] [] fLI fdLI)
    (aFI : PySem.W.findIn K (.ref cF) "__init__" = some (some (.ref fFI)))
    (iFI : PySem.W.isFn K (.ref fFI) = true)
    (DFI : FunD K "__init__" "Function.__init__" (defArgs sFun) (defBody sFun) (defScope sFun) [] [] fFI fdFI)
    (aFP : PySem.W.findIn K (.ref cF) "parts" = some (some (.ref fFP)))
    (iFP : PySem.W.isFn K (.ref fFP) = true)
    (DFP : FunD K "parts" "Function.parts" (defArgs sFParts) (defBody sFParts) (defScope sFParts) [] [] fFP fdFP)
    (aCI : PySem.W.findIn K (.ref cC) "__init__" = some (some (.ref fCI)))
    (iCI : PySem.W.isFn K (.ref fCI) = true)
    (DCI : FunD K "__init__" "Cell.__init__" (defArgs sCell) (defBody sCell) (defScope sCell) [] [] fCI fdCI)
    (aKI : PySem.W.findIn K (.ref cK) "__init__" = some (some (.ref fKI)))
    (iKI : PySem.W.isFn K (.ref fKI) = true)
    (DKI : FunD K "__init__" "Book.__init__" (defArgs sBook) (defBody sBook) (defScope sBook) [] [] fKI fdKI)
    (aKG : PySem.W.findIn K (.ref cK) "__getitem__" = some (some (.ref fKG)))
    (iKG : PySem.W.isFn K (.ref fKG) = true)
    (DKG : FunD K "__getitem__" "Book.__getitem__" (defArgs sGet) (defBody sGet) (defScope sGet) [] [] fKG fdKG)
    (aKA : PySem.W.findIn K (.ref cK) "all_cells" = some (some (.ref fKA)))
    (iKA : PySem.W.isFn K (.ref fKA) = true)
    (DKA : FunD K "all_cells" "Book.all_cells" (defArgs sAllC) (defBody sAllC) (defScope sAllC) [] [] fKA fdKA)
    (aWI : PySem.W.findIn K (.ref cW) "__init__" = some (some (.ref fWI)))
    (iWI : PySem.W.isFn K (.ref fWI) = true)
    (DWI : FunD K "__init__" "Runner.__init__" (defArgs sRunI) (defBody sRunI) (defScope sRunI) [.non, .non] [] fWI fdWI)
    (aKL : PySem.W.findIn K (.ref cK) "cell" = some (some (.ref fKL)))
    (iKL : PySem.W.isFn K (.ref fKL) = true)
    (DKL : FunD K "cell" "Book.cell" (defArgs sBCell) (defBody sBCell) (defScope sBCell) [] [] fKL fdKL)
    (aGI : PySem.W.findIn K (.ref cG) "__init__" = some (some (.ref fGI)))
    (iGI : PySem.W.isFn K (.ref fGI) = true)
    (DGI : FunD K "__init__" "Calling.__init__" (defArgs sCalI) (defBody sCalI) (defScope sCalI) [] [] fGI fdGI)
    (aDI : PySem.W.findIn K (.ref cD) "__init__" = some (some (.ref fDI)))
    (iDI : PySem.W.isFn K (.ref fDI) = true)
    (DDI : FunD K "__init__" "World.__init__" (defArgs sWorI) (defBody sWorI) (defScope sWorI) [] [] fDI fdDI)
    (aDL : PySem.W.findIn K (.ref cD) "__len__" = some (some (.ref fDL)))
    (iDL : PySem.W.isFn K (.ref fDL) = true)
    (DDL : FunD K "__len__" "World.__len__" (defArgs sWLen) (defBody sWLen) (defScope sWLen) [] [] fDL fdDL)
    (aDC : PySem.W.findIn K (.ref cD) "call" = some (some (.ref fDC)))
    (iDC : PySem.W.isFn K (.ref fDC) = true)
    (DDC : FunD K "call" "World.call" (defArgs sWCall) (defBody sWCall) (defScope sWCall) [] [] fDC fdDC)
    (aDS : PySem.W.findIn K (.ref cD) "state" = some (some (.ref fDS)))
    (iDS : PySem.W.isFn K (.ref fDS) = true)
    (DDS : FunD K "state" "World.state" (defArgs sWSt) (defBody sWSt) (defScope sWSt) [] [] fDS fdDS)
    (aDP : PySem.W.findIn K (.ref cD) "put" = some (some (.ref fDP)))
    (iDP : PySem.W.isFn K (.ref fDP) = true)
    (DDP : FunD K "put" "World.put" (defArgs sWPut) (defBody sWPut) (defScope sWPut) [] [] fDP fdDP)
    (aDA : PySem.W.findIn K (.ref cD) "assign" = some (some (.ref fDA)))
    (iDA : PySem.W.isFn K (.ref fDA) = true)
    (DDA : FunD K "assign" "World.assign" (defArgs sWAsg) (defBody sWAsg) (defScope sWAsg) [] [] fDA fdDA)
    (aDH : PySem.W.findIn K (.ref cD) "_change" = some (some (.ref fDH)))
    (iDH : PySem.W.isFn K (.ref fDH) = true)
    (DDH : FunD K "_change" "World._change" (defArgs sWCh) (defBody sWCh) (defScope sWCh) [] [] fDH fdDH)
    (aWh : PySem.W.nsIn K mainGlobals "is_whole" = some (some (.ref fWh)))
    (DWh : FunD K "is_whole" "is_whole" (defArgs sWhole) (defBody sWhole) (defScope sWhole) [] [] fWh fdWh)
    (aVa : PySem.W.nsIn K mainGlobals "is_value" = some (some (.ref fVa)))
    (DVa : FunD K "is_value" "is_value" (defArgs sValue) (defBody sValue) (defScope sValue) [] [] fVa fdVa)
    (aNa : PySem.W.nsIn K mainGlobals "is_name" = some (some (.ref fNa)))
    (DNa : FunD K "is_name" "is_name" (defArgs sName) (defBody sName) (defScope sName) [] [] fNa fdNa)
    (aTl : PySem.W.nsIn K mainGlobals "to_label" = some (some (.ref fTl)))
    (DTl : FunD K "to_label" "to_label" (defArgs sToLab) (defBody sToLab) (defScope sToLab) [] [] fTl fdTl)
    (aTe : PySem.W.nsIn K mainGlobals "is_term" = some (some (.ref fTe)))
    (DTe : FunD K "is_term" "is_term" (defArgs sTerm) (defBody sTerm) (defScope sTerm) [] [] fTe fdTe)
    (aHa : PySem.W.nsIn K mainGlobals "_has_form" = some (some (.ref fHa)))
    (DHa : FunD K "_has_form" "_has_form" (defArgs sHas) (defBody sHas) (defScope sHas) [] [] fHa fdHa)
    (aCf : PySem.W.nsIn K mainGlobals "_has_call_form" = some (some (.ref fCf)))
    (DCf : FunD K "_has_call_form" "_has_call_form" (defArgs sCallForm) (defBody sCallForm) (defScope sCallForm) [] [] fCf fdCf)
    (aIn : PySem.W.nsIn K mainGlobals "inner_terms" = some (some (.ref fIn)))
    (DIn : FunD K "inner_terms" "inner_terms" (defArgs sInner) (defBody sInner) (defScope sInner) [] [] fIn fdIn)
    (aNx : PySem.W.nsIn K mainGlobals "_next_level" = some (some (.ref fNx)))
    (DNx : FunD K "_next_level" "_next_level" (defArgs sNext) (defBody sNext) (defScope sNext) [] [] fNx fdNx)
    (aAw : PySem.W.nsIn K mainGlobals "_are_writes" = some (some (.ref fAw)))
    (DAw : FunD K "_are_writes" "_are_writes" (defArgs sAreW) (defBody sAreW) (defScope sAreW) [] [] fAw fdAw)
    (aPa : PySem.W.nsIn K mainGlobals "all_parts" = some (some (.ref fPa)))
    (DPa : FunD K "all_parts" "all_parts" (defArgs sParts) (defBody sParts) (defScope sParts) [] [] fPa fdPa)
    (aWi : PySem.W.nsIn K mainGlobals "parts_with" = some (some (.ref fWi)))
    (DWi : FunD K "parts_with" "parts_with" (defArgs sWith) (defBody sWith) (defScope sWith) [] [] fWi fdWi)
    (aAs : PySem.W.nsIn K mainGlobals "_ascending" = some (some (.ref fAs)))
    (DAs : FunD K "_ascending" "_ascending" (defArgs sAsc) (defBody sAsc) (defScope sAsc) [] [] fAs fdAs)
    (aCi : PySem.W.nsIn K mainGlobals "cells_in" = some (some (.ref fCi)))
    (DCi : FunD K "cells_in" "cells_in" (defArgs sCells) (defBody sCells) (defScope sCells) [] [] fCi fdCi)
    (aPf : PySem.W.nsIn K mainGlobals "_part_fits" = some (some (.ref fPf)))
    (DPf : FunD K "_part_fits" "_part_fits" (defArgs sPF) (defBody sPF) (defScope sPF) [] [] fPf fdPf)
    (aFt : PySem.W.nsIn K mainGlobals "_fits" = some (some (.ref fFt)))
    (DFt : FunD K "_fits" "_fits" (defArgs sFits) (defBody sFits) (defScope sFits) [] [] fFt fdFt)
    (aCc : PySem.W.nsIn K mainGlobals "_check_cells" = some (some (.ref fCc)))
    (DCc : FunD K "_check_cells" "_check_cells" (defArgs sCC) (defBody sCC) (defScope sCC) [] [] fCc fdCc)
    (aCn : PySem.W.nsIn K mainGlobals "_check_functions" = some (some (.ref fCn)))
    (DCn : FunD K "_check_functions" "_check_functions" (defArgs sCFn) (defBody sCFn) (defScope sCFn) [] [] fCn fdCn)
    (aPl : PySem.W.nsIn K mainGlobals "_law_pool" = some (some (.ref fPl)))
    (DPl : FunD K "_law_pool" "_law_pool" (defArgs sPool) (defBody sPool) (defScope sPool) [] [] fPl fdPl)
    (aDr : PySem.W.nsIn K mainGlobals "_law_draw" = some (some (.ref fDr)))
    (DDr : FunD K "_law_draw" "_law_draw" (defArgs sDraw) (defBody sDraw) (defScope sDraw) [] [] fDr fdDr)
    (aPk : PySem.W.nsIn K mainGlobals "_law_pick" = some (some (.ref fPk)))
    (DPk : FunD K "_law_pick" "_law_pick" (defArgs sPick) (defBody sPick) (defScope sPick) [] [] fPk fdPk)
    (aNm : PySem.W.nsIn K mainGlobals "_law_names" = some (some (.ref fNm)))
    (DNm : FunD K "_law_names" "_law_names" (defArgs sLNames) (defBody sLNames) (defScope sLNames) [] [] fNm fdNm)
    (aLt : PySem.W.nsIn K mainGlobals "_law_term" = some (some (.ref fLt)))
    (DLt : FunD K "_law_term" "_law_term" (defArgs sLTerm) (defBody sLTerm) (defScope sLTerm) [] [] fLt fdLt)
    (aLw : PySem.W.nsIn K mainGlobals "_law_writes" = some (some (.ref fLw)))
    (DLw : FunD K "_law_writes" "_law_writes" (defArgs sLW) (defBody sLW) (defScope sLW) [] [] fLw fdLw)
    (aLb : PySem.W.nsIn K mainGlobals "_law_book" = some (some (.ref fLb)))
    (DLb : FunD K "_law_book" "_law_book" (defArgs sLB) (defBody sLB) (defScope sLB) [] [] fLb fdLb)
    (aLm : PySem.W.nsIn K mainGlobals "_law_made_book" = some (some (.ref fLm)))
    (DLm : FunD K "_law_made_book" "_law_made_book" (defArgs sMade) (defBody sMade) (defScope sMade) [] [] fLm fdLm)
    (aLs : PySem.W.nsIn K mainGlobals "_law_state" = some (some (.ref fLs)))
    (DLs : FunD K "_law_state" "_law_state" (defArgs sLSt) (defBody sLSt) (defScope sLSt) [] [] fLs fdLs)
    (aLc : PySem.W.nsIn K mainGlobals "_law_call" = some (some (.ref fLc)))
    (DLc : FunD K "_law_call" "_law_call" (defArgs sLC) (defBody sLC) (defScope sLC) [] [] fLc fdLc)
    (aLd : PySem.W.nsIn K mainGlobals "_law_told" = some (some (.ref fLd)))
    (DLd : FunD K "_law_told" "_law_told" (defArgs sTold) (defBody sTold) (defScope sTold) [] [] fLd fdLd)
    (aLr : PySem.W.nsIn K mainGlobals "_law_cells_right" = some (some (.ref fLr)))
    (DLr : FunD K "_law_cells_right" "_law_cells_right" (defArgs sCR) (defBody sCR) (defScope sCR) [] [] fLr fdLr)
    (aRa : PySem.W.nsIn K mainGlobals "run_alone" = some (some (.ref fRa)))
    (DRa : FunD K "run_alone" "run_alone" (defArgs sRA) (defBody sRA) (defScope sRA) [] [("tick", .int 0)] fRa fdRa)
    (aAv : PySem.W.nsIn K mainGlobals "are_values" = some (some (.ref fAv)))
    (DAv : FunD K "are_values" "are_values" (defArgs sAV) (defBody sAV) (defScope sAV) [] [] fAv fdAv)
    (aKa : PySem.W.nsIn K mainGlobals "_check_arguments" = some (some (.ref fKa)))
    (DKa : FunD K "_check_arguments" "_check_arguments" (defArgs sCA) (defBody sCA) (defScope sCA) [] [] fKa fdKa)
    (aKs : PySem.W.nsIn K mainGlobals "check_state" = some (some (.ref fKs)))
    (DKs : FunD K "check_state" "check_state" (defArgs sCS) (defBody sCS) (defScope sCS) [] [] fKs fdKs)
    (aVi : PySem.W.nsIn K mainGlobals "values_in" = some (some (.ref fVi)))
    (DVi : FunD K "values_in" "values_in" (defArgs sVI) (defBody sVI) (defScope sVI) [] [] fVi fdVi)
    (aSw : PySem.W.nsIn K mainGlobals "state_with" = some (some (.ref fSw)))
    (DSw : FunD K "state_with" "state_with" (defArgs sSW) (defBody sSW) (defScope sSW) [] [] fSw fdSw)
    (aLa : PySem.W.nsIn K mainGlobals "law" = some (some (.ref fLa)))
    (DLa : FunD K "law" "law" (defArgs sLaw) (defBody sLaw) (defScope sLaw) [] [] fLa fdLa)
    (z_abs : PySem.W.nsIn K mainGlobals "abs" = some none)
    (z_int : PySem.W.nsIn K mainGlobals "int" = some none)
    (z_len : PySem.W.nsIn K mainGlobals "len" = some none)
    (z_sum : PySem.W.nsIn K mainGlobals "sum" = some none)
    (z_max : PySem.W.nsIn K mainGlobals "max" = some none)
    (z_min : PySem.W.nsIn K mainGlobals "min" = some none)
    (z_range : PySem.W.nsIn K mainGlobals "range" = some none)
    (z_isinstance : PySem.W.nsIn K mainGlobals "isinstance" = some none)
    (z_bool : PySem.W.nsIn K mainGlobals "bool" = some none)
    (z_str : PySem.W.nsIn K mainGlobals "str" = some none)
    (z_tuple : PySem.W.nsIn K mainGlobals "tuple" = some none)
    (z_list : PySem.W.nsIn K mainGlobals "list" = some none)
    (z_dict : PySem.W.nsIn K mainGlobals "dict" = some none)
    (z_all : PySem.W.nsIn K mainGlobals "all" = some none)
    (z_sorted : PySem.W.nsIn K mainGlobals "sorted" = some none)
    (z_repr : PySem.W.nsIn K mainGlobals "repr" = some none)
    (z_zip : PySem.W.nsIn K mainGlobals "zip" = some none)
    (z_OverflowError : PySem.W.nsIn K mainGlobals "OverflowError" = some none)
    (z_enumerate : PySem.W.nsIn K mainGlobals "enumerate" = some none)
    (z_KeyError : PySem.W.nsIn K mainGlobals "KeyError" = some none)
    (i_LONGEST_NAME : PySem.W.nsIn K mainGlobals "LONGEST_NAME" = some (some (.int 8 t_LONGEST_NAME)))
    (i_MOST_ARGUMENTS : PySem.W.nsIn K mainGlobals "MOST_ARGUMENTS" = some (some (.int 2 t_MOST_ARGUMENTS)))
    (i_MOST_DEEP : PySem.W.nsIn K mainGlobals "MOST_DEEP" = some (some (.int 8 t_MOST_DEEP)))
    (i_MOST_PARTS : PySem.W.nsIn K mainGlobals "MOST_PARTS" = some (some (.int 30 t_MOST_PARTS)))
    (i_MOST_WRITES : PySem.W.nsIn K mainGlobals "MOST_WRITES" = some (some (.int 3 t_MOST_WRITES)))
    (i_GREATEST_COST : PySem.W.nsIn K mainGlobals "GREATEST_COST" = some (some (.int 99 t_GREATEST_COST)))
    (i_MOST_CELLS : PySem.W.nsIn K mainGlobals "MOST_CELLS" = some (some (.int 6 t_MOST_CELLS)))
    (i_MOST_FUNCTIONS : PySem.W.nsIn K mainGlobals "MOST_FUNCTIONS" = some (some (.int 8 t_MOST_FUNCTIONS)))
    (pgL : PySem.W.plainGet K cL Str.empty = true)
    (hdL : PySem.W.hasDictIn K cL = true)
    (poL : PySem.W.plainOver K cL = true)
    (saL : PySem.W.findIn K (.ref cL) "__setattr__" = some (some (.builtin "object.__setattr__")))
    (mkL : PySem.W.makesIn K cL = true)
    (kcL : PySem.W.keepIn K (.ref cL) = true)
    (pgF : PySem.W.plainGet K cF Str.empty = true)
    (hdF : PySem.W.hasDictIn K cF = true)
    (poF : PySem.W.plainOver K cF = true)
    (saF : PySem.W.findIn K (.ref cF) "__setattr__" = some (some (.builtin "object.__setattr__")))
    (mkF : PySem.W.makesIn K cF = true)
    (kcF : PySem.W.keepIn K (.ref cF) = true)
    (pgC : PySem.W.plainGet K cC Str.empty = true)
    (hdC : PySem.W.hasDictIn K cC = true)
    (poC : PySem.W.plainOver K cC = true)
    (saC : PySem.W.findIn K (.ref cC) "__setattr__" = some (some (.builtin "object.__setattr__")))
    (mkC : PySem.W.makesIn K cC = true)
    (kcC : PySem.W.keepIn K (.ref cC) = true)
    (pgK : PySem.W.plainGet K cK Str.empty = true)
    (hdK : PySem.W.hasDictIn K cK = true)
    (poK : PySem.W.plainOver K cK = true)
    (saK : PySem.W.findIn K (.ref cK) "__setattr__" = some (some (.builtin "object.__setattr__")))
    (mkK : PySem.W.makesIn K cK = true)
    (kcK : PySem.W.keepIn K (.ref cK) = true)
    (pgW : PySem.W.plainGet K cW Str.empty = true)
    (hdW : PySem.W.hasDictIn K cW = true)
    (poW : PySem.W.plainOver K cW = true)
    (saW : PySem.W.findIn K (.ref cW) "__setattr__" = some (some (.builtin "object.__setattr__")))
    (mkW : PySem.W.makesIn K cW = true)
    (kcW : PySem.W.keepIn K (.ref cW) = true)
    (pgG : PySem.W.plainGet K cG Str.empty = true)
    (hdG : PySem.W.hasDictIn K cG = true)
    (poG : PySem.W.plainOver K cG = true)
    (saG : PySem.W.findIn K (.ref cG) "__setattr__" = some (some (.builtin "object.__setattr__")))
    (mkG : PySem.W.makesIn K cG = true)
    (kcG : PySem.W.keepIn K (.ref cG) = true)
    (pgD : PySem.W.plainGet K cD Str.empty = true)
    (hdD : PySem.W.hasDictIn K cD = true)
    (poD : PySem.W.plainOver K cD = true)
    (saD : PySem.W.findIn K (.ref cD) "__setattr__" = some (some (.builtin "object.__setattr__")))
    (mkD : PySem.W.makesIn K cD = true)
    (kcD : PySem.W.keepIn K (.ref cD) = true)
    (cgL : PySem.W.specialIn K (.builtin "object.__class__") "__get__" = some (some (.builtin "getset_descriptor.__get__")))
    (ctL : PySem.W.takesIn K (.builtin "object.__class__") = some true)
    (meL : PySem.W.kitOne K (.ref cL) (.ref cL) = some true)
    (caL : PySem.W.findIn K (.ref cL) "__class__" = some (some (.builtin "object.__class__")))
    (cmL : PySem.W.mroIn K cL (.type "object") = some true)
    (noL_NoneType : PySem.W.kitOne K (.type "NoneType") (.ref cL) = some false)
    (noL_bool : PySem.W.kitOne K (.type "bool") (.ref cL) = some false)
    (noL_int : PySem.W.kitOne K (.type "int") (.ref cL) = some false)
    (noL_str : PySem.W.kitOne K (.type "str") (.ref cL) = some false)
    (noL_list : PySem.W.kitOne K (.type "list") (.ref cL) = some false)
    (noL_tuple : PySem.W.kitOne K (.type "tuple") (.ref cL) = some false)
    (noL_dict : PySem.W.kitOne K (.type "dict") (.ref cL) = some false)
    (meF : PySem.W.kitOne K (.ref cF) (.ref cF) = some true)
    (caF : PySem.W.findIn K (.ref cF) "__class__" = some (some (.builtin "object.__class__")))
    (cmF : PySem.W.mroIn K cF (.type "object") = some true)
    (noF_NoneType : PySem.W.kitOne K (.type "NoneType") (.ref cF) = some false)
    (noF_bool : PySem.W.kitOne K (.type "bool") (.ref cF) = some false)
    (noF_int : PySem.W.kitOne K (.type "int") (.ref cF) = some false)
    (noF_str : PySem.W.kitOne K (.type "str") (.ref cF) = some false)
    (noF_list : PySem.W.kitOne K (.type "list") (.ref cF) = some false)
    (noF_tuple : PySem.W.kitOne K (.type "tuple") (.ref cF) = some false)
    (noF_dict : PySem.W.kitOne K (.type "dict") (.ref cF) = some false)
    (meC : PySem.W.kitOne K (.ref cC) (.ref cC) = some true)
    (caC : PySem.W.findIn K (.ref cC) "__class__" = some (some (.builtin "object.__class__")))
    (cmC : PySem.W.mroIn K cC (.type "object") = some true)
    (noC_NoneType : PySem.W.kitOne K (.type "NoneType") (.ref cC) = some false)
    (noC_bool : PySem.W.kitOne K (.type "bool") (.ref cC) = some false)
    (noC_int : PySem.W.kitOne K (.type "int") (.ref cC) = some false)
    (noC_str : PySem.W.kitOne K (.type "str") (.ref cC) = some false)
    (noC_list : PySem.W.kitOne K (.type "list") (.ref cC) = some false)
    (noC_tuple : PySem.W.kitOne K (.type "tuple") (.ref cC) = some false)
    (noC_dict : PySem.W.kitOne K (.type "dict") (.ref cC) = some false)
    (neL : PySem.W.findIn K (.ref cL) "__ne__" = some (some (.builtin "object.__ne__")))
    (soL : PySem.W.subIn K (.ref cL) (.type "object") = some true)
    (nfL : PySem.W.notFirst K cL (.type "str") = true)
    (neC : PySem.W.findIn K (.ref cC) "__ne__" = some (some (.builtin "object.__ne__")))
    (soC : PySem.W.subIn K (.ref cC) (.type "object") = some true)
    (nfC : PySem.W.notFirst K cC (.type "str") = true)
    (fiKG : PySem.W.fnIn K fKG = true)
    (fiDL : PySem.W.fnIn K fDL = true)
    (nw_book : PySem.W.findIn K (.ref cW) "_book" = some none)
    (nw_tick : PySem.W.findIn K (.ref cW) "_tick" = some none)
    (nw_view : PySem.W.findIn K (.ref cW) "_view" = some none)
    (nw_steady : PySem.W.findIn K (.ref cW) "_steady" = some none)
    (nw_places : PySem.W.findIn K (.ref cW) "_places" = some none)
    (nw_kept : PySem.W.findIn K (.ref cW) "_kept" = some none)
    (ng_view : PySem.W.findIn K (.ref cG) "_view" = some none)
    (ng_steady : PySem.W.findIn K (.ref cG) "_steady" = some none)
    (ng_changing : PySem.W.findIn K (.ref cG) "_changing" = some none)
    (nd_book : PySem.W.findIn K (.ref cD) "_book" = some none)
    (nd_state : PySem.W.findIn K (.ref cD) "_state" = some none)
    (nd_view : PySem.W.findIn K (.ref cD) "_view" = some none)
    (nd_calling : PySem.W.findIn K (.ref cD) "_calling" = some none)
    (nd_calls : PySem.W.findIn K (.ref cD) "_calls" = some none)
    (nhL : PySem.W.findIn K (.ref cL) "_height" = some none)
    (nnL : PySem.W.findIn K (.ref cL) "name" = some none)
    (nnC : PySem.W.findIn K (.ref cC) "name" = some none)
    (nkC : PySem.W.findIn K (.ref cC) "kind" = some none)
    (n_name : PySem.W.findIn K (.ref cF) "name" = some none)
    (n_arguments : PySem.W.findIn K (.ref cF) "arguments" = some none)
    (n_result : PySem.W.findIn K (.ref cF) "result" = some none)
    (n_label : PySem.W.findIn K (.ref cF) "label" = some none)
    (n_writes : PySem.W.findIn K (.ref cF) "writes" = some none)
    (n_cost : PySem.W.findIn K (.ref cF) "cost" = some none)
    (nk_cells : PySem.W.findIn K (.ref cK) "_cells" = some none)
    (nk_functions : PySem.W.findIn K (.ref cK) "_functions" = some none)
    (nk_by_name : PySem.W.findIn K (.ref cK) "_by_name" = some none)
    (xB : K.lookup cB = some (excClassObj nmB qqB cB NNB bsB [.ref cS, .type "ValueError", .type "Exception", .type "BaseException", .type "object"] true snB suB abB coB ddB maB mbB mcB mdB me_B "ValueError.__new__"))
    (saB : PySem.W.findIn K (.ref cB) "__setattr__" = some (some (.builtin "object.__setattr__")))
    (exB : PySem.W.subIn K (.ref cB) (.type "BaseException") = some true)
    (tyB : PySem.W.typeIn K (.ref cB) = some (.type "type"))
    (kcB : PySem.W.keepIn K (.ref cB) = true)
    (nlB : PySem.W.findIn K (.ref cB) "label" = some none)
    (tfB : PySem.W.typeIn K (.ref fBI) = some (.type "function"))
    (xP : K.lookup cP = some (excClassObj nmP qqP cP NNP bsP [.ref cS, .type "ValueError", .type "Exception", .type "BaseException", .type "object"] true snP suP abP coP ddP maP mbP mcP mdP me_P "ValueError.__new__"))
    (saP : PySem.W.findIn K (.ref cP) "__setattr__" = some (some (.builtin "object.__setattr__")))
    (exP : PySem.W.subIn K (.ref cP) (.type "BaseException") = some true)
    (tyP : PySem.W.typeIn K (.ref cP) = some (.type "type"))
    (kcP : PySem.W.keepIn K (.ref cP) = true)
    (nlP : PySem.W.findIn K (.ref cP) "part" = some none)
    (tfP : PySem.W.typeIn K (.ref fPI) = some (.type "function"))
    (xT : K.lookup cT = some (excClassObj nmT qqT cT NNT bsT [.ref cS, .type "ValueError", .type "Exception", .type "BaseException", .type "object"] true snT suT abT coT ddT maT mbT mcT mdT me_T "ValueError.__new__"))
    (saT : PySem.W.findIn K (.ref cT) "__setattr__" = some (some (.builtin "object.__setattr__")))
    (exT : PySem.W.subIn K (.ref cT) (.type "BaseException") = some true)
    (tyT : PySem.W.typeIn K (.ref cT) = some (.type "type"))
    (kcT : PySem.W.keepIn K (.ref cT) = true)
    (nlT : PySem.W.findIn K (.ref cT) "term" = some none)
    (tfT : PySem.W.typeIn K (.ref fTI) = some (.type "function"))
    (xU : K.lookup cU = some (excClassObj nmU qqU cU NNU bsU [.ref cS, .type "ValueError", .type "Exception", .type "BaseException", .type "object"] true snU suU abU coU ddU maU mbU mcU mdU me_U "ValueError.__new__"))
    (saU : PySem.W.findIn K (.ref cU) "__setattr__" = some (some (.builtin "object.__setattr__")))
    (exU : PySem.W.subIn K (.ref cU) (.type "BaseException") = some true)
    (tyU : PySem.W.typeIn K (.ref cU) = some (.type "type"))
    (kcU : PySem.W.keepIn K (.ref cU) = true)
    (nlU : PySem.W.findIn K (.ref cU) "index" = some none)
    (tfU : PySem.W.typeIn K (.ref fUI) = some (.type "function"))
    (xN : K.lookup cN = some (excClassObj nmN qqN cN NNN bsN [.ref cS, .type "ValueError", .type "Exception", .type "BaseException", .type "object"] true snN suN abN coN ddN maN mbN mcN mdN me_N "ValueError.__new__"))
    (saN : PySem.W.findIn K (.ref cN) "__setattr__" = some (some (.builtin "object.__setattr__")))
    (exN : PySem.W.subIn K (.ref cN) (.type "BaseException") = some true)
    (tyN : PySem.W.typeIn K (.ref cN) = some (.type "type"))
    (kcN : PySem.W.keepIn K (.ref cN) = true)
    (nlN : PySem.W.findIn K (.ref cN) "index" = some none)
    (tfN : PySem.W.typeIn K (.ref fNI) = some (.type "function"))
    (xE : K.lookup cE = some (excClassObj nmE qqE cE NNE bsE [.ref cS, .type "ValueError", .type "Exception", .type "BaseException", .type "object"] true snE suE abE coE ddE maE mbE mcE mdE me_E "ValueError.__new__"))
    (saE : PySem.W.findIn K (.ref cE) "__setattr__" = some (some (.builtin "object.__setattr__")))
    (exE : PySem.W.subIn K (.ref cE) (.type "BaseException") = some true)
    (tyE : PySem.W.typeIn K (.ref cE) = some (.type "type"))
    (kcE : PySem.W.keepIn K (.ref cE) = true)
    (nlE : PySem.W.findIn K (.ref cE) "name" = some none)
    (tfE : PySem.W.typeIn K (.ref fEI) = some (.type "function"))
    (xA : K.lookup cA = some (excClassObj nmA qqA cA NNA bsA [.ref cS, .type "ValueError", .type "Exception", .type "BaseException", .type "object"] true snA suA abA coA ddA maA mbA mcA mdA me_A "ValueError.__new__"))
    (saA : PySem.W.findIn K (.ref cA) "__setattr__" = some (some (.builtin "object.__setattr__")))
    (exA : PySem.W.subIn K (.ref cA) (.type "BaseException") = some true)
    (tyA : PySem.W.typeIn K (.ref cA) = some (.type "type"))
    (kcA : PySem.W.keepIn K (.ref cA) = true)
    (nlA : PySem.W.findIn K (.ref cA) "arguments" = some none)
    (tfA : PySem.W.typeIn K (.ref fAI) = some (.type "function"))
    (xI : K.lookup cI = some (excClassObj nmI qqI cI NNI bsI [.ref cS, .type "ValueError", .type "Exception", .type "BaseException", .type "object"] true snI suI abI coI ddI maI mbI mcI mdI me_I "ValueError.__new__"))
    (saI : PySem.W.findIn K (.ref cI) "__setattr__" = some (some (.builtin "object.__setattr__")))
    (exI : PySem.W.subIn K (.ref cI) (.type "BaseException") = some true)
    (tyI : PySem.W.typeIn K (.ref cI) = some (.type "type"))
    (kcI : PySem.W.keepIn K (.ref cI) = true)
    (nlI : PySem.W.findIn K (.ref cI) "value" = some none)
    (tfI : PySem.W.typeIn K (.ref fII) = some (.type "function"))
    (xO : K.lookup cO = some (excClassObj nmO qqO cO NNO bsO [.type "OverflowError", .type "ArithmeticError", .type "Exception", .type "BaseException", .type "object"] true snO suO abO coO ddO maO mbO mcO mdO me_O "OverflowError.__new__"))
    (saO : PySem.W.findIn K (.ref cO) "__setattr__" = some (some (.builtin "object.__setattr__")))
    (exO : PySem.W.subIn K (.ref cO) (.type "BaseException") = some true)
    (tyO : PySem.W.typeIn K (.ref cO) = some (.type "type"))
    (kcO : PySem.W.keepIn K (.ref cO) = true)
    (nlO : PySem.W.findIn K (.ref cO) "limit" = some none)
    (tfO : PySem.W.typeIn K (.ref fOI) = some (.type "function"))
    (xY : K.lookup cY = some (excClassObj nmY qqY cY NNY bsY [.type "KeyError", .type "LookupError", .type "Exception", .type "BaseException", .type "object"] true snY suY abY coY ddY maY mbY mcY mdY me_Y "LookupError.__new__"))
    (saY : PySem.W.findIn K (.ref cY) "__setattr__" = some (some (.builtin "object.__setattr__")))
    (exY : PySem.W.subIn K (.ref cY) (.type "BaseException") = some true)
    (tyY : PySem.W.typeIn K (.ref cY) = some (.type "type"))
    (kcY : PySem.W.keepIn K (.ref cY) = true)
    (nlY : PySem.W.findIn K (.ref cY) "name" = some none)
    (tfY : PySem.W.typeIn K (.ref fYI) = some (.type "function"))
    (gaY : PySem.W.findIn K (.ref cY) "__getattribute__" = some (some (.builtin "BaseException.__getattribute__")))
    (ggY : PySem.W.findIn K (.ref cY) "__getattr__" = some none)
    (hdY : PySem.W.hasDictIn K cY = true)
    (gaA : PySem.W.findIn K (.ref cA) "__getattribute__" = some (some (.builtin "BaseException.__getattribute__")))
    (ggA : PySem.W.findIn K (.ref cA) "__getattr__" = some none)
    (hdA : PySem.W.hasDictIn K cA = true)
    (gaE : PySem.W.findIn K (.ref cE) "__getattribute__" = some (some (.builtin "BaseException.__getattribute__")))
    (ggE : PySem.W.findIn K (.ref cE) "__getattr__" = some none)
    (hdE : PySem.W.hasDictIn K cE = true)
    (gaI : PySem.W.findIn K (.ref cI) "__getattribute__" = some (some (.builtin "BaseException.__getattribute__")))
    (ggI : PySem.W.findIn K (.ref cI) "__getattr__" = some none)
    (hdI : PySem.W.hasDictIn K cI = true)
    (gaP : PySem.W.findIn K (.ref cP) "__getattribute__" = some (some (.builtin "BaseException.__getattribute__")))
    (ggP : PySem.W.findIn K (.ref cP) "__getattr__" = some none)
    (hdP : PySem.W.hasDictIn K cP = true)
    (eYY : PySem.W.exmOne K (.ref cY) (.ref cY) = some true)
    (eAY : PySem.W.exmOne K (.ref cA) (.ref cY) = some false)
    (eAA : PySem.W.exmOne K (.ref cA) (.ref cA) = some true)
    (eEY : PySem.W.exmOne K (.ref cE) (.ref cY) = some false)
    (eEA : PySem.W.exmOne K (.ref cE) (.ref cA) = some false)
    (eEE : PySem.W.exmOne K (.ref cE) (.ref cE) = some true)
    (eIY : PySem.W.exmOne K (.ref cI) (.ref cY) = some false)
    (eIA : PySem.W.exmOne K (.ref cI) (.ref cA) = some false)
    (eIE : PySem.W.exmOne K (.ref cI) (.ref cE) = some false)
    (eII : PySem.W.exmOne K (.ref cI) (.ref cI) = some true)
    (ePY : PySem.W.exmOne K (.ref cP) (.ref cY) = some false)
    (ePA : PySem.W.exmOne K (.ref cP) (.ref cA) = some false)
    (ePE : PySem.W.exmOne K (.ref cP) (.ref cE) = some false)
    (ePI : PySem.W.exmOne K (.ref cP) (.ref cI) = some false)
    (ePP : PySem.W.exmOne K (.ref cP) (.ref cP) = some true)
    (fiY : PySem.W.findCls K (.type "KeyError") (.type "type") "__init__" = some (.val (.builtin "KeyError.__init__")))
    (spS : PySem.W.specialIn K (.ref cS) "__getattribute__" = some (some (.builtin "type.__getattribute__")))
    (tyS : PySem.W.typeIn K (.ref cS) = some (.type "type"))
    (rdS : PySem.W.readsIn K cS (.type "type") = true)
    (fiS : PySem.W.findCls K (.ref cS) (.type "type") "__init__" = some (.val (.builtin "ValueError.__init__")))
    (fiO : PySem.W.findCls K (.type "OverflowError") (.type "type") "__init__" = some (.val (.builtin "OverflowError.__init__")))
    (vR : PySem.W.nsIn K mainGlobals "LABELS" = some (some (.ref aR)))
    (lR : K.lookup aR = some ⟨.type "tuple", none, .seq itsR nR, slR⟩)
    (rR : Vals (labRow.map V.str) itsR.toList)
    (sR : itsR.size ≤ sizeLine)
    (vV : PySem.W.nsIn K mainGlobals "VALUES" = some (some (.ref aV)))
    (lV : K.lookup aV = some ⟨.type "tuple", none, .seq itsV nV, slV⟩)
    (rV : Vals [.int 0, .int 1, .int 2] itsV.toList)
    (sV : itsV.size ≤ sizeLine)
    (vJ : PySem.W.nsIn K mainGlobals "KINDS" = some (some (.ref aJ)))
    (lJ : K.lookup aJ = some ⟨.type "tuple", none, .seq itsJ nJ, slJ⟩)
    (rJ : Vals (kindRow.map V.str) itsJ.toList)
    (sJ : itsJ.size ≤ sizeLine)
    (vQ : PySem.W.nsIn K mainGlobals "LENGTHS" = some (some (.ref aQ)))
    (lQ : K.lookup aQ = some ⟨.type "dict", none, .dict esL nQ, #[]⟩)
    (kQ : PySem.W.KeysLit w.params esL.toList)
    (yQ : (aQ == sysModules) = false)
    (eQ : ∀ z : Str, Lens (esL.toList.find? (·.key.isStr z)) (lenOf z))
    (oQ : esL.toList.any (·.refKey) = false) :
    ∃ fd : FuncData, (∀ (s : Shared) (v : Value), BindsTo s fd ⟨[v], []⟩ [("_law_script", v)]) ∧ ∀ base : Heap, K.In base → base.Ns mainGlobals mg → FnG l.prog w K mg base 14 fa fd ["_law_script"] (spLaw K) := by
  have e := hfa.symm.trans (PySem.W.mg_of X G aLa)
  cases e
  have kBI := DBI.kp
  have FBI := Hd.fun_of DBI
  have bBI := FBI.binds (ps := ["self", "label"]) fun _ _ _ _ _ _ us hl => match us, hl with | [_, _], _ => rfl
  have kPI := DPI.kp
  have FPI := Hd.fun_of DPI
  have bPI := FPI.binds (ps := ["self", "part"]) fun _ _ _ _ _ _ us hl => match us, hl with | [_, _], _ => rfl
  have kTI := DTI.kp
  have FTI := Hd.fun_of DTI
  have bTI := FTI.binds (ps := ["self", "term"]) fun _ _ _ _ _ _ us hl => match us, hl with | [_, _], _ => rfl
  have kUI := DUI.kp
  have FUI := Hd.fun_of DUI
  have bUI := FUI.binds (ps := ["self", "index"]) fun _ _ _ _ _ _ us hl => match us, hl with | [_, _], _ => rfl
  have kNI := DNI.kp
  have FNI := Hd.fun_of DNI
  have bNI := FNI.binds (ps := ["self", "index"]) fun _ _ _ _ _ _ us hl => match us, hl with | [_, _], _ => rfl
  have kEI := DEI.kp
  have FEI := Hd.fun_of DEI
  have bEI := FEI.binds (ps := ["self", "name"]) fun _ _ _ _ _ _ us hl => match us, hl with | [_, _], _ => rfl
  have kAI := DAI.kp
  have FAI := Hd.fun_of DAI
  have bAI := FAI.binds (ps := ["self", "arguments"]) fun _ _ _ _ _ _ us hl => match us, hl with | [_, _], _ => rfl
  have kII := DII.kp
  have FII := Hd.fun_of DII
  have bII := FII.binds (ps := ["self", "value"]) fun _ _ _ _ _ _ us hl => match us, hl with | [_, _], _ => rfl
  have kOI := DOI.kp
  have FOI := Hd.fun_of DOI
  have bOI := FOI.binds (ps := ["self", "limit"]) fun _ _ _ _ _ _ us hl => match us, hl with | [_, _], _ => rfl
  have kYI := DYI.kp
  have FYI := Hd.fun_of DYI
  have bYI := FYI.binds (ps := ["self", "name"]) fun _ _ _ _ _ _ us hl => match us, hl with | [_, _], _ => rfl
  have kLI := DLI.kp
  have FLI := Hd.fun_of DLI
  have bLI := FLI.binds (ps := ["self", "name"]) fun _ _ _ _ _ _ us hl => match us, hl with | [_, _], _ => rfl
  have kFI := DFI.kp
  have FFI := Hd.fun_of DFI
  have kFP := DFP.kp
  have FFP := Hd.fun_of DFP
  have bFP := FFP.binds (ps := ["self"]) fun _ _ _ _ _ _ us hl => match us, hl with | [_], _ => rfl
  have kCI := DCI.kp
  have FCI := Hd.fun_of DCI
  have bCI := FCI.binds (ps := ["self", "name", "kind"]) fun _ _ _ _ _ _ us hl => match us, hl with | [_, _, _], _ => rfl
  have kKI := DKI.kp
  have FKI := Hd.fun_of DKI
  have bKI := FKI.binds (ps := ["self", "cells", "functions"]) fun _ _ _ _ _ _ us hl => match us, hl with | [_, _, _], _ => rfl
  have kKG := DKG.kp
  have FKG := Hd.fun_of DKG
  have bKG := FKG.binds (ps := ["self", "at"]) fun _ _ _ _ _ _ us hl => match us, hl with | [_, _], _ => rfl
  have kKA := DKA.kp
  have FKA := Hd.fun_of DKA
  have bKA := FKA.binds (ps := ["self"]) fun _ _ _ _ _ _ us hl => match us, hl with | [_], _ => rfl
  have kWI := DWI.kp
  have kKL := DKL.kp
  have FKL := Hd.fun_of DKL
  have bKL := FKL.binds (ps := ["self", "name"]) fun _ _ _ _ _ _ us hl => match us, hl with | [_, _], _ => rfl
  have kGI := DGI.kp
  have FGI := Hd.fun_of DGI
  have bGI := FGI.binds (ps := ["self", "book", "view"]) fun _ _ _ _ _ _ us hl => match us, hl with | [_, _, _], _ => rfl
  have kDI := DDI.kp
  have FDI := Hd.fun_of DDI
  have bDI := FDI.binds (ps := ["self", "book", "state"]) fun _ _ _ _ _ _ us hl => match us, hl with | [_, _, _], _ => rfl
  have kDL := DDL.kp
  have FDL := Hd.fun_of DDL
  have bDL := FDL.binds (ps := ["self"]) fun _ _ _ _ _ _ us hl => match us, hl with | [_], _ => rfl
  have kDC := DDC.kp
  have FDC := Hd.fun_of DDC
  have bDC := FDC.binds (ps := ["self", "name", "arguments"]) fun _ _ _ _ _ _ us hl => match us, hl with | [_, _, _], _ => rfl
  have kDS := DDS.kp
  have FDS := Hd.fun_of DDS
  have bDS := FDS.binds (ps := ["self"]) fun _ _ _ _ _ _ us hl => match us, hl with | [_], _ => rfl
  have kDP := DDP.kp
  have FDP := Hd.fun_of DDP
  have bDP := FDP.binds (ps := ["self", "name", "value"]) fun _ _ _ _ _ _ us hl => match us, hl with | [_, _, _], _ => rfl
  have kDA := DDA.kp
  have FDA := Hd.fun_of DDA
  have bDA := FDA.binds (ps := ["self", "name", "value"]) fun _ _ _ _ _ _ us hl => match us, hl with | [_, _, _], _ => rfl
  have kDH := DDH.kp
  have FDH := Hd.fun_of DDH
  have bDH := FDH.binds (ps := ["self", "name", "value", "kind"]) fun _ _ _ _ _ _ us hl => match us, hl with | [_, _, _, _], _ => rfl
  have kWh := DWh.kp
  have FWh := Hd.fun_of DWh
  have bWh := FWh.binds (ps := ["value"]) fun _ _ _ _ _ _ us hl => match us, hl with | [_], _ => rfl
  have kVa := DVa.kp
  have FVa := Hd.fun_of DVa
  have bVa := FVa.binds (ps := ["value"]) fun _ _ _ _ _ _ us hl => match us, hl with | [_], _ => rfl
  have kNa := DNa.kp
  have FNa := Hd.fun_of DNa
  have bNa := FNa.binds (ps := ["value"]) fun _ _ _ _ _ _ us hl => match us, hl with | [_], _ => rfl
  have kTl := DTl.kp
  have FTl := Hd.fun_of DTl
  have bTl := FTl.binds (ps := ["value"]) fun _ _ _ _ _ _ us hl => match us, hl with | [_], _ => rfl
  have kTe := DTe.kp
  have FTe := Hd.fun_of DTe
  have bTe := FTe.binds (ps := ["value", "arguments"]) fun _ _ _ _ _ _ us hl => match us, hl with | [_, _], _ => rfl
  have kHa := DHa.kp
  have FHa := Hd.fun_of DHa
  have bHa := FHa.binds (ps := ["part", "arguments"]) fun _ _ _ _ _ _ us hl => match us, hl with | [_, _], _ => rfl
  have kCf := DCf.kp
  have FCf := Hd.fun_of DCf
  have bCf := FCf.binds (ps := ["terms"]) fun _ _ _ _ _ _ us hl => match us, hl with | [_], _ => rfl
  have kIn := DIn.kp
  have FIn := Hd.fun_of DIn
  have bIn := FIn.binds (ps := ["term"]) fun _ _ _ _ _ _ us hl => match us, hl with | [_], _ => rfl
  have kNx := DNx.kp
  have FNx := Hd.fun_of DNx
  have bNx := FNx.binds (ps := ["level"]) fun _ _ _ _ _ _ us hl => match us, hl with | [_], _ => rfl
  have kAw := DAw.kp
  have FAw := Hd.fun_of DAw
  have bAw := FAw.binds (ps := ["value"]) fun _ _ _ _ _ _ us hl => match us, hl with | [_], _ => rfl
  have kPa := DPa.kp
  have FPa := Hd.fun_of DPa
  have bPa := FPa.binds (ps := ["term"]) fun _ _ _ _ _ _ us hl => match us, hl with | [_], _ => rfl
  have kWi := DWi.kp
  have FWi := Hd.fun_of DWi
  have bWi := FWi.binds (ps := ["word", "term"]) fun _ _ _ _ _ _ us hl => match us, hl with | [_, _], _ => rfl
  have kAs := DAs.kp
  have FAs := Hd.fun_of DAs
  have bAs := FAs.binds (ps := ["names"]) fun _ _ _ _ _ _ us hl => match us, hl with | [_], _ => rfl
  have kCi := DCi.kp
  have FCi := Hd.fun_of DCi
  have bCi := FCi.binds (ps := ["term"]) fun _ _ _ _ _ _ us hl => match us, hl with | [_], _ => rfl
  have kPf := DPf.kp
  have FPf := Hd.fun_of DPf
  have bPf := FPf.binds (ps := ["part", "kinds", "ahead"]) fun _ _ _ _ _ _ us hl => match us, hl with | [_, _, _], _ => rfl
  have kFt := DFt.kp
  have FFt := Hd.fun_of DFt
  have bFt := FFt.binds (ps := ["function", "kinds", "ahead"]) fun _ _ _ _ _ _ us hl => match us, hl with | [_, _, _], _ => rfl
  have kCc := DCc.kp
  have FCc := Hd.fun_of DCc
  have bCc := FCc.binds (ps := ["cells"]) fun _ _ _ _ _ _ us hl => match us, hl with | [_], _ => rfl
  have kCn := DCn.kp
  have FCn := Hd.fun_of DCn
  have bCn := FCn.binds (ps := ["cells", "functions"]) fun _ _ _ _ _ _ us hl => match us, hl with | [_, _], _ => rfl
  have kPl := DPl.kp
  have FPl := Hd.fun_of DPl
  have bPl := FPl.binds (ps := ["_law_script", "_law_k"]) fun _ _ _ _ _ _ us hl => match us, hl with | [_, _], _ => rfl
  have kDr := DDr.kp
  have FDr := Hd.fun_of DDr
  have bDr := FDr.binds (ps := ["_law_pool_here", "_law_many"]) fun _ _ _ _ _ _ us hl => match us, hl with | [_, _], _ => rfl
  have kPk := DPk.kp
  have FPk := Hd.fun_of DPk
  have bPk := FPk.binds (ps := ["_law_pool_here", "_law_row"]) fun _ _ _ _ _ _ us hl => match us, hl with | [_, _], _ => rfl
  have kNm := DNm.kp
  have FNm := Hd.fun_of DNm
  have bNm := FNm.binds (ps := ["_law_pool_here", "_law_count"]) fun _ _ _ _ _ _ us hl => match us, hl with | [_, _], _ => rfl
  have kLt := DLt.kp
  have FLt := Hd.fun_of DLt
  have bLt := FLt.binds (ps := ["_law_pool_here", "_law_b", "_law_many", "_law_deep"]) fun _ _ _ _ _ _ us hl => match us, hl with | [_, _, _, _], _ => rfl
  have kLw := DLw.kp
  have FLw := Hd.fun_of DLw
  have bLw := FLw.binds (ps := ["_law_pool_here", "_law_b", "_law_many"]) fun _ _ _ _ _ _ us hl => match us, hl with | [_, _, _], _ => rfl
  have kLb := DLb.kp
  have FLb := Hd.fun_of DLb
  have bLb := FLb.binds (ps := ["_law_pool_here", "_law_most", "_law_deep"]) fun _ _ _ _ _ _ us hl => match us, hl with | [_, _, _], _ => rfl
  have kLm := DLm.kp
  have FLm := Hd.fun_of DLm
  have bLm := FLm.binds (ps := ["_law_b"]) fun _ _ _ _ _ _ us hl => match us, hl with | [_], _ => rfl
  have kLs := DLs.kp
  have FLs := Hd.fun_of DLs
  have bLs := FLs.binds (ps := ["_law_pool_here", "_law_b"]) fun _ _ _ _ _ _ us hl => match us, hl with | [_, _], _ => rfl
  have kLc := DLc.kp
  have FLc := Hd.fun_of DLc
  have bLc := FLc.binds (ps := ["_law_way", "_law_thing", "_law_some"]) fun _ _ _ _ _ _ us hl => match us, hl with | [_, _, _], _ => rfl
  have kLd := DLd.kp
  have FLd := Hd.fun_of DLd
  have bLd := FLd.binds (ps := ["_law_way", "_law_thing", "_law_some"]) fun _ _ _ _ _ _ us hl => match us, hl with | [_, _, _], _ => rfl
  have kLr := DLr.kp
  have FLr := Hd.fun_of DLr
  have bLr := FLr.binds (ps := ["_law_b", "_law_world"]) fun _ _ _ _ _ _ us hl => match us, hl with | [_, _], _ => rfl
  have kRa := DRa.kp
  have kAv := DAv.kp
  have FAv := Hd.fun_of DAv
  have bAv := FAv.binds (ps := ["values", "many"]) fun _ _ _ _ _ _ us hl => match us, hl with | [_, _], _ => rfl
  have kKa := DKa.kp
  have FKa := Hd.fun_of DKa
  have bKa := FKa.binds (ps := ["function", "arguments"]) fun _ _ _ _ _ _ us hl => match us, hl with | [_, _], _ => rfl
  have kKs := DKs.kp
  have FKs := Hd.fun_of DKs
  have bKs := FKs.binds (ps := ["cells", "state"]) fun _ _ _ _ _ _ us hl => match us, hl with | [_, _], _ => rfl
  have kVi := DVi.kp
  have FVi := Hd.fun_of DVi
  have bVi := FVi.binds (ps := ["book", "state"]) fun _ _ _ _ _ _ us hl => match us, hl with | [_, _], _ => rfl
  have kSw := DSw.kp
  have FSw := Hd.fun_of DSw
  have bSw := FSw.binds (ps := ["book", "values"]) fun _ _ _ _ _ _ us hl => match us, hl with | [_, _], _ => rfl
  have kLa := DLa.kp
  have FLa := Hd.fun_of DLa
  have M : Blt mg := ⟨PySem.W.mg_none_of X G z_abs, PySem.W.mg_none_of X G z_int, PySem.W.mg_none_of X G z_len, PySem.W.mg_none_of X G z_sum, PySem.W.mg_none_of X G z_max, PySem.W.mg_none_of X G z_min, PySem.W.mg_none_of X G z_range, PySem.W.mg_none_of X G z_isinstance, PySem.W.mg_none_of X G z_bool, PySem.W.mg_none_of X G z_str, PySem.W.mg_none_of X G z_tuple, PySem.W.mg_none_of X G z_list, PySem.W.mg_none_of X G z_dict, PySem.W.mg_none_of X G z_all, PySem.W.mg_none_of X G z_sorted, PySem.W.mg_none_of X G z_repr, PySem.W.mg_none_of X G z_zip⟩
  obtain ⟨ocFI, odFI, kVFI, dcFI, pmFI, anFI, cdFI, ctFI, slFI, rfl, lFI, cFI⟩ := FFI.ex
  have T : LabC K mg cL := ⟨⟨pgL, hdL, poL, saL⟩, nhL, nnL, meL, noL_str, (PySem.W.mg_of X G a_L), caL, cgL, ctL, cmL, neL, soL, nfL⟩
  have R : RowT K mg := ⟨aR, _, (PySem.W.mg_of X G vR), lR, rfl, rfl, fun H => .inr ⟨_, itsR, nR, lR, rfl, rfl, sR, rR⟩⟩
  have oB : OexC K cB := ⟨⟨nmB, qqB, NNB, bsB, _, snB, suB, abB, coB, ddB, maB, mbB, mcB, mdB, me_B, xB, by rfl⟩, saB, exB, tyB, kcB⟩
  have EB : ErrT K mg "BadLabel" "label" cB fBI := ⟨oB, nlB, aBI, tfB, (PySem.W.mg_of X G a_B)⟩
  have oP : OexC K cP := ⟨⟨nmP, qqP, NNP, bsP, _, snP, suP, abP, coP, ddP, maP, mbP, mcP, mdP, me_P, xP, by rfl⟩, saP, exP, tyP, kcP⟩
  have EP : ErrT K mg "BadPart" "part" cP fPI := ⟨oP, nlP, aPI, tfP, (PySem.W.mg_of X G a_P)⟩
  have oT : OexC K cT := ⟨⟨nmT, qqT, NNT, bsT, _, snT, suT, abT, coT, ddT, maT, mbT, mcT, mdT, me_T, xT, by rfl⟩, saT, exT, tyT, kcT⟩
  have ET : ErrT K mg "BadTerm" "term" cT fTI := ⟨oT, nlT, aTI, tfT, (PySem.W.mg_of X G a_T)⟩
  have oU : OexC K cU := ⟨⟨nmU, qqU, NNU, bsU, _, snU, suU, abU, coU, ddU, maU, mbU, mcU, mdU, me_U, xU, by rfl⟩, saU, exU, tyU, kcU⟩
  have EU : ErrT K mg "BadCell" "index" cU fUI := ⟨oU, nlU, aUI, tfU, (PySem.W.mg_of X G a_U)⟩
  have oN : OexC K cN := ⟨⟨nmN, qqN, NNN, bsN, _, snN, suN, abN, coN, ddN, maN, mbN, mcN, mdN, me_N, xN, by rfl⟩, saN, exN, tyN, kcN⟩
  have EN : ErrT K mg "BadFunction" "index" cN fNI := ⟨oN, nlN, aNI, tfN, (PySem.W.mg_of X G a_N)⟩
  have oE : OexC K cE := ⟨⟨nmE, qqE, NNE, bsE, _, snE, suE, abE, coE, ddE, maE, mbE, mcE, mdE, me_E, xE, by rfl⟩, saE, exE, tyE, kcE⟩
  have EE : ErrT K mg "BadState" "name" cE fEI := ⟨oE, nlE, aEI, tfE, (PySem.W.mg_of X G a_E)⟩
  have oA : OexC K cA := ⟨⟨nmA, qqA, NNA, bsA, _, snA, suA, abA, coA, ddA, maA, mbA, mcA, mdA, me_A, xA, by rfl⟩, saA, exA, tyA, kcA⟩
  have EA : ErrT K mg "BadArguments" "arguments" cA fAI := ⟨oA, nlA, aAI, tfA, (PySem.W.mg_of X G a_A)⟩
  have oI : OexC K cI := ⟨⟨nmI, qqI, NNI, bsI, _, snI, suI, abI, coI, ddI, maI, mbI, mcI, mdI, me_I, xI, by rfl⟩, saI, exI, tyI, kcI⟩
  have EI : ErrT K mg "BadTick" "value" cI fII := ⟨oI, nlI, aII, tfI, (PySem.W.mg_of X G a_I)⟩
  have oO : OexG K famO cO := ⟨⟨_, _, _, _, _, _, _, _, _, _, _, _, _, _, xO⟩, saO, kcO⟩
  have EO : ErrO K mg famO "TooMany" "limit" cO fOI := ⟨oO, nlO, aOI, tfO, (PySem.W.mg_of X G a_O), exO, tyO⟩
  have oY : OexG K famK cY := ⟨⟨_, _, _, _, _, _, _, _, _, _, _, _, _, _, xY⟩, saY, kcY⟩
  have EY : ErrO K mg famK "UnknownName" "name" cY fYI := ⟨oY, nlY, aYI, tfY, (PySem.W.mg_of X G a_Y), exY, tyY⟩
  have OB : OwnBase K mg "StoreError" cS := ⟨(PySem.W.mg_of X G a_S), spS, tyS, rdS, fiS⟩
  have NKL : NoKit K cL := fun d => match d with
    | .none => noL_NoneType
    | .bool _ => noL_bool
    | .int _ => noL_int
    | .str _ => noL_str
    | .list _ => noL_list
    | .tuple _ => noL_tuple
    | .dict _ => noL_dict
  have NKF : NoKit K cF := fun d => match d with
    | .none => noF_NoneType
    | .bool _ => noF_bool
    | .int _ => noF_int
    | .str _ => noF_str
    | .list _ => noF_list
    | .tuple _ => noF_tuple
    | .dict _ => noF_dict
  have NKC : NoKit K cC := fun d => match d with
    | .none => noC_NoneType
    | .bool _ => noC_bool
    | .int _ => noC_int
    | .str _ => noC_str
    | .list _ => noC_list
    | .tuple _ => noC_tuple
    | .dict _ => noC_dict
  have TC : CellsTxt K mg := ⟨⟨aV, (PySem.W.mg_of X G vV), fun H => .inr ⟨_, itsV, nV, lV, rfl, rfl, sV, rV⟩⟩, ⟨_, (PySem.W.mg_of X G i_LONGEST_NAME)⟩⟩
  have TX : TermsTxt K w mg := ⟨⟨aQ, esL, nQ, (PySem.W.mg_of X G vQ), ⟨lQ, kQ, yQ⟩, fun z => lens_in lQ (eQ z) oQ⟩, ⟨_, (PySem.W.mg_of X G i_MOST_ARGUMENTS)⟩, ⟨_, (PySem.W.mg_of X G i_MOST_DEEP)⟩, ⟨_, (PySem.W.mg_of X G i_MOST_PARTS)⟩⟩
  have CF : CellFns K mg fWh fVa fNa _ _ _ := ⟨FWh, FVa, FNa, bWh, bVa, bNa, (PySem.W.mg_of X G aWh), (PySem.W.mg_of X G aVa), (PySem.W.mg_of X G aNa)⟩
  have TF : FunTxt K mg := ⟨⟨_, (PySem.W.mg_of X G i_MOST_WRITES)⟩, ⟨_, (PySem.W.mg_of X G i_GREATEST_COST)⟩⟩
  have CC : CelC K mg cC := ⟨⟨pgC, hdC, poC, saC⟩, nnC, nkC, meC, noC_str, (PySem.W.mg_of X G a_C), caC, cgL, ctL, cmC, neC, soC, nfC⟩
  have RK : KindT K mg := ⟨aJ, (PySem.W.mg_of X G vJ), fun H => .inr ⟨_, itsJ, nJ, lJ, rfl, rfl, sJ, rJ⟩⟩
  have KFu : KitC K cF := ⟨⟨pgF, hdF, poF, saF⟩, meF, caF, cgL, ctL, cmF, NKF⟩
  have FC : FldC K cF := ⟨⟨pgF, hdF, poF, saF⟩, n_name, n_arguments, n_result, n_writes⟩
  have BC : BookC K cK := ⟨⟨pgK, hdK, poK, saK⟩, nk_cells, nk_functions, nk_by_name⟩
  have BT : BkT mg := ⟨PySem.W.mg_none_of X G z_enumerate, ⟨_, (PySem.W.mg_of X G i_MOST_CELLS)⟩, ⟨_, (PySem.W.mg_of X G i_MOST_FUNCTIONS)⟩⟩
  have FA : FAtt K cF := ⟨n_name, n_arguments, n_result, n_label, n_writes, n_cost⟩
  have BK : BookK K cK cC cF := ⟨⟨pgK, hdK, poK, saK⟩, nk_cells, nk_functions, nk_by_name, FC, ⟨pgC, hdC, poC, saC⟩, nnC⟩
  have WF : WithFns K mg fWi fAs _ _ := ⟨FWi, FAs, bWi, bAs, (PySem.W.mg_of X G aWi), (PySem.W.mg_of X G aAs)⟩
  have b3 : KBn K (PySem.W.fnOf "__init__" "Function.__init__" (defArgs sFun) (defBody sFun) (defScope sFun) .none kVFI dcFI pmFI anFI cdFI ctFI) ["self", "name", "arguments", "result", "label", "writes", "cost"] 4 ["label", "writes", "cost"] (fun us ws => us ++ ws) (fun vs zs => vs ++ zs) := ⟨fun s us ws X1 l1 l2 => match us, ws, l1, l2 with | [_, _, _, _], [_, _, _], _, _ => .of_eq rfl, fun r1 r2 => r1.append r2⟩
  have DW := DWI
  obtain ⟨dsW, hdsW, bWI⟩ := DW.binds1 (ps := ["self", "book", "tick", "view", "steady"]) 3 0 (by simp) rfl (fun T kV doc pm an cdv ct us its l1 l2 => match us, its, l1, l2 with | [_, _, _], [_, _], _, _ => ⟨_, rfl, rfl⟩)
  obtain ⟨ocRa, odRa, dVRa, kVRa, dcRa, pmRa, anRa, cdRa, ctRa, slRa, rfl, lRa, cRa, dlRa, kwRa⟩ := DRa.ex
  obtain rfl : dVRa = .none := Hd.dfl0 dlRa
  have DR := DRa
  have FRa := fun_mk (st := sRA) lRa cRa kRa
  have nA : KBn K (PySem.W.fnOf "run_alone" "run_alone" (defArgs sRA) (defBody sRA) (defScope sRA) .none kVRa dcRa pmRa anRa cdRa ctRa) ["book", "name", "arguments", "state", "tick"] 4 ["tick"] (fun us ws => us ++ ws) (fun vs zs => vs ++ zs) := ⟨fun s us ws X1 l1 l2 => match us, ws, l1, l2 with | [_, _, _, _], [_], _, _ => .of_eq rfl, fun r1 r2 => r1.append r2⟩
  obtain ⟨ds0W, hds0W, b0WI⟩ := DW.binds1 (ps := ["self", "book", "tick", "view", "steady"]) 5 2 (by simp) rfl (fun T kV doc pm an cdv ct us its l1 l2 => match us, its, l1, l2 with | [_, _, _, _, _], [_, _], _, _ => ⟨_, rfl, rfl⟩)
  have RKn : RunK K cW := ⟨⟨pgW, hdW, poW, saW⟩, nw_book, nw_tick, nw_view, nw_steady, nw_places, nw_kept⟩
  have CGk : CalK K cG := ⟨⟨pgG, hdG, poG, saG⟩, ng_view, ng_steady, ng_changing⟩
  have WK : WorK K cD := ⟨⟨pgD, hdD, poD, saD⟩, nd_book, nd_state, nd_view, nd_calling, nd_calls⟩
  have EX : ErrX K mg (⟨cY, cA, cE, cI, cP⟩ : Ers) := ⟨(PySem.W.mg_of X G a_Y), (PySem.W.mg_of X G a_A), (PySem.W.mg_of X G a_E), (PySem.W.mg_of X G a_I), (PySem.W.mg_of X G a_P), ⟨gaY, ggY, exY, hdY⟩, ⟨gaA, ggA, exA, hdA⟩, ⟨gaE, ggE, exE, hdE⟩, ⟨gaI, ggI, exI, hdI⟩, ⟨gaP, ggP, exP, hdP⟩, nlY, nlA, nlE, nlI, nlP, eYY, eAY, eAA, eEY, eEA, eEE, eIY, eIA, eIE, eII, ePY, ePA, ePE, ePI, ePP⟩
  have bLaw := FunD.bindsA (ps := ["_law_script"]) DLa fun _ _ _ _ _ _ us hl => match us, hl with | [_], _ => rfl
  exact ⟨fdLa, fun s v => bLaw s [v] rfl, fun base _ _ => by
    have GB := ok_badL (P := l.prog) (w := w) (base := base) FBI OB oB nlB
    have GP := ok_badPart (P := l.prog) (w := w) (base := base) FPI OB oP nlP
    have GT := ok_badTerm (P := l.prog) (w := w) (base := base) FTI OB oT nlT
    have GU := ok_badCell (P := l.prog) (w := w) (base := base) FUI OB oU nlU
    have GN := ok_badFunc (P := l.prog) (w := w) (base := base) FNI OB oN nlN
    have GO := ok_TooMany (P := l.prog) (w := w) (base := base) FOI (PySem.W.mg_none_of X G z_OverflowError) fiO oO nlO
    have GL := ok_lab (P := l.prog) (w := w) (base := base) FLI M T R EB GB bBI
    have LM : LabM l.prog w K mg base cL cB fLI _ := ⟨⟨mkL, aLI, iLI, kcL⟩, GL, bLI, (PySem.W.mg_of X G a_L)⟩
    have GTl := ok_toLab FTl M T NKL LM
    have GWh := ok_whole (P := l.prog) (w := w) (base := base) FWh M
    have GNa := ok_name (P := l.prog) (w := w) (base := base) FNa M TC
    have GI := ok_inner (P := l.prog) (w := w) (base := base) FIn M TC CF
    have GX := ok_next (P := l.prog) (w := w) (base := base) FNx GI FIn bIn ((PySem.W.mg_of X G aIn))
    have GH := ok_has (P := l.prog) (w := w) (base := base) FHa M TC TX CF FCf bCf ((PySem.W.mg_of X G aCf))
    have GTe := ok_term FTe M TX GH FHa bHa ((PySem.W.mg_of X G aHa)) GX FNx bNx ((PySem.W.mg_of X G aNx))
    have GA := ok_areW (P := l.prog) (w := w) (base := base) FAw M TF GNa kNa bNa ((PySem.W.mg_of X G aNa))
    have C : FunC l.prog w K mg base cF cL cB cP cT fNa fWh fTl fTe fAw fPI fTI _ _ _ _ _ _ _ := ⟨GNa, kNa, bNa, (PySem.W.mg_of X G aNa), GWh, kWh, bWh, (PySem.W.mg_of X G aWh), GTl, kTl, bTl, (PySem.W.mg_of X G aTl), GTe, kTe, bTe, (PySem.W.mg_of X G aTe), GA, kAw, bAw, (PySem.W.mg_of X G aAw), EP, GP, bPI, ET, GT, bTI, ⟨_, (PySem.W.mg_of X G i_MOST_ARGUMENTS)⟩, ⟨pgF, hdF, poF, saF⟩, n_name, n_arguments, n_result, n_label, n_writes, n_cost⟩
    have GF := ok_fun (P := l.prog) (w := w) (base := base) FFI M TF C
    have GFP := ok_fparts (P := l.prog) (w := w) (mg := mg) (base := base) FFP FC
    have GCe := ok_cell FCI M CC RK EP GP bPI GNa kNa bNa ((PySem.W.mg_of X G aNa))
    have GPa := ok_parts (P := l.prog) (w := w) (base := base) FPa GX FNx bNx ((PySem.W.mg_of X G aNx))
    have GWi := ok_with (P := l.prog) (w := w) (base := base) FWi M TC CF GPa FPa bPa ((PySem.W.mg_of X G aPa))
    have GAs := ok_asc (P := l.prog) (w := w) (base := base) FAs M
    have GCi := ok_Cells FCi WF GWi GAs
    have GPf := ok_pf FPf M GCi kCi bCi ((PySem.W.mg_of X G aCi)) GWi kWi bWi ((PySem.W.mg_of X G aWi))
    have GFt := ok_fits FFt M FC GPf kPf bPf ((PySem.W.mg_of X G aPf)) GFP ⟨aFP, iFP, kFP⟩ bFP
    have GCc := ok_cc FCc M BT CC NKC EU EO GU bUI GO bOI
    have GCn := ok_cfn FCn M BT CC KFu ((PySem.W.mg_of X G a_F)) FC EN EO GN bNI GO bOI GFt kFt bFt ((PySem.W.mg_of X G aFt))
    have GKI := ok_book FKI M BC FC GCc kCc bCc ((PySem.W.mg_of X G aCc)) GCn kCn bCn ((PySem.W.mg_of X G aCn))
    have GYI := ok_Unknown (P := l.prog) (w := w) (base := base) FYI (PySem.W.mg_none_of X G z_KeyError) fiY oY nlY
    have FM : FunM l.prog w K mg base cF cL cB cP cT fFI _ := ⟨⟨mkF, aFI, iFI, kcF⟩, GF, (PySem.W.mg_of X G a_F), b3⟩
    have BMk : BookMk l.prog w K mg base cK cC cF cU cN cO fKI _ := ⟨⟨mkK, aKI, iKI, kcK⟩, GKI, (PySem.W.mg_of X G a_K), bKI⟩
    have CMk : CellMk l.prog w K mg base cC cP fCI _ := ⟨⟨mkC, aCI, iCI, kcC⟩, GCe, (PySem.W.mg_of X G a_C), bCI⟩
    have GKG := ok_bget (P := l.prog) (w := w) (base := base) (CL := cL) FKG M BK EY GYI bYI
    have GKA := ok_allc (P := l.prog) (w := w) (base := base) (CL := cL) FKA M BK
    have OG : Op1 l.prog w K mg base (L2.CX l.prog w) 3 cK "__getitem__" fKG _ _ _ := ⟨aKG, iKG, fiKG, GKG, bKG⟩
    have GLb := ok_lb (P := l.prog) (w := w) (base := base) FLb M FDr bDr ((PySem.W.mg_of X G aDr)) FPk bPk ((PySem.W.mg_of X G aPk)) FNm bNm ((PySem.W.mg_of X G aNm)) FLt bLt ((PySem.W.mg_of X G aLt)) FLw bLw ((PySem.W.mg_of X G aLw))
    have GLm := ok_made FLm FM BMk CMk
    have GVa := ok_value (P := l.prog) (w := w) (base := base) FVa M TC FWh bWh ((PySem.W.mg_of X G aWh))
    have GAr := ok_badArguments (P := l.prog) (w := w) (base := base) FAI OB oA nlA
    have GSt := ok_badState (P := l.prog) (w := w) (base := base) FEI OB oE nlE
    have GTk := ok_badTick (P := l.prog) (w := w) (base := base) FII OB oI nlI
    have GKL := ok_bcell (P := l.prog) (w := w) (base := base) (CL := cL) FKL M BK EY GYI bYI
    have GAv := ok_av FAv M GVa kVa bVa ((PySem.W.mg_of X G aVa))
    have GKa := ok_ca (CL := cL) FKa M ⟨pgF, hdF, poF, saF⟩ n_arguments EA GAr bAI GAv kAv bAv ((PySem.W.mg_of X G aAv))
    have GKs := ok_cs FKs M ⟨pgC, hdC, poC, saC⟩ nnC EE GSt bEI GVa kVa bVa ((PySem.W.mg_of X G aVa))
    have GVi := ok_vi FVi M BK GKA ⟨aKA, iKA, kKA⟩ bKA
    have GSw := ok_sw FSw M BK GKA ⟨aKA, iKA, kKA⟩ bKA
    have GWI := ok_runI (P := l.prog) (w := w) (base := base) (CL := cL) DW M RKn BK (PySem.W.mg_none_of X G z_enumerate) GKA ⟨aKA, iKA, kKA⟩ bKA
    have GGI := ok_calI FGI M CGk ⟨mkW, aWI, iWI, kcW⟩ ((PySem.W.mg_of X G a_W)) GWI bWI hdsW b0WI hds0W
    have BU : BkUse l.prog w K mg base cK cC cF cL ⟨cY, cA, cE, cI, cP⟩ fKG fKA fKL fKa fKs _ _ _ _ _ := ⟨BK, OG, GKA, ⟨aKA, iKA, kKA⟩, bKA, GKL, ⟨aKL, iKL, kKL⟩, bKL, nkC, GKa, kKa, bKa, (PySem.W.mg_of X G aKa), GKs, kKs, bKs, (PySem.W.mg_of X G aKs)⟩
    have GDI := ok_wi FDI M WK BU GVi kVi bVi ((PySem.W.mg_of X G aVi)) ⟨mkG, aGI, iGI, kcG⟩ ((PySem.W.mg_of X G a_G)) GGI bGI
    have GDL := ok_wlen (P := l.prog) (w := w) (mg := mg) (base := base) (CK := cK) (C := cC) (CF := cF) (CL := cL) FDL M WK
    have GDS := ok_wst FDS M WK GSw kSw bSw ((PySem.W.mg_of X G aSw))
    have GDC := ok_wcall FDC M WK BU
    have GDH := ok_wch FDH M WK BU EP GP bPI GVa kVa bVa ((PySem.W.mg_of X G aVa))
    have GDP := ok_wput FDP WK GDH ⟨aDH, iDH, kDH⟩ bDH
    have GDA := ok_wasg FDA WK GDH ⟨aDH, iDH, kDH⟩ bDH
    have GRa := ok_ra DRa M BU EI GTk bII GWh kWh bWh ((PySem.W.mg_of X G aWh))
    have GLc := ok_lc FLc WK GRa kRa ((PySem.W.mg_of X G aRa)) nA ⟨mkD, aDI, iDI, kcD⟩ ((PySem.W.mg_of X G a_D)) GDI bDI GDC ⟨aDC, iDC, kDC⟩ bDC GDP ⟨aDP, iDP, kDP⟩ bDP GDA ⟨aDA, iDA, kDA⟩ bDA
    have GLd := ok_told FLd M GLc kLc bLc ((PySem.W.mg_of X G aLc)) EX
    have GLr := ok_cr FLr M GLd kLd bLd ((PySem.W.mg_of X G aLd))
    have GLs := ok_lst (P := l.prog) (w := w) (base := base) FLs M FDr bDr ((PySem.W.mg_of X G aDr))
    have OL : Op1 l.prog w K mg base CX0 1 cD "__len__" fDL _ _ _ := ⟨aDL, iDL, fiDL, GDL, bDL⟩
    exact ok_law FLa M WK FPl bPl ((PySem.W.mg_of X G aPl)) FDr bDr ((PySem.W.mg_of X G aDr)) FPk bPk ((PySem.W.mg_of X G aPk)) ⟨GLb, kLb, bLb, (PySem.W.mg_of X G aLb)⟩ ⟨GLm, kLm, bLm, (PySem.W.mg_of X G aLm)⟩ ⟨GLs, kLs, bLs, (PySem.W.mg_of X G aLs)⟩ GLd kLd bLd ((PySem.W.mg_of X G aLd)) GLr kLr bLr ((PySem.W.mg_of X G aLr)) ⟨mkD, aDI, iDI, kcD⟩ ((PySem.W.mg_of X G a_D)) GDI bDI OL GDS ⟨aDS, iDS, kDS⟩ bDS⟩
namespace Hd
open He
def cL (K : PySem.W.Frag) : Addr := ga K "Label"
def cB (K : PySem.W.Frag) : Addr := ga K "BadLabel"
def cP (K : PySem.W.Frag) : Addr := ga K "BadPart"
def cT (K : PySem.W.Frag) : Addr := ga K "BadTerm"
def cU (K : PySem.W.Frag) : Addr := ga K "BadCell"
def cN (K : PySem.W.Frag) : Addr := ga K "BadFunction"
def cO (K : PySem.W.Frag) : Addr := ga K "TooMany"
def cY (K : PySem.W.Frag) : Addr := ga K "UnknownName"
def cS (K : PySem.W.Frag) : Addr := ga K "StoreError"
def cF (K : PySem.W.Frag) : Addr := ga K "Function"
def cC (K : PySem.W.Frag) : Addr := ga K "Cell"
def cK (K : PySem.W.Frag) : Addr := ga K "Book"
def cW (K : PySem.W.Frag) : Addr := ga K "Runner"
def cG (K : PySem.W.Frag) : Addr := ga K "Calling"
def cD (K : PySem.W.Frag) : Addr := ga K "World"
def cE (K : PySem.W.Frag) : Addr := ga K "BadState"
def cA (K : PySem.W.Frag) : Addr := ga K "BadArguments"
def cI (K : PySem.W.Frag) : Addr := ga K "BadTick"
def fBI (K : PySem.W.Frag) : Addr := fAd K ("BadLabel", some "__init__")
def fPI (K : PySem.W.Frag) : Addr := fAd K ("BadPart", some "__init__")
def fTI (K : PySem.W.Frag) : Addr := fAd K ("BadTerm", some "__init__")
def fUI (K : PySem.W.Frag) : Addr := fAd K ("BadCell", some "__init__")
def fNI (K : PySem.W.Frag) : Addr := fAd K ("BadFunction", some "__init__")
def fEI (K : PySem.W.Frag) : Addr := fAd K ("BadState", some "__init__")
def fAI (K : PySem.W.Frag) : Addr := fAd K ("BadArguments", some "__init__")
def fII (K : PySem.W.Frag) : Addr := fAd K ("BadTick", some "__init__")
def fOI (K : PySem.W.Frag) : Addr := fAd K ("TooMany", some "__init__")
def fYI (K : PySem.W.Frag) : Addr := fAd K ("UnknownName", some "__init__")
def fLI (K : PySem.W.Frag) : Addr := fAd K ("Label", some "__init__")
def fFI (K : PySem.W.Frag) : Addr := fAd K ("Function", some "__init__")
def fFP (K : PySem.W.Frag) : Addr := fAd K ("Function", some "parts")
def fCI (K : PySem.W.Frag) : Addr := fAd K ("Cell", some "__init__")
def fKI (K : PySem.W.Frag) : Addr := fAd K ("Book", some "__init__")
def fKG (K : PySem.W.Frag) : Addr := fAd K ("Book", some "__getitem__")
def fKA (K : PySem.W.Frag) : Addr := fAd K ("Book", some "all_cells")
def fWI (K : PySem.W.Frag) : Addr := fAd K ("Runner", some "__init__")
def fKL (K : PySem.W.Frag) : Addr := fAd K ("Book", some "cell")
def fGI (K : PySem.W.Frag) : Addr := fAd K ("Calling", some "__init__")
def fDI (K : PySem.W.Frag) : Addr := fAd K ("World", some "__init__")
def fDL (K : PySem.W.Frag) : Addr := fAd K ("World", some "__len__")
def fDC (K : PySem.W.Frag) : Addr := fAd K ("World", some "call")
def fDS (K : PySem.W.Frag) : Addr := fAd K ("World", some "state")
def fDP (K : PySem.W.Frag) : Addr := fAd K ("World", some "put")
def fDA (K : PySem.W.Frag) : Addr := fAd K ("World", some "assign")
def fDH (K : PySem.W.Frag) : Addr := fAd K ("World", some "_change")
def fWh (K : PySem.W.Frag) : Addr := fAd K ("is_whole", none)
def fVa (K : PySem.W.Frag) : Addr := fAd K ("is_value", none)
def fNa (K : PySem.W.Frag) : Addr := fAd K ("is_name", none)
def fTl (K : PySem.W.Frag) : Addr := fAd K ("to_label", none)
def fTe (K : PySem.W.Frag) : Addr := fAd K ("is_term", none)
def fHa (K : PySem.W.Frag) : Addr := fAd K ("_has_form", none)
def fCf (K : PySem.W.Frag) : Addr := fAd K ("_has_call_form", none)
def fIn (K : PySem.W.Frag) : Addr := fAd K ("inner_terms", none)
def fNx (K : PySem.W.Frag) : Addr := fAd K ("_next_level", none)
def fAw (K : PySem.W.Frag) : Addr := fAd K ("_are_writes", none)
def fPa (K : PySem.W.Frag) : Addr := fAd K ("all_parts", none)
def fWi (K : PySem.W.Frag) : Addr := fAd K ("parts_with", none)
def fAs (K : PySem.W.Frag) : Addr := fAd K ("_ascending", none)
def fCi (K : PySem.W.Frag) : Addr := fAd K ("cells_in", none)
def fPf (K : PySem.W.Frag) : Addr := fAd K ("_part_fits", none)
def fFt (K : PySem.W.Frag) : Addr := fAd K ("_fits", none)
def fCc (K : PySem.W.Frag) : Addr := fAd K ("_check_cells", none)
def fCn (K : PySem.W.Frag) : Addr := fAd K ("_check_functions", none)
def fPl (K : PySem.W.Frag) : Addr := fAd K ("_law_pool", none)
def fDr (K : PySem.W.Frag) : Addr := fAd K ("_law_draw", none)
def fPk (K : PySem.W.Frag) : Addr := fAd K ("_law_pick", none)
def fNm (K : PySem.W.Frag) : Addr := fAd K ("_law_names", none)
def fLt (K : PySem.W.Frag) : Addr := fAd K ("_law_term", none)
def fLw (K : PySem.W.Frag) : Addr := fAd K ("_law_writes", none)
def fLb (K : PySem.W.Frag) : Addr := fAd K ("_law_book", none)
def fLm (K : PySem.W.Frag) : Addr := fAd K ("_law_made_book", none)
def fLs (K : PySem.W.Frag) : Addr := fAd K ("_law_state", none)
def fLc (K : PySem.W.Frag) : Addr := fAd K ("_law_call", none)
def fLd (K : PySem.W.Frag) : Addr := fAd K ("_law_told", none)
def fLr (K : PySem.W.Frag) : Addr := fAd K ("_law_cells_right", none)
def fRa (K : PySem.W.Frag) : Addr := fAd K ("run_alone", none)
def fAv (K : PySem.W.Frag) : Addr := fAd K ("are_values", none)
def fKa (K : PySem.W.Frag) : Addr := fAd K ("_check_arguments", none)
def fKs (K : PySem.W.Frag) : Addr := fAd K ("check_state", none)
def fVi (K : PySem.W.Frag) : Addr := fAd K ("values_in", none)
def fSw (K : PySem.W.Frag) : Addr := fAd K ("state_with", none)
def fLa (K : PySem.W.Frag) : Addr := fAd K ("law", none)
def aR (K : PySem.W.Frag) : Addr := ga K "LABELS"
def aV (K : PySem.W.Frag) : Addr := ga K "VALUES"
def aJ (K : PySem.W.Frag) : Addr := ga K "KINDS"
def aQ (K : PySem.W.Frag) : Addr := ga K "LENGTHS"
def fn : List DefD := [⟨("BadLabel", some "__init__"), "__init__", "BadLabel.__init__", defArgs sBL, defBody sBL, defScope sBL, [], []⟩,
  ⟨("BadPart", some "__init__"), "__init__", "BadPart.__init__", defArgs sBadPart, defBody sBadPart, defScope sBadPart, [], []⟩,
  ⟨("BadTerm", some "__init__"), "__init__", "BadTerm.__init__", defArgs sBadTerm, defBody sBadTerm, defScope sBadTerm, [], []⟩,
  ⟨("BadCell", some "__init__"), "__init__", "BadCell.__init__", defArgs sBadCell, defBody sBadCell, defScope sBadCell, [], []⟩,
  ⟨("BadFunction", some "__init__"), "__init__", "BadFunction.__init__", defArgs sBadFunction, defBody sBadFunction, defScope sBadFunction, [], []⟩,
  ⟨("BadState", some "__init__"), "__init__", "BadState.__init__", defArgs sBadState, defBody sBadState, defScope sBadState, [], []⟩,
  ⟨("BadArguments", some "__init__"), "__init__", "BadArguments.__init__", defArgs sBadArguments, defBody sBadArguments, defScope sBadArguments, [], []⟩,
  ⟨("BadTick", some "__init__"), "__init__", "BadTick.__init__", defArgs sBadTick, defBody sBadTick, defScope sBadTick, [], []⟩,
  ⟨("TooMany", some "__init__"), "__init__", "TooMany.__init__", defArgs sTooMany, defBody sTooMany, defScope sTooMany, [], []⟩,
  ⟨("UnknownName", some "__init__"), "__init__", "UnknownName.__init__", defArgs sUnkErr, defBody sUnkErr, defScope sUnkErr, [], []⟩,
  ⟨("Label", some "__init__"), "__init__", "Label.__init__", defArgs sLab, defBody sLab, defScope sLab, [], []⟩,
  ⟨("Function", some "__init__"), "__init__", "Function.__init__", defArgs sFun, defBody sFun, defScope sFun, [], []⟩,
  ⟨("Function", some "parts"), "parts", "Function.parts", defArgs sFParts, defBody sFParts, defScope sFParts, [], []⟩,
  ⟨("Cell", some "__init__"), "__init__", "Cell.__init__", defArgs sCell, defBody sCell, defScope sCell, [], []⟩,
  ⟨("Book", some "__init__"), "__init__", "Book.__init__", defArgs sBook, defBody sBook, defScope sBook, [], []⟩,
  ⟨("Book", some "__getitem__"), "__getitem__", "Book.__getitem__", defArgs sGet, defBody sGet, defScope sGet, [], []⟩,
  ⟨("Book", some "all_cells"), "all_cells", "Book.all_cells", defArgs sAllC, defBody sAllC, defScope sAllC, [], []⟩,
  ⟨("Runner", some "__init__"), "__init__", "Runner.__init__", defArgs sRunI, defBody sRunI, defScope sRunI, [.non, .non], []⟩,
  ⟨("Book", some "cell"), "cell", "Book.cell", defArgs sBCell, defBody sBCell, defScope sBCell, [], []⟩,
  ⟨("Calling", some "__init__"), "__init__", "Calling.__init__", defArgs sCalI, defBody sCalI, defScope sCalI, [], []⟩,
  ⟨("World", some "__init__"), "__init__", "World.__init__", defArgs sWorI, defBody sWorI, defScope sWorI, [], []⟩,
  ⟨("World", some "__len__"), "__len__", "World.__len__", defArgs sWLen, defBody sWLen, defScope sWLen, [], []⟩,
  ⟨("World", some "call"), "call", "World.call", defArgs sWCall, defBody sWCall, defScope sWCall, [], []⟩,
  ⟨("World", some "state"), "state", "World.state", defArgs sWSt, defBody sWSt, defScope sWSt, [], []⟩,
  ⟨("World", some "put"), "put", "World.put", defArgs sWPut, defBody sWPut, defScope sWPut, [], []⟩,
  ⟨("World", some "assign"), "assign", "World.assign", defArgs sWAsg, defBody sWAsg, defScope sWAsg, [], []⟩,
  ⟨("World", some "_change"), "_change", "World._change", defArgs sWCh, defBody sWCh, defScope sWCh, [], []⟩,
  ⟨("is_whole", none), "is_whole", "is_whole", defArgs sWhole, defBody sWhole, defScope sWhole, [], []⟩,
  ⟨("is_value", none), "is_value", "is_value", defArgs sValue, defBody sValue, defScope sValue, [], []⟩,
  ⟨("is_name", none), "is_name", "is_name", defArgs sName, defBody sName, defScope sName, [], []⟩,
  ⟨("to_label", none), "to_label", "to_label", defArgs sToLab, defBody sToLab, defScope sToLab, [], []⟩,
  ⟨("is_term", none), "is_term", "is_term", defArgs sTerm, defBody sTerm, defScope sTerm, [], []⟩,
  ⟨("_has_form", none), "_has_form", "_has_form", defArgs sHas, defBody sHas, defScope sHas, [], []⟩,
  ⟨("_has_call_form", none), "_has_call_form", "_has_call_form", defArgs sCallForm, defBody sCallForm, defScope sCallForm, [], []⟩,
  ⟨("inner_terms", none), "inner_terms", "inner_terms", defArgs sInner, defBody sInner, defScope sInner, [], []⟩,
  ⟨("_next_level", none), "_next_level", "_next_level", defArgs sNext, defBody sNext, defScope sNext, [], []⟩,
  ⟨("_are_writes", none), "_are_writes", "_are_writes", defArgs sAreW, defBody sAreW, defScope sAreW, [], []⟩,
  ⟨("all_parts", none), "all_parts", "all_parts", defArgs sParts, defBody sParts, defScope sParts, [], []⟩,
  ⟨("parts_with", none), "parts_with", "parts_with", defArgs sWith, defBody sWith, defScope sWith, [], []⟩,
  ⟨("_ascending", none), "_ascending", "_ascending", defArgs sAsc, defBody sAsc, defScope sAsc, [], []⟩,
  ⟨("cells_in", none), "cells_in", "cells_in", defArgs sCells, defBody sCells, defScope sCells, [], []⟩,
  ⟨("_part_fits", none), "_part_fits", "_part_fits", defArgs sPF, defBody sPF, defScope sPF, [], []⟩,
  ⟨("_fits", none), "_fits", "_fits", defArgs sFits, defBody sFits, defScope sFits, [], []⟩,
  ⟨("_check_cells", none), "_check_cells", "_check_cells", defArgs sCC, defBody sCC, defScope sCC, [], []⟩,
  ⟨("_check_functions", none), "_check_functions", "_check_functions", defArgs sCFn, defBody sCFn, defScope sCFn, [], []⟩,
  ⟨("_law_pool", none), "_law_pool", "_law_pool", defArgs sPool, defBody sPool, defScope sPool, [], []⟩,
  ⟨("_law_draw", none), "_law_draw", "_law_draw", defArgs sDraw, defBody sDraw, defScope sDraw, [], []⟩,
  ⟨("_law_pick", none), "_law_pick", "_law_pick", defArgs sPick, defBody sPick, defScope sPick, [], []⟩,
  ⟨("_law_names", none), "_law_names", "_law_names", defArgs sLNames, defBody sLNames, defScope sLNames, [], []⟩,
  ⟨("_law_term", none), "_law_term", "_law_term", defArgs sLTerm, defBody sLTerm, defScope sLTerm, [], []⟩,
  ⟨("_law_writes", none), "_law_writes", "_law_writes", defArgs sLW, defBody sLW, defScope sLW, [], []⟩,
  ⟨("_law_book", none), "_law_book", "_law_book", defArgs sLB, defBody sLB, defScope sLB, [], []⟩,
  ⟨("_law_made_book", none), "_law_made_book", "_law_made_book", defArgs sMade, defBody sMade, defScope sMade, [], []⟩,
  ⟨("_law_state", none), "_law_state", "_law_state", defArgs sLSt, defBody sLSt, defScope sLSt, [], []⟩,
  ⟨("_law_call", none), "_law_call", "_law_call", defArgs sLC, defBody sLC, defScope sLC, [], []⟩,
  ⟨("_law_told", none), "_law_told", "_law_told", defArgs sTold, defBody sTold, defScope sTold, [], []⟩,
  ⟨("_law_cells_right", none), "_law_cells_right", "_law_cells_right", defArgs sCR, defBody sCR, defScope sCR, [], []⟩,
  ⟨("run_alone", none), "run_alone", "run_alone", defArgs sRA, defBody sRA, defScope sRA, [], [("tick", .int 0)]⟩,
  ⟨("are_values", none), "are_values", "are_values", defArgs sAV, defBody sAV, defScope sAV, [], []⟩,
  ⟨("_check_arguments", none), "_check_arguments", "_check_arguments", defArgs sCA, defBody sCA, defScope sCA, [], []⟩,
  ⟨("check_state", none), "check_state", "check_state", defArgs sCS, defBody sCS, defScope sCS, [], []⟩,
  ⟨("values_in", none), "values_in", "values_in", defArgs sVI, defBody sVI, defScope sVI, [], []⟩,
  ⟨("state_with", none), "state_with", "state_with", defArgs sSW, defBody sSW, defScope sSW, [], []⟩,
  ⟨("law", none), "law", "law", defArgs sLaw, defBody sLaw, defScope sLaw, [], []⟩]
def ts : List Tab := [(fun K => He.ga K "LENGTHS", ["tick", "plus", "less", "same", "if"])]
def chk0 (K : PySem.W.Frag) : List Bool := [decide (PySem.W.nsIn K mainGlobals "Label" = some (some (.ref (cL K)))),
  decide (PySem.W.nsIn K mainGlobals "BadLabel" = some (some (.ref (cB K)))),
  decide (PySem.W.nsIn K mainGlobals "BadPart" = some (some (.ref (cP K)))),
  decide (PySem.W.nsIn K mainGlobals "BadTerm" = some (some (.ref (cT K)))),
  decide (PySem.W.nsIn K mainGlobals "BadCell" = some (some (.ref (cU K)))),
  decide (PySem.W.nsIn K mainGlobals "BadFunction" = some (some (.ref (cN K)))),
  decide (PySem.W.nsIn K mainGlobals "TooMany" = some (some (.ref (cO K)))),
  decide (PySem.W.nsIn K mainGlobals "UnknownName" = some (some (.ref (cY K)))),
  decide (PySem.W.nsIn K mainGlobals "StoreError" = some (some (.ref (cS K)))),
  decide (PySem.W.nsIn K mainGlobals "Function" = some (some (.ref (cF K)))),
  decide (PySem.W.nsIn K mainGlobals "Cell" = some (some (.ref (cC K)))),
  decide (PySem.W.nsIn K mainGlobals "Book" = some (some (.ref (cK K)))),
  decide (PySem.W.nsIn K mainGlobals "Runner" = some (some (.ref (cW K)))),
  decide (PySem.W.nsIn K mainGlobals "Calling" = some (some (.ref (cG K)))),
  decide (PySem.W.nsIn K mainGlobals "World" = some (some (.ref (cD K)))),
  decide (PySem.W.nsIn K mainGlobals "BadState" = some (some (.ref (cE K)))),
  decide (PySem.W.nsIn K mainGlobals "BadArguments" = some (some (.ref (cA K)))),
  decide (PySem.W.nsIn K mainGlobals "BadTick" = some (some (.ref (cI K)))),
  decide (PySem.W.findIn K (.ref (cB K)) "__init__" = some (some (.ref (fBI K)))),
  PySem.W.isFn K (.ref (fBI K)),
  decide (PySem.W.findIn K (.ref (cP K)) "__init__" = some (some (.ref (fPI K)))),
  PySem.W.isFn K (.ref (fPI K)),
  decide (PySem.W.findIn K (.ref (cT K)) "__init__" = some (some (.ref (fTI K)))),
  PySem.W.isFn K (.ref (fTI K)),
  decide (PySem.W.findIn K (.ref (cU K)) "__init__" = some (some (.ref (fUI K)))),
  PySem.W.isFn K (.ref (fUI K)),
  decide (PySem.W.findIn K (.ref (cN K)) "__init__" = some (some (.ref (fNI K)))),
  PySem.W.isFn K (.ref (fNI K))]
def chk1 (K : PySem.W.Frag) : List Bool := [decide (PySem.W.findIn K (.ref (cE K)) "__init__" = some (some (.ref (fEI K)))),
  PySem.W.isFn K (.ref (fEI K)),
  decide (PySem.W.findIn K (.ref (cA K)) "__init__" = some (some (.ref (fAI K)))),
  PySem.W.isFn K (.ref (fAI K)),
  decide (PySem.W.findIn K (.ref (cI K)) "__init__" = some (some (.ref (fII K)))),
  PySem.W.isFn K (.ref (fII K)),
  decide (PySem.W.findIn K (.ref (cO K)) "__init__" = some (some (.ref (fOI K)))),
  PySem.W.isFn K (.ref (fOI K)),
  decide (PySem.W.findIn K (.ref (cY K)) "__init__" = some (some (.ref (fYI K)))),
  PySem.W.isFn K (.ref (fYI K)),
  decide (PySem.W.findIn K (.ref (cL K)) "__init__" = some (some (.ref (fLI K)))),
  PySem.W.isFn K (.ref (fLI K)),
  decide (PySem.W.findIn K (.ref (cF K)) "__init__" = some (some (.ref (fFI K)))),
  PySem.W.isFn K (.ref (fFI K)),
  decide (PySem.W.findIn K (.ref (cF K)) "parts" = some (some (.ref (fFP K)))),
  PySem.W.isFn K (.ref (fFP K)),
  decide (PySem.W.findIn K (.ref (cC K)) "__init__" = some (some (.ref (fCI K)))),
  PySem.W.isFn K (.ref (fCI K)),
  decide (PySem.W.findIn K (.ref (cK K)) "__init__" = some (some (.ref (fKI K)))),
  PySem.W.isFn K (.ref (fKI K)),
  decide (PySem.W.findIn K (.ref (cK K)) "__getitem__" = some (some (.ref (fKG K)))),
  PySem.W.isFn K (.ref (fKG K)),
  decide (PySem.W.findIn K (.ref (cK K)) "all_cells" = some (some (.ref (fKA K)))),
  PySem.W.isFn K (.ref (fKA K)),
  decide (PySem.W.findIn K (.ref (cW K)) "__init__" = some (some (.ref (fWI K)))),
  PySem.W.isFn K (.ref (fWI K)),
  decide (PySem.W.findIn K (.ref (cK K)) "cell" = some (some (.ref (fKL K)))),
  PySem.W.isFn K (.ref (fKL K))]
def chk2 (K : PySem.W.Frag) : List Bool := [decide (PySem.W.findIn K (.ref (cG K)) "__init__" = some (some (.ref (fGI K)))),
  PySem.W.isFn K (.ref (fGI K)),
  decide (PySem.W.findIn K (.ref (cD K)) "__init__" = some (some (.ref (fDI K)))),
  PySem.W.isFn K (.ref (fDI K)),
  decide (PySem.W.findIn K (.ref (cD K)) "__len__" = some (some (.ref (fDL K)))),
  PySem.W.isFn K (.ref (fDL K)),
  decide (PySem.W.findIn K (.ref (cD K)) "call" = some (some (.ref (fDC K)))),
  PySem.W.isFn K (.ref (fDC K)),
  decide (PySem.W.findIn K (.ref (cD K)) "state" = some (some (.ref (fDS K)))),
  PySem.W.isFn K (.ref (fDS K)),
  decide (PySem.W.findIn K (.ref (cD K)) "put" = some (some (.ref (fDP K)))),
  PySem.W.isFn K (.ref (fDP K)),
  decide (PySem.W.findIn K (.ref (cD K)) "assign" = some (some (.ref (fDA K)))),
  PySem.W.isFn K (.ref (fDA K)),
  decide (PySem.W.findIn K (.ref (cD K)) "_change" = some (some (.ref (fDH K)))),
  PySem.W.isFn K (.ref (fDH K)),
  decide (PySem.W.nsIn K mainGlobals "is_whole" = some (some (.ref (fWh K)))),
  decide (PySem.W.nsIn K mainGlobals "is_value" = some (some (.ref (fVa K)))),
  decide (PySem.W.nsIn K mainGlobals "is_name" = some (some (.ref (fNa K)))),
  decide (PySem.W.nsIn K mainGlobals "to_label" = some (some (.ref (fTl K)))),
  decide (PySem.W.nsIn K mainGlobals "is_term" = some (some (.ref (fTe K)))),
  decide (PySem.W.nsIn K mainGlobals "_has_form" = some (some (.ref (fHa K)))),
  decide (PySem.W.nsIn K mainGlobals "_has_call_form" = some (some (.ref (fCf K)))),
  decide (PySem.W.nsIn K mainGlobals "inner_terms" = some (some (.ref (fIn K)))),
  decide (PySem.W.nsIn K mainGlobals "_next_level" = some (some (.ref (fNx K)))),
  decide (PySem.W.nsIn K mainGlobals "_are_writes" = some (some (.ref (fAw K)))),
  decide (PySem.W.nsIn K mainGlobals "all_parts" = some (some (.ref (fPa K)))),
  decide (PySem.W.nsIn K mainGlobals "parts_with" = some (some (.ref (fWi K))))]
def chk3 (K : PySem.W.Frag) : List Bool := [decide (PySem.W.nsIn K mainGlobals "_ascending" = some (some (.ref (fAs K)))),
  decide (PySem.W.nsIn K mainGlobals "cells_in" = some (some (.ref (fCi K)))),
  decide (PySem.W.nsIn K mainGlobals "_part_fits" = some (some (.ref (fPf K)))),
  decide (PySem.W.nsIn K mainGlobals "_fits" = some (some (.ref (fFt K)))),
  decide (PySem.W.nsIn K mainGlobals "_check_cells" = some (some (.ref (fCc K)))),
  decide (PySem.W.nsIn K mainGlobals "_check_functions" = some (some (.ref (fCn K)))),
  decide (PySem.W.nsIn K mainGlobals "_law_pool" = some (some (.ref (fPl K)))),
  decide (PySem.W.nsIn K mainGlobals "_law_draw" = some (some (.ref (fDr K)))),
  decide (PySem.W.nsIn K mainGlobals "_law_pick" = some (some (.ref (fPk K)))),
  decide (PySem.W.nsIn K mainGlobals "_law_names" = some (some (.ref (fNm K)))),
  decide (PySem.W.nsIn K mainGlobals "_law_term" = some (some (.ref (fLt K)))),
  decide (PySem.W.nsIn K mainGlobals "_law_writes" = some (some (.ref (fLw K)))),
  decide (PySem.W.nsIn K mainGlobals "_law_book" = some (some (.ref (fLb K)))),
  decide (PySem.W.nsIn K mainGlobals "_law_made_book" = some (some (.ref (fLm K)))),
  decide (PySem.W.nsIn K mainGlobals "_law_state" = some (some (.ref (fLs K)))),
  decide (PySem.W.nsIn K mainGlobals "_law_call" = some (some (.ref (fLc K)))),
  decide (PySem.W.nsIn K mainGlobals "_law_told" = some (some (.ref (fLd K)))),
  decide (PySem.W.nsIn K mainGlobals "_law_cells_right" = some (some (.ref (fLr K)))),
  decide (PySem.W.nsIn K mainGlobals "run_alone" = some (some (.ref (fRa K)))),
  decide (PySem.W.nsIn K mainGlobals "are_values" = some (some (.ref (fAv K)))),
  decide (PySem.W.nsIn K mainGlobals "_check_arguments" = some (some (.ref (fKa K)))),
  decide (PySem.W.nsIn K mainGlobals "check_state" = some (some (.ref (fKs K)))),
  decide (PySem.W.nsIn K mainGlobals "values_in" = some (some (.ref (fVi K)))),
  decide (PySem.W.nsIn K mainGlobals "state_with" = some (some (.ref (fSw K)))),
  decide (PySem.W.nsIn K mainGlobals "law" = some (some (.ref (fLa K)))),
  decide (PySem.W.nsIn K mainGlobals "abs" = some none),
  decide (PySem.W.nsIn K mainGlobals "int" = some none),
  decide (PySem.W.nsIn K mainGlobals "len" = some none)]
def chk4 (K : PySem.W.Frag) : List Bool := [decide (PySem.W.nsIn K mainGlobals "sum" = some none),
  decide (PySem.W.nsIn K mainGlobals "max" = some none),
  decide (PySem.W.nsIn K mainGlobals "min" = some none),
  decide (PySem.W.nsIn K mainGlobals "range" = some none),
  decide (PySem.W.nsIn K mainGlobals "isinstance" = some none),
  decide (PySem.W.nsIn K mainGlobals "bool" = some none),
  decide (PySem.W.nsIn K mainGlobals "str" = some none),
  decide (PySem.W.nsIn K mainGlobals "tuple" = some none),
  decide (PySem.W.nsIn K mainGlobals "list" = some none),
  decide (PySem.W.nsIn K mainGlobals "dict" = some none),
  decide (PySem.W.nsIn K mainGlobals "all" = some none),
  decide (PySem.W.nsIn K mainGlobals "sorted" = some none),
  decide (PySem.W.nsIn K mainGlobals "repr" = some none),
  decide (PySem.W.nsIn K mainGlobals "zip" = some none),
  decide (PySem.W.nsIn K mainGlobals "OverflowError" = some none),
  decide (PySem.W.nsIn K mainGlobals "enumerate" = some none),
  decide (PySem.W.nsIn K mainGlobals "KeyError" = some none),
  intB K "LONGEST_NAME" 8,
  intB K "MOST_ARGUMENTS" 2,
  intB K "MOST_DEEP" 8,
  intB K "MOST_PARTS" 30,
  intB K "MOST_WRITES" 3,
  intB K "GREATEST_COST" 99,
  intB K "MOST_CELLS" 6,
  intB K "MOST_FUNCTIONS" 8,
  PySem.W.plainGet K (cL K) Str.empty,
  PySem.W.hasDictIn K (cL K),
  PySem.W.plainOver K (cL K)]
def chk5 (K : PySem.W.Frag) : List Bool := [decide (PySem.W.findIn K (.ref (cL K)) "__setattr__" = some (some (.builtin "object.__setattr__"))),
  PySem.W.makesIn K (cL K),
  PySem.W.keepIn K (.ref (cL K)),
  PySem.W.plainGet K (cF K) Str.empty,
  PySem.W.hasDictIn K (cF K),
  PySem.W.plainOver K (cF K),
  decide (PySem.W.findIn K (.ref (cF K)) "__setattr__" = some (some (.builtin "object.__setattr__"))),
  PySem.W.makesIn K (cF K),
  PySem.W.keepIn K (.ref (cF K)),
  PySem.W.plainGet K (cC K) Str.empty,
  PySem.W.hasDictIn K (cC K),
  PySem.W.plainOver K (cC K),
  decide (PySem.W.findIn K (.ref (cC K)) "__setattr__" = some (some (.builtin "object.__setattr__"))),
  PySem.W.makesIn K (cC K),
  PySem.W.keepIn K (.ref (cC K)),
  PySem.W.plainGet K (cK K) Str.empty,
  PySem.W.hasDictIn K (cK K),
  PySem.W.plainOver K (cK K),
  decide (PySem.W.findIn K (.ref (cK K)) "__setattr__" = some (some (.builtin "object.__setattr__"))),
  PySem.W.makesIn K (cK K),
  PySem.W.keepIn K (.ref (cK K)),
  PySem.W.plainGet K (cW K) Str.empty,
  PySem.W.hasDictIn K (cW K),
  PySem.W.plainOver K (cW K),
  decide (PySem.W.findIn K (.ref (cW K)) "__setattr__" = some (some (.builtin "object.__setattr__"))),
  PySem.W.makesIn K (cW K),
  PySem.W.keepIn K (.ref (cW K)),
  PySem.W.plainGet K (cG K) Str.empty]
def chk6 (K : PySem.W.Frag) : List Bool := [PySem.W.hasDictIn K (cG K),
  PySem.W.plainOver K (cG K),
  decide (PySem.W.findIn K (.ref (cG K)) "__setattr__" = some (some (.builtin "object.__setattr__"))),
  PySem.W.makesIn K (cG K),
  PySem.W.keepIn K (.ref (cG K)),
  PySem.W.plainGet K (cD K) Str.empty,
  PySem.W.hasDictIn K (cD K),
  PySem.W.plainOver K (cD K),
  decide (PySem.W.findIn K (.ref (cD K)) "__setattr__" = some (some (.builtin "object.__setattr__"))),
  PySem.W.makesIn K (cD K),
  PySem.W.keepIn K (.ref (cD K)),
  decide (PySem.W.specialIn K (.builtin "object.__class__") "__get__" = some (some (.builtin "getset_descriptor.__get__"))),
  decide (PySem.W.takesIn K (.builtin "object.__class__") = some true),
  decide (PySem.W.kitOne K (.ref (cL K)) (.ref (cL K)) = some true),
  decide (PySem.W.findIn K (.ref (cL K)) "__class__" = some (some (.builtin "object.__class__"))),
  decide (PySem.W.mroIn K (cL K) (.type "object") = some true),
  decide (PySem.W.kitOne K (.type "NoneType") (.ref (cL K)) = some false),
  decide (PySem.W.kitOne K (.type "bool") (.ref (cL K)) = some false),
  decide (PySem.W.kitOne K (.type "int") (.ref (cL K)) = some false),
  decide (PySem.W.kitOne K (.type "str") (.ref (cL K)) = some false),
  decide (PySem.W.kitOne K (.type "list") (.ref (cL K)) = some false),
  decide (PySem.W.kitOne K (.type "tuple") (.ref (cL K)) = some false),
  decide (PySem.W.kitOne K (.type "dict") (.ref (cL K)) = some false),
  decide (PySem.W.kitOne K (.ref (cF K)) (.ref (cF K)) = some true),
  decide (PySem.W.findIn K (.ref (cF K)) "__class__" = some (some (.builtin "object.__class__"))),
  decide (PySem.W.mroIn K (cF K) (.type "object") = some true),
  decide (PySem.W.kitOne K (.type "NoneType") (.ref (cF K)) = some false),
  decide (PySem.W.kitOne K (.type "bool") (.ref (cF K)) = some false)]
def chk7 (K : PySem.W.Frag) : List Bool := [decide (PySem.W.kitOne K (.type "int") (.ref (cF K)) = some false),
  decide (PySem.W.kitOne K (.type "str") (.ref (cF K)) = some false),
  decide (PySem.W.kitOne K (.type "list") (.ref (cF K)) = some false),
  decide (PySem.W.kitOne K (.type "tuple") (.ref (cF K)) = some false),
  decide (PySem.W.kitOne K (.type "dict") (.ref (cF K)) = some false),
  decide (PySem.W.kitOne K (.ref (cC K)) (.ref (cC K)) = some true),
  decide (PySem.W.findIn K (.ref (cC K)) "__class__" = some (some (.builtin "object.__class__"))),
  decide (PySem.W.mroIn K (cC K) (.type "object") = some true),
  decide (PySem.W.kitOne K (.type "NoneType") (.ref (cC K)) = some false),
  decide (PySem.W.kitOne K (.type "bool") (.ref (cC K)) = some false),
  decide (PySem.W.kitOne K (.type "int") (.ref (cC K)) = some false),
  decide (PySem.W.kitOne K (.type "str") (.ref (cC K)) = some false),
  decide (PySem.W.kitOne K (.type "list") (.ref (cC K)) = some false),
  decide (PySem.W.kitOne K (.type "tuple") (.ref (cC K)) = some false),
  decide (PySem.W.kitOne K (.type "dict") (.ref (cC K)) = some false),
  decide (PySem.W.findIn K (.ref (cL K)) "__ne__" = some (some (.builtin "object.__ne__"))),
  decide (PySem.W.subIn K (.ref (cL K)) (.type "object") = some true),
  PySem.W.notFirst K (cL K) (.type "str"),
  decide (PySem.W.findIn K (.ref (cC K)) "__ne__" = some (some (.builtin "object.__ne__"))),
  decide (PySem.W.subIn K (.ref (cC K)) (.type "object") = some true),
  PySem.W.notFirst K (cC K) (.type "str"),
  PySem.W.fnIn K (fKG K),
  PySem.W.fnIn K (fDL K),
  decide (PySem.W.findIn K (.ref (cW K)) "_book" = some none),
  decide (PySem.W.findIn K (.ref (cW K)) "_tick" = some none),
  decide (PySem.W.findIn K (.ref (cW K)) "_view" = some none),
  decide (PySem.W.findIn K (.ref (cW K)) "_steady" = some none),
  decide (PySem.W.findIn K (.ref (cW K)) "_places" = some none)]
def chk8 (K : PySem.W.Frag) : List Bool := [decide (PySem.W.findIn K (.ref (cW K)) "_kept" = some none),
  decide (PySem.W.findIn K (.ref (cG K)) "_view" = some none),
  decide (PySem.W.findIn K (.ref (cG K)) "_steady" = some none),
  decide (PySem.W.findIn K (.ref (cG K)) "_changing" = some none),
  decide (PySem.W.findIn K (.ref (cD K)) "_book" = some none),
  decide (PySem.W.findIn K (.ref (cD K)) "_state" = some none),
  decide (PySem.W.findIn K (.ref (cD K)) "_view" = some none),
  decide (PySem.W.findIn K (.ref (cD K)) "_calling" = some none),
  decide (PySem.W.findIn K (.ref (cD K)) "_calls" = some none),
  decide (PySem.W.findIn K (.ref (cL K)) "_height" = some none),
  decide (PySem.W.findIn K (.ref (cL K)) "name" = some none),
  decide (PySem.W.findIn K (.ref (cC K)) "name" = some none),
  decide (PySem.W.findIn K (.ref (cC K)) "kind" = some none),
  decide (PySem.W.findIn K (.ref (cF K)) "name" = some none),
  decide (PySem.W.findIn K (.ref (cF K)) "arguments" = some none),
  decide (PySem.W.findIn K (.ref (cF K)) "result" = some none),
  decide (PySem.W.findIn K (.ref (cF K)) "label" = some none),
  decide (PySem.W.findIn K (.ref (cF K)) "writes" = some none),
  decide (PySem.W.findIn K (.ref (cF K)) "cost" = some none),
  decide (PySem.W.findIn K (.ref (cK K)) "_cells" = some none),
  decide (PySem.W.findIn K (.ref (cK K)) "_functions" = some none),
  decide (PySem.W.findIn K (.ref (cK K)) "_by_name" = some none),
  excB K (cB K) [.ref (cS K), .type "ValueError", .type "Exception", .type "BaseException", .type "object"] "ValueError.__new__",
  decide (PySem.W.findIn K (.ref (cB K)) "__setattr__" = some (some (.builtin "object.__setattr__"))),
  decide (PySem.W.subIn K (.ref (cB K)) (.type "BaseException") = some true),
  decide (PySem.W.typeIn K (.ref (cB K)) = some (.type "type")),
  PySem.W.keepIn K (.ref (cB K)),
  decide (PySem.W.findIn K (.ref (cB K)) "label" = some none)]
def chk9 (K : PySem.W.Frag) : List Bool := [decide (PySem.W.typeIn K (.ref (fBI K)) = some (.type "function")),
  excB K (cP K) [.ref (cS K), .type "ValueError", .type "Exception", .type "BaseException", .type "object"] "ValueError.__new__",
  decide (PySem.W.findIn K (.ref (cP K)) "__setattr__" = some (some (.builtin "object.__setattr__"))),
  decide (PySem.W.subIn K (.ref (cP K)) (.type "BaseException") = some true),
  decide (PySem.W.typeIn K (.ref (cP K)) = some (.type "type")),
  PySem.W.keepIn K (.ref (cP K)),
  decide (PySem.W.findIn K (.ref (cP K)) "part" = some none),
  decide (PySem.W.typeIn K (.ref (fPI K)) = some (.type "function")),
  excB K (cT K) [.ref (cS K), .type "ValueError", .type "Exception", .type "BaseException", .type "object"] "ValueError.__new__",
  decide (PySem.W.findIn K (.ref (cT K)) "__setattr__" = some (some (.builtin "object.__setattr__"))),
  decide (PySem.W.subIn K (.ref (cT K)) (.type "BaseException") = some true),
  decide (PySem.W.typeIn K (.ref (cT K)) = some (.type "type")),
  PySem.W.keepIn K (.ref (cT K)),
  decide (PySem.W.findIn K (.ref (cT K)) "term" = some none),
  decide (PySem.W.typeIn K (.ref (fTI K)) = some (.type "function")),
  excB K (cU K) [.ref (cS K), .type "ValueError", .type "Exception", .type "BaseException", .type "object"] "ValueError.__new__",
  decide (PySem.W.findIn K (.ref (cU K)) "__setattr__" = some (some (.builtin "object.__setattr__"))),
  decide (PySem.W.subIn K (.ref (cU K)) (.type "BaseException") = some true),
  decide (PySem.W.typeIn K (.ref (cU K)) = some (.type "type")),
  PySem.W.keepIn K (.ref (cU K)),
  decide (PySem.W.findIn K (.ref (cU K)) "index" = some none),
  decide (PySem.W.typeIn K (.ref (fUI K)) = some (.type "function")),
  excB K (cN K) [.ref (cS K), .type "ValueError", .type "Exception", .type "BaseException", .type "object"] "ValueError.__new__",
  decide (PySem.W.findIn K (.ref (cN K)) "__setattr__" = some (some (.builtin "object.__setattr__"))),
  decide (PySem.W.subIn K (.ref (cN K)) (.type "BaseException") = some true),
  decide (PySem.W.typeIn K (.ref (cN K)) = some (.type "type")),
  PySem.W.keepIn K (.ref (cN K)),
  decide (PySem.W.findIn K (.ref (cN K)) "index" = some none)]
def chk10 (K : PySem.W.Frag) : List Bool := [decide (PySem.W.typeIn K (.ref (fNI K)) = some (.type "function")),
  excB K (cE K) [.ref (cS K), .type "ValueError", .type "Exception", .type "BaseException", .type "object"] "ValueError.__new__",
  decide (PySem.W.findIn K (.ref (cE K)) "__setattr__" = some (some (.builtin "object.__setattr__"))),
  decide (PySem.W.subIn K (.ref (cE K)) (.type "BaseException") = some true),
  decide (PySem.W.typeIn K (.ref (cE K)) = some (.type "type")),
  PySem.W.keepIn K (.ref (cE K)),
  decide (PySem.W.findIn K (.ref (cE K)) "name" = some none),
  decide (PySem.W.typeIn K (.ref (fEI K)) = some (.type "function")),
  excB K (cA K) [.ref (cS K), .type "ValueError", .type "Exception", .type "BaseException", .type "object"] "ValueError.__new__",
  decide (PySem.W.findIn K (.ref (cA K)) "__setattr__" = some (some (.builtin "object.__setattr__"))),
  decide (PySem.W.subIn K (.ref (cA K)) (.type "BaseException") = some true),
  decide (PySem.W.typeIn K (.ref (cA K)) = some (.type "type")),
  PySem.W.keepIn K (.ref (cA K)),
  decide (PySem.W.findIn K (.ref (cA K)) "arguments" = some none),
  decide (PySem.W.typeIn K (.ref (fAI K)) = some (.type "function")),
  excB K (cI K) [.ref (cS K), .type "ValueError", .type "Exception", .type "BaseException", .type "object"] "ValueError.__new__",
  decide (PySem.W.findIn K (.ref (cI K)) "__setattr__" = some (some (.builtin "object.__setattr__"))),
  decide (PySem.W.subIn K (.ref (cI K)) (.type "BaseException") = some true),
  decide (PySem.W.typeIn K (.ref (cI K)) = some (.type "type")),
  PySem.W.keepIn K (.ref (cI K)),
  decide (PySem.W.findIn K (.ref (cI K)) "value" = some none),
  decide (PySem.W.typeIn K (.ref (fII K)) = some (.type "function")),
  excB K (cO K) [.type "OverflowError", .type "ArithmeticError", .type "Exception", .type "BaseException", .type "object"] "OverflowError.__new__",
  decide (PySem.W.findIn K (.ref (cO K)) "__setattr__" = some (some (.builtin "object.__setattr__"))),
  decide (PySem.W.subIn K (.ref (cO K)) (.type "BaseException") = some true),
  decide (PySem.W.typeIn K (.ref (cO K)) = some (.type "type")),
  PySem.W.keepIn K (.ref (cO K)),
  decide (PySem.W.findIn K (.ref (cO K)) "limit" = some none)]
def chk11 (K : PySem.W.Frag) : List Bool := [decide (PySem.W.typeIn K (.ref (fOI K)) = some (.type "function")),
  excB K (cY K) [.type "KeyError", .type "LookupError", .type "Exception", .type "BaseException", .type "object"] "LookupError.__new__",
  decide (PySem.W.findIn K (.ref (cY K)) "__setattr__" = some (some (.builtin "object.__setattr__"))),
  decide (PySem.W.subIn K (.ref (cY K)) (.type "BaseException") = some true),
  decide (PySem.W.typeIn K (.ref (cY K)) = some (.type "type")),
  PySem.W.keepIn K (.ref (cY K)),
  decide (PySem.W.findIn K (.ref (cY K)) "name" = some none),
  decide (PySem.W.typeIn K (.ref (fYI K)) = some (.type "function")),
  decide (PySem.W.findIn K (.ref (cY K)) "__getattribute__" = some (some (.builtin "BaseException.__getattribute__"))),
  decide (PySem.W.findIn K (.ref (cY K)) "__getattr__" = some none),
  PySem.W.hasDictIn K (cY K),
  decide (PySem.W.findIn K (.ref (cA K)) "__getattribute__" = some (some (.builtin "BaseException.__getattribute__"))),
  decide (PySem.W.findIn K (.ref (cA K)) "__getattr__" = some none),
  PySem.W.hasDictIn K (cA K),
  decide (PySem.W.findIn K (.ref (cE K)) "__getattribute__" = some (some (.builtin "BaseException.__getattribute__"))),
  decide (PySem.W.findIn K (.ref (cE K)) "__getattr__" = some none),
  PySem.W.hasDictIn K (cE K),
  decide (PySem.W.findIn K (.ref (cI K)) "__getattribute__" = some (some (.builtin "BaseException.__getattribute__"))),
  decide (PySem.W.findIn K (.ref (cI K)) "__getattr__" = some none),
  PySem.W.hasDictIn K (cI K),
  decide (PySem.W.findIn K (.ref (cP K)) "__getattribute__" = some (some (.builtin "BaseException.__getattribute__"))),
  decide (PySem.W.findIn K (.ref (cP K)) "__getattr__" = some none),
  PySem.W.hasDictIn K (cP K),
  decide (PySem.W.exmOne K (.ref (cY K)) (.ref (cY K)) = some true),
  decide (PySem.W.exmOne K (.ref (cA K)) (.ref (cY K)) = some false),
  decide (PySem.W.exmOne K (.ref (cA K)) (.ref (cA K)) = some true),
  decide (PySem.W.exmOne K (.ref (cE K)) (.ref (cY K)) = some false),
  decide (PySem.W.exmOne K (.ref (cE K)) (.ref (cA K)) = some false)]
def chk12 (K : PySem.W.Frag) : List Bool := [decide (PySem.W.exmOne K (.ref (cE K)) (.ref (cE K)) = some true),
  decide (PySem.W.exmOne K (.ref (cI K)) (.ref (cY K)) = some false),
  decide (PySem.W.exmOne K (.ref (cI K)) (.ref (cA K)) = some false),
  decide (PySem.W.exmOne K (.ref (cI K)) (.ref (cE K)) = some false),
  decide (PySem.W.exmOne K (.ref (cI K)) (.ref (cI K)) = some true),
  decide (PySem.W.exmOne K (.ref (cP K)) (.ref (cY K)) = some false),
  decide (PySem.W.exmOne K (.ref (cP K)) (.ref (cA K)) = some false),
  decide (PySem.W.exmOne K (.ref (cP K)) (.ref (cE K)) = some false),
  decide (PySem.W.exmOne K (.ref (cP K)) (.ref (cI K)) = some false),
  decide (PySem.W.exmOne K (.ref (cP K)) (.ref (cP K)) = some true),
  fclsB K (.type "KeyError") (.type "type") "__init__" "KeyError.__init__",
  decide (PySem.W.specialIn K (.ref (cS K)) "__getattribute__" = some (some (.builtin "type.__getattribute__"))),
  decide (PySem.W.typeIn K (.ref (cS K)) = some (.type "type")),
  PySem.W.readsIn K (cS K) (.type "type"),
  fclsB K (.ref (cS K)) (.type "type") "__init__" "ValueError.__init__",
  fclsB K (.type "OverflowError") (.type "type") "__init__" "OverflowError.__init__",
  decide (PySem.W.nsIn K mainGlobals "LABELS" = some (some (.ref (aR K)))),
  Hd.tupB K (aR K) (labRow.map V.str),
  decide (PySem.W.nsIn K mainGlobals "VALUES" = some (some (.ref (aV K)))),
  Hd.tupB K (aV K) [.int 0, .int 1, .int 2],
  decide (PySem.W.nsIn K mainGlobals "KINDS" = some (some (.ref (aJ K)))),
  Hd.tupB K (aJ K) (kindRow.map V.str),
  decide (PySem.W.nsIn K mainGlobals "LENGTHS" = some (some (.ref (aQ K)))),
  lensB K (aQ K)]
def chk (K : PySem.W.Frag) : Bool := (chk0 K).all id && ((chk1 K).all id && ((chk2 K).all id && ((chk3 K).all id && ((chk4 K).all id && ((chk5 K).all id && ((chk6 K).all id && ((chk7 K).all id && ((chk8 K).all id && ((chk9 K).all id && ((chk10 K).all id && ((chk11 K).all id && ((chk12 K).all id))))))))))))
theorem facts {l : PySem.W.OpenLaw} {w : World} {K : PySem.W.Frag} {h : Heap} {mg : Str → Option Value} {fa : Addr} (X : K.In h) (G : h.Ns mainGlobals mg) (hfa : mg "law" = some (.ref fa)) (c : Says fn ts chk w K) :
    ∃ fd : FuncData, (∀ (s : Shared) (v : Value), BindsTo s fd ⟨[v], []⟩ [("_law_script", v)]) ∧ ∀ base : Heap, K.In base → base.Ns mainGlobals mg → FnG l.prog w K mg base 14 fa fd ["_law_script"] (spLaw K) := by
  have z0 : chk K = true := c.more
  unfold chk at z0
  obtain ⟨q0, z1⟩ := ba z0
  obtain ⟨q1, z2⟩ := ba z1
  obtain ⟨q2, z3⟩ := ba z2
  obtain ⟨q3, z4⟩ := ba z3
  obtain ⟨q4, z5⟩ := ba z4
  obtain ⟨q5, z6⟩ := ba z5
  obtain ⟨q6, z7⟩ := ba z6
  obtain ⟨q7, z8⟩ := ba z7
  obtain ⟨q8, z9⟩ := ba z8
  obtain ⟨q9, z10⟩ := ba z9
  obtain ⟨q10, z11⟩ := ba z10
  obtain ⟨q11, z12⟩ := ba z11
  have q12 := z12
  obtain ⟨fdBI, DBI⟩ := c.t.d.def_ 0 rfl
  obtain ⟨fdPI, DPI⟩ := c.t.d.def_ 1 rfl
  obtain ⟨fdTI, DTI⟩ := c.t.d.def_ 2 rfl
  obtain ⟨fdUI, DUI⟩ := c.t.d.def_ 3 rfl
  obtain ⟨fdNI, DNI⟩ := c.t.d.def_ 4 rfl
  obtain ⟨fdEI, DEI⟩ := c.t.d.def_ 5 rfl
  obtain ⟨fdAI, DAI⟩ := c.t.d.def_ 6 rfl
  obtain ⟨fdII, DII⟩ := c.t.d.def_ 7 rfl
  obtain ⟨fdOI, DOI⟩ := c.t.d.def_ 8 rfl
  obtain ⟨fdYI, DYI⟩ := c.t.d.def_ 9 rfl
  obtain ⟨fdLI, DLI⟩ := c.t.d.def_ 10 rfl
  obtain ⟨fdFI, DFI⟩ := c.t.d.def_ 11 rfl
  obtain ⟨fdFP, DFP⟩ := c.t.d.def_ 12 rfl
  obtain ⟨fdCI, DCI⟩ := c.t.d.def_ 13 rfl
  obtain ⟨fdKI, DKI⟩ := c.t.d.def_ 14 rfl
  obtain ⟨fdKG, DKG⟩ := c.t.d.def_ 15 rfl
  obtain ⟨fdKA, DKA⟩ := c.t.d.def_ 16 rfl
  obtain ⟨fdWI, DWI⟩ := c.t.d.def_ 17 rfl
  obtain ⟨fdKL, DKL⟩ := c.t.d.def_ 18 rfl
  obtain ⟨fdGI, DGI⟩ := c.t.d.def_ 19 rfl
  obtain ⟨fdDI, DDI⟩ := c.t.d.def_ 20 rfl
  obtain ⟨fdDL, DDL⟩ := c.t.d.def_ 21 rfl
  obtain ⟨fdDC, DDC⟩ := c.t.d.def_ 22 rfl
  obtain ⟨fdDS, DDS⟩ := c.t.d.def_ 23 rfl
  obtain ⟨fdDP, DDP⟩ := c.t.d.def_ 24 rfl
  obtain ⟨fdDA, DDA⟩ := c.t.d.def_ 25 rfl
  obtain ⟨fdDH, DDH⟩ := c.t.d.def_ 26 rfl
  obtain ⟨fdWh, DWh⟩ := c.t.d.def_ 27 rfl
  obtain ⟨fdVa, DVa⟩ := c.t.d.def_ 28 rfl
  obtain ⟨fdNa, DNa⟩ := c.t.d.def_ 29 rfl
  obtain ⟨fdTl, DTl⟩ := c.t.d.def_ 30 rfl
  obtain ⟨fdTe, DTe⟩ := c.t.d.def_ 31 rfl
  obtain ⟨fdHa, DHa⟩ := c.t.d.def_ 32 rfl
  obtain ⟨fdCf, DCf⟩ := c.t.d.def_ 33 rfl
  obtain ⟨fdIn, DIn⟩ := c.t.d.def_ 34 rfl
  obtain ⟨fdNx, DNx⟩ := c.t.d.def_ 35 rfl
  obtain ⟨fdAw, DAw⟩ := c.t.d.def_ 36 rfl
  obtain ⟨fdPa, DPa⟩ := c.t.d.def_ 37 rfl
  obtain ⟨fdWi, DWi⟩ := c.t.d.def_ 38 rfl
  obtain ⟨fdAs, DAs⟩ := c.t.d.def_ 39 rfl
  obtain ⟨fdCi, DCi⟩ := c.t.d.def_ 40 rfl
  obtain ⟨fdPf, DPf⟩ := c.t.d.def_ 41 rfl
  obtain ⟨fdFt, DFt⟩ := c.t.d.def_ 42 rfl
  obtain ⟨fdCc, DCc⟩ := c.t.d.def_ 43 rfl
  obtain ⟨fdCn, DCn⟩ := c.t.d.def_ 44 rfl
  obtain ⟨fdPl, DPl⟩ := c.t.d.def_ 45 rfl
  obtain ⟨fdDr, DDr⟩ := c.t.d.def_ 46 rfl
  obtain ⟨fdPk, DPk⟩ := c.t.d.def_ 47 rfl
  obtain ⟨fdNm, DNm⟩ := c.t.d.def_ 48 rfl
  obtain ⟨fdLt, DLt⟩ := c.t.d.def_ 49 rfl
  obtain ⟨fdLw, DLw⟩ := c.t.d.def_ 50 rfl
  obtain ⟨fdLb, DLb⟩ := c.t.d.def_ 51 rfl
  obtain ⟨fdLm, DLm⟩ := c.t.d.def_ 52 rfl
  obtain ⟨fdLs, DLs⟩ := c.t.d.def_ 53 rfl
  obtain ⟨fdLc, DLc⟩ := c.t.d.def_ 54 rfl
  obtain ⟨fdLd, DLd⟩ := c.t.d.def_ 55 rfl
  obtain ⟨fdLr, DLr⟩ := c.t.d.def_ 56 rfl
  obtain ⟨fdRa, DRa⟩ := c.t.d.def_ 57 rfl
  obtain ⟨fdAv, DAv⟩ := c.t.d.def_ 58 rfl
  obtain ⟨fdKa, DKa⟩ := c.t.d.def_ 59 rfl
  obtain ⟨fdKs, DKs⟩ := c.t.d.def_ 60 rfl
  obtain ⟨fdVi, DVi⟩ := c.t.d.def_ 61 rfl
  obtain ⟨fdSw, DSw⟩ := c.t.d.def_ 62 rfl
  obtain ⟨fdLa, DLa⟩ := c.t.d.def_ 63 rfl
  obtain ⟨_, i_LONGEST_NAME⟩ := int_at (at_ q4 17 rfl)
  obtain ⟨_, i_MOST_ARGUMENTS⟩ := int_at (at_ q4 18 rfl)
  obtain ⟨_, i_MOST_DEEP⟩ := int_at (at_ q4 19 rfl)
  obtain ⟨_, i_MOST_PARTS⟩ := int_at (at_ q4 20 rfl)
  obtain ⟨_, i_MOST_WRITES⟩ := int_at (at_ q4 21 rfl)
  obtain ⟨_, i_GREATEST_COST⟩ := int_at (at_ q4 22 rfl)
  obtain ⟨_, i_MOST_CELLS⟩ := int_at (at_ q4 23 rfl)
  obtain ⟨_, i_MOST_FUNCTIONS⟩ := int_at (at_ q4 24 rfl)
  obtain ⟨_, _, _, _, _, _, _, _, _, _, _, _, _, _, xB⟩ := exc_at (at_ q8 22 rfl)
  obtain ⟨_, _, _, _, _, _, _, _, _, _, _, _, _, _, xP⟩ := exc_at (at_ q9 1 rfl)
  obtain ⟨_, _, _, _, _, _, _, _, _, _, _, _, _, _, xT⟩ := exc_at (at_ q9 8 rfl)
  obtain ⟨_, _, _, _, _, _, _, _, _, _, _, _, _, _, xU⟩ := exc_at (at_ q9 15 rfl)
  obtain ⟨_, _, _, _, _, _, _, _, _, _, _, _, _, _, xN⟩ := exc_at (at_ q9 22 rfl)
  obtain ⟨_, _, _, _, _, _, _, _, _, _, _, _, _, _, xE⟩ := exc_at (at_ q10 1 rfl)
  obtain ⟨_, _, _, _, _, _, _, _, _, _, _, _, _, _, xA⟩ := exc_at (at_ q10 8 rfl)
  obtain ⟨_, _, _, _, _, _, _, _, _, _, _, _, _, _, xI⟩ := exc_at (at_ q10 15 rfl)
  obtain ⟨_, _, _, _, _, _, _, _, _, _, _, _, _, _, xO⟩ := exc_at (at_ q10 22 rfl)
  obtain ⟨_, _, _, _, _, _, _, _, _, _, _, _, _, _, xY⟩ := exc_at (at_ q11 1 rfl)
  obtain ⟨_, _, _, lR, sR, rR⟩ := tup_at (at_ q12 17 rfl)
  obtain ⟨_, _, _, lV, sV, rV⟩ := tup_at (at_ q12 19 rfl)
  obtain ⟨_, _, _, lJ, sJ, rJ⟩ := tup_at (at_ q12 21 rfl)
  obtain ⟨_, _, DQ⟩ := c.t.tab 0 (t := (fun K => ga K "LENGTHS", ["tick", "plus", "less", "same", "if"])) rfl
  obtain ⟨eQ, oQ⟩ := lens_at DQ.at_ (at_ q12 23 rfl)
  exact all_mk (l := l) (w := w) X G hfa (of_decide_eq_true (at_ q0 0 rfl)) (of_decide_eq_true (at_ q0 1 rfl)) (of_decide_eq_true (at_ q0 2 rfl)) (of_decide_eq_true (at_ q0 3 rfl)) (of_decide_eq_true (at_ q0 4 rfl)) (of_decide_eq_true (at_ q0 5 rfl)) (of_decide_eq_true (at_ q0 6 rfl)) (of_decide_eq_true (at_ q0 7 rfl))
    (of_decide_eq_true (at_ q0 8 rfl)) (of_decide_eq_true (at_ q0 9 rfl)) (of_decide_eq_true (at_ q0 10 rfl)) (of_decide_eq_true (at_ q0 11 rfl)) (of_decide_eq_true (at_ q0 12 rfl)) (of_decide_eq_true (at_ q0 13 rfl)) (of_decide_eq_true (at_ q0 14 rfl)) (of_decide_eq_true (at_ q0 15 rfl))
    (of_decide_eq_true (at_ q0 16 rfl)) (of_decide_eq_true (at_ q0 17 rfl)) (of_decide_eq_true (at_ q0 18 rfl)) (at_ q0 19 rfl) DBI (of_decide_eq_true (at_ q0 20 rfl)) (at_ q0 21 rfl) DPI
    (of_decide_eq_true (at_ q0 22 rfl)) (at_ q0 23 rfl) DTI (of_decide_eq_true (at_ q0 24 rfl)) (at_ q0 25 rfl) DUI (of_decide_eq_true (at_ q0 26 rfl)) (at_ q0 27 rfl)
    DNI (of_decide_eq_true (at_ q1 0 rfl)) (at_ q1 1 rfl) DEI (of_decide_eq_true (at_ q1 2 rfl)) (at_ q1 3 rfl) DAI (of_decide_eq_true (at_ q1 4 rfl))
    (at_ q1 5 rfl) DII (of_decide_eq_true (at_ q1 6 rfl)) (at_ q1 7 rfl) DOI (of_decide_eq_true (at_ q1 8 rfl)) (at_ q1 9 rfl) DYI
    (of_decide_eq_true (at_ q1 10 rfl)) (at_ q1 11 rfl) DLI (of_decide_eq_true (at_ q1 12 rfl)) (at_ q1 13 rfl) DFI (of_decide_eq_true (at_ q1 14 rfl)) (at_ q1 15 rfl)
    DFP (of_decide_eq_true (at_ q1 16 rfl)) (at_ q1 17 rfl) DCI (of_decide_eq_true (at_ q1 18 rfl)) (at_ q1 19 rfl) DKI (of_decide_eq_true (at_ q1 20 rfl))
    (at_ q1 21 rfl) DKG (of_decide_eq_true (at_ q1 22 rfl)) (at_ q1 23 rfl) DKA (of_decide_eq_true (at_ q1 24 rfl)) (at_ q1 25 rfl) DWI
    (of_decide_eq_true (at_ q1 26 rfl)) (at_ q1 27 rfl) DKL (of_decide_eq_true (at_ q2 0 rfl)) (at_ q2 1 rfl) DGI (of_decide_eq_true (at_ q2 2 rfl)) (at_ q2 3 rfl)
    DDI (of_decide_eq_true (at_ q2 4 rfl)) (at_ q2 5 rfl) DDL (of_decide_eq_true (at_ q2 6 rfl)) (at_ q2 7 rfl) DDC (of_decide_eq_true (at_ q2 8 rfl))
    (at_ q2 9 rfl) DDS (of_decide_eq_true (at_ q2 10 rfl)) (at_ q2 11 rfl) DDP (of_decide_eq_true (at_ q2 12 rfl)) (at_ q2 13 rfl) DDA
    (of_decide_eq_true (at_ q2 14 rfl)) (at_ q2 15 rfl) DDH (of_decide_eq_true (at_ q2 16 rfl)) DWh (of_decide_eq_true (at_ q2 17 rfl)) DVa (of_decide_eq_true (at_ q2 18 rfl))
    DNa (of_decide_eq_true (at_ q2 19 rfl)) DTl (of_decide_eq_true (at_ q2 20 rfl)) DTe (of_decide_eq_true (at_ q2 21 rfl)) DHa (of_decide_eq_true (at_ q2 22 rfl))
    DCf (of_decide_eq_true (at_ q2 23 rfl)) DIn (of_decide_eq_true (at_ q2 24 rfl)) DNx (of_decide_eq_true (at_ q2 25 rfl)) DAw (of_decide_eq_true (at_ q2 26 rfl))
    DPa (of_decide_eq_true (at_ q2 27 rfl)) DWi (of_decide_eq_true (at_ q3 0 rfl)) DAs (of_decide_eq_true (at_ q3 1 rfl)) DCi (of_decide_eq_true (at_ q3 2 rfl))
    DPf (of_decide_eq_true (at_ q3 3 rfl)) DFt (of_decide_eq_true (at_ q3 4 rfl)) DCc (of_decide_eq_true (at_ q3 5 rfl)) DCn (of_decide_eq_true (at_ q3 6 rfl))
    DPl (of_decide_eq_true (at_ q3 7 rfl)) DDr (of_decide_eq_true (at_ q3 8 rfl)) DPk (of_decide_eq_true (at_ q3 9 rfl)) DNm (of_decide_eq_true (at_ q3 10 rfl))
    DLt (of_decide_eq_true (at_ q3 11 rfl)) DLw (of_decide_eq_true (at_ q3 12 rfl)) DLb (of_decide_eq_true (at_ q3 13 rfl)) DLm (of_decide_eq_true (at_ q3 14 rfl))
    DLs (of_decide_eq_true (at_ q3 15 rfl)) DLc (of_decide_eq_true (at_ q3 16 rfl)) DLd (of_decide_eq_true (at_ q3 17 rfl)) DLr (of_decide_eq_true (at_ q3 18 rfl))
    DRa (of_decide_eq_true (at_ q3 19 rfl)) DAv (of_decide_eq_true (at_ q3 20 rfl)) DKa (of_decide_eq_true (at_ q3 21 rfl)) DKs (of_decide_eq_true (at_ q3 22 rfl))
    DVi (of_decide_eq_true (at_ q3 23 rfl)) DSw (of_decide_eq_true (at_ q3 24 rfl)) DLa (of_decide_eq_true (at_ q3 25 rfl)) (of_decide_eq_true (at_ q3 26 rfl)) (of_decide_eq_true (at_ q3 27 rfl))
    (of_decide_eq_true (at_ q4 0 rfl)) (of_decide_eq_true (at_ q4 1 rfl)) (of_decide_eq_true (at_ q4 2 rfl)) (of_decide_eq_true (at_ q4 3 rfl)) (of_decide_eq_true (at_ q4 4 rfl)) (of_decide_eq_true (at_ q4 5 rfl)) (of_decide_eq_true (at_ q4 6 rfl)) (of_decide_eq_true (at_ q4 7 rfl))
    (of_decide_eq_true (at_ q4 8 rfl)) (of_decide_eq_true (at_ q4 9 rfl)) (of_decide_eq_true (at_ q4 10 rfl)) (of_decide_eq_true (at_ q4 11 rfl)) (of_decide_eq_true (at_ q4 12 rfl)) (of_decide_eq_true (at_ q4 13 rfl)) (of_decide_eq_true (at_ q4 14 rfl)) (of_decide_eq_true (at_ q4 15 rfl))
    (of_decide_eq_true (at_ q4 16 rfl)) i_LONGEST_NAME i_MOST_ARGUMENTS i_MOST_DEEP i_MOST_PARTS i_MOST_WRITES i_GREATEST_COST i_MOST_CELLS
    i_MOST_FUNCTIONS (at_ q4 25 rfl) (at_ q4 26 rfl) (at_ q4 27 rfl) (of_decide_eq_true (at_ q5 0 rfl)) (at_ q5 1 rfl) (at_ q5 2 rfl) (at_ q5 3 rfl)
    (at_ q5 4 rfl) (at_ q5 5 rfl) (of_decide_eq_true (at_ q5 6 rfl)) (at_ q5 7 rfl) (at_ q5 8 rfl) (at_ q5 9 rfl) (at_ q5 10 rfl) (at_ q5 11 rfl)
    (of_decide_eq_true (at_ q5 12 rfl)) (at_ q5 13 rfl) (at_ q5 14 rfl) (at_ q5 15 rfl) (at_ q5 16 rfl) (at_ q5 17 rfl) (of_decide_eq_true (at_ q5 18 rfl)) (at_ q5 19 rfl)
    (at_ q5 20 rfl) (at_ q5 21 rfl) (at_ q5 22 rfl) (at_ q5 23 rfl) (of_decide_eq_true (at_ q5 24 rfl)) (at_ q5 25 rfl) (at_ q5 26 rfl) (at_ q5 27 rfl)
    (at_ q6 0 rfl) (at_ q6 1 rfl) (of_decide_eq_true (at_ q6 2 rfl)) (at_ q6 3 rfl) (at_ q6 4 rfl) (at_ q6 5 rfl) (at_ q6 6 rfl) (at_ q6 7 rfl)
    (of_decide_eq_true (at_ q6 8 rfl)) (at_ q6 9 rfl) (at_ q6 10 rfl) (of_decide_eq_true (at_ q6 11 rfl)) (of_decide_eq_true (at_ q6 12 rfl)) (of_decide_eq_true (at_ q6 13 rfl)) (of_decide_eq_true (at_ q6 14 rfl)) (of_decide_eq_true (at_ q6 15 rfl))
    (of_decide_eq_true (at_ q6 16 rfl)) (of_decide_eq_true (at_ q6 17 rfl)) (of_decide_eq_true (at_ q6 18 rfl)) (of_decide_eq_true (at_ q6 19 rfl)) (of_decide_eq_true (at_ q6 20 rfl)) (of_decide_eq_true (at_ q6 21 rfl)) (of_decide_eq_true (at_ q6 22 rfl)) (of_decide_eq_true (at_ q6 23 rfl))
    (of_decide_eq_true (at_ q6 24 rfl)) (of_decide_eq_true (at_ q6 25 rfl)) (of_decide_eq_true (at_ q6 26 rfl)) (of_decide_eq_true (at_ q6 27 rfl)) (of_decide_eq_true (at_ q7 0 rfl)) (of_decide_eq_true (at_ q7 1 rfl)) (of_decide_eq_true (at_ q7 2 rfl)) (of_decide_eq_true (at_ q7 3 rfl))
    (of_decide_eq_true (at_ q7 4 rfl)) (of_decide_eq_true (at_ q7 5 rfl)) (of_decide_eq_true (at_ q7 6 rfl)) (of_decide_eq_true (at_ q7 7 rfl)) (of_decide_eq_true (at_ q7 8 rfl)) (of_decide_eq_true (at_ q7 9 rfl)) (of_decide_eq_true (at_ q7 10 rfl)) (of_decide_eq_true (at_ q7 11 rfl))
    (of_decide_eq_true (at_ q7 12 rfl)) (of_decide_eq_true (at_ q7 13 rfl)) (of_decide_eq_true (at_ q7 14 rfl)) (of_decide_eq_true (at_ q7 15 rfl)) (of_decide_eq_true (at_ q7 16 rfl)) (at_ q7 17 rfl) (of_decide_eq_true (at_ q7 18 rfl)) (of_decide_eq_true (at_ q7 19 rfl))
    (at_ q7 20 rfl) (at_ q7 21 rfl) (at_ q7 22 rfl) (of_decide_eq_true (at_ q7 23 rfl)) (of_decide_eq_true (at_ q7 24 rfl)) (of_decide_eq_true (at_ q7 25 rfl)) (of_decide_eq_true (at_ q7 26 rfl)) (of_decide_eq_true (at_ q7 27 rfl))
    (of_decide_eq_true (at_ q8 0 rfl)) (of_decide_eq_true (at_ q8 1 rfl)) (of_decide_eq_true (at_ q8 2 rfl)) (of_decide_eq_true (at_ q8 3 rfl)) (of_decide_eq_true (at_ q8 4 rfl)) (of_decide_eq_true (at_ q8 5 rfl)) (of_decide_eq_true (at_ q8 6 rfl)) (of_decide_eq_true (at_ q8 7 rfl))
    (of_decide_eq_true (at_ q8 8 rfl)) (of_decide_eq_true (at_ q8 9 rfl)) (of_decide_eq_true (at_ q8 10 rfl)) (of_decide_eq_true (at_ q8 11 rfl)) (of_decide_eq_true (at_ q8 12 rfl)) (of_decide_eq_true (at_ q8 13 rfl)) (of_decide_eq_true (at_ q8 14 rfl)) (of_decide_eq_true (at_ q8 15 rfl))
    (of_decide_eq_true (at_ q8 16 rfl)) (of_decide_eq_true (at_ q8 17 rfl)) (of_decide_eq_true (at_ q8 18 rfl)) (of_decide_eq_true (at_ q8 19 rfl)) (of_decide_eq_true (at_ q8 20 rfl)) (of_decide_eq_true (at_ q8 21 rfl)) xB (of_decide_eq_true (at_ q8 23 rfl))
    (of_decide_eq_true (at_ q8 24 rfl)) (of_decide_eq_true (at_ q8 25 rfl)) (at_ q8 26 rfl) (of_decide_eq_true (at_ q8 27 rfl)) (of_decide_eq_true (at_ q9 0 rfl)) xP (of_decide_eq_true (at_ q9 2 rfl)) (of_decide_eq_true (at_ q9 3 rfl))
    (of_decide_eq_true (at_ q9 4 rfl)) (at_ q9 5 rfl) (of_decide_eq_true (at_ q9 6 rfl)) (of_decide_eq_true (at_ q9 7 rfl)) xT (of_decide_eq_true (at_ q9 9 rfl)) (of_decide_eq_true (at_ q9 10 rfl)) (of_decide_eq_true (at_ q9 11 rfl))
    (at_ q9 12 rfl) (of_decide_eq_true (at_ q9 13 rfl)) (of_decide_eq_true (at_ q9 14 rfl)) xU (of_decide_eq_true (at_ q9 16 rfl)) (of_decide_eq_true (at_ q9 17 rfl)) (of_decide_eq_true (at_ q9 18 rfl)) (at_ q9 19 rfl)
    (of_decide_eq_true (at_ q9 20 rfl)) (of_decide_eq_true (at_ q9 21 rfl)) xN (of_decide_eq_true (at_ q9 23 rfl)) (of_decide_eq_true (at_ q9 24 rfl)) (of_decide_eq_true (at_ q9 25 rfl)) (at_ q9 26 rfl) (of_decide_eq_true (at_ q9 27 rfl))
    (of_decide_eq_true (at_ q10 0 rfl)) xE (of_decide_eq_true (at_ q10 2 rfl)) (of_decide_eq_true (at_ q10 3 rfl)) (of_decide_eq_true (at_ q10 4 rfl)) (at_ q10 5 rfl) (of_decide_eq_true (at_ q10 6 rfl)) (of_decide_eq_true (at_ q10 7 rfl))
    xA (of_decide_eq_true (at_ q10 9 rfl)) (of_decide_eq_true (at_ q10 10 rfl)) (of_decide_eq_true (at_ q10 11 rfl)) (at_ q10 12 rfl) (of_decide_eq_true (at_ q10 13 rfl)) (of_decide_eq_true (at_ q10 14 rfl)) xI
    (of_decide_eq_true (at_ q10 16 rfl)) (of_decide_eq_true (at_ q10 17 rfl)) (of_decide_eq_true (at_ q10 18 rfl)) (at_ q10 19 rfl) (of_decide_eq_true (at_ q10 20 rfl)) (of_decide_eq_true (at_ q10 21 rfl)) xO (of_decide_eq_true (at_ q10 23 rfl))
    (of_decide_eq_true (at_ q10 24 rfl)) (of_decide_eq_true (at_ q10 25 rfl)) (at_ q10 26 rfl) (of_decide_eq_true (at_ q10 27 rfl)) (of_decide_eq_true (at_ q11 0 rfl)) xY (of_decide_eq_true (at_ q11 2 rfl)) (of_decide_eq_true (at_ q11 3 rfl))
    (of_decide_eq_true (at_ q11 4 rfl)) (at_ q11 5 rfl) (of_decide_eq_true (at_ q11 6 rfl)) (of_decide_eq_true (at_ q11 7 rfl)) (of_decide_eq_true (at_ q11 8 rfl)) (of_decide_eq_true (at_ q11 9 rfl)) (at_ q11 10 rfl) (of_decide_eq_true (at_ q11 11 rfl))
    (of_decide_eq_true (at_ q11 12 rfl)) (at_ q11 13 rfl) (of_decide_eq_true (at_ q11 14 rfl)) (of_decide_eq_true (at_ q11 15 rfl)) (at_ q11 16 rfl) (of_decide_eq_true (at_ q11 17 rfl)) (of_decide_eq_true (at_ q11 18 rfl)) (at_ q11 19 rfl)
    (of_decide_eq_true (at_ q11 20 rfl)) (of_decide_eq_true (at_ q11 21 rfl)) (at_ q11 22 rfl) (of_decide_eq_true (at_ q11 23 rfl)) (of_decide_eq_true (at_ q11 24 rfl)) (of_decide_eq_true (at_ q11 25 rfl)) (of_decide_eq_true (at_ q11 26 rfl)) (of_decide_eq_true (at_ q11 27 rfl))
    (of_decide_eq_true (at_ q12 0 rfl)) (of_decide_eq_true (at_ q12 1 rfl)) (of_decide_eq_true (at_ q12 2 rfl)) (of_decide_eq_true (at_ q12 3 rfl)) (of_decide_eq_true (at_ q12 4 rfl)) (of_decide_eq_true (at_ q12 5 rfl)) (of_decide_eq_true (at_ q12 6 rfl)) (of_decide_eq_true (at_ q12 7 rfl))
    (of_decide_eq_true (at_ q12 8 rfl)) (of_decide_eq_true (at_ q12 9 rfl)) (fcls_at (at_ q12 10 rfl)) (of_decide_eq_true (at_ q12 11 rfl)) (of_decide_eq_true (at_ q12 12 rfl)) (at_ q12 13 rfl) (fcls_at (at_ q12 14 rfl)) (fcls_at (at_ q12 15 rfl))
    (of_decide_eq_true (at_ q12 16 rfl)) lR rR sR (of_decide_eq_true (at_ q12 18 rfl)) lV rV sV
    (of_decide_eq_true (at_ q12 20 rfl)) lJ rJ sJ (of_decide_eq_true (at_ q12 22 rfl)) DQ.at_ DQ.lit DQ.low
    eQ oQ
def names0 : List PySem.Str := ["_wall", "__name__", "StoreError", "BadLabel", "BadCell", "BadPart", "BadTerm", "BadFunction", "BadState", "BadArguments", "BadTick", "UnknownName", "TooMany", "KINDS", "VALUES", "LONGEST_NAME", "is_whole", "is_value", "is_name", "are_values", "Cell", "check_state", "Runner", "Calling", "joined", "run_alone", "values_in", "state_with", "_check_arguments", "World"]
def names1 : List PySem.Str := ["LABELS", "Label", "to_label", "MOST_PARTS", "MOST_DEEP", "MOST_ARGUMENTS", "LENGTHS", "is_term", "_has_form", "_has_call_form", "inner_terms", "_next_level", "all_parts", "parts_with", "cells_in", "_ascending", "MOST_WRITES", "GREATEST_COST", "Function", "_are_writes", "MOST_CELLS", "MOST_FUNCTIONS", "Book", "_check_cells", "_check_functions", "_fits", "_part_fits", "_law_pool", "_law_draw", "_law_pick"]
def names2 : List PySem.Str := ["_law_names", "_law_term", "_law_writes", "_law_book", "_law_made_book", "_law_state", "_law_call", "_law_told", "_law_cells_right"]
def names : List PySem.Str := names0 ++ (names1 ++ (names2))
abbrev R : PySem.W.OpenRow := PySem.W.OpenLaw.row PySem.Challenge.rw_steadycalls_k11_runs_refused
def rs0 : List PySem.Str := ["Label", "BadLabel", "BadPart", "BadTerm", "BadCell", "BadFunction", "TooMany", "UnknownName", "StoreError", "Function", "Cell", "Book", "Runner", "Calling", "World", "BadState", "BadArguments", "BadTick", "is_whole", "is_value", "is_name", "to_label", "is_term", "_has_form", "_has_call_form", "inner_terms", "_next_level", "_are_writes", "all_parts", "parts_with"]
def rs1 : List PySem.Str := ["_ascending", "cells_in", "_part_fits", "_fits", "_check_cells", "_check_functions", "_law_pool", "_law_draw", "_law_pick", "_law_names", "_law_term", "_law_writes", "_law_book", "_law_made_book", "_law_state", "_law_call", "_law_told", "_law_cells_right", "run_alone", "are_values", "_check_arguments", "check_state", "values_in", "state_with", "law", "LABELS", "VALUES", "KINDS", "LENGTHS"]
def rs : List PySem.Str := rs0 ++ (rs1)
def ms : List PySem.Str := ["__init__", "parts", "__getitem__", "all_cells", "cell", "__len__", "call", "state", "put", "assign", "_change"]
abbrev hk : PySem.W.Hook := hookP rs ms fn ts chk
def ob (s : PySem.W.SharedT) : AlX := obsP rs ms fn ts chk (HandSHeadRun.getT s)
theorem ob_eq (s : PySem.W.SharedT) : ob s = hk.obs s.abs := obsP_eq (HandSHeadRun.getT_eq s)
abbrev RunAt (w : World) : Prop := HandSHeadRun.RunEq R (PySem.W.view R.prog [77]) hk ob 20000 names w
theorem run_false (w : World) : RunAt (w.withFollow "special-get-raises" false) := by
  intro os
  kernel_rfl
theorem run_true (w : World) : RunAt (w.withFollow "special-get-raises" true) := by
  intro os
  kernel_rfl
theorem run (w : World) : HandSHeadRun.RunEq R (PySem.W.view R.prog [77]) hk ob 20000 names w := PySem.W.byRow2 "special-get-raises" (P := RunAt) run_false run_true w
end Hd
end Sc
open PySem PySem.W PyProof.Rows
set_option maxHeartbeats 0 in
theorem PySem.Challenge.cw_steadycalls_k11_runs_refused_holds : PySem.Challenge.rw_steadycalls_k11_runs_refused.Holds := by
  w_on; o_law
  refine HandSHeadRun.head_any (r := PySem.W.OpenLaw.row PySem.Challenge.rw_steadycalls_k11_runs_refused) (q := view (PySem.W.OpenLaw.row PySem.Challenge.rw_steadycalls_k11_runs_refused).prog [77]) (H := Sc.Hd.hk) (ob := Sc.Hd.ob) (M := 20000) (loose := Sc.Hd.names) (d := HandSHeadRun.topDef (PySem.W.OpenLaw.row PySem.Challenge.rw_steadycalls_k11_runs_refused).prog 77) (kwd := []) Sc.Hd.ob_eq
    (by kernel_rfl) (fun s => by kernel_rfl) Sc.Hd.run (by kernel_rfl) (by kernel_rfl) (by kernel_rfl) (by rfl) (by first | assumption | decide +kernel) (by decide +kernel) ⟨rfl, rfl, rfl, rfl, rfl, by decide +kernel⟩ ?hw ?hc
  case hw => w_witness2
  case hc =>
    refine Sc.EndG.walk_toldE (l := PySem.Challenge.rw_steadycalls_k11_runs_refused) (n := 63) (k := 14) (x := "_law_script") rfl (by decide) (by kernel_rfl) ⟨rfl, by decide, by decide⟩ ?F
    intro w mg fa h Y G hmg0
    obtain ⟨K, KX, c⟩ := Y
    have hmg : mg ("law" : PySem.Str) = some (.ref fa) := by
      have e : (HandSHeadRun.topDef (PySem.W.OpenLaw.row PySem.Challenge.rw_steadycalls_k11_runs_refused).prog 77).name = ("law" : PySem.Str) := by kernel_rfl
      rw [← e]
      exact hmg0
    obtain ⟨fd, hb, hF⟩ := Sc.Hd.facts (l := PySem.Challenge.rw_steadycalls_k11_runs_refused) KX G hmg c
    exact ⟨K, fd, Sc.spLaw K, KX, hb, fun H a ns hl hS => ⟨a, ns, rfl, hS, hl, fun _ => rfl⟩, hF⟩


