import PyProof.Rows.All
import Wide.All
import OpenK.AllK
import Wide.FinOn
import HandS.Base
import HandS.Call
import HandS.List
import HandS.Comp
import HandS.Ends
import HandS.Words
import HandS.Dict
import HandS.Iter
import HandS.Text
import HandS.Evl
import HandS.IsInst
import HandS.Walk
import HandS.More
import HandS.TupAny
import HandS.TupMul
import HandS.TupLe
import HandS.DictComp
import HandS.RaiseMore
import HandS.LawCells
import HandS.Small
import PySem.Challenge.RW_steadycalls_k03_whole_terms
set_option Elab.async false
set_option linter.all false
set_option maxRecDepth 100000
set_option maxHeartbeats 4000000
namespace Sc
open PySem PySem.Spec PyProof.Rows L2
def topS (i : Nat) : Stmt := PySem.Challenge.pw_steadycalls_k03_whole_terms.main.body.getD i (.Pass ⟨0, 0, 0, 0⟩)
abbrev sPool : Stmt := topS 25
abbrev sDraw : Stmt := topS 26
abbrev sPick : Stmt := topS 27
theorem scPool : FnScope ["_law_script", "_law_k", "_law_cell", "_law_size", "_law_mixed"] ["_law_script", "_law_k"] (defScope sPool) := ⟨rfl, rfl, rfl, by decide +kernel, rfl, by decide +kernel, by decide +kernel⟩
theorem scDraw : FnScope ["_law_pool_here", "_law_many", "_law_found"] ["_law_pool_here", "_law_many"] (defScope sDraw) := ⟨rfl, rfl, rfl, by decide +kernel, rfl, by decide +kernel, by decide +kernel⟩
theorem scPick : FnScope ["_law_pool_here", "_law_row"] ["_law_pool_here", "_law_row"] (defScope sPick) := ⟨rfl, rfl, rfl, by decide +kernel, rfl, by decide +kernel, by decide +kernel⟩
/-- a pool of draws stands at p -/
def PoolAt (H : Hp) (p : Addr) : Prop := ∃ x y : Int, H p = some (.lst [.int x, .int y]) ∧ 0 ≤ x ∧ 0 ≤ y ∧ y < 2147483648
/-- all that was known but for p is as it was -/
def But (p : Addr) (H H' : Hp) : Prop := ∀ b o, H b = some o → b ≠ p → H' b = some o
theorem But.refl (p : Addr) (H : Hp) : But p H H := fun _ _ h _ => h
theorem But.trans {p : Addr} {H H1 H2 : Hp} (a : But p H H1) (b : But p H1 H2) : But p H H2 := fun c o h n => b c o (a c o h n) n
theorem But.of {p : Addr} {H H' : Hp} (s : Same H H') : But p H H' := fun b o h _ => s b o h
theorem same_upd {H : Hp} {p : Addr} {o : HO} (h : H p = none) : Same H (upd H p o) := fun b x e => by
  rw [upd_ne (ne_of_none e h)]
  exact e
theorem But.upd {p : Addr} {H : Hp} {o : HO} : But p H (L2.upd H p o) := fun b x e n => by
  rw [upd_ne n]
  exact e
/-- what an expression gives, by what is true of it -/
theorem q_asgP {te : TE} {tz : TS} {D : Ends} {σ : L2.St} {H : Hp} {i : Nat} (Pr : V → Hp → Prop) (h : ∀ Q : VK, (∀ v H', Pr v H' → Q v H') → te σ H Q) (k : ∀ v H1, Pr v H1 → tz D (σ.set i (some v)) H1) : tSeq (tAsg te (gName i)) tz D σ H := h _ k
theorem But.rd {p : Addr} {H H' : Hp} (b : But p H H') {a : Addr} {u : HO} (n : a ≠ p) (h : Rd H a u) : Rd H' a u := by
  rcases h with h | ⟨o, h⟩
  · exact .inl (b _ _ h n)
  · exact .inr ⟨o, b _ _ h n⟩
theorem But.seq {p : Addr} {H H' : Hp} (b : But p H H') {K : PySem.W.Frag} {a : Addr} {xs : List V} (n : a ≠ p) (h : SqL K H a xs) : SqL K H' a xs := h.imp (b.rd n) id
theorem But.seqT {p : Addr} {H H' : Hp} (b : But p H H') {K : PySem.W.Frag} {a : Addr} {xs : List V} (n : a ≠ p) (h : SqT K H a xs) : SqT K H' a xs := h.imp (b.rd n) id
theorem at_nn {xs : List V} {v : Int} {x : V} (h0 : 0 ≤ v) (h : xs[v.toNat]? = some x) : atI xs v = some x := by
  obtain ⟨n, rfl⟩ := Int.eq_ofNat_of_zero_le h0
  exact atI_nat h
theorem b01 (b : Bool) : 0 ≤ (if b = true then (1 : Int) else 0) ∧ (if b = true then (1 : Int) else 0) ≤ 1 := by cases b <;> decide
structure Blt (mg : Str → Option Value) : Prop where
  abs : mg "abs" = none
  int : mg "int" = none
  len : mg "len" = none
  sum : mg "sum" = none
  max : mg "max" = none
  min : mg "min" = none
  range : mg "range" = none
  isinstance : mg "isinstance" = none
  bool : mg "bool" = none
  str : mg "str" = none
  tuple : mg "tuple" = none
  list : mg "list" = none
  dict : mg "dict" = none
  all : mg "all" = none
  sorted : mg "sorted" = none
  repr : mg "repr" = none
  zip : mg "zip" = none
section
variable {P : Program} {w : World} {K : PySem.W.Frag} {mg : Str → Option Value} {base : Heap}
def spPool (K : PySem.W.Frag) : Sp := fun vs H Q _ => ∃ (a : Addr) (ns : List Int) (k : Nat), vs = [.ref a, .int k] ∧ SqL K H a (ns.map V.int) ∧ k ≤ 1 ∧ (k < ns.length ∨ ns = []) ∧
  ∀ H' p, H p = none → Same H H' → PoolAt H' p → Q (.ref p) H'
theorem ok_pool {f : Addr} {fd : FuncData} (F : Fun K "_law_pool" "_law_pool" sPool f fd) (M : Blt mg) : FnOk P w K mg base CX0 1 f fd ["_law_script", "_law_k"] (spPool K) := by
  refine F.ok scPool (fun vs H Q E h => ?_) (fun cdv A outer s H vs Q E hr h => ?_)
  · obtain ⟨a, ns, k, rfl, _⟩ := h
    rfl
  · obtain ⟨a, ns, k, rfl, hS, hk, hin, q⟩ := h
    refine ⟨_, pss_cons (ps_set (i := 2) scPool.nd rfl (.inl rfl) (pe_ifExp (pt_cmpR op_lt (pv 1) (pe_callB call_len_seq (by rfl) M.len PySem.boot_len (pa_cons (pv 0) pa_nil)) (nomark _))
        (pe_ix ix_list (pv 0) (pv 1) (fun _ _ => rfl))
        (pe_op op_add (pe_op op_mul pe_int (pe_callB (cr_sum rfl) (by rfl) M.sum (by decide +kernel) (pa_cons (pe_slice sl_list (pv 0) po_none (po_some pe_int)) pa_nil))) (pv 1))))
      (pss_cons (ps_set (i := 3) scPool.nd rfl (.inl rfl) (pe_callB call_abs (by rfl) M.abs (by decide +kernel) (pa_cons (pv 2) pa_nil)))
      (pss_cons (ps_set (i := 4) scPool.nd rfl (.inl rfl)
        (pe_op op_add (pe_op op_add (pe_op op_add (pe_op op_mod (pe_callTy call_int1 (by rfl) M.int (by decide +kernel) (pa_cons (pv 3) pa_nil)) pe_int)
          (pe_op op_mul (pe_op op_mul pe_int (pv 1)) (pv 1))) (pe_op op_mul pe_int (pv 1))) pe_int))
      (pss_cons (ps_set (i := 4) scPool.nd rfl (.inl rfl)
        (pe_op op_mod (pe_callTy call_int1 (by rfl) M.int (by decide +kernel) (pa_cons (pe_op op_mul (pv 4) pe_int) pa_nil)) pe_int))
      (pss_one (ps_ret (pe_lst (pa_cons
          (pe_op op_mul (pv 3) (pe_callTy call_int1 (by rfl) M.int (by decide +kernel) (pa_cons (pe_cmpR op_ge (pv 3) (pe_op op_pow pe_int pe_int) (nomark _)) pa_nil)))
          (pa_cons (pe_op op_mod (pe_callTy call_int1 (by rfl) M.int (by decide +kernel) (pa_cons (pe_op op_mul (pv 4) (pv 4)) pa_nil)) pe_int) pa_nil)))))))), ?_⟩
    refine q_asgP (Pr := fun v H1 => (∃ c : Int, v = .int c) ∧ Same H H1) (fun Q' hq => ?_) (fun v H1 hv => ?_)
    · refine ⟨_, rfl, _, rfl, _, _, rfl, .inl hS, _, _, rfl, rfl, _, rfl, ite2 (fun e => ?_) (fun e => ?_)⟩
      · have e1 := of_decide_eq_true e
        rw [List.length_map] at e1
        have e2 : k < ns.length := by omega
        refine ⟨_, rfl, _, rfl, a, ns.map V.int, k, .int ns[k], rfl, rfl, hS, atI_nat ?_, hq _ _ ⟨⟨_, rfl⟩, Same.refl H⟩⟩
        rw [List.getElem?_map, List.getElem?_eq_getElem e2]
        rfl
      · have e1 : ns = [] := by
          rcases hin with h | h
          · refine absurd (decide_eq_true ?_) e
            rw [List.length_map]
            omega
          · exact h
        subst e1
        refine ⟨_, rfl, 63, rfl, a, _, rfl, hS, fun p np => ?_⟩
        refine ⟨p, [], rfl, .inl (.inl (upd_same.trans ?_)), _, _, rfl, rfl, .inl ⟨by decide, by decide⟩, _, rfl, _, _, rfl, rfl, hq _ _ ⟨⟨_, rfl⟩, same_upd np⟩⟩
        rfl
    · obtain ⟨⟨c, rfl⟩, s1⟩ := hv
      have hz : 0 ≤ (if c < 0 then -c else c) := by split <;> omega
      have fin : ∀ (x y : Int), 0 ≤ x → 0 ≤ y → y < 2147483648 → ∀ p, H1 p = none → Q (.ref p) (upd H1 p (.lst [.int x, .int y])) := fun x y hx hy hy2 p np =>
        q _ p (s1.free np) (s1.trans (same_upd np)) ⟨x, y, upd_same, hx, hy, hy2⟩
      refine ⟨.int c, rfl, _, rfl, ?_⟩
      refine ⟨_, rfl, .inl ⟨_, rfl, _, _, rfl, rfl, (by show (0 : Int) < 2147483629; decide), ?_⟩⟩
      have m1 : 0 ≤ (if c < 0 then -c else c) % 2147483629 := Int.emod_nonneg _ (by decide)
      have m2 : (if c < 0 then -c else c) % 2147483629 < 2147483629 := Int.emod_lt_of_pos _ (by decide)
      have k0 : (7919 * (k : Int) * (k : Int)) ≤ 7919 ∧ 0 ≤ (7919 * (k : Int) * (k : Int)) := by
        rcases (show k = 0 ∨ k = 1 by omega) with e | e <;> subst e <;> decide
      refine ⟨_, rfl, _, _, rfl, rfl, .inl ⟨by decide, by decide⟩, _, rfl, _, _, rfl, rfl, .inr ⟨by omega, by omega⟩, _, _, rfl, rfl, _, rfl, _, _, rfl, rfl, .inl ⟨by decide, by decide⟩, _, _, rfl, rfl, _, _, rfl, rfl, ?_⟩
      refine ⟨_, rfl, _, _, rfl, rfl, .inr ⟨by decide, by decide⟩, .inl ⟨_, rfl, _, _, rfl, rfl, (by show (0 : Int) < 2147483647; decide), ?_⟩⟩
      have n1 : 0 ≤ ((if c < 0 then -c else c) % 2147483629 + 7919 * (k : Int) * (k : Int) + 31 * (k : Int) + 17) * 48271 % 2147483647 := Int.emod_nonneg _ (by decide)
      have n2 : ((if c < 0 then -c else c) % 2147483629 + 7919 * (k : Int) * (k : Int) + 31 * (k : Int) + 17) * 48271 % 2147483647 < 2147483647 := Int.emod_lt_of_pos _ (by decide)
      refine ⟨_, rfl, _, rfl, _, _, rfl, rfl, ⟨by decide, by decide, by decide⟩, _, _, rfl, rfl, ?_⟩
      refine .inr ⟨_, rfl, ?_⟩
      refine ⟨_, _, rfl, rfl, .inr ?_, _, rfl, _, rfl, _, _, rfl, rfl, .inl ⟨by omega, by omega⟩, .inl ⟨_, rfl, _, _, rfl, rfl, (by show (0 : Int) < 2147483629; decide), (by show 2 ≤ sizeLine; decide), fun p np => ?_⟩⟩
      · exact ⟨Int.lt_of_lt_of_le (by decide) (b01 _).1, Int.lt_of_le_of_lt (b01 _).2 (by decide)⟩
      · refine fin _ _ (Int.mul_nonneg hz (b01 _).1) (Int.emod_nonneg _ (by decide)) ?_ p np
        exact Int.lt_trans (Int.emod_lt_of_pos _ (by decide)) (by decide)
def spDraw : Sp := fun vs H Q _ => ∃ (p : Addr) (n : Int), vs = [.ref p, .int n] ∧ PoolAt H p ∧ 0 < n ∧ n ≤ 1000000000 ∧
  ∀ (v : Int) H', 0 ≤ v → v < n → But p H H' → PoolAt H' p → (∀ b, H b = none → H' b = none) → Q (.int v) H'
theorem ok_draw {f : Addr} {fd : FuncData} (F : Fun K "_law_draw" "_law_draw" sDraw f fd) (M : Blt mg) : FnOk P w K mg base CX0 1 f fd ["_law_pool_here", "_law_many"] spDraw := by
  refine F.ok scDraw (fun vs H Q E h => ?_) (fun cdv A outer s H vs Q E hr h => ?_)
  · obtain ⟨p, n, rfl, _⟩ := h
    rfl
  · obtain ⟨p, n, rfl, ⟨x, y, hp, hx, hy, hy2⟩, hn, hn2, q⟩ := h
    refine ⟨_, pss_cons (ps_if (pt_cmpR op_gt (pe_ix ix_list (pv 0) pe_int (fun _ _ => rfl)) pe_int (nomark _))
        (pss_cons (ps_set (i := 2) scDraw.nd rfl (.inl rfl) (pe_op op_mod (pe_callTy call_int1 (by rfl) M.int (by decide +kernel) (pa_cons (pe_ix ix_list (pv 0) pe_int (fun _ _ => rfl)) pa_nil)) (pv 1)))
        (pss_cons (ps_asg (pe_op op_fdiv (pe_ix ix_list (pv 0) pe_int (fun _ _ => rfl)) (pv 1)) (pg_sub (pv 0) pe_int set_list))
        (pss_one (ps_ret (pv 2))))) pss_nil)
      (pss_cons (ps_asg (pe_op op_mod (pe_callTy call_int1 (by rfl) M.int (by decide +kernel) (pa_cons (pe_op op_add (pe_op op_mul (pe_ix ix_list (pv 0) pe_int (fun _ _ => rfl)) pe_int) pe_int) pa_nil)) pe_int) (pg_sub (pv 0) pe_int set_list))
      (pss_one (ps_ret (pe_op op_mod (pe_callTy call_int1 (by rfl) M.int (by decide +kernel) (pa_cons (pe_op op_fdiv (pe_op op_mod (pe_callTy call_int1 (by rfl) M.int (by decide +kernel)
          (pa_cons (pe_op op_mul (pe_ix ix_list (pv 0) pe_int (fun _ _ => rfl)) (pe_ix ix_list (pv 0) pe_int (fun _ _ => rfl))) pa_nil)) pe_int) pe_int) pa_nil)) (pv 1))))), ?_⟩
    have hS : SqL K H p [.int x, .int y] := .inl (.inl hp)
    have fr : ∀ o b, H b = none → upd H p o b = none := fun o b hb => by
      rw [upd_ne (fun e => by rw [e, hp] at hb; cases hb)]
      exact hb
    refine ⟨.ref p, rfl, p, _, 0, .int x, rfl, rfl, hS, rfl, x, 0, rfl, rfl, _, rfl, ite2 (fun e => ?_) (fun e => ?_)⟩
    · refine ⟨.ref p, rfl, p, _, 0, .int x, rfl, rfl, hS, rfl, .inl ⟨x, rfl, _, rfl, x, n, rfl, rfl, hn, ?_⟩⟩
      refine ⟨.ref p, rfl, p, _, 0, .int x, rfl, rfl, hS, rfl, .int n, rfl, x, n, rfl, rfl, ⟨hn, by omega⟩, ?_⟩
      refine ⟨.ref p, rfl, p, _, 0, 0, rfl, rfl, hp, rfl, ?_⟩
      refine ⟨_, rfl, q _ _ (Int.emod_nonneg _ (by omega)) (Int.emod_lt_of_pos _ hn) But.upd ⟨_, y, upd_same, ?_, hy, hy2⟩ (fr _)⟩
      exact Int.ediv_nonneg hx (by omega)
    · refine ⟨.ref p, rfl, p, _, 1, .int y, rfl, rfl, hS, rfl, y, _, rfl, rfl, .inl ⟨by omega, by omega⟩, _, _, rfl, rfl, .inl ⟨_, rfl, _, _, rfl, rfl, (by show (0 : Int) < 2147483647; decide), ?_⟩⟩
      refine ⟨.ref p, rfl, p, _, 1, 1, rfl, rfl, hp, rfl, ?_⟩
      have b1 : 0 ≤ (y * 48271 + 11) % 2147483647 := Int.emod_nonneg _ (by decide)
      have b2 : (y * 48271 + 11) % 2147483647 < 2147483647 := Int.emod_lt_of_pos _ (by decide)
      have hS2 : SqL K (upd H p (.lst ([V.int x, .int y].set 1 (.int ((y * 48271 + 11) % 2147483647))))) p [.int x, .int ((y * 48271 + 11) % 2147483647)] := .inl (.inl upd_same)
      refine ⟨.ref p, rfl, p, _, 1, _, rfl, rfl, hS2, rfl, .ref p, rfl, p, _, 1, _, rfl, rfl, hS2, rfl, _, _, rfl, rfl, .inl ⟨by omega, by omega⟩, .inl ⟨_, rfl, _, _, rfl, rfl, (by show (0 : Int) < 2147483629; decide), _, _, rfl, rfl, ⟨by decide, by decide⟩, .inl ⟨_, rfl, ?_⟩⟩⟩
      refine ⟨.int n, rfl, _, n, rfl, rfl, hn, ?_⟩
      exact q _ _ (Int.emod_nonneg _ (by omega)) (Int.emod_lt_of_pos _ hn) But.upd ⟨x, _, upd_same, hx, b1, by omega⟩ (fr _)
def spPick (K : PySem.W.Frag) : Sp := fun vs H Q _ => ∃ (p r : Addr) (xs : List V), vs = [.ref p, .ref r] ∧ PoolAt H p ∧ p ≠ r ∧ (SqL K H r xs ∨ SqT K H r xs) ∧ 0 < xs.length ∧ xs.length ≤ 1000000 ∧
  ∀ (i : Nat) (hi : i < xs.length) H', But p H H' → PoolAt H' p → (∀ b, H b = none → H' b = none) → Q xs[i] H'
theorem ok_pick {f fD : Addr} {fd fdD : FuncData} (F : Fun K "_law_pick" "_law_pick" sPick f fd) (M : Blt mg) (FD : Fun K "_law_draw" "_law_draw" sDraw fD fdD) (bD : Binds K fdD ["_law_pool_here", "_law_many"] []) (gD : mg "_law_draw" = some (.ref fD)) :
    FnOk P w K mg base CX0 2 f fd ["_law_pool_here", "_law_row"] (spPick K) := by
  have GD : FnOk P w K mg base CX0 1 fD fdD ["_law_pool_here", "_law_many"] spDraw := ok_draw FD M
  refine F.ok scPick (fun vs H Q E h => ?_) (fun cdv A outer s H vs Q E hr h => ?_)
  · obtain ⟨p, r, xs, rfl, _⟩ := h
    rfl
  · obtain ⟨p, r, xs, rfl, hp, npr, hS, hl, hl2, q⟩ := h
    refine ⟨_, pss_one (ps_ret (pe_ix ix_seq (pv 1) (pe_call GD hr (by rfl) gD FD.kp bD .nil pass0 (pa_cons (pv 0) (pa_cons (pe_callB call_len_seq (by rfl) M.len PySem.boot_len (pa_cons (pv 1) pa_nil)) pa_nil))) (fun _ _ => rfl))), ?_⟩
    refine ⟨_, rfl, _, rfl, _, rfl, _, _, rfl, hS, p, _, rfl, hp, by omega, by omega, fun v H' v0 v1 bt hp' fr => ?_⟩
    have hv : v.toNat < xs.length := by omega
    have ha : atI xs v = some xs[v.toNat] := at_nn v0 (List.getElem?_eq_getElem hv)
    have sk : SqL K H' r xs ∨ SqT K H' r xs := hS.imp (bt.seq npr.symm) (bt.seqT npr.symm)
    rcases sk with sk | sk
    · exact .inl ⟨_, _, _, _, rfl, rfl, sk, ha, q _ hv _ bt hp' fr⟩
    · exact .inr (.inl ⟨_, _, _, _, rfl, rfl, sk, ha, q _ hv _ bt hp' fr⟩)
end
/-! ### data -/
mutual
theorem dp_mono {K : PySem.W.Frag} {H H' : Hp} (ht : ∀ a xs, SqT K H a xs → SqT K H' a xs) (hl : ∀ a xs, SqL K H a xs → SqL K H' a xs) : ∀ (d : PyData) (v : V), Dp K H v d → Dp K H' v d
  | .none, _, h => by
    cases h
    exact .non
  | .bool b, _, h => by
    cases h
    exact .bl b
  | .int i, _, h => by
    cases h
    exact .int i
  | .str x, _, h => by
    cases h
    exact .str x
  | .list ds, _, h => by
    cases h with
    | lst hs ha => exact .lst (hl _ _ hs) (dpAll_mono ht hl ds _ ha)
  | .tuple ds, _, h => by
    cases h with
    | tup hs ha => exact .tup (ht _ _ hs) (dpAll_mono ht hl ds _ ha)
  | .dict _, _, h => by cases h
theorem dpAll_mono {K : PySem.W.Frag} {H H' : Hp} (ht : ∀ a xs, SqT K H a xs → SqT K H' a xs) (hl : ∀ a xs, SqL K H a xs → SqL K H' a xs) : ∀ (ds : List PyData) (vs : List V), DpAll K H vs ds → DpAll K H' vs ds
  | [], _, h => by
    cases h
    exact .nil
  | d :: ds, _, h => by
    cases h with
    | cons h1 h2 => exact .cons (dp_mono ht hl d _ h1) (dpAll_mono ht hl ds _ h2)
end
theorem same_sqT {K : PySem.W.Frag} {H H' : Hp} (s : Same H H') {a : Addr} {xs : List V} (h : SqT K H a xs) : SqT K H' a xs := by
  rcases h with (h | ⟨o, h⟩) | h
  · exact .inl (.inl (s _ _ h))
  · exact .inl (.inr ⟨o, s _ _ h⟩)
  · exact .inr h
theorem dp_same {K : PySem.W.Frag} {H H' : Hp} (s : Same H H') {d : PyData} {v : V} (h : Dp K H v d) : Dp K H' v d := dp_mono (fun _ _ => same_sqT s) (fun _ _ => s.seq) d v h
theorem dpA_same {K : PySem.W.Frag} {H H' : Hp} (s : Same H H') {ds : List PyData} {vs : List V} (h : DpAll K H vs ds) : DpAll K H' vs ds := dpAll_mono (fun _ _ => same_sqT s) (fun _ _ => s.seq) ds vs h
/-! data without lists -/
mutual
def noL : PyData → Bool
  | .list _ => false
  | .tuple ds => noLs ds
  | .dict _ => false
  | _ => true
def noLs : List PyData → Bool
  | [] => true
  | d :: ds => noL d && noLs ds
end
mutual
theorem dp_tups {K : PySem.W.Frag} {H H' : Hp} (ht : ∀ a xs, SqT K H a xs → SqT K H' a xs) : ∀ (d : PyData) (v : V), noL d = true → Dp K H v d → Dp K H' v d
  | .none, _, _, h => by
    cases h
    exact .non
  | .bool b, _, _, h => by
    cases h
    exact .bl b
  | .int i, _, _, h => by
    cases h
    exact .int i
  | .str x, _, _, h => by
    cases h
    exact .str x
  | .list ds, _, n, _ => by cases n
  | .tuple ds, _, n, h => by
    cases h with
    | tup hs ha => exact .tup (ht _ _ hs) (dpAll_tups ht ds _ n ha)
  | .dict _, _, _, h => by cases h
theorem dpAll_tups {K : PySem.W.Frag} {H H' : Hp} (ht : ∀ a xs, SqT K H a xs → SqT K H' a xs) : ∀ (ds : List PyData) (vs : List V), noLs ds = true → DpAll K H vs ds → DpAll K H' vs ds
  | [], _, _, h => by
    cases h
    exact .nil
  | d :: ds, _, n, h => by
    have n1 : noL d = true := (Bool.and_eq_true _ _ ▸ n : noL d = true ∧ noLs ds = true).1
    have n2 : noLs ds = true := (Bool.and_eq_true _ _ ▸ n : noL d = true ∧ noLs ds = true).2
    cases h with
    | cons h1 h2 => exact .cons (dp_tups ht d _ n1 h1) (dpAll_tups ht ds _ n2 h2)
end
/-- tuples stand while a list is changed -/
theorem but_sqT {K : PySem.W.Frag} {p : Addr} {H H' : Hp} {ys : List V} (hp : H p = some (.lst ys)) (b : But p H H') {a : Addr} {xs : List V} (h : SqT K H a xs) : SqT K H' a xs := by
  rcases h with (h | ⟨o, h⟩) | h
  · exact .inl (.inl (b _ _ h (ne_of h hp (fun z => nomatch z))))
  · exact .inl (.inr ⟨o, b _ _ h (ne_of h hp (fun z => nomatch z))⟩)
  · exact .inr h
theorem dp_but {K : PySem.W.Frag} {p : Addr} {H H' : Hp} (hp : PoolAt H p) (b : But p H H') {d : PyData} {v : V} (n : noL d = true) (h : Dp K H v d) : Dp K H' v d := by
  obtain ⟨x, y, e, _⟩ := hp
  exact dp_tups (fun _ _ => but_sqT e b) d v n h
/-- a value's own name of its class -/
def kind : PyData → String
  | .none => "NoneType"
  | .bool _ => "bool"
  | .int _ => "int"
  | .str _ => "str"
  | .list _ => "list"
  | .tuple _ => "tuple"
  | .dict _ => "dict"
theorem tyx_sqT {K : PySem.W.Frag} {H : Hp} {a : Addr} {xs : List V} (h : SqT K H a xs) : TyX K H (.ref a) (.type "tuple") := by
  rcases h with (h | ⟨o, h⟩) | ⟨o, _, _, h, c, _⟩
  · exact .base (.tup h)
  · exact .fTuple h
  · exact .kTuple h c
theorem tyx_sqL {K : PySem.W.Frag} {H : Hp} {a : Addr} {xs : List V} (h : SqL K H a xs) : TyX K H (.ref a) (.type "list") := by
  rcases h with (h | ⟨o, h⟩) | ⟨o, _, _, h, c, _⟩
  · exact .base (.lst h)
  · exact .base (.frz h)
  · exact .kList h c
theorem dp_ty {K : PySem.W.Frag} {H : Hp} {d : PyData} {v : V} (h : Dp K H v d) : TyX K H v (.type (kind d)) := by
  cases h with
  | non => exact .base .non
  | bl b => exact .base (.bl b)
  | int i => exact .base (.int i)
  | str x => exact .base (.str x)
  | lst hs _ => exact tyx_sqL hs
  | tup hs _ => exact tyx_sqT hs
def isInt : PyData → Bool
  | .int _ => true
  | .bool _ => true
  | _ => false
def isBool : PyData → Bool
  | .bool _ => true
  | _ => false
def isStr : PyData → Bool
  | .str _ => true
  | _ => false
def isTup : PyData → Bool
  | .tuple _ => true
  | _ => false
theorem kit_int (K : PySem.W.Frag) : ∀ d : PyData, PySem.W.kitOne K (.type (kind d)) (.type "int") = some (isInt d)
  | .none => kit_ty (show kitB "NoneType" "int" = some false by decide +kernel)
  | .bool _ => kit_ty (show kitB "bool" "int" = some true by decide +kernel)
  | .int _ => kit_ty (show kitB "int" "int" = some true by decide +kernel)
  | .str _ => kit_ty (show kitB "str" "int" = some false by decide +kernel)
  | .list _ => kit_ty (show kitB "list" "int" = some false by decide +kernel)
  | .tuple _ => kit_ty (show kitB "tuple" "int" = some false by decide +kernel)
  | .dict _ => kit_ty (show kitB "dict" "int" = some false by decide +kernel)
theorem kit_bool (K : PySem.W.Frag) : ∀ d : PyData, PySem.W.kitOne K (.type (kind d)) (.type "bool") = some (isBool d)
  | .none => kit_ty (show kitB "NoneType" "bool" = some false by decide +kernel)
  | .bool _ => kit_ty (show kitB "bool" "bool" = some true by decide +kernel)
  | .int _ => kit_ty (show kitB "int" "bool" = some false by decide +kernel)
  | .str _ => kit_ty (show kitB "str" "bool" = some false by decide +kernel)
  | .list _ => kit_ty (show kitB "list" "bool" = some false by decide +kernel)
  | .tuple _ => kit_ty (show kitB "tuple" "bool" = some false by decide +kernel)
  | .dict _ => kit_ty (show kitB "dict" "bool" = some false by decide +kernel)
theorem kit_str (K : PySem.W.Frag) : ∀ d : PyData, PySem.W.kitOne K (.type (kind d)) (.type "str") = some (isStr d)
  | .none => kit_ty (show kitB "NoneType" "str" = some false by decide +kernel)
  | .bool _ => kit_ty (show kitB "bool" "str" = some false by decide +kernel)
  | .int _ => kit_ty (show kitB "int" "str" = some false by decide +kernel)
  | .str _ => kit_ty (show kitB "str" "str" = some true by decide +kernel)
  | .list _ => kit_ty (show kitB "list" "str" = some false by decide +kernel)
  | .tuple _ => kit_ty (show kitB "tuple" "str" = some false by decide +kernel)
  | .dict _ => kit_ty (show kitB "dict" "str" = some false by decide +kernel)
theorem kit_tup (K : PySem.W.Frag) : ∀ d : PyData, PySem.W.kitOne K (.type (kind d)) (.type "tuple") = some (isTup d)
  | .none => kit_ty (show kitB "NoneType" "tuple" = some false by decide +kernel)
  | .bool _ => kit_ty (show kitB "bool" "tuple" = some false by decide +kernel)
  | .int _ => kit_ty (show kitB "int" "tuple" = some false by decide +kernel)
  | .str _ => kit_ty (show kitB "str" "tuple" = some false by decide +kernel)
  | .list _ => kit_ty (show kitB "list" "tuple" = some false by decide +kernel)
  | .tuple _ => kit_ty (show kitB "tuple" "tuple" = some true by decide +kernel)
  | .dict _ => kit_ty (show kitB "dict" "tuple" = some false by decide +kernel)
/-- a block that goes through an iterator: what each turn asks, and what holds at the end -/
abbrev Turns (J : It) (H0 : Hp) (End : Hp → Prop) (Body : (Hp → Prop) → V → Hp → Prop) : Prop :=
  ∃ Wk : Nat → Nat → Hp → Prop, (∃ left, Wk 0 left H0) ∧
    ∀ at_ left Hn, Wk at_ left Hn → (J.stop at_ Hn ∧ End Hn) ∨ (J.go at_ Hn ∧
      ∃ Then : Hp → Prop, (∀ Hb, Then Hb → ∃ fewer, fewer < left ∧ Wk (at_ + 1) fewer Hb) ∧ ∀ item Hi, J.yld at_ Hn item Hi → Body Then item Hi)
/-- a turn of a list's comprehension without a test -/
abbrev LcBody (D : Addr) (te : TE) (vs : List Nat) (j : Nat) (σ : L2.St) : (Hp → Prop) → V → Hp → Prop := fun Then item Hi =>
  gName j item (wipe σ vs) Hi fun σn Hn => wipe σn vs = wipe σ vs ∧ tYes σn Hn fun yes Hy =>
    if yes = true then te σn Hy (fun made Hm => ∃ sofar, Hm D = some (.lst sofar) ∧ sofar.length < sizeLine ∧ Then (upd Hm D (.lst (sofar ++ [made])))) else Then Hy
/-- a comprehension whose i-th item is f i -/
theorem lc_vals {J : It} {n : Nat} {G : Hp → Prop} {Y : Nat → Hp → V → Hp → Prop} (w : Walk J n G Y) {j : Nat} {te : TE} {vs : List Nat} {σ : L2.St} {H1 : Hp} {D : Addr} {Qd : Hp → Prop} (f : Nat → V) (hz : n ≤ 50000)
    (hD : H1 D = none) (hw : ∀ x, wipe ((wipe σ vs).set j (some x)) vs = wipe σ vs) (hG : ∀ H, Same H1 H → G H)
    (he : ∀ i x H H', i < n → Same H1 H → Y i H x H' → Same H H' ∧ ∀ Q : VK, (∀ H2, Same H' H2 → Q (f i) H2) → te ((wipe σ vs).set j (some x)) H' Q)
    (hd : ∀ H, Same H1 H → H D = some (.lst ((List.range n).map f)) → Qd H)  :
    Turns J (upd H1 D (.lst [])) Qd (LcBody D te vs j σ) := by
  refine lc_it w (fun i H => Same H1 H ∧ H D = some (.lst ((List.range i).map f))) ⟨same_upd hD, upd_same⟩ (fun i H _ p => hG H p.1) (fun i x H H' hi p y => ?_) (fun H p => hd H p.1 p.2)
  obtain ⟨s1, e1⟩ := p
  obtain ⟨s2, k⟩ := he i x H H' hi s1 y
  refine And.intro (hw x) ?_
  unfold tYes
  refine iteT ?_
  refine k _ fun H2 s3 => ⟨_, s3 _ _ (s2 _ _ e1), ?_, fun b o e => ?_, ?_⟩
  · rw [List.length_map, List.length_range]
    exact Nat.lt_of_lt_of_le (show i < 50000 by omega) (by decide)
  · have hb : b ≠ D := ne_of_none e hD
    rw [upd_ne hb]
    exact s3 _ _ (s2 _ _ (s1 _ _ e))
  · rw [upd_same, List.range_succ, List.map_append]
    rfl
theorem range_get {α : Type} (xs : List α) (f : Nat → α) (h : ∀ i x, xs[i]? = some x → f i = x) : (List.range xs.length).map f = xs := by
  apply List.ext_getElem?
  intro i
  rw [List.getElem?_map]
  by_cases hi : i < xs.length
  · rw [List.getElem?_range hi, List.getElem?_eq_getElem hi]
    exact congrArg some (h i _ (List.getElem?_eq_getElem hi))
  · rw [List.getElem?_eq_none (by simpa using hi), List.getElem?_eq_none (by simpa using hi)]
    rfl
theorem dpA_len {K : PySem.W.Frag} {H : Hp} : ∀ {ds : List PyData} {vs : List V}, DpAll K H vs ds → vs.length = ds.length
  | [], _, h => by
    cases h
    rfl
  | d :: ds, _, h => by
    cases h with
    | cons _ h2 => rw [List.length_cons, List.length_cons, dpA_len h2]
theorem dpA_get {K : PySem.W.Frag} {H : Hp} : ∀ {ds : List PyData} {vs : List V} {i : Nat} {d : PyData}, DpAll K H vs ds → ds[i]? = some d → ∃ v, vs[i]? = some v ∧ Dp K H v d
  | [], _, _, _, _, e => by simp at e
  | d :: ds, _, 0, _, h, e => by
    cases h with
    | cons h1 _ =>
      have e1 : d = _ := Option.some.inj e
      subst e1
      exact ⟨_, rfl, h1⟩
  | d :: ds, _, i + 1, _, h, e => by
    cases h with
    | cons _ h2 => exact dpA_get (i := i) h2 e
theorem dpA_app {K : PySem.W.Frag} {H : Hp} : ∀ {ds es : List PyData} {vs us : List V}, DpAll K H vs ds → DpAll K H us es → DpAll K H (vs ++ us) (ds ++ es)
  | [], _, _, _, h, h' => by
    cases h
    exact h'
  | d :: ds, _, _, _, h, h' => by
    cases h with
    | cons h1 h2 => exact .cons h1 (dpA_app h2 h')
/-- a walk by its turns, whatever a turn asks -/
theorem walk_gen {J : It} {n : Nat} {G : Hp → Prop} {Y : Nat → Hp → V → Hp → Prop} (w : Walk J n G Y) {H0 : Hp} {End : Hp → Prop} {Body : (Hp → Prop) → V → Hp → Prop} (Pv : Nat → Hp → Prop) (h0 : Pv 0 H0) (hG : ∀ i H, i ≤ n → Pv i H → G H)
    (hs : ∀ i x H H', i < n → Pv i H → Y i H x H' → Body (Pv (i + 1)) x H') (hd : ∀ H, Pv n H → End H) : Turns J H0 End Body := by
  refine ⟨fun at_ left Hn => at_ + left = n ∧ Pv at_ Hn, ⟨n, Nat.zero_add n, h0⟩, fun at_ left Hn ⟨sum, holds⟩ => ?_⟩
  cases left with
  | zero =>
    have all : at_ = n := sum
    subst all
    exact Or.inl (And.intro (w.stops Hn (hG _ Hn (Nat.le_refl _) holds)) (hd Hn holds))
  | succ less =>
    have more : at_ < n := by omega
    have good := hG at_ Hn (Nat.le_of_lt more) holds
    refine Or.inr (And.intro (w.goes at_ Hn more good) ⟨Pv (at_ + 1), fun Hb next => ⟨less, Nat.lt_succ_self less, by omega, next⟩, fun item Hi given => ?_⟩)
    exact hs at_ item Hn Hi more holds (w.yields at_ Hn item Hi more good given)
theorem dpA_at {K : PySem.W.Frag} {H : Hp} : ∀ {ds : List PyData} {vs : List V} {i : Nat} {v : V}, DpAll K H vs ds → vs[i]? = some v → ∃ d, ds[i]? = some d ∧ Dp K H v d
  | _, [], _, _, _, e => by simp at e
  | _, _ :: _, 0, _, h, e => by
    cases h with
    | cons h1 _ =>
      have e1 := Option.some.inj e
      subst e1
      exact ⟨_, rfl, h1⟩
  | _, _ :: _, i + 1, _, h, e => by
    cases h with
    | cons _ h2 => exact dpA_at (i := i) h2 e
theorem take_snoc {α : Type} : ∀ {l : List α} {i : Nat} {x : α}, l[i]? = some x → l.take (i + 1) = l.take i ++ [x]
  | [], i, x, h => by simp at h
  | a :: l, 0, x, h => by
    have e : a = x := Option.some.inj h
    subst e
    rfl
  | a :: l, i + 1, x, h => by
    have ih := take_snoc (l := l) (i := i) (x := x) h
    show a :: l.take (i + 1) = a :: l.take i ++ [x]
    rw [ih]
    rfl
theorem cut1 (xs : List V) : cutV xs (some 1) none = xs.drop 1 := by
  unfold cutV
  rw [show HT.sIx xs.length 0 (some 1) = min 1 xs.length from HT.sIx_nat xs.length 0 1, HT.sIx_none]
  cases xs with
  | nil => rfl
  | cons x r =>
    rw [show min 1 (x :: r).length = 1 by
      rw [List.length_cons]
      omega]
    show (List.take ((x :: r).length - 1) r) = r
    rw [List.length_cons, Nat.add_sub_cancel]
    exact List.take_length
theorem q_c {tz : TS} {D : Ends} {σ : L2.St} {H : Hp} {i : Nat} {v : V} (h : tz D (σ.set i (some v)) H) : tSeq (tAsg (tC v) (gName i)) tz D σ H := h
theorem q_w {c : TT} {tb tz : TS} {D : Ends} {σ : L2.St} {H : Hp} (h : tWhile c tb { D with nx := tz D } σ H) : tSeq (tWhile c tb) tz D σ H := h
theorem wh_by {c : TT} {tb : TS} {D : Ends} {σ : L2.St} {H : Hp} (W : Nat → L2.St → Hp → Prop) (m0 : Nat) (h0 : W m0 σ H)
    (hs : ∀ m σ H, W m σ H → c σ H fun b H1 => if b = true then tb { D with nx := fun σ' H' => ∃ m', m' < m ∧ W m' σ' H', ct := fun σ' H' => ∃ m', m' < m ∧ W m' σ' H', bk := D.nx } σ H1 else D.nx σ H1)
    (mono : ∀ σ H Q Q', (∀ b H1, Q b H1 → Q' b H1) → c σ H Q → c σ H Q') : tWhile c tb D σ H :=
  ⟨W, ⟨m0, h0⟩, fun m σ H hw => mono _ _ _ _ (fun b H1 q => by
    cases b with
    | true => exact ⟨_, fun σ' H' h => h, q⟩
    | false => exact q) (hs m σ H hw)⟩
/-- a comprehension whose i-th item is as R says -/
theorem lc_rel {J : It} {n : Nat} {G : Hp → Prop} {Y : Nat → Hp → V → Hp → Prop} (w : Walk J n G Y) {j : Nat} {te : TE} {vs : List Nat} {σ : L2.St} {H1 : Hp} {D : Addr} {Qd : Hp → Prop} (R : Nat → V → Hp → Prop) (hz : n ≤ 50000)
    (hD : H1 D = none) (hw : ∀ x, wipe ((wipe σ vs).set j (some x)) vs = wipe σ vs) (hG : ∀ H, Same H1 H → G H) (hR : ∀ i v H H' zs, H D = some (.lst zs) → But D H H' → R i v H → R i v H')
    (he : ∀ i x H H', i < n → Same H1 H → Y i H x H' → Same H H' ∧ ∀ Q : VK, (∀ v H2, Same H' H2 → R i v H2 → Q v H2) → te ((wipe σ vs).set j (some x)) H' Q)
    (hd : ∀ ys H, Same H1 H → H D = some (.lst ys) → ys.length = n → (∀ i v, ys[i]? = some v → R i v H) → Qd H)  :
    Turns J (upd H1 D (.lst [])) Qd (LcBody D te vs j σ) := by
  refine lc_it w (fun i H => Same H1 H ∧ ∃ ys, H D = some (.lst ys) ∧ ys.length = i ∧ ∀ k v, ys[k]? = some v → R k v H) ⟨same_upd hD, [], upd_same, rfl, fun k v e => by simp at e⟩ (fun i H _ p => hG H p.1) (fun i x H H' hi p y => ?_) (fun H p => ?_)
  · obtain ⟨s1, ys, e1, el, er⟩ := p
    obtain ⟨s2, k⟩ := he i x H H' hi s1 y
    refine And.intro (hw x) ?_
    unfold tYes
    refine iteT ?_
    refine k _ fun v H2 s3 rv => ⟨ys, s3 _ _ (s2 _ _ e1), ?_, fun b o e => ?_, ys ++ [v], upd_same, ?_, fun k u eu => ?_⟩
    · exact Nat.lt_of_lt_of_le (show ys.length < 50000 by omega) (by decide)
    · have hb : b ≠ D := ne_of_none e hD
      rw [upd_ne hb]
      exact s3 _ _ (s2 _ _ (s1 _ _ e))
    · rw [List.length_append, el]
      rfl
    · have e2 : H2 D = some (.lst ys) := s3 _ _ (s2 _ _ e1)
      refine hR k u H2 _ ys e2 But.upd ?_
      by_cases hk : k < ys.length
      · rw [List.getElem?_append_left hk] at eu
        exact hR k u H H2 ys e1 (But.of (s2.trans s3)) (er k u eu)
      · have hk2 : k = ys.length := by
          have := (List.getElem?_eq_some_iff.mp eu).1
          rw [List.length_append] at this
          simp at this
          omega
        rw [hk2, List.getElem?_append_right (Nat.le_refl _), Nat.sub_self] at eu
        have eu2 := Option.some.inj eu
        subst eu2
        rw [hk2, el]
        exact rv
  · obtain ⟨s1, ys, e1, el, er⟩ := p
    exact hd ys H s1 e1 el er
theorem PoolAt.upd {H : Hp} {p l : Addr} {o : HO} (h : PoolAt H p) (n : H l = none) : PoolAt (L2.upd H l o) p := by
  obtain ⟨x, y, e, r⟩ := h
  refine ⟨x, y, ?_, r⟩
  rw [upd_ne (ne_of_none e n)]
  exact e
theorem PoolAt.ne {H : Hp} {p l : Addr} (h : PoolAt H p) (n : H l = none) : p ≠ l := by
  obtain ⟨x, y, e, r⟩ := h
  exact ne_of_none e n
theorem PoolAt.same {H H' : Hp} {p : Addr} (h : PoolAt H p) (s : Same H H') : PoolAt H' p := by
  obtain ⟨x, y, e, r⟩ := h
  exact ⟨x, y, s _ _ e, r⟩
/-- a comprehension that draws: its items are as R says, whatever is drawn -/
theorem lc_pool {J : It} {n : Nat} {Y : Nat → Hp → V → Hp → Prop} (w : Walk J n (fun _ => True) Y) {j : Nat} {te : TE} {vs : List Nat} {σ : L2.St} {H1 : Hp} {D p : Addr} {Qd : Hp → Prop} (R : V → Prop) (hz : n ≤ 50000)
    (hD : H1 D = none) (hp : PoolAt H1 p) (hw : ∀ x, wipe ((wipe σ vs).set j (some x)) vs = wipe σ vs)
    (he : ∀ i x H H', i < n → PoolAt H p → Y i H x H' → H' = H ∧ ∀ Q : VK, (∀ v H2, But p H H2 → PoolAt H2 p → R v → Q v H2) → te ((wipe σ vs).set j (some x)) H Q)
    (hd : ∀ ys H, But p H1 H → PoolAt H p → H D = some (.lst ys) → ys.length = n → (∀ v ∈ ys, R v) → Qd H)  :
    Turns J (upd H1 D (.lst [])) Qd (LcBody D te vs j σ) := by
  have npD : D ≠ p := (hp.ne hD).symm
  refine lc_it w (fun i H => But p H1 H ∧ PoolAt H p ∧ ∃ ys, H D = some (.lst ys) ∧ ys.length = i ∧ ∀ v ∈ ys, R v) ⟨But.of (same_upd hD), hp.upd hD, [], upd_same, rfl, fun v e => by simp at e⟩ (fun i H _ p => True.intro) (fun i x H H' hi q y => ?_) (fun H q => ?_)
  · obtain ⟨s1, h1, ys, e1, el, er⟩ := q
    obtain ⟨rfl, k⟩ := he i x H H' hi h1 y
    refine And.intro (hw x) ?_
    unfold tYes
    refine iteT ?_
    refine k _ fun v H2 s3 h3 rv => ⟨ys, s3 _ _ e1 npD, ?_, fun b o e nb => ?_, ?_, ys ++ [v], upd_same, ?_, fun u hu => ?_⟩
    · exact Nat.lt_of_lt_of_le (show ys.length < 50000 by omega) (by decide)
    · have hb : b ≠ D := ne_of_none e hD
      rw [upd_ne hb]
      exact s3 _ _ (s1 _ _ e nb) nb
    · obtain ⟨x, y, e, r⟩ := h3
      exact ⟨x, y, by rw [upd_ne npD.symm]; exact e, r⟩
    · rw [List.length_append, el]
      rfl
    · rcases List.mem_append.mp hu with hu | hu
      · exact er u hu
      · rw [List.mem_singleton.mp hu]
        exact rv
  · obtain ⟨s1, h1, ys, e1, el, er⟩ := q
    exact hd ys H s1 h1 e1 el er
theorem at_of {j : Nat} {xs : List V} {v : V} {z : Int} (same : z = (j : Int)) (there : xs[j]? = some v) : atI xs z = some v := same ▸ atI_nat there
/-! ### values and names -/
abbrev sWhole : Stmt := topS 3
abbrev sValue : Stmt := topS 4
abbrev sName : Stmt := topS 5
theorem scWhole : FnScope ["value"] ["value"] (defScope sWhole) := ⟨rfl, rfl, rfl, by decide +kernel, rfl, by decide +kernel, by decide +kernel⟩
theorem scValue : FnScope ["value"] ["value"] (defScope sValue) := ⟨rfl, rfl, rfl, by decide +kernel, rfl, by decide +kernel, by decide +kernel⟩
theorem scName : FnScope ["value", "letter"] ["value"] (defScope sName) := ⟨rfl, rfl, rfl, by decide +kernel, rfl, by decide +kernel, by decide +kernel⟩
def isWhole : PyData → Bool
  | .int _ => true
  | _ => false
def isValue : PyData → Bool
  | .int i => decide (0 ≤ i) && decide (i < 3)
  | _ => false
def lowCode (c : Nat) : Bool := decide (97 ≤ c) && decide (c ≤ 122)
def isName : PyData → Bool
  | .str z => decide (1 ≤ (z.length : Int)) && decide ((z.length : Int) ≤ 8) && z.cps.toList.all lowCode
  | _ => false
theorem isWhole_eq (d : PyData) : isWhole d = (isInt d && !isBool d) := by cases d <;> rfl
mutual
def szD : PyData → Bool
  | .str z => decide (z.length ≤ 1000)
  | .tuple ds => decide (ds.length ≤ 1000) && szDs ds
  | .list ds => decide (ds.length ≤ 1000) && szDs ds
  | _ => true
def szDs : List PyData → Bool
  | [] => true
  | d :: ds => szD d && szDs ds
end
theorem nlt (a b : Nat) : (!decide ([a] < [b])) = decide (b ≤ a) := by
  by_cases h : a < b
  · rw [decide_eq_true (show [a] < [b] from List.cons_lt_cons_iff.mpr (.inl h)), decide_eq_false (by omega)]
    rfl
  · have q : ¬ [a] < [b] := fun q => by
      rcases List.cons_lt_cons_iff.mp q with q | ⟨_, q⟩
      · exact h q
      · exact absurd q (List.not_lt_nil _)
    rw [decide_eq_false q, decide_eq_true (by omega)]
    rfl
theorem all_range (l : List Nat) (g : Nat → Bool) : ((List.range l.length).map fun i => g (l.getD i 0)).all id = l.all g := by
  have e : (List.range l.length).map (fun i => g (l.getD i 0)) = l.map g := by
    apply List.ext_getElem?
    intro i
    rw [List.getElem?_map, List.getElem?_map]
    by_cases hi : i < l.length
    · rw [List.getElem?_range hi, List.getElem?_eq_getElem hi]
      show some (g (l.getD i 0)) = some (g l[i])
      rw [List.getD_eq_getElem?_getD, List.getElem?_eq_getElem hi]
      rfl
    · rw [List.getElem?_eq_none (by simpa using hi), List.getElem?_eq_none (by simpa using hi)]
      rfl
  rw [e, List.all_map]
  rfl
/-- a truth about one value, told without a change -/
def spB (K : PySem.W.Frag) (g : PyData → Bool) : Sp := fun vs H Q _ => ∃ (v : V) (d : PyData), vs = [v] ∧ Dp K H v d ∧ szD d = true ∧ ∀ H', Same H H' → Q (.bl (g d)) H'
structure CellsTxt (K : PySem.W.Frag) (mg : Str → Option Value) : Prop where
  vals : ∃ aV, mg "VALUES" = some (.ref aV) ∧ ∀ H : Hp, SqT K H aV [.int 0, .int 1, .int 2]
  long : ∃ t, mg "LONGEST_NAME" = some (.int 8 t)
section
variable {P : Program} {w : World} {K : PySem.W.Frag} {mg : Str → Option Value} {base : Heap}
theorem ok_whole {f : Addr} {fd : FuncData} (F : Fun K "is_whole" "is_whole" sWhole f fd) (M : Blt mg) : FnOk P w K mg base CX0 1 f fd ["value"] (spB K isWhole) := by
  refine F.ok scWhole (fun vs H Q E h => ?_) (fun cdv A outer s H vs Q E hr h => ?_)
  · obtain ⟨v, d, rfl, _⟩ := h
    rfl
  · obtain ⟨v, d, rfl, hv, hsz, q'⟩ := h
    have q := q' H (Same.refl H)
    refine ⟨_, pss_one (ps_ret (pe_and (pe_callB call_isi (by rfl) M.isinstance (by decide +kernel) (pa_cons (pv 0) (pa_cons (pe_bltn (v := .ty "int") (by rfl) M.int (by decide +kernel) rfl) pa_nil)))
      (pe_one (pe_not (pe_callB call_isi (by rfl) M.isinstance (by decide +kernel) (pa_cons (pv 0) (pa_cons (pe_bltn (v := .ty "bool") (by rfl) M.bool (by decide +kernel) rfl) pa_nil))))))), ?_⟩
    rw [isWhole_eq] at q
    refine ⟨v, rfl, v, _, _, _, _, rfl, .ty "int", dp_ty hv, kit_int K d, _, rfl, ?_⟩
    cases hi : isInt d with
    | true =>
      refine iteT ⟨v, rfl, v, _, _, _, _, rfl, .ty "bool", dp_ty hv, kit_bool K d, _, rfl, ?_⟩
      rw [hi] at q
      exact q
    | false =>
      rw [hi] at q
      exact iteF q
theorem ok_value {f fW : Addr} {fd fdW : FuncData} (F : Fun K "is_value" "is_value" sValue f fd) (M : Blt mg) (T : CellsTxt K mg) (FW : Fun K "is_whole" "is_whole" sWhole fW fdW) (bW : Binds K fdW ["value"] []) (gW : mg "is_whole" = some (.ref fW)) :
    FnOk P w K mg base CX0 2 f fd ["value"] (spB K isValue) := by
  have GW : FnOk P w K mg base CX0 1 fW fdW ["value"] (spB K isWhole) := ok_whole FW M
  obtain ⟨aV, gV, sV⟩ := T.vals
  refine F.ok scValue (fun vs H Q E h => ?_) (fun cdv A outer s H vs Q E hr h => ?_)
  · obtain ⟨v, d, rfl, _⟩ := h
    rfl
  · obtain ⟨v, d, rfl, hv, hsz, q'⟩ := h
    have q := q' H (Same.refl H)
    refine ⟨_, pss_one (ps_ret (pe_and (pe_call GW hr (by rfl) gW FW.kp bW .nil pass0 (pa_cons (pv 0) pa_nil))
      (pe_one (pe_chain op_le op_lt pe_int (pv 0) (pe_callB call_len_seq (by rfl) M.len PySem.boot_len (pa_cons (pe_glob (v := .ref aV) (by rfl) gV rfl) pa_nil)))))), ?_⟩
    refine ⟨v, rfl, v, d, rfl, hv, hsz, fun H1 s1 => ⟨_, rfl, ?_⟩⟩
    replace q := q' H1 s1
    cases d with
    | int i =>
      cases hv
      refine iteT ⟨_, rfl, _, _, rfl, rfl, _, rfl, ?_⟩
      cases h0 : decide (0 ≤ i) with
      | false =>
        refine iteF ?_
        have e : isValue (.int i) = false := by
          show (decide (0 ≤ i) && decide (i < 3)) = false
          rw [h0] <;> rfl
        rw [e] at q
        exact q
      | true =>
        refine iteT ⟨aV, _, rfl, .inr (sV _), _, _, rfl, rfl, ?_⟩
        have e : isValue (.int i) = decide (i < 3) := by
          show (decide (0 ≤ i) && decide (i < 3)) = _
          rw [h0] <;> rfl
        rw [e] at q
        exact q
    | none => exact iteF q
    | bool b => exact iteF q
    | str z => exact iteF q
    | list ds => exact iteF q
    | tuple ds => exact iteF q
    | dict kvs => exact iteF q
theorem ok_name {f : Addr} {fd : FuncData} (F : Fun K "is_name" "is_name" sName f fd) (M : Blt mg) (T : CellsTxt K mg) : FnOk P w K mg base CX0 1 f fd ["value"] (spB K isName) := by
  obtain ⟨tl, gL⟩ := T.long
  refine F.ok scName (fun vs H Q E h => ?_) (fun cdv A outer s H vs Q E hr h => ?_)
  · obtain ⟨v, d, rfl, _⟩ := h
    rfl
  · obtain ⟨v, d, rfl, hv, hsz, q'⟩ := h
    have q := q' H (Same.refl H)
    refine ⟨_, pss_cons (ps_if (PW.pt (pw_or (pt_not (pt_val (pe_callB call_isi (by rfl) M.isinstance (by decide +kernel) (pa_cons (pv 0) (pa_cons (pe_bltn (v := .ty "str") (by rfl) M.str (by decide +kernel) rfl) pa_nil)))))
        (pw_or1 (pt_not (pt_chain op_le op_le pe_int (pe_callB call_len (by rfl) M.len PySem.boot_len (pa_cons (pv 0) pa_nil)) (pe_glob (v := .int 8) (by rfl) gL ⟨_, rfl⟩)))))) (pss_one (ps_ret pe_bl)) pss_nil)
      (pss_one (ps_ret (pe_callB (cr_all rfl) (by rfl) M.all (by decide +kernel) (pa_cons
        (pe_lc (own := [("letter", 1)]) (g := gName 1) (by rfl) scName.nd (pi_str (pv 0)) (blkOk_by (own := [("letter", 1)]) (N := ["value", "letter"]) (sc := defScope sName) (by decide +kernel))
          (fun _ _ _ _ _ => pg_name (i := 1) scName.nd rfl (Or.inl rfl)) (fun _ _ _ _ _ => pts_nil) (fun _ _ _ _ _ => pe_chain op_le_str op_le_str pe_str (pv 1) pe_str)) pa_nil)))), ?_⟩
    have no : isName d = false → Q (.bl false) H := fun e => by
      rw [e] at q
      exact q
    refine ⟨v, rfl, v, _, _, _, _, rfl, .ty "str", dp_ty hv, kit_str K d, _, rfl, ?_⟩
    cases d with
    | str z =>
      cases hv
      refine iteF ?_
      have hzl : z.length ≤ sizeLine := Nat.le_trans (of_decide_eq_true hsz) (by decide)
      by_cases hz : z.length ≤ 8
      · refine ⟨.str z, rfl, .str z, z.length, rfl, ⟨hzl, rfl⟩, _, _, rfl, rfl, _, rfl, ?_⟩
        cases h1 : decide (1 ≤ (z.length : Int)) with
        | false =>
          refine iteF ⟨_, rfl, iteT (no ?_)⟩
          show (decide (1 ≤ (z.length : Int)) && decide ((z.length : Int) ≤ 8) && z.cps.toList.all lowCode) = false
          rw [h1]
          rfl
        | true =>
          refine iteT ⟨_, _, rfl, rfl, _, rfl, ?_⟩
          have h2 : decide ((z.length : Int) ≤ 8) = true := decide_eq_true (by omega)
          rw [h2]
          refine iteF ⟨_, rfl, z, rfl, fun D hD => ?_⟩
          have ln : z.cps.size ≤ 8 := hz
          refine lc_vals (vs := [1]) (j := 1) (σ := [some (.str z), none]) walk_str (fun i => .bl (lowCode (z.cps.getD i 0))) (by omega) hD (fun x => rfl) (fun _ _ => True.intro) (fun i x H0 H' hi s1 y => ?_) (fun H' s1 e1 => ?_)
          · obtain ⟨rfl, c, hc, rfl⟩ := y
            have gc : z.cps.getD i 0 = c := by
              rw [Array.getD_eq_getD_getElem?, hc]
              rfl
            refine ⟨Same.refl _, fun Q2 q2 => ⟨_, rfl, _, _, rfl, rfl, _, rfl, ?_⟩⟩
            show if (!decide ([c] < [97])) = true then _ else _
            rw [nlt c 97]
            cases h3 : decide (97 ≤ c) with
            | false =>
              refine iteF ?_
              have e : lowCode (z.cps.getD i 0) = false := by
                rw [gc]
                show (decide (97 ≤ c) && decide (c ≤ 122)) = false
                rw [h3]
                rfl
              have q3 := q2 _ (Same.refl _)
              rw [e] at q3
              exact q3
            | true =>
              refine iteT ⟨_, _, rfl, rfl, ?_⟩
              have e : lowCode (z.cps.getD i 0) = (!decide ([122] < [c])) := by
                rw [gc, nlt 122 c]
                show (decide (97 ≤ c) && decide (c ≤ 122)) = _
                rw [h3]
                rfl
              have q3 := q2 _ (Same.refl _)
              rw [e] at q3
              exact q3
          · refine ⟨D, (List.range z.cps.size).map (fun i => lowCode (z.cps.getD i 0)), rfl, .inl (.inl ?_), ?_⟩
            · rw [e1, List.map_map]
              rfl
            · have e : ((List.range z.cps.size).map fun i => lowCode (z.cps.getD i 0)).all id = z.cps.toList.all lowCode := by
                rw [← all_range z.cps.toList lowCode]
                have ez : z.cps.toList.length = z.cps.size := by simp
                rw [ez]
                have eg : (fun i => lowCode (z.cps.getD i 0)) = fun i => lowCode (z.cps.toList.getD i 0) := by
                  funext i
                  rw [Array.getD_eq_getD_getElem?, List.getD_eq_getElem?_getD, Array.getElem?_toList]
                rw [eg]
              have e2 : isName (.str z) = z.cps.toList.all lowCode := by
                show (decide (1 ≤ (z.length : Int)) && decide ((z.length : Int) ≤ 8) && z.cps.toList.all lowCode) = _
                rw [h1, h2]
                rfl
              have q2 := q' H' s1
              rw [e2] at q2
              rw [e]
              exact q2
      · have nz : isName (.str z) = false := by
          show (decide (1 ≤ (z.length : Int)) && decide ((z.length : Int) ≤ 8) && z.cps.toList.all lowCode) = false
          rw [decide_eq_false (show ¬ (z.length : Int) ≤ 8 by omega), Bool.and_false]
          rfl
        refine ⟨.str z, rfl, .str z, z.length, rfl, ⟨hzl, rfl⟩, _, _, rfl, rfl, _, rfl, ?_⟩
        rw [decide_eq_true (show 1 ≤ (z.length : Int) by omega)]
        refine iteT ⟨_, _, rfl, rfl, _, rfl, ?_⟩
        rw [decide_eq_false (show ¬ (z.length : Int) ≤ 8 by omega)]
        exact iteT (no nz)
    | none => exact iteT (no rfl)
    | bool b => exact iteT (no rfl)
    | int i => exact iteT (no rfl)
    | list ds => exact iteT (no rfl)
    | tuple ds => exact iteT (no rfl)
    | dict kvs => exact iteT (no rfl)
end
/-! ### terms -/
abbrev sHas : Stmt := topS 12
abbrev sCallForm : Stmt := topS 13
theorem scHas : FnScope ["part", "arguments", "word"] ["part", "arguments"] (defScope sHas) := ⟨rfl, rfl, rfl, by decide +kernel, rfl, by decide +kernel, by decide +kernel⟩
theorem scCallForm : FnScope ["terms"] ["terms"] (defScope sCallForm) := ⟨rfl, rfl, rfl, by decide +kernel, rfl, by decide +kernel, by decide +kernel⟩
def lenOf (z : Str) : Option Int := if z = "tick" then some 1 else if z = "plus" then some 3 else if z = "less" then some 3 else if z = "same" then some 3 else if z = "if" then some 4 else none
def callForm : PyData → Bool
  | .tuple ts => decide ((ts.length : Int) ≤ 2)
  | _ => false
def below (n : Int) : PyData → Bool
  | .int i => decide (0 ≤ i) && decide (i < n)
  | _ => false
def on1 (g : PyData → Bool) : List PyData → Bool
  | [x] => g x
  | _ => false
def on2 (g : PyData → PyData → Bool) : List PyData → Bool
  | [x, y] => g x y
  | _ => false
theorem len2 {α : Type} : ∀ {l : List α}, l.length = 2 → ∃ x y, l = [x, y]
  | [x, y], _ => ⟨x, y, rfl⟩
  | [], h => by cases h
  | [_], h => by cases h
  | _ :: _ :: _ :: _, h => by
    simp only [List.length_cons] at h
    omega
theorem on1_bad {g : PyData → Bool} : ∀ {l : List PyData}, l.length ≠ 1 → on1 g l = false
  | [], _ => rfl
  | [_], h => absurd rfl h
  | _ :: _ :: _, _ => rfl
theorem on2_bad {g : PyData → PyData → Bool} : ∀ {l : List PyData}, l.length ≠ 2 → on2 g l = false
  | [], _ => rfl
  | [_], _ => rfl
  | [_, _], h => absurd rfl h
  | _ :: _ :: _ :: _, _ => rfl
def formOf (n : Int) (z : Str) (rest : List PyData) : Bool :=
  if z = "arg" then on1 (below n) rest
  else if z = "cell" then on1 isName rest
  else if z = "call" then on2 (fun x y => isName x && callForm y) rest
  else match lenOf z with
    | some k => decide ((rest.length : Int) + 1 = k)
    | none => false
def hasForm (n : Int) (d : PyData) : Bool := isValue d || match d with
  | .tuple (.str z :: rest) => formOf n z rest
  | _ => false
theorem szD_tup {ds : List PyData} (h : szD (.tuple ds) = true) : szDs ds = true := (Bool.and_eq_true_iff.mp h).2
theorem szDs_get : ∀ {ds : List PyData} {i : Nat} {d : PyData}, szDs ds = true → ds[i]? = some d → szD d = true
  | [], _, _, _, e => by simp at e
  | d :: ds, 0, _, h, e => by
    have e1 := Option.some.inj e
    subst e1
    exact (Bool.and_eq_true_iff.mp h).1
  | d :: ds, i + 1, _, h, e => szDs_get (i := i) (Bool.and_eq_true_iff.mp h).2 e
theorem dint (a b : Int) : decide (V.int a = V.int b) = decide (a = b) := by
  by_cases h : a = b
  · rw [h, decide_eq_true rfl, decide_eq_true rfl]
  · rw [decide_eq_false h, decide_eq_false (fun q => h (V.int.inj q))]
theorem dstr (a b : Str) : decide (V.str a = V.str b) = decide (a = b) := by
  by_cases h : a = b
  · rw [h, decide_eq_true rfl, decide_eq_true rfl]
  · rw [decide_eq_false h, decide_eq_false (fun q => h (V.str.inj q))]
structure TermsTxt (K : PySem.W.Frag) (w : World) (mg : Str → Option Value) : Prop where
  lens : ∃ (aL : Addr) (es : Array DictEntry) (n : Nat), mg "LENGTHS" = some (.ref aL) ∧ KDict K w aL es n ∧ ∀ z, match lenOf z with
    | some k => ∃ t, PySem.W.nsIn K aL z = some (some (.int k t))
    | none => PySem.W.nsIn K aL z = some none
  args : ∃ t, mg "MOST_ARGUMENTS" = some (.int 2 t)
  deep : ∃ t, mg "MOST_DEEP" = some (.int 8 t)
  parts : ∃ t, mg "MOST_PARTS" = some (.int 30 t)
/-- a truth about one value and a number -/
def spBn (K : PySem.W.Frag) (g : Int → PyData → Bool) : Sp := fun vs H Q _ => ∃ (v : V) (d : PyData) (n : Int), vs = [v, .int n] ∧ Dp K H v d ∧ szD d = true ∧ ∀ H', Same H H' → Q (.bl (g n d)) H'
section
variable {P : Program} {w : World} {K : PySem.W.Frag} {mg : Str → Option Value} {base : Heap}
theorem ok_callForm {f : Addr} {fd : FuncData} (F : Fun K "_has_call_form" "_has_call_form" sCallForm f fd) (M : Blt mg) (T : TermsTxt K w mg) : FnOk P w K mg base CX0 1 f fd ["terms"] (spB K callForm) := by
  obtain ⟨tA, gA⟩ := T.args
  refine F.ok scCallForm (fun vs H Q E h => ?_) (fun cdv A outer s H vs Q E hr h => ?_)
  · obtain ⟨v, d, rfl, _⟩ := h
    rfl
  · obtain ⟨v, d, rfl, hv, hsz, q⟩ := h
    refine ⟨_, pss_one (ps_ret (pe_and (pe_callB call_isi (by rfl) M.isinstance (by decide +kernel) (pa_cons (pv 0) (pa_cons (pe_bltn (v := .ty "tuple") (by rfl) M.tuple (by decide +kernel) rfl) pa_nil)))
      (pe_one (pe_cmpR op_le (pe_callB call_len_seq (by rfl) M.len PySem.boot_len (pa_cons (pv 0) pa_nil)) (pe_glob (v := .int 2) (by rfl) gA ⟨_, rfl⟩) (nomark _))))), ?_⟩
    refine ⟨v, rfl, v, _, _, _, _, rfl, .ty "tuple", dp_ty hv, kit_tup K d, _, rfl, ?_⟩
    have q1 := q H (Same.refl H)
    cases d with
    | tuple ts =>
      cases hv with
      | @tup a xs _ hs ha =>
        refine iteT ⟨_, rfl, a, xs, rfl, .inr hs, _, _, rfl, rfl, ?_⟩
        have e : xs.length = ts.length := dpA_len ha
        rw [e]
        exact q1
    | none => exact iteF q1
    | bool b => exact iteF q1
    | int i => exact iteF q1
    | str z => exact iteF q1
    | list ds => exact iteF q1
    | dict kvs => exact iteF q1
structure CellFns (K : PySem.W.Frag) (mg : Str → Option Value) (fW fV fN : Addr) (dW dV dN : FuncData) : Prop where
  W : Fun K "is_whole" "is_whole" sWhole fW dW
  V : Fun K "is_value" "is_value" sValue fV dV
  N : Fun K "is_name" "is_name" sName fN dN
  bW : Binds K dW ["value"] []
  bV : Binds K dV ["value"] []
  bN : Binds K dN ["value"] []
  gW : mg "is_whole" = some (.ref fW)
  gV : mg "is_value" = some (.ref fV)
  gN : mg "is_name" = some (.ref fN)
theorem ok_has {f fC fW fV fN : Addr} {fd dC dW dV dN : FuncData} (F : Fun K "_has_form" "_has_form" sHas f fd) (M : Blt mg) (TC : CellsTxt K mg) (T : TermsTxt K w mg) (G : CellFns K mg fW fV fN dW dV dN)
    (FC : Fun K "_has_call_form" "_has_call_form" sCallForm fC dC) (bC : Binds K dC ["terms"] []) (gC : mg "_has_call_form" = some (.ref fC)) :
    FnOk P w K mg base CX0 3 f fd ["part", "arguments"] (spBn K hasForm) := by
  have GW : FnOk P w K mg base CX0 1 fW dW ["value"] (spB K isWhole) := ok_whole G.W M
  have GV : FnOk P w K mg base CX0 2 fV dV ["value"] (spB K isValue) := ok_value G.V M TC G.W G.bW G.gW
  have GN : FnOk P w K mg base CX0 1 fN dN ["value"] (spB K isName) := ok_name G.N M TC
  have GC : FnOk P w K mg base CX0 1 fC dC ["terms"] (spB K callForm) := ok_callForm FC M T
  obtain ⟨aL, es, n0, gL, kL, hL⟩ := T.lens
  refine F.ok scHas (fun vs H Q E h => ?_) (fun cdv A outer s H vs Q E hr h => ?_)
  · obtain ⟨v, d, n, rfl, _⟩ := h
    rfl
  · obtain ⟨v, d, n, rfl, hv, hsz, q⟩ := h
    have hr1 : Room 1 _ := hr.mono (by decide)
    have hu := hu_of hr
    refine ⟨_, pss_cons (ps_if (pt_val (pe_call GV hr (by rfl) G.gV G.V.kp G.bV .nil pass0 (pa_cons (pv 0) pa_nil))) (pss_one (ps_ret pe_bl)) pss_nil)
      (pss_cons (ps_if (PW.pt (pw_or (pt_not (pt_val (pe_callB call_isi (by rfl) M.isinstance (by decide +kernel) (pa_cons (pv 0) (pa_cons (pe_bltn (v := .ty "tuple") (by rfl) M.tuple (by decide +kernel) rfl) pa_nil)))))
        (pw_or (pt_cmpR op_eq (pe_callB call_len_seq (by rfl) M.len PySem.boot_len (pa_cons (pv 0) pa_nil)) pe_int (nomark _))
          (pw_or1 (pt_not (pt_val (pe_callB call_isi (by rfl) M.isinstance (by decide +kernel) (pa_cons (pe_ix ix_tup (pv 0) pe_int (fun _ _ => rfl)) (pa_cons (pe_bltn (v := .ty "str") (by rfl) M.str (by decide +kernel) rfl) pa_nil)))))))))
        (pss_one (ps_ret pe_bl)) pss_nil)
      (pss_cons (ps_set (i := 2) scHas.nd rfl (.inl rfl) (pe_ix ix_tup (pv 0) pe_int (fun _ _ => rfl)))
      (pss_cons (ps_if (pt_cmpR op_eq (pv 2) pe_str (nomark _)) (pss_one (ps_ret (pe_and (pe_cmpR op_eq (pe_callB call_len_seq (by rfl) M.len PySem.boot_len (pa_cons (pv 0) pa_nil)) pe_int (nomark _))
          (pe_and (pe_call GW hr1 (by rfl) G.gW G.W.kp G.bW .nil pass0 (pa_cons (pe_ix ix_tup (pv 0) pe_int (fun _ _ => rfl)) pa_nil))
            (pe_one (pe_chain op_le op_lt pe_int (pe_ix ix_tup (pv 0) pe_int (fun _ _ => rfl)) (pv 1))))))) pss_nil)
      (pss_cons (ps_if (pt_cmpR op_eq (pv 2) pe_str (nomark _)) (pss_one (ps_ret (pe_and (pe_cmpR op_eq (pe_callB call_len_seq (by rfl) M.len PySem.boot_len (pa_cons (pv 0) pa_nil)) pe_int (nomark _))
          (pe_one (pe_call GN hr1 (by rfl) G.gN G.N.kp G.bN .nil pass0 (pa_cons (pe_ix ix_tup (pv 0) pe_int (fun _ _ => rfl)) pa_nil)))))) pss_nil)
      (pss_cons (ps_if (pt_cmpR op_eq (pv 2) pe_str (nomark _)) (pss_one (ps_ret (pe_and (pe_cmpR op_eq (pe_callB call_len_seq (by rfl) M.len PySem.boot_len (pa_cons (pv 0) pa_nil)) pe_int (nomark _))
          (pe_and (pe_call GN hr1 (by rfl) G.gN G.N.kp G.bN .nil pass0 (pa_cons (pe_ix ix_tup (pv 0) pe_int (fun _ _ => rfl)) pa_nil))
            (pe_one (pe_call GC hr1 (by rfl) gC FC.kp bC .nil pass0 (pa_cons (pe_ix ix_tup (pv 0) pe_int (fun _ _ => rfl)) pa_nil))))))) pss_nil)
      (pss_one (ps_ret (pe_and (pe_cmpR (op_in_kd kL) (pv 2) (pe_glob (v := .ref aL) (by rfl) gL rfl) (by rfl))
        (pe_one (pe_cmpR op_eq (pe_callB call_len_seq (by rfl) M.len PySem.boot_len (pa_cons (pv 0) pa_nil)) (pe_ix ix_kdict (pe_glob (v := .ref aL) (by rfl) gL rfl) (pv 2) (fun _ _ => rfl)) (nomark _))))))))))), ?_⟩
    refine ⟨v, rfl, v, d, rfl, hv, hsz, fun H1 s1 => ⟨_, rfl, ?_⟩⟩
    have hv1 := dp_same s1 hv
    have fin : ∀ (b : Bool) H2, Same H1 H2 → hasForm n d = b → Q (.bl b) H2 := fun b H2 s2 e => by
      have q1 := q H2 (s1.trans s2)
      rw [e] at q1
      exact q1
    cases hval : isValue d with
    | true =>
      refine iteT (fin true H1 (Same.refl _) ?_)
      show (isValue d || _) = true
      rw [hval]
      rfl
    | false =>
      refine iteF ⟨v, rfl, v, _, _, _, _, rfl, .ty "tuple", dp_ty hv1, kit_tup K d, _, rfl, ?_⟩
      cases d with
      | tuple ts =>
        cases hv1 with
        | @tup a xs _ hs ha =>
          have el : xs.length = ts.length := dpA_len ha
          refine iteF ⟨_, rfl, a, xs, rfl, .inr hs, rfl, _, rfl, ?_⟩
          rw [dint]
          cases ts with
          | nil =>
            rw [el]
            exact iteT (fin false H1 (Same.refl _) (by
              show (isValue (.tuple []) || false) = false
              rw [hval]
              rfl))
          | cons d0 rest =>
            have e0 : xs.length = rest.length + 1 := el
            rw [decide_eq_false (show ¬ (xs.length : Int) = 0 by omega)]
            cases ha with
            | @cons x0 xr _ _ h0 hr0 =>
              have at0 : atI (x0 :: xr) (0 : Int) = some x0 := atI_nat (j := 0) rfl
              have lr : xr.length = rest.length := dpA_len hr0
              refine iteF ⟨_, rfl, a, x0 :: xr, 0, x0, rfl, rfl, hs, at0, x0, _, _, _, _, rfl, .ty "str", dp_ty h0, kit_str K d0, _, rfl, ?_⟩
              cases d0 with
              | str z =>
                cases h0
                refine iteF ⟨_, rfl, a, _, 0, .str z, rfl, rfl, hs, at0, ?_⟩
                have hf : hasForm n (.tuple (.str z :: rest)) = formOf n z rest := by
                  show (isValue (.tuple (.str z :: rest)) || formOf n z rest) = _
                  rw [hval]
                  rfl
                refine ⟨_, rfl, rfl, _, rfl, ?_⟩
                have hszr : szDs rest = true := (Bool.and_eq_true_iff.mp (szD_tup hsz)).2
                rw [dstr]
                by_cases z1 : z = "arg"
                · have fe : formOf n z rest = on1 (below n) rest := if_pos z1
                  rw [fe] at hf
                  rw [decide_eq_true z1]
                  refine iteT ⟨_, rfl, a, _, rfl, .inr hs, rfl, _, rfl, ?_⟩
                  rw [dint]
                  by_cases hl : rest.length = 1
                  · rw [decide_eq_true (show (((V.str z :: xr).length : Nat) : Int) = 2 by rw [List.length_cons]; omega)]
                    obtain ⟨d1, rfl⟩ := List.length_eq_one_iff.mp hl
                    cases hr0 with
                    | @cons x1 xr1 _ _ h1 hn1 =>
                      cases hn1
                      have at1 : atI [.str z, x1] (1 : Int) = some x1 := atI_nat (j := 1) rfl
                      refine iteT ⟨_, rfl, a, _, 1, x1, rfl, rfl, hs, at1, x1, d1, rfl, h1, szDs_get hszr (i := 0) rfl, fun H2 s2 => ⟨_, rfl, ?_⟩⟩
                      cases d1 with
                      | int i =>
                        cases h1
                        refine iteT ⟨_, rfl, a, _, 1, _, rfl, rfl, same_sqT s2 hs, at1, _, _, rfl, rfl, _, rfl, ?_⟩
                        have hb : hasForm n (.tuple [.str z, .int i]) = (decide (0 ≤ i) && decide (i < n)) := hf
                        cases h0 : decide (0 ≤ i) with
                        | false =>
                          rw [h0] at hb
                          exact iteF (fin false H2 s2 hb)
                        | true =>
                          rw [h0] at hb
                          exact iteT ⟨_, rfl, _, _, rfl, rfl, fin _ H2 s2 hb⟩
                      | none => exact iteF (fin false H2 s2 hf)
                      | bool b => exact iteF (fin false H2 s2 hf)
                      | str y => exact iteF (fin false H2 s2 hf)
                      | list ds => exact iteF (fin false H2 s2 hf)
                      | tuple ds => exact iteF (fin false H2 s2 hf)
                      | dict kvs => exact iteF (fin false H2 s2 hf)
                  · rw [decide_eq_false (show ¬ (((V.str z :: xr).length : Nat) : Int) = 2 by rw [List.length_cons]; omega)]
                    exact iteF (fin false H1 (Same.refl _) (hf.trans (on1_bad hl)))
                · rw [decide_eq_false z1]
                  refine iteF ⟨_, rfl, rfl, _, rfl, ?_⟩
                  rw [dstr]
                  by_cases z2 : z = "cell"
                  · have fe : formOf n z rest = on1 isName rest := (if_neg z1).trans (if_pos z2)
                    rw [fe] at hf
                    rw [decide_eq_true z2]
                    refine iteT ⟨_, rfl, a, _, rfl, .inr hs, rfl, _, rfl, ?_⟩
                    rw [dint]
                    by_cases hl : rest.length = 1
                    · rw [decide_eq_true (show (((V.str z :: xr).length : Nat) : Int) = 2 by rw [List.length_cons]; omega)]
                      obtain ⟨d1, rfl⟩ := List.length_eq_one_iff.mp hl
                      cases hr0 with
                      | @cons x1 xr1 _ _ h1 hn1 =>
                        cases hn1
                        have at1 : atI [.str z, x1] (1 : Int) = some x1 := atI_nat (j := 1) rfl
                        exact iteT ⟨_, rfl, a, _, 1, x1, rfl, rfl, hs, at1, x1, d1, rfl, h1, szDs_get hszr (i := 0) rfl, fun H2 s2 => fin _ H2 s2 hf⟩
                    · rw [decide_eq_false (show ¬ (((V.str z :: xr).length : Nat) : Int) = 2 by rw [List.length_cons]; omega)]
                      exact iteF (fin false H1 (Same.refl _) (hf.trans (on1_bad hl)))
                  · rw [decide_eq_false z2]
                    refine iteF ⟨_, rfl, rfl, _, rfl, ?_⟩
                    rw [dstr]
                    by_cases z3 : z = "call"
                    · have fe : formOf n z rest = on2 (fun x y => isName x && callForm y) rest := (if_neg z1).trans ((if_neg z2).trans (if_pos z3))
                      rw [fe] at hf
                      rw [decide_eq_true z3]
                      refine iteT ⟨_, rfl, a, _, rfl, .inr hs, rfl, _, rfl, ?_⟩
                      rw [dint]
                      by_cases hl : rest.length = 2
                      · rw [decide_eq_true (show (((V.str z :: xr).length : Nat) : Int) = 3 by rw [List.length_cons]; omega)]
                        obtain ⟨d1, d2, rfl⟩ := len2 hl
                        cases hr0 with
                        | @cons x1 xr1 _ _ h1 hn1 =>
                          cases hn1 with
                          | @cons x2 xr2 _ _ h2 hn2 =>
                            cases hn2
                            have at1 : atI [.str z, x1, x2] (1 : Int) = some x1 := atI_nat (j := 1) rfl
                            have at2 : atI [.str z, x1, x2] (2 : Int) = some x2 := atI_nat (j := 2) rfl
                            refine iteT ⟨_, rfl, a, _, 1, x1, rfl, rfl, hs, at1, x1, d1, rfl, h1, szDs_get hszr (i := 0) rfl, fun H2 s2 => ⟨_, rfl, ?_⟩⟩
                            have hb : hasForm n (.tuple [.str z, d1, d2]) = (isName d1 && callForm d2) := hf
                            cases hn : isName d1 with
                            | false =>
                              rw [hn] at hb
                              exact iteF (fin false H2 s2 hb)
                            | true =>
                              rw [hn] at hb
                              exact iteT ⟨_, rfl, a, _, 2, x2, rfl, rfl, same_sqT s2 hs, at2, x2, d2, rfl, dp_same s2 h2, szDs_get hszr (i := 1) rfl, fun H3 s3 => fin _ H3 (s2.trans s3) hb⟩
                      · rw [decide_eq_false (show ¬ (((V.str z :: xr).length : Nat) : Int) = 3 by rw [List.length_cons]; omega)]
                        exact iteF (fin false H1 (Same.refl _) (hf.trans (on2_bad hl)))
                    · rw [decide_eq_false z3]
                      have fe : formOf n z rest = (match lenOf z with | some k => decide ((rest.length : Int) + 1 = k) | none => false) := (if_neg z1).trans ((if_neg z2).trans (if_neg z3))
                      rw [fe] at hf
                      have hz := hL z
                      cases ez : lenOf z with
                      | none =>
                        rw [ez] at hz hf
                        exact iteF ⟨_, rfl, z, none, rfl, rfl, hz, _, rfl, iteF (fin false H1 (Same.refl _) hf)⟩
                      | some k =>
                        rw [ez] at hz hf
                        obtain ⟨t, hz⟩ := hz
                        refine iteF ⟨_, rfl, z, some _, rfl, rfl, hz, _, rfl, iteT ⟨_, rfl, a, _, rfl, .inr hs, _, rfl, aL, z, .int k, rfl, rfl, ⟨es, n0, _, kL.at_, kL.lit, hz, ⟨_, rfl⟩⟩, rfl, ?_⟩⟩
                        rw [dint]
                        have e5 : (((V.str z :: xr).length : Nat) : Int) = (rest.length : Int) + 1 := by
                          rw [List.length_cons]
                          omega
                        have e6 := fin _ H1 (Same.refl _) hf
                        rw [← e5] at e6
                        exact e6
              | none => exact iteT (fin false H1 (Same.refl _) (Bool.or_eq_false_iff.mpr ⟨hval, rfl⟩))
              | bool b => exact iteT (fin false H1 (Same.refl _) (Bool.or_eq_false_iff.mpr ⟨hval, rfl⟩))
              | int i => exact iteT (fin false H1 (Same.refl _) (Bool.or_eq_false_iff.mpr ⟨hval, rfl⟩))
              | list ds => exact iteT (fin false H1 (Same.refl _) (Bool.or_eq_false_iff.mpr ⟨hval, rfl⟩))
              | tuple ds => exact iteT (fin false H1 (Same.refl _) (Bool.or_eq_false_iff.mpr ⟨hval, rfl⟩))
              | dict kvs => exact iteT (fin false H1 (Same.refl _) (Bool.or_eq_false_iff.mpr ⟨hval, rfl⟩))
      | none => exact iteT (fin false H1 (Same.refl _) (Bool.or_eq_false_iff.mpr ⟨hval, rfl⟩))
      | bool b => exact iteT (fin false H1 (Same.refl _) (Bool.or_eq_false_iff.mpr ⟨hval, rfl⟩))
      | int i => exact iteT (fin false H1 (Same.refl _) (Bool.or_eq_false_iff.mpr ⟨hval, rfl⟩))
      | str z => exact iteT (fin false H1 (Same.refl _) (Bool.or_eq_false_iff.mpr ⟨hval, rfl⟩))
      | list ds => exact iteT (fin false H1 (Same.refl _) (Bool.or_eq_false_iff.mpr ⟨hval, rfl⟩))
      | dict kvs => exact iteT (fin false H1 (Same.refl _) (Bool.or_eq_false_iff.mpr ⟨hval, rfl⟩))
end
/-! ### what stands in a term -/
abbrev sInner : Stmt := topS 14
abbrev sNext : Stmt := topS 15
theorem scInner : FnScope ["term"] ["term"] (defScope sInner) := ⟨rfl, rfl, rfl, by decide +kernel, rfl, by decide +kernel, by decide +kernel⟩
theorem scNext : FnScope ["level", "part", "inner"] ["level"] (defScope sNext) := ⟨rfl, rfl, rfl, by decide +kernel, rfl, by decide +kernel, by decide +kernel⟩
def second : List PyData → List PyData
  | [_, .tuple ts] => ts
  | _ => []
def inner : PyData → List PyData
  | .tuple (.str z :: rest) => if z = "arg" ∨ z = "cell" then [] else if z = "call" then second rest else rest
  | _ => []
theorem form_str {n : Int} {d : PyData} (h : hasForm n d = true) (hv : isValue d = false) : ∃ z rest, d = .tuple (.str z :: rest) ∧ formOf n z rest = true := by
  unfold hasForm at h
  rw [hv] at h
  match d, h with
  | .tuple (.str z :: rest), h => exact ⟨z, rest, rfl, h⟩
theorem in_two (z a b : Str) : inV (.str z) [.str a, .str b] = decide (z = a ∨ z = b) := by
  show ((a == z) || ((b == z) || false)) = _
  rw [Bool.or_false]
  by_cases h1 : z = a
  · subst h1
    rw [beq_self_eq_true, decide_eq_true (.inl rfl)]
    rfl
  · have e1 : (a == z) = false := beq_eq_false_iff_ne.mpr (fun q => h1 q.symm)
    rw [e1]
    by_cases h2 : z = b
    · subst h2
      rw [beq_self_eq_true, decide_eq_true (.inr rfl)]
      rfl
    · have e2 : (b == z) = false := beq_eq_false_iff_ne.mpr (fun q => h2 q.symm)
      rw [e2, decide_eq_false (fun q => q.elim h1 h2)]
      rfl
def spInner (K : PySem.W.Frag) : Sp := fun vs H Q _ => ∃ (v : V) (d : PyData) (n : Int) (H0 : Hp), vs = [v] ∧ Same H0 H ∧ Dp K H0 v d ∧ szD d = true ∧ hasForm n d = true ∧
  ∀ p xs H', Same H H' → H p = none → H' p = some (.lst xs) → DpAll K H0 xs (inner d) → Q (.ref p) H'
section
variable {P : Program} {w : World} {K : PySem.W.Frag} {mg : Str → Option Value} {base : Heap}
theorem ok_inner {f fW fV fN : Addr} {fd dW dV dN : FuncData} (F : Fun K "inner_terms" "inner_terms" sInner f fd) (M : Blt mg) (TC : CellsTxt K mg) (G : CellFns K mg fW fV fN dW dV dN) : FnOk P w K mg base CX0 3 f fd ["term"] (spInner K) := by
  have GV : FnOk P w K mg base CX0 2 fV dV ["value"] (spB K isValue) := ok_value G.V M TC G.W G.bW G.gW
  refine F.ok scInner (fun vs H Q E h => ?_) (fun cdv A outer s H vs Q E hr h => ?_)
  · obtain ⟨v, d, n, H0, rfl, _⟩ := h
    rfl
  · obtain ⟨v, d, n, H0, rfl, s0, hv, hsz, hf, q⟩ := h
    refine ⟨_, pss_cons (ps_if (PW.pt (pw_or (pt_val (pe_call GV hr (by rfl) G.gV G.V.kp G.bV .nil pass0 (pa_cons (pv 0) pa_nil)))
        (pw_or1 (pt_cmpR op_in_seq (pe_ix ix_tup (pv 0) pe_int (fun _ _ => rfl)) (pe_tup (pa_cons pe_str (pa_cons pe_str pa_nil))) (by rfl))))) (pss_one (ps_ret (pe_lst pa_nil))) pss_nil)
      (pss_cons (ps_if (pt_cmpR op_eq (pe_ix ix_tup (pv 0) pe_int (fun _ _ => rfl)) pe_str (nomark _)) (pss_one (ps_ret (pe_callTy call_list_of (by rfl) M.list (by decide +kernel) (pa_cons (pe_ix ix_tup (pv 0) pe_int (fun _ _ => rfl)) pa_nil)))) pss_nil)
      (pss_one (ps_ret (pe_callTy call_list_of (by rfl) M.list (by decide +kernel) (pa_cons (pe_slice sl_tup (pv 0) (po_some pe_int) po_none) pa_nil))))), ?_⟩
    have fin : ∀ xs H1, Same H H1 → DpAll K H0 xs (inner d) → ∀ p, H1 p = none → Q (.ref p) (upd H1 p (.lst xs)) := fun xs H1 s1 ha p np => q p xs _ (s1.trans (same_upd np)) (s1.free np) upd_same ha
    refine ⟨v, rfl, v, d, rfl, dp_same s0 hv, hsz, fun H1 s1 => ⟨_, rfl, ?_⟩⟩
    cases hval : isValue d with
    | true =>
      have ei : inner d = [] := by cases d <;> first | rfl | cases hval
      exact iteT ⟨Nat.zero_le _, fun p np => fin [] H1 s1 (by rw [ei]; exact .nil) p np⟩
    | false =>
      obtain ⟨z, rest, rfl, hf1⟩ := form_str hf hval
      cases hv with
      | @tup a xs _ hs ha =>
        cases ha with
        | @cons x0 xr _ _ h0 hr0 =>
          cases h0
          have at0 : atI (V.str z :: xr) (0 : Int) = some (.str z) := atI_nat (j := 0) rfl
          refine iteF ⟨_, rfl, a, _, 0, .str z, rfl, rfl, same_sqT (s0.trans s1) hs, at0, (by show 2 ≤ sizeLine; decide), fun p np => ?_⟩
          have s2 : Same H1 (upd H1 p (.tup [.str "arg", .str "cell"])) := same_upd np
          refine ⟨p, _, rfl, .inr (.inl (.inl upd_same)), rfl, rfl, _, rfl, ?_⟩
          rw [in_two]
          by_cases z1 : z = "arg" ∨ z = "cell"
          · rw [decide_eq_true z1]
            have ei : inner (.tuple (.str z :: rest)) = [] := if_pos z1
            exact iteT ⟨Nat.zero_le _, fun p2 np2 => fin [] _ (s1.trans s2) (by rw [ei]; exact .nil) p2 np2⟩
          · rw [decide_eq_false z1]
            have hs2 := same_sqT s2 (same_sqT (s0.trans s1) hs)
            refine iteF ⟨_, rfl, a, _, 0, .str z, rfl, rfl, hs2, at0, rfl, _, rfl, ?_⟩
            rw [dstr]
            by_cases z3 : z = "call"
            · rw [decide_eq_true z3]
              have fe : formOf n z rest = on2 (fun x y => isName x && callForm y) rest := (if_neg (fun h => z1 (.inl h))).trans ((if_neg (fun h => z1 (.inr h))).trans (if_pos z3))
              rw [fe] at hf1
              have ei : inner (.tuple (.str z :: rest)) = second rest := (if_neg z1).trans (if_pos z3)
              have hl : rest.length = 2 := by
                by_cases h : rest.length = 2
                · exact h
                · rw [on2_bad h] at hf1
                  cases hf1
              obtain ⟨d1, d2, rfl⟩ := len2 hl
              cases hr0 with
              | @cons x1 xr1 _ _ h1 hn1 =>
                cases hn1 with
                | @cons x2 xr2 _ _ h2 hn2 =>
                  cases hn2
                  have at2 : atI [.str z, x1, x2] (2 : Int) = some x2 := atI_nat (j := 2) rfl
                  have hc : callForm d2 = true := (Bool.and_eq_true_iff.mp hf1).2
                  cases d2 with
                  | tuple ts =>
                    cases h2 with
                    | @tup b ys _ hb hys =>
                      exact iteT ⟨_, rfl, a, _, 2, _, rfl, rfl, hs2, at2, b, ys, rfl, .inr (same_sqT s2 (same_sqT (s0.trans s1) hb)), fun p2 np2 => fin ys _ (s1.trans s2) (by rw [ei]; exact hys) p2 np2⟩
                  | none => cases hc
                  | bool _ => cases hc
                  | int _ => cases hc
                  | str _ => cases hc
                  | list _ => cases hc
                  | dict _ => cases hc
            · rw [decide_eq_false z3]
              have ei : inner (.tuple (.str z :: rest)) = rest := (if_neg z1).trans (if_neg z3)
              refine iteF ⟨_, rfl, 1, rfl, a, _, rfl, hs2, ?_, fun p2 np2 => ?_⟩
              · intro h
                have h1 := h.1
                rw [show HT.sIx (V.str z :: xr).length 0 (some 1) = min 1 (V.str z :: xr).length from HT.sIx_nat _ 0 1, List.length_cons] at h1
                omega
              · have s3 := (s1.trans s2).trans (same_upd (o := .tup (cutV (V.str z :: xr) (some 1) none)) np2)
                refine ⟨p2, cutV (V.str z :: xr) (some 1) none, rfl, .inr (.inl (.inl upd_same)), fun p3 np3 => fin _ _ s3 ?_ p3 np3⟩
                rw [ei, cut1]
                exact hr0
end
def spNext (K : PySem.W.Frag) : Sp := fun vs H Q _ => ∃ (a : Addr) (xs : List V) (ds : List PyData) (n : Int) (H0 : Hp), vs = [.ref a] ∧ Same H0 H ∧ SqL K H a xs ∧ DpAll K H0 xs ds ∧ szDs ds = true ∧ ds.all (hasForm n) = true ∧ (ds.flatMap inner).length ≤ 10000 ∧ ds.length ≤ 10000 ∧
  ∀ p ys H', Same H H' → H p = none → H' p = some (.lst ys) → DpAll K H0 ys (ds.flatMap inner) → Q (.ref p) H'
theorem flat_take {ds : List PyData} {i : Nat} {d : PyData} (h : ds[i]? = some d) : (ds.take (i + 1)).flatMap inner = (ds.take i).flatMap inner ++ inner d := by
  rw [take_snoc h, List.flatMap_append]
  simp
theorem flat_take_len (ds : List PyData) (i : Nat) : ((ds.take i).flatMap inner).length ≤ (ds.flatMap inner).length := by
  have h : ds.flatMap inner = (ds.take i).flatMap inner ++ (ds.drop i).flatMap inner := by
    rw [← List.flatMap_append, List.take_append_drop]
  rw [h, List.length_append]
  omega
section
variable {P : Program} {w : World} {K : PySem.W.Frag} {mg : Str → Option Value} {base : Heap}
theorem ok_next {f fI : Addr} {fd dI : FuncData} (F : Fun K "_next_level" "_next_level" sNext f fd) (GI : FnOk P w K mg base CX0 3 fI dI ["term"] (spInner K)) (FI : Fun K "inner_terms" "inner_terms" sInner fI dI) (bI : Binds K dI ["term"] []) (gI : mg "inner_terms" = some (.ref fI)) :
    FnOk P w K mg base CX0 4 f fd ["level"] (spNext K) := by
  refine F.ok scNext (fun vs H Q E h => ?_) (fun cdv A outer s H vs Q E hr h => ?_)
  · obtain ⟨a, xs, ds, n, H0, rfl, _⟩ := h
    rfl
  · obtain ⟨a, xs, ds, n, H0, rfl, s0, hs, ha, hsz, hf, hlen, hlen2, q⟩ := h
    refine' ⟨_, pss_one (ps_ret ?e), ?r⟩
    case e =>
      refine' pe_lc2 (own := [("part", 1), ("inner", 2)]) (vs1 := [2]) (g := gName 1) (g1 := gName 2) (wi1 := iList K (tCall (spInner K) [] E0 (tCons (tVar 1) tNil))) (by rfl) scNext.nd (pi_list (pv 0)) (blkOk_by (own := [("part", 1), ("inner", 2)]) (N := ["level", "part", "inner"]) (sc := defScope sNext) (by decide +kernel)) (by decide)
        ?hg ?ht ?hi ?hg1 ?ht1 ?he
      case hg => exact fun _ _ _ _ _ => pg_name (i := 1) scNext.nd rfl (Or.inl rfl)
      case ht => exact fun _ _ _ _ _ => pts_nil
      case hi => exact fun _ _ _ _ _ => pi_list (pe_call GI hr (by rfl) gI FI.kp bI .nil pass0 (pa_cons (pv 1) pa_nil))
      case hg1 => exact fun _ _ _ _ _ => pg_name (i := 2) scNext.nd rfl (Or.inl rfl)
      case ht1 => exact fun _ _ _ _ _ => pts_nil
      case he => exact fun _ _ _ _ _ => pv 2
    have el : xs.length = ds.length := dpA_len ha
    refine ⟨_, rfl, a, rfl, ⟨_, hs⟩, fun D hD => ?_⟩
    refine walk_gen (walk_list (K := K) (a := a) (xs := xs)) (fun i H' => Same H H' ∧ ∃ acc, H' D = some (.lst acc) ∧ DpAll K H0 acc ((ds.take i).flatMap inner)) ⟨same_upd hD, [], upd_same, .nil⟩ (fun i H' _ p => p.1.seq hs) (fun i x H1 H2 hi p y => ?_) (fun H' p => ?_)
    · obtain ⟨s1, acc, e1, ac⟩ := p
      obtain ⟨rfl, hx⟩ := y
      obtain ⟨d, hd, dx⟩ := dpA_at ha hx
      have hfd : hasForm n d = true := List.all_eq_true.mp hf d (List.mem_of_getElem? hd)
      refine And.intro rfl ?_
      unfold tYes
      refine iteT ?_
      refine ⟨_, rfl, x, d, n, H0, rfl, s0.trans s1, dx, szDs_get hsz hd, hfd, fun p ys H3 s3 np e3 hys => ?_⟩
      have nDp : D ≠ p := ne_of_none e1 np
      refine ⟨p, rfl, ⟨ys, .inl (.inl e3)⟩, ?_⟩
      have ely : ys.length = (inner d).length := dpA_len hys
      have e13 : H3 D = some (.lst acc) := s3 _ _ e1
      refine walk_gen (walk_list (K := K) (a := p) (xs := ys)) (fun j H' => Same H H' ∧ H' p = some (.lst ys) ∧ H' D = some (.lst (acc ++ ys.take j))) ⟨s1.trans s3, e3, by rw [List.take_zero, List.append_nil]; exact e13⟩ (fun j H' _ p' => .inl (.inl p'.2.1)) (fun j z H4 H5 hj p4 y4 => ?_) (fun H' p' => ?_)
      · obtain ⟨s4, e4, f4⟩ := p4
        obtain ⟨rfl, hz⟩ := y4
        refine And.intro rfl ?_
        refine iteT ?_
        refine ⟨z, rfl, acc ++ ys.take j, f4, ?_, fun b o e => ?_, ?_, ?_⟩
        · rw [List.length_append, List.length_take, dpA_len ac]
          have h1 := flat_take_len ds (i + 1)
          rw [flat_take hd, List.length_append] at h1
          exact Nat.lt_of_le_of_lt (show _ ≤ 10000 by omega) (by decide)
        · rw [upd_ne (ne_of_none e hD)]
          exact s4 _ _ e
        · rw [upd_ne (fun e => nDp e.symm)]
          exact e4
        · rw [upd_same, take_snoc hz, List.append_assoc]
      · obtain ⟨s5, e5, f5⟩ := p'
        refine ⟨s5, acc ++ ys, ?_, ?_⟩
        · rw [f5, List.take_length]
        · rw [flat_take hd]
          exact dpA_app ac hys
    · obtain ⟨s1, acc, e1, ac⟩ := p
      rw [el, List.take_length] at ac
      exact q D acc H' s1 hD e1 ac
end
/-! ### is_term -/
abbrev sTerm : Stmt := topS 11
theorem scTerm : FnScope ["value", "arguments", "level", "deep", "many", "part"] ["value", "arguments"] (defScope sTerm) := ⟨rfl, rfl, rfl, by decide +kernel, rfl, by decide +kernel, by decide +kernel⟩
def goT (n : Int) : Nat → List PyData → Nat → Nat → Bool
  | 0, _, _, _ => false
  | _ + 1, [], _, _ => true
  | f + 1, d :: ds, deep, many => !decide (8 < deep + 1 ∨ 30 < many + (d :: ds).length) && ((d :: ds).all (hasForm n) && goT n f ((d :: ds).flatMap inner) (deep + 1) (many + (d :: ds).length))
def isTerm (n : Int) (d : PyData) : Bool := goT n 9 [d] 0 0
theorem goT_nil {n : Int} {f deep many : Nat} : goT n (f + 1) [] deep many = true := rfl
theorem goT_cons {n : Int} {f deep many : Nat} {ds : List PyData} (h : ds ≠ []) : goT n (f + 1) ds deep many = (!decide (8 < deep + 1 ∨ 30 < many + ds.length) && (ds.all (hasForm n) && goT n f (ds.flatMap inner) (deep + 1) (many + ds.length))) := by
  cases ds with
  | nil => exact absurd rfl h
  | cons d ds => rfl
theorem form_len {n : Int} {z : Str} {rest : List PyData} (h : formOf n z rest = true) : rest.length ≤ 3 ∧ (z = "call" → ∃ d1 ts, rest = [d1, .tuple ts] ∧ ts.length ≤ 2) := by
  unfold formOf at h
  by_cases z1 : z = "arg"
  · rw [if_pos z1] at h
    have hl : rest.length = 1 := by
      by_cases q : rest.length = 1
      · exact q
      · rw [on1_bad q] at h
        cases h
    refine ⟨by omega, fun q => ?_⟩
    rw [z1] at q
    exact absurd q (by decide +kernel)
  · rw [if_neg z1] at h
    by_cases z2 : z = "cell"
    · rw [if_pos z2] at h
      have hl : rest.length = 1 := by
        by_cases q : rest.length = 1
        · exact q
        · rw [on1_bad q] at h
          cases h
      refine ⟨by omega, fun q => ?_⟩
      rw [z2] at q
      exact absurd q (by decide +kernel)
    · rw [if_neg z2] at h
      by_cases z3 : z = "call"
      · rw [if_pos z3] at h
        have hl : rest.length = 2 := by
          by_cases q : rest.length = 2
          · exact q
          · rw [on2_bad q] at h
            cases h
        refine ⟨by omega, fun _ => ?_⟩
        obtain ⟨d1, d2, rfl⟩ := len2 hl
        have hc : callForm d2 = true := (Bool.and_eq_true_iff.mp h).2
        cases d2 with
        | tuple ts => exact ⟨d1, ts, rfl, by have := of_decide_eq_true hc; omega⟩
        | none => cases hc
        | bool _ => cases hc
        | int _ => cases hc
        | str _ => cases hc
        | list _ => cases hc
        | dict _ => cases hc
      · rw [if_neg z3] at h
        refine ⟨?_, fun q => absurd q z3⟩
        cases e : lenOf z with
        | none =>
          rw [e] at h
          cases h
        | some k =>
          rw [e] at h
          have h1 := of_decide_eq_true h
          have hk : k ≤ 4 := by
            unfold lenOf at e
            split at e
            · cases e
              decide
            · split at e
              · cases e
                decide
              · split at e
                · cases e
                  decide
                · split at e
                  · cases e
                    decide
                  · split at e
                    · cases e
                      decide
                    · cases e
          omega
theorem inner_len {n : Int} {d : PyData} (h : hasForm n d = true) : (inner d).length ≤ 3 := by
  cases hv : isValue d with
  | true =>
    have e : inner d = [] := by cases d <;> first | rfl | cases hv
    rw [e]
    exact Nat.zero_le _
  | false =>
    obtain ⟨z, rest, rfl, hf⟩ := form_str h hv
    have hl := form_len hf
    show (if z = "arg" ∨ z = "cell" then [] else if z = "call" then second rest else rest).length ≤ 3
    by_cases z1 : z = "arg" ∨ z = "cell"
    · rw [if_pos z1]
      exact Nat.zero_le _
    · rw [if_neg z1]
      by_cases z3 : z = "call"
      · rw [if_pos z3]
        obtain ⟨d1, ts, rfl, ht⟩ := hl.2 z3
        show ts.length ≤ 3
        omega
      · rw [if_neg z3]
        exact hl.1
theorem flat_len {n : Int} : ∀ {ds : List PyData}, ds.all (hasForm n) = true → (ds.flatMap inner).length ≤ 3 * ds.length
  | [], _ => Nat.le_refl _
  | d :: ds, h => by
    have h1 := Bool.and_eq_true_iff.mp h
    rw [List.flatMap_cons, List.length_append, List.length_cons]
    have := inner_len h1.1
    have := flat_len h1.2
    omega
theorem szDs_app : ∀ {a b : List PyData}, szDs (a ++ b) = (szDs a && szDs b)
  | [], _ => rfl
  | d :: a, b => by
    show (szD d && szDs (a ++ b)) = ((szD d && szDs a) && szDs b)
    rw [szDs_app, Bool.and_assoc]
theorem sz_inner {d : PyData} (h : szD d = true) : szDs (inner d) = true := by
  match d, h with
  | .none, _ => rfl
  | .bool _, _ => rfl
  | .int _, _ => rfl
  | .str _, _ => rfl
  | .list _, _ => rfl
  | .dict _, _ => rfl
  | .tuple [], _ => rfl
  | .tuple (.none :: _), _ => rfl
  | .tuple (.bool _ :: _), _ => rfl
  | .tuple (.int _ :: _), _ => rfl
  | .tuple (.list _ :: _), _ => rfl
  | .tuple (.tuple _ :: _), _ => rfl
  | .tuple (.dict _ :: _), _ => rfl
  | .tuple (.str z :: rest), h =>
    have hr : szDs rest = true := (Bool.and_eq_true_iff.mp (szD_tup h)).2
    show szDs (if z = "arg" ∨ z = "cell" then [] else if z = "call" then second rest else rest) = true
    by_cases z1 : z = "arg" ∨ z = "cell"
    · rw [if_pos z1]
      rfl
    · rw [if_neg z1]
      by_cases z3 : z = "call"
      · rw [if_pos z3]
        match rest, hr with
        | [_, .tuple ts], hr => exact szD_tup (szDs_get (i := 1) hr rfl)
        | [], _ => rfl
        | [_], _ => rfl
        | [_, .none], _ => rfl
        | [_, .bool _], _ => rfl
        | [_, .int _], _ => rfl
        | [_, .str _], _ => rfl
        | [_, .list _], _ => rfl
        | [_, .dict _], _ => rfl
        | _ :: b :: _ :: _, _ => cases b <;> rfl
      · rw [if_neg z3]
        exact hr
theorem sz_flat : ∀ {ds : List PyData}, szDs ds = true → szDs (ds.flatMap inner) = true
  | [], _ => rfl
  | d :: ds, h => by
    have h1 := Bool.and_eq_true_iff.mp h
    rw [List.flatMap_cons, szDs_app, sz_inner h1.1, sz_flat h1.2]
    rfl
theorem all_rangeD (l : List PyData) (g : PyData → Bool) : ((List.range l.length).map fun i => g (l.getD i .none)).all id = l.all g := by
  have e : (List.range l.length).map (fun i => g (l.getD i .none)) = l.map g := by
    apply List.ext_getElem?
    intro i
    rw [List.getElem?_map, List.getElem?_map]
    by_cases hi : i < l.length
    · rw [List.getElem?_range hi, List.getElem?_eq_getElem hi]
      show some (g (l.getD i .none)) = some (g l[i])
      rw [List.getD_eq_getElem?_getD, List.getElem?_eq_getElem hi]
      rfl
    · rw [List.getElem?_eq_none (by simpa using hi), List.getElem?_eq_none (by simpa using hi)]
      rfl
  rw [e, List.all_map]
  rfl
section
variable {P : Program} {w : World} {K : PySem.W.Frag} {mg : Str → Option Value} {base : Heap}
theorem ok_term {f fH fX : Addr} {fd dH dX : FuncData} (F : Fun K "is_term" "is_term" sTerm f fd) (M : Blt mg) (T : TermsTxt K w mg)
    (GH : FnOk P w K mg base CX0 3 fH dH ["part", "arguments"] (spBn K hasForm)) (FH : Fun K "_has_form" "_has_form" sHas fH dH) (bH : Binds K dH ["part", "arguments"] []) (gH : mg "_has_form" = some (.ref fH))
    (GX : FnOk P w K mg base CX0 4 fX dX ["level"] (spNext K)) (FX : Fun K "_next_level" "_next_level" sNext fX dX) (bX : Binds K dX ["level"] []) (gX : mg "_next_level" = some (.ref fX)) :
    FnOk P w K mg base CX0 5 f fd ["value", "arguments"] (spBn K isTerm) := by
  obtain ⟨tD, gD⟩ := T.deep
  obtain ⟨tP, gP⟩ := T.parts
  refine F.ok scTerm (fun vs H Q E h => ?_) (fun cdv A outer s H vs Q E hr h => ?_)
  · obtain ⟨v, d, n, rfl, _⟩ := h
    rfl
  · obtain ⟨v, d, n, rfl, hv, hsz, q⟩ := h
    have hr3 : Room 3 _ := hr.mono (by decide)
    refine ⟨_, pss_cons (ps_set (i := 2) scTerm.nd rfl (.inl rfl) (pe_lst (pa_cons (pv 0) pa_nil)))
      (pss_cons (ps_set (i := 3) scTerm.nd rfl (.inl rfl) pe_int)
      (pss_cons (ps_set (i := 4) scTerm.nd rfl (.inl rfl) pe_int)
      (pss_cons (ps_while PassesOwn.never (pt_truth (pv 2) (by intro _; rfl))
        (pss_cons (ps_aug (i := 3) scTerm.nd rfl (.inl rfl) pe_int ip_add)
        (pss_cons (ps_aug (i := 4) scTerm.nd rfl (.inl rfl) (pe_callB call_len_seq (by rfl) M.len PySem.boot_len (pa_cons (pv 2) pa_nil)) ip_add)
        (pss_cons (ps_if (PW.pt (pw_or (pt_cmpR op_gt (pv 3) (pe_glob (v := .int 8) (by rfl) gD ⟨_, rfl⟩) (nomark _)) (pw_or1 (pt_cmpR op_gt (pv 4) (pe_glob (v := .int 30) (by rfl) gP ⟨_, rfl⟩) (nomark _))))) (pss_one (ps_ret pe_bl)) pss_nil)
        (pss_cons (ps_if (pt_not (pt_val (pe_callB (cr_all rfl) (by rfl) M.all (by decide +kernel) (pa_cons
            (pe_lc (own := [("part", 5)]) (g := gName 5) (te := tCall (spBn K hasForm) [] E0 (tCons (tVar 5) (tCons (tVar 1) tNil))) (by rfl) scTerm.nd (pi_list (pv 2)) (blkOk_by (own := [("part", 5)]) (N := ["value", "arguments", "level", "deep", "many", "part"]) (sc := defScope sTerm) (by decide +kernel))
              (fun _ _ _ _ _ => pg_name (i := 5) scTerm.nd rfl (Or.inl rfl)) (fun _ _ _ _ _ => pts_nil) (fun _ _ _ _ _ => pe_call GH hr3 (by rfl) gH FH.kp bH .nil pass0 (pa_cons (pv 5) (pa_cons (pv 1) pa_nil)))) pa_nil)))) (pss_one (ps_ret pe_bl)) pss_nil)
        (pss_one (ps_set (i := 2) scTerm.nd rfl (.inl rfl) (pe_call GX hr (by rfl) gX FX.kp bX .nil pass0 (pa_cons (pv 2) pa_nil)))))))))
      (pss_one (ps_ret pe_bl))))), ?_⟩
    have fin : ∀ (b : Bool) H1, Same H H1 → isTerm n d = b → Q (.bl b) H1 := fun b H1 s1 e => by
      rw [← e]
      exact q H1 s1
    refine ⟨v, rfl, (by show 1 ≤ sizeLine; decide), fun a0 na0 => ?_⟩
    refine q_c (σ := [some v, some (.int n), some (.ref a0), none, none, none]) (i := 3) (v := .int 0) ?_
    refine q_c (i := 4) (v := .int 0) ?_
    dsimp only [List.set]
    refine q_w ?_
    refine while_by (fun σ H' => ∃ (a : Addr) (xs : List V) (lv : List PyData) (k m : Nat) (y : Option V), σ = [some v, some (.int n), some (.ref a), some (.int k), some (.int m), y] ∧ Same H H' ∧ H' a = some (.lst xs) ∧ DpAll K H xs lv ∧ szDs lv = true ∧ k ≤ 8 ∧ lv.length ≤ 3000 ∧ goT n (9 - k) lv k m = isTerm n d)
      (fun σ _ => match σ with | [_, _, _, some (.int k), _, _] => 9 - k.toNat | _ => 0)
      ⟨a0, [v], [d], 0, 0, none, rfl, same_upd na0, upd_same, .cons hv .nil, (by show (szD d && true) = true; rw [hsz]; rfl), by omega, (by show 1 ≤ 3000; decide), rfl⟩ (fun σ H' hW => ?_) (fun σ H' Q1 Q2 hq ⟨x, e, k, t, q⟩ => ⟨x, e, k, t, hq _ _ q⟩)
    obtain ⟨a, xs, lv, k, m, y, rfl, s1, ea, ha, hz, hk, hln, hg⟩ := hW
    have el : xs.length = lv.length := dpA_len ha
    have hS : SqL K H' a xs := .inl (.inl ea)
    refine ⟨.ref a, rfl, _, .inl ⟨xs, hS, rfl⟩, ?_⟩
    cases lv with
    | nil =>
      have ex : xs = [] := List.eq_nil_of_length_eq_zero el
      subst ex
      refine iteF (fin true H' s1 ?_)
      rw [← hg, show 9 - k = (8 - k) + 1 by omega]
      rfl
    | cons d0 ds =>
      have ex : (!xs.isEmpty) = true := by
        cases xs with
        | nil => cases el
        | cons _ _ => rfl
      rw [ex]
      generalize hlv : d0 :: ds = lv at *
      have hne : lv ≠ [] := by
        rw [← hlv]
        exact List.cons_ne_nil _ _
      rw [show 9 - k = (8 - k) + 1 by omega, goT_cons hne] at hg
      refine iteT ⟨_, rfl, _, _, rfl, rfl, ?_⟩
      refine ⟨_, rfl, _, rfl, a, xs, rfl, .inl hS, _, _, rfl, rfl, ?_⟩
      refine ⟨_, rfl, _, _, rfl, rfl, _, rfl, ?_⟩
      have c1 : decide ((8 : Int) < (k : Int) + 1) = decide (8 < k + 1) := by
        by_cases h : 8 < k + 1
        · rw [decide_eq_true h, decide_eq_true (by omega)]
        · rw [decide_eq_false h, decide_eq_false (by omega)]
      have c2 : decide ((30 : Int) < (m : Int) + (xs.length : Int)) = decide (30 < m + lv.length) := by
        by_cases h : 30 < m + lv.length
        · rw [decide_eq_true h, decide_eq_true (by omega)]
        · rw [decide_eq_false h, decide_eq_false (by omega)]
      rw [c1]
      by_cases h1 : 8 < k + 1
      · rw [decide_eq_true h1]
        refine iteT (iteT (fin false H' s1 ?_))
        rw [← hg, decide_eq_true (.inl h1)]
        rfl
      · rw [decide_eq_false h1]
        refine iteF ⟨_, rfl, _, _, rfl, rfl, _, rfl, ?_⟩
        rw [c2]
        by_cases h2 : 30 < m + lv.length
        · rw [decide_eq_true h2]
          refine iteT (fin false H' s1 ?_)
          rw [← hg, decide_eq_true (.inr h2)]
          rfl
        · rw [decide_eq_false h2]
          rw [decide_eq_false (show ¬ (8 < k + 1 ∨ 30 < m + lv.length) from fun q => q.elim h1 h2)] at hg
          refine iteF ⟨_, rfl, a, rfl, ⟨_, hS⟩, fun D hD => ?_⟩
          refine lc_vals (vs := [5]) (j := 5) (walk_list (K := K) (a := a) (xs := xs)) (fun i => .bl (hasForm n (lv.getD i .none))) (by omega) hD (fun x => rfl) (fun H2 s2 => s2.seq hS) (fun i x H2 H3 hi s2 y2 => ?_) (fun H2 s2 e2 => ?_)
          · obtain ⟨rfl, hx⟩ := y2
            obtain ⟨di, hdi, dx⟩ := dpA_at ha hx
            refine ⟨Same.refl _, fun Q2 q2 => ?_⟩
            refine ⟨x, rfl, _, rfl, x, di, n, rfl, dp_same (s1.trans s2) dx, szDs_get hz hdi, fun H4 s4 => ?_⟩
            have e4 := q2 H4 s4
            rw [List.getD_eq_getElem?_getD, hdi] at e4
            exact e4
          · have eb : ((List.range xs.length).map fun i => hasForm n (lv.getD i .none)).all id = lv.all (hasForm n) := by
              rw [el]
              exact all_rangeD lv (hasForm n)
            refine ⟨D, (List.range xs.length).map (fun i => hasForm n (lv.getD i .none)), rfl, .inl (.inl ?_), ?_⟩
            · rw [e2, List.map_map]
              rfl
            · refine ⟨_, rfl, ?_⟩
              rw [eb]
              cases hb : lv.all (hasForm n) with
              | false =>
                refine iteT (fin false H2 (s1.trans s2) ?_)
                rw [← hg, hb]
                rfl
              | true =>
                rw [hb] at hg
                refine iteF ⟨_, rfl, a, xs, lv, n, H, rfl, s1.trans s2, s2.seq hS, ha, hz, hb, ?_, by omega, fun p ys H5 s5 np e5 hys => ?_⟩
                · have := flat_len hb
                  omega
                · have hfl := flat_len hb
                  refine ⟨⟨p, ys, lv.flatMap inner, k + 1, m + lv.length, y, ?_, (s1.trans s2).trans s5, e5, hys, sz_flat hz, by omega, by omega, ?_⟩, ?_⟩
                  · show [some v, some (V.int n), some (V.ref p), some (V.int ((k : Int) + 1)), some (V.int ((m : Int) + (xs.length : Int))), y] = _
                    rw [el]
                    rfl
                  · rw [show 9 - (k + 1) = 8 - k by omega]
                    exact hg
                  · show 9 - ((k : Int) + 1).toNat < 9 - (k : Int).toNat
                    omega
end
/-! ### how great a term is -/
abbrev sParts : Stmt := topS 16
abbrev sSize : Stmt := topS 18
abbrev sDepth : Stmt := topS 19
theorem scParts : FnScope ["term", "parts", "level"] ["term"] (defScope sParts) := ⟨rfl, rfl, rfl, by decide +kernel, rfl, by decide +kernel, by decide +kernel⟩
theorem scSize : FnScope ["term"] ["term"] (defScope sSize) := ⟨rfl, rfl, rfl, by decide +kernel, rfl, by decide +kernel, by decide +kernel⟩
theorem scDepth : FnScope ["term", "deep", "level"] ["term"] (defScope sDepth) := ⟨rfl, rfl, rfl, by decide +kernel, rfl, by decide +kernel, by decide +kernel⟩
/-- all levels one behind the other -/
def flatGo : Nat → List PyData → List PyData
  | 0, _ => []
  | f + 1, lv => lv ++ flatGo f (lv.flatMap inner)
def deepGo : Nat → List PyData → Nat
  | 0, _ => 0
  | _ + 1, [] => 0
  | f + 1, d :: ds => 1 + deepGo f ((d :: ds).flatMap inner)
def partsD (d : PyData) : List PyData := flatGo 9 [d]
def depthD (d : PyData) : Nat := deepGo 9 [d]
theorem flatGo_nil : ∀ f, flatGo f [] = []
  | 0 => rfl
  | f + 1 => by
    show [] ++ flatGo f [] = []
    rw [flatGo_nil f]
    rfl
/-- what stands of a term that is one -/
theorem goT_true {n : Int} {f deep many : Nat} {lv : List PyData} (hne : lv ≠ []) (h : goT n f lv deep many = true) : ∃ g, f = g + 1 ∧ lv.all (hasForm n) = true ∧ many + lv.length ≤ 30 ∧ goT n g (lv.flatMap inner) (deep + 1) (many + lv.length) = true := by
  cases f with
  | zero => cases h
  | succ g =>
    rw [goT_cons hne] at h
    have h1 := Bool.and_eq_true_iff.mp h
    have h2 := Bool.and_eq_true_iff.mp h1.2
    refine ⟨g, rfl, h2.1, ?_, h2.2⟩
    have h3 : ¬ (8 < deep + 1 ∨ 30 < many + lv.length) := of_decide_eq_false (by simpa using h1.1)
    omega
def spParts (K : PySem.W.Frag) : Sp := fun vs H Q _ => ∃ (v : V) (d : PyData) (n : Int), vs = [v] ∧ Dp K H v d ∧ szD d = true ∧ isTerm n d = true ∧
  ∀ p xs H', Same H H' → H p = none → H' p = some (.lst xs) → DpAll K H xs (partsD d) → xs.length ≤ 30 → Q (.ref p) H'
/-- a number told of a term -/
def spNum (K : PySem.W.Frag) (g : PyData → Int) : Sp := fun vs H Q _ => ∃ (v : V) (d : PyData) (n : Int), vs = [v] ∧ Dp K H v d ∧ szD d = true ∧ isTerm n d = true ∧ ∀ H', Same H H' → Q (.int (g d)) H'
section
variable {P : Program} {w : World} {K : PySem.W.Frag} {mg : Str → Option Value} {base : Heap}
theorem ok_parts {f fX : Addr} {fd dX : FuncData} (F : Fun K "all_parts" "all_parts" sParts f fd)
    (GX : FnOk P w K mg base CX0 4 fX dX ["level"] (spNext K)) (FX : Fun K "_next_level" "_next_level" sNext fX dX) (bX : Binds K dX ["level"] []) (gX : mg "_next_level" = some (.ref fX)) :
    FnOk P w K mg base CX0 5 f fd ["term"] (spParts K) := by
  refine F.ok scParts (fun vs H Q E h => ?_) (fun cdv A outer s H vs Q E hr h => ?_)
  · obtain ⟨v, d, n, rfl, _⟩ := h
    rfl
  · obtain ⟨v, d, n, rfl, hv, hsz, ht, q⟩ := h
    refine ⟨_, pss_cons (ps_set (i := 1) scParts.nd rfl (.inl rfl) (pe_lst pa_nil))
      (pss_cons (ps_set (i := 2) scParts.nd rfl (.inl rfl) (pe_lst (pa_cons (pv 0) pa_nil)))
      (pss_cons (ps_while PassesOwn.never (pt_truth (pv 2) (by intro _; rfl))
        (pss_cons (ps_expr (pe_bm PySem.F.plainAttrs_list PySem.F.slot_list_extend PySem.F.type_list_extend mt_extend (pv 1) (pa_cons (pv 2) pa_nil)))
        (pss_one (ps_set (i := 2) scParts.nd rfl (.inl rfl) (pe_call GX hr (by rfl) gX FX.kp bX .nil pass0 (pa_cons (pv 2) pa_nil))))))
      (pss_one (ps_ret (pv 1))))), ?_⟩
    refine ⟨Nat.zero_le _, fun o no => ?_⟩
    refine ⟨v, rfl, (by show 1 ≤ sizeLine; decide), fun a0 na0 => ?_⟩
    have noa : o ≠ a0 := fun e => by
      rw [← e, upd_same] at na0
      cases na0
    dsimp only [gName]
    refine q_w (σ := [some v, some (.ref o), some (.ref a0)]) ?_
    refine wh_by (fun f σ H' => ∃ (a : Addr) (xs acc : List V) (lv pre : List PyData) (deep : Nat), σ = [some v, some (.ref o), some (.ref a)] ∧ a ≠ o ∧ Same H H' ∧ H' a = some (.lst xs) ∧ H' o = some (.lst acc) ∧ DpAll K H xs lv ∧ DpAll K H acc pre ∧ pre.length ≤ 30 ∧ szDs lv = true ∧ lv.length ≤ 3000 ∧ (lv = [] ∨ goT n f lv deep pre.length = true) ∧ pre ++ flatGo f lv = partsD d)
      9 ⟨a0, [v], [], [d], [], 0, rfl, noa.symm, (same_upd no).trans (same_upd na0), upd_same, by rw [upd_ne noa]; exact upd_same, .cons hv .nil, .nil, by decide, (by show (szD d && true) = true; rw [hsz]; rfl), (by show 1 ≤ 3000; decide), .inr ht, rfl⟩ (fun f σ H' hW => ?_) (fun σ H' Q1 Q2 hq ⟨x, e, k, t, q⟩ => ⟨x, e, k, t, hq _ _ q⟩)
    obtain ⟨a, xs, acc, lv, pre, deep, rfl, nao, s1, ea, eo, ha, hp, hpl, hz, hln, hg, hfl⟩ := hW
    have el : xs.length = lv.length := dpA_len ha
    have elp : acc.length = pre.length := dpA_len hp
    have hS : SqL K H' a xs := .inl (.inl ea)
    refine ⟨.ref a, rfl, _, .inl ⟨xs, hS, rfl⟩, ?_⟩
    by_cases hne : lv = []
    · have ex : xs = [] := List.eq_nil_of_length_eq_zero (by rw [el, hne]; rfl)
      subst ex
      refine iteF ⟨.ref o, rfl, q o acc H' s1 no eo ?_ (by omega)⟩
      rw [← hfl, hne, flatGo_nil, List.append_nil]
      exact hp
    · have ex : (!xs.isEmpty) = true := by
        cases xs with
        | nil => exact absurd (List.eq_nil_of_length_eq_zero el.symm) hne
        | cons _ _ => rfl
      rw [ex]
      obtain ⟨g, rfl, hb, hm, hg2⟩ := goT_true hne (hg.resolve_left hne)
      have hfl2 := flat_len hb
      refine iteT ⟨.ref o, rfl, .inl ⟨rfl, _, .inl (.inl eo)⟩, .ref a, rfl, o, a, acc, xs, rfl, rfl, eo, ea, ?_, ?_⟩
      · rw [elp, el]
        exact Nat.le_trans (show pre.length + lv.length ≤ 60 by omega) (by decide)
      · have s2 : Same H (upd H' o (.lst (acc ++ xs))) := fun b u e => by
          rw [upd_ne (ne_of_none e no)]
          exact s1 _ _ e
        have ea2 : (upd H' o (.lst (acc ++ xs))) a = some (.lst xs) := by
          rw [upd_ne nao]
          exact ea
        refine ⟨.ref a, rfl, a, xs, lv, n, H, rfl, s2, .inl (.inl ea2), ha, hz, hb, by omega, by omega, fun p ys H5 s5 np e5 hys => ?_⟩
        have npo : p ≠ o := fun e => by
          rw [e, upd_same] at np
          cases np
        refine ⟨g, Nat.lt_succ_self _, p, ys, acc ++ xs, lv.flatMap inner, pre ++ lv, deep + 1, rfl, npo, s2.trans s5, e5, s5 _ _ upd_same, hys, dpA_app hp ha, ?_, sz_flat hz, by omega, .inr ?_, ?_⟩
        · rw [List.length_append]
          exact hm
        · rw [List.length_append]
          exact hg2
        · rw [← hfl, List.append_assoc]
          rfl
theorem ok_size {f fX : Addr} {fd dX : FuncData} (F : Fun K "term_size" "term_size" sSize f fd) (M : Blt mg)
    (GX : FnOk P w K mg base CX0 5 fX dX ["term"] (spParts K)) (FX : Fun K "all_parts" "all_parts" sParts fX dX) (bX : Binds K dX ["term"] []) (gX : mg "all_parts" = some (.ref fX)) :
    FnOk P w K mg base CX0 6 f fd ["term"] (spNum K fun d => ((partsD d).length : Int)) := by
  refine F.ok scSize (fun vs H Q E h => ?_) (fun cdv A outer s H vs Q E hr h => ?_)
  · obtain ⟨v, d, n, rfl, _⟩ := h
    rfl
  · obtain ⟨v, d, n, rfl, hv, hsz, ht, q⟩ := h
    refine ⟨_, pss_one (ps_ret (pe_callB call_len_seq (by rfl) M.len PySem.boot_len (pa_cons (pe_call GX hr (by rfl) gX FX.kp bX .nil pass0 (pa_cons (pv 0) pa_nil)) pa_nil))), ?_⟩
    refine ⟨v, rfl, v, d, n, rfl, hv, hsz, ht, fun p xs H' s1 np e1 hxs _ => ⟨p, xs, rfl, .inl (.inl (.inl e1)), ?_⟩⟩
    have e := q H' s1
    rw [dpA_len hxs]
    exact e
theorem deepGo_nil : ∀ f, deepGo f [] = 0
  | 0 => rfl
  | _ + 1 => rfl
theorem deepGo_cons {f : Nat} {lv : List PyData} (h : lv ≠ []) : deepGo (f + 1) lv = 1 + deepGo f (lv.flatMap inner) := by
  cases lv with
  | nil => exact absurd rfl h
  | cons d ds => rfl
theorem ok_depth {f fX : Addr} {fd dX : FuncData} (F : Fun K "term_depth" "term_depth" sDepth f fd)
    (GX : FnOk P w K mg base CX0 4 fX dX ["level"] (spNext K)) (FX : Fun K "_next_level" "_next_level" sNext fX dX) (bX : Binds K dX ["level"] []) (gX : mg "_next_level" = some (.ref fX)) :
    FnOk P w K mg base CX0 5 f fd ["term"] (spNum K fun d => (depthD d : Int)) := by
  refine F.ok scDepth (fun vs H Q E h => ?_) (fun cdv A outer s H vs Q E hr h => ?_)
  · obtain ⟨v, d, n, rfl, _⟩ := h
    rfl
  · obtain ⟨v, d, n, rfl, hv, hsz, ht, q⟩ := h
    refine ⟨_, pss_cons (ps_set (i := 1) scDepth.nd rfl (.inl rfl) pe_int)
      (pss_cons (ps_set (i := 2) scDepth.nd rfl (.inl rfl) (pe_lst (pa_cons (pv 0) pa_nil)))
      (pss_cons (ps_while PassesOwn.never (pt_truth (pv 2) (by intro _; rfl))
        (pss_cons (ps_aug (i := 1) scDepth.nd rfl (.inl rfl) pe_int ip_add)
        (pss_one (ps_set (i := 2) scDepth.nd rfl (.inl rfl) (pe_call GX hr (by rfl) gX FX.kp bX .nil pass0 (pa_cons (pv 2) pa_nil))))))
      (pss_one (ps_ret (pv 1))))), ?_⟩
    refine ⟨v, rfl, (by show 1 ≤ sizeLine; decide), fun a0 na0 => ?_⟩
    dsimp only [gName]
    refine q_w (σ := [some v, some (.int 0), some (.ref a0)]) ?_
    refine wh_by (fun f σ H' => ∃ (a : Addr) (xs : List V) (lv : List PyData) (k deep many : Nat), σ = [some v, some (.int k), some (.ref a)] ∧ Same H H' ∧ H' a = some (.lst xs) ∧ DpAll K H xs lv ∧ szDs lv = true ∧ lv.length ≤ 3000 ∧ (lv = [] ∨ goT n f lv deep many = true) ∧ k + deepGo f lv = depthD d)
      9 ⟨a0, [v], [d], 0, 0, 0, rfl, same_upd na0, upd_same, .cons hv .nil, (by show (szD d && true) = true; rw [hsz]; rfl), (by show 1 ≤ 3000; decide), .inr ht, Nat.zero_add _⟩ (fun f σ H' hW => ?_) (fun σ H' Q1 Q2 hq ⟨x, e, k, t, q⟩ => ⟨x, e, k, t, hq _ _ q⟩)
    obtain ⟨a, xs, lv, k, deep, many, rfl, s1, ea, ha, hz, hln, hg, hfl⟩ := hW
    have el : xs.length = lv.length := dpA_len ha
    have hS : SqL K H' a xs := .inl (.inl ea)
    refine ⟨.ref a, rfl, _, .inl ⟨xs, hS, rfl⟩, ?_⟩
    by_cases hne : lv = []
    · have ex : xs = [] := List.eq_nil_of_length_eq_zero (by rw [el, hne]; rfl)
      subst ex
      refine iteF ⟨_, rfl, ?_⟩
      have e : Q (.int ((depthD d : Nat) : Int)) H' := q H' s1
      rw [← hfl, hne, deepGo_nil] at e
      exact e
    · have ex : (!xs.isEmpty) = true := by
        cases xs with
        | nil => exact absurd (List.eq_nil_of_length_eq_zero el.symm) hne
        | cons _ _ => rfl
      rw [ex]
      obtain ⟨g, rfl, hb, hm, hg2⟩ := goT_true hne (hg.resolve_left hne)
      have hfl2 := flat_len hb
      refine iteT ⟨_, rfl, _, _, rfl, rfl, ?_⟩
      refine ⟨.ref a, rfl, a, xs, lv, n, H, rfl, s1, hS, ha, hz, hb, by omega, by omega, fun p ys H5 s5 np e5 hys => ?_⟩
      refine ⟨g, Nat.lt_succ_self _, p, ys, lv.flatMap inner, k + 1, deep + 1, many + lv.length, rfl, s1.trans s5, e5, hys, sz_flat hz, by omega, .inr hg2, ?_⟩
      rw [← hfl, deepGo_cons hne]
      omega
end
/-! ### levels and what stands within -/
def szF : Nat → PyData → Nat
  | 0, _ => 0
  | f + 1, d => 1 + ((inner d).map (szF f)).sum
def dpF : Nat → PyData → Nat
  | 0, _ => 0
  | f + 1, d => 1 + ((inner d).map (dpF f)).foldr max 0
def fmF (n : Int) : Nat → PyData → Bool
  | 0, _ => true
  | f + 1, d => hasForm n d && (inner d).all (fmF n f)
def sums (g : PyData → Nat) (l : List PyData) : Nat := (l.map g).sum
def most (g : PyData → Nat) (l : List PyData) : Nat := (l.map g).foldr max 0
theorem sums_app {g : PyData → Nat} {a b : List PyData} : sums g (a ++ b) = sums g a + sums g b := by
  unfold sums
  rw [List.map_append, List.sum_append]
theorem most_app {g : PyData → Nat} : ∀ {a b : List PyData}, most g (a ++ b) = max (most g a) (most g b)
  | [], b => by
    show most g b = max 0 (most g b)
    omega
  | d :: a, b => by
    show max (g d) (most g (a ++ b)) = max (max (g d) (most g a)) (most g b)
    rw [most_app]
    omega
theorem sums_flat {f : Nat} : ∀ {l : List PyData}, sums (szF (f + 1)) l = l.length + sums (szF f) (l.flatMap inner)
  | [] => rfl
  | d :: l => by
    rw [List.flatMap_cons, sums_app]
    show (1 + sums (szF f) (inner d)) + sums (szF (f + 1)) l = (l.length + 1) + _
    rw [sums_flat]
    omega
theorem most_flat {f : Nat} : ∀ {l : List PyData}, l ≠ [] → most (dpF (f + 1)) l = 1 + most (dpF f) (l.flatMap inner)
  | [], h => absurd rfl h
  | [d], _ => by
    rw [List.flatMap_cons, List.flatMap_nil, List.append_nil]
    show max (1 + most (dpF f) (inner d)) 0 = _
    omega
  | d :: e :: l, _ => by
    rw [List.flatMap_cons, most_app]
    have h := most_flat (f := f) (l := e :: l) (List.cons_ne_nil _ _)
    show max (1 + most (dpF f) (inner d)) (most (dpF (f + 1)) (e :: l)) = _
    rw [h]
    omega
theorem all_flat {n : Int} {f : Nat} : ∀ {l : List PyData}, l.all (fmF n (f + 1)) = (l.all (hasForm n) && (l.flatMap inner).all (fmF n f))
  | [] => rfl
  | d :: l => by
    rw [List.flatMap_cons, List.all_append, List.all_cons, List.all_cons, all_flat]
    show ((hasForm n d && (inner d).all (fmF n f)) && (l.all (hasForm n) && (l.flatMap inner).all (fmF n f))) = _
    cases hasForm n d <;> cases (inner d).all (fmF n f) <;> cases l.all (hasForm n) <;> cases (l.flatMap inner).all (fmF n f) <;> rfl
theorem goT_is {n : Int} : ∀ (f : Nat) (lv : List PyData) (deep many : Nat), f + deep = 9 → 1 ≤ f → many ≤ 30 → goT n f lv deep many = (lv.all (fmF n f) && (decide (many + sums (szF f) lv ≤ 30) && decide (deep + most (dpF f) lv ≤ 8)))
  | 0, _, _, _, _, h, _ => absurd h (by decide)
  | f + 1, [], deep, many, hf, _, hm => by
    show true = (true && (decide (many + 0 ≤ 30) && decide (deep + 0 ≤ 8)))
    rw [decide_eq_true (show many + 0 ≤ 30 by omega), decide_eq_true (show deep + 0 ≤ 8 by omega)]
    rfl
  | f + 1, d :: ds, deep, many, hf, _, hm => by
    have hne : d :: ds ≠ [] := List.cons_ne_nil _ _
    generalize d :: ds = lv at hne
    rw [goT_cons hne, all_flat, sums_flat, most_flat hne]
    by_cases h1 : 8 < deep + 1 ∨ 30 < many + lv.length
    · rw [decide_eq_true h1]
      have h2 : (decide (many + (lv.length + sums (szF f) (lv.flatMap inner)) ≤ 30) && decide (deep + (1 + most (dpF f) (lv.flatMap inner)) ≤ 8)) = false := by
        rcases h1 with h1 | h1
        · rw [decide_eq_false (show ¬ deep + (1 + most (dpF f) (lv.flatMap inner)) ≤ 8 by omega), Bool.and_false]
        · rw [decide_eq_false (show ¬ many + (lv.length + sums (szF f) (lv.flatMap inner)) ≤ 30 by omega)]
          rfl
      rw [h2, Bool.and_false]
      rfl
    · rw [decide_eq_false h1]
      rw [goT_is f _ (deep + 1) (many + lv.length) (by omega) (by omega) (by omega)]
      have e1 : decide (many + lv.length + sums (szF f) (lv.flatMap inner) ≤ 30) = decide (many + (lv.length + sums (szF f) (lv.flatMap inner)) ≤ 30) := by
        rw [Nat.add_assoc]
      have e2 : decide (deep + 1 + most (dpF f) (lv.flatMap inner) ≤ 8) = decide (deep + (1 + most (dpF f) (lv.flatMap inner)) ≤ 8) := by
        rw [Nat.add_assoc]
      rw [e1, e2]
      cases lv.all (hasForm n) <;> cases (lv.flatMap inner).all (fmF n f) <;> rfl
theorem isTerm_is (n : Int) (d : PyData) : isTerm n d = (fmF n 9 d && (decide (szF 9 d ≤ 30) && decide (dpF 9 d ≤ 8))) := by
  unfold isTerm
  rw [goT_is 9 [d] 0 0 rfl (by decide) (by decide)]
  have e1 : sums (szF 9) [d] = szF 9 d := by
    show szF 9 d + 0 = _
    omega
  have e2 : most (dpF 9) [d] = dpF 9 d := by
    show max (dpF 9 d) 0 = _
    omega
  rw [e1, e2, Nat.zero_add, Nat.zero_add]
  show ((fmF n 9 d && true) && _) = _
  rw [Bool.and_true]
theorem flatGo_len : ∀ (f : Nat) (lv : List PyData), (flatGo f lv).length = sums (szF f) lv
  | 0, lv => by
    show 0 = sums (fun _ => 0) lv
    unfold sums
    induction lv with
    | nil => rfl
    | cons d l ih => rw [List.map_cons, List.sum_cons, ← ih]
  | f + 1, lv => by
    show (lv ++ flatGo f (lv.flatMap inner)).length = _
    rw [List.length_append, flatGo_len f, sums_flat]
theorem deepGo_is : ∀ (f : Nat) (lv : List PyData), deepGo f lv = most (dpF f) lv
  | 0, lv => by
    show 0 = most (fun _ => 0) lv
    induction lv with
    | nil => rfl
    | cons d l ih =>
      show 0 = max 0 (most _ l)
      rw [← ih]
      rfl
  | _ + 1, [] => rfl
  | f + 1, d :: ds => by
    rw [deepGo_cons (List.cons_ne_nil _ _), most_flat (List.cons_ne_nil _ _), deepGo_is f]
theorem partsD_len (d : PyData) : (partsD d).length = szF 9 d := by
  unfold partsD
  rw [flatGo_len]
  show szF 9 d + 0 = _
  omega
theorem depthD_is (d : PyData) : depthD d = dpF 9 d := by
  unfold depthD
  rw [deepGo_is]
  show max (dpF 9 d) 0 = _
  omega
/-! ### chains and trees -/
/-- a word with two terms -/
def bin (h : Str) : Prop := h = "plus" ∨ h = "less" ∨ h = "same"
theorem bin_form {h : Str} (hb : bin h) (n : Int) (a b : PyData) : hasForm n (.tuple [.str h, a, b]) = true := by
  rcases hb with rfl | rfl | rfl <;> rfl
theorem bin_inner {h : Str} (hb : bin h) (a b : PyData) : inner (.tuple [.str h, a, b]) = [a, b] := by
  rcases hb with rfl | rfl | rfl <;> rfl
theorem bin_sz {h : Str} (hb : bin h) {a b : PyData} (ha : szD a = true) (hbb : szD b = true) : szD (.tuple [.str h, a, b]) = true := by
  have e : szD (.str h) = true := by rcases hb with rfl | rfl | rfl <;> decide +kernel
  show (decide (3 ≤ 1000) && (szD (.str h) && (szD a && (szD b && true)))) = true
  rw [e, ha, hbb]
  rfl
theorem bin_noL {h : Str} {a b : PyData} (ha : noL a = true) (hbb : noL b = true) : noL (.tuple [.str h, a, b]) = true := by
  show (true && (noL a && (noL b && true))) = true
  rw [ha, hbb]
  rfl
theorem bin_szF {h : Str} (hb : bin h) (a b : PyData) (f : Nat) : szF (f + 1) (.tuple [.str h, a, b]) = 1 + szF f a + szF f b := by
  show 1 + ((inner (.tuple [.str h, a, b])).map (szF f)).sum = _
  rw [bin_inner hb]
  show 1 + (szF f a + (szF f b + 0)) = _
  omega
theorem bin_dpF {h : Str} (hb : bin h) (a b : PyData) (f : Nat) : dpF (f + 1) (.tuple [.str h, a, b]) = 1 + max (dpF f a) (dpF f b) := by
  show 1 + ((inner (.tuple [.str h, a, b])).map (dpF f)).foldr max 0 = _
  rw [bin_inner hb]
  show 1 + max (dpF f a) (max (dpF f b) 0) = _
  omega
theorem bin_fmF {h : Str} (hb : bin h) {a b : PyData} {n : Int} {f : Nat} (ha : fmF n f a = true) (hbb : fmF n f b = true) : fmF n (f + 1) (.tuple [.str h, a, b]) = true := by
  show (hasForm n (.tuple [.str h, a, b]) && (inner (.tuple [.str h, a, b])).all (fmF n f)) = true
  rw [bin_form hb, bin_inner hb]
  show (true && (fmF n f a && (fmF n f b && true))) = true
  rw [ha, hbb]
  rfl
theorem val_inner (i : Int) : inner (.int i) = [] := rfl
theorem val_szF (i : Int) (f : Nat) : szF (f + 1) (.int i) = 1 := rfl
theorem val_dpF (i : Int) (f : Nat) : dpF (f + 1) (.int i) = 1 := rfl
theorem val_fmF {i : Int} (h0 : 0 ≤ i) (h3 : i < 3) (n : Int) : ∀ f : Nat, fmF n f (.int i) = true
  | 0 => rfl
  | f + 1 => by
    show ((isValue (.int i) || false) && true) = true
    have e : isValue (.int i) = true := by
      show (decide (0 ≤ i) && decide (i < 3)) = true
      rw [decide_eq_true h0, decide_eq_true h3]
      rfl
    rw [e]
    rfl
/-- a chain of k -/
structure Ch (k : Nat) (d : PyData) : Prop where
  pos : 1 ≤ k
  fm : ∀ (n : Int) (f : Nat), fmF n f d = true
  dp : ∀ f, dpF f d = min k f
  sz : ∀ f, k ≤ f → szF f d = 2 * k - 1
  ok : szD d = true
  nl : noL d = true
theorem ch_one {i : Int} (h0 : 0 ≤ i) (h3 : i < 3) : Ch 1 (.int i) where
  pos := Nat.le_refl _
  fm := fun n f => val_fmF h0 h3 n f
  dp := fun f => by
    cases f with
    | zero => rfl
    | succ f =>
      rw [val_dpF]
      omega
  sz := fun f hf => by
    cases f with
    | zero => omega
    | succ f => rfl
  ok := rfl
  nl := rfl
theorem ch_left {h : Str} (hb : bin h) {k : Nat} {d : PyData} (c : Ch k d) {i : Int} (h0 : 0 ≤ i) (h3 : i < 3) : Ch (k + 1) (.tuple [.str h, d, .int i]) where
  pos := Nat.le_add_left _ _
  fm := fun n f => by
    cases f with
    | zero => rfl
    | succ f => exact bin_fmF hb (c.fm n f) (val_fmF h0 h3 n f)
  dp := fun f => by
    cases f with
    | zero => rfl
    | succ f =>
      have := c.pos
      rw [bin_dpF hb, c.dp]
      cases f with
      | zero =>
        show 1 + max (min k 0) 0 = _
        omega
      | succ f =>
        rw [val_dpF]
        omega
  sz := fun f hf => by
    cases f with
    | zero => omega
    | succ f =>
      have := c.pos
      rw [bin_szF hb, c.sz f (by omega)]
      cases f with
      | zero => omega
      | succ f =>
        rw [val_szF]
        omega
  ok := bin_sz hb c.ok rfl
  nl := bin_noL c.nl rfl
theorem ch_right {h : Str} (hb : bin h) {k : Nat} {d : PyData} (c : Ch k d) {i : Int} (h0 : 0 ≤ i) (h3 : i < 3) : Ch (k + 1) (.tuple [.str h, .int i, d]) where
  pos := Nat.le_add_left _ _
  fm := fun n f => by
    cases f with
    | zero => rfl
    | succ f => exact bin_fmF hb (val_fmF h0 h3 n f) (c.fm n f)
  dp := fun f => by
    cases f with
    | zero => rfl
    | succ f =>
      have := c.pos
      rw [bin_dpF hb, c.dp]
      cases f with
      | zero =>
        show 1 + max 0 (min k 0) = _
        omega
      | succ f =>
        rw [val_dpF]
        omega
  sz := fun f hf => by
    cases f with
    | zero => omega
    | succ f =>
      have := c.pos
      rw [bin_szF hb, c.sz f (by omega)]
      cases f with
      | zero => omega
      | succ f =>
        rw [val_szF]
        omega
  ok := bin_sz hb rfl c.ok
  nl := bin_noL rfl c.nl
theorem ch_isTerm {k : Nat} {d : PyData} (c : Ch k d) (n : Int) : isTerm n d = decide (k ≤ 8) := by
  rw [isTerm_is, c.fm, c.dp]
  by_cases h : k ≤ 8
  · rw [c.sz 9 (by omega), decide_eq_true h, decide_eq_true (show 2 * k - 1 ≤ 30 by omega), decide_eq_true (show min k 9 ≤ 8 by omega)]
    rfl
  · rw [decide_eq_false h, decide_eq_false (show ¬ min k 9 ≤ 8 by omega), Bool.and_false]
    rfl
/-- a tree of m leaves, at most h deep -/
structure Tr (m h : Nat) (d : PyData) : Prop where
  pos : 1 ≤ h
  mp : 1 ≤ m
  fm : ∀ (n : Int) (f : Nat), fmF n f d = true
  dp : ∀ f, dpF f d ≤ h
  sz : ∀ f, h ≤ f → szF f d = 2 * m - 1
  ok : szD d = true
  nl : noL d = true
theorem tr_one {i : Int} (h0 : 0 ≤ i) (h3 : i < 3) {h : Nat} (hh : 1 ≤ h) : Tr 1 h (.int i) where
  pos := hh
  mp := Nat.le_refl _
  fm := fun n f => val_fmF h0 h3 n f
  dp := fun f => by
    cases f with
    | zero => exact Nat.zero_le _
    | succ f =>
      rw [val_dpF]
      exact hh
  sz := fun f hf => by
    cases f with
    | zero => omega
    | succ f => rfl
  ok := rfl
  nl := rfl
theorem Tr.mono {m h h' : Nat} {d : PyData} (t : Tr m h d) (hh : h ≤ h') : Tr m h' d :=
  ⟨Nat.le_trans t.pos hh, t.mp, t.fm, fun f => Nat.le_trans (t.dp f) hh, fun f hf => t.sz f (Nat.le_trans hh hf), t.ok, t.nl⟩
theorem tr_two {w : Str} (hb : bin w) {m1 m2 h : Nat} {a b : PyData} (ta : Tr m1 h a) (tb : Tr m2 h b) : Tr (m1 + m2) (h + 1) (.tuple [.str w, a, b]) where
  pos := Nat.le_add_left _ _
  mp := Nat.le_trans ta.mp (Nat.le_add_right _ _)
  fm := fun n f => by
    cases f with
    | zero => rfl
    | succ f => exact bin_fmF hb (ta.fm n f) (tb.fm n f)
  dp := fun f => by
    cases f with
    | zero => exact Nat.zero_le _
    | succ f =>
      have := ta.dp f
      have := tb.dp f
      rw [bin_dpF hb]
      omega
  sz := fun f hf => by
    cases f with
    | zero => omega
    | succ f =>
      have := ta.mp
      have := tb.mp
      rw [bin_szF hb, ta.sz f (by omega), tb.sz f (by omega)]
      omega
  ok := bin_sz hb ta.ok tb.ok
  nl := bin_noL ta.nl tb.nl
theorem tr_isTerm {m h : Nat} {d : PyData} (t : Tr m h d) (n : Int) (hh : h ≤ 8) : isTerm n d = decide (2 * m - 1 ≤ 30) := by
  rw [isTerm_is, t.fm, t.sz 9 (by omega), decide_eq_true (Nat.le_trans (t.dp 9) hh), Bool.and_true]
  rfl
/-! ### names once, ascending -/
section
variable {X : Cx}
/-- what holds of a text in the block of a comprehension -/
abbrev InBlk (X : Cx) (scope : Scope) (p : Cx → Prop) : Prop :=
  ∀ (s0 : Shared) (H0 : Hp) (at_ : Addr) (cells : List (Str × Addr)) (mine : List Addr), p (X.blk s0 H0 scope (compEnvC scope cells at_ X.env) mine)
/-- name = {k: v for target in iter} -/
theorem ps_setDc {i : Nat} {y : Str} {py : Pos} {kx vx tg iter : Expr} {ifs : List Expr} {scope : Scope} {own : List (Str × Nat)} {pos spos : Pos} {wi : TI} {g : TG} {tt : TT} {tk tv : TE} (calm : X.calm = true) (unlike : X.N.Nodup) (slot : X.N[i]? = some y)
    (here : X.env.scope.names.lookup y = some .local) (swaps : swapsWith (.DictComp kx vx [⟨tg, iter, ifs, 0⟩] scope pos) (some (.Name y py)) spos.line X.env = pure true) (walk : PI X tg iter wi) (blk : BlkOk X.N X.env.scope scope own)
    (rg : InBlk X scope fun Y => PG Y tg g) (rt : InBlk X scope fun Y => PTs Y ifs tt) (rk : InBlk X scope fun Y => PE Y kx tk) (rv : InBlk X scope fun Y => PE Y vx tv) (plain : ∀ v, foldedSetIterable iter X.env v = pure v := by intro _; rfl) :
    PS X (.Assign [.Name y py] (.DictComp kx vx [⟨tg, iter, ifs, 0⟩] scope pos) spos) (tAsg (tDc wi g tt tk tv (own.map (·.2))) (gName i)) := by
  constructor
  intro pins st σ H D inv want
  have want' : tDc wi g tt tk tv (own.map (·.2)) σ H (fun made Hm => gName i made σ Hm D.nx) := want
  have run := dc_core (pos := pos) (pos' := firstIterPos [⟨tg, iter, ifs, 0⟩] pos) (use := some (assign (.Name y py) X.env)) (Qf := fun _ st' => SP X pins D .next st') calm unlike inv walk blk rg rt rk rv plain want' (fun made C st' m Hm inv' good names free => by
    refine wpAny_assign_Name (store_ok2 (v := V.ref made) inv' unlike slot (Or.inl here) (show RelV (V.ref made) (Value.ref made) from rfl) (fun st2 inv2 moved => ?_) (Or.inr here))
    obtain ⟨cell, other, where_⟩ := moved
    have apart : C ≠ cell := where_.elim (fun h => h ▸ free.2.1) (fun h q => free.2.2.2.2.1 y cell h q.symm)
    exact ⟨m, names.sameBut other apart, fun last other2 => ⟨_, Hm, inv2.turned (t' := st2.toks) (fun b o nb old => (other2.2 b nb).trans old) free.1 free.2.1 free.2.2.2.1 free.2.2.2.2.1 free.2.2.2.2.2, good⟩⟩)
  rw [exec_Assign_Name_used (hs := swaps)]
  exact wpAny_bind (wpAny_standAt (wpAny_bind (wpAny_bind (thn run fun _ st' done => wpAny_pure (wpAny_pure done)))))
theorem swd_true {kx vx : Expr} {gs : List Comprehension} {scope : Scope} {pos py : Pos} {y : Str} {l : Nat} {env : Env} (fn : env.scope.kind = .function) (here : env.scope.names.lookup y = some .local) (line : (py.line == pos.line) = true)
    (none_ : (scope.names.any fun (n, k) => n == y && (k == .local || k == .cell)) = false) : swapsWith (.DictComp kx vx gs scope pos) (some (.Name y py)) l env = pure true := by
  have kindY : env.kindOf y = some .local := here
  have kindB : env.blockKind = .function := (show _ = _ by rw [Env.blockKind, fn]; rfl)
  simp only [swapsWith, kindY, kindB, none_, line, Expr.pos]
  rfl
end
def addS (acc : List Str) (x : Str) : List Str := if x ∈ acc then acc else acc ++ [x]
def onceS (xs : List Str) : List Str := xs.foldl addS []
theorem mem_addS {acc : List Str} {x y : Str} : y ∈ addS acc x ↔ y ∈ acc ∨ y = x := by
  unfold addS
  split
  · rename_i h
    constructor
    · exact .inl
    · rintro (h2 | rfl)
      · exact h2
      · exact h
  · rw [List.mem_append, List.mem_singleton]
theorem nodup_addS {acc : List Str} {x : Str} (h : acc.Nodup) : (addS acc x).Nodup := by
  unfold addS
  split
  · exact h
  · rename_i hx
    rw [List.nodup_append]
    refine ⟨h, by simp, fun a ha b hb e => ?_⟩
    rw [List.mem_singleton] at hb
    subst hb
    subst e
    exact hx ha
theorem len_addS {acc : List Str} {x : Str} : (addS acc x).length ≤ acc.length + 1 := by
  unfold addS
  split
  · omega
  · rw [List.length_append]
    exact Nat.le_refl _
theorem onceS_snoc {xs : List Str} {x : Str} : onceS (xs ++ [x]) = addS (onceS xs) x := by
  unfold onceS
  rw [List.foldl_append]
  rfl
theorem fold_mem : ∀ {xs acc : List Str} {y : Str}, y ∈ xs.foldl addS acc ↔ y ∈ acc ∨ y ∈ xs
  | [], _, _ => by simp
  | x :: xs, acc, y => by
    rw [List.foldl_cons, fold_mem, mem_addS, List.mem_cons, or_assoc]
theorem fold_nodup : ∀ {xs acc : List Str}, acc.Nodup → (xs.foldl addS acc).Nodup
  | [], _, h => h
  | x :: xs, acc, h => fold_nodup (xs := xs) (nodup_addS h)
theorem fold_len : ∀ {xs acc : List Str}, (xs.foldl addS acc).length ≤ acc.length + xs.length
  | [], _ => Nat.le_refl _
  | x :: xs, acc => by
    have h1 := fold_len (xs := xs) (acc := addS acc x)
    have h2 := len_addS (acc := acc) (x := x)
    rw [List.foldl_cons, List.length_cons]
    omega
theorem onceS_mem {xs : List Str} {y : Str} : y ∈ onceS xs ↔ y ∈ xs := by
  unfold onceS
  rw [fold_mem]
  simp
theorem onceS_nodup {xs : List Str} : (onceS xs).Nodup := fold_nodup .nil
theorem onceS_len {xs : List Str} : (onceS xs).length ≤ xs.length := by
  have := fold_len (xs := xs) (acc := [])
  unfold onceS
  simpa using this
theorem keys_put {kvs : List (Key × V)} {ks : List Str} (h : kvs.map (·.1) = ks.map Sum.inr) (x : Str) (v : V) : (putK kvs (.inr x : Key) v).map (·.1) = (addS ks x).map Sum.inr := by
  have e : (kvs.any fun kv => decide (kv.1 = (.inr x : Key))) = decide (x ∈ ks) := by
    have e1 : (kvs.any fun kv => decide (kv.1 = (.inr x : Key))) = (kvs.map (·.1)).any (fun k => decide (k = (.inr x : Key))) := by
      rw [List.any_map]
      rfl
    rw [e1, h, List.any_map, Bool.eq_iff_iff]
    simp
  unfold putK
  rw [e]
  unfold addS
  by_cases hx : x ∈ ks
  · rw [decide_eq_true hx, if_pos rfl, if_pos hx, ← h, List.map_map]
    refine List.map_congr_left fun kv _ => ?_
    show (if kv.1 = (.inr x : Key) then (kv.1, v) else kv).1 = kv.1
    split <;> rfl
  · rw [decide_eq_false hx, if_neg (by decide), if_neg hx, List.map_append, h, List.map_append]
    rfl
abbrev sAsc : Stmt := topS 23
theorem scAsc : FnScope ["names", "once", "name"] ["names"] (defScope sAsc) := ⟨rfl, rfl, rfl, by decide +kernel, rfl, by decide +kernel, by decide +kernel⟩
def spAsc (K : PySem.W.Frag) : Sp := fun vs H Q _ => ∃ (a : Addr) (xs : List Str), vs = [.ref a] ∧ SqL K H a (xs.map V.str) ∧ xs.length < 64 ∧
  ∀ (ys : List Str) (p : Addr) H', Same H H' → H' p = some (.lst (ys.map V.str)) → ys.Perm (onceS xs) → sortedS ys = true → Q (.ref p) H'
section
variable {P : Program} {w : World} {K : PySem.W.Frag} {mg : Str → Option Value} {base : Heap}
theorem ok_asc {f : Addr} {fd : FuncData} (F : Fun K "_ascending" "_ascending" sAsc f fd) (M : Blt mg) : FnOk P w K mg base CX0 1 f fd ["names"] (spAsc K) := by
  refine F.ok scAsc (fun vs H Q E h => ?_) (fun cdv A outer s H vs Q E hr h => ?_)
  · obtain ⟨a, xs, rfl, _⟩ := h
    rfl
  · obtain ⟨a, xs, rfl, hS, hl, q⟩ := h
    refine ⟨_, pss_cons (ps_setDc (i := 1) (own := [("name", 2)]) (g := gName 2) (tk := tVar 2) (tv := tC (.bl true)) (by rfl) scAsc.nd rfl rfl (swd_true rfl rfl rfl (by decide +kernel)) (pi_list (pv 0)) (blkOk_by (own := [("name", 2)]) (N := ["names", "once", "name"]) (sc := defScope sAsc) (by decide +kernel))
          (fun _ _ _ _ _ => pg_name (i := 2) scAsc.nd rfl (Or.inl rfl)) (fun _ _ _ _ _ => pts_nil) (fun _ _ _ _ _ => pv 2) (fun _ _ _ _ _ => pe_bl))
      (pss_one (ps_ret (pe_callB cr_sortedS (by rfl) M.sorted (by decide +kernel) (pa_cons
        (pe_lock (pe_lc (own := [("name", 2)]) (g := gName 2) (by rfl) scAsc.nd (pi_keys (pv 1)) (blkOk_by (own := [("name", 2)]) (N := ["names", "once", "name"]) (sc := defScope sAsc) (by decide +kernel))
          (fun _ _ _ _ _ => pg_name (i := 2) scAsc.nd rfl (Or.inl rfl)) (fun _ _ _ _ _ => pts_nil) (fun _ _ _ _ _ => pe_callTy SkE.call_str_str (by rfl) M.str (by decide +kernel) (pa_cons (pv 2) pa_nil)))) pa_nil)))), ?_⟩
    refine ⟨_, rfl, a, rfl, ⟨_, hS⟩, fun D hD => ?_⟩
    refine walk_gen (walk_list (K := K) (a := a) (xs := xs.map V.str)) (fun i H' => Same H H' ∧ ∃ kvs, H' D = some (.dK kvs) ∧ kvs.map (·.1) = (onceS (xs.take i)).map Sum.inr) ⟨same_upd hD, [], upd_same, rfl⟩ (fun i H' _ p => p.1.seq hS) (fun i x H1 H2 hi p y => ?_) (fun H1 p => ?_)
    · obtain ⟨s1, kvs, e1, ek⟩ := p
      obtain ⟨rfl, hx⟩ := y
      rw [List.getElem?_map] at hx
      obtain ⟨z, hz, rfl⟩ := Option.map_eq_some_iff.mp hx
      have hi' : i < xs.length := (List.getElem?_eq_some_iff.mp hz).1
      refine And.intro rfl ?_
      unfold tYes
      refine iteT ?_
      refine ⟨_, rfl, kvs, .inr z, rfl, e1, ?_, fun b o e => ?_, _, upd_same, ?_⟩
      · have h1 : kvs.length = (onceS (xs.take i)).length := by
          have := congrArg List.length ek
          simpa using this
        have h2 := onceS_len (xs := xs.take i)
        rw [List.length_take] at h2
        exact Nat.lt_of_le_of_lt (show kvs.length ≤ 64 by omega) (by decide)
      · rw [upd_ne (ne_of_none e hD)]
        exact s1 _ _ e
      · rw [take_snoc hz, onceS_snoc]
        exact keys_put ek z _
    · obtain ⟨s1, kvs, e1, ek⟩ := p
      rw [List.length_map, List.take_length] at ek
      have ekl : kvs.length = (onceS xs).length := by
        have := congrArg List.length ek
        simpa using this
      have ol := onceS_len (xs := xs)
      refine ⟨D, .dK kvs, e1, trivial, fun od => ?_⟩
      refine ⟨_, rfl, D, od, rfl, .inl ⟨kvs, upd_same, fun L hL => ?_⟩⟩
      have nLD : L ≠ D := fun e => by
        rw [e, upd_same] at hL
        cases hL
      have hL1 : H1 L = none := by
        rw [upd_ne nLD] at hL
        exact hL
      refine walk_gen (walk_keys (d := D) (o := od) (kvs := kvs)) (fun i H' => H' = upd (upd H1 D (.frz od (.dK kvs))) L (.lst (((onceS xs).take i).map V.str))) rfl (fun i H' _ p => by rw [p, upd_ne (Ne.symm nLD)]; exact upd_same) (fun i x H2 H3 hi p y => ?_) (fun H2 p => ?_)
      · subst p
        obtain ⟨rfl, k, v, hk, rfl⟩ := y
        have hk1 : (kvs.map (·.1))[i]? = some k := by
          rw [List.getElem?_map, hk]
          rfl
        rw [ek, List.getElem?_map] at hk1
        obtain ⟨z, hz, rfl⟩ := Option.map_eq_some_iff.mp hk1
        refine And.intro rfl ?_
        unfold tYes
        refine iteT ?_
        refine ⟨_, rfl, z, rfl, ((onceS xs).take i).map V.str, upd_same, ?_, ?_⟩
        · rw [List.length_map, List.length_take]
          exact Nat.lt_of_le_of_lt (show _ ≤ 64 by omega) (by decide)
        · rw [take_snoc hz, List.map_append, upd_upd]
          rfl
      · subst p
        refine ⟨?_, ?_⟩
        · rw [upd_ne (Ne.symm nLD)]
          exact upd_same
        · rw [ekl, List.take_length]
          have eL : (upd (upd (upd H1 D (.frz od (.dK kvs))) L (.lst ((onceS xs).map V.str))) D (.dK kvs)) L = some (.lst ((onceS xs).map V.str)) := by
            rw [upd_ne nLD]
            exact upd_same
          refine ⟨L, onceS xs, rfl, .inl (.inl eL), by omega, fun ys p hp so np => q ys p _ (fun b o e => ?_) upd_same hp so⟩
          have nb : b ≠ D := ne_of_none e hD
          have nbL : b ≠ L := fun h => by
            rw [h] at e
            rw [s1 _ _ e] at hL1
            cases hL1
          have e2 : (upd (upd (upd H1 D (.frz od (.dK kvs))) L (.lst ((onceS xs).map V.str))) D (.dK kvs)) b = some o := by
            rw [upd_ne nb, upd_ne nbL, upd_ne nb]
            exact s1 _ _ e
          rw [upd_ne (ne_of_none e2 np)]
          exact e2
end
/-! ### sorted texts -/
theorem rise_pw : ∀ {l : List Str} {p : Str}, risingS p l = true → (p :: l).Pairwise fun a b => a.cps.toList ≤ b.cps.toList
  | [], _, _ => List.pairwise_singleton _ _
  | x :: r, p, h => by
    have h1 := Bool.and_eq_true_iff.mp (show (!ltCps x.cps.toList p.cps.toList && risingS x r) = true from h)
    have hp : p.cps.toList ≤ x.cps.toList := by
      have h2 : ltCps x.cps.toList p.cps.toList = false := by simpa using h1.1
      rw [ltCps_eq] at h2
      exact List.not_lt.mp (of_decide_eq_false h2)
    have ih := rise_pw h1.2
    refine List.pairwise_cons.mpr ⟨fun y hy => ?_, ih⟩
    rcases List.mem_cons.mp hy with rfl | hy
    · exact hp
    · exact List.le_trans hp ((List.pairwise_cons.mp ih).1 y hy)
theorem sorted_pw : ∀ {l : List Str}, sortedS l = true → l.Pairwise fun a b => a.cps.toList ≤ b.cps.toList
  | [], _ => .nil
  | _ :: _, h => rise_pw h
theorem sorted_eq {a b : List Str} (h1 : sortedS a = true) (h2 : sortedS b = true) (p : a.Perm b) : a = b := by
  refine List.Perm.eq_of_pairwise (le := fun a b : Str => a.cps.toList ≤ b.cps.toList) (fun x y _ _ hxy hyx => ?_) (sorted_pw h1) (sorted_pw h2) p
  have e := List.le_antisymm hxy hyx
  cases x
  cases y
  exact congrArg Str.mk (Array.toList_inj.mp e)
theorem same_mem {a b : List Str} (h1 : a.Nodup) (h2 : b.Nodup) (h : ∀ x, x ∈ a ↔ x ∈ b) : a.Perm b := (List.perm_ext_iff_of_nodup h1 h2).mpr h
/-! ### the parts with a word -/
def headIs (z : Str) : PyData → Bool
  | .tuple (.str y :: _) => decide (y = z)
  | _ => false
def isW (z : Str) (p : PyData) : Bool := !isValue p && headIs z p
def withD (z : Str) (d : PyData) : List PyData := (partsD d).filter (isW z)
theorem flat_form {n : Int} : ∀ (f : Nat) (lv : List PyData) (deep many : Nat), (lv = [] ∨ goT n f lv deep many = true) → (flatGo f lv).all (hasForm n) = true
  | 0, _, _, _, _ => rfl
  | f + 1, lv, deep, many, h => by
    by_cases hne : lv = []
    · rw [hne, flatGo_nil]
      rfl
    · obtain ⟨g, e, h1, _, h3⟩ := goT_true hne (h.resolve_left hne)
      cases e
      show (lv ++ flatGo f (lv.flatMap inner)).all (hasForm n) = true
      rw [List.all_append, h1, flat_form f _ _ _ (.inr h3)]
      rfl
theorem parts_form {n : Int} {d : PyData} (h : isTerm n d = true) : (partsD d).all (hasForm n) = true := flat_form 9 [d] 0 0 (.inr h)
theorem flat_sz : ∀ (f : Nat) (lv : List PyData), szDs lv = true → szDs (flatGo f lv) = true
  | 0, _, _ => rfl
  | f + 1, lv, h => by
    show szDs (lv ++ flatGo f (lv.flatMap inner)) = true
    rw [szDs_app, h, flat_sz f _ (sz_flat h)]
    rfl
theorem parts_sz {d : PyData} (h : szD d = true) : szDs (partsD d) = true := flat_sz 9 [d] (by show (szD d && true) = true; rw [h]; rfl)
theorem parts_len {n : Int} {d : PyData} (h : isTerm n d = true) : (partsD d).length ≤ 30 := by
  rw [isTerm_is] at h
  have h1 := Bool.and_eq_true_iff.mp (Bool.and_eq_true_iff.mp h).2
  rw [partsD_len]
  exact of_decide_eq_true h1.1
abbrev sWith : Stmt := topS 17
theorem scWith : FnScope ["word", "term", "part"] ["word", "term"] (defScope sWith) := ⟨rfl, rfl, rfl, by decide +kernel, rfl, by decide +kernel, by decide +kernel⟩
def spWith (K : PySem.W.Frag) : Sp := fun vs H Q _ => ∃ (z : Str) (v : V) (d : PyData) (n : Int), vs = [.str z, v] ∧ Dp K H v d ∧ szD d = true ∧ isTerm n d = true ∧
  ∀ p xs H', Same H H' → H' p = some (.lst xs) → DpAll K H xs (withD z d) → Q (.ref p) H'
section
variable {P : Program} {w : World} {K : PySem.W.Frag} {mg : Str → Option Value} {base : Heap}
theorem ok_with {f fP fW fV fN : Addr} {fd dP dW dV dN : FuncData} (F : Fun K "parts_with" "parts_with" sWith f fd) (M : Blt mg) (TC : CellsTxt K mg) (G : CellFns K mg fW fV fN dW dV dN)
    (GP : FnOk P w K mg base CX0 5 fP dP ["term"] (spParts K)) (FP : Fun K "all_parts" "all_parts" sParts fP dP) (bP : Binds K dP ["term"] []) (gP : mg "all_parts" = some (.ref fP)) :
    FnOk P w K mg base CX0 6 f fd ["word", "term"] (spWith K) := by
  have GV : FnOk P w K mg base CX0 2 fV dV ["value"] (spB K isValue) := ok_value G.V M TC G.W G.bW G.gW
  refine F.ok scWith (fun vs H Q E h => ?_) (fun cdv A outer s H vs Q E hr h => ?_)
  · obtain ⟨z, v, d, n, rfl, _⟩ := h
    rfl
  · obtain ⟨z, v, d, n, rfl, hv, hsz, ht, q⟩ := h
    have hr2 : Room 2 _ := hr.mono (by decide)
    refine ⟨_, pss_one (ps_ret (pe_lc (own := [("part", 2)]) (g := gName 2) (wi := iList K (tCall (spParts K) [] E0 (tCons (tVar 1) tNil))) (tt := tAnd (tNot (tB (tCall (spB K isValue) [] E0 (tCons (tVar 2) tNil)))) (tTest (tOp rEq (tOp (rIxT K) (tVar 2) (tC (.int 0))) (tVar 0)))) (by rfl) scWith.nd
        (pi_list (pe_call GP hr (by rfl) gP FP.kp bP .nil pass0 (pa_cons (pv 1) pa_nil))) (blkOk_by (own := [("part", 2)]) (N := ["word", "term", "part"]) (sc := defScope sWith) (by decide +kernel))
        (fun _ _ _ _ _ => pg_name (i := 2) scWith.nd rfl (Or.inl rfl)) (fun _ _ _ _ _ => pts_one (PW.pt (pw_and (pt_not (pt_val (pe_call GV hr2 (by rfl) G.gV G.V.kp G.bV .nil pass0 (pa_cons (pv 2) pa_nil))))
          (pw_and1 (pt_cmpR op_eq (pe_ix ix_tup (pv 2) pe_int (fun _ _ => rfl)) (pv 0) (nomark _)))))) (fun _ _ _ _ _ => pv 2))), ?_⟩
    refine ⟨v, rfl, v, d, n, rfl, hv, hsz, ht, fun a xs H1 s1 na ea hxs hln => ?_⟩
    have hform := parts_form ht
    have hszp := parts_sz hsz
    refine ⟨a, rfl, ⟨_, .inl (.inl ea)⟩, fun D hD => ?_⟩
    have naD : a ≠ D := ne_of_none ea hD
    refine walk_gen (walk_list (K := K) (a := a) (xs := xs)) (fun i H' => Same H1 H' ∧ ∃ acc, H' D = some (.lst acc) ∧ DpAll K H acc (((partsD d).take i).filter (isW z))) ⟨same_upd hD, [], upd_same, .nil⟩ (fun i H' _ p => .inl (.inl (p.1 _ _ ea))) (fun i x H2 H3 hi p y => ?_) (fun H' p => ?_)
    · obtain ⟨s2, acc, e2, ac⟩ := p
      obtain ⟨rfl, hx⟩ := y
      obtain ⟨di, hd, dx⟩ := dpA_at hxs hx
      have hfd : hasForm n di = true := List.all_eq_true.mp hform di (List.mem_of_getElem? hd)
      have lacc : acc.length ≤ 30 := by
        rw [dpA_len ac]
        refine Nat.le_trans (List.length_filter_le _ _) ?_
        rw [List.length_take]
        have := parts_len ht
        omega
      have snoc : ((partsD d).take (i + 1)).filter (isW z) = ((partsD d).take i).filter (isW z) ++ (if isW z di = true then [di] else []) := by
        rw [take_snoc hd, List.filter_append]
        cases e : isW z di with
        | true => rw [List.filter_cons_of_pos e]; rfl
        | false => rw [List.filter_cons_of_neg (by rw [e]; decide)]; rfl
      have no : ∀ H5, Same H3 H5 → isW z di = false → Same H1 H5 ∧ ∃ acc, H5 D = some (.lst acc) ∧ DpAll K H acc (((partsD d).take (i + 1)).filter (isW z)) := fun H5 s5 e => by
        refine ⟨s2.trans s5, acc, s5 _ _ e2, ?_⟩
        rw [snoc, e]
        simpa using ac
      refine And.intro rfl ?_
      refine ⟨x, rfl, x, di, rfl, dp_same (s1.trans s2) dx, szDs_get hszp hd, fun H4 s4 => ⟨_, rfl, ?_⟩⟩
      cases hval : isValue di with
      | true =>
        refine iteF (iteF (no H4 s4 ?_))
        unfold isW
        rw [hval]
        rfl
      | false =>
        obtain ⟨y, rest, rfl, _⟩ := form_str hfd hval
        cases dx with
        | @tup b zs _ hs ha =>
          cases ha with
          | @cons x0 xr _ _ h0 hr0 =>
            cases h0
            have ew : isW z (.tuple (.str y :: rest)) = decide (y = z) := by
              unfold isW
              rw [hval]
              rfl
            refine iteT ⟨_, rfl, b, _, 0, .str y, rfl, rfl, same_sqT ((s1.trans s2).trans s4) hs, atI_nat (j := 0) rfl, ?_⟩
            refine ⟨.str z, rfl, rfl, _, rfl, ?_⟩
            rw [dstr]
            by_cases hyz : y = z
            · rw [decide_eq_true hyz]
              refine iteT ⟨_, rfl, acc, s4 _ _ e2, Nat.lt_of_le_of_lt lacc (by decide), fun b' o e => ?_, acc ++ [.ref b], upd_same, ?_⟩
              · rw [upd_ne (ne_of_none e hD)]
                exact s4 _ _ (s2 _ _ e)
              · rw [snoc, ew, decide_eq_true hyz]
                exact dpA_app ac (.cons (.tup hs (.cons (.str y) hr0)) .nil)
            · rw [decide_eq_false hyz]
              refine iteF (no H4 s4 ?_)
              rw [ew, decide_eq_false hyz]
    · obtain ⟨s2, acc, e2, ac⟩ := p
      have el : xs.length = (partsD d).length := dpA_len hxs
      rw [el, List.take_length] at ac
      exact q D acc H' (s1.trans s2) e2 ac
end
/-! ### the names in a term -/
def nm : PyData → Str
  | .tuple (_ :: .str x :: _) => x
  | _ => ""
def namesD (z : Str) (d : PyData) : List Str := (withD z d).map nm
theorem isName_str {d : PyData} (h : isName d = true) : ∃ x, d = .str x := by
  cases d <;> first | exact ⟨_, rfl⟩ | cases h
theorem isW_head {z : Str} {p : PyData} (h : isW z p = true) : ∃ rest, p = .tuple (.str z :: rest) ∧ isValue p = false := by
  have h1 := Bool.and_eq_true_iff.mp h
  have hv : isValue p = false := by simpa using h1.1
  match p, h1.2, hv with
  | .tuple (.str y :: rest), h2, hv =>
    have e := of_decide_eq_true h2
    subst e
    exact ⟨rest, rfl, hv⟩
theorem w_cell {n : Int} {p : PyData} (hf : hasForm n p = true) (h : isW "cell" p = true) : ∃ x rest, p = .tuple (.str "cell" :: .str x :: rest) := by
  obtain ⟨rest, rfl, hv⟩ := isW_head h
  have hf1 : formOf n "cell" rest = true := by
    have e : hasForm n (.tuple (.str "cell" :: rest)) = (isValue (.tuple (.str "cell" :: rest)) || formOf n "cell" rest) := rfl
    rw [e, hv] at hf
    exact hf
  have e1 : formOf n "cell" rest = on1 isName rest := (if_neg (by decide +kernel)).trans (if_pos rfl)
  rw [e1] at hf1
  match rest, hf1 with
  | [d], hf1 =>
    obtain ⟨x, rfl⟩ := isName_str (d := d) hf1
    exact ⟨x, _, rfl⟩
theorem w_call {n : Int} {p : PyData} (hf : hasForm n p = true) (h : isW "call" p = true) : ∃ x rest, p = .tuple (.str "call" :: .str x :: rest) := by
  obtain ⟨rest, rfl, hv⟩ := isW_head h
  have hf1 : formOf n "call" rest = true := by
    have e : hasForm n (.tuple (.str "call" :: rest)) = (isValue (.tuple (.str "call" :: rest)) || formOf n "call" rest) := rfl
    rw [e, hv] at hf
    exact hf
  have e1 : formOf n "call" rest = on2 (fun x y => isName x && callForm y) rest := (if_neg (by decide +kernel)).trans ((if_neg (by decide +kernel)).trans (if_pos rfl))
  rw [e1] at hf1
  match rest, hf1 with
  | [d, e], hf1 =>
    obtain ⟨x, rfl⟩ := isName_str (Bool.and_eq_true_iff.mp (show (isName d && callForm e) = true from hf1)).1
    exact ⟨x, _, rfl⟩
def spNames (K : PySem.W.Frag) (z : Str) : Sp := fun vs H Q _ => ∃ (v : V) (d : PyData) (n : Int), vs = [v] ∧ Dp K H v d ∧ szD d = true ∧ isTerm n d = true ∧
  ∀ (ys : List Str) (p : Addr) H', Same H H' → H' p = some (.lst (ys.map V.str)) → ys.Perm (onceS (namesD z d)) → sortedS ys = true → Q (.ref p) H'
structure WithFns (K : PySem.W.Frag) (mg : Str → Option Value) (fWi fAs : Addr) (dWi dAs : FuncData) : Prop where
  Wi : Fun K "parts_with" "parts_with" sWith fWi dWi
  As : Fun K "_ascending" "_ascending" sAsc fAs dAs
  bWi : Binds K dWi ["word", "term"] []
  bAs : Binds K dAs ["names"] []
  gWi : mg "parts_with" = some (.ref fWi)
  gAs : mg "_ascending" = some (.ref fAs)
abbrev sCells : Stmt := topS 20
theorem scCells : FnScope ["term", "part"] ["term"] (defScope sCells) := ⟨rfl, rfl, rfl, by decide +kernel, rfl, by decide +kernel, by decide +kernel⟩
section
variable {P : Program} {w : World} {K : PySem.W.Frag} {mg : Str → Option Value} {base : Heap}
theorem ok_Cells {f fWi fAs : Addr} {fd dWi dAs : FuncData} (F : Fun K "cells_in" "cells_in" sCells f fd) (L : WithFns K mg fWi fAs dWi dAs)
    (GW : FnOk P w K mg base CX0 6 fWi dWi ["word", "term"] (spWith K)) (GA : FnOk P w K mg base CX0 1 fAs dAs ["names"] (spAsc K)) :
    FnOk P w K mg base CX0 7 f fd ["term"] (spNames K "cell") := by
  refine F.ok scCells (fun vs H Q E h => ?_) (fun cdv A outer s H vs Q E hr h => ?_)
  · obtain ⟨v, d, n, rfl, _⟩ := h
    rfl
  · obtain ⟨v, d, n, rfl, hv, hsz, ht, q⟩ := h
    have hr1 : Room 1 _ := hr.mono (by decide)
    refine ⟨_, pss_one (ps_ret (pe_call GA hr1 (by rfl) L.gAs L.As.kp L.bAs .nil pass0 (pa_cons
      (pe_lc (own := [("part", 1)]) (g := gName 1) (wi := iList K (tCall (spWith K) [] E0 (tCons (tC (.str "cell")) (tCons (tVar 0) tNil)))) (te := tOp (rIxT K) (tVar 1) (tC (.int 1))) (by rfl) scCells.nd
        (pi_list (pe_call GW hr (by rfl) L.gWi L.Wi.kp L.bWi .nil pass0 (pa_cons pe_str (pa_cons (pv 0) pa_nil)))) (blkOk_by (own := [("part", 1)]) (N := ["term", "part"]) (sc := defScope sCells) (by decide +kernel))
        (fun _ _ _ _ _ => pg_name (i := 1) scCells.nd rfl (Or.inl rfl)) (fun _ _ _ _ _ => pts_nil) (fun _ _ _ _ _ => pe_ix ix_tup (pv 1) pe_int (fun _ _ => rfl))) pa_nil))), ?_⟩
    refine ⟨v, rfl, "cell", v, d, n, rfl, hv, hsz, ht, fun a xs H1 s1 ea hxs => ?_⟩
    have hl30 : (withD "cell" d).length ≤ 30 := Nat.le_trans (List.length_filter_le _ _) (parts_len ht)
    have el : xs.length = (withD "cell" d).length := dpA_len hxs
    refine ⟨a, rfl, ⟨_, .inl (.inl ea)⟩, fun D hD => ?_⟩
    refine walk_gen (walk_list (K := K) (a := a) (xs := xs)) (fun i H' => Same H1 H' ∧ H' D = some (.lst ((((withD "cell" d).take i).map nm).map V.str))) ⟨same_upd hD, upd_same⟩ (fun i H' _ p => .inl (.inl (p.1 _ _ ea))) (fun i x H2 H3 hi p y => ?_) (fun H' p => ?_)
    · obtain ⟨s2, e2⟩ := p
      obtain ⟨rfl, hx⟩ := y
      obtain ⟨di, hd, dx⟩ := dpA_at hxs hx
      have hmem := List.mem_filter.mp (List.mem_of_getElem? hd)
      obtain ⟨x', rest, rfl⟩ := w_cell (List.all_eq_true.mp (parts_form ht) _ hmem.1) hmem.2
      cases dx with
      | @tup b zs _ hs ha =>
        cases ha with
        | @cons x0 xr _ _ h0 hr0 =>
          cases hr0 with
          | @cons x1 xr1 _ _ h1 hr1' =>
            cases h1
            refine And.intro rfl ?_
            unfold tYes
            refine iteT ?_
            refine ⟨_, rfl, b, _, 1, .str x', rfl, rfl, same_sqT (s1.trans s2) hs, atI_nat (j := 1) rfl, _, e2, ?_, fun b' o e => ?_, ?_⟩
            · rw [List.length_map, List.length_map, List.length_take]
              exact Nat.lt_of_le_of_lt (show _ ≤ 30 by omega) (by decide)
            · rw [upd_ne (ne_of_none e hD)]
              exact s2 _ _ e
            · rw [take_snoc hd, List.map_append, List.map_append]
              exact upd_same
    · obtain ⟨s2, e2⟩ := p
      rw [el, List.take_length] at e2
      refine ⟨D, namesD "cell" d, rfl, .inl (.inl e2), ?_, fun ys p H2 s3 ep hp so => q ys p H2 ((s1.trans s2).trans s3) ep hp so⟩
      unfold namesD
      rw [List.length_map]
      omega
end
abbrev sCalls : Stmt := topS 21
theorem scCalls : FnScope ["term", "part"] ["term"] (defScope sCalls) := ⟨rfl, rfl, rfl, by decide +kernel, rfl, by decide +kernel, by decide +kernel⟩
section
variable {P : Program} {w : World} {K : PySem.W.Frag} {mg : Str → Option Value} {base : Heap}
theorem ok_Calls {f fWi fAs : Addr} {fd dWi dAs : FuncData} (F : Fun K "calls_in" "calls_in" sCalls f fd) (L : WithFns K mg fWi fAs dWi dAs)
    (GW : FnOk P w K mg base CX0 6 fWi dWi ["word", "term"] (spWith K)) (GA : FnOk P w K mg base CX0 1 fAs dAs ["names"] (spAsc K)) :
    FnOk P w K mg base CX0 7 f fd ["term"] (spNames K "call") := by
  refine F.ok scCalls (fun vs H Q E h => ?_) (fun cdv A outer s H vs Q E hr h => ?_)
  · obtain ⟨v, d, n, rfl, _⟩ := h
    rfl
  · obtain ⟨v, d, n, rfl, hv, hsz, ht, q⟩ := h
    have hr1 : Room 1 _ := hr.mono (by decide)
    refine ⟨_, pss_one (ps_ret (pe_call GA hr1 (by rfl) L.gAs L.As.kp L.bAs .nil pass0 (pa_cons
      (pe_lc (own := [("part", 1)]) (g := gName 1) (wi := iList K (tCall (spWith K) [] E0 (tCons (tC (.str "call")) (tCons (tVar 0) tNil)))) (te := tOp (rIxT K) (tVar 1) (tC (.int 1))) (by rfl) scCalls.nd
        (pi_list (pe_call GW hr (by rfl) L.gWi L.Wi.kp L.bWi .nil pass0 (pa_cons pe_str (pa_cons (pv 0) pa_nil)))) (blkOk_by (own := [("part", 1)]) (N := ["term", "part"]) (sc := defScope sCalls) (by decide +kernel))
        (fun _ _ _ _ _ => pg_name (i := 1) scCalls.nd rfl (Or.inl rfl)) (fun _ _ _ _ _ => pts_nil) (fun _ _ _ _ _ => pe_ix ix_tup (pv 1) pe_int (fun _ _ => rfl))) pa_nil))), ?_⟩
    refine ⟨v, rfl, "call", v, d, n, rfl, hv, hsz, ht, fun a xs H1 s1 ea hxs => ?_⟩
    have hl30 : (withD "call" d).length ≤ 30 := Nat.le_trans (List.length_filter_le _ _) (parts_len ht)
    have el : xs.length = (withD "call" d).length := dpA_len hxs
    refine ⟨a, rfl, ⟨_, .inl (.inl ea)⟩, fun D hD => ?_⟩
    refine walk_gen (walk_list (K := K) (a := a) (xs := xs)) (fun i H' => Same H1 H' ∧ H' D = some (.lst ((((withD "call" d).take i).map nm).map V.str))) ⟨same_upd hD, upd_same⟩ (fun i H' _ p => .inl (.inl (p.1 _ _ ea))) (fun i x H2 H3 hi p y => ?_) (fun H' p => ?_)
    · obtain ⟨s2, e2⟩ := p
      obtain ⟨rfl, hx⟩ := y
      obtain ⟨di, hd, dx⟩ := dpA_at hxs hx
      have hmem := List.mem_filter.mp (List.mem_of_getElem? hd)
      obtain ⟨x', rest, rfl⟩ := w_call (List.all_eq_true.mp (parts_form ht) _ hmem.1) hmem.2
      cases dx with
      | @tup b zs _ hs ha =>
        cases ha with
        | @cons x0 xr _ _ h0 hr0 =>
          cases hr0 with
          | @cons x1 xr1 _ _ h1 hr1' =>
            cases h1
            refine And.intro rfl ?_
            unfold tYes
            refine iteT ?_
            refine ⟨_, rfl, b, _, 1, .str x', rfl, rfl, same_sqT (s1.trans s2) hs, atI_nat (j := 1) rfl, _, e2, ?_, fun b' o e => ?_, ?_⟩
            · rw [List.length_map, List.length_map, List.length_take]
              exact Nat.lt_of_le_of_lt (show _ ≤ 30 by omega) (by decide)
            · rw [upd_ne (ne_of_none e hD)]
              exact s2 _ _ e
            · rw [take_snoc hd, List.map_append, List.map_append]
              exact upd_same
    · obtain ⟨s2, e2⟩ := p
      rw [el, List.take_length] at e2
      refine ⟨D, namesD "call" d, rfl, .inl (.inl e2), ?_, fun ys p H2 s3 ep hp so => q ys p H2 ((s1.trans s2).trans s3) ep hp so⟩
      unfold namesD
      rw [List.length_map]
      omega
end
abbrev sHasTick : Stmt := topS 22
theorem scHasTick : FnScope ["term"] ["term"] (defScope sHasTick) := ⟨rfl, rfl, rfl, by decide +kernel, rfl, by decide +kernel, by decide +kernel⟩
def tickD (d : PyData) : Bool := decide (0 < (withD "tick" d).length)
def spTick (K : PySem.W.Frag) : Sp := fun vs H Q _ => ∃ (v : V) (d : PyData) (n : Int), vs = [v] ∧ Dp K H v d ∧ szD d = true ∧ isTerm n d = true ∧ ∀ H', Same H H' → Q (.bl (tickD d)) H'
section
variable {P : Program} {w : World} {K : PySem.W.Frag} {mg : Str → Option Value} {base : Heap}
theorem ok_hastick {f fWi fAs : Addr} {fd dWi dAs : FuncData} (F : Fun K "has_tick" "has_tick" sHasTick f fd) (M : Blt mg) (L : WithFns K mg fWi fAs dWi dAs)
    (GW : FnOk P w K mg base CX0 6 fWi dWi ["word", "term"] (spWith K)) :
    FnOk P w K mg base CX0 7 f fd ["term"] (spTick K) := by
  refine F.ok scHasTick (fun vs H Q E h => ?_) (fun cdv A outer s H vs Q E hr h => ?_)
  · obtain ⟨v, d, n, rfl, _⟩ := h
    rfl
  · obtain ⟨v, d, n, rfl, hv, hsz, ht, q⟩ := h
    refine ⟨_, pss_one (ps_ret (pe_cmpR op_gt (pe_callB call_len_seq (by rfl) M.len PySem.boot_len (pa_cons (pe_call GW hr (by rfl) L.gWi L.Wi.kp L.bWi .nil pass0 (pa_cons pe_str (pa_cons (pv 0) pa_nil))) pa_nil)) pe_int (nomark _))), ?_⟩
    refine ⟨v, rfl, "tick", v, d, n, rfl, hv, hsz, ht, fun a xs H1 s1 ea hxs => ?_⟩
    refine ⟨a, xs, rfl, .inl (.inl (.inl ea)), _, _, rfl, rfl, ?_⟩
    have e : decide ((0 : Int) < (xs.length : Int)) = tickD d := by
      unfold tickD
      rw [dpA_len hxs]
      by_cases h : 0 < (withD "tick" d).length
      · rw [decide_eq_true h, decide_eq_true (by omega)]
      · rw [decide_eq_false h, decide_eq_false (by omega)]
    have q1 := q H1 s1
    rw [← e] at q1
    exact q1
end
/-! ### the law's terms -/
inductive Gd (n : Int) : Nat → PyData → Prop
  | val {f : Nat} {i : Int} : 0 ≤ i → i < 3 → Gd n (f + 1) (.int i)
  | arg {f : Nat} {i : Int} : 0 ≤ i → i < n → Gd n (f + 1) (.tuple [.str "arg", .int i])
  | cell {f : Nat} {x : Str} : isName (.str x) = true → Gd n (f + 1) (.tuple [.str "cell", .str x])
  | tick {f : Nat} : Gd n (f + 1) (.tuple [.str "tick"])
  | call {f : Nat} {x : Str} {ts : List PyData} : isName (.str x) = true → ts.length ≤ 2 → (∀ t ∈ ts, Gd n f t) → Gd n (f + 1) (.tuple [.str "call", .str x, .tuple ts])
  | op {f : Nat} {z : Str} {ts : List PyData} : (z = "if" ∧ ts.length = 3) ∨ (bin z ∧ ts.length = 2) → (∀ t ∈ ts, Gd n f t) → Gd n (f + 1) (.tuple (.str z :: ts))
theorem op_word {z : Str} {ts : List PyData} (h : (z = "if" ∧ ts.length = 3) ∨ (bin z ∧ ts.length = 2)) : z = "if" ∨ z = "plus" ∨ z = "less" ∨ z = "same" := by
  rcases h with ⟨h, _⟩ | ⟨h, _⟩
  · exact .inl h
  · exact .inr h
theorem op_inner {z : Str} {ts : List PyData} (h : z = "if" ∨ z = "plus" ∨ z = "less" ∨ z = "same") : inner (.tuple (.str z :: ts)) = ts := by
  rcases h with rfl | rfl | rfl | rfl <;> rfl
theorem gd_inner {n : Int} {f : Nat} {d : PyData} (h : Gd n (f + 1) d) : (∀ t ∈ inner d, Gd n f t) ∧ (inner d).length ≤ 3 := by
  cases h with
  | val _ _ => exact ⟨fun t ht => (by cases ht), Nat.zero_le _⟩
  | arg _ _ => exact ⟨fun t ht => (by cases ht), Nat.zero_le _⟩
  | cell _ => exact ⟨fun t ht => (by cases ht), Nat.zero_le _⟩
  | tick => exact ⟨fun t ht => (by cases ht), Nat.zero_le _⟩
  | call _ hl ht => exact ⟨ht, Nat.le_trans hl (by decide)⟩
  | op hz ht =>
    rw [op_inner (op_word hz)]
    refine ⟨ht, ?_⟩
    rcases hz with ⟨_, h⟩ | ⟨_, h⟩ <;> omega
theorem gd_form {n : Int} {f : Nat} {d : PyData} (h : Gd n f d) : hasForm n d = true := by
  cases h with
  | val h0 h3 =>
    show (isValue (.int _) || false) = true
    have e : isValue (.int _) = true := Bool.and_eq_true_iff.mpr ⟨decide_eq_true h0, decide_eq_true h3⟩
    rw [e]
    rfl
  | arg h0 h3 => exact Bool.and_eq_true_iff.mpr ⟨decide_eq_true h0, decide_eq_true h3⟩
  | cell hx => exact hx
  | tick => rfl
  | call hx hl _ => exact Bool.and_eq_true_iff.mpr ⟨hx, decide_eq_true (by omega)⟩
  | @op f z ts hz _ =>
    rcases hz with ⟨rfl, h⟩ | ⟨rfl | rfl | rfl, h⟩
    · show decide ((ts.length : Int) + 1 = 4) = true
      exact decide_eq_true (by omega)
    · show decide ((ts.length : Int) + 1 = 3) = true
      exact decide_eq_true (by omega)
    · show decide ((ts.length : Int) + 1 = 3) = true
      exact decide_eq_true (by omega)
    · show decide ((ts.length : Int) + 1 = 3) = true
      exact decide_eq_true (by omega)
theorem gd_fm {n : Int} : ∀ (k f : Nat) (d : PyData), Gd n f d → fmF n k d = true
  | 0, _, _, _ => rfl
  | k + 1, 0, d, h => nomatch h
  | k + 1, f + 1, d, h => by
    show (hasForm n d && (inner d).all (fmF n k)) = true
    rw [gd_form h]
    exact List.all_eq_true.mpr fun t ht => gd_fm k f t ((gd_inner h).1 t ht)
theorem szDs_of : ∀ {ts : List PyData}, (∀ t ∈ ts, szD t = true) → szDs ts = true
  | [], _ => rfl
  | t :: ts, h => by
    show (szD t && szDs ts) = true
    rw [h t List.mem_cons_self, szDs_of fun u hu => h u (List.mem_cons_of_mem _ hu)]
    rfl
theorem noLs_of : ∀ {ts : List PyData}, (∀ t ∈ ts, noL t = true) → noLs ts = true
  | [], _ => rfl
  | t :: ts, h => by
    show (noL t && noLs ts) = true
    rw [h t List.mem_cons_self, noLs_of fun u hu => h u (List.mem_cons_of_mem _ hu)]
    rfl
theorem name_sz {x : Str} (h : isName (.str x) = true) : szD (.str x) = true := by
  have h1 := Bool.and_eq_true_iff.mp (Bool.and_eq_true_iff.mp (show (decide (1 ≤ (x.length : Int)) && decide ((x.length : Int) ≤ 8) && x.cps.toList.all lowCode) = true from h)).1
  have h2 := of_decide_eq_true h1.2
  exact decide_eq_true (by omega)
theorem word_sz {z : Str} (h : z = "if" ∨ z = "plus" ∨ z = "less" ∨ z = "same") : szD (.str z) = true := by
  rcases h with rfl | rfl | rfl | rfl <;> decide +kernel
theorem gd_sz {n : Int} : ∀ (f : Nat) (d : PyData), Gd n f d → szD d = true
  | 0, _, h => nomatch h
  | f + 1, d, h => by
    cases h with
    | val _ _ => rfl
    | arg _ _ =>
      show (decide (2 ≤ 1000) && (szD (.str "arg") && (true && true))) = true
      decide +kernel
    | cell hx =>
      show (decide (2 ≤ 1000) && (szD (.str "cell") && (szD (.str _) && true))) = true
      rw [name_sz hx]
      decide +kernel
    | tick => decide +kernel
    | @call _ x ts hx hl ht =>
      show (decide (3 ≤ 1000) && (szD (.str "call") && (szD (.str x) && ((decide (ts.length ≤ 1000) && szDs ts) && true)))) = true
      rw [name_sz hx, szDs_of fun t h => gd_sz f t (ht t h), decide_eq_true (show ts.length ≤ 1000 by omega)]
      decide +kernel
    | @op _ z ts hz ht =>
      show (decide (ts.length + 1 ≤ 1000) && (szD (.str z) && szDs ts)) = true
      rw [word_sz (op_word hz), szDs_of fun t h => gd_sz f t (ht t h), decide_eq_true (show ts.length + 1 ≤ 1000 by rcases hz with ⟨_, h⟩ | ⟨_, h⟩ <;> omega)]
      rfl
theorem gd_nl {n : Int} : ∀ (f : Nat) (d : PyData), Gd n f d → noL d = true
  | 0, _, h => nomatch h
  | f + 1, d, h => by
    cases h with
    | val _ _ => rfl
    | arg _ _ => rfl
    | cell hx => rfl
    | tick => rfl
    | @call _ x ts hx hl ht =>
      show (true && (true && (noLs ts && true))) = true
      rw [noLs_of fun t h => gd_nl f t (ht t h)]
      rfl
    | @op _ z ts hz ht =>
      show (true && noLs ts) = true
      rw [noLs_of fun t h => gd_nl f t (ht t h)]
      rfl
theorem gd_szF {n : Int} : ∀ (f k k' : Nat) (d : PyData), Gd n f d → f ≤ k → f ≤ k' → szF k d = szF k' d
  | 0, _, _, _, h, _, _ => nomatch h
  | f + 1, 0, _, _, _, h, _ => by omega
  | f + 1, _, 0, _, _, _, h => by omega
  | f + 1, k + 1, k' + 1, d, h, h1, h2 => by
    show 1 + ((inner d).map (szF k)).sum = 1 + ((inner d).map (szF k')).sum
    rw [List.map_congr_left fun t ht => gd_szF f k k' t ((gd_inner h).1 t ht) (by omega) (by omega)]
theorem gd_dpF {n : Int} : ∀ (f k k' : Nat) (d : PyData), Gd n f d → f ≤ k → f ≤ k' → dpF k d = dpF k' d
  | 0, _, _, _, h, _, _ => nomatch h
  | f + 1, 0, _, _, _, h, _ => by omega
  | f + 1, _, 0, _, _, _, h => by omega
  | f + 1, k + 1, k' + 1, d, h, h1, h2 => by
    show 1 + ((inner d).map (dpF k)).foldr max 0 = 1 + ((inner d).map (dpF k')).foldr max 0
    rw [List.map_congr_left fun t ht => gd_dpF f k k' t ((gd_inner h).1 t ht) (by omega) (by omega)]
theorem gd_dle {n : Int} : ∀ (f k : Nat) (d : PyData), Gd n f d → dpF k d ≤ f
  | 0, _, _, h => nomatch h
  | f + 1, 0, _, _ => Nat.zero_le _
  | f + 1, k + 1, d, h => by
    show 1 + ((inner d).map (dpF k)).foldr max 0 ≤ f + 1
    have h1 : ∀ l : List PyData, (∀ t ∈ l, dpF k t ≤ f) → (l.map (dpF k)).foldr max 0 ≤ f := fun l => by
      induction l with
      | nil => exact fun _ => Nat.zero_le _
      | cons a l ih =>
        intro hl
        show max (dpF k a) _ ≤ f
        have := hl a List.mem_cons_self
        have := ih fun t ht => hl t (List.mem_cons_of_mem _ ht)
        omega
    have := h1 (inner d) fun t ht => gd_dle f k t ((gd_inner h).1 t ht)
    omega
theorem gd_many {n : Int} : ∀ (f k : Nat) (d : PyData), Gd n f d → szF k d ≤ 4 ^ f
  | 0, _, _, h => nomatch h
  | f + 1, 0, _, _ => Nat.zero_le _
  | f + 1, k + 1, d, h => by
    show 1 + ((inner d).map (szF k)).sum ≤ 4 ^ (f + 1)
    have h1 : ∀ l : List PyData, (∀ t ∈ l, szF k t ≤ 4 ^ f) → (l.map (szF k)).sum ≤ l.length * 4 ^ f := fun l => by
      induction l with
      | nil => exact fun _ => Nat.zero_le _
      | cons a l ih =>
        intro hl
        rw [List.map_cons, List.sum_cons, List.length_cons, Nat.succ_mul]
        have := hl a List.mem_cons_self
        have := ih fun t ht => hl t (List.mem_cons_of_mem _ ht)
        omega
    have h2 := h1 (inner d) fun t ht => gd_many f k t ((gd_inner h).1 t ht)
    have h3 := Nat.mul_le_mul_right (4 ^ f) (gd_inner h).2
    have h4 : 1 ≤ 4 ^ f := Nat.one_le_pow _ _ (by decide)
    rw [Nat.pow_succ]
    omega
def sz9 (d : PyData) : Nat := szF 9 d
def dp9 (d : PyData) : Nat := dpF 9 d
theorem sz9_in {n : Int} {f : Nat} {d : PyData} (h : Gd n (f + 1) d) (hf : f ≤ 8) : sz9 d = 1 + ((inner d).map sz9).sum := by
  show 1 + ((inner d).map (szF 8)).sum = _
  rw [List.map_congr_left fun t ht => gd_szF f 8 9 t ((gd_inner h).1 t ht) hf (by omega)]
  rfl
theorem dp9_in {n : Int} {f : Nat} {d : PyData} (h : Gd n (f + 1) d) (hf : f ≤ 8) : dp9 d = 1 + ((inner d).map dp9).foldr max 0 := by
  show 1 + ((inner d).map (dpF 8)).foldr max 0 = _
  rw [List.map_congr_left fun t ht => gd_dpF f 8 9 t ((gd_inner h).1 t ht) hf (by omega)]
  rfl
theorem gd_isTerm {n : Int} {f : Nat} {d : PyData} (h : Gd n f d) (hf : f ≤ 8) : isTerm n d = decide (sz9 d ≤ 30) := by
  rw [isTerm_is, gd_fm 9 f d h, decide_eq_true (Nat.le_trans (gd_dle f 9 d h) hf), Bool.and_true]
  rfl
/-! ### what stands somewhere in a term -/
def hasB (q : PyData → Bool) : Nat → PyData → Bool
  | 0, _ => false
  | f + 1, d => q d || (inner d).any (hasB q f)
def hs9 (q : PyData → Bool) (d : PyData) : Bool := hasB q 9 d
theorem any_or {α : Type} (p q : α → Bool) : ∀ l : List α, (l.any fun x => p x || q x) = (l.any p || l.any q)
  | [] => rfl
  | x :: l => by
    rw [List.any_cons, List.any_cons, List.any_cons, any_or p q l]
    cases p x <;> cases q x <;> cases l.any p <;> rfl
theorem any_flat (q : PyData → Bool) : ∀ l : List PyData, (l.flatMap inner).any q = l.any fun d => (inner d).any q
  | [] => rfl
  | d :: l => by
    rw [List.flatMap_cons, List.any_append, List.any_cons, any_flat q l]
theorem flat_any (q : PyData → Bool) : ∀ (f : Nat) (lv : List PyData), (flatGo f lv).any q = lv.any (hasB q f)
  | 0, lv => by
    show false = lv.any fun _ => false
    induction lv with
    | nil => rfl
    | cons d l ih =>
      rw [List.any_cons, ← ih]
      rfl
  | f + 1, lv => by
    show (lv ++ flatGo f (lv.flatMap inner)).any q = lv.any fun d => q d || (inner d).any (hasB q f)
    rw [List.any_append, flat_any q f, any_or, any_flat]
theorem parts_any (q : PyData → Bool) (d : PyData) : (partsD d).any q = hs9 q d := by
  unfold partsD
  rw [flat_any]
  show (hasB q 9 d || false) = _
  rw [Bool.or_false]
  rfl
theorem gd_hasB {n : Int} (q : PyData → Bool) : ∀ (f k k' : Nat) (d : PyData), Gd n f d → f ≤ k → f ≤ k' → hasB q k d = hasB q k' d
  | 0, _, _, _, h, _, _ => nomatch h
  | f + 1, 0, _, _, _, h, _ => by omega
  | f + 1, _, 0, _, _, _, h => by omega
  | f + 1, k + 1, k' + 1, d, h, h1, h2 => by
    show (q d || (inner d).any (hasB q k)) = (q d || (inner d).any (hasB q k'))
    have e : (inner d).any (hasB q k) = (inner d).any (hasB q k') := by
      rw [Bool.eq_iff_iff, List.any_eq_true, List.any_eq_true]
      constructor
      · rintro ⟨t, ht, hq⟩
        exact ⟨t, ht, by rw [← gd_hasB q f k k' t ((gd_inner h).1 t ht) (by omega) (by omega)]; exact hq⟩
      · rintro ⟨t, ht, hq⟩
        exact ⟨t, ht, by rw [gd_hasB q f k k' t ((gd_inner h).1 t ht) (by omega) (by omega)]; exact hq⟩
    rw [e]
theorem any_congr {q q' : PyData → Bool} : ∀ {l : List PyData}, (∀ t ∈ l, q t = q' t) → l.any q = l.any q'
  | [], _ => rfl
  | t :: l, h => by
    rw [List.any_cons, List.any_cons, h t List.mem_cons_self, any_congr fun u hu => h u (List.mem_cons_of_mem _ hu)]
theorem hs9_in {n : Int} {f : Nat} {d : PyData} (q : PyData → Bool) (h : Gd n (f + 1) d) (hf : f ≤ 8) : hs9 q d = (q d || (inner d).any (hs9 q)) := by
  show (q d || (inner d).any (hasB q 8)) = _
  rw [any_congr fun t ht => gd_hasB q f 8 9 t ((gd_inner h).1 t ht) hf (by omega)]
  rfl
theorem hasB_congr {n : Int} {q q' : PyData → Bool} (hq : ∀ f d, Gd n f d → q d = q' d) : ∀ (k f : Nat) (d : PyData), Gd n f d → hasB q k d = hasB q' k d
  | 0, _, _, _ => rfl
  | k + 1, 0, _, h => nomatch h
  | k + 1, f + 1, d, h => by
    show (q d || (inner d).any (hasB q k)) = (q' d || (inner d).any (hasB q' k))
    rw [hq _ d h, any_congr fun t ht => hasB_congr hq k f t ((gd_inner h).1 t ht)]
/-- a part with the word z and the name x -/
def isN (z x : Str) (p : PyData) : Bool := isW z p && decide (nm p = x)
theorem names_mem {z x : Str} {d : PyData} : x ∈ namesD z d ↔ hs9 (isN z x) d = true := by
  rw [← parts_any, List.any_eq_true]
  unfold namesD withD
  rw [List.mem_map]
  constructor
  · rintro ⟨p, hp, e⟩
    have h := List.mem_filter.mp hp
    exact ⟨p, h.1, Bool.and_eq_true_iff.mpr ⟨h.2, decide_eq_true e⟩⟩
  · rintro ⟨p, hp, e⟩
    have h := Bool.and_eq_true_iff.mp e
    exact ⟨p, List.mem_filter.mpr ⟨hp, h.1⟩, of_decide_eq_true h.2⟩
theorem tickD_is (d : PyData) : tickD d = hs9 (isW "tick") d := by
  rw [← parts_any]
  unfold tickD withD
  generalize partsD d = l
  induction l with
  | nil => rfl
  | cons p l ih =>
    rw [List.any_cons]
    cases e : isW "tick" p with
    | true => rw [List.filter_cons_of_pos e, Bool.true_or]; exact decide_eq_true (Nat.succ_pos _)
    | false =>
      rw [List.filter_cons_of_neg (by rw [e]; decide), ih]
      rfl
/-- the law's own look at the tick -/
def qT (d : PyData) : Bool := PyData.eqv d (.tuple [.str "tick"])
theorem str_beq (a b : Str) : (a == b) = decide (a = b) := by
  by_cases h : a = b
  · subst h
    rw [beq_self_eq_true, decide_eq_true rfl]
  · rw [decide_eq_false h]
    exact beq_eq_false_iff_ne.mpr h
theorem qT_is {n : Int} {f : Nat} {d : PyData} (h : Gd n f d) : qT d = isW "tick" d := by
  cases h with
  | val h0 h3 =>
    have e : isValue (.int _) = true := Bool.and_eq_true_iff.mpr ⟨decide_eq_true h0, decide_eq_true h3⟩
    show false = (!isValue (.int _) && false)
    rw [Bool.and_false]
  | arg _ _ => rfl
  | cell _ => rfl
  | tick => rfl
  | call _ _ _ => rfl
  | @op _ z ts hz _ =>
    rcases op_word hz with rfl | rfl | rfl | rfl <;> rfl
theorem hs_tick {n : Int} {f : Nat} {d : PyData} (h : Gd n f d) : hs9 qT d = tickD d := by
  rw [tickD_is]
  exact hasB_congr (fun f d h => qT_is h) 9 f d h
theorem name_ok {x : Str} (h : isName (.str x) = true) : PyData.strOk x = true := by
  have h1 := (Bool.and_eq_true_iff.mp (show (decide (1 ≤ (x.length : Int)) && decide ((x.length : Int) ≤ 8) && x.cps.toList.all lowCode) = true from h)).2
  unfold PyData.strOk
  rw [← Array.all_toList]
  refine List.all_eq_true.mpr fun c hc => ?_
  have h2 := Bool.and_eq_true_iff.mp (show (decide (97 ≤ c) && decide (c ≤ 122)) = true from List.all_eq_true.mp h1 c hc)
  have h3 := of_decide_eq_true h2.2
  exact decide_eq_true (by omega)
theorem word_ok {z : Str} (h : z = "if" ∨ z = "plus" ∨ z = "less" ∨ z = "same") : PyData.strOk z = true := by
  rcases h with rfl | rfl | rfl | rfl <;> decide +kernel
theorem canLay_of : ∀ {ts : List PyData}, (∀ t ∈ ts, t.canLay0 = true) → PyData.canLayAll0 ts = true
  | [], _ => rfl
  | t :: ts, h => by
    show (t.canLay0 && PyData.canLayAll0 ts) = true
    rw [h t List.mem_cons_self, canLay_of fun u hu => h u (List.mem_cons_of_mem _ hu)]
    rfl
theorem depth_of {m : Nat} : ∀ {ts : List PyData}, (∀ t ∈ ts, t.depth ≤ m) → PyData.depthAll ts ≤ m
  | [], _ => Nat.zero_le _
  | t :: ts, h => by
    show max t.depth (PyData.depthAll ts) ≤ m
    have h1 := h t List.mem_cons_self
    have h2 := depth_of fun u hu => h u (List.mem_cons_of_mem _ hu)
    omega
theorem gd_lay {n : Int} : ∀ (f : Nat) (d : PyData), Gd n f d → d.canLay0 = true ∧ d.depth ≤ 2 * f
  | 0, _, h => nomatch h
  | f + 1, d, h => by
    cases h with
    | val _ _ => exact ⟨rfl, Nat.zero_le _⟩
    | arg _ _ =>
      refine ⟨?_, ?_⟩
      · show (PyData.strOk "arg" && (true && true)) = true
        decide +kernel
      · show (max 0 (max 0 0)) + 1 ≤ _
        omega
    | @cell _ x hx =>
      refine ⟨?_, ?_⟩
      · show (PyData.strOk "cell" && (PyData.strOk x && true)) = true
        rw [name_ok hx]
        decide +kernel
      · show (max 0 (max 0 0)) + 1 ≤ _
        omega
    | tick =>
      refine ⟨by decide +kernel, ?_⟩
      show (max 0 0) + 1 ≤ _
      omega
    | @call _ x ts hx hl ht =>
      refine ⟨?_, ?_⟩
      · show (PyData.strOk "call" && (PyData.strOk x && (PyData.canLayAll0 ts && true))) = true
        rw [name_ok hx, canLay_of fun t h => (gd_lay f t (ht t h)).1]
        decide +kernel
      · have h1 := depth_of fun t h => (gd_lay f t (ht t h)).2
        show (max 0 (max 0 (max (PyData.depthAll ts + 1) 0))) + 1 ≤ _
        omega
    | @op _ z ts hz ht =>
      refine ⟨?_, ?_⟩
      · show (PyData.strOk z && PyData.canLayAll0 ts) = true
        rw [word_ok (op_word hz), canLay_of fun t h => (gd_lay f t (ht t h)).1]
        rfl
      · have h1 := depth_of fun t h => (gd_lay f t (ht t h)).2
        show (max 0 (PyData.depthAll ts)) + 1 ≤ _
        omega
theorem gd_shaped {n : Int} {f : Nat} {d : PyData} (h : Gd n f d) (hf : f ≤ 8) : SeqAt.shaped d = true := by
  have h1 := gd_lay f d h
  exact Bool.and_eq_true_iff.mpr ⟨h1.1, decide_eq_true (by omega)⟩
theorem gd_tup {n : Int} {f : Nat} {d : PyData} (h : Gd n f d) : (∃ i, d = .int i ∧ 0 ≤ i ∧ i < 3) ∨ ∃ z rest, d = .tuple (.str z :: rest) ∧ (z = "call" → ∃ x ts, rest = [.str x, .tuple ts]) ∧ (z = "tick" → rest = []) := by
  cases h with
  | val h0 h3 => exact .inl ⟨_, rfl, h0, h3⟩
  | arg _ _ => exact .inr ⟨"arg", _, rfl, fun e => absurd e (by decide +kernel), fun e => absurd e (by decide +kernel)⟩
  | cell _ => exact .inr ⟨"cell", _, rfl, fun e => absurd e (by decide +kernel), fun e => absurd e (by decide +kernel)⟩
  | tick => exact .inr ⟨"tick", _, rfl, fun e => absurd e (by decide +kernel), fun _ => rfl⟩
  | call _ _ _ => exact .inr ⟨"call", _, rfl, fun _ => ⟨_, _, rfl⟩, fun e => absurd e (by decide +kernel)⟩
  | @op _ z ts hz _ =>
    refine .inr ⟨z, ts, rfl, fun e => ?_, fun e => ?_⟩
    · rcases op_word hz with h | h | h | h <;> (rw [h] at e; exact absurd e (by decide +kernel))
    · rcases op_word hz with h | h | h | h <;> (rw [h] at e; exact absurd e (by decide +kernel))
/-! ### the law's look into a term -/
abbrev sLInner : Stmt := topS 30
theorem scLInner : FnScope ["_law_term_here"] ["_law_term_here"] (defScope sLInner) := ⟨rfl, rfl, rfl, by decide +kernel, rfl, by decide +kernel, by decide +kernel⟩
theorem in_three (z a b c : Str) : inV (.str z) [.str a, .str b, .str c] = decide (z = a ∨ z = b ∨ z = c) := by
  show ((a == z) || ((b == z) || ((c == z) || false))) = _
  rw [str_beq, str_beq, str_beq, Bool.or_false, Bool.eq_iff_iff, Bool.or_eq_true, Bool.or_eq_true, decide_eq_true_eq, decide_eq_true_eq, decide_eq_true_eq, decide_eq_true_eq]
  constructor
  · rintro (h | h | h)
    · exact .inl h.symm
    · exact .inr (.inl h.symm)
    · exact .inr (.inr h.symm)
  · rintro (h | h | h)
    · exact .inl h.symm
    · exact .inr (.inl h.symm)
    · exact .inr (.inr h.symm)
def spLInner (K : PySem.W.Frag) : Sp := fun vs H Q _ => ∃ (v : V) (d : PyData) (n : Int) (f : Nat), vs = [v] ∧ Dp K H v d ∧ Gd n f d ∧
  ∀ p xs H', Same H H' → H p = none → H' p = some (.lst xs) → DpAll K H xs (inner d) → Q (.ref p) H'
section
variable {P : Program} {w : World} {K : PySem.W.Frag} {mg : Str → Option Value} {base : Heap}
theorem ok_linner {f : Addr} {fd : FuncData} (F : Fun K "_law_inner" "_law_inner" sLInner f fd) (M : Blt mg) : FnOk P w K mg base CX0 1 f fd ["_law_term_here"] (spLInner K) := by
  refine F.ok scLInner (fun vs H Q E h => ?_) (fun cdv A outer s H vs Q E hr h => ?_)
  · obtain ⟨v, d, n, f, rfl, _⟩ := h
    rfl
  · obtain ⟨v, d, n, g, rfl, hv, hg, q⟩ := h
    refine ⟨_, pss_cons (ps_if (PW.pt (pw_or (pt_not (pt_val (pe_callB call_isi (by rfl) M.isinstance (by decide +kernel) (pa_cons (pv 0) (pa_cons (pe_bltn (v := .ty "tuple") (by rfl) M.tuple (by decide +kernel) rfl) pa_nil)))))
        (pw_or1 (pt_cmpR op_in_seq (pe_ix ix_tup (pv 0) pe_int (fun _ _ => rfl)) (pe_lst (pa_cons pe_str (pa_cons pe_str (pa_cons pe_str pa_nil)))) (by rfl))))) (pss_one (ps_ret (pe_lst pa_nil))) pss_nil)
      (pss_one (ps_ret (pe_ifExp (pt_cmpR op_eq (pe_ix ix_tup (pv 0) pe_int (fun _ _ => rfl)) pe_str (nomark _)) (pe_callTy call_list_of (by rfl) M.list (by decide +kernel) (pa_cons (pe_ix ix_tup (pv 0) pe_int (fun _ _ => rfl)) pa_nil))
        (pe_callTy call_list_of (by rfl) M.list (by decide +kernel) (pa_cons (pe_slice sl_tup (pv 0) (po_some pe_int) po_none) pa_nil))))), ?_⟩
    have fin : ∀ xs H1, Same H H1 → DpAll K H xs (inner d) → ∀ p, H1 p = none → Q (.ref p) (upd H1 p (.lst xs)) := fun xs H1 s1 ha p np => q p xs _ (s1.trans (same_upd np)) (s1.free np) upd_same ha
    refine ⟨v, rfl, v, _, _, _, _, rfl, .ty "tuple", dp_ty hv, kit_tup K d, _, rfl, ?_⟩
    rcases gd_tup hg with ⟨i, rfl, _, _⟩ | ⟨z, rest, rfl, hcall, htick⟩
    · exact iteT ⟨Nat.zero_le _, fun p np => fin [] H (Same.refl H) .nil p np⟩
    · cases hv with
      | @tup a xs _ hs ha =>
        cases ha with
        | @cons x0 xr _ _ h0 hr0 =>
          cases h0
          have at0 : atI (V.str z :: xr) (0 : Int) = some (.str z) := atI_nat (j := 0) rfl
          refine iteF ⟨_, rfl, a, _, 0, .str z, rfl, rfl, hs, at0, (by show 3 ≤ sizeLine; decide), fun p np => ?_⟩
          have s2 : Same H (upd H p (.lst [.str "arg", .str "cell", .str "tick"])) := same_upd np
          refine ⟨p, _, rfl, .inl (.inl (.inl upd_same)), rfl, rfl, _, rfl, ?_⟩
          rw [in_three]
          by_cases z1 : z = "arg" ∨ z = "cell" ∨ z = "tick"
          · rw [decide_eq_true z1]
            have ei : inner (.tuple (.str z :: rest)) = [] := by
              rcases z1 with rfl | rfl | rfl
              · rfl
              · rfl
              · rw [htick rfl]
                rfl
            exact iteT ⟨Nat.zero_le _, fun p2 np2 => fin [] _ s2 (by rw [ei]; exact .nil) p2 np2⟩
          · rw [decide_eq_false z1]
            have z2 : ¬ (z = "arg" ∨ z = "cell") := fun h => z1 (h.elim .inl (fun h => .inr (.inl h)))
            have hs2 := same_sqT s2 hs
            refine iteF ⟨_, rfl, a, _, 0, .str z, rfl, rfl, hs2, at0, rfl, _, rfl, ?_⟩
            rw [dstr]
            by_cases z3 : z = "call"
            · rw [decide_eq_true z3]
              have ei : inner (.tuple (.str z :: rest)) = second rest := (if_neg z2).trans (if_pos z3)
              obtain ⟨x, ts, rfl⟩ := hcall z3
              cases hr0 with
              | @cons x1 xr1 _ _ h1 hn1 =>
                cases hn1 with
                | @cons x2 xr2 _ _ h2 hn2 =>
                  cases hn2
                  cases h2 with
                  | @tup b ys _ hb hys =>
                    have at2 : atI [.str z, x1, V.ref b] (2 : Int) = some (.ref b) := atI_nat (j := 2) rfl
                    exact iteT ⟨_, rfl, a, _, 2, _, rfl, rfl, hs2, at2, b, ys, rfl, .inr (same_sqT s2 hb), fun p2 np2 => fin ys _ s2 (by rw [ei]; exact hys) p2 np2⟩
            · rw [decide_eq_false z3]
              have ei : inner (.tuple (.str z :: rest)) = rest := (if_neg z2).trans (if_neg z3)
              refine iteF ⟨_, rfl, 1, rfl, a, _, rfl, hs2, ?_, fun p2 np2 => ?_⟩
              · intro h
                have h1 := h.1
                rw [show HT.sIx (V.str z :: xr).length 0 (some 1) = min 1 (V.str z :: xr).length from HT.sIx_nat _ 0 1, List.length_cons] at h1
                omega
              · have s3 := s2.trans (same_upd (o := .tup (cutV (V.str z :: xr) (some 1) none)) np2)
                refine ⟨p2, cutV (V.str z :: xr) (some 1) none, rfl, .inr (.inl (.inl upd_same)), fun p3 np3 => fin _ _ s3 ?_ p3 np3⟩
                rw [ei, cut1]
                exact hr0
end
/-! ### what the law counts -/
def mergeN (cs ts : List Str) : List Str := cs ++ ts.filter fun x => !decide (x ∈ cs)
theorem mergeN_mem {cs ts : List Str} {x : Str} : x ∈ mergeN cs ts ↔ x ∈ cs ∨ x ∈ ts := by
  unfold mergeN
  rw [List.mem_append, List.mem_filter]
  by_cases h : x ∈ cs
  · exact ⟨fun _ => .inl h, fun _ => .inl h⟩
  · rw [decide_eq_false h]
    exact ⟨fun q => q.imp id (·.1), fun q => q.imp id fun q => ⟨q, rfl⟩⟩
theorem mergeN_nodup {cs ts : List Str} (h1 : cs.Nodup) (h2 : ts.Nodup) : (mergeN cs ts).Nodup := by
  unfold mergeN
  rw [List.nodup_append]
  refine ⟨h1, h2.filter _, fun a ha b hb e => ?_⟩
  have h := (List.mem_filter.mp hb).2
  rw [← e, decide_eq_true ha] at h
  cases h
theorem mergeN_len {cs ts : List Str} : (mergeN cs ts).length ≤ cs.length + ts.length := by
  unfold mergeN
  rw [List.length_append]
  have := List.length_filter_le (fun x => !decide (x ∈ cs)) ts
  omega
theorem inV_strs (x : Str) : ∀ cs : List Str, inV (.str x) (cs.map V.str) = decide (x ∈ cs)
  | [] => rfl
  | c :: cs => by
    have ih := inV_strs x cs
    show ((c == x) || inV (.str x) (cs.map V.str)) = _
    rw [ih, str_beq, Bool.eq_iff_iff, Bool.or_eq_true, decide_eq_true_eq, decide_eq_true_eq, decide_eq_true_eq, List.mem_cons]
    exact ⟨fun q => q.imp Eq.symm id, fun q => q.imp Eq.symm id⟩
theorem flat_strs : ∀ cs : List Str, (cs.map V.str).all flatV = true
  | [] => rfl
  | _ :: cs => by
    rw [List.map_cons, List.all_cons, flat_strs cs]
    rfl
def NameSet (z : Str) (d : PyData) (cs : List Str) : Prop := cs.Nodup ∧ (∀ x, x ∈ cs ↔ hs9 (isN z x) d = true) ∧ cs.length ≤ sz9 d
def PSet (z : Str) (d : PyData) (l : List PyData) (cs : List Str) : Prop := cs.Nodup ∧ (∀ x, x ∈ cs ↔ (isN z x d || l.any (hs9 (isN z x))) = true) ∧ cs.length ≤ 1 + (l.map sz9).sum
def init0 (z : Str) (d : PyData) : List Str := if isW z d = true then [nm d] else []
theorem pset_init (z : Str) (d : PyData) : PSet z d [] (init0 z d) := by
  unfold init0
  split
  · rename_i h
    refine ⟨by simp, fun x => ?_, Nat.le_add_right 1 0⟩
    show x ∈ [nm d] ↔ ((isW z d && decide (nm d = x)) || false) = true
    rw [h, Bool.or_false, Bool.true_and, decide_eq_true_eq, List.mem_singleton]
    exact eq_comm
  · rename_i h
    refine ⟨.nil, fun x => ?_, Nat.zero_le _⟩
    show x ∈ [] ↔ ((isW z d && decide (nm d = x)) || false) = true
    rw [Bool.not_eq_true] at h
    rw [h]
    simp
theorem pset_step {z : Str} {d t : PyData} {l : List PyData} {cs ts : List Str} (h1 : PSet z d l cs) (h2 : NameSet z t ts) : PSet z d (l ++ [t]) (mergeN cs ts) := by
  refine ⟨mergeN_nodup h1.1 h2.1, fun x => ?_, ?_⟩
  · rw [mergeN_mem, h1.2.1 x, h2.2.1 x, List.any_append, List.any_cons, List.any_nil, Bool.or_false, ← Bool.or_assoc, Bool.or_eq_true (isN z x d || l.any (hs9 (isN z x))) _]
  · have h3 := mergeN_len (cs := cs) (ts := ts)
    have h4 := h1.2.2
    have h5 := h2.2.2
    rw [List.map_append, List.sum_append, List.map_cons, List.sum_cons]
    simp only [List.map_nil, List.sum_nil]
    omega
theorem pset_done {z : Str} {n : Int} {f : Nat} {d : PyData} {cs : List Str} (h : Gd n (f + 1) d) (hf : f ≤ 8) (h1 : PSet z d (inner d) cs) : NameSet z d cs := by
  refine ⟨h1.1, fun x => ?_, ?_⟩
  · rw [h1.2.1 x, hs9_in _ h hf]
  · rw [sz9_in h hf]
    exact h1.2.2
def dT4 (s : Int) (c k : Addr) (b : Bool) : List (Key × V) := [(.inr "size", .int s), (.inr "cell", .ref c), (.inr "call", .ref k), (.inr "tick", .bl b)]
def Told (H : Hp) (r : Addr) (d : PyData) : Prop := ∃ c k cs ks, H r = some (.dK (dT4 (sz9 d) c k (hs9 qT d) ++ [(.inr "depth", .int (dp9 d))])) ∧ H c = some (.lst (cs.map V.str)) ∧ H k = some (.lst (ks.map V.str)) ∧ NameSet "cell" d cs ∧ NameSet "call" d ks
theorem q_seqP {ta tz : TS} {D : Ends} {σ : L2.St} {H : Hp} (Pr : L2.St → Hp → Prop) (h : ∀ D' : Ends, (∀ σ' H', Pr σ' H' → D'.nx σ' H') → ta D' σ H) (k : ∀ σ' H', Pr σ' H' → tz D σ' H') : tSeq ta tz D σ H := h { D with nx := tz D } k
theorem orif {b b2 : Bool} {Q : VK} {H : Hp} {te : TE} {σ : L2.St} (ht : ∀ Q : VK, Q (.bl b2) H → te σ H Q) (h : Q (.bl (b || b2)) H) : if b = true then Q (.bl true) H else te σ H Q := by
  cases b with
  | true => exact h
  | false => exact ht _ h
theorem same_butN {p : Addr} {H H1 H2 : Hp} (s : Same H H1) (n : H p = none) (h2 : But p H1 H2) : Same H H2 := fun b o e => h2 b o (s b o e) (ne_of_none e n)
theorem dg {H : Hp} {r : Addr} {kv : List (Key × V)} (e : H r = some (.dK kv)) (z : Str) {v : V} (h : valV kv (.inr z) = some v) : DGet H r (.str z) (some v) := .inl ⟨kv, .inr z, .inl e, rfl, h.symm⟩
theorem dput {H : Hp} {r : Addr} {kv : List (Key × V)} (e : H r = some (.dK kv)) (z : Str) (v : V) (h : kv.length ≤ 10) : DPut H r (.str z) v (upd H r (.dK (putK kv (.inr z) v))) := .inl ⟨kv, .inr z, e, rfl, Nat.lt_of_le_of_lt h (by decide), rfl⟩
theorem sum_le {B : Nat} : ∀ {l : List PyData}, (∀ t ∈ l, sz9 t ≤ B) → (l.map sz9).sum ≤ l.length * B
  | [], _ => Nat.zero_le _
  | a :: l, h => by
    rw [List.map_cons, List.sum_cons, List.length_cons, Nat.succ_mul]
    have := h a List.mem_cons_self
    have := sum_le (l := l) fun t ht => h t (List.mem_cons_of_mem _ ht)
    omega
abbrev sCounts : Stmt := topS 31
theorem scCounts : FnScope ["_law_term_here", "_law_found", "_law_parts", "_law_deepest", "_law_part", "_law_told", "_law_kind", "_law_word"] ["_law_term_here"] (defScope sCounts) := ⟨rfl, rfl, rfl, by decide +kernel, rfl, by decide +kernel, by decide +kernel⟩
def spCounts (K : PySem.W.Frag) (m : Nat) : Sp := fun vs H Q _ => ∃ (v : V) (d : PyData) (n : Int) (f : Nat), vs = [v] ∧ Dp K H v d ∧ Gd n f d ∧ f ≤ m ∧ m ≤ 8 ∧ ∀ r H', Same H H' → Told H' r d → Q (.ref r) H'
theorem dpA_butK {K : PySem.W.Frag} {r : Addr} {H H' : Hp} {kv : List (Key × V)} (hr : H r = some (.dK kv)) (b : But r H H') {ds : List PyData} {xs : List V} (nl : noLs ds = true) (h : DpAll K H xs ds) : DpAll K H' xs ds :=
  dpAll_tups (fun a ys hs => by
    rcases hs with (h | ⟨o, h⟩) | h
    · exact .inl (.inl (b _ _ h (ne_of h hr (fun z => nomatch z))))
    · exact .inl (.inr ⟨o, b _ _ h (ne_of h hr (fun z => nomatch z))⟩)
    · exact .inr h) ds xs nl h
section
variable {P : Program} {w : World} {K : PySem.W.Frag} {mg : Str → Option Value} {base : Heap}
theorem ok_counts {f fI : Addr} {fd dI : FuncData} (F : Fun K "_law_counts" "_law_counts" sCounts f fd) (M : Blt mg) (bF : Binds K fd ["_law_term_here"] []) (gF : mg "_law_counts" = some (.ref f))
    (FI : Fun K "_law_inner" "_law_inner" sLInner fI dI) (bI : Binds K dI ["_law_term_here"] []) (gI : mg "_law_inner" = some (.ref fI)) :
    ∀ m : Nat, FnOk P w K mg base CX0 (m + 2) f fd ["_law_term_here"] (spCounts K m) := by
  have GI : FnOk P w K mg base CX0 1 fI dI ["_law_term_here"] (spLInner K) := ok_linner FI M
  intro m
  induction m with
  | zero =>
    refine F.ok scCounts (fun vs H Q E h => ?_) (fun cdv A outer s H vs Q E hr h => ?_)
    · obtain ⟨v, d, n, g, rfl, _⟩ := h
      rfl
    · obtain ⟨v, d, n, g, rfl, _, hg, h0, _⟩ := h
      have e : g = 0 := by omega
      subst e
      nomatch hg
  | succ m GC =>
    refine F.ok scCounts (fun vs H Q E h => ?_) (fun cdv A outer s H vs Q E hr h => ?_)
    · obtain ⟨v, d, n, g, rfl, _⟩ := h
      rfl
    · obtain ⟨v, d, n, g, rfl, hv, hg, hgm, hm, q⟩ := h
      have hr1 : Room 1 _ := hr.mono (by omega)
      have hu := hu_of hr
      refine ⟨_, pss_cons (ps_asg (pe_tup (pa_cons (pe_disp (pps_cons pe_str pe_int (pps_cons pe_str (pe_lst pa_nil) (pps_cons pe_str (pe_lst pa_nil) (pps_cons pe_str pe_bl pps_nil)))) rfl rfl (by simp) (by decide))
            (pa_cons (pe_call GI hr1 (by rfl) gI FI.kp bI .nil pass0 (pa_cons (pv 0) pa_nil)) pa_nil))) (pg_tup (by rfl) (pgs_cons (pg_name (i := 1) scCounts.nd rfl (.inr rfl)) (pgs_cons (pg_name (i := 2) scCounts.nd rfl (.inl rfl)) pgs_nil))))
        (pss_cons (ps_set (i := 3) scCounts.nd rfl (.inl rfl) pe_int)
        (pss_cons (ps_if (PW.pt (pw_and (pt_val (pe_callB call_isi (by rfl) M.isinstance (by decide +kernel) (pa_cons (pv 0) (pa_cons (pe_bltn (v := .ty "tuple") (by rfl) M.tuple (by decide +kernel) rfl) pa_nil))))
            (pw_and1 (pt_cmpR op_in_seq (pe_ix ix_tup (pv 0) pe_int (fun _ _ => rfl)) (pe_lst (pa_cons pe_str (pa_cons pe_str pa_nil))) (by rfl)))))
          (pss_one (ps_dput hu (pv 1) (pe_ix ix_tup (pv 0) pe_int (fun _ _ => rfl)) (pe_lst (pa_cons (pe_ix ix_tup (pv 0) pe_int (fun _ _ => rfl)) pa_nil)) (by rfl))) pss_nil)
        (pss_cons (ps_dput hu (pv 1) pe_str (pe_cmpR (op_eqD hr.units) (pv 0) (pe_tup (pa_cons pe_str pa_nil)) (nomark _)) (by rfl))
        (pss_cons (ps_for PassesOwn.never rfl (pi_list (pv 2)) (pg_name (i := 4) scCounts.nd rfl (.inl rfl))
          (pss_cons (ps_set (i := 5) scCounts.nd rfl (.inl rfl) (pe_call GC hr (by rfl) gF F.kp bF .nil pass0 (pa_cons (pv 4) pa_nil)))
          (pss_cons (ps_asg (pe_tup (pa_cons (pe_op op_add (pe_dget hu (pv 1) pe_str (fun _ _ => rfl)) (pe_dget hu (pv 5) pe_str (fun _ _ => rfl))) (pa_cons (pe_or (pe_dget hu (pv 1) pe_str (fun _ _ => rfl)) (pe_one (pe_dget hu (pv 5) pe_str (fun _ _ => rfl)))) pa_nil)))
              (pg_tup (by rfl) (pgs_cons (pg_sub (pv 1) pe_str (set_dict hu)) (pgs_cons (pg_sub (pv 1) pe_str (set_dict hu)) pgs_nil))))
          (pss_cons (ps_set (i := 3) scCounts.nd rfl (.inl rfl) (pe_callB (call_max2 rfl) (by rfl) M.max (by decide +kernel) (pa_cons (pe_callTy call_int1 (by rfl) M.int (by decide +kernel) (pa_cons (pv 3) pa_nil))
              (pa_cons (pe_callTy call_int1 (by rfl) M.int (by decide +kernel) (pa_cons (pe_dget hu (pv 5) pe_str (fun _ _ => rfl)) pa_nil)) pa_nil))))
          (pss_one (ps_for PassesOwn.never rfl (pi_list (pe_lst (pa_cons pe_str (pa_cons pe_str pa_nil)))) (pg_name (i := 6) scCounts.nd rfl (.inr rfl))
            (pss_one (ps_dput hu (pv 1) (pv 6) (pe_op op_cat (pe_dget hu (pv 1) (pv 6) (fun _ _ => rfl))
              (pe_lc (own := [("_law_word", 7)]) (g := gName 7) (wi := iList K (tDGet (tVar 5) (tVar 6))) (tt := tTest (tOp (rIn K true) (tVar 7) (tDGet (tVar 1) (tVar 6)))) (by rfl) scCounts.nd (pi_list (pe_dget hu (pv 5) (pv 6) (fun _ _ => rfl))) (blkOk_by (own := [("_law_word", 7)]) (N := ["_law_term_here", "_law_found", "_law_parts", "_law_deepest", "_law_part", "_law_told", "_law_kind", "_law_word"]) (sc := defScope sCounts) (by decide +kernel))
                (fun _ _ _ _ _ => pg_name (i := 7) scCounts.nd rfl (Or.inl rfl)) (fun _ _ _ _ _ => pts_one (pt_cmpR op_notIn_seq (pv 7) (pe_dget hu (pv 1) (pv 6) (fun _ _ => rfl)) (by rfl))) (fun _ _ _ _ _ => pv 7))) (by rfl)))))))))
        (pss_cons (ps_dput hu (pv 1) pe_str (pe_op op_add pe_int (pv 3)) (by rfl))
        (pss_one (ps_ret (pv 1)))))))), ?_⟩
      cases g with
      | zero => nomatch hg
      | succ g =>
      have hg8 : g ≤ 8 := by omega
      have hinn := gd_inner hg
      -- the new table
      refine fun r nr => ⟨Nat.zero_le _, fun c0 nc => ⟨Nat.zero_le _, fun k0 nk => ⟨?_, [(.inr "size", .int 1), (.inr "cell", .ref c0), (.inr "call", .ref k0), (.inr "tick", .bl false)], rfl, Nat.le_of_ble_eq_true rfl, ?_⟩⟩⟩
      · rw [upd_ne (ne_of_none (by rw [upd_ne (ne_of_none upd_same nc)]; exact upd_same) nk), upd_ne (ne_of_none upd_same nc)]
        exact upd_same
      generalize hH1 : upd (upd (upd (upd H r (.dK [])) c0 (.lst [])) k0 (.lst [])) r (.dK (mergeK [] [((.inr "size" : Key), V.int 1), (.inr "cell", .ref c0), (.inr "call", .ref k0), (.inr "tick", .bl false)])) = H1
      have nrc : c0 ≠ r := fun e => by
        rw [e, upd_same] at nc
        cases nc
      have nrk : k0 ≠ r := fun e => by
        rw [e, upd_ne (Ne.symm nrc), upd_same] at nk
        cases nk
      have nck : c0 ≠ k0 := fun e => by
        rw [← e, upd_same] at nk
        cases nk
      have s1 : Same H H1 := fun b o e => by
        have b1 : b ≠ r := ne_of_none e nr
        have b2 : b ≠ c0 := fun h => by
          rw [h] at e
          rw [upd_ne nrc, e] at nc
          cases nc
        have b3 : b ≠ k0 := fun h => by
          rw [h] at e
          rw [upd_ne (Ne.symm nck), upd_ne nrk, e] at nk
          cases nk
        rw [← hH1, upd_ne b1, upd_ne b3, upd_ne b2, upd_ne b1]
        exact e
      have e1r : H1 r = some (.dK (dT4 1 c0 k0 false)) := by
        rw [← hH1]
        exact upd_same
      have e1c : H1 c0 = some (.lst []) := by
        rw [← hH1, upd_ne nrc, upd_ne nck]
        exact upd_same
      have e1k : H1 k0 = some (.lst []) := by
        rw [← hH1, upd_ne nrk]
        exact upd_same
      clear hH1
      -- what stands within
      refine ⟨v, rfl, v, d, n, g + 1, rfl, dp_same s1 hv, hg, fun l0 xs H2 s2 nq eq hxs => ⟨(by show 2 ≤ sizeLine; decide), fun t nt => ?_⟩⟩
      refine ⟨t, _, rfl, .inl (.inl upd_same), rfl, _, _, rfl, _, _, rfl, rfl, ?_⟩
      have st : Same H2 (upd H2 t (.tup [.ref r, .ref l0])) := same_upd nt
      generalize upd H2 t (.tup [.ref r, .ref l0]) = H3 at st
      have e3r := st _ _ (s2 _ _ e1r)
      have e3c := st _ _ (s2 _ _ e1c)
      have e3k := st _ _ (s2 _ _ e1k)
      have e3q := st _ _ eq
      have hx3 : DpAll K H3 xs (inner d) := dpA_same (s2.trans st) hxs
      have sH3 : Same H H3 := s1.trans (s2.trans st)
      have nlI : noLs (inner d) = true := noLs_of fun t ht => gd_nl g t (hinn.1 t ht)
      have el : xs.length = (inner d).length := dpA_len hx3
      refine q_c (i := 3) (v := .int 0) ?_
      dsimp only [List.set]
      -- its own name
      refine q_seqP (fun σ' H' => σ' = [some v, some (.ref r), some (.ref l0), some (.int 0), none, none, none, none] ∧ But r H3 H' ∧ ∃ c k, H' r = some (.dK (dT4 1 c k false)) ∧ H' c = some (.lst ((init0 "cell" d).map V.str)) ∧ H' k = some (.lst ((init0 "call" d).map V.str))) (fun D' hD' => ?_) (fun σ' H4 hP => ?_)
      · have hv3 := dp_same sH3 hv
        refine ⟨v, rfl, v, _, _, _, _, rfl, .ty "tuple", dp_ty hv3, kit_tup K d, _, rfl, ?_⟩
        rcases gd_tup hg with ⟨i, rfl, _, _⟩ | ⟨z, rest, rfl, _, _⟩
        · refine iteF (iteF (hD' _ _ ⟨rfl, But.refl _ _, c0, k0, e3r, ?_, ?_⟩))
          · rw [e3c]
            unfold init0 isW headIs
            rw [Bool.and_false]
            rfl
          · rw [e3k]
            unfold init0 isW headIs
            rw [Bool.and_false]
            rfl
        · have fm := gd_form hg
          have ew : ∀ y : Str, isW y (.tuple (.str z :: rest)) = decide (z = y) := fun y => rfl
          cases hv3 with
          | @tup a ys _ hs ha =>
            cases ha with
            | @cons x0 xr _ _ h0 hr0 =>
              cases h0
              have at0 : atI (V.str z :: xr) (0 : Int) = some (.str z) := atI_nat (j := 0) rfl
              refine iteT ⟨_, rfl, a, _, 0, .str z, rfl, rfl, hs, at0, (by show 2 ≤ sizeLine; decide), fun l nl => ?_⟩
              have sl : Same H3 (upd H3 l (.lst [.str "cell", .str "call"])) := same_upd nl
              refine ⟨l, _, rfl, .inl (.inl (.inl upd_same)), rfl, rfl, _, rfl, ?_⟩
              rw [in_two]
              by_cases hz : z = "cell" ∨ z = "call"
              · rw [decide_eq_true hz]
                generalize upd H3 l (.lst [.str "cell", .str "call"]) = H5 at sl
                rcases hz with rfl | rfl
                · obtain ⟨x', rest', er⟩ := w_cell fm rfl
                  have er1 : rest = .str x' :: rest' := by injection er with er; injection er
                  subst er1
                  cases hr0 with
                  | @cons x1 xr1 _ _ h1 hr1' =>
                    cases h1
                    refine iteT ⟨_, rfl, a, _, 1, .str x', rfl, rfl, same_sqT sl hs, atI_nat (j := 1) rfl, (by show 1 ≤ sizeLine; decide), fun l2 nl2 => ?_⟩
                    have sl2 : Same H5 (upd H5 l2 (.lst [.str x'])) := same_upd nl2
                    have el2 : (upd H5 l2 (.lst [.str x'])) l2 = some (.lst [.str x']) := upd_same
                    generalize upd H5 l2 (.lst [.str x']) = H6 at sl2 el2
                    have e6r := (sl.trans sl2) _ _ e3r
                    refine ⟨.ref r, rfl, _, rfl, a, _, 0, .str "cell", rfl, rfl, same_sqT (sl.trans sl2) hs, at0, r, _, rfl, dput e6r "cell" (.ref l2) (Nat.le_of_ble_eq_true rfl), ?_⟩
                    refine hD' _ _ ⟨rfl, (But.of (sl.trans sl2)).trans But.upd, l2, k0, upd_same, ?_, ?_⟩
                    · rw [upd_ne (ne_of el2 e6r (fun z => nomatch z)), el2]
                      rfl
                    · rw [upd_ne (ne_of ((sl.trans sl2) _ _ e3k) e6r (fun z => nomatch z)), (sl.trans sl2) _ _ e3k]
                      rfl
                · obtain ⟨x', rest', er⟩ := w_call fm rfl
                  have er1 : rest = .str x' :: rest' := by injection er with er; injection er
                  subst er1
                  cases hr0 with
                  | @cons x1 xr1 _ _ h1 hr1' =>
                    cases h1
                    refine iteT ⟨_, rfl, a, _, 1, .str x', rfl, rfl, same_sqT sl hs, atI_nat (j := 1) rfl, (by show 1 ≤ sizeLine; decide), fun l2 nl2 => ?_⟩
                    have sl2 : Same H5 (upd H5 l2 (.lst [.str x'])) := same_upd nl2
                    have el2 : (upd H5 l2 (.lst [.str x'])) l2 = some (.lst [.str x']) := upd_same
                    generalize upd H5 l2 (.lst [.str x']) = H6 at sl2 el2
                    have e6r := (sl.trans sl2) _ _ e3r
                    refine ⟨.ref r, rfl, _, rfl, a, _, 0, .str "call", rfl, rfl, same_sqT (sl.trans sl2) hs, at0, r, _, rfl, dput e6r "call" (.ref l2) (Nat.le_of_ble_eq_true rfl), ?_⟩
                    refine hD' _ _ ⟨rfl, (But.of (sl.trans sl2)).trans But.upd, c0, l2, upd_same, ?_, ?_⟩
                    · rw [upd_ne (ne_of ((sl.trans sl2) _ _ e3c) e6r (fun z => nomatch z)), (sl.trans sl2) _ _ e3c]
                      rfl
                    · rw [upd_ne (ne_of el2 e6r (fun z => nomatch z)), el2]
                      rfl
              · rw [decide_eq_false hz]
                refine iteF (hD' _ _ ⟨rfl, But.of sl, c0, k0, sl _ _ e3r, ?_, ?_⟩)
                · rw [sl _ _ e3c]
                  unfold init0
                  rw [ew, decide_eq_false (fun h => hz (.inl h))]
                  rfl
                · rw [sl _ _ e3k]
                  unfold init0
                  rw [ew, decide_eq_false (fun h => hz (.inr h))]
                  rfl
      obtain ⟨rfl, b4, c4, k4, e4r, e4c, e4k⟩ := hP
      have sH4 : Same H H4 := same_butN sH3 nr b4
      -- the tick
      refine ⟨v, rfl, (by show 1 ≤ sizeLine; decide), fun t2 nt2 => ?_⟩
      have st2 : Same H4 (upd H4 t2 (.tup [.str "tick"])) := same_upd nt2
      refine ⟨d, .tuple [.str "tick"], dp_same st2 (dp_same sH4 hv), .tup (.inl (.inl upd_same)) (.cons (.str _) .nil), gd_shaped hg (by omega), by decide +kernel, ?_⟩
      generalize upd H4 t2 (.tup [.str "tick"]) = H5 at st2
      refine ⟨.ref r, rfl, r, _, rfl, dput (st2 _ _ e4r) "tick" _ (Nat.le_of_ble_eq_true rfl), ?_⟩
      have sH5 : Same H H5 := sH4.trans st2
      have b5 : But r H3 (upd H5 r (.dK (putK (dT4 1 c4 k4 false) (.inr "tick") (.bl (PyData.eqv d (.tuple [.str "tick"])))))) := (b4.trans (But.of st2)).trans But.upd
      have e5r : (upd H5 r (.dK (putK (dT4 1 c4 k4 false) (.inr "tick") (.bl (PyData.eqv d (.tuple [.str "tick"])))))) r = some (.dK (dT4 1 c4 k4 (qT d))) := upd_same
      have e5c : (upd H5 r (.dK (putK (dT4 1 c4 k4 false) (.inr "tick") (.bl (PyData.eqv d (.tuple [.str "tick"])))))) c4 = some (.lst ((init0 "cell" d).map V.str)) := by
        rw [upd_ne (ne_of (st2 _ _ e4c) (st2 _ _ e4r) (fun z => nomatch z))]
        exact st2 _ _ e4c
      have e5k : (upd H5 r (.dK (putK (dT4 1 c4 k4 false) (.inr "tick") (.bl (PyData.eqv d (.tuple [.str "tick"])))))) k4 = some (.lst ((init0 "call" d).map V.str)) := by
        rw [upd_ne (ne_of (st2 _ _ e4k) (st2 _ _ e4r) (fun z => nomatch z))]
        exact st2 _ _ e4k
      generalize upd H5 r (.dK (putK (dT4 1 c4 k4 false) (.inr "tick") (.bl (PyData.eqv d (.tuple [.str "tick"]))))) = H6 at b5 e5r e5c e5k
      have nq0 : l0 ≠ r := ne_of e3q e3r (fun z => nomatch z)
      have tk : ∀ {j : Nat} {t : PyData}, (inner d)[j]? = some t → (inner d).take (j + 1) = (inner d).take j ++ [t] := fun h => take_snoc h
      have small : ∀ t ∈ inner d, sz9 t ≤ 65536 := fun t ht => Nat.le_trans (gd_many g 9 t (hinn.1 t ht)) (Nat.pow_le_pow_right (by decide) hg8)
      have ssum : ∀ j, (((inner d).take j).map sz9).sum ≤ 196608 := fun j => by
        have h1 := sum_le (l := (inner d).take j) fun t ht => small t (List.mem_of_mem_take ht)
        have h2 : ((inner d).take j).length ≤ 3 := by
          rw [List.length_take]
          have := hinn.2
          omega
        have h3 := Nat.mul_le_mul_right 65536 h2
        omega
      refine ⟨_, rfl, l0, rfl, ⟨_, .inl (.inl (b5 _ _ e3q nq0))⟩, ?_⟩
      refine for_list (K := K) (a := l0) (xs := xs) (fun j σ H' => ∃ (y4 y5 y6 : Option V) (c k : Addr) (cs ks : List Str), σ = [some v, some (.ref r), some (.ref l0), some (.int (((((inner d).take j).map dp9).foldr max 0 : Nat) : Int)), y4, y5, y6, none] ∧ But r H3 H' ∧
          H' r = some (.dK (dT4 ((1 + (((inner d).take j).map sz9).sum : Nat) : Int) c k (qT d || ((inner d).take j).any (hs9 qT)))) ∧ H' c = some (.lst (cs.map V.str)) ∧ H' k = some (.lst (ks.map V.str)) ∧ PSet "cell" d ((inner d).take j) cs ∧ PSet "call" d ((inner d).take j) ks)
        ⟨none, none, none, c4, k4, _, _, rfl, b5, (by rw [e5r]; show _ = some (HO.dK (dT4 1 c4 k4 (qT d || false))); rw [Bool.or_false]), e5c, e5k, pset_init _ _, pset_init _ _⟩ (fun j σ H' _ h => ?_) (fun j x σ H7 hx h => ?_) (fun σ H7 h => ?_)
      · obtain ⟨_, _, _, _, _, _, _, _, b, _⟩ := h
        exact .inl (.inl (b _ _ e3q nq0))
      · obtain ⟨y4, y5, y6, c, k, cs, ks, rfl, b7, e7r, e7c, e7k, pc, pk⟩ := h
        have hx7 := dpA_butK e3r b7 nlI hx3
        obtain ⟨t, hd, dx⟩ := dpA_at hx7 hx
        have gt := hinn.1 t (List.mem_of_getElem? hd)
        refine ⟨_, rfl, x, t, n, g, rfl, dx, gt, by omega, by omega, fun r2 H8 s8 told => ?_⟩
        obtain ⟨c2, k2, cs2, ks2, t8r, t8c, t8k, nc2, nk2⟩ := told
        have e8r := s8 _ _ e7r
        refine ⟨_, rfl, r, _, rfl, dg e8r "size" rfl, _, rfl, r2, _, rfl, dg t8r "size" rfl, _, _, rfl, rfl, ?_⟩
        refine ⟨_, rfl, r, _, rfl, dg e8r "tick" rfl, _, rfl, ?_⟩
        refine orif (b2 := hs9 qT t) (fun Q hq => ⟨_, rfl, r2, _, rfl, dg t8r "tick" rfl, hq⟩) ?_
        refine ⟨(by show 2 ≤ sizeLine; decide), fun t3 nt3 => ?_⟩
        refine ⟨t3, _, rfl, .inl (.inl upd_same), rfl, _, _, rfl, _, rfl, r, _, rfl, dput ((same_upd nt3) _ _ e8r) "size" _ (Nat.le_of_ble_eq_true rfl), _, _, rfl, _, rfl, r, _, rfl, dput upd_same "tick" _ (Nat.le_of_ble_eq_true rfl), rfl, ?_⟩
        dsimp only
        have nr2 : r2 ≠ r := ne_of t8r e8r (fun z => absurd (congrArg List.length (HO.dK.inj z)) (by simp [dT4]))
        have nc2' : c2 ≠ r := ne_of t8c e8r (fun z => nomatch z)
        have nk2' : k2 ≠ r := ne_of t8k e8r (fun z => nomatch z)
        have ncr : c ≠ r := ne_of e7c e7r (fun z => nomatch z)
        have nkr : k ≠ r := ne_of e7k e7r (fun z => nomatch z)
        generalize hb' : (qT d || ((inner d).take j).any (hs9 qT) || hs9 qT t) = b'
        generalize hs' : ((1 + (((inner d).take j).map sz9).sum : Nat) : Int) + ((sz9 t : Nat) : Int) = s'
        have b11 : ∀ o1 o2 o3, But r H8 (upd (upd (upd H8 t3 o1) r o2) r o3) := fun o1 o2 o3 => ((But.of (same_upd nt3)).trans But.upd).trans But.upd
        have bb11 := b11 (.tup [.int s', .bl b']) (.dK (putK (dT4 ((1 + (((inner d).take j).map sz9).sum : Nat) : Int) c k (qT d || ((inner d).take j).any (hs9 qT))) (.inr "size") (.int s'))) (.dK (putK (putK (dT4 ((1 + (((inner d).take j).map sz9).sum : Nat) : Int) c k (qT d || ((inner d).take j).any (hs9 qT))) (.inr "size") (.int s')) (.inr "tick") (.bl b')))
        have e11r : (upd (upd (upd H8 t3 (.tup [.int s', .bl b'])) r (.dK (putK (dT4 ((1 + (((inner d).take j).map sz9).sum : Nat) : Int) c k (qT d || ((inner d).take j).any (hs9 qT))) (.inr "size") (.int s')))) r (.dK (putK (putK (dT4 ((1 + (((inner d).take j).map sz9).sum : Nat) : Int) c k (qT d || ((inner d).take j).any (hs9 qT))) (.inr "size") (.int s')) (.inr "tick") (.bl b')))) r = some (.dK (dT4 s' c k b')) := upd_same
        generalize upd (upd (upd H8 t3 (.tup [.int s', .bl b'])) r (.dK (putK (dT4 ((1 + (((inner d).take j).map sz9).sum : Nat) : Int) c k (qT d || ((inner d).take j).any (hs9 qT))) (.inr "size") (.int s')))) r (.dK (putK (putK (dT4 ((1 + (((inner d).take j).map sz9).sum : Nat) : Int) c k (qT d || ((inner d).take j).any (hs9 qT))) (.inr "size") (.int s')) (.inr "tick") (.bl b'))) = H10 at bb11 e11r
        have t10r := bb11 _ _ t8r nr2
        refine ⟨_, rfl, .inl ⟨_, rfl, _, rfl, r2, _, rfl, dg t10r "depth" rfl, .inl ⟨_, rfl, _, _, rfl, ?_⟩⟩⟩
        have lc := pc.2.2
        have lk := pk.2.2
        have sj := ssum j
        have st' := small t (List.mem_of_getElem? hd)
        have lc2 := nc2.2.2
        have lk2 := nk2.2.2
        refine ⟨(by show 2 ≤ sizeLine; decide), fun l nl => ⟨l, rfl, ⟨_, .inl (.inl upd_same)⟩, ?_⟩⟩
        have sl : Same H10 (upd H10 l (.lst [.str "cell", .str "call"])) := same_upd nl
        have elw0 : (upd H10 l (.lst [.str "cell", .str "call"])) l = some (.lst [.str "cell", .str "call"]) := upd_same
        generalize upd H10 l (.lst [.str "cell", .str "call"]) = H11 at sl elw0
        have t11r := sl _ _ t10r
        have t11c := sl _ _ (bb11 _ _ t8c nc2')
        have t11k := sl _ _ (bb11 _ _ t8k nk2')
        refine for_list (K := K) (a := l) (xs := [.str "cell", .str "call"]) (fun i σ H' => ∃ (y6 : Option V) (ca ka : Addr), σ = [some v, some (.ref r), some (.ref l0), some (.int (if ((dp9 t : Nat) : Int) > (((((inner d).take j).map dp9).foldr max 0 : Nat) : Int) then ((dp9 t : Nat) : Int) else (((((inner d).take j).map dp9).foldr max 0 : Nat) : Int))), some x, some (.ref r2), y6, none] ∧ But r H11 H' ∧ H' l = some (.lst [.str "cell", .str "call"]) ∧
            H' r = some (.dK (dT4 s' ca ka b')) ∧ H' ca = some (.lst ((if 1 ≤ i then mergeN cs cs2 else cs).map V.str)) ∧ H' ka = some (.lst ((if 2 ≤ i then mergeN ks ks2 else ks).map V.str)))
          ⟨y6, c, k, rfl, But.refl _ _, elw0, sl _ _ e11r, sl _ _ (bb11 _ _ (s8 _ _ e7c) ncr), sl _ _ (bb11 _ _ (s8 _ _ e7k) nkr)⟩ (fun i σ H' _ h => ?_) (fun i xw σ H12 hxw h => ?_) (fun σ H12 h => ?_)
        · obtain ⟨_, _, _, _, _, e, _⟩ := h
          exact .inl (.inl e)
        · obtain ⟨y6, ca, ka, rfl, bb, elw, er, eca, eka⟩ := h
          match i, hxw with
          | 0, hxw =>
            obtain rfl : V.str "cell" = xw := Option.some.inj hxw
            rw [if_neg (by decide)] at eca eka
            refine ⟨.ref r, rfl, .str "cell", rfl, r, .ref ca, rfl, dg er "cell" rfl, .ref r2, rfl, .str "cell", rfl, r2, .ref c2, rfl, dg (bb _ _ t11r nr2) "cell" rfl, c2, rfl, ⟨_, .inl (.inl (bb _ _ t11c nc2'))⟩, fun D hD => ?_⟩
            have nD : ∀ {b o}, H12 b = some o → b ≠ D := fun e => ne_of_none e hD
            refine walk_gen (walk_list (K := K) (a := c2) (xs := cs2.map V.str)) (fun j' H' => H' = upd H12 D (.lst ((((cs2.take j').filter fun x => !decide (x ∈ cs)).map V.str)))) rfl (fun j' H' _ p => ?_) (fun j' x' H13 H14 hj p y => ?_) (fun H' p => ?_)
            · rw [p]
              refine .inl (.inl ?_)
              rw [upd_ne (nD (bb _ _ t11c nc2'))]
              exact bb _ _ t11c nc2'
            · subst p
              obtain ⟨rfl, hx'⟩ := y
              rw [List.getElem?_map] at hx'
              obtain ⟨u, hu', rfl⟩ := Option.map_eq_some_iff.mp hx'
              refine And.intro rfl ?_
              have er13 : (upd H12 D (.lst (((cs2.take j').filter fun x => !decide (x ∈ cs)).map V.str))) r = some (.dK (dT4 s' ca ka b')) := by
                rw [upd_ne (nD er)]
                exact er
              have ec13 : (upd H12 D (.lst (((cs2.take j').filter fun x => !decide (x ∈ cs)).map V.str))) ca = some (.lst (cs.map V.str)) := by
                rw [upd_ne (nD eca)]
                exact eca
              refine ⟨_, rfl, .ref r, rfl, .str "cell", rfl, r, .ref ca, rfl, dg er13 "cell" rfl, ca, cs.map V.str, rfl, .inl (.inl (.inl ec13)), rfl, flat_strs _, _, rfl, ?_⟩
              show if (!inV (.str u) (cs.map V.str)) = true then _ else _
              rw [inV_strs]
              have sn : (cs2.take (j' + 1)).filter (fun x => !decide (x ∈ cs)) = (cs2.take j').filter (fun x => !decide (x ∈ cs)) ++ (if u ∈ cs then [] else [u]) := by
                rw [take_snoc hu', List.filter_append]
                by_cases hm : u ∈ cs
                · rw [List.filter_cons_of_neg (by rw [decide_eq_true hm]; decide), if_pos hm]
                  rfl
                · rw [List.filter_cons_of_pos (by rw [decide_eq_false hm]; rfl), if_neg hm]
                  rfl
              by_cases hm : u ∈ cs
              · rw [decide_eq_true hm]
                refine iteF ?_
                rw [sn, if_pos hm, List.append_nil]
              · rw [decide_eq_false hm]
                refine iteT ⟨_, rfl, _, upd_same, ?_, ?_⟩
                · rw [List.length_map]
                  have h1 := List.length_filter_le (fun x => !decide (x ∈ cs)) (cs2.take j')
                  rw [List.length_take] at h1
                  exact Nat.lt_of_le_of_lt (show _ ≤ 65536 by omega) (by decide)
                · rw [sn, if_neg hm, List.map_append, upd_upd]
                  rfl
            · subst p
              rw [List.length_map, List.take_length]
              have eD : (upd H12 D (.lst ((cs2.filter fun x => !decide (x ∈ cs)).map V.str))) D = some (.lst ((cs2.filter fun x => !decide (x ∈ cs)).map V.str)) := upd_same
              have er14 : (upd H12 D (.lst ((cs2.filter fun x => !decide (x ∈ cs)).map V.str))) r = some (.dK (dT4 s' ca ka b')) := by
                rw [upd_ne (nD er)]
                exact er
              have ec14 : (upd H12 D (.lst ((cs2.filter fun x => !decide (x ∈ cs)).map V.str))) ca = _ := (upd_ne (nD eca)).trans eca
              have ek14 : (upd H12 D (.lst ((cs2.filter fun x => !decide (x ∈ cs)).map V.str))) ka = _ := (upd_ne (nD eka)).trans eka
              have b14 : But r H11 (upd H12 D (.lst ((cs2.filter fun x => !decide (x ∈ cs)).map V.str))) := bb.trans (But.of (same_upd hD))
              have el14 : (upd H12 D (.lst ((cs2.filter fun x => !decide (x ∈ cs)).map V.str))) l = _ := (upd_ne (nD elw)).trans elw
              generalize upd H12 D (.lst ((cs2.filter fun x => !decide (x ∈ cs)).map V.str)) = H15 at eD er14 ec14 ek14 b14 el14
              refine ⟨ca, D, _, _, rfl, rfl, ec14, eD, ?_, fun m' nm' => ?_⟩
              · rw [List.length_map, List.length_map]
                have h1 := List.length_filter_le (fun x => !decide (x ∈ cs)) cs2
                exact Nat.le_trans (show _ ≤ 500000 by omega) (by decide)
              · have sm : Same H15 (upd H15 m' (.lst (cs.map V.str ++ (cs2.filter fun x => !decide (x ∈ cs)).map V.str))) := same_upd nm'
                have em : (upd H15 m' (.lst (cs.map V.str ++ (cs2.filter fun x => !decide (x ∈ cs)).map V.str))) m' = some (.lst ((mergeN cs cs2).map V.str)) := by
                  rw [upd_same, mergeN, List.map_append]
                generalize upd H15 m' (.lst (cs.map V.str ++ (cs2.filter fun x => !decide (x ∈ cs)).map V.str)) = H16 at sm em
                have er16 := sm _ _ er14
                refine ⟨.ref r, rfl, .str "cell", rfl, r, _, rfl, dput er16 "cell" (.ref m') (Nat.le_of_ble_eq_true rfl), ?_⟩
                refine ⟨_, m', ka, rfl, (b14.trans (But.of sm)).trans But.upd, ?_, upd_same, ?_, ?_⟩
                · rw [upd_ne (ne_of (sm _ _ el14) er16 (fun z => nomatch z))]
                  exact sm _ _ el14
                · rw [upd_ne (ne_of em er16 (fun z => nomatch z))]
                  exact em
                · rw [upd_ne (ne_of (sm _ _ ek14) er16 (fun z => nomatch z))]
                  exact (sm _ _ ek14)
          | 1, hxw =>
            obtain rfl : V.str "call" = xw := Option.some.inj hxw
            rw [if_pos (by decide)] at eca
            rw [if_neg (by decide)] at eka
            refine ⟨.ref r, rfl, .str "call", rfl, r, .ref ka, rfl, dg er "call" rfl, .ref r2, rfl, .str "call", rfl, r2, .ref k2, rfl, dg (bb _ _ t11r nr2) "call" rfl, k2, rfl, ⟨_, .inl (.inl (bb _ _ t11k nk2'))⟩, fun D hD => ?_⟩
            have nD : ∀ {b o}, H12 b = some o → b ≠ D := fun e => ne_of_none e hD
            refine walk_gen (walk_list (K := K) (a := k2) (xs := ks2.map V.str)) (fun j' H' => H' = upd H12 D (.lst ((((ks2.take j').filter fun x => !decide (x ∈ ks)).map V.str)))) rfl (fun j' H' _ p => ?_) (fun j' x' H13 H14 hj p y => ?_) (fun H' p => ?_)
            · rw [p]
              refine .inl (.inl ?_)
              rw [upd_ne (nD (bb _ _ t11k nk2'))]
              exact bb _ _ t11k nk2'
            · subst p
              obtain ⟨rfl, hx'⟩ := y
              rw [List.getElem?_map] at hx'
              obtain ⟨u, hu', rfl⟩ := Option.map_eq_some_iff.mp hx'
              refine And.intro rfl ?_
              have er13 : (upd H12 D (.lst (((ks2.take j').filter fun x => !decide (x ∈ ks)).map V.str))) r = some (.dK (dT4 s' ca ka b')) := by
                rw [upd_ne (nD er)]
                exact er
              have ec13 : (upd H12 D (.lst (((ks2.take j').filter fun x => !decide (x ∈ ks)).map V.str))) ka = some (.lst (ks.map V.str)) := by
                rw [upd_ne (nD eka)]
                exact eka
              refine ⟨_, rfl, .ref r, rfl, .str "call", rfl, r, .ref ka, rfl, dg er13 "call" rfl, ka, ks.map V.str, rfl, .inl (.inl (.inl ec13)), rfl, flat_strs _, _, rfl, ?_⟩
              show if (!inV (.str u) (ks.map V.str)) = true then _ else _
              rw [inV_strs]
              have sn : (ks2.take (j' + 1)).filter (fun x => !decide (x ∈ ks)) = (ks2.take j').filter (fun x => !decide (x ∈ ks)) ++ (if u ∈ ks then [] else [u]) := by
                rw [take_snoc hu', List.filter_append]
                by_cases hm : u ∈ ks
                · rw [List.filter_cons_of_neg (by rw [decide_eq_true hm]; decide), if_pos hm]
                  rfl
                · rw [List.filter_cons_of_pos (by rw [decide_eq_false hm]; rfl), if_neg hm]
                  rfl
              by_cases hm : u ∈ ks
              · rw [decide_eq_true hm]
                refine iteF ?_
                rw [sn, if_pos hm, List.append_nil]
              · rw [decide_eq_false hm]
                refine iteT ⟨_, rfl, _, upd_same, ?_, ?_⟩
                · rw [List.length_map]
                  have h1 := List.length_filter_le (fun x => !decide (x ∈ ks)) (ks2.take j')
                  rw [List.length_take] at h1
                  exact Nat.lt_of_le_of_lt (show _ ≤ 65536 by omega) (by decide)
                · rw [sn, if_neg hm, List.map_append, upd_upd]
                  rfl
            · subst p
              rw [List.length_map, List.take_length]
              have eD : (upd H12 D (.lst ((ks2.filter fun x => !decide (x ∈ ks)).map V.str))) D = some (.lst ((ks2.filter fun x => !decide (x ∈ ks)).map V.str)) := upd_same
              have er14 : (upd H12 D (.lst ((ks2.filter fun x => !decide (x ∈ ks)).map V.str))) r = some (.dK (dT4 s' ca ka b')) := by
                rw [upd_ne (nD er)]
                exact er
              have ec14 : (upd H12 D (.lst ((ks2.filter fun x => !decide (x ∈ ks)).map V.str))) ca = _ := (upd_ne (nD eca)).trans eca
              have ek14 : (upd H12 D (.lst ((ks2.filter fun x => !decide (x ∈ ks)).map V.str))) ka = _ := (upd_ne (nD eka)).trans eka
              have b14 : But r H11 (upd H12 D (.lst ((ks2.filter fun x => !decide (x ∈ ks)).map V.str))) := bb.trans (But.of (same_upd hD))
              have el14 : (upd H12 D (.lst ((ks2.filter fun x => !decide (x ∈ ks)).map V.str))) l = _ := (upd_ne (nD elw)).trans elw
              generalize upd H12 D (.lst ((ks2.filter fun x => !decide (x ∈ ks)).map V.str)) = H15 at eD er14 ec14 ek14 b14 el14
              refine ⟨ka, D, _, _, rfl, rfl, ek14, eD, ?_, fun m' nm' => ?_⟩
              · rw [List.length_map, List.length_map]
                have h1 := List.length_filter_le (fun x => !decide (x ∈ ks)) ks2
                exact Nat.le_trans (show _ ≤ 500000 by omega) (by decide)
              · have sm : Same H15 (upd H15 m' (.lst (ks.map V.str ++ (ks2.filter fun x => !decide (x ∈ ks)).map V.str))) := same_upd nm'
                have em : (upd H15 m' (.lst (ks.map V.str ++ (ks2.filter fun x => !decide (x ∈ ks)).map V.str))) m' = some (.lst ((mergeN ks ks2).map V.str)) := by
                  rw [upd_same, mergeN, List.map_append]
                generalize upd H15 m' (.lst (ks.map V.str ++ (ks2.filter fun x => !decide (x ∈ ks)).map V.str)) = H16 at sm em
                have er16 := sm _ _ er14
                refine ⟨.ref r, rfl, .str "call", rfl, r, _, rfl, dput er16 "call" (.ref m') (Nat.le_of_ble_eq_true rfl), ?_⟩
                refine ⟨_, ca, m', rfl, (b14.trans (But.of sm)).trans But.upd, ?_, upd_same, ?_, ?_⟩
                · rw [upd_ne (ne_of (sm _ _ el14) er16 (fun z => nomatch z))]
                  exact sm _ _ el14
                · rw [upd_ne (ne_of (sm _ _ ec14) er16 (fun z => nomatch z))]
                  exact (sm _ _ ec14)
                · rw [upd_ne (ne_of em er16 (fun z => nomatch z))]
                  exact em
        · obtain ⟨y6, ca, ka, rfl, bb, elw, er, eca, eka⟩ := h
          rw [if_pos (by decide)] at eca eka
          have hsum : ((inner d).take (j + 1)).map sz9 = ((inner d).take j).map sz9 ++ [sz9 t] := by
            rw [tk hd, List.map_append]
            rfl
          have hany : ((inner d).take (j + 1)).any (hs9 qT) = (((inner d).take j).any (hs9 qT) || hs9 qT t) := by
            rw [tk hd, List.any_append, List.any_cons, List.any_nil, Bool.or_false]
          have hdep : ((((((inner d).take (j + 1)).map dp9).foldr max 0 : Nat) : Int)) = (if ((dp9 t : Nat) : Int) > (((((inner d).take j).map dp9).foldr max 0 : Nat) : Int) then ((dp9 t : Nat) : Int) else (((((inner d).take j).map dp9).foldr max 0 : Nat) : Int)) := by
            have e : (((inner d).take (j + 1)).map dp9).foldr max 0 = max ((((inner d).take j).map dp9).foldr max 0) (dp9 t) := by
              have h1 := most_app (g := dp9) (a := (inner d).take j) (b := [t])
              rw [← tk hd] at h1
              have h2 : most dp9 [t] = dp9 t := Nat.max_eq_left (Nat.zero_le _)
              rw [h2] at h1
              exact h1
            rw [e]
            split <;> omega
          refine ⟨some x, some (.ref r2), y6, ca, ka, mergeN cs cs2, mergeN ks ks2, ?_, (b7.trans (But.of s8)).trans (bb11.trans ((But.of sl).trans bb)), ?_, eca, eka, ?_, ?_⟩
          · rw [hdep]
          · rw [er, hany, ← Bool.or_assoc, hb', ← hs', hsum, List.sum_append]
            show _ = some (HO.dK (dT4 ((1 + ((((inner d).take j).map sz9).sum + (sz9 t + 0)) : Nat) : Int) ca ka b'))
            rw [show ((1 + ((((inner d).take j).map sz9).sum + (sz9 t + 0)) : Nat) : Int) = ((1 + (((inner d).take j).map sz9).sum : Nat) : Int) + ((sz9 t : Nat) : Int) by omega]
          · rw [tk hd]
            exact pset_step pc nc2
          · rw [tk hd]
            exact pset_step pk nk2
      · obtain ⟨y4, y5, y6, c, k, cs, ks, rfl, b7, e7r, e7c, e7k, pc, pk⟩ := h
        rw [el, List.take_length] at e7r pc pk
        refine ⟨_, rfl, _, _, rfl, rfl, .ref r, rfl, r, _, rfl, dput e7r "depth" _ (Nat.le_of_ble_eq_true rfl), .ref r, rfl, ?_⟩
        refine q r _ (same_butN sH3 nr (b7.trans But.upd)) ⟨c, k, cs, ks, ?_, ?_, ?_, pset_done hg hg8 pc, pset_done hg hg8 pk⟩
        · rw [upd_same, el, List.take_length, hs9_in qT hg hg8, sz9_in hg hg8, dp9_in hg hg8]
          show some (HO.dK (dT4 _ c k _ ++ [(.inr "depth", V.int (1 + _))])) = _
          rw [show ((1 + ((inner d).map dp9).foldr max 0 : Nat) : Int) = 1 + ((((inner d).map dp9).foldr max 0 : Nat) : Int) by omega]
        · rw [upd_ne (ne_of e7c e7r (fun z => nomatch z))]
          exact e7c
        · rw [upd_ne (ne_of e7k e7r (fun z => nomatch z))]
          exact e7k
end
/-! ### the law's terms, drawn -/
theorem dpT {K : PySem.W.Frag} {H : Hp} {t : Addr} {xs : List V} {ds : List PyData} (n : H t = none) (h : DpAll K H xs ds) : Dp K (upd H t (.tup xs)) (.ref t) (.tuple ds) := .tup (.inl (.inl upd_same)) (dpA_same (same_upd n) h)
theorem dpL {K : PySem.W.Frag} {H : Hp} {t : Addr} {xs : List V} {ds : List PyData} (n : H t = none) (h : DpAll K H xs ds) : Dp K (upd H t (.lst xs)) (.ref t) (.list ds) := .lst (.inl (.inl upd_same)) (dpA_same (same_upd n) h)
theorem gd_mono {n : Int} : ∀ (f f' : Nat) (d : PyData), Gd n f d → f ≤ f' → Gd n f' d
  | 0, _, _, h, _ => nomatch h
  | f + 1, 0, _, _, h => absurd h (Nat.not_succ_le_zero f)
  | f + 1, f' + 1, d, h, hf => by
    cases h with
    | val a b => exact .val a b
    | arg a b => exact .arg a b
    | cell a => exact .cell a
    | tick => exact .tick
    | call a b c => exact .call a b fun t ht => gd_mono f f' t (c t ht) (by omega)
    | op a c => exact .op a fun t ht => gd_mono f f' t (c t ht) (by omega)
theorem but_sameN {p : Addr} {H H1 H2 : Hp} (b : But p H H1) (s : Same H1 H2) : But p H H2 := b.trans (But.of s)
theorem q_seqR {ta tz : TS} {D : Ends} {σ : L2.St} {H : Hp} (Pr : L2.St → Hp → Prop) (h : ∀ nx, (∀ σ' H', Pr σ' H' → nx σ' H') → ta { D with nx := nx } σ H) (k : ∀ σ' H', Pr σ' H' → tz D σ' H') : tSeq ta tz D σ H := h _ k
abbrev sLTerm : Stmt := topS 29
theorem scLTerm : FnScope ["_law_pool_here", "_law_b", "_law_many", "_law_deep", "_law_kind", "_law_f", "_law_head", "_law_at"] ["_law_pool_here", "_law_b", "_law_many", "_law_deep"] (defScope sLTerm) := ⟨rfl, rfl, rfl, by decide +kernel, rfl, by decide +kernel, by decide +kernel⟩
def rNeLen (K : PySem.W.Frag) : R2 := fun x y H Q => ∃ a b xs ys, x = .ref a ∧ y = .ref b ∧ SqL K H a xs ∧ SqL K H b ys ∧ xs.length ≠ ys.length ∧ Q (.bl true) H
theorem op_neLen {X : Cx} (few : X.A.units + 64 < cLine) : OpR X (compareOp .NotEq) (rNeLen X.K) := by
  rintro pins st σ H one other v1 v2 Q inv rel1 rel2 ⟨a1, a2, l1, l2, rfl, rfl, s1, s2, unlike, goal⟩
  obtain rfl : v1 = Value.ref a1 := rel1
  obtain rfl : v2 = Value.ref a2 := rel2
  have f1 := inv.list s1
  have f2 := inv.list s2
  rcases f1 with ⟨w1, vals1, is1, -⟩
  rcases f2 with ⟨w2, vals2, is2, -⟩
  have sizes : (w1.toArray.size != w2.toArray.size) = true := by
    have n1 : w1.toArray.size = l1.length := List.size_toArray.trans vals1.length.symm
    have n2 : w2.toArray.size = l2.length := List.size_toArray.trans vals2.length.symm
    rw [n1, n2]
    simpa using unlike
  exact SeqAt.RcNeAt.lists_lengths is1.isList is2.isList sizes (by omega) _ _ _ _ ⟨V.bl true, H, inv, rfl, goal⟩
theorem in_twoI (k a b : Int) : inV (.int k) [.int a, .int b] = decide (k = a ∨ k = b) := by
  show ((a == k) || ((b == k) || false)) = _
  rw [Bool.or_false, Bool.eq_iff_iff, Bool.or_eq_true, decide_eq_true_eq, beq_iff_eq, beq_iff_eq]
  exact ⟨fun h => h.imp Eq.symm Eq.symm, fun h => h.imp Eq.symm Eq.symm⟩
def BookAt (K : PySem.W.Frag) (n0 n1 n2 n3 : Str) (H : Hp) (b : Addr) : Prop := ∃ c f t0 t1 g0 g1, H b = some (.dK [(.inr "cells", .ref c), (.inr "functions", .ref f)]) ∧ H c = some (.lst [.ref t0, .ref t1]) ∧ SqT K H t0 [.str n0, .str "table"] ∧ SqT K H t1 [.str n1, .str "frozen"] ∧
  H f = some (.lst [.ref g0, .ref g1]) ∧ H g0 = some (.dK [(.inr "name", .str n2), (.inr "many", .int 2)]) ∧ H g1 = some (.dK [(.inr "name", .str n3), (.inr "many", .int 0)])
theorem BookAt.but {K : PySem.W.Frag} {n0 n1 n2 n3 : Str} {H H' : Hp} {b p : Addr} (h : BookAt K n0 n1 n2 n3 H b) (hp : PoolAt H p) (bt : But p H H') : BookAt K n0 n1 n2 n3 H' b := by
  obtain ⟨c, f, t0, t1, g0, g1, e0, e1, e2, e3, e4, e5, e6⟩ := h
  obtain ⟨x, y, ep, _⟩ := hp
  exact ⟨c, f, t0, t1, g0, g1, bt _ _ e0 (ne_of e0 ep (fun z => nomatch z)), bt _ _ e1 (ne_of e1 ep (fun z => by cases z)), but_sqT ep bt e2, but_sqT ep bt e3, bt _ _ e4 (ne_of e4 ep (fun z => by cases z)),
    bt _ _ e5 (ne_of e5 ep (fun z => nomatch z)), bt _ _ e6 (ne_of e6 ep (fun z => nomatch z))⟩
/-- a comprehension of terms drawn -/
theorem lc_terms {K : PySem.W.Frag} {p : Addr} {n : Int} {f : Nat} {J : It} {cnt : Nat} {Y : Nat → Hp → V → Hp → Prop} (w : Walk J cnt (fun _ => True) Y) {j : Nat} {te : TE} {vs : List Nat} {σ : L2.St} {H1 : Hp} {D : Addr} {Qd : Hp → Prop} (hz : cnt ≤ 1000)
    (hD : H1 D = none) (hp : PoolAt H1 p) (hw : ∀ x, wipe ((wipe σ vs).set j (some x)) vs = wipe σ vs)
    (he : ∀ i x H H', i < cnt → But p H1 H → PoolAt H p → Y i H x H' → H' = H ∧ ∀ Q : VK, (∀ v d H2, But p H H2 → PoolAt H2 p → Dp K H2 v d → Gd n f d → Q v H2) → te ((wipe σ vs).set j (some x)) H Q)
    (hd : ∀ ys ts H, But p H1 H → PoolAt H p → H D = some (.lst ys) → DpAll K H ys ts → ts.length = cnt → (∀ t ∈ ts, Gd n f t) → Qd H)  :
    Turns J (upd H1 D (.lst [])) Qd (LcBody D te vs j σ) := by
  have npD : D ≠ p := (hp.ne hD).symm
  refine lc_it w (fun i H => But p H1 H ∧ PoolAt H p ∧ ∃ ys ts, H D = some (.lst ys) ∧ DpAll K H ys ts ∧ ts.length = i ∧ ∀ t ∈ ts, Gd n f t) ⟨But.of (same_upd hD), hp.upd hD, [], [], upd_same, .nil, rfl, fun v e => by cases e⟩ (fun i H _ p => True.intro) (fun i x H H' hi q y => ?_) (fun H q => ?_)
  · obtain ⟨s1, h1, ys, ts, e1, ea, el, er⟩ := q
    obtain ⟨rfl, k⟩ := he i x H H' hi s1 h1 y
    refine And.intro (hw x) ?_
    unfold tYes
    refine iteT ?_
    refine k _ fun v d H2 s3 h3 dv gd => ⟨ys, s3 _ _ e1 npD, ?_, fun b o e nb => ?_, ?_, ys ++ [v], ts ++ [d], upd_same, ?_, ?_, fun u hu => ?_⟩
    · exact Nat.lt_of_le_of_lt (show ys.length ≤ 1000 by rw [dpA_len ea]; omega) (by decide)
    · have hb : b ≠ D := ne_of_none e hD
      rw [upd_ne hb]
      exact s3 _ _ (s1 _ _ e nb) nb
    · obtain ⟨x, y, e, r⟩ := h3
      exact ⟨x, y, by rw [upd_ne npD.symm]; exact e, r⟩
    · have nl : noLs ts = true := noLs_of fun t ht => gd_nl f t (er t ht)
      have e2 := s3 _ _ e1 npD
      obtain ⟨px, py, pe, _⟩ := h1
      have a1 : DpAll K H2 ys ts := dpAll_tups (fun _ _ => but_sqT pe s3) ts ys nl ea
      exact dpA_app (dpAll_tups (fun _ _ => but_sqT e2 But.upd) ts ys nl a1) (.cons (dp_tups (fun _ _ => but_sqT e2 But.upd) d v (gd_nl f d gd) dv) .nil)
    · rw [List.length_append, el]
      rfl
    · rcases List.mem_append.mp hu with hu | hu
      · exact er u hu
      · rw [List.mem_singleton.mp hu]
        exact gd
  · obtain ⟨s1, h1, ys, ts, e1, ea, el, er⟩ := q
    exact hd ys ts H s1 h1 e1 ea el er
structure Nms (n0 n1 n2 n3 : Str) : Prop where
  i0 : isName (.str n0) = true
  i1 : isName (.str n1) = true
  i2 : isName (.str n2) = true
  i3 : isName (.str n3) = true
def spLTerm (K : PySem.W.Frag) (m : Nat) : Sp := fun vs H Q _ => ∃ (n0 n1 n2 n3 : Str) (p b : Addr) (n : Int) (deep : Nat), Nms n0 n1 n2 n3 ∧ vs = [.ref p, .ref b, .int n, .int deep] ∧ PoolAt H p ∧ BookAt K n0 n1 n2 n3 H b ∧ 0 ≤ n ∧ n ≤ 2 ∧ deep < m ∧
  ∀ v d H', But p H H' → PoolAt H' p → Dp K H' v d → Gd n (deep + 1) d → Q v H'
section
variable {P : Program} {w : World} {K : PySem.W.Frag} {mg : Str → Option Value} {base : Heap}
theorem ok_lterm {f fD fP : Addr} {fd dD dP : FuncData} (F : Fun K "_law_term" "_law_term" sLTerm f fd) (M : Blt mg) (bF : Binds K fd ["_law_pool_here", "_law_b", "_law_many", "_law_deep"] []) (gF : mg "_law_term" = some (.ref f))
    (FD : Fun K "_law_draw" "_law_draw" sDraw fD dD) (bD : Binds K dD ["_law_pool_here", "_law_many"] []) (gD : mg "_law_draw" = some (.ref fD))
    (FP : Fun K "_law_pick" "_law_pick" sPick fP dP) (bP : Binds K dP ["_law_pool_here", "_law_row"] []) (gP : mg "_law_pick" = some (.ref fP)) :
    ∀ m : Nat, FnOk P w K mg base CX0 (m + 3) f fd ["_law_pool_here", "_law_b", "_law_many", "_law_deep"] (spLTerm K m) := by
  have GD : FnOk P w K mg base CX0 1 fD dD ["_law_pool_here", "_law_many"] spDraw := ok_draw FD M
  have GP : FnOk P w K mg base CX0 2 fP dP ["_law_pool_here", "_law_row"] (spPick K) := ok_pick FP M FD bD gD
  intro m
  induction m with
  | zero =>
    refine F.ok scLTerm (fun vs H Q E h => ?_) (fun cdv A outer s H vs Q E hr h => ?_)
    · obtain ⟨n0, n1, n2, n3, p, b, n, deep, N, rfl, _⟩ := h
      rfl
    · obtain ⟨n0, n1, n2, n3, p, b, n, deep, N, rfl, _, _, _, _, h, _⟩ := h
      exact absurd h (Nat.not_lt_zero _)
  | succ m GT =>
    refine F.ok scLTerm (fun vs H Q E h => ?_) (fun cdv A outer s H vs Q E hr h => ?_)
    · obtain ⟨n0, n1, n2, n3, p, b, n, deep, N, rfl, _⟩ := h
      rfl
    · obtain ⟨n0, n1, n2, n3, p, b, n, deep, N, rfl, hp, hb, hn0, hn2, hdm, q⟩ := h
      have hr1 : Room 1 _ := hr.mono (by omega)
      have hr2 : Room 2 _ := hr.mono (by omega)
      have hu := hu_of hr
      refine ⟨_, pss_cons (ps_set (i := 4) scLTerm.nd rfl (.inl rfl) (pe_call GD hr1 (by rfl) gD FD.kp bD .nil pass0 (pa_cons (pv 0) (pa_cons (pe_ifExp (pt_cmpR op_gt (pv 3) pe_int (nomark _)) pe_int pe_int) pa_nil))))
        (pss_cons (ps_if (PW.pt (pw_or (pt_cmpR op_eq (pv 4) pe_int (nomark _)) (pw_or (PW.pt (pw_and (pt_cmpR op_eq (pv 4) pe_int (nomark _)) (pw_and1 (pt_cmpR op_eq (pv 2) pe_int (nomark _)))))
            (pw_or1 (PW.pt (pw_and (pt_cmpR op_in_seq (pv 4) (pe_lst (pa_cons pe_int (pa_cons pe_int pa_nil))) (by rfl)) (pw_and1 (pt_cmpR (op_eqD hr.units) (pe_dget hu (pv 1) pe_str (fun _ _ => rfl)) (pe_lst pa_nil) (nomark _)))))))))
            (pss_one (ps_ret (pe_call GD hr1 (by rfl) gD FD.kp bD .nil pass0 (pa_cons (pv 0) (pa_cons pe_int pa_nil))))) pss_nil)
        (pss_cons (ps_if (pt_cmpR op_eq (pv 4) pe_int (nomark _)) (pss_one (ps_ret (pe_tup (pa_cons pe_str (pa_cons (pe_call GD hr1 (by rfl) gD FD.kp bD .nil pass0 (pa_cons (pv 0) (pa_cons (pv 2) pa_nil))) pa_nil))))) pss_nil)
        (pss_cons (ps_if (PW.pt (pw_or (pt_cmpR op_eq (pv 4) pe_int (nomark _)) (pw_or1 (pt_cmpR op_eq (pv 4) pe_int (nomark _)))))
            (pss_one (ps_ret (pe_tup (pa_cons pe_str (pa_cons (pe_ix ix_tup (pe_call GP hr2 (by rfl) gP FP.kp bP .nil pass0 (pa_cons (pv 0) (pa_cons (pe_dget hu (pv 1) pe_str (fun _ _ => rfl)) pa_nil))) pe_int (fun _ _ => rfl)) pa_nil))))) pss_nil)
        (pss_cons (ps_if (pt_cmpR op_eq (pv 4) pe_int (nomark _))
            (pss_one (ps_ret (pe_ifExp (pt_cmpR op_eq (pe_call GD hr1 (by rfl) gD FD.kp bD .nil pass0 (pa_cons (pv 0) (pa_cons pe_int pa_nil))) pe_int (nomark _)) (pe_tup (pa_cons pe_str pa_nil)) (pe_call GD hr1 (by rfl) gD FD.kp bD .nil pass0 (pa_cons (pv 0) (pa_cons pe_int pa_nil)))))) pss_nil)
        (pss_cons (ps_if (PW.pt (pw_and (pt_cmpR op_eq (pv 4) pe_int (nomark _)) (pw_and1 (pt_cmpR (op_neLen hr.units) (pe_dget hu (pv 1) pe_str (fun _ _ => rfl)) (pe_lst pa_nil) (nomark _)))))
            (pss_cons (ps_set (i := 5) scLTerm.nd rfl (.inl rfl) (pe_call GP hr2 (by rfl) gP FP.kp bP .nil pass0 (pa_cons (pv 0) (pa_cons (pe_dget hu (pv 1) pe_str (fun _ _ => rfl)) pa_nil))))
            (pss_one (ps_ret (pe_tup (pa_cons pe_str (pa_cons (pe_dget hu (pv 5) pe_str (fun _ _ => rfl)) (pa_cons (pe_callTy call_tuple_of (by rfl) M.tuple (by decide +kernel) (pa_cons
              (pe_lc (own := [("_law_at", 7)]) (g := gName 7) (te := tCall (spLTerm K m) [] E0 (tCons (tVar 0) (tCons (tVar 1) (tCons (tVar 2) (tCons (tC (.int 0)) tNil))))) (by rfl) scLTerm.nd (pi_range1 (by rfl) M.range (pa_cons (pe_dget hu (pv 5) pe_str (fun _ _ => rfl)) pa_nil)) (blkOk_by (own := [("_law_at", 7)]) (N := ["_law_pool_here", "_law_b", "_law_many", "_law_deep", "_law_kind", "_law_f", "_law_head", "_law_at"]) (sc := defScope sLTerm) (by decide +kernel))
                (fun _ _ _ _ _ => pg_name (i := 7) scLTerm.nd rfl (Or.inl rfl)) (fun _ _ _ _ _ => pts_nil) (fun _ _ _ _ _ => pe_call GT hr (by rfl) gF F.kp bF .nil pass0 (pa_cons (pv 0) (pa_cons (pv 1) (pa_cons (pv 2) (pa_cons pe_int pa_nil)))))) pa_nil)) pa_nil))))))) pss_nil)
        (pss_cons (ps_if (pt_cmpR op_eq (pv 4) pe_int (nomark _))
            (pss_one (ps_ret (pe_op op_catT (pe_tup (pa_cons pe_str pa_nil)) (pe_callTy call_tuple_of (by rfl) M.tuple (by decide +kernel) (pa_cons
              (pe_lc (own := [("_law_at", 7)]) (g := gName 7) (te := tCall (spLTerm K m) [] E0 (tCons (tVar 0) (tCons (tVar 1) (tCons (tVar 2) (tCons (tOp (rI0 fun i j => .int (i - j)) (tVar 3) (tC (.int 1))) tNil))))) (by rfl) scLTerm.nd (pi_range1 (by rfl) M.range (pa_cons pe_int pa_nil)) (blkOk_by (own := [("_law_at", 7)]) (N := ["_law_pool_here", "_law_b", "_law_many", "_law_deep", "_law_kind", "_law_f", "_law_head", "_law_at"]) (sc := defScope sLTerm) (by decide +kernel))
                (fun _ _ _ _ _ => pg_name (i := 7) scLTerm.nd rfl (Or.inl rfl)) (fun _ _ _ _ _ => pts_nil) (fun _ _ _ _ _ => pe_call GT hr (by rfl) gF F.kp bF .nil pass0 (pa_cons (pv 0) (pa_cons (pv 1) (pa_cons (pv 2) (pa_cons (pe_op op_sub (pv 3) pe_int) pa_nil)))))) pa_nil))))) pss_nil)
        (pss_cons (ps_set (i := 6) scLTerm.nd rfl (.inl rfl) (pe_call GP hr2 (by rfl) gP FP.kp bP .nil pass0 (pa_cons (pv 0) (pa_cons (pe_lst (pa_cons pe_str (pa_cons pe_str (pa_cons pe_str pa_nil)))) pa_nil))))
        (pss_one (ps_ret (pe_tup (pa_cons (pv 6) (pa_cons (pe_call GT hr (by rfl) gF F.kp bF .nil pass0 (pa_cons (pv 0) (pa_cons (pv 1) (pa_cons (pv 2) (pa_cons (pe_op op_sub (pv 3) pe_int) pa_nil)))))
            (pa_cons (pe_call GT hr (by rfl) gF F.kp bF .nil pass0 (pa_cons (pv 0) (pa_cons (pv 1) (pa_cons (pv 2) (pa_cons (pe_op op_sub (pv 3) pe_int) pa_nil))))) pa_nil))))))))))))), ?_⟩
      refine q_asgP (Pr := fun v H1 => ∃ k : Int, v = .int k ∧ 0 ≤ k ∧ k < 9 ∧ (4 ≤ k → 0 < deep) ∧ But p H H1 ∧ PoolAt H1 p) (fun Q' hq => ?_) (fun v H1 hv => ?_)
      · refine ⟨.ref p, rfl, _, rfl, _, _, rfl, rfl, _, rfl, ite2 (fun e => ?_) (fun e => ?_)⟩
        · refine ⟨p, 9, rfl, hp, by omega, by omega, fun k H1 k0 k9 b1 hp1 fr => hq _ _ ⟨k, rfl, k0, k9, fun _ => ?_, b1, hp1⟩⟩
          have := of_decide_eq_true e
          omega
        · exact ⟨p, 4, rfl, hp, by omega, by omega, fun k H1 k0 k9 b1 hp1 fr => hq _ _ ⟨k, rfl, k0, by omega, fun _ => by omega, b1, hp1⟩⟩
      · obtain ⟨k, rfl, k0, k9, k4, b1, hp1⟩ := hv
        have leaf : ∀ (H2 : Hp) (Q2 : VK), But p H H2 → PoolAt H2 p → (∀ v H', Q v H' → Q2 v H') → ∃ (p' : Addr) (n' : Int), [V.ref p, V.int 3] = [.ref p', .int n'] ∧ PoolAt H2 p' ∧ 0 < n' ∧ n' ≤ 1000000000 ∧ ∀ (v : Int) H', 0 ≤ v → v < n' → But p' H2 H' → PoolAt H' p' → (∀ b, H2 b = none → H' b = none) → Q2 (.int v) H' :=
          fun H2 Q2 b2 hp2 hq => ⟨p, 3, rfl, hp2, by omega, by omega, fun z H3 z0 z3 b3 hp3 fr => hq _ _ (q _ (.int z) H3 (b2.trans b3) hp3 (.int z) (.val z0 z3))⟩
        refine q_seqR (fun σ' H' => σ' = [some (.ref p), some (.ref b), some (.int n), some (.int deep), some (.int k), none, none, none] ∧ But p H H' ∧ PoolAt H' p ∧ k ≠ 0 ∧ (k = 1 → n ≠ 0)) (fun nx hnx => ?_) (fun σ' H2 hP => ?_)
        · refine ⟨_, rfl, rfl, _, rfl, ?_⟩
          rw [dint]
          by_cases h0 : k = 0
          · rw [decide_eq_true h0]
            exact iteT ⟨.ref p, rfl, leaf H1 _ b1 hp1 fun _ _ h => h⟩
          rw [decide_eq_false h0]
          refine iteF ⟨_, rfl, rfl, _, rfl, ?_⟩
          rw [dint]
          by_cases h1 : k = 1
          · rw [decide_eq_true h1]
            refine iteT ⟨_, rfl, rfl, _, rfl, ?_⟩
            rw [dint]
            by_cases hz : n = 0
            · rw [decide_eq_true hz]
              exact iteT ⟨.ref p, rfl, leaf H1 _ b1 hp1 fun _ _ h => h⟩
            · rw [decide_eq_false hz]
              refine iteF ⟨_, rfl, (by show 2 ≤ sizeLine; decide), fun l nl => ⟨l, _, rfl, .inl (.inl (.inl upd_same)), rfl, rfl, _, rfl, ?_⟩⟩
              rw [in_twoI, decide_eq_false (by omega)]
              exact iteF (iteF (hnx _ _ ⟨rfl, but_sameN b1 (same_upd nl), hp1.upd nl, h0, fun _ => hz⟩))
          · rw [decide_eq_false h1]
            refine iteF (iteF ⟨_, rfl, (by show 2 ≤ sizeLine; decide), fun l nl => ⟨l, _, rfl, .inl (.inl (.inl upd_same)), rfl, rfl, _, rfl, ?_⟩⟩)
            rw [in_twoI]
            by_cases h2 : k = 2 ∨ k = 8
            · rw [decide_eq_true h2]
              have b2 := but_sameN b1 (same_upd (o := .lst [.int 2, .int 8]) nl)
              have hp2 := hp1.upd (o := .lst [.int 2, .int 8]) nl
              obtain ⟨c, f', t0, t1, g0, g1, e0, e1, e2, e3, e4, e5, e6⟩ := hb.but hp b2
              refine iteT ⟨_, rfl, b, .ref c, rfl, dg e0 "cells" rfl, Nat.zero_le _, fun l2 nl2 => ?_⟩
              have s2 := same_upd (o := .lst []) nl2
              refine ⟨.list [.tuple [.str n0, .str "table"], .tuple [.str n1, .str "frozen"]], .list [], .lst (.inl (.inl (s2 _ _ e1))) (.cons (.tup (same_sqT s2 e2) (.cons (.str _) (.cons (.str _) .nil))) (.cons (.tup (same_sqT s2 e3) (.cons (.str _) (.cons (.str _) .nil))) .nil)), .lst (.inl (.inl upd_same)) .nil, ?_, by decide +kernel, _, rfl, ?_⟩
              · refine Bool.and_eq_true_iff.mpr ⟨?_, decide_eq_true ?_⟩
                · show ((PyData.strOk n0 && (PyData.strOk "table" && true)) && ((PyData.strOk n1 && (PyData.strOk "frozen" && true)) && true)) = true
                  rw [name_ok N.i0, name_ok N.i1]
                  decide +kernel
                · show max (max 0 (max 0 0) + 1) (max (max 0 (max 0 0) + 1) 0) + 1 ≤ 64
                  decide
              · exact iteF (hnx _ _ ⟨rfl, but_sameN b2 s2, hp2.upd nl2, h0, fun h => absurd h h1⟩)
            · rw [decide_eq_false h2]
              exact iteF (iteF (hnx _ _ ⟨rfl, but_sameN b1 (same_upd nl), hp1.upd nl, h0, fun h => absurd h h1⟩))
        · obtain ⟨rfl, b2, hp2, h0, hn1⟩ := hP
          clear b1 hp1
          have hb2 := hb.but hp b2
          refine ⟨_, rfl, rfl, _, rfl, ?_⟩
          rw [dint]
          by_cases h1 : k = 1
          · rw [decide_eq_true h1]
            refine iteT ⟨_, rfl, _, rfl, p, n, rfl, hp2, ?_, by omega, fun z H3 z0 zn b3 hp3 fr => ⟨(by show 2 ≤ sizeLine; decide), fun t nt => ?_⟩⟩
            · have := hn1 h1
              omega
            · exact q _ (.tuple [.str "arg", .int z]) _ (but_sameN (b2.trans b3) (same_upd nt)) (hp3.upd nt) (dpT nt (.cons (.str _) (.cons (.int _) .nil))) (.arg z0 zn)
          rw [decide_eq_false h1]
          refine iteF ⟨_, rfl, rfl, _, rfl, ?_⟩
          rw [dint]
          have cell : ∀ (Q2 : VK), (∀ v d H', But p H H' → PoolAt H' p → Dp K H' v d → Gd n (deep + 1) d → Q2 v H') → (tTup (tCons (tC (.str "cell")) (tCons (tOp (rIxT K) (tCall (spPick K) [] E0 (tCons (tVar 0) (tCons (tDGet (tVar 1) (tC (.str "cells"))) tNil))) (tC (.int 0))) tNil))) [some (.ref p), some (.ref b), some (.int n), some (.int deep), some (.int k), none, none, none] H2 Q2 := by
            intro Q2 hq
            obtain ⟨c, f', t0, t1, g0, g1, e0, e1, e2, e3, e4, e5, e6⟩ := hb2
            have npc : p ≠ c := by
              obtain ⟨x, y, ep, _⟩ := hp2
              exact ne_of ep e1 (fun z => by cases z)
            refine ⟨_, rfl, _, rfl, b, .ref c, rfl, dg e0 "cells" rfl, p, c, [.ref t0, .ref t1], rfl, hp2, npc, .inl (.inl (.inl e1)), Nat.le_of_ble_eq_true rfl, Nat.le_of_ble_eq_true rfl, fun i hi H3 b3 hp3 fr => ?_⟩
            obtain ⟨x, y, ep, _⟩ := hp2
            match i, hi with
            | 0, _ => exact ⟨t0, _, 0, .str n0, rfl, rfl, but_sqT ep b3 e2, atI_nat (j := 0) rfl, (by show 2 ≤ sizeLine; decide), fun t nt => hq _ (.tuple [.str "cell", .str n0]) _ (but_sameN (b2.trans b3) (same_upd nt)) (hp3.upd nt) (dpT nt (.cons (.str _) (.cons (.str _) .nil))) (.cell N.i0)⟩
            | 1, _ => exact ⟨t1, _, 0, .str n1, rfl, rfl, but_sqT ep b3 e3, atI_nat (j := 0) rfl, (by show 2 ≤ sizeLine; decide), fun t nt => hq _ (.tuple [.str "cell", .str n1]) _ (but_sameN (b2.trans b3) (same_upd nt)) (hp3.upd nt) (dpT nt (.cons (.str _) (.cons (.str _) .nil))) (.cell N.i1)⟩
          by_cases h2 : k = 2
          · rw [decide_eq_true h2]
            exact iteT (cell _ q)
          rw [decide_eq_false h2]
          refine iteF ⟨_, rfl, rfl, _, rfl, ?_⟩
          rw [dint]
          by_cases h8 : k = 8
          · rw [decide_eq_true h8]
            exact iteT (cell _ q)
          rw [decide_eq_false h8]
          refine iteF ⟨_, rfl, rfl, _, rfl, ?_⟩
          rw [dint]
          by_cases h3 : k = 3
          · rw [decide_eq_true h3]
            refine iteT ⟨_, rfl, p, 3, rfl, hp2, by omega, by omega, fun z H3 z0 z3 b3 hp3 fr => ⟨rfl, _, rfl, ite2 (fun _ => ⟨(by show 1 ≤ sizeLine; decide), fun t nt => ?_⟩) (fun _ => ⟨.ref p, rfl, leaf H3 _ (b2.trans b3) hp3 fun _ _ h => h⟩)⟩⟩
            exact q _ (.tuple [.str "tick"]) _ (but_sameN (b2.trans b3) (same_upd nt)) (hp3.upd nt) (dpT nt (.cons (.str _) .nil)) .tick
          rw [decide_eq_false h3]
          refine iteF ⟨_, rfl, rfl, _, rfl, ?_⟩
          rw [dint]
          have dpos : 0 < deep := k4 (by omega)
          have dm : deep - 1 + 1 = deep := by omega
          have dcast : ((deep : Nat) : Int) - 1 = ((deep - 1 : Nat) : Int) := by omega
          have dargs : [V.ref p, V.ref b, V.int n, V.int (((deep : Nat) : Int) - 1)] = [V.ref p, V.ref b, V.int n, V.int ((deep - 1 : Nat) : Int)] := by rw [dcast]
          by_cases h4 : k = 4
          · rw [decide_eq_true h4]
            have hb2' := hb2
            obtain ⟨c, f', t0, t1, g0, g1, e0, e1, e2, e3, e4, e5, e6⟩ := hb2
            refine iteT ⟨_, rfl, b, .ref f', rfl, dg e0 "functions" rfl, Nat.zero_le _, fun l nl => ?_⟩
            have sl : Same H2 (upd H2 l (.lst [])) := same_upd nl
            refine ⟨f', l, [.ref g0, .ref g1], [], rfl, rfl, .inl (.inl (sl _ _ e4)), .inl (.inl upd_same), Nat.succ_ne_zero _, _, rfl, iteT ?_⟩
            have b3 := but_sameN b2 sl
            have hp3 := hp2.same sl
            have npf : p ≠ f' := by
              obtain ⟨x, y, ep, _⟩ := hp2
              exact ne_of ep e4 (fun z => by cases z)
            have hb3 := hb2'.but hp2 (But.of sl)
            generalize upd H2 l (.lst []) = H3 at sl b3 hp3 hb3
            refine ⟨_, rfl, _, rfl, b, .ref f', rfl, dg (sl _ _ e0) "functions" rfl, p, f', [.ref g0, .ref g1], rfl, hp3, npf, .inl (.inl (.inl (sl _ _ e4))), Nat.le_of_ble_eq_true rfl, Nat.le_of_ble_eq_true rfl, fun i hi H4 b4 hp4 fr => ?_⟩
            have hb4 := hb3.but hp3 b4
            obtain ⟨g, nx, cnt, eg, e4g, inx, hc⟩ : ∃ (g : Addr) (nx : Str) (cnt : Nat), [V.ref g0, .ref g1][i] = .ref g ∧ H4 g = some (.dK [(.inr "name", .str nx), (.inr "many", .int (cnt : Int))]) ∧ isName (.str nx) = true ∧ cnt ≤ 2 := by
              obtain ⟨x, y, ep, _⟩ := hp3
              match i, hi with
              | 0, _ => exact ⟨g0, n2, 2, rfl, b4 _ _ (sl _ _ e5) (ne_of (sl _ _ e5) ep (fun z => nomatch z)), N.i2, by decide⟩
              | 1, _ => exact ⟨g1, n3, 0, rfl, b4 _ _ (sl _ _ e6) (ne_of (sl _ _ e6) ep (fun z => nomatch z)), N.i3, by decide⟩
            rw [eg]
            refine ⟨.ref g, rfl, g, .str nx, rfl, dg e4g "name" rfl, .ref g, rfl, g, .int (cnt : Int), rfl, dg e4g "many" rfl, (cnt : Int), rfl, by omega, by omega, fun D hD => ?_⟩
            refine lc_terms (K := K) (n := n) (f := 1) (vs := [7]) (j := 7) (D := D) (p := p) walk_range (by omega) hD hp4 (fun x => rfl)
              (fun i' x H5 H6 hi' b5 hp5 y => ⟨y.1, fun Q2 q2 => ⟨.ref p, rfl, .ref b, rfl, .int n, rfl, n0, n1, n2, n3, p, b, n, 0, N, rfl, hp5, hb4.but hp4 b5, hn0, hn2, by omega, fun v d H7 b7 hp7 dv gd => q2 v d H7 b7 hp7 dv gd⟩⟩)
              (fun ys ts H5 b5 hp5 e5' ha el hall => ⟨D, ys, rfl, .inl ⟨.inl (.inl e5'), fun t nt => ⟨(by show 3 ≤ sizeLine; decide), fun t2 nt2 => ?_⟩⟩⟩)
            refine q _ (.tuple [.str "call", .str nx, .tuple ts]) _ (but_sameN ((b3.trans b4).trans b5) ((same_upd nt).trans (same_upd nt2))) ((hp5.upd nt).upd nt2) (dpT nt2 (.cons (.str _) (.cons (.str _) (.cons (dpT nt ha) .nil)))) (.call inx ?_ fun t ht => gd_mono 1 deep t (hall t ht) dpos)
            rw [el]
            exact hc
          rw [decide_eq_false h4]
          refine iteF ⟨_, rfl, rfl, _, rfl, ?_⟩
          rw [dint]
          by_cases h7 : k = 7
          · rw [decide_eq_true h7]
            refine iteT ⟨(by show 1 ≤ sizeLine; decide), fun t1 nt1 => ⟨3, rfl, by decide, by decide, fun D hD => ?_⟩⟩
            have s1 : Same H2 (upd H2 t1 (.tup [.str "if"])) := same_upd nt1
            have hp3 := hp2.upd (o := .tup [.str "if"]) nt1
            have et1 : SqT K (upd H2 t1 (.tup [.str "if"])) t1 [.str "if"] := .inl (.inl upd_same)
            refine lc_terms (K := K) (n := n) (f := deep) (vs := [7]) (j := 7) (D := D) (p := p) (walk_range (n := 3)) (by decide) hD hp3 (fun x => rfl)
              (fun i' x H5 H6 hi' b5 hp5 y => ⟨y.1, fun Q2 q2 => ⟨.ref p, rfl, .ref b, rfl, .int n, rfl, .int deep, rfl, _, _, rfl, rfl, n0, n1, n2, n3, p, b, n, deep - 1, N, dargs, hp5, (hb2.but hp2 (But.of s1)).but hp3 b5, hn0, hn2, by omega, fun v d H7 b7 hp7 dv gd => q2 v d H7 b7 hp7 dv (by rw [dm] at gd; exact gd)⟩⟩)
              (fun ys ts H5 b5 hp5 e5' ha el hall => ⟨D, ys, rfl, .inl ⟨.inl (.inl e5'), fun t2 nt2 => ?_⟩⟩)
            have ely : ys.length = 3 := by rw [dpA_len ha, el]
            have et5 : SqT K H5 t1 [.str "if"] := by
              obtain ⟨x, y, ep, _⟩ := hp3
              exact but_sqT ep b5 et1
            refine ⟨t1, t2, [.str "if"], ys, rfl, rfl, same_sqT (same_upd nt2) et5, .inl (.inl upd_same), by simp, ?_, fun e => ?_, fun _ t3 nt3 => ?_⟩
            · rw [ely]
              decide
            · rw [e] at ely
              cases ely
            · exact q _ (.tuple (.str "if" :: ts)) _ (but_sameN ((but_sameN b2 s1).trans b5) ((same_upd nt2).trans (same_upd nt3))) ((hp5.upd nt2).upd nt3) (dpT nt3 (.cons (.str _) (dpA_same (same_upd nt2) ha))) (.op (.inl ⟨rfl, el⟩) hall)
          rw [decide_eq_false h7]
          refine iteF ?_
          refine ⟨.ref p, rfl, (by show 3 ≤ sizeLine; decide), fun l nl => ?_⟩
          refine ⟨p, l, _, rfl, hp2.upd nl, hp2.ne nl, .inl (.inl (.inl upd_same)), (by decide), (by decide), fun i hi H3 b3 hp3 fr => ?_⟩
          have sl : Same H2 (upd H2 l (.lst [.str "plus", .str "less", .str "same"])) := same_upd nl
          have hb3 := (hb2.but hp2 (But.of sl)).but (hp2.upd nl) b3
          have bb3 := (but_sameN b2 sl).trans b3
          obtain ⟨h, eh, hbin⟩ : ∃ h, [V.str "plus", .str "less", .str "same"][i] = .str h ∧ bin h := by
            match i, hi with
            | 0, _ => exact ⟨_, rfl, .inl rfl⟩
            | 1, _ => exact ⟨_, rfl, .inr (.inl rfl)⟩
            | 2, _ => exact ⟨_, rfl, .inr (.inr rfl)⟩
          rw [eh]
          refine ⟨.str h, rfl, .ref p, rfl, .ref b, rfl, .int n, rfl, .int deep, rfl, _, _, rfl, rfl, n0, n1, n2, n3, p, b, n, deep - 1, N, dargs, hp3, hb3, hn0, hn2, by omega, fun v1 d1 H4 b4 hp4 dv1 gd1 => ?_⟩
          rw [dm] at gd1
          refine ⟨.ref p, rfl, .ref b, rfl, .int n, rfl, .int deep, rfl, _, _, rfl, rfl, n0, n1, n2, n3, p, b, n, deep - 1, N, dargs, hp4, hb3.but hp3 b4, hn0, hn2, by omega, fun v2 d2 H5 b5 hp5 dv2 gd2 => ⟨(by show 3 ≤ sizeLine; decide), fun t nt => ?_⟩⟩
          rw [dm] at gd2
          refine q _ (.tuple [.str h, d1, d2]) _ (but_sameN ((bb3.trans b4).trans b5) (same_upd nt)) (hp5.upd nt) (dpT nt (.cons (.str _) (.cons (dp_but hp4 b5 (gd_nl _ _ gd1) dv1) (.cons dv2 .nil)))) (.op (.inr ⟨hbin, rfl⟩) fun t ht => ?_)
          rcases List.mem_cons.mp ht with rfl | ht
          · exact gd1
          · rw [List.mem_singleton.mp ht]
            exact gd2
end
/-! ### terms bent -/
abbrev sBent : Stmt := topS 32
theorem scBent : FnScope ["_law_pool_here", "_law_term_here", "_law_odd", "_law_parts", "_law_at"] ["_law_pool_here", "_law_term_here", "_law_odd"] (defScope sBent) := ⟨rfl, rfl, rfl, by decide +kernel, rfl, by decide +kernel, by decide +kernel⟩
def twoInts : List PyData → Bool
  | [.int _, .int _] => true
  | _ => false
mutual
def noP : PyData → Bool
  | .list ds => !twoInts ds && noPs ds
  | .tuple ds => noPs ds
  | .dict _ => false
  | _ => true
def noPs : List PyData → Bool
  | [] => true
  | d :: ds => noP d && noPs ds
end
theorem but_sqL {K : PySem.W.Frag} {p : Addr} {H H' : Hp} {x y : Int} (hp : H p = some (.lst [.int x, .int y])) (b : But p H H') {a : Addr} {xs : List V} (nx : xs ≠ [.int x, .int y]) (h : SqL K H a xs) : SqL K H' a xs := by
  rcases h with (h | ⟨o, h⟩) | h
  · exact .inl (.inl (b _ _ h (ne_of h hp (fun z => nx (HO.lst.inj z)))))
  · exact .inl (.inr ⟨o, b _ _ h (ne_of h hp (fun z => nomatch z))⟩)
  · exact .inr h
mutual
theorem dp_noP {K : PySem.W.Frag} {p : Addr} {H H' : Hp} {x y : Int} (hp : H p = some (.lst [.int x, .int y])) (b : But p H H') : ∀ (d : PyData) (v : V), noP d = true → Dp K H v d → Dp K H' v d
  | .none, _, _, h => by
    cases h
    exact .non
  | .bool b, _, _, h => by
    cases h
    exact .bl b
  | .int i, _, _, h => by
    cases h
    exact .int i
  | .str x, _, _, h => by
    cases h
    exact .str x
  | .list ds, _, n, h => by
    have n1 := Bool.and_eq_true_iff.mp (show (!twoInts ds && noPs ds) = true from n)
    cases h with
    | lst hs ha =>
      refine .lst (but_sqL hp b (fun e => ?_) hs) (dpAll_noP hp b ds _ n1.2 ha)
      rw [e] at ha
      cases ha with
      | cons h1 h2 =>
        cases h1
        cases h2 with
        | cons h3 h4 =>
          cases h3
          cases h4
          exact absurd (show false = true from n1.1) (by decide)
  | .tuple ds, _, n, h => by
    cases h with
    | tup hs ha => exact .tup (but_sqT hp b hs) (dpAll_noP hp b ds _ n ha)
  | .dict _, _, _, h => by cases h
theorem dpAll_noP {K : PySem.W.Frag} {p : Addr} {H H' : Hp} {x y : Int} (hp : H p = some (.lst [.int x, .int y])) (b : But p H H') : ∀ (ds : List PyData) (vs : List V), noPs ds = true → DpAll K H vs ds → DpAll K H' vs ds
  | [], _, _, h => by
    cases h
    exact .nil
  | d :: ds, _, n, h => by
    have n1 := Bool.and_eq_true_iff.mp (show (noP d && noPs ds) = true from n)
    cases h with
    | cons h1 h2 => exact .cons (dp_noP hp b d _ n1.1 h1) (dpAll_noP hp b ds _ n1.2 h2)
end
theorem dp_noP' {K : PySem.W.Frag} {p : Addr} {H H' : Hp} (hp : PoolAt H p) (b : But p H H') {d : PyData} {v : V} (n : noP d = true) (h : Dp K H v d) : Dp K H' v d := by
  obtain ⟨x, y, e, _⟩ := hp
  exact dp_noP e b d v n h
theorem szDs_set : ∀ {ts : List PyData} {i : Nat} {e : PyData}, szDs ts = true → szD e = true → szDs (ts.set i e) = true
  | [], _, _, _, _ => rfl
  | t :: ts, 0, e, h, he => by
    have h1 := Bool.and_eq_true_iff.mp (show (szD t && szDs ts) = true from h)
    show (szD e && szDs ts) = true
    rw [he, h1.2]
    rfl
  | t :: ts, i + 1, e, h, he => by
    have h1 := Bool.and_eq_true_iff.mp (show (szD t && szDs ts) = true from h)
    show (szD t && szDs (ts.set i e)) = true
    rw [h1.1, szDs_set h1.2 he]
    rfl
theorem dpA_set {K : PySem.W.Frag} {H : Hp} : ∀ {vs : List V} {ds : List PyData} {i : Nat} {v : V} {d : PyData}, DpAll K H vs ds → Dp K H v d → DpAll K H (vs.set i v) (ds.set i d)
  | _, _, _, _, _, .nil, _ => .nil
  | _, _, 0, _, _, .cons _ t, h => .cons h t
  | _, _, _ + 1, _, _, .cons a t, h => .cons a (dpA_set t h)
/-- no term, whatever stands around it -/
def Bad (n : Int) (k : Nat) (d : PyData) : Prop := ∀ j, k ≤ j → fmF n j d = false
theorem bad_in {n : Int} {k : Nat} {d e : PyData} (h : e ∈ inner d) (b : Bad n k e) : Bad n (k + 1) d := fun j hj => by
  cases j with
  | zero => omega
  | succ j =>
    show (hasForm n d && (inner d).all (fmF n j)) = false
    have h1 : (inner d).all (fmF n j) = false := by
      rw [List.all_eq_false]
      exact ⟨e, h, by rw [b j (by omega)]; decide⟩
    rw [h1, Bool.and_false]
theorem bad_up {n : Int} {k k' : Nat} {d : PyData} (h : Bad n k d) (hk : k ≤ k') : Bad n k' d := fun j hj => h j (by omega)
theorem bad_isTerm {n : Int} {k : Nat} {d : PyData} (h : Bad n k d) (hk : k ≤ 9) : isTerm n d = false := by
  rw [isTerm_is, h 9 hk]
  rfl
def Keeps (K : PySem.W.Frag) (H : Hp) (o : V) (od : PyData) (u : V) (e : PyData) : Prop := ∀ H'', (∀ a xs, SqT K H a xs → SqT K H'' a xs) → Dp K H'' o od → Dp K H'' u e
def spBent (K : PySem.W.Frag) (m : Nat) : Sp := fun vs H Q _ => ∃ (p : Addr) (v o : V) (d od : PyData) (n : Int) (f : Nat), vs = [.ref p, v, o] ∧ PoolAt H p ∧ Dp K H v d ∧ Gd n f d ∧ f ≤ m ∧ m ≤ 8 ∧ Dp K H o od ∧ noP od = true ∧ szD od = true ∧ Bad n 2 od ∧
  ∀ u e H', But p H H' → PoolAt H' p → Keeps K H' o od u e → szD e = true → Bad n (f + 2) e → Q u H'
theorem szD_tset {ts : List PyData} {j : Nat} {e : PyData} (h : szD (.tuple ts) = true) (he : szD e = true) : szD (.tuple (ts.set j e)) = true := by
  have h1 := Bool.and_eq_true_iff.mp (show (decide (ts.length ≤ 1000) && szDs ts) = true from h)
  show (decide ((ts.set j e).length ≤ 1000) && szDs (ts.set j e)) = true
  rw [List.length_set, h1.1, szDs_set h1.2 he]
  rfl
theorem mem_set' {ts : List PyData} {j : Nat} {e : PyData} (h : j < ts.length) : e ∈ ts.set j e := List.mem_of_getElem? (i := j) (by rw [List.getElem?_set_self h])
theorem ixN_nat {l j : Nat} (h : j < l) : ixN l (j : Int) = some j := by
  unfold ixN
  rw [if_pos (by omega), if_pos (by omega)]
  rfl
theorem eqvAll_nil : ∀ ds : List PyData, PyData.eqv (.list ds) (.list []) = ds.isEmpty
  | [] => rfl
  | _ :: _ => rfl
section
variable {P : Program} {w : World} {K : PySem.W.Frag} {mg : Str → Option Value} {base : Heap}
theorem ok_bent {f fD fI : Addr} {fd dD dI : FuncData} (F : Fun K "_law_bent" "_law_bent" sBent f fd) (M : Blt mg) (bF : Binds K fd ["_law_pool_here", "_law_term_here", "_law_odd"] []) (gF : mg "_law_bent" = some (.ref f))
    (FD : Fun K "_law_draw" "_law_draw" sDraw fD dD) (bD : Binds K dD ["_law_pool_here", "_law_many"] []) (gD : mg "_law_draw" = some (.ref fD))
    (FI : Fun K "_law_inner" "_law_inner" sLInner fI dI) (bI : Binds K dI ["_law_term_here"] []) (gI : mg "_law_inner" = some (.ref fI)) :
    ∀ m : Nat, FnOk P w K mg base CX0 (m + 2) f fd ["_law_pool_here", "_law_term_here", "_law_odd"] (spBent K m) := by
  have GD : FnOk P w K mg base CX0 1 fD dD ["_law_pool_here", "_law_many"] spDraw := ok_draw FD M
  have GI : FnOk P w K mg base CX0 1 fI dI ["_law_term_here"] (spLInner K) := ok_linner FI M
  intro m
  induction m with
  | zero =>
    refine F.ok scBent (fun vs H Q E h => ?_) (fun cdv A outer s H vs Q E hr h => ?_)
    · obtain ⟨p, v, o, d, od, n, g, rfl, _⟩ := h
      rfl
    · obtain ⟨p, v, o, d, od, n, g, rfl, _, _, hg, h0, _⟩ := h
      have e : g = 0 := by omega
      subst e
      nomatch hg
  | succ m GB =>
    refine F.ok scBent (fun vs H Q E h => ?_) (fun cdv A outer s H vs Q E hr h => ?_)
    · obtain ⟨p, v, o, d, od, n, g, rfl, _⟩ := h
      rfl
    · obtain ⟨p, v, o, d, od, n, g, rfl, hp, hv, hg, hgm, hm, ho, hnp, hso, hbad, q⟩ := h
      have hr1 : Room 1 _ := hr.mono (by omega)
      have hu := hu_of hr
      refine ⟨_, pss_cons (ps_set (i := 3) scBent.nd rfl (.inl rfl) (pe_call GI hr1 (by rfl) gI FI.kp bI .nil pass0 (pa_cons (pv 1) pa_nil)))
        (pss_cons (ps_if (PW.pt (pw_or (pt_cmpR (op_eqD hr.units) (pv 3) (pe_lst pa_nil) (nomark _)) (pw_or1 (pt_cmpR op_eq (pe_call GD hr1 (by rfl) gD FD.kp bD .nil pass0 (pa_cons (pv 0) (pa_cons pe_int pa_nil))) pe_int (nomark _))))) (pss_one (ps_ret (pv 2))) pss_nil)
        (pss_cons (ps_set (i := 4) scBent.nd rfl (.inl rfl) (pe_call GD hr1 (by rfl) gD FD.kp bD .nil pass0 (pa_cons (pv 0) (pa_cons (pe_callB call_len_seq (by rfl) M.len PySem.boot_len (pa_cons (pv 3) pa_nil)) pa_nil))))
        (pss_cons (ps_asg (pe_call GB hr (by rfl) gF F.kp bF .nil pass0 (pa_cons (pv 0) (pa_cons (pe_ix ix_list (pv 3) (pv 4) (fun _ _ => rfl)) (pa_cons (pv 2) pa_nil)))) (pg_sub (pv 3) (pv 4) set_list))
        (pss_one (ps_ret (pe_ifExp (pt_cmpR op_eq (pe_ix ix_tup (pv 1) pe_int (fun _ _ => rfl)) pe_str (nomark _))
          (pe_tup (pa_cons (pe_ix ix_tup (pv 1) pe_int (fun _ _ => rfl)) (pa_cons (pe_ix ix_tup (pv 1) pe_int (fun _ _ => rfl)) (pa_cons (pe_callTy call_tuple_of (by rfl) M.tuple (by decide +kernel) (pa_cons (pv 3) pa_nil)) pa_nil))))
          (pe_op op_catT (pe_tup (pa_cons (pe_ix ix_tup (pv 1) pe_int (fun _ _ => rfl)) pa_nil)) (pe_callTy call_tuple_of (by rfl) M.tuple (by decide +kernel) (pa_cons (pv 3) pa_nil))))))))), ?_⟩
      cases g with
      | zero => nomatch hg
      | succ g =>
      have hinn := gd_inner hg
      refine ⟨v, rfl, v, d, n, g + 1, rfl, hv, hg, fun l0 xs H1 s1 nl0 el0 hxs => ?_⟩
      have lxs : xs.length = (inner d).length := dpA_len hxs
      have hp1 := hp.same s1
      have hx1 := dpA_same s1 hxs
      -- nothing within, or by chance: the odd one
      refine ⟨_, rfl, Nat.zero_le _, fun l1 nl1 => ?_⟩
      have s2 : Same H1 (upd H1 l1 (.lst [])) := same_upd nl1
      refine ⟨.list (inner d), .list [], .lst (.inl (.inl (s2 _ _ el0))) (dpA_same s2 hx1), .lst (.inl (.inl upd_same)) .nil, ?_, by decide +kernel, _, rfl, ?_⟩
      · refine Bool.and_eq_true_iff.mpr ⟨canLay_of fun t ht => (gd_lay g t (hinn.1 t ht)).1, decide_eq_true ?_⟩
        have h1 := depth_of fun t ht => (gd_lay g t (hinn.1 t ht)).2
        show PyData.depthAll (inner d) + 1 ≤ 64
        omega
      have el2 := s2 _ _ el0
      have hx2 := dpA_same s2 hx1
      have hp2 := hp1.same s2
      have s12 := s1.trans s2
      generalize upd H1 l1 (.lst []) = H2 at s2 el2 hx2 hp2 s12
      rw [eqvAll_nil]
      have odd : ∀ H', But p H H' → PoolAt H' p → Q o H' := fun H' b hp' => q o od H' b hp' (fun _ _ h => h) hso (bad_up hbad (by omega))
      cases hin : (inner d).isEmpty with
      | true => exact iteT ⟨_, rfl, odd H2 (But.of s12) hp2⟩
      | false =>
        refine iteF ⟨.ref p, rfl, p, 3, rfl, hp2, by omega, by omega, fun z H3 z0 z3 b3 hp3 fr3 => ⟨rfl, _, rfl, ?_⟩⟩
        have b13 : But p H H3 := (But.of s12).trans b3
        refine ite2 (fun _ => ⟨_, rfl, odd H3 b13 hp3⟩) (fun _ => ?_)
        have npl : l0 ≠ p := (hp.ne nl0).symm
        have el3 : H3 l0 = some (.lst xs) := b3 _ _ el2 npl
        have tup3 : ∀ a ys, SqT K H1 a ys → SqT K H3 a ys := fun a ys h => by
          obtain ⟨x, y, ep, _⟩ := hp2
          exact but_sqT ep b3 (same_sqT s2 h)
        have nlI : noLs (inner d) = true := noLs_of fun t ht => gd_nl g t (hinn.1 t ht)
        have lpos : 0 < xs.length := by
          rw [lxs]
          cases hi : inner d with
          | nil =>
            rw [hi] at hin
            cases hin
          | cons _ _ => exact Nat.succ_pos _
        have l3 := hinn.2
        refine ⟨.ref p, rfl, _, rfl, l0, xs, rfl, .inl (.inl (.inl el3)), p, (xs.length : Int), rfl, hp3, by omega, by omega, fun z2 H4 zz0 zzl b4 hp4 fr4 => ?_⟩
        obtain ⟨j, rfl⟩ := Int.eq_ofNat_of_zero_le zz0
        have hj : j < xs.length := by omega
        have el4 : H4 l0 = some (.lst xs) := b4 _ _ el3 npl
        have tup4 : ∀ a ys, SqT K H1 a ys → SqT K H4 a ys := fun a ys h => by
          obtain ⟨x, y, ep, _⟩ := hp3
          exact but_sqT ep b4 (tup3 a ys h)
        have hx4 : DpAll K H4 xs (inner d) := dpAll_tups tup4 _ _ nlI hx1
        have b14 : But p H H4 := b13.trans b4
        obtain ⟨t, hd, dx⟩ := dpA_at hx4 (List.getElem?_eq_getElem hj)
        have gt := hinn.1 t (List.mem_of_getElem? hd)
        have ho4 := dp_noP' hp b14 hnp ho
        refine ⟨.ref p, rfl, _, rfl, _, rfl, l0, xs, (j : Int), xs[j], rfl, rfl, .inl (.inl el4), atI_nat (List.getElem?_eq_getElem hj), o, rfl, p, xs[j], o, t, od, n, g, rfl, hp4, dx, gt, by omega, by omega, ho4, hnp, hso, hbad, fun u e H5 b5 hp5 keep sze bade => ?_⟩
        have el5 : H5 l0 = some (.lst xs) := b5 _ _ el4 npl
        refine ⟨_, rfl, _, rfl, l0, xs, (j : Int), j, rfl, rfl, el5, ixN_nat hj, ?_⟩
        have b15 : But p H H5 := b14.trans b5
        have b16 : But p H (upd H5 l0 (.lst (xs.set j u))) := fun b o' e' nb => by
          rw [upd_ne (ne_of_none e' nl0)]
          exact b15 b o' e' nb
        have hp6 : PoolAt (upd H5 l0 (.lst (xs.set j u))) p := by
          obtain ⟨x, y, ep, r⟩ := hp5
          exact ⟨x, y, by rw [upd_ne npl.symm]; exact ep, r⟩
        have tup56 : ∀ a ys, SqT K H5 a ys → SqT K (upd H5 l0 (.lst (xs.set j u))) a ys := fun a ys h => but_sqT el5 But.upd h
        have tup5 : ∀ a ys, SqT K H1 a ys → SqT K H5 a ys := fun a ys h => by
          obtain ⟨x, y, ep, _⟩ := hp4
          exact but_sqT ep b5 (tup4 a ys h)
        have el6 : (upd H5 l0 (.lst (xs.set j u))) l0 = some (.lst (xs.set j u)) := upd_same
        generalize upd H5 l0 (.lst (xs.set j u)) = H6 at b16 hp6 tup56 el6
        have hv6 : Dp K H6 v d := dp_tups (fun a ys h => tup56 a ys (tup5 a ys (same_sqT s1 h))) d v (gd_nl (g + 1) d hg) hv
        have szd := gd_sz (g + 1) d hg
        have hjd : j < (inner d).length := by omega
        rcases gd_tup hg with ⟨i, rfl, _, _⟩ | ⟨z, rest, rfl, hcall, htick⟩
        · cases hin
        · cases hv6 with
          | @tup a ys _ hs ha =>
            cases ha with
            | @cons x0 xr _ _ h0 hr0 =>
              cases h0
              have at0 : atI (V.str z :: xr) (0 : Int) = some (.str z) := atI_nat (j := 0) rfl
              refine ⟨_, rfl, a, _, 0, .str z, rfl, rfl, hs, at0, rfl, _, rfl, ?_⟩
              rw [dstr]
              by_cases hz : z = "call"
              · subst hz
                obtain ⟨x, ts, rfl⟩ := hcall rfl
                rw [decide_eq_true rfl]
                cases hr0 with
                | @cons x1 xr1 _ _ h1 hn1 =>
                  cases h1
                  refine iteT ⟨_, rfl, a, _, 0, .str "call", rfl, rfl, hs, at0, _, rfl, a, _, 1, .str x, rfl, rfl, hs, atI_nat (j := 1) rfl, _, rfl, l0, _, rfl, .inl ⟨.inl (.inl el6), fun t1 nt1 => ⟨(by show 3 ≤ sizeLine; decide), fun t2 nt2 => ?_⟩⟩⟩
                  have s8 := (same_upd (o := .tup (xs.set j u)) nt1).trans (same_upd (o := .tup [.str "call", .str x, .ref t1]) nt2)
                  have et1 : SqT K (upd (upd H6 t1 (.tup (xs.set j u))) t2 (.tup [.str "call", .str x, .ref t1])) t1 (xs.set j u) := same_sqT (same_upd nt2) (.inl (.inl upd_same))
                  refine q _ (.tuple [.str "call", .str x, .tuple (ts.set j e)]) _ (but_sameN b16 s8) ((hp6.upd nt1).upd nt2) (fun H'' tp hd => ?_) ?_ ?_
                  · exact .tup (tp _ _ (.inl (.inl upd_same))) (.cons (.str _) (.cons (.str _) (.cons (.tup (tp _ _ et1) (dpA_set (dpAll_tups (fun a ys h => tp _ _ (same_sqT s8 (tup56 a ys (tup5 a ys h)))) ts xs nlI hx1) (keep H'' (fun a ys h => tp _ _ (same_sqT s8 (tup56 a ys h))) hd))) .nil)))
                  · have h2 : szD (.tuple ts) = true := szDs_get (szD_tup szd) (i := 2) rfl
                    exact szD_tset (j := 2) szd (szD_tset h2 sze)
                  · exact bad_in (mem_set' hjd) bade
              · rw [decide_eq_false hz]
                have hz2 : ¬ (z = "arg" ∨ z = "cell") := fun h => by
                  have e0 : inner (.tuple (.str z :: rest)) = [] := if_pos h
                  rw [e0] at hin
                  cases hin
                have ei : ∀ r : List PyData, inner (.tuple (.str z :: r)) = r := fun r => (if_neg hz2).trans (if_neg hz)
                refine iteF ⟨_, rfl, a, _, 0, .str z, rfl, rfl, hs, at0, (by show 1 ≤ sizeLine; decide), fun t0 nt0 => ⟨_, rfl, l0, xs.set j u, rfl, .inl ⟨?_, fun t1 nt1 => ?_⟩⟩⟩
                · exact .inl (.inl ((same_upd nt0) _ _ el6))
                · have lset : (xs.set j u).length = xs.length := List.length_set
                  refine ⟨t0, t1, [.str z], xs.set j u, rfl, rfl, same_sqT (same_upd nt1) (.inl (.inl upd_same)), .inl (.inl upd_same), List.cons_ne_nil _ _, ?_, fun e0 => ?_, fun _ t2 nt2 => ?_⟩
                  · rw [lset]
                    exact Nat.le_trans (show 1 + xs.length ≤ 4 by omega) (by decide)
                  · rw [e0] at lset
                    rw [← lset] at lpos
                    cases lpos
                  · have s8 := ((same_upd (o := .tup [.str z]) nt0).trans (same_upd (o := .tup (xs.set j u)) nt1)).trans (same_upd (o := .tup ([.str z] ++ xs.set j u)) nt2)
                    rw [ei] at hx1 nlI hjd
                    refine q _ (.tuple (.str z :: rest.set j e)) _ (but_sameN b16 s8) (((hp6.upd nt0).upd nt1).upd nt2) (fun H'' tp hd => ?_) ?_ ?_
                    · exact .tup (tp _ _ (.inl (.inl upd_same))) (.cons (.str _) (dpA_set (dpAll_tups (fun a ys h => tp _ _ (same_sqT s8 (tup56 a ys (tup5 a ys h)))) rest xs nlI hx1) (keep H'' (fun a ys h => tp _ _ (same_sqT s8 (tup56 a ys h))) hd)))
                    · exact szD_tset (j := j + 1) szd sze
                    · refine bad_in (e := e) ?_ bade
                      rw [ei]
                      exact mem_set' hjd
end
/-! ### the law's names -/
abbrev sLNames : Stmt := topS 28
theorem scLNames : FnScope ["_law_pool_here", "_law_count", "_law_signs", "_law_origin", "_law_step", "_law_ends", "_law_head", "_law_tail", "_law_k"] ["_law_pool_here", "_law_count"] (defScope sLNames) := ⟨rfl, rfl, rfl, by decide +kernel, rfl, by decide +kernel, by decide +kernel⟩
theorem low_at : ∀ i : Nat, i < 26 → ∃ c, (Str.ofString "abcdefghijklmnopqrstuvwxyz").cps.toList[i]? = some c ∧ lowCode c = true := by
  have h : ∀ i : Nat, i < 26 → ((Str.ofString "abcdefghijklmnopqrstuvwxyz").cps.toList[i]?).any lowCode = true := by decide +kernel
  intro i hi
  have h1 := h i hi
  cases e : (Str.ofString "abcdefghijklmnopqrstuvwxyz").cps.toList[i]? with
  | none =>
    rw [e] at h1
    cases h1
  | some c =>
    rw [e] at h1
    exact ⟨c, rfl, h1⟩
theorem name_of {h t : Str} {c : Nat} (hh : h.cps.toList.all lowCode = true) (ht : t.cps.toList.all lowCode = true) (hc : lowCode c = true) (hl : h.length + t.length ≤ 7) : isName (.str (h ++ ⟨#[c]⟩ ++ t)) = true := by
  have e1 : (h ++ (⟨#[c]⟩ : Str) ++ t).cps = h.cps ++ #[c] ++ t.cps := rfl
  have e2 : (h ++ (⟨#[c]⟩ : Str) ++ t).length = h.length + 1 + t.length := by
    show (h ++ (⟨#[c]⟩ : Str) ++ t).cps.size = h.cps.size + 1 + t.cps.size
    rw [e1, Array.size_append, Array.size_append]
    rfl
  show (decide (1 ≤ ((h ++ (⟨#[c]⟩ : Str) ++ t).length : Int)) && decide (((h ++ (⟨#[c]⟩ : Str) ++ t).length : Int) ≤ 8) && (h ++ (⟨#[c]⟩ : Str) ++ t).cps.toList.all lowCode) = true
  rw [e2, decide_eq_true (by omega), decide_eq_true (by omega), e1, Array.toList_append, Array.toList_append, List.all_append, List.all_append, hh, ht]
  show (true && true && (true && (lowCode c && true) && true)) = true
  rw [hc]
  rfl
def spLNames (K : PySem.W.Frag) : Sp := fun vs H Q _ => ∃ (p : Addr), vs = [.ref p, .int 4] ∧ PoolAt H p ∧ ∀ r n0 n1 n2 n3 H', But p H H' → PoolAt H' p → H' r = some (.lst [.str n0, .str n1, .str n2, .str n3]) → Nms n0 n1 n2 n3 → Q (.ref r) H'
def endsD : List PyData := [.tuple [.str "", .str ""], .tuple [.str "", .str "q"], .tuple [.str "ab", .str ""], .tuple [.str "abcdefg", .str ""], .tuple [.str "", .str "abcdefg"]]
theorem ends_are : ∀ {i : Nat} {d : PyData}, endsD[i]? = some d → ∃ h t : Str, d = .tuple [.str h, .str t] ∧ h.cps.toList.all lowCode = true ∧ t.cps.toList.all lowCode = true ∧ h.length + t.length ≤ 7
  | 0, _, e => ⟨_, _, (Option.some.inj e).symm, by decide +kernel, by decide +kernel, by decide +kernel⟩
  | 1, _, e => ⟨_, _, (Option.some.inj e).symm, by decide +kernel, by decide +kernel, by decide +kernel⟩
  | 2, _, e => ⟨_, _, (Option.some.inj e).symm, by decide +kernel, by decide +kernel, by decide +kernel⟩
  | 3, _, e => ⟨_, _, (Option.some.inj e).symm, by decide +kernel, by decide +kernel, by decide +kernel⟩
  | 4, _, e => ⟨_, _, (Option.some.inj e).symm, by decide +kernel, by decide +kernel, by decide +kernel⟩
  | n + 5, _, e => nomatch e
section
variable {P : Program} {w : World} {K : PySem.W.Frag} {mg : Str → Option Value} {base : Heap}
theorem ok_lnames {f fD fP : Addr} {fd dD dP : FuncData} (F : Fun K "_law_names" "_law_names" sLNames f fd) (M : Blt mg)
    (FD : Fun K "_law_draw" "_law_draw" sDraw fD dD) (bD : Binds K dD ["_law_pool_here", "_law_many"] []) (gD : mg "_law_draw" = some (.ref fD))
    (FP : Fun K "_law_pick" "_law_pick" sPick fP dP) (bP : Binds K dP ["_law_pool_here", "_law_row"] []) (gP : mg "_law_pick" = some (.ref fP)) :
    FnOk P w K mg base CX0 3 f fd ["_law_pool_here", "_law_count"] (spLNames K) := by
  have GD : FnOk P w K mg base CX0 1 fD dD ["_law_pool_here", "_law_many"] spDraw := ok_draw FD M
  have GP : FnOk P w K mg base CX0 2 fP dP ["_law_pool_here", "_law_row"] (spPick K) := ok_pick FP M FD bD gD
  refine F.ok scLNames (fun vs H Q E h => ?_) (fun cdv A outer s H vs Q E hr h => ?_)
  · obtain ⟨p, rfl, _⟩ := h
    rfl
  · obtain ⟨p, rfl, hp, q⟩ := h
    have hr1 : Room 1 _ := hr.mono (by omega)
    refine ⟨_, pss_cons (ps_set (i := 2) scLNames.nd rfl (.inr rfl) pe_str)
      (pss_cons (ps_asg (pe_tup (pa_cons (pe_call GD hr1 (by rfl) gD FD.kp bD .nil pass0 (pa_cons (pv 0) (pa_cons pe_int pa_nil)))
          (pa_cons (pe_op op_add pe_int (pe_op op_mul pe_int (pe_call GD hr1 (by rfl) gD FD.kp bD .nil pass0 (pa_cons (pv 0) (pa_cons pe_int pa_nil))))) pa_nil)))
          (pg_tup (by rfl) (pgs_cons (pg_name (i := 3) scLNames.nd rfl (.inr rfl)) (pgs_cons (pg_name (i := 4) scLNames.nd rfl (.inr rfl)) pgs_nil))))
      (pss_cons (ps_set (i := 5) scLNames.nd rfl (.inl rfl) (pe_lst (pa_cons (pe_tup (pa_cons pe_str (pa_cons pe_str pa_nil))) (pa_cons (pe_tup (pa_cons pe_str (pa_cons pe_str pa_nil))) (pa_cons (pe_tup (pa_cons pe_str (pa_cons pe_str pa_nil)))
          (pa_cons (pe_tup (pa_cons pe_str (pa_cons pe_str pa_nil))) (pa_cons (pe_tup (pa_cons pe_str (pa_cons pe_str pa_nil))) pa_nil)))))))
      (pss_cons (ps_asg (pe_call GP hr (by rfl) gP FP.kp bP .nil pass0 (pa_cons (pv 0) (pa_cons (pv 5) pa_nil)))
          (pg_tup (by rfl) (pgs_cons (pg_name (i := 6) scLNames.nd rfl (.inr rfl)) (pgs_cons (pg_name (i := 7) scLNames.nd rfl (.inr rfl)) pgs_nil))))
      (pss_one (ps_ret (pe_lc (own := [("_law_k", 8)]) (g := gName 8) (by rfl) scLNames.nd (pi_range1 (by rfl) M.range (pa_cons (pv 1) pa_nil)) (blkOk_by (own := [("_law_k", 8)]) (N := ["_law_pool_here", "_law_count", "_law_signs", "_law_origin", "_law_step", "_law_ends", "_law_head", "_law_tail", "_law_k"]) (sc := defScope sLNames) (by decide +kernel))
          (fun _ _ _ _ _ => pg_name (i := 8) scLNames.nd rfl (Or.inl rfl)) (fun _ _ _ _ _ => pts_nil)
          (fun _ _ _ _ _ => pe_op op_add_str (pe_op op_add_str (pv 6) (pe_ix ix_str (pv 2) (pe_op op_mod (pe_callTy call_int1 (by rfl) M.int (by decide +kernel) (pa_cons (pe_op op_add (pv 3) (pe_op op_mul (pv 4) (pv 8))) pa_nil)) pe_int) (fun _ _ => rfl))) (pv 7)))))))), ?_⟩
    refine q_c (i := 2) (v := .str "abcdefghijklmnopqrstuvwxyz") ?_
    dsimp only [List.set]
    refine ⟨.ref p, rfl, p, 26, rfl, hp, by omega, by omega, fun o H1 o0 o1 b1 hp1 fr1 => ?_⟩
    refine ⟨.ref p, rfl, p, 6, rfl, hp1, by omega, by omega, fun z H2 z0 z1 b2 hp2 fr2 => ?_⟩
    refine ⟨_, _, rfl, rfl, .inl ⟨by decide, by decide⟩, _, _, rfl, rfl, (by show 2 ≤ sizeLine; decide), fun t nt => ?_⟩
    refine ⟨t, _, rfl, .inl (.inl upd_same), rfl, _, _, rfl, _, _, rfl, rfl, ?_⟩
    have st : Same H2 (upd H2 t (.tup [.int o, .int (1 + 2 * z)])) := same_upd nt
    have b3 := but_sameN (b1.trans b2) st
    have hp3 := hp2.same st
    generalize upd H2 t (.tup [.int o, .int (1 + 2 * z)]) = H3 at b3 hp3
    refine ⟨(by show 2 ≤ sizeLine; decide), fun t1 m1 => ⟨(by show 2 ≤ sizeLine; decide), fun t2 m2 => ⟨(by show 2 ≤ sizeLine; decide), fun t3 m3 => ⟨(by show 2 ≤ sizeLine; decide), fun t4 m4 => ⟨(by show 2 ≤ sizeLine; decide), fun t5 m5 => ⟨(by show 5 ≤ sizeLine; decide), fun l ml => ?_⟩⟩⟩⟩⟩⟩
    have k2 := same_upd (o := .tup [.str "", .str "q"]) m2
    have k3 := same_upd (o := .tup [.str "ab", .str ""]) m3
    have k4 := same_upd (o := .tup [.str "abcdefg", .str ""]) m4
    have k5 := same_upd (o := .tup [.str "", .str "abcdefg"]) m5
    have k1 := same_upd (o := .tup [.str "", .str ""]) m1
    have kl := same_upd (o := .lst [.ref t1, .ref t2, .ref t3, .ref t4, .ref t5]) ml
    have two : ∀ (H : Hp) (a b : Str), DpAll K H [.str a, .str b] [.str a, .str b] := fun H a b => .cons (.str a) (.cons (.str b) .nil)
    have hA : DpAll K _ [.ref t1, .ref t2, .ref t3, .ref t4, .ref t5] endsD := dpA_same kl (.cons (dp_same (k2.trans (k3.trans (k4.trans k5))) (dpT m1 (two _ _ _))) (.cons (dp_same (k3.trans (k4.trans k5)) (dpT m2 (two _ _ _))) (.cons (dp_same (k4.trans k5) (dpT m3 (two _ _ _))) (.cons (dp_same k5 (dpT m4 (two _ _ _))) (.cons (dpT m5 (two _ _ _)) .nil)))))
    have s4 := k1.trans (k2.trans (k3.trans (k4.trans (k5.trans kl))))
    have el : (upd (upd (upd (upd (upd (upd H3 t1 (.tup [.str "", .str ""])) t2 (.tup [.str "", .str "q"])) t3 (.tup [.str "ab", .str ""])) t4 (.tup [.str "abcdefg", .str ""])) t5 (.tup [.str "", .str "abcdefg"])) l (.lst [.ref t1, .ref t2, .ref t3, .ref t4, .ref t5])) l = some (.lst [.ref t1, .ref t2, .ref t3, .ref t4, .ref t5]) := upd_same
    have npl : p ≠ l := (((((hp3.upd m1).upd m2).upd m3).upd m4).upd m5).ne ml
    generalize upd (upd (upd (upd (upd (upd H3 t1 (.tup [.str "", .str ""])) t2 (.tup [.str "", .str "q"])) t3 (.tup [.str "ab", .str ""])) t4 (.tup [.str "abcdefg", .str ""])) t5 (.tup [.str "", .str "abcdefg"])) l (.lst [.ref t1, .ref t2, .ref t3, .ref t4, .ref t5]) = H4 at hA s4 el
    have b4 := but_sameN b3 s4
    have hp4 := hp3.same s4
    refine ⟨.ref p, rfl, .ref l, rfl, p, l, _, rfl, hp4, npl, .inl (.inl (.inl el)), Nat.le_of_ble_eq_true rfl, Nat.le_of_ble_eq_true rfl, fun i hi H5 b5 hp5 fr5 => ?_⟩
    obtain ⟨de, hde, dv⟩ := dpA_at hA (List.getElem?_eq_getElem hi)
    obtain ⟨h, tl, rfl, lowh, lowt, hlen⟩ := ends_are hde
    generalize [V.ref t1, .ref t2, .ref t3, .ref t4, .ref t5][i] = vv at dv
    cases dv with
    | @tup a ys _ hs ha =>
      cases ha with
      | cons h1 h2 =>
        cases h1
        cases h2 with
        | cons h3 h4 =>
          cases h3
          cases h4
          obtain ⟨px, py, pe, _⟩ := hp4
          refine ⟨a, _, rfl, but_sqT pe b5 hs, rfl, _, _, rfl, _, _, rfl, rfl, ?_⟩
          refine ⟨_, rfl, 4, rfl, by decide, by decide, fun D hD => ?_⟩
          refine walk_gen (walk_range (lo := 0) (n := 4)) (fun i H' => Same H5 H' ∧ ∃ zs : List Str, H' D = some (.lst (zs.map V.str)) ∧ zs.length = i ∧ ∀ z ∈ zs, isName (.str z) = true) ⟨same_upd hD, [], upd_same, rfl, fun z h => by cases h⟩ (fun _ _ _ _ => True.intro) (fun i' x H6 H7 hi' pv' y => ?_) (fun H' pv' => ?_)
          · obtain ⟨s6, zs, e6, l6, a6⟩ := pv'
            obtain ⟨rfl, rfl⟩ := y
            refine And.intro rfl ?_
            unfold tYes
            refine iteT ?_
            generalize hv : (o + (1 + 2 * z) * (0 + (i' : Int))) = vv
            have h1 := Int.emod_lt_of_pos vv (show (0 : Int) < 26 by decide)
            have h2 := Int.emod_nonneg vv (show (26 : Int) ≠ 0 by decide)
            obtain ⟨c, hc, lc⟩ := low_at (vv % 26).toNat (by omega)
            have hat : atI (Str.ofString "abcdefghijklmnopqrstuvwxyz").cps.toList (vv % 26) = some c := by
              unfold atI ixN
              rw [if_pos h2, if_pos (show vv % 26 < (((Str.ofString "abcdefghijklmnopqrstuvwxyz").cps.toList.length : Nat) : Int) from h1)]
              exact hc
            refine ⟨_, rfl, _, rfl, _, rfl, _, rfl, _, rfl, _, _, rfl, rfl, .inl ⟨by omega, by omega⟩, _, _, rfl, rfl, .inl ⟨_, rfl, _, _, rfl, rfl, (by show (0 : Int) < 26; decide), ?_⟩⟩
            rw [hv]
            have hl1 : h.length + (⟨#[c]⟩ : Str).length ≤ sizeLine := Nat.le_trans (show h.length + 1 ≤ 8 by omega) (by decide)
            have hl2 : (h ++ (⟨#[c]⟩ : Str)).length + tl.length ≤ sizeLine := by
              have e2 : (h ++ (⟨#[c]⟩ : Str)).length = h.length + 1 := by
                show (h.cps ++ #[c]).size = h.cps.size + 1
                rw [Array.size_append]
                rfl
              rw [e2]
              exact Nat.le_trans (show h.length + 1 + tl.length ≤ 8 by omega) (by decide)
            refine ⟨_, _, c, rfl, rfl, (by decide +kernel), hat, _, _, rfl, rfl, hl1, _, rfl, _, _, rfl, rfl, hl2, zs.map V.str, e6, ?_, fun b o' e' => ?_, zs ++ [h ++ (⟨#[c]⟩ : Str) ++ tl], ?_, ?_, fun u hu => ?_⟩
            · rw [List.length_map, l6]
              exact Nat.lt_of_le_of_lt (show i' ≤ 4 by omega) (by decide)
            · rw [upd_ne (ne_of_none e' hD)]
              exact s6 _ _ e'
            · rw [upd_same, List.map_append]
              rfl
            · rw [List.length_append, l6]
              rfl
            · rcases List.mem_append.mp hu with hu | hu
              · exact a6 u hu
              · rw [List.mem_singleton.mp hu]
                exact name_of lowh lowt lc hlen
          · obtain ⟨s6, zs, e6, l6, a6⟩ := pv'
            match zs, l6, a6, e6 with
            | [n0, n1, n2, n3], _, a6, e6 => exact q D n0 n1 n2 n3 H' (but_sameN (b4.trans b5) s6) (hp5.same s6) e6 ⟨a6 _ (by simp), a6 _ (by simp), a6 _ (by simp), a6 _ (by simp)⟩
end
/-! ### the odd ones -/
theorem name_cell {n : Int} {p : PyData} (hf : hasForm n p = true) (h : isW "cell" p = true) : isName (.str (nm p)) = true := by
  obtain ⟨rest, rfl, hv⟩ := isW_head h
  have hf1 : formOf n "cell" rest = true := by
    have e : hasForm n (.tuple (.str "cell" :: rest)) = (isValue (.tuple (.str "cell" :: rest)) || formOf n "cell" rest) := rfl
    rw [e, hv] at hf
    exact hf
  have e1 : formOf n "cell" rest = on1 isName rest := (if_neg (by decide +kernel)).trans (if_pos rfl)
  rw [e1] at hf1
  match rest, hf1 with
  | [d], hf1 =>
    obtain ⟨x, rfl⟩ := isName_str (d := d) hf1
    exact hf1
theorem name_call {n : Int} {p : PyData} (hf : hasForm n p = true) (h : isW "call" p = true) : isName (.str (nm p)) = true := by
  obtain ⟨rest, rfl, hv⟩ := isW_head h
  have hf1 : formOf n "call" rest = true := by
    have e : hasForm n (.tuple (.str "call" :: rest)) = (isValue (.tuple (.str "call" :: rest)) || formOf n "call" rest) := rfl
    rw [e, hv] at hf
    exact hf
  have e1 : formOf n "call" rest = on2 (fun x y => isName x && callForm y) rest := (if_neg (by decide +kernel)).trans ((if_neg (by decide +kernel)).trans (if_pos rfl))
  rw [e1] at hf1
  match rest, hf1 with
  | [d, e], hf1 =>
    have h1 := (Bool.and_eq_true_iff.mp (show (isName d && callForm e) = true from hf1)).1
    obtain ⟨x, rfl⟩ := isName_str h1
    exact h1
theorem namesOk {n : Int} {d : PyData} (ht : isTerm n d = true) {z : Str} (hz : ∀ p, hasForm n p = true → isW z p = true → isName (.str (nm p)) = true) {x : Str} (h : x ∈ namesD z d) : PyData.strOk x = true := by
  obtain ⟨p, hp, rfl⟩ := List.mem_map.mp h
  have hm := List.mem_filter.mp hp
  exact name_ok (hz p (List.all_eq_true.mp (parts_form ht) p hm.1) hm.2)
theorem dpStrs {K : PySem.W.Frag} {H : Hp} : ∀ ys : List Str, DpAll K H (ys.map V.str) (ys.map PyData.str)
  | [] => .nil
  | y :: ys => .cons (.str y) (dpStrs ys)
theorem shStrs {ys : List Str} (h : ∀ x ∈ ys, PyData.strOk x = true) : SeqAt.shaped (.list (ys.map PyData.str)) = true := by
  refine Bool.and_eq_true_iff.mpr ⟨canLay_of fun t ht => ?_, decide_eq_true ?_⟩
  · obtain ⟨x, hx, rfl⟩ := List.mem_map.mp ht
    exact h x hx
  · have h1 := depth_of (m := 0) (ts := ys.map PyData.str) fun t ht => by
      obtain ⟨x, hx, rfl⟩ := List.mem_map.mp ht
      exact Nat.le_refl _
    show PyData.depthAll (ys.map PyData.str) + 1 ≤ 64
    omega
theorem eqStrs : ∀ ys : List Str, PyData.eqv (.list (ys.map PyData.str)) (.list (ys.map PyData.str)) = true
  | [] => rfl
  | y :: ys => by
    have h := eqStrs ys
    show ((y == y) && PyData.eqvAll (ys.map PyData.str) (ys.map PyData.str)) = true
    rw [beq_self_eq_true]
    exact h
theorem same_names {z : Str} {n : Int} {d : PyData} {cs ys zs : List Str} (ns : NameSet z d cs) (p1 : ys.Perm (onceS (namesD z d))) (s1 : sortedS ys = true) (p2 : zs.Perm cs) (s2 : sortedS zs = true) : ys = zs := by
  refine sorted_eq s1 s2 (p1.trans ((same_mem onceS_nodup ns.1 fun x => ?_).trans p2.symm))
  rw [onceS_mem, names_mem, ns.2.1]
def odds1D (n : Int) : List PyData := [.none, .int (3), .int (-1), .bool true, .str "1", .tuple [], .tuple [.str "arg", .int n], .tuple [.str "arg", .bool true], .tuple [.str "cell", .str "A"], .tuple [.str "cell"], .tuple [.str "tick", .int (1)], .list [.str "tick"]]
def odds2D (n : Int) : List PyData := [.tuple [.str "plus", .int (1)], .tuple [.str "less", .int (0), .int (1), .int (2)], .tuple [.str "if", .int (1), .int (1)], .tuple [.str "call", .str "f", .list [.int (1)]], .tuple [.str "call", .str "f", .tuple [.int (1), .int (1), .int (1)]], .tuple [.str "call", .str "F", .tuple []]]
def odds3D (n : Int) : List PyData := [.tuple [.str "Plus", .int (1), .int (1)], .tuple [.str "same", .int (0), .none], .tuple [.int (1), .int (1), .int (1)], .tuple [.str "call", .str "f"], .tuple [.str "call", .str "f", .tuple [.none]]]
def oddsD (n : Int) : List PyData := odds1D n ++ odds2D n ++ odds3D n
def oddOk (n : Int) (d : PyData) : Bool := noP d && (szD d && (!hasForm n d || (inner d).any fun e => !hasForm n e))
theorem bad_form {n : Int} {d : PyData} (h : hasForm n d = false) : Bad n 1 d := fun j hj => by
  cases j with
  | zero => omega
  | succ j =>
    show (hasForm n d && (inner d).all (fmF n j)) = false
    rw [h]
    rfl
theorem odd_ok {n : Int} {d : PyData} (h : oddOk n d = true) : noP d = true ∧ szD d = true ∧ Bad n 2 d := by
  have h1 := Bool.and_eq_true_iff.mp h
  have h2 := Bool.and_eq_true_iff.mp h1.2
  refine ⟨h1.1, h2.1, ?_⟩
  rcases Bool.or_eq_true_iff.mp h2.2 with h3 | h3
  · exact bad_up (bad_form (by simpa using h3)) (by decide)
  · obtain ⟨e, he, h4⟩ := List.any_eq_true.mp h3
    exact bad_in he (bad_form (by simpa using h4))
theorem odds_ok {n : Int} (h0 : 0 ≤ n) (h2 : n < 3) : (oddsD n).all (oddOk n) = true ∧ noPs (oddsD n) = true := by
  rcases (show n = 0 ∨ n = 1 ∨ n = 2 by omega) with rfl | rfl | rfl
  · exact ⟨by decide +kernel, by decide +kernel⟩
  · exact ⟨by decide +kernel, by decide +kernel⟩
  · exact ⟨by decide +kernel, by decide +kernel⟩
/-! ### the law of whole terms -/
abbrev sLaw : Stmt := topS 33
theorem scLaw : FnScope ["_law_script", "_law_k", "_law_pool_here", "_law_names_here", "_law_many", "_law_b", "_law_word", "_law_arguments", "_law_turn", "_law_term_here", "_law_due", "_law_odds", "_law_odd"] ["_law_script"] (defScope sLaw) := ⟨rfl, rfl, rfl, by decide +kernel, rfl, by decide +kernel, by decide +kernel⟩
def spLaw (K : PySem.W.Frag) : Sp := fun vs H Q _ => ∃ (a : Addr) (ns : List Int), vs = [.ref a] ∧ SqL K H a (ns.map V.int) ∧ ns.length ≤ 63 ∧ ∀ H', Q (.bl true) H'
theorem range_bounds {L : Nat} : -(2 ^ 62) ≤ (if (if (2 : Int) < (L : Int) then (2 : Int) else (L : Int)) > 1 then (if (2 : Int) < (L : Int) then (2 : Int) else (L : Int)) else 1) ∧ (if (if (2 : Int) < (L : Int) then (2 : Int) else (L : Int)) > 1 then (if (2 : Int) < (L : Int) then (2 : Int) else (L : Int)) else 1) < 2 ^ 62 := by
  split <;> split <;> omega
theorem turns {L i : Nat} (h : i < (if (if (2 : Int) < (L : Int) then (2 : Int) else (L : Int)) > 1 then (if (2 : Int) < (L : Int) then (2 : Int) else (L : Int)) else 1).toNat) : i ≤ 1 ∧ (i < L ∨ L = 0) := by
  split at h <;> split at h <;> omega
structure LawFns (K : PySem.W.Frag) (mg : Str → Option Value) (fPl fDr fNm fLt fCo fBe fTm fSz fDp fCi fCa fHt : Addr) (dPl dDr dNm dLt dCo dBe dTm dSz dDp dCi dCa dHt : FuncData) : Prop where
  Pl : Fun K "_law_pool" "_law_pool" sPool fPl dPl
  bPl : Binds K dPl ["_law_script", "_law_k"] []
  gPl : mg "_law_pool" = some (.ref fPl)
  Dr : Fun K "_law_draw" "_law_draw" sDraw fDr dDr
  bDr : Binds K dDr ["_law_pool_here", "_law_many"] []
  gDr : mg "_law_draw" = some (.ref fDr)
  Nm : Fun K "_law_names" "_law_names" sLNames fNm dNm
  bNm : Binds K dNm ["_law_pool_here", "_law_count"] []
  gNm : mg "_law_names" = some (.ref fNm)
  Lt : Fun K "_law_term" "_law_term" sLTerm fLt dLt
  bLt : Binds K dLt ["_law_pool_here", "_law_b", "_law_many", "_law_deep"] []
  gLt : mg "_law_term" = some (.ref fLt)
  Co : Fun K "_law_counts" "_law_counts" sCounts fCo dCo
  bCo : Binds K dCo ["_law_term_here"] []
  gCo : mg "_law_counts" = some (.ref fCo)
  Be : Fun K "_law_bent" "_law_bent" sBent fBe dBe
  bBe : Binds K dBe ["_law_pool_here", "_law_term_here", "_law_odd"] []
  gBe : mg "_law_bent" = some (.ref fBe)
  Tm : Fun K "is_term" "is_term" sTerm fTm dTm
  bTm : Binds K dTm ["value", "arguments"] []
  gTm : mg "is_term" = some (.ref fTm)
  Sz : Fun K "term_size" "term_size" sSize fSz dSz
  bSz : Binds K dSz ["term"] []
  gSz : mg "term_size" = some (.ref fSz)
  Dp : Fun K "term_depth" "term_depth" sDepth fDp dDp
  bDp : Binds K dDp ["term"] []
  gDp : mg "term_depth" = some (.ref fDp)
  Ci : Fun K "cells_in" "cells_in" sCells fCi dCi
  bCi : Binds K dCi ["term"] []
  gCi : mg "cells_in" = some (.ref fCi)
  Ca : Fun K "calls_in" "calls_in" sCalls fCa dCa
  bCa : Binds K dCa ["term"] []
  gCa : mg "calls_in" = some (.ref fCa)
  Ht : Fun K "has_tick" "has_tick" sHasTick fHt dHt
  bHt : Binds K dHt ["term"] []
  gHt : mg "has_tick" = some (.ref fHt)
section
variable {P : Program} {w : World} {K : PySem.W.Frag} {mg : Str → Option Value} {base : Heap}
theorem ok_law {f fPl fDr fNm fLt fCo fBe fTm fSz fDp fCi fCa fHt : Addr} {fd dPl dDr dNm dLt dCo dBe dTm dSz dDp dCi dCa dHt : FuncData} (F : Fun K "law" "law" sLaw f fd) (M : Blt mg) (L : LawFns K mg fPl fDr fNm fLt fCo fBe fTm fSz fDp fCi fCa fHt dPl dDr dNm dLt dCo dBe dTm dSz dDp dCi dCa dHt)
    (GPl : FnOk P w K mg base CX0 1 fPl dPl ["_law_script", "_law_k"] (spPool K))
    (GDr : FnOk P w K mg base CX0 1 fDr dDr ["_law_pool_here", "_law_many"] (spDraw))
    (GNm : FnOk P w K mg base CX0 3 fNm dNm ["_law_pool_here", "_law_count"] (spLNames K))
    (GLt : FnOk P w K mg base CX0 7 fLt dLt ["_law_pool_here", "_law_b", "_law_many", "_law_deep"] (spLTerm K 4))
    (GCo : FnOk P w K mg base CX0 6 fCo dCo ["_law_term_here"] (spCounts K 4))
    (GBe : FnOk P w K mg base CX0 6 fBe dBe ["_law_pool_here", "_law_term_here", "_law_odd"] (spBent K 4))
    (GTm : FnOk P w K mg base CX0 5 fTm dTm ["value", "arguments"] (spBn K isTerm))
    (GSz : FnOk P w K mg base CX0 6 fSz dSz ["term"] (spNum K fun d => ((partsD d).length : Int)))
    (GDp : FnOk P w K mg base CX0 5 fDp dDp ["term"] (spNum K fun d => (depthD d : Int)))
    (GCi : FnOk P w K mg base CX0 7 fCi dCi ["term"] (spNames K "cell"))
    (GCa : FnOk P w K mg base CX0 7 fCa dCa ["term"] (spNames K "call"))
    (GHt : FnOk P w K mg base CX0 7 fHt dHt ["term"] (spTick K))
    : FnOk P w K mg base CX0 8 f fd ["_law_script"] (spLaw K) := by
  refine F.ok scLaw (fun vs H Q E h => ?_) (fun cdv A outer s H vs Q E hr h => ?_)
  · obtain ⟨a, ns, rfl, _⟩ := h
    rfl
  · obtain ⟨a, ns, rfl, hS, hlen, q⟩ := h
    have hr1 : Room 1 _ := hr.mono (by decide)
    have hr3 : Room 3 _ := hr.mono (by decide)
    have hr5 : Room 5 _ := hr.mono (by decide)
    have hr6 : Room 6 _ := hr.mono (by decide)
    have hu := hu_of hr
    refine ⟨_, (pss_cons (ps_for PassesOwn.never rfl (pi_range1 (by rfl) M.range (pa_cons (pe_callB (call_max2 rfl) (by rfl) M.max (by decide +kernel) (pa_cons pe_int (pa_cons (pe_callB (call_min2 rfl) (by rfl) M.min (by decide +kernel) (pa_cons (pe_callB call_len_seq (by rfl) M.len PySem.boot_len (pa_cons (pv 0) pa_nil)) (pa_cons pe_int pa_nil))) pa_nil))) pa_nil)) (pg_name (i := 1) scLaw.nd rfl (.inl rfl)) (pss_cons (ps_set (i := 2) scLaw.nd rfl (.inl rfl) (pe_call GPl hr1 (by rfl) L.gPl L.Pl.kp L.bPl .nil pass0 (pa_cons (pv 0) (pa_cons (pv 1) pa_nil))))
        (pss_cons (ps_par (i := 3) (j := 4) (by rfl) scLaw.nd rfl rfl (by decide) rfl rfl (pa_cons (pe_call GNm hr3 (by rfl) L.gNm L.Nm.kp L.bNm .nil pass0 (pa_cons (pv 2) (pa_cons pe_int pa_nil))) (pa_cons (pe_call GDr hr1 (by rfl) L.gDr L.Dr.kp L.bDr .nil pass0 (pa_cons (pv 2) (pa_cons pe_int pa_nil))) pa_nil)) (by with_unfolding_all rfl))
        (pss_cons (ps_set (i := 5) scLaw.nd rfl (.inl rfl) (pe_disp (pps_cons pe_str (pe_lst (pa_cons (pe_tup (pa_cons (pe_ix ix_list (pv 3) pe_int (fun _ _ => rfl)) (pa_cons pe_str pa_nil))) (pa_cons (pe_tup (pa_cons (pe_ix ix_list (pv 3) pe_int (fun _ _ => rfl)) (pa_cons pe_str pa_nil))) pa_nil))) (pps_cons pe_str (pe_lst pa_nil) pps_nil)) rfl rfl (by simp) (by decide)))
        (pss_cons (ps_for PassesOwn.never rfl (pi_list (pe_lst (pa_cons (pe_tup (pa_cons (pe_ix ix_list (pv 3) pe_int (fun _ _ => rfl)) (pa_cons pe_int pa_nil))) (pa_cons (pe_tup (pa_cons (pe_ix ix_list (pv 3) pe_int (fun _ _ => rfl)) (pa_cons pe_int pa_nil))) pa_nil)))) (pg_tup (by rfl) (pgs_cons (pg_name (i := 6) scLaw.nd rfl (.inl rfl)) (pgs_cons (pg_name (i := 7) scLaw.nd rfl (.inl rfl)) pgs_nil))) (pss_one (ps_expr (pe_bm PySem.F.plainAttrs_list PySem.F.slot_list_append PySem.F.type_list_append mt_append (pe_dget hu (pv 5) pe_str (fun _ _ => rfl)) (pa_cons (pe_disp (pps_cons pe_str (pv 6) (pps_cons pe_str (pv 7) pps_nil)) rfl rfl (by simp) (by decide)) pa_nil)))))
        (pss_one (ps_for PassesOwn.never rfl (pi_range1 (by rfl) M.range (pa_cons pe_int pa_nil)) (pg_name (i := 8) scLaw.nd rfl (.inl rfl)) (pss_cons (ps_set (i := 9) scLaw.nd rfl (.inl rfl) (pe_call GLt hr (by rfl) L.gLt L.Lt.kp L.bLt .nil pass0 (pa_cons (pv 2) (pa_cons (pv 5) (pa_cons (pv 4) (pa_cons (pe_call GDr hr1 (by rfl) L.gDr L.Dr.kp L.bDr .nil pass0 (pa_cons (pv 2) (pa_cons pe_int pa_nil))) pa_nil))))))
        (pss_cons (ps_set (i := 10) scLaw.nd rfl (.inl rfl) (pe_call GCo hr6 (by rfl) L.gCo L.Co.kp L.bCo .nil pass0 (pa_cons (pv 9) pa_nil)))
        (pss_one (ps_if (pt_cmpR op_le (pe_dget hu (pv 10) pe_str (fun _ _ => rfl)) pe_int (nomark _)) (pss_cons (ps_if (PW.pt (pw_or (pt_cmpR op_isnot_bl (pe_call GTm hr5 (by rfl) L.gTm L.Tm.kp L.bTm .nil pass0 (pa_cons (pv 9) (pa_cons (pv 4) pa_nil))) pe_bl (nomark _)) (pw_or1 (pt_cmpR (op_neD hr.units) (pe_lst (pa_cons (pe_call GSz hr6 (by rfl) L.gSz L.Sz.kp L.bSz .nil pass0 (pa_cons (pv 9) pa_nil)) (pa_cons (pe_call GDp hr5 (by rfl) L.gDp L.Dp.kp L.bDp .nil pass0 (pa_cons (pv 9) pa_nil)) pa_nil))) (pe_lst (pa_cons (pe_dget hu (pv 10) pe_str (fun _ _ => rfl)) (pa_cons (pe_dget hu (pv 10) pe_str (fun _ _ => rfl)) pa_nil))) (nomark _))))) (pss_one (ps_ret pe_bl)) pss_nil)
        (pss_cons (ps_if (pt_cmpR (op_neD hr.units) (pe_call GCi hr (by rfl) L.gCi L.Ci.kp L.bCi .nil pass0 (pa_cons (pv 9) pa_nil)) (pe_callB cr_sortedS (by rfl) M.sorted (by decide +kernel) (pa_cons (pe_lc (own := [("_law_word", 6)]) (g := gName 6) (by rfl) scLaw.nd (pi_list (pe_dget hu (pv 10) pe_str (fun _ _ => rfl))) (blkOk_by (own := [("_law_word", 6)]) (N := ["_law_script", "_law_k", "_law_pool_here", "_law_names_here", "_law_many", "_law_b", "_law_word", "_law_arguments", "_law_turn", "_law_term_here", "_law_due", "_law_odds", "_law_odd"]) (sc := defScope sLaw) (by decide +kernel)) (fun _ _ _ _ _ => pg_name (i := 6) scLaw.nd rfl (Or.inl rfl)) (fun _ _ _ _ _ => pts_nil) (fun _ _ _ _ _ => pe_callTy SkE.call_str_str (by rfl) M.str (by decide +kernel) (pa_cons (pv 6) pa_nil))) pa_nil)) (nomark _)) (pss_one (ps_ret pe_bl)) pss_nil)
        (pss_cons (ps_if (PW.pt (pw_or (pt_cmpR (op_neD hr.units) (pe_call GCa hr (by rfl) L.gCa L.Ca.kp L.bCa .nil pass0 (pa_cons (pv 9) pa_nil)) (pe_callB cr_sortedS (by rfl) M.sorted (by decide +kernel) (pa_cons (pe_lc (own := [("_law_word", 6)]) (g := gName 6) (by rfl) scLaw.nd (pi_list (pe_dget hu (pv 10) pe_str (fun _ _ => rfl))) (blkOk_by (own := [("_law_word", 6)]) (N := ["_law_script", "_law_k", "_law_pool_here", "_law_names_here", "_law_many", "_law_b", "_law_word", "_law_arguments", "_law_turn", "_law_term_here", "_law_due", "_law_odds", "_law_odd"]) (sc := defScope sLaw) (by decide +kernel)) (fun _ _ _ _ _ => pg_name (i := 6) scLaw.nd rfl (Or.inl rfl)) (fun _ _ _ _ _ => pts_nil) (fun _ _ _ _ _ => pe_callTy SkE.call_str_str (by rfl) M.str (by decide +kernel) (pa_cons (pv 6) pa_nil))) pa_nil)) (nomark _)) (pw_or1 (pt_cmpR op_ne (pe_call GHt hr (by rfl) L.gHt L.Ht.kp L.bHt .nil pass0 (pa_cons (pv 9) pa_nil)) (pe_dget hu (pv 10) pe_str (fun _ _ => rfl)) (nomark _))))) (pss_one (ps_ret pe_bl)) pss_nil)
        (pss_cons (ps_set (i := 11) scLaw.nd rfl (.inl rfl) (pe_lst (pa_cons pe_non (pa_cons pe_int (pa_cons (pe_un un_neg pe_int) (pa_cons pe_bl (pa_cons pe_str (pa_cons (pe_tup pa_nil) (pa_cons (pe_tup (pa_cons pe_str (pa_cons (pv 4) pa_nil))) (pa_cons (pe_tup (pa_cons pe_str (pa_cons pe_bl pa_nil))) (pa_cons (pe_tup (pa_cons pe_str (pa_cons pe_str pa_nil))) (pa_cons (pe_tup (pa_cons pe_str pa_nil)) (pa_cons (pe_tup (pa_cons pe_str (pa_cons pe_int pa_nil))) (pa_cons (pe_lst (pa_cons pe_str pa_nil)) pa_nil))))))))))))))
        (pss_cons (ps_set (i := 11) scLaw.nd rfl (.inl rfl) (pe_op op_cat (pv 11) (pe_lst (pa_cons (pe_tup (pa_cons pe_str (pa_cons pe_int pa_nil))) (pa_cons (pe_tup (pa_cons pe_str (pa_cons pe_int (pa_cons pe_int (pa_cons pe_int pa_nil))))) (pa_cons (pe_tup (pa_cons pe_str (pa_cons pe_int (pa_cons pe_int pa_nil)))) (pa_cons (pe_tup (pa_cons pe_str (pa_cons pe_str (pa_cons (pe_lst (pa_cons pe_int pa_nil)) pa_nil)))) (pa_cons (pe_tup (pa_cons pe_str (pa_cons pe_str (pa_cons (pe_tup (pa_cons pe_int (pa_cons pe_int (pa_cons pe_int pa_nil)))) pa_nil)))) (pa_cons (pe_tup (pa_cons pe_str (pa_cons pe_str (pa_cons (pe_tup pa_nil) pa_nil)))) pa_nil)))))))))
        (pss_one (ps_for PassesOwn.never rfl (pi_list (pe_op op_cat (pv 11) (pe_lst (pa_cons (pe_tup (pa_cons pe_str (pa_cons pe_int (pa_cons pe_int pa_nil)))) (pa_cons (pe_tup (pa_cons pe_str (pa_cons pe_int (pa_cons pe_non pa_nil)))) (pa_cons (pe_tup (pa_cons pe_int (pa_cons pe_int (pa_cons pe_int pa_nil)))) (pa_cons (pe_tup (pa_cons pe_str (pa_cons pe_str pa_nil))) (pa_cons (pe_tup (pa_cons pe_str (pa_cons pe_str (pa_cons (pe_tup (pa_cons pe_non pa_nil)) pa_nil)))) pa_nil)))))))) (pg_name (i := 12) scLaw.nd rfl (.inl rfl)) (pss_one (ps_if (pt_cmpR op_isnot_bl (pe_call GTm hr5 (by rfl) L.gTm L.Tm.kp L.bTm .nil pass0 (pa_cons (pe_call GBe hr6 (by rfl) L.gBe L.Be.kp L.bBe .nil pass0 (pa_cons (pv 2) (pa_cons (pv 9) (pa_cons (pv 12) pa_nil)))) (pa_cons (pv 4) pa_nil))) pe_bl (nomark _)) (pss_one (ps_ret pe_bl)) pss_nil))))))))) pss_nil)))))))))))
        (pss_one (ps_ret pe_bl))), ?_⟩
    refine ⟨.ref a, rfl, a, _, rfl, .inl hS, _, _, rfl, _, _, rfl, _, rfl, range_bounds.1, range_bounds.2, ?_⟩
    refine for_range (lo := 0) (n := _) (fun i σ H' => ∃ y1 y2 y3 y4 y5 y6 y7 y8 y9 y10 y11 y12, σ = [some (.ref a), y1, y2, y3, y4, y5, y6, y7, y8, y9, y10, y11, y12] ∧ Same H H')
      ⟨none, none, none, none, none, none, none, none, none, none, none, none, rfl, Same.refl H⟩ (fun i σ H0 hi hW => ?_) (fun σ H0 hW => q H0)
    obtain ⟨y1, y2, y3, y4, y5, y6, y7, y8, y9, y10, y11, y12, rfl, s0⟩ := hW
    have ht := turns hi
    rw [List.length_map] at ht
    refine ⟨.ref a, rfl, _, rfl, a, ns, i, (by show ([V.ref a, V.int (0 + (i : Int))] : List V) = _; rw [Int.zero_add]), s0.seq hS, ht.1, ht.2.imp id (fun e => List.eq_nil_of_length_eq_zero e), fun H1 p np s1 hp => ?_⟩
    have nHp : H p = none := s0.free np
    have s01 : Same H H1 := s0.trans s1
    -- names, how many arguments
    refine ⟨.ref p, rfl, p, rfl, hp, fun r n0 n1 n2 n3 H2 b2 hp2 er N => ?_⟩
    have nrp : r ≠ p := by
      obtain ⟨x, y, ep, _⟩ := hp2
      exact ne_of er ep (fun z => by cases z)
    refine ⟨.ref p, rfl, p, 3, rfl, hp2, by omega, by omega, fun n H3 hn0 hn3 b3 hp3 fr3 => ⟨_, _, rfl, ?_⟩⟩
    have e3r : H3 r = some (.lst [.str n0, .str n1, .str n2, .str n3]) := b3 _ _ er nrp
    have s13 : But p H1 H3 := b2.trans b3
    clear er fr3
    -- the book
    refine fun bb nbb => ?_
    have k4 : Same H3 (upd H3 bb (.dK [])) := same_upd nbb
    have ebb : (upd H3 bb (.dK [])) bb = some (.dK []) := upd_same
    generalize upd H3 bb (.dK []) = H4 at k4 ebb
    refine ⟨_, rfl, r, _, 0, .str n0, rfl, rfl, .inl (.inl (k4 _ _ e3r)), atI_nat (j := 0) rfl, (by show 2 ≤ sizeLine; decide), fun t0 m0 => ?_⟩
    have k5 : Same H4 (upd H4 t0 (.tup [.str n0, .str "table"])) := same_upd m0
    have et0 : (upd H4 t0 (.tup [.str n0, .str "table"])) t0 = some (.tup [.str n0, .str "table"]) := upd_same
    generalize upd H4 t0 (.tup [.str n0, .str "table"]) = H5 at k5 et0
    refine ⟨_, rfl, r, _, 1, .str n1, rfl, rfl, .inl (.inl (k5 _ _ (k4 _ _ e3r))), atI_nat (j := 1) rfl, (by show 2 ≤ sizeLine; decide), fun t1 m1 => ?_⟩
    have k6 : Same H5 (upd H5 t1 (.tup [.str n1, .str "frozen"])) := same_upd m1
    have et1 : (upd H5 t1 (.tup [.str n1, .str "frozen"])) t1 = some (.tup [.str n1, .str "frozen"]) := upd_same
    generalize upd H5 t1 (.tup [.str n1, .str "frozen"]) = H6 at k6 et1
    refine ⟨(by show 2 ≤ sizeLine; decide), fun c mc => ?_⟩
    have k7 : Same H6 (upd H6 c (.lst [.ref t0, .ref t1])) := same_upd mc
    have ec : (upd H6 c (.lst [.ref t0, .ref t1])) c = some (.lst [.ref t0, .ref t1]) := upd_same
    generalize upd H6 c (.lst [.ref t0, .ref t1]) = H7 at k7 ec
    refine ⟨Nat.zero_le _, fun f' mf => ?_⟩
    have k8 : Same H7 (upd H7 f' (.lst [])) := same_upd mf
    have ef : (upd H7 f' (.lst [])) f' = some (.lst []) := upd_same
    generalize upd H7 f' (.lst []) = H8 at k8 ef
    have ebb8 : H8 bb = some (.dK []) := k8 _ _ (k7 _ _ (k6 _ _ (k5 _ _ ebb)))
    refine ⟨ebb8, [(.inr "cells", .ref c), (.inr "functions", .ref f')], rfl, Nat.le_of_ble_eq_true rfl, ?_⟩
    have k48 : Same H3 H8 := k4.trans (k5.trans (k6.trans (k7.trans k8)))
    have b9 : But bb H8 (upd H8 bb (.dK (mergeK [] [((.inr "cells" : Key), V.ref c), (.inr "functions", .ref f')]))) := But.upd
    have e9b : (upd H8 bb (.dK (mergeK [] [((.inr "cells" : Key), V.ref c), (.inr "functions", .ref f')]))) bb = some (.dK [(.inr "cells", .ref c), (.inr "functions", .ref f')]) := upd_same
    generalize upd H8 bb (.dK (mergeK [] [((.inr "cells" : Key), V.ref c), (.inr "functions", .ref f')])) = H9 at b9 e9b
    have s39 : Same H3 H9 := same_butN k48 nbb b9
    have e9c : H9 c = some (.lst [.ref t0, .ref t1]) := b9 _ _ (k8 _ _ ec) (ne_of (k8 _ _ ec) ebb8 (fun z => nomatch z))
    have e9f : H9 f' = some (.lst []) := b9 _ _ ef (ne_of ef ebb8 (fun z => nomatch z))
    have e9t0 : H9 t0 = some (.tup [.str n0, .str "table"]) := b9 _ _ (k8 _ _ (k7 _ _ (k6 _ _ et0))) (ne_of (k8 _ _ (k7 _ _ (k6 _ _ et0))) ebb8 (fun z => nomatch z))
    have e9t1 : H9 t1 = some (.tup [.str n1, .str "frozen"]) := b9 _ _ (k8 _ _ (k7 _ _ et1)) (ne_of (k8 _ _ (k7 _ _ et1)) ebb8 (fun z => nomatch z))
    have nf3 : H3 f' = none := by
      cases e : H3 f' with
      | none => rfl
      | some o =>
        have h := k7 _ _ (k6 _ _ (k5 _ _ (k4 _ _ e)))
        rw [mf] at h
        cases h
    -- its functions
    refine ⟨_, rfl, r, _, 2, .str n2, rfl, rfl, .inl (.inl (s39 _ _ e3r)), atI_nat (j := 2) rfl, (by show 2 ≤ sizeLine; decide), fun u0 w0 => ?_⟩
    have j1 : Same H9 (upd H9 u0 (.tup [.str n2, .int 2])) := same_upd w0
    have eu0 : (upd H9 u0 (.tup [.str n2, .int 2])) u0 = some (.tup [.str n2, .int 2]) := upd_same
    generalize upd H9 u0 (.tup [.str n2, .int 2]) = G1 at j1 eu0
    refine ⟨_, rfl, r, _, 3, .str n3, rfl, rfl, .inl (.inl (j1 _ _ (s39 _ _ e3r))), atI_nat (j := 3) rfl, (by show 2 ≤ sizeLine; decide), fun u1 w1 => ?_⟩
    have j2 : Same G1 (upd G1 u1 (.tup [.str n3, .int 0])) := same_upd w1
    have eu1 : (upd G1 u1 (.tup [.str n3, .int 0])) u1 = some (.tup [.str n3, .int 0]) := upd_same
    generalize upd G1 u1 (.tup [.str n3, .int 0]) = G2 at j2 eu1
    refine ⟨(by show 2 ≤ sizeLine; decide), fun l ml => ⟨l, rfl, ⟨_, .inl (.inl upd_same)⟩, ?_⟩⟩
    have j3 : Same G2 (upd G2 l (.lst [.ref u0, .ref u1])) := same_upd ml
    have el : (upd G2 l (.lst [.ref u0, .ref u1])) l = some (.lst [.ref u0, .ref u1]) := upd_same
    generalize upd G2 l (.lst [.ref u0, .ref u1]) = G3 at j3 el
    have j13 : Same H9 G3 := j1.trans (j2.trans j3)
    have g3f := j13 _ _ e9f
    have g3b := j13 _ _ e9b
    have g3u0 := j3 _ _ (j2 _ _ eu0)
    have g3u1 := j3 _ _ eu1
    have nlf : l ≠ f' := ne_of el g3f (fun z => by cases z)
    have nbf : bb ≠ f' := ne_of g3b g3f (fun z => nomatch z)
    refine for_list (K := K) (a := l) (xs := [.ref u0, .ref u1]) (fun j σ H' => ∃ (z6 z7 : Option V) (gs : List Addr), σ = [some (.ref a), some (.int (0 + (i : Int))), some (.ref p), some (.ref r), some (.int n), some (.ref bb), z6, z7, y8, y9, y10, y11, y12] ∧ But f' G3 H' ∧ gs.length = j ∧ H' f' = some (.lst (gs.map V.ref)) ∧
        (∀ m g, gs[m]? = some g → H' g = some (.dK [(.inr "name", .str (if m = 0 then n2 else n3)), (.inr "many", .int (if m = 0 then 2 else 0))])))
      ⟨_, _, [], rfl, But.refl _ _, rfl, g3f, fun m g e => by simp at e⟩ (fun j σ H' _ h => ?_) (fun j x σ H' hx h => ?_) (fun σ H' h => ?_)
    · obtain ⟨_, _, _, _, b, _⟩ := h
      exact .inl (.inl (b _ _ el nlf))
    · obtain ⟨z6, z7, gs, rfl, b, gl, egs, hgs⟩ := h
      have hb : H' bb = _ := b _ _ g3b nbf
      obtain ⟨u, k, rfl, eu, k2⟩ : ∃ (u : Addr) (k : Int), x = .ref u ∧ H' u = some (.tup [.str (if j = 0 then n2 else n3), .int k]) ∧ k = (if j = 0 then 2 else 0) := by
        match j, hx with
        | 0, hx => exact ⟨u0, 2, (Option.some.inj hx).symm, b _ _ g3u0 (ne_of g3u0 g3f (fun z => nomatch z)), rfl⟩
        | 1, hx => exact ⟨u1, 0, (Option.some.inj hx).symm, b _ _ g3u1 (ne_of g3u1 g3f (fun z => nomatch z)), rfl⟩
      subst k2
      refine ⟨u, _, rfl, .inl (.inl eu), rfl, _, _, rfl, _, _, rfl, rfl, ?_⟩
      refine ⟨_, rfl, bb, .ref f', rfl, dg hb "functions" rfl, .inl ⟨rfl, _, .inl (.inl egs)⟩, fun g mg' => ?_⟩
      have q1 : Same H' (upd H' g (.dK [])) := same_upd mg'
      refine ⟨_, rfl, _, rfl, upd_same, [(.inr "name", .str (if j = 0 then n2 else n3)), (.inr "many", .int (if j = 0 then 2 else 0))], rfl, Nat.le_of_ble_eq_true rfl, ?_⟩
      have ngf : f' ≠ g := ne_of_none egs mg'
      have gl2 : gs.length < 3 := by
        have := (List.getElem?_eq_some_iff.mp hx).1
        simp at this
        omega
      refine ⟨f', gs.map V.ref, _, rfl, rfl, ?_, ?_, ?_⟩
      · rw [upd_ne ngf, upd_ne ngf]
        exact egs
      · rw [List.length_map]
        exact Nat.lt_of_lt_of_le gl2 (by decide)
      · refine ⟨_, _, gs ++ [g], rfl, fun b' o e nb => ?_, ?_, ?_, fun m g' e => ?_⟩
        · have e1 := b _ _ e nb
          have n1 : b' ≠ g := ne_of_none e1 mg'
          rw [upd_ne nb, upd_ne n1, upd_ne n1]
          exact e1
        · rw [List.length_append, gl]
          rfl
        · rw [upd_same, List.map_append]
          rfl
        · by_cases hm : m < gs.length
          · rw [List.getElem?_append_left hm] at e
            have h1 := hgs m g' e
            rw [upd_ne (ne_of h1 egs (fun z => nomatch z)), upd_ne (ne_of_none h1 mg'), upd_ne (ne_of_none h1 mg')]
            exact h1
          · have hm2 : m = j := by
              have := (List.getElem?_eq_some_iff.mp e).1
              rw [List.length_append] at this
              simp at this
              omega
            subst hm2
            rw [List.getElem?_append_right (by omega), gl, Nat.sub_self] at e
            have e1 : g = g' := Option.some.inj e
            subst e1
            rw [upd_ne (Ne.symm ngf), upd_same]
            rfl
    · obtain ⟨z6, z7, gs, rfl, b, gl, egs, hgs⟩ := h
      obtain ⟨g0, g1, rfl⟩ : ∃ g0 g1, gs = [g0, g1] := by
        match gs, gl with
        | [g0, g1], _ => exact ⟨g0, g1, rfl⟩
      have hp' : PoolAt H' p := by
        obtain ⟨x', y', ep', rr⟩ := hp3
        exact ⟨x', y', b _ _ (j13 _ _ (s39 _ _ ep')) (ne_of_none ep' nf3), rr⟩
      have hbk : BookAt K n0 n1 n2 n3 H' bb := ⟨c, f', t0, t1, g0, g1, b _ _ g3b nbf, b _ _ (j13 _ _ e9c) (ne_of (j13 _ _ e9c) g3f (fun z => by cases z)),
        .inl (.inl (b _ _ (j13 _ _ e9t0) (ne_of (j13 _ _ e9t0) g3f (fun z => nomatch z)))), .inl (.inl (b _ _ (j13 _ _ e9t1) (ne_of (j13 _ _ e9t1) g3f (fun z => nomatch z)))), egs, hgs 0 g0 rfl, hgs 1 g1 rfl⟩
      have b1' : But p H1 H' := fun b' o e nb => by
        have e3 := s13 _ _ e nb
        exact b _ _ (j13 _ _ (s39 _ _ e3)) (ne_of_none e3 nf3)
      clear b hgs egs
      -- the turns
      refine ⟨12, rfl, by decide, by decide, ?_⟩
      refine for_range (lo := 0) (n := (12 : Int).toNat) (fun j σ HT => ∃ z1 z6 z7 z8 z9 z10 z11 z12, σ = [some (.ref a), z1, some (.ref p), some (.ref r), some (.int n), some (.ref bb), z6, z7, z8, z9, z10, z11, z12] ∧ But p H' HT ∧ PoolAt HT p)
        ⟨_, _, _, _, _, _, _, _, rfl, But.refl p H', hp'⟩ (fun j σ HT hj hW => ?_) (fun σ HT hW => ?_)
      · obtain ⟨z1, z6, z7, z8, z9, z10, z11, z12, rfl, bT, hpT⟩ := hW
        refine ⟨.ref p, rfl, .ref bb, rfl, .int n, rfl, .ref p, rfl, p, 4, rfl, hpT, by omega, by omega, fun dd HU d0 d4 bU hpU frU => ?_⟩
        obtain ⟨dn, rfl⟩ := Int.eq_ofNat_of_zero_le d0
        refine ⟨n0, n1, n2, n3, p, bb, n, dn, N, rfl, hpU, hbk.but hp' (bT.trans bU), hn0, by omega, by omega, fun v d HV bV hpV dv gd => ?_⟩
        have gsz := gd_sz _ _ gd
        refine ⟨v, rfl, v, d, n, dn + 1, rfl, dv, gd, by omega, by omega, fun rd HC sC told => ?_⟩
        obtain ⟨tc, tk, cs, ks, erd, ecs, eks, nsc, nsk⟩ := told
        have bC : But p H' HC := but_sameN ((bT.trans bU).trans bV) sC
        have hpC := hpV.same sC
        refine ⟨.ref rd, rfl, rd, _, rfl, dg erd "size" rfl, _, _, rfl, rfl, _, rfl, ?_⟩
        by_cases h30 : sz9 d ≤ 30
        · rw [decide_eq_true (show ((sz9 d : Nat) : Int) ≤ 30 by omega)]
          have isT : isTerm n d = true := by
            rw [gd_isTerm gd (by omega), decide_eq_true h30]
          refine iteT ⟨v, rfl, .int n, rfl, v, d, n, rfl, dp_same sC dv, gsz, fun HD sD => ⟨_, _, rfl, rfl, _, rfl, ?_⟩⟩
          rw [isT]
          refine iteF ?_
          -- size and depth
          refine ⟨v, rfl, v, d, n, rfl, dp_same (sC.trans sD) dv, gsz, isT, fun HE sE => ?_⟩
          refine ⟨v, rfl, v, d, n, rfl, dp_same (sC.trans (sD.trans sE)) dv, gsz, isT, fun HF sF => ⟨(by show 2 ≤ sizeLine; decide), fun l1 m1' => ?_⟩⟩
          have x1 : Same HF (upd HF l1 (.lst [.int ((partsD d).length : Int), .int (depthD d : Int)])) := same_upd m1'
          have dl1 := dpL (K := K) (ds := [.int ((partsD d).length : Int), .int (depthD d : Int)]) m1' (.cons (.int _) (.cons (.int _) .nil))
          generalize upd HF l1 (.lst [.int ((partsD d).length : Int), .int (depthD d : Int)]) = HG at x1 dl1
          have sCG : Same HC HG := sD.trans (sE.trans (sF.trans x1))
          have eG := sCG _ _ erd
          refine ⟨.ref rd, rfl, rd, _, rfl, dg eG "size" rfl, .ref rd, rfl, rd, _, rfl, dg eG "depth" rfl, (by show 2 ≤ sizeLine; decide), fun l2 m2' => ?_⟩
          have x2 : Same HG (upd HG l2 (.lst [.int (sz9 d : Int), .int (dp9 d : Int)])) := same_upd m2'
          have dl2 := dpL (K := K) (ds := [.int (sz9 d : Int), .int (dp9 d : Int)]) m2' (.cons (.int _) (.cons (.int _) .nil))
          refine ⟨_, _, dp_same x2 dl1, dl2, rfl, rfl, _, rfl, ?_⟩
          have ev : PyData.eqv (PyData.list [.int ((partsD d).length : Int), .int (depthD d : Int)]) (.list [.int (sz9 d : Int), .int (dp9 d : Int)]) = true := by
            rw [partsD_len d, depthD_is d]
            exact SeqAt.eqv_refl _ rfl
          rw [ev]
          have sCH : Same HC (upd HG l2 (.lst [.int (sz9 d : Int), .int (dp9 d : Int)])) := sCG.trans x2
          generalize upd HG l2 (.lst [.int (sz9 d : Int), .int (dp9 d : Int)]) = HH at sCH
          refine iteF ?_
          -- the names: cell
          refine ⟨v, rfl, v, d, n, rfl, dp_same (sC.trans sCH) dv, gsz, isT, fun ys1 pc1 HI1 sI1 ep1 perm1 so1 => ?_⟩
          replace sCH := sCH.trans sI1
          have len1 : cs.length ≤ 30 := Nat.le_trans nsc.2.2 h30
          have ecx1 := sCH _ _ ecs
          have erx1 := sCH _ _ erd
          refine ⟨.ref rd, rfl, rd, .ref tc, rfl, dg erx1 "cell" rfl, tc, rfl, ⟨_, .inl (.inl ecx1)⟩, fun D hD => ?_⟩
          refine walk_gen (walk_list (K := K) (a := tc) (xs := cs.map V.str)) (fun j' HJ => HJ = upd HI1 D (.lst ((cs.take j').map V.str))) rfl (fun j' HJ _ pj => ?_) (fun j' x' HJ HJ' hj' pj y' => ?_) (fun HJ pj => ?_)
          · rw [pj, ]
            refine .inl (.inl ?_)
            rw [upd_ne (ne_of_none ecx1 hD)]
            exact ecx1
          · subst pj
            obtain ⟨rfl, hx'⟩ := y'
            rw [List.getElem?_map] at hx'
            obtain ⟨u', hu', rfl⟩ := Option.map_eq_some_iff.mp hx'
            refine And.intro rfl ?_
            unfold tYes
            refine iteT ⟨_, rfl, u', rfl, _, upd_same, ?_, ?_⟩
            · rw [List.length_map, List.length_take]
              exact Nat.lt_of_le_of_lt (show _ ≤ 30 by omega) (by decide)
            · rw [take_snoc hu', List.map_append, upd_upd]
              rfl
          subst pj
          rw [List.length_map, List.take_length]
          have xD : Same HI1 (upd HI1 D (.lst (cs.map V.str))) := same_upd hD
          have eD : (upd HI1 D (.lst (cs.map V.str))) D = some (.lst (cs.map V.str)) := upd_same
          generalize upd HI1 D (.lst (cs.map V.str)) = HK1 at xD eD
          refine ⟨D, cs, rfl, .inl (.inl eD), by omega, fun zs1 pz1 permb1 sob1 np1 => ?_⟩
          have xP : Same HK1 (upd HK1 pz1 (.lst (zs1.map V.str))) := same_upd np1
          have eP : (upd HK1 pz1 (.lst (zs1.map V.str))) pz1 = some (.lst (zs1.map V.str)) := upd_same
          generalize upd HK1 pz1 (.lst (zs1.map V.str)) = HM1 at xP eP
          have eqx1 : ys1 = zs1 := same_names (n := n) nsc perm1 so1 permb1 sob1
          subst eqx1
          have ok1 : ∀ x ∈ ys1, PyData.strOk x = true := fun x hx => namesOk isT (z := "cell") (fun p a b => name_cell a b) (onceS_mem.mp (perm1.mem_iff.mp hx))
          refine ⟨.list (ys1.map PyData.str), .list (ys1.map PyData.str), .lst (.inl (.inl (xP _ _ (xD _ _ ep1)))) (dpStrs ys1), .lst (.inl (.inl eP)) (dpStrs ys1), shStrs ok1, shStrs ok1, _, rfl, ?_⟩
          rw [eqStrs]
          refine iteF ?_
          replace sCH := (sCH.trans xD).trans xP
          -- the names: call
          refine ⟨v, rfl, v, d, n, rfl, dp_same (sC.trans sCH) dv, gsz, isT, fun ys2 pc2 HI2 sI2 ep2 perm2 so2 => ?_⟩
          replace sCH := sCH.trans sI2
          have len2 : ks.length ≤ 30 := Nat.le_trans nsk.2.2 h30
          have ecx2 := sCH _ _ eks
          have erx2 := sCH _ _ erd
          refine ⟨.ref rd, rfl, rd, .ref tk, rfl, dg erx2 "call" rfl, tk, rfl, ⟨_, .inl (.inl ecx2)⟩, fun D hD => ?_⟩
          refine walk_gen (walk_list (K := K) (a := tk) (xs := ks.map V.str)) (fun j' HJ => HJ = upd HI2 D (.lst ((ks.take j').map V.str))) rfl (fun j' HJ _ pj => ?_) (fun j' x' HJ HJ' hj' pj y' => ?_) (fun HJ pj => ?_)
          · rw [pj, ]
            refine .inl (.inl ?_)
            rw [upd_ne (ne_of_none ecx2 hD)]
            exact ecx2
          · subst pj
            obtain ⟨rfl, hx'⟩ := y'
            rw [List.getElem?_map] at hx'
            obtain ⟨u', hu', rfl⟩ := Option.map_eq_some_iff.mp hx'
            refine And.intro rfl ?_
            unfold tYes
            refine iteT ⟨_, rfl, u', rfl, _, upd_same, ?_, ?_⟩
            · rw [List.length_map, List.length_take]
              exact Nat.lt_of_le_of_lt (show _ ≤ 30 by omega) (by decide)
            · rw [take_snoc hu', List.map_append, upd_upd]
              rfl
          subst pj
          rw [List.length_map, List.take_length]
          have xD : Same HI2 (upd HI2 D (.lst (ks.map V.str))) := same_upd hD
          have eD : (upd HI2 D (.lst (ks.map V.str))) D = some (.lst (ks.map V.str)) := upd_same
          generalize upd HI2 D (.lst (ks.map V.str)) = HK2 at xD eD
          refine ⟨D, ks, rfl, .inl (.inl eD), by omega, fun zs2 pz2 permb2 sob2 np2 => ?_⟩
          have xP : Same HK2 (upd HK2 pz2 (.lst (zs2.map V.str))) := same_upd np2
          have eP : (upd HK2 pz2 (.lst (zs2.map V.str))) pz2 = some (.lst (zs2.map V.str)) := upd_same
          generalize upd HK2 pz2 (.lst (zs2.map V.str)) = HM2 at xP eP
          have eqx2 : ys2 = zs2 := same_names (n := n) nsk perm2 so2 permb2 sob2
          subst eqx2
          have ok2 : ∀ x ∈ ys2, PyData.strOk x = true := fun x hx => namesOk isT (z := "call") (fun p a b => name_call a b) (onceS_mem.mp (perm2.mem_iff.mp hx))
          refine ⟨.list (ys2.map PyData.str), .list (ys2.map PyData.str), .lst (.inl (.inl (xP _ _ (xD _ _ ep2)))) (dpStrs ys2), .lst (.inl (.inl eP)) (dpStrs ys2), shStrs ok2, shStrs ok2, _, rfl, ?_⟩
          rw [eqStrs]
          refine iteF ?_
          replace sCH := (sCH.trans xD).trans xP
          -- the tick
          refine ⟨v, rfl, v, d, n, rfl, dp_same (sC.trans sCH) dv, gsz, isT, fun HN sN => ?_⟩
          replace sCH := sCH.trans sN
          refine ⟨.ref rd, rfl, rd, _, rfl, dg (sCH _ _ erd) "tick" rfl, rfl, _, rfl, iteNS (congrArg V.bl (hs_tick gd).symm) ?_⟩
          have bN : But p H' HN := but_sameN bC sCH
          have hpN := hpC.same sCH
          have dvN := dp_same (sC.trans sCH) dv
          clear sCH sN
          revert HN
          intro HA
          intro bA hpA dvA
          -- the odd ones
          have sAll : Same HA HA := Same.refl HA
          refine ⟨_, rfl, (by show 0 ≤ sizeLine; decide), fun a1 m1 => ?_⟩
          have sx1 : Same HA (upd HA a1 (.tup [])) := same_upd m1
          have dx1 := dpT (K := K) (ds := []) m1 .nil
          generalize upd HA a1 (.tup []) = HX1 at sx1 dx1
          replace sAll := sAll.trans sx1
          refine ⟨_, rfl, (by show 2 ≤ sizeLine; decide), fun a2 m2 => ?_⟩
          have sx2 : Same HX1 (upd HX1 a2 (.tup [.str "arg", .int n])) := same_upd m2
          have dx2 := dpT (K := K) (ds := [.str "arg", .int n]) m2 (.cons (.str "arg") (.cons (.int n) .nil))
          generalize upd HX1 a2 (.tup [.str "arg", .int n]) = HX2 at sx2 dx2
          replace dx1 := dp_same sx2 dx1
          replace sAll := sAll.trans sx2
          refine ⟨(by show 2 ≤ sizeLine; decide), fun a3 m3 => ?_⟩
          have sx3 : Same HX2 (upd HX2 a3 (.tup [.str "arg", .bl true])) := same_upd m3
          have dx3 := dpT (K := K) (ds := [.str "arg", .bool true]) m3 (.cons (.str "arg") (.cons (.bl true) .nil))
          generalize upd HX2 a3 (.tup [.str "arg", .bl true]) = HX3 at sx3 dx3
          replace dx1 := dp_same sx3 dx1
          replace dx2 := dp_same sx3 dx2
          replace sAll := sAll.trans sx3
          refine ⟨(by show 2 ≤ sizeLine; decide), fun a4 m4 => ?_⟩
          have sx4 : Same HX3 (upd HX3 a4 (.tup [.str "cell", .str "A"])) := same_upd m4
          have dx4 := dpT (K := K) (ds := [.str "cell", .str "A"]) m4 (.cons (.str "cell") (.cons (.str "A") .nil))
          generalize upd HX3 a4 (.tup [.str "cell", .str "A"]) = HX4 at sx4 dx4
          replace dx1 := dp_same sx4 dx1
          replace dx2 := dp_same sx4 dx2
          replace dx3 := dp_same sx4 dx3
          replace sAll := sAll.trans sx4
          refine ⟨(by show 1 ≤ sizeLine; decide), fun a5 m5 => ?_⟩
          have sx5 : Same HX4 (upd HX4 a5 (.tup [.str "cell"])) := same_upd m5
          have dx5 := dpT (K := K) (ds := [.str "cell"]) m5 (.cons (.str "cell") .nil)
          generalize upd HX4 a5 (.tup [.str "cell"]) = HX5 at sx5 dx5
          replace dx1 := dp_same sx5 dx1
          replace dx2 := dp_same sx5 dx2
          replace dx3 := dp_same sx5 dx3
          replace dx4 := dp_same sx5 dx4
          replace sAll := sAll.trans sx5
          refine ⟨(by show 2 ≤ sizeLine; decide), fun a6 m6 => ?_⟩
          have sx6 : Same HX5 (upd HX5 a6 (.tup [.str "tick", .int (1)])) := same_upd m6
          have dx6 := dpT (K := K) (ds := [.str "tick", .int (1)]) m6 (.cons (.str "tick") (.cons (.int (1)) .nil))
          generalize upd HX5 a6 (.tup [.str "tick", .int (1)]) = HX6 at sx6 dx6
          replace dx1 := dp_same sx6 dx1
          replace dx2 := dp_same sx6 dx2
          replace dx3 := dp_same sx6 dx3
          replace dx4 := dp_same sx6 dx4
          replace dx5 := dp_same sx6 dx5
          replace sAll := sAll.trans sx6
          refine ⟨(by show 1 ≤ sizeLine; decide), fun a7 m7 => ?_⟩
          have sx7 : Same HX6 (upd HX6 a7 (.lst [.str "tick"])) := same_upd m7
          have dx7 := dpL (K := K) (ds := [.str "tick"]) m7 (.cons (.str "tick") .nil)
          generalize upd HX6 a7 (.lst [.str "tick"]) = HX7 at sx7 dx7
          replace dx1 := dp_same sx7 dx1
          replace dx2 := dp_same sx7 dx2
          replace dx3 := dp_same sx7 dx3
          replace dx4 := dp_same sx7 dx4
          replace dx5 := dp_same sx7 dx5
          replace dx6 := dp_same sx7 dx6
          replace sAll := sAll.trans sx7
          refine ⟨(by show 12 ≤ sizeLine; decide), fun a8 m8 => ?_⟩
          have sx8 : Same HX7 (upd HX7 a8 (.lst [.non, .int (3), .int (-1), .bl true, .str "1", .ref a1, .ref a2, .ref a3, .ref a4, .ref a5, .ref a6, .ref a7])) := same_upd m8
          have eo1 : (upd HX7 a8 (.lst [.non, .int (3), .int (-1), .bl true, .str "1", .ref a1, .ref a2, .ref a3, .ref a4, .ref a5, .ref a6, .ref a7])) a8 = some (.lst [.non, .int (3), .int (-1), .bl true, .str "1", .ref a1, .ref a2, .ref a3, .ref a4, .ref a5, .ref a6, .ref a7]) := upd_same
          have do1 : DpAll K (upd HX7 a8 (.lst [.non, .int (3), .int (-1), .bl true, .str "1", .ref a1, .ref a2, .ref a3, .ref a4, .ref a5, .ref a6, .ref a7])) [.non, .int (3), .int (-1), .bl true, .str "1", .ref a1, .ref a2, .ref a3, .ref a4, .ref a5, .ref a6, .ref a7] (odds1D n) := dpA_same sx8 (.cons .non (.cons (.int (3)) (.cons (.int (-1)) (.cons (.bl true) (.cons (.str "1") (.cons dx1 (.cons dx2 (.cons dx3 (.cons dx4 (.cons dx5 (.cons dx6 (.cons dx7 .nil))))))))))))
          generalize upd HX7 a8 (.lst [.non, .int (3), .int (-1), .bl true, .str "1", .ref a1, .ref a2, .ref a3, .ref a4, .ref a5, .ref a6, .ref a7]) = HX8 at sx8 eo1 do1
          replace sAll := sAll.trans sx8
          refine ⟨_, rfl, (by show 2 ≤ sizeLine; decide), fun a9 m9 => ?_⟩
          have sx9 : Same HX8 (upd HX8 a9 (.tup [.str "plus", .int (1)])) := same_upd m9
          have dx9 := dpT (K := K) (ds := [.str "plus", .int (1)]) m9 (.cons (.str "plus") (.cons (.int (1)) .nil))
          generalize upd HX8 a9 (.tup [.str "plus", .int (1)]) = HX9 at sx9 dx9
          replace do1 := dpA_same sx9 do1
          replace eo1 := sx9 _ _ eo1
          replace sAll := sAll.trans sx9
          refine ⟨(by show 4 ≤ sizeLine; decide), fun a10 m10 => ?_⟩
          have sx10 : Same HX9 (upd HX9 a10 (.tup [.str "less", .int (0), .int (1), .int (2)])) := same_upd m10
          have dx10 := dpT (K := K) (ds := [.str "less", .int (0), .int (1), .int (2)]) m10 (.cons (.str "less") (.cons (.int (0)) (.cons (.int (1)) (.cons (.int (2)) .nil))))
          generalize upd HX9 a10 (.tup [.str "less", .int (0), .int (1), .int (2)]) = HX10 at sx10 dx10
          replace do1 := dpA_same sx10 do1
          replace eo1 := sx10 _ _ eo1
          replace dx9 := dp_same sx10 dx9
          replace sAll := sAll.trans sx10
          refine ⟨(by show 3 ≤ sizeLine; decide), fun a11 m11 => ?_⟩
          have sx11 : Same HX10 (upd HX10 a11 (.tup [.str "if", .int (1), .int (1)])) := same_upd m11
          have dx11 := dpT (K := K) (ds := [.str "if", .int (1), .int (1)]) m11 (.cons (.str "if") (.cons (.int (1)) (.cons (.int (1)) .nil)))
          generalize upd HX10 a11 (.tup [.str "if", .int (1), .int (1)]) = HX11 at sx11 dx11
          replace do1 := dpA_same sx11 do1
          replace eo1 := sx11 _ _ eo1
          replace dx9 := dp_same sx11 dx9
          replace dx10 := dp_same sx11 dx10
          replace sAll := sAll.trans sx11
          refine ⟨(by show 1 ≤ sizeLine; decide), fun a12 m12 => ?_⟩
          have sx12 : Same HX11 (upd HX11 a12 (.lst [.int (1)])) := same_upd m12
          have dx12 := dpL (K := K) (ds := [.int (1)]) m12 (.cons (.int (1)) .nil)
          generalize upd HX11 a12 (.lst [.int (1)]) = HX12 at sx12 dx12
          replace do1 := dpA_same sx12 do1
          replace eo1 := sx12 _ _ eo1
          replace dx9 := dp_same sx12 dx9
          replace dx10 := dp_same sx12 dx10
          replace dx11 := dp_same sx12 dx11
          replace sAll := sAll.trans sx12
          refine ⟨(by show 3 ≤ sizeLine; decide), fun a13 m13 => ?_⟩
          have sx13 : Same HX12 (upd HX12 a13 (.tup [.str "call", .str "f", .ref a12])) := same_upd m13
          have dx13 := dpT (K := K) (ds := [.str "call", .str "f", .list [.int (1)]]) m13 (.cons (.str "call") (.cons (.str "f") (.cons dx12 .nil)))
          generalize upd HX12 a13 (.tup [.str "call", .str "f", .ref a12]) = HX13 at sx13 dx13
          replace do1 := dpA_same sx13 do1
          replace eo1 := sx13 _ _ eo1
          replace dx9 := dp_same sx13 dx9
          replace dx10 := dp_same sx13 dx10
          replace dx11 := dp_same sx13 dx11
          replace dx12 := dp_same sx13 dx12
          replace sAll := sAll.trans sx13
          refine ⟨(by show 3 ≤ sizeLine; decide), fun a14 m14 => ?_⟩
          have sx14 : Same HX13 (upd HX13 a14 (.tup [.int (1), .int (1), .int (1)])) := same_upd m14
          have dx14 := dpT (K := K) (ds := [.int (1), .int (1), .int (1)]) m14 (.cons (.int (1)) (.cons (.int (1)) (.cons (.int (1)) .nil)))
          generalize upd HX13 a14 (.tup [.int (1), .int (1), .int (1)]) = HX14 at sx14 dx14
          replace do1 := dpA_same sx14 do1
          replace eo1 := sx14 _ _ eo1
          replace dx9 := dp_same sx14 dx9
          replace dx10 := dp_same sx14 dx10
          replace dx11 := dp_same sx14 dx11
          replace dx12 := dp_same sx14 dx12
          replace dx13 := dp_same sx14 dx13
          replace sAll := sAll.trans sx14
          refine ⟨(by show 3 ≤ sizeLine; decide), fun a15 m15 => ?_⟩
          have sx15 : Same HX14 (upd HX14 a15 (.tup [.str "call", .str "f", .ref a14])) := same_upd m15
          have dx15 := dpT (K := K) (ds := [.str "call", .str "f", .tuple [.int (1), .int (1), .int (1)]]) m15 (.cons (.str "call") (.cons (.str "f") (.cons dx14 .nil)))
          generalize upd HX14 a15 (.tup [.str "call", .str "f", .ref a14]) = HX15 at sx15 dx15
          replace do1 := dpA_same sx15 do1
          replace eo1 := sx15 _ _ eo1
          replace dx9 := dp_same sx15 dx9
          replace dx10 := dp_same sx15 dx10
          replace dx11 := dp_same sx15 dx11
          replace dx12 := dp_same sx15 dx12
          replace dx13 := dp_same sx15 dx13
          replace dx14 := dp_same sx15 dx14
          replace sAll := sAll.trans sx15
          refine ⟨(by show 0 ≤ sizeLine; decide), fun a16 m16 => ?_⟩
          have sx16 : Same HX15 (upd HX15 a16 (.tup [])) := same_upd m16
          have dx16 := dpT (K := K) (ds := []) m16 .nil
          generalize upd HX15 a16 (.tup []) = HX16 at sx16 dx16
          replace do1 := dpA_same sx16 do1
          replace eo1 := sx16 _ _ eo1
          replace dx9 := dp_same sx16 dx9
          replace dx10 := dp_same sx16 dx10
          replace dx11 := dp_same sx16 dx11
          replace dx12 := dp_same sx16 dx12
          replace dx13 := dp_same sx16 dx13
          replace dx14 := dp_same sx16 dx14
          replace dx15 := dp_same sx16 dx15
          replace sAll := sAll.trans sx16
          refine ⟨(by show 3 ≤ sizeLine; decide), fun a17 m17 => ?_⟩
          have sx17 : Same HX16 (upd HX16 a17 (.tup [.str "call", .str "F", .ref a16])) := same_upd m17
          have dx17 := dpT (K := K) (ds := [.str "call", .str "F", .tuple []]) m17 (.cons (.str "call") (.cons (.str "F") (.cons dx16 .nil)))
          generalize upd HX16 a17 (.tup [.str "call", .str "F", .ref a16]) = HX17 at sx17 dx17
          replace do1 := dpA_same sx17 do1
          replace eo1 := sx17 _ _ eo1
          replace dx9 := dp_same sx17 dx9
          replace dx10 := dp_same sx17 dx10
          replace dx11 := dp_same sx17 dx11
          replace dx12 := dp_same sx17 dx12
          replace dx13 := dp_same sx17 dx13
          replace dx14 := dp_same sx17 dx14
          replace dx15 := dp_same sx17 dx15
          replace dx16 := dp_same sx17 dx16
          replace sAll := sAll.trans sx17
          refine ⟨(by show 6 ≤ sizeLine; decide), fun a18 m18 => ?_⟩
          have sx18 : Same HX17 (upd HX17 a18 (.lst [.ref a9, .ref a10, .ref a11, .ref a13, .ref a15, .ref a17])) := same_upd m18
          have eo2 : (upd HX17 a18 (.lst [.ref a9, .ref a10, .ref a11, .ref a13, .ref a15, .ref a17])) a18 = some (.lst [.ref a9, .ref a10, .ref a11, .ref a13, .ref a15, .ref a17]) := upd_same
          have do2 : DpAll K (upd HX17 a18 (.lst [.ref a9, .ref a10, .ref a11, .ref a13, .ref a15, .ref a17])) [.ref a9, .ref a10, .ref a11, .ref a13, .ref a15, .ref a17] (odds2D n) := dpA_same sx18 (.cons dx9 (.cons dx10 (.cons dx11 (.cons dx13 (.cons dx15 (.cons dx17 .nil))))))
          generalize upd HX17 a18 (.lst [.ref a9, .ref a10, .ref a11, .ref a13, .ref a15, .ref a17]) = HX18 at sx18 eo2 do2
          replace do1 := dpA_same sx18 do1
          replace eo1 := sx18 _ _ eo1
          replace sAll := sAll.trans sx18
          refine ⟨a8, a18, [.non, .int (3), .int (-1), .bl true, .str "1", .ref a1, .ref a2, .ref a3, .ref a4, .ref a5, .ref a6, .ref a7], [.ref a9, .ref a10, .ref a11, .ref a13, .ref a15, .ref a17], rfl, rfl, eo1, eo2, (by show 18 ≤ sizeLine; decide), fun a19 m19 => ?_⟩
          have sx19 : Same HX18 (upd HX18 a19 (.lst ([.non, .int (3), .int (-1), .bl true, .str "1", .ref a1, .ref a2, .ref a3, .ref a4, .ref a5, .ref a6, .ref a7] ++ [.ref a9, .ref a10, .ref a11, .ref a13, .ref a15, .ref a17]))) := same_upd m19
          have eo3 : (upd HX18 a19 (.lst ([.non, .int (3), .int (-1), .bl true, .str "1", .ref a1, .ref a2, .ref a3, .ref a4, .ref a5, .ref a6, .ref a7] ++ [.ref a9, .ref a10, .ref a11, .ref a13, .ref a15, .ref a17]))) a19 = some (.lst ([.non, .int (3), .int (-1), .bl true, .str "1", .ref a1, .ref a2, .ref a3, .ref a4, .ref a5, .ref a6, .ref a7] ++ [.ref a9, .ref a10, .ref a11, .ref a13, .ref a15, .ref a17])) := upd_same
          have do3 : DpAll K (upd HX18 a19 (.lst ([.non, .int (3), .int (-1), .bl true, .str "1", .ref a1, .ref a2, .ref a3, .ref a4, .ref a5, .ref a6, .ref a7] ++ [.ref a9, .ref a10, .ref a11, .ref a13, .ref a15, .ref a17]))) ([.non, .int (3), .int (-1), .bl true, .str "1", .ref a1, .ref a2, .ref a3, .ref a4, .ref a5, .ref a6, .ref a7] ++ [.ref a9, .ref a10, .ref a11, .ref a13, .ref a15, .ref a17]) (odds1D n ++ odds2D n) := dpA_same sx19 (dpA_app do1 do2)
          generalize upd HX18 a19 (.lst ([.non, .int (3), .int (-1), .bl true, .str "1", .ref a1, .ref a2, .ref a3, .ref a4, .ref a5, .ref a6, .ref a7] ++ [.ref a9, .ref a10, .ref a11, .ref a13, .ref a15, .ref a17])) = HX19 at sx19 eo3 do3
          replace sAll := sAll.trans sx19
          refine ⟨_, rfl, (by show 3 ≤ sizeLine; decide), fun a20 m20 => ?_⟩
          have sx20 : Same HX19 (upd HX19 a20 (.tup [.str "Plus", .int (1), .int (1)])) := same_upd m20
          have dx20 := dpT (K := K) (ds := [.str "Plus", .int (1), .int (1)]) m20 (.cons (.str "Plus") (.cons (.int (1)) (.cons (.int (1)) .nil)))
          generalize upd HX19 a20 (.tup [.str "Plus", .int (1), .int (1)]) = HX20 at sx20 dx20
          replace do3 := dpA_same sx20 do3
          replace eo3 := sx20 _ _ eo3
          replace sAll := sAll.trans sx20
          refine ⟨(by show 3 ≤ sizeLine; decide), fun a21 m21 => ?_⟩
          have sx21 : Same HX20 (upd HX20 a21 (.tup [.str "same", .int (0), .non])) := same_upd m21
          have dx21 := dpT (K := K) (ds := [.str "same", .int (0), .none]) m21 (.cons (.str "same") (.cons (.int (0)) (.cons .non .nil)))
          generalize upd HX20 a21 (.tup [.str "same", .int (0), .non]) = HX21 at sx21 dx21
          replace do3 := dpA_same sx21 do3
          replace eo3 := sx21 _ _ eo3
          replace dx20 := dp_same sx21 dx20
          replace sAll := sAll.trans sx21
          refine ⟨(by show 3 ≤ sizeLine; decide), fun a22 m22 => ?_⟩
          have sx22 : Same HX21 (upd HX21 a22 (.tup [.int (1), .int (1), .int (1)])) := same_upd m22
          have dx22 := dpT (K := K) (ds := [.int (1), .int (1), .int (1)]) m22 (.cons (.int (1)) (.cons (.int (1)) (.cons (.int (1)) .nil)))
          generalize upd HX21 a22 (.tup [.int (1), .int (1), .int (1)]) = HX22 at sx22 dx22
          replace do3 := dpA_same sx22 do3
          replace eo3 := sx22 _ _ eo3
          replace dx20 := dp_same sx22 dx20
          replace dx21 := dp_same sx22 dx21
          replace sAll := sAll.trans sx22
          refine ⟨(by show 2 ≤ sizeLine; decide), fun a23 m23 => ?_⟩
          have sx23 : Same HX22 (upd HX22 a23 (.tup [.str "call", .str "f"])) := same_upd m23
          have dx23 := dpT (K := K) (ds := [.str "call", .str "f"]) m23 (.cons (.str "call") (.cons (.str "f") .nil))
          generalize upd HX22 a23 (.tup [.str "call", .str "f"]) = HX23 at sx23 dx23
          replace do3 := dpA_same sx23 do3
          replace eo3 := sx23 _ _ eo3
          replace dx20 := dp_same sx23 dx20
          replace dx21 := dp_same sx23 dx21
          replace dx22 := dp_same sx23 dx22
          replace sAll := sAll.trans sx23
          refine ⟨(by show 1 ≤ sizeLine; decide), fun a24 m24 => ?_⟩
          have sx24 : Same HX23 (upd HX23 a24 (.tup [.non])) := same_upd m24
          have dx24 := dpT (K := K) (ds := [.none]) m24 (.cons .non .nil)
          generalize upd HX23 a24 (.tup [.non]) = HX24 at sx24 dx24
          replace do3 := dpA_same sx24 do3
          replace eo3 := sx24 _ _ eo3
          replace dx20 := dp_same sx24 dx20
          replace dx21 := dp_same sx24 dx21
          replace dx22 := dp_same sx24 dx22
          replace dx23 := dp_same sx24 dx23
          replace sAll := sAll.trans sx24
          refine ⟨(by show 3 ≤ sizeLine; decide), fun a25 m25 => ?_⟩
          have sx25 : Same HX24 (upd HX24 a25 (.tup [.str "call", .str "f", .ref a24])) := same_upd m25
          have dx25 := dpT (K := K) (ds := [.str "call", .str "f", .tuple [.none]]) m25 (.cons (.str "call") (.cons (.str "f") (.cons dx24 .nil)))
          generalize upd HX24 a25 (.tup [.str "call", .str "f", .ref a24]) = HX25 at sx25 dx25
          replace do3 := dpA_same sx25 do3
          replace eo3 := sx25 _ _ eo3
          replace dx20 := dp_same sx25 dx20
          replace dx21 := dp_same sx25 dx21
          replace dx22 := dp_same sx25 dx22
          replace dx23 := dp_same sx25 dx23
          replace dx24 := dp_same sx25 dx24
          replace sAll := sAll.trans sx25
          refine ⟨(by show 5 ≤ sizeLine; decide), fun a26 m26 => ?_⟩
          have sx26 : Same HX25 (upd HX25 a26 (.lst [.ref a20, .ref a21, .ref a22, .ref a23, .ref a25])) := same_upd m26
          have eo4 : (upd HX25 a26 (.lst [.ref a20, .ref a21, .ref a22, .ref a23, .ref a25])) a26 = some (.lst [.ref a20, .ref a21, .ref a22, .ref a23, .ref a25]) := upd_same
          have do4 : DpAll K (upd HX25 a26 (.lst [.ref a20, .ref a21, .ref a22, .ref a23, .ref a25])) [.ref a20, .ref a21, .ref a22, .ref a23, .ref a25] (odds3D n) := dpA_same sx26 (.cons dx20 (.cons dx21 (.cons dx22 (.cons dx23 (.cons dx25 .nil)))))
          generalize upd HX25 a26 (.lst [.ref a20, .ref a21, .ref a22, .ref a23, .ref a25]) = HX26 at sx26 eo4 do4
          replace do3 := dpA_same sx26 do3
          replace eo3 := sx26 _ _ eo3
          replace sAll := sAll.trans sx26
          refine ⟨a19, a26, ([.non, .int (3), .int (-1), .bl true, .str "1", .ref a1, .ref a2, .ref a3, .ref a4, .ref a5, .ref a6, .ref a7] ++ [.ref a9, .ref a10, .ref a11, .ref a13, .ref a15, .ref a17]), [.ref a20, .ref a21, .ref a22, .ref a23, .ref a25], rfl, rfl, eo3, eo4, (by show 23 ≤ sizeLine; decide), fun a27 m27 => ?_⟩
          have sx27 : Same HX26 (upd HX26 a27 (.lst (([.non, .int (3), .int (-1), .bl true, .str "1", .ref a1, .ref a2, .ref a3, .ref a4, .ref a5, .ref a6, .ref a7] ++ [.ref a9, .ref a10, .ref a11, .ref a13, .ref a15, .ref a17]) ++ [.ref a20, .ref a21, .ref a22, .ref a23, .ref a25]))) := same_upd m27
          have eo5 : (upd HX26 a27 (.lst (([.non, .int (3), .int (-1), .bl true, .str "1", .ref a1, .ref a2, .ref a3, .ref a4, .ref a5, .ref a6, .ref a7] ++ [.ref a9, .ref a10, .ref a11, .ref a13, .ref a15, .ref a17]) ++ [.ref a20, .ref a21, .ref a22, .ref a23, .ref a25]))) a27 = some (.lst (([.non, .int (3), .int (-1), .bl true, .str "1", .ref a1, .ref a2, .ref a3, .ref a4, .ref a5, .ref a6, .ref a7] ++ [.ref a9, .ref a10, .ref a11, .ref a13, .ref a15, .ref a17]) ++ [.ref a20, .ref a21, .ref a22, .ref a23, .ref a25])) := upd_same
          have do5 : DpAll K (upd HX26 a27 (.lst (([.non, .int (3), .int (-1), .bl true, .str "1", .ref a1, .ref a2, .ref a3, .ref a4, .ref a5, .ref a6, .ref a7] ++ [.ref a9, .ref a10, .ref a11, .ref a13, .ref a15, .ref a17]) ++ [.ref a20, .ref a21, .ref a22, .ref a23, .ref a25]))) (([.non, .int (3), .int (-1), .bl true, .str "1", .ref a1, .ref a2, .ref a3, .ref a4, .ref a5, .ref a6, .ref a7] ++ [.ref a9, .ref a10, .ref a11, .ref a13, .ref a15, .ref a17]) ++ [.ref a20, .ref a21, .ref a22, .ref a23, .ref a25]) (odds1D n ++ odds2D n ++ odds3D n) := dpA_same sx27 (dpA_app do3 do4)
          generalize upd HX26 a27 (.lst (([.non, .int (3), .int (-1), .bl true, .str "1", .ref a1, .ref a2, .ref a3, .ref a4, .ref a5, .ref a6, .ref a7] ++ [.ref a9, .ref a10, .ref a11, .ref a13, .ref a15, .ref a17]) ++ [.ref a20, .ref a21, .ref a22, .ref a23, .ref a25])) = HX27 at sx27 eo5 do5
          replace sAll := sAll.trans sx27
          have bL : But p H' HX27 := but_sameN bA sAll
          have hpL := hpA.same sAll
          have dvL := dp_same sAll dvA
          have oddsOk := odds_ok hn0 hn3
          refine ⟨a27, rfl, ⟨_, .inl (.inl eo5)⟩, ?_⟩
          have npa27 : a27 ≠ p := by
            obtain ⟨x, y, ep, _⟩ := hpL
            exact ne_of eo5 ep (fun z => by cases z)
          refine for_list (K := K) (a := a27) (xs := (([.non, .int (3), .int (-1), .bl true, .str "1", .ref a1, .ref a2, .ref a3, .ref a4, .ref a5, .ref a6, .ref a7] ++ [.ref a9, .ref a10, .ref a11, .ref a13, .ref a15, .ref a17]) ++ [.ref a20, .ref a21, .ref a22, .ref a23, .ref a25])) (fun j σ HT => ∃ z1 z6 z7 z8 z11 z12, σ = [some (.ref a), z1, some (.ref p), some (.ref r), some (.int n), some (.ref bb), z6, z7, z8, some v, some (.ref rd), z11, z12] ∧ But p HX27 HT ∧ PoolAt HT p)
            ⟨_, _, _, _, _, _, rfl, But.refl p HX27, hpL⟩ (fun j σ HT _ h => ?_) (fun j x σ HT hx h => ?_) (fun σ HT h => ?_)
          · obtain ⟨_, _, _, _, _, _, _, b, _⟩ := h
            exact .inl (.inl (b _ _ eo5 npa27))
          · obtain ⟨z1, z6, z7, z8, z11, z12, rfl, b, hpj⟩ := h
            have dj : DpAll K HT (([.non, .int (3), .int (-1), .bl true, .str "1", .ref a1, .ref a2, .ref a3, .ref a4, .ref a5, .ref a6, .ref a7] ++ [.ref a9, .ref a10, .ref a11, .ref a13, .ref a15, .ref a17]) ++ [.ref a20, .ref a21, .ref a22, .ref a23, .ref a25]) (oddsD n) := by
              obtain ⟨x', y', ep, _⟩ := hpL
              exact dpAll_noP ep b _ _ oddsOk.2 do5
            obtain ⟨od, hod, dx⟩ := dpA_at dj hx
            obtain ⟨nop, szo, bado⟩ := odd_ok (List.all_eq_true.mp oddsOk.1 od (List.mem_of_getElem? hod))
            refine ⟨.ref p, rfl, v, rfl, x, rfl, p, v, x, d, od, n, dn + 1, rfl, hpj, dp_but hpL b (gd_nl _ _ gd) dvL, gd, by omega, by omega, dx, nop, szo, bado, fun u e HU' b' hp'' keep sze bade => ?_⟩
            refine ⟨.int n, rfl, u, e, n, rfl, keep HU' (fun _ _ h => h) (dp_noP' hpj b' nop dx), sze, fun HW sW => ⟨_, _, rfl, rfl, _, rfl, ?_⟩⟩
            rw [bad_isTerm bade (by omega)]
            exact iteF ⟨_, _, _, _, _, _, rfl, but_sameN (b.trans b') sW, hp''.same sW⟩
          · obtain ⟨z1, z6, z7, z8, z11, z12, rfl, b, hpj⟩ := h
            exact ⟨_, _, _, _, _, _, _, _, rfl, bL.trans b, hpj⟩
        · rw [decide_eq_false (show ¬ ((sz9 d : Nat) : Int) ≤ 30 by omega)]
          exact iteF ⟨_, _, _, _, _, _, _, _, rfl, bC, hpC⟩
      · obtain ⟨z1, z6, z7, z8, z9, z10, z11, z12, rfl, bT, hpT⟩ := hW
        exact ⟨_, _, _, _, _, _, _, _, _, _, _, _, rfl, same_butN s01 nHp (b1'.trans bT)⟩
end
/-! ### the table of lengths -/
def Lens (r : Option DictEntry) (o : Option Int) : Prop := match o with
  | some k => ∃ e t, r = some e ∧ e.val = .int k t
  | none => r = none
theorem lens_in {K : PySem.W.Frag} {aL : Addr} {es : Array DictEntry} {n : Nat} (l : K.lookup aL = some ⟨.type "dict", none, .dict es n, #[]⟩) {z : Str} (e : Lens (es.toList.find? (·.key.isStr z)) (lenOf z)) (o : es.toList.any (·.refKey) = false) :
    match lenOf z with
    | some k => ∃ t, PySem.W.nsIn K aL z = some (some (.int k t))
    | none => PySem.W.nsIn K aL z = some none := by
  have h : PySem.W.nsIn K aL z = (match es.toList.find? (·.key.isStr z) with
      | some e => some (some e.val)
      | none => if es.toList.any (·.refKey) then none else some none) := by
    unfold PySem.W.nsIn
    rw [l]
    rfl
  unfold Lens at e
  cases hz : lenOf z with
  | none =>
    rw [hz] at e
    show PySem.W.nsIn K aL z = some none
    have e' : es.toList.find? (·.key.isStr z) = none := e
    rw [h, e', o]
    rfl
  | some k =>
    rw [hz] at e
    obtain ⟨en, t, e1, e2⟩ := (e : ∃ en t, es.toList.find? (·.key.isStr z) = some en ∧ en.val = .int k t)
    refine ⟨t, ?_⟩
    rw [h, e1]
    show some (some en.val) = _
    rw [e2]
theorem isStr_str (a b : Str) (t : Tok) : (Value.str a t).isStr b = decide (b = a) := by
  rw [PySem.W.isStr_of]
  by_cases h : b = a
  · subst h
    rw [decide_eq_true rfl]
    simp [Value.isStrOf]
  · rw [decide_eq_false h]
    simp [Value.isStrOf]
    intro q
    exact h q.symm
theorem lens_five (z : Str) (e1 e2 e3 e4 e5 : DictEntry) {t1 t2 t3 t4 t5 : Tok} (k1 : e1.key = .str "tick" t1) (k2 : e2.key = .str "plus" t2) (k3 : e3.key = .str "less" t3) (k4 : e4.key = .str "same" t4) (k5 : e5.key = .str "if" t5)
    (v1 : ∃ t, e1.val = .int 1 t) (v2 : ∃ t, e2.val = .int 3 t) (v3 : ∃ t, e3.val = .int 3 t) (v4 : ∃ t, e4.val = .int 3 t) (v5 : ∃ t, e5.val = .int 4 t) : Lens ([e1, e2, e3, e4, e5].find? (·.key.isStr z)) (lenOf z) := by
  unfold lenOf
  rw [List.find?_cons, k1, isStr_str]
  by_cases h1 : z = "tick"
  · rw [if_pos h1, decide_eq_true h1]
    obtain ⟨t, v⟩ := v1
    exact ⟨e1, t, rfl, v⟩
  · rw [if_neg h1, decide_eq_false h1]
    show Lens (List.find? _ [e2, e3, e4, e5]) _
    rw [List.find?_cons, k2, isStr_str]
    by_cases h2 : z = "plus"
    · rw [if_pos h2, decide_eq_true h2]
      obtain ⟨t, v⟩ := v2
      exact ⟨e2, t, rfl, v⟩
    · rw [if_neg h2, decide_eq_false h2]
      show Lens (List.find? _ [e3, e4, e5]) _
      rw [List.find?_cons, k3, isStr_str]
      by_cases h3 : z = "less"
      · rw [if_pos h3, decide_eq_true h3]
        obtain ⟨t, v⟩ := v3
        exact ⟨e3, t, rfl, v⟩
      · rw [if_neg h3, decide_eq_false h3]
        show Lens (List.find? _ [e4, e5]) _
        rw [List.find?_cons, k4, isStr_str]
        by_cases h4 : z = "same"
        · rw [if_pos h4, decide_eq_true h4]
          obtain ⟨t, v⟩ := v4
          exact ⟨e4, t, rfl, v⟩
        · rw [if_neg h4, decide_eq_false h4]
          show Lens (List.find? _ [e5]) _
          rw [List.find?_cons, k5, isStr_str]
          by_cases h5 : z = "if"
          · rw [if_pos h5, decide_eq_true h5]
            obtain ⟨t, v⟩ := v5
            exact ⟨e5, t, rfl, v⟩
          · rw [if_neg h5, decide_eq_false h5]
            rfl
/-! ### what the top has written; the law's own head -/
theorem all_mk {l : PySem.W.OpenLaw} {w : World} {K : PySem.W.Frag} {h : Heap} {mg : Str → Option Value} {fa : Addr} (X : K.In h) (G : h.Ns mainGlobals mg) (hfa : mg "law" = some (.ref fa))
    {fWh : Addr} {odWh anWh : Option Addr} {slWh : Array (Option Value)} {ocWh kVWh dcWh pmWh cdWh ctWh : Value}
    {fVa : Addr} {odVa anVa : Option Addr} {slVa : Array (Option Value)} {ocVa kVVa dcVa pmVa cdVa ctVa : Value}
    {fNa : Addr} {odNa anNa : Option Addr} {slNa : Array (Option Value)} {ocNa kVNa dcNa pmNa cdNa ctNa : Value}
    {fTm : Addr} {odTm anTm : Option Addr} {slTm : Array (Option Value)} {ocTm kVTm dcTm pmTm cdTm ctTm : Value}
    {fHa : Addr} {odHa anHa : Option Addr} {slHa : Array (Option Value)} {ocHa kVHa dcHa pmHa cdHa ctHa : Value}
    {fCf : Addr} {odCf anCf : Option Addr} {slCf : Array (Option Value)} {ocCf kVCf dcCf pmCf cdCf ctCf : Value}
    {fIn : Addr} {odIn anIn : Option Addr} {slIn : Array (Option Value)} {ocIn kVIn dcIn pmIn cdIn ctIn : Value}
    {fNx : Addr} {odNx anNx : Option Addr} {slNx : Array (Option Value)} {ocNx kVNx dcNx pmNx cdNx ctNx : Value}
    {fPa : Addr} {odPa anPa : Option Addr} {slPa : Array (Option Value)} {ocPa kVPa dcPa pmPa cdPa ctPa : Value}
    {fWi : Addr} {odWi anWi : Option Addr} {slWi : Array (Option Value)} {ocWi kVWi dcWi pmWi cdWi ctWi : Value}
    {fSz : Addr} {odSz anSz : Option Addr} {slSz : Array (Option Value)} {ocSz kVSz dcSz pmSz cdSz ctSz : Value}
    {fDp : Addr} {odDp anDp : Option Addr} {slDp : Array (Option Value)} {ocDp kVDp dcDp pmDp cdDp ctDp : Value}
    {fCi : Addr} {odCi anCi : Option Addr} {slCi : Array (Option Value)} {ocCi kVCi dcCi pmCi cdCi ctCi : Value}
    {fCa : Addr} {odCa anCa : Option Addr} {slCa : Array (Option Value)} {ocCa kVCa dcCa pmCa cdCa ctCa : Value}
    {fHt : Addr} {odHt anHt : Option Addr} {slHt : Array (Option Value)} {ocHt kVHt dcHt pmHt cdHt ctHt : Value}
    {fAs : Addr} {odAs anAs : Option Addr} {slAs : Array (Option Value)} {ocAs kVAs dcAs pmAs cdAs ctAs : Value}
    {fPl : Addr} {odPl anPl : Option Addr} {slPl : Array (Option Value)} {ocPl kVPl dcPl pmPl cdPl ctPl : Value}
    {fDr : Addr} {odDr anDr : Option Addr} {slDr : Array (Option Value)} {ocDr kVDr dcDr pmDr cdDr ctDr : Value}
    {fPi : Addr} {odPi anPi : Option Addr} {slPi : Array (Option Value)} {ocPi kVPi dcPi pmPi cdPi ctPi : Value}
    {fNm : Addr} {odNm anNm : Option Addr} {slNm : Array (Option Value)} {ocNm kVNm dcNm pmNm cdNm ctNm : Value}
    {fLt : Addr} {odLt anLt : Option Addr} {slLt : Array (Option Value)} {ocLt kVLt dcLt pmLt cdLt ctLt : Value}
    {fLi : Addr} {odLi anLi : Option Addr} {slLi : Array (Option Value)} {ocLi kVLi dcLi pmLi cdLi ctLi : Value}
    {fCo : Addr} {odCo anCo : Option Addr} {slCo : Array (Option Value)} {ocCo kVCo dcCo pmCo cdCo ctCo : Value}
    {fBe : Addr} {odBe anBe : Option Addr} {slBe : Array (Option Value)} {ocBe kVBe dcBe pmBe cdBe ctBe : Value}
    {fLa : Addr} {odLa anLa : Option Addr} {slLa : Array (Option Value)} {ocLa kVLa dcLa pmLa cdLa ctLa : Value}
    {t_LONGEST_NAME : Tok}
    {t_MOST_ARGUMENTS : Tok}
    {t_MOST_DEEP : Tok}
    {t_MOST_PARTS : Tok}
    (aWh : PySem.W.nsIn K mainGlobals "is_whole" = some (some (.ref fWh))) (lWh : K.lookup fWh = some ⟨ocWh, odWh, .func (PySem.W.fnOf "is_whole" "is_whole" (defArgs sWhole) (defBody sWhole) (defScope sWhole) .none kVWh dcWh pmWh anWh cdWh ctWh), slWh⟩) (cWh : PySem.W.codeIn K cdWh "is_whole" = true) (kWh : PySem.W.keepIn K (.ref fWh) = true)
    (aVa : PySem.W.nsIn K mainGlobals "is_value" = some (some (.ref fVa))) (lVa : K.lookup fVa = some ⟨ocVa, odVa, .func (PySem.W.fnOf "is_value" "is_value" (defArgs sValue) (defBody sValue) (defScope sValue) .none kVVa dcVa pmVa anVa cdVa ctVa), slVa⟩) (cVa : PySem.W.codeIn K cdVa "is_value" = true) (kVa : PySem.W.keepIn K (.ref fVa) = true)
    (aNa : PySem.W.nsIn K mainGlobals "is_name" = some (some (.ref fNa))) (lNa : K.lookup fNa = some ⟨ocNa, odNa, .func (PySem.W.fnOf "is_name" "is_name" (defArgs sName) (defBody sName) (defScope sName) .none kVNa dcNa pmNa anNa cdNa ctNa), slNa⟩) (cNa : PySem.W.codeIn K cdNa "is_name" = true) (kNa : PySem.W.keepIn K (.ref fNa) = true)
    (aTm : PySem.W.nsIn K mainGlobals "is_term" = some (some (.ref fTm))) (lTm : K.lookup fTm = some ⟨ocTm, odTm, .func (PySem.W.fnOf "is_term" "is_term" (defArgs sTerm) (defBody sTerm) (defScope sTerm) .none kVTm dcTm pmTm anTm cdTm ctTm), slTm⟩) (cTm : PySem.W.codeIn K cdTm "is_term" = true) (kTm : PySem.W.keepIn K (.ref fTm) = true)
    (aHa : PySem.W.nsIn K mainGlobals "_has_form" = some (some (.ref fHa))) (lHa : K.lookup fHa = some ⟨ocHa, odHa, .func (PySem.W.fnOf "_has_form" "_has_form" (defArgs sHas) (defBody sHas) (defScope sHas) .none kVHa dcHa pmHa anHa cdHa ctHa), slHa⟩) (cHa : PySem.W.codeIn K cdHa "_has_form" = true) (kHa : PySem.W.keepIn K (.ref fHa) = true)
    (aCf : PySem.W.nsIn K mainGlobals "_has_call_form" = some (some (.ref fCf))) (lCf : K.lookup fCf = some ⟨ocCf, odCf, .func (PySem.W.fnOf "_has_call_form" "_has_call_form" (defArgs sCallForm) (defBody sCallForm) (defScope sCallForm) .none kVCf dcCf pmCf anCf cdCf ctCf), slCf⟩) (cCf : PySem.W.codeIn K cdCf "_has_call_form" = true) (kCf : PySem.W.keepIn K (.ref fCf) = true)
    (aIn : PySem.W.nsIn K mainGlobals "inner_terms" = some (some (.ref fIn))) (lIn : K.lookup fIn = some ⟨ocIn, odIn, .func (PySem.W.fnOf "inner_terms" "inner_terms" (defArgs sInner) (defBody sInner) (defScope sInner) .none kVIn dcIn pmIn anIn cdIn ctIn), slIn⟩) (cIn : PySem.W.codeIn K cdIn "inner_terms" = true) (kIn : PySem.W.keepIn K (.ref fIn) = true)
    (aNx : PySem.W.nsIn K mainGlobals "_next_level" = some (some (.ref fNx))) (lNx : K.lookup fNx = some ⟨ocNx, odNx, .func (PySem.W.fnOf "_next_level" "_next_level" (defArgs sNext) (defBody sNext) (defScope sNext) .none kVNx dcNx pmNx anNx cdNx ctNx), slNx⟩) (cNx : PySem.W.codeIn K cdNx "_next_level" = true) (kNx : PySem.W.keepIn K (.ref fNx) = true)
    (aPa : PySem.W.nsIn K mainGlobals "all_parts" = some (some (.ref fPa))) (lPa : K.lookup fPa = some ⟨ocPa, odPa, .func (PySem.W.fnOf "all_parts" "all_parts" (defArgs sParts) (defBody sParts) (defScope sParts) .none kVPa dcPa pmPa anPa cdPa ctPa), slPa⟩) (cPa : PySem.W.codeIn K cdPa "all_parts" = true) (kPa : PySem.W.keepIn K (.ref fPa) = true)
    (aWi : PySem.W.nsIn K mainGlobals "parts_with" = some (some (.ref fWi))) (lWi : K.lookup fWi = some ⟨ocWi, odWi, .func (PySem.W.fnOf "parts_with" "parts_with" (defArgs sWith) (defBody sWith) (defScope sWith) .none kVWi dcWi pmWi anWi cdWi ctWi), slWi⟩) (cWi : PySem.W.codeIn K cdWi "parts_with" = true) (kWi : PySem.W.keepIn K (.ref fWi) = true)
    (aSz : PySem.W.nsIn K mainGlobals "term_size" = some (some (.ref fSz))) (lSz : K.lookup fSz = some ⟨ocSz, odSz, .func (PySem.W.fnOf "term_size" "term_size" (defArgs sSize) (defBody sSize) (defScope sSize) .none kVSz dcSz pmSz anSz cdSz ctSz), slSz⟩) (cSz : PySem.W.codeIn K cdSz "term_size" = true) (kSz : PySem.W.keepIn K (.ref fSz) = true)
    (aDp : PySem.W.nsIn K mainGlobals "term_depth" = some (some (.ref fDp))) (lDp : K.lookup fDp = some ⟨ocDp, odDp, .func (PySem.W.fnOf "term_depth" "term_depth" (defArgs sDepth) (defBody sDepth) (defScope sDepth) .none kVDp dcDp pmDp anDp cdDp ctDp), slDp⟩) (cDp : PySem.W.codeIn K cdDp "term_depth" = true) (kDp : PySem.W.keepIn K (.ref fDp) = true)
    (aCi : PySem.W.nsIn K mainGlobals "cells_in" = some (some (.ref fCi))) (lCi : K.lookup fCi = some ⟨ocCi, odCi, .func (PySem.W.fnOf "cells_in" "cells_in" (defArgs sCells) (defBody sCells) (defScope sCells) .none kVCi dcCi pmCi anCi cdCi ctCi), slCi⟩) (cCi : PySem.W.codeIn K cdCi "cells_in" = true) (kCi : PySem.W.keepIn K (.ref fCi) = true)
    (aCa : PySem.W.nsIn K mainGlobals "calls_in" = some (some (.ref fCa))) (lCa : K.lookup fCa = some ⟨ocCa, odCa, .func (PySem.W.fnOf "calls_in" "calls_in" (defArgs sCalls) (defBody sCalls) (defScope sCalls) .none kVCa dcCa pmCa anCa cdCa ctCa), slCa⟩) (cCa : PySem.W.codeIn K cdCa "calls_in" = true) (kCa : PySem.W.keepIn K (.ref fCa) = true)
    (aHt : PySem.W.nsIn K mainGlobals "has_tick" = some (some (.ref fHt))) (lHt : K.lookup fHt = some ⟨ocHt, odHt, .func (PySem.W.fnOf "has_tick" "has_tick" (defArgs sHasTick) (defBody sHasTick) (defScope sHasTick) .none kVHt dcHt pmHt anHt cdHt ctHt), slHt⟩) (cHt : PySem.W.codeIn K cdHt "has_tick" = true) (kHt : PySem.W.keepIn K (.ref fHt) = true)
    (aAs : PySem.W.nsIn K mainGlobals "_ascending" = some (some (.ref fAs))) (lAs : K.lookup fAs = some ⟨ocAs, odAs, .func (PySem.W.fnOf "_ascending" "_ascending" (defArgs sAsc) (defBody sAsc) (defScope sAsc) .none kVAs dcAs pmAs anAs cdAs ctAs), slAs⟩) (cAs : PySem.W.codeIn K cdAs "_ascending" = true) (kAs : PySem.W.keepIn K (.ref fAs) = true)
    (aPl : PySem.W.nsIn K mainGlobals "_law_pool" = some (some (.ref fPl))) (lPl : K.lookup fPl = some ⟨ocPl, odPl, .func (PySem.W.fnOf "_law_pool" "_law_pool" (defArgs sPool) (defBody sPool) (defScope sPool) .none kVPl dcPl pmPl anPl cdPl ctPl), slPl⟩) (cPl : PySem.W.codeIn K cdPl "_law_pool" = true) (kPl : PySem.W.keepIn K (.ref fPl) = true)
    (aDr : PySem.W.nsIn K mainGlobals "_law_draw" = some (some (.ref fDr))) (lDr : K.lookup fDr = some ⟨ocDr, odDr, .func (PySem.W.fnOf "_law_draw" "_law_draw" (defArgs sDraw) (defBody sDraw) (defScope sDraw) .none kVDr dcDr pmDr anDr cdDr ctDr), slDr⟩) (cDr : PySem.W.codeIn K cdDr "_law_draw" = true) (kDr : PySem.W.keepIn K (.ref fDr) = true)
    (aPi : PySem.W.nsIn K mainGlobals "_law_pick" = some (some (.ref fPi))) (lPi : K.lookup fPi = some ⟨ocPi, odPi, .func (PySem.W.fnOf "_law_pick" "_law_pick" (defArgs sPick) (defBody sPick) (defScope sPick) .none kVPi dcPi pmPi anPi cdPi ctPi), slPi⟩) (cPi : PySem.W.codeIn K cdPi "_law_pick" = true) (kPi : PySem.W.keepIn K (.ref fPi) = true)
    (aNm : PySem.W.nsIn K mainGlobals "_law_names" = some (some (.ref fNm))) (lNm : K.lookup fNm = some ⟨ocNm, odNm, .func (PySem.W.fnOf "_law_names" "_law_names" (defArgs sLNames) (defBody sLNames) (defScope sLNames) .none kVNm dcNm pmNm anNm cdNm ctNm), slNm⟩) (cNm : PySem.W.codeIn K cdNm "_law_names" = true) (kNm : PySem.W.keepIn K (.ref fNm) = true)
    (aLt : PySem.W.nsIn K mainGlobals "_law_term" = some (some (.ref fLt))) (lLt : K.lookup fLt = some ⟨ocLt, odLt, .func (PySem.W.fnOf "_law_term" "_law_term" (defArgs sLTerm) (defBody sLTerm) (defScope sLTerm) .none kVLt dcLt pmLt anLt cdLt ctLt), slLt⟩) (cLt : PySem.W.codeIn K cdLt "_law_term" = true) (kLt : PySem.W.keepIn K (.ref fLt) = true)
    (aLi : PySem.W.nsIn K mainGlobals "_law_inner" = some (some (.ref fLi))) (lLi : K.lookup fLi = some ⟨ocLi, odLi, .func (PySem.W.fnOf "_law_inner" "_law_inner" (defArgs sLInner) (defBody sLInner) (defScope sLInner) .none kVLi dcLi pmLi anLi cdLi ctLi), slLi⟩) (cLi : PySem.W.codeIn K cdLi "_law_inner" = true) (kLi : PySem.W.keepIn K (.ref fLi) = true)
    (aCo : PySem.W.nsIn K mainGlobals "_law_counts" = some (some (.ref fCo))) (lCo : K.lookup fCo = some ⟨ocCo, odCo, .func (PySem.W.fnOf "_law_counts" "_law_counts" (defArgs sCounts) (defBody sCounts) (defScope sCounts) .none kVCo dcCo pmCo anCo cdCo ctCo), slCo⟩) (cCo : PySem.W.codeIn K cdCo "_law_counts" = true) (kCo : PySem.W.keepIn K (.ref fCo) = true)
    (aBe : PySem.W.nsIn K mainGlobals "_law_bent" = some (some (.ref fBe))) (lBe : K.lookup fBe = some ⟨ocBe, odBe, .func (PySem.W.fnOf "_law_bent" "_law_bent" (defArgs sBent) (defBody sBent) (defScope sBent) .none kVBe dcBe pmBe anBe cdBe ctBe), slBe⟩) (cBe : PySem.W.codeIn K cdBe "_law_bent" = true) (kBe : PySem.W.keepIn K (.ref fBe) = true)
    (aLa : PySem.W.nsIn K mainGlobals "law" = some (some (.ref fLa))) (lLa : K.lookup fLa = some ⟨ocLa, odLa, .func (PySem.W.fnOf "law" "law" (defArgs sLaw) (defBody sLaw) (defScope sLaw) .none kVLa dcLa pmLa anLa cdLa ctLa), slLa⟩) (cLa : PySem.W.codeIn K cdLa "law" = true) (kLa : PySem.W.keepIn K (.ref fLa) = true)
    (z_abs : PySem.W.nsIn K mainGlobals "abs" = some none)
    (z_int : PySem.W.nsIn K mainGlobals "int" = some none)
    (z_len : PySem.W.nsIn K mainGlobals "len" = some none)
    (z_sum : PySem.W.nsIn K mainGlobals "sum" = some none)
    (z_max : PySem.W.nsIn K mainGlobals "max" = some none)
    (z_min : PySem.W.nsIn K mainGlobals "min" = some none)
    (z_range : PySem.W.nsIn K mainGlobals "range" = some none)
    (z_isinstance : PySem.W.nsIn K mainGlobals "isinstance" = some none)
    (z_bool : PySem.W.nsIn K mainGlobals "bool" = some none)
    (z_str : PySem.W.nsIn K mainGlobals "str" = some none)
    (z_tuple : PySem.W.nsIn K mainGlobals "tuple" = some none)
    (z_list : PySem.W.nsIn K mainGlobals "list" = some none)
    (z_dict : PySem.W.nsIn K mainGlobals "dict" = some none)
    (z_all : PySem.W.nsIn K mainGlobals "all" = some none)
    (z_sorted : PySem.W.nsIn K mainGlobals "sorted" = some none)
    (z_repr : PySem.W.nsIn K mainGlobals "repr" = some none)
    (z_zip : PySem.W.nsIn K mainGlobals "zip" = some none)
    (i_LONGEST_NAME : PySem.W.nsIn K mainGlobals "LONGEST_NAME" = some (some (.int 8 t_LONGEST_NAME)))
    (i_MOST_ARGUMENTS : PySem.W.nsIn K mainGlobals "MOST_ARGUMENTS" = some (some (.int 2 t_MOST_ARGUMENTS)))
    (i_MOST_DEEP : PySem.W.nsIn K mainGlobals "MOST_DEEP" = some (some (.int 8 t_MOST_DEEP)))
    (i_MOST_PARTS : PySem.W.nsIn K mainGlobals "MOST_PARTS" = some (some (.int 30 t_MOST_PARTS)))
    {aV : Addr} {ddV : Option Addr} {itsV : Array Value} {nV : Nat} {slV : Array (Option Value)} (vV : PySem.W.nsIn K mainGlobals "VALUES" = some (some (.ref aV))) (lV : K.lookup aV = some ⟨.type "tuple", ddV, .seq itsV nV, slV⟩) (rV : Vals [.int 0, .int 1, .int 2] itsV.toList) (sV : itsV.size ≤ sizeLine)
    {aL : Addr} {esL : Array DictEntry} {nL : Nat} (vL : PySem.W.nsIn K mainGlobals "LENGTHS" = some (some (.ref aL))) (lL : K.lookup aL = some ⟨.type "dict", none, .dict esL nL, #[]⟩) (kL : PySem.W.KeysLit w.params esL.toList) (yL : (aL == sysModules) = false) (eL : ∀ z : Str, Lens (esL.toList.find? (·.key.isStr z)) (lenOf z)) (oL : esL.toList.any (·.refKey) = false)
 :
    ∃ fd : FuncData, (∀ (s : Shared) (v : Value), BindsTo s fd ⟨[v], []⟩ [("_law_script", v)]) ∧ ∀ base : Heap, K.In base → base.Ns mainGlobals mg → FnOk l.prog w K mg base CX0 8 fa fd ["_law_script"] (spLaw K) := by
  have e := hfa.symm.trans (PySem.W.mg_of X G aLa)
  cases e
  have FWh := fun_mk (st := sWhole) lWh cWh kWh
  have bWh := FWh.binds (ps := ["value"]) fun _ _ _ _ _ _ us hl => match us, hl with | [_], _ => rfl
  have FVa := fun_mk (st := sValue) lVa cVa kVa
  have bVa := FVa.binds (ps := ["value"]) fun _ _ _ _ _ _ us hl => match us, hl with | [_], _ => rfl
  have FNa := fun_mk (st := sName) lNa cNa kNa
  have bNa := FNa.binds (ps := ["value"]) fun _ _ _ _ _ _ us hl => match us, hl with | [_], _ => rfl
  have FTm := fun_mk (st := sTerm) lTm cTm kTm
  have bTm := FTm.binds (ps := ["value", "arguments"]) fun _ _ _ _ _ _ us hl => match us, hl with | [_, _], _ => rfl
  have FHa := fun_mk (st := sHas) lHa cHa kHa
  have bHa := FHa.binds (ps := ["part", "arguments"]) fun _ _ _ _ _ _ us hl => match us, hl with | [_, _], _ => rfl
  have FCf := fun_mk (st := sCallForm) lCf cCf kCf
  have bCf := FCf.binds (ps := ["terms"]) fun _ _ _ _ _ _ us hl => match us, hl with | [_], _ => rfl
  have FIn := fun_mk (st := sInner) lIn cIn kIn
  have bIn := FIn.binds (ps := ["term"]) fun _ _ _ _ _ _ us hl => match us, hl with | [_], _ => rfl
  have FNx := fun_mk (st := sNext) lNx cNx kNx
  have bNx := FNx.binds (ps := ["level"]) fun _ _ _ _ _ _ us hl => match us, hl with | [_], _ => rfl
  have FPa := fun_mk (st := sParts) lPa cPa kPa
  have bPa := FPa.binds (ps := ["term"]) fun _ _ _ _ _ _ us hl => match us, hl with | [_], _ => rfl
  have FWi := fun_mk (st := sWith) lWi cWi kWi
  have bWi := FWi.binds (ps := ["word", "term"]) fun _ _ _ _ _ _ us hl => match us, hl with | [_, _], _ => rfl
  have FSz := fun_mk (st := sSize) lSz cSz kSz
  have bSz := FSz.binds (ps := ["term"]) fun _ _ _ _ _ _ us hl => match us, hl with | [_], _ => rfl
  have FDp := fun_mk (st := sDepth) lDp cDp kDp
  have bDp := FDp.binds (ps := ["term"]) fun _ _ _ _ _ _ us hl => match us, hl with | [_], _ => rfl
  have FCi := fun_mk (st := sCells) lCi cCi kCi
  have bCi := FCi.binds (ps := ["term"]) fun _ _ _ _ _ _ us hl => match us, hl with | [_], _ => rfl
  have FCa := fun_mk (st := sCalls) lCa cCa kCa
  have bCa := FCa.binds (ps := ["term"]) fun _ _ _ _ _ _ us hl => match us, hl with | [_], _ => rfl
  have FHt := fun_mk (st := sHasTick) lHt cHt kHt
  have bHt := FHt.binds (ps := ["term"]) fun _ _ _ _ _ _ us hl => match us, hl with | [_], _ => rfl
  have FAs := fun_mk (st := sAsc) lAs cAs kAs
  have bAs := FAs.binds (ps := ["names"]) fun _ _ _ _ _ _ us hl => match us, hl with | [_], _ => rfl
  have FPl := fun_mk (st := sPool) lPl cPl kPl
  have bPl := FPl.binds (ps := ["_law_script", "_law_k"]) fun _ _ _ _ _ _ us hl => match us, hl with | [_, _], _ => rfl
  have FDr := fun_mk (st := sDraw) lDr cDr kDr
  have bDr := FDr.binds (ps := ["_law_pool_here", "_law_many"]) fun _ _ _ _ _ _ us hl => match us, hl with | [_, _], _ => rfl
  have FPi := fun_mk (st := sPick) lPi cPi kPi
  have bPi := FPi.binds (ps := ["_law_pool_here", "_law_row"]) fun _ _ _ _ _ _ us hl => match us, hl with | [_, _], _ => rfl
  have FNm := fun_mk (st := sLNames) lNm cNm kNm
  have bNm := FNm.binds (ps := ["_law_pool_here", "_law_count"]) fun _ _ _ _ _ _ us hl => match us, hl with | [_, _], _ => rfl
  have FLt := fun_mk (st := sLTerm) lLt cLt kLt
  have bLt := FLt.binds (ps := ["_law_pool_here", "_law_b", "_law_many", "_law_deep"]) fun _ _ _ _ _ _ us hl => match us, hl with | [_, _, _, _], _ => rfl
  have FLi := fun_mk (st := sLInner) lLi cLi kLi
  have bLi := FLi.binds (ps := ["_law_term_here"]) fun _ _ _ _ _ _ us hl => match us, hl with | [_], _ => rfl
  have FCo := fun_mk (st := sCounts) lCo cCo kCo
  have bCo := FCo.binds (ps := ["_law_term_here"]) fun _ _ _ _ _ _ us hl => match us, hl with | [_], _ => rfl
  have FBe := fun_mk (st := sBent) lBe cBe kBe
  have bBe := FBe.binds (ps := ["_law_pool_here", "_law_term_here", "_law_odd"]) fun _ _ _ _ _ _ us hl => match us, hl with | [_, _, _], _ => rfl
  have FLa := fun_mk (st := sLaw) lLa cLa kLa
  have M : Blt mg := ⟨PySem.W.mg_none_of X G z_abs, PySem.W.mg_none_of X G z_int, PySem.W.mg_none_of X G z_len, PySem.W.mg_none_of X G z_sum, PySem.W.mg_none_of X G z_max, PySem.W.mg_none_of X G z_min, PySem.W.mg_none_of X G z_range, PySem.W.mg_none_of X G z_isinstance, PySem.W.mg_none_of X G z_bool, PySem.W.mg_none_of X G z_str, PySem.W.mg_none_of X G z_tuple, PySem.W.mg_none_of X G z_list, PySem.W.mg_none_of X G z_dict, PySem.W.mg_none_of X G z_all, PySem.W.mg_none_of X G z_sorted, PySem.W.mg_none_of X G z_repr, PySem.W.mg_none_of X G z_zip⟩
  have TC : CellsTxt K mg := ⟨⟨aV, PySem.W.mg_of X G vV, fun H => .inr ⟨_, itsV, nV, lV, rfl, rfl, sV, rV⟩⟩, ⟨_, PySem.W.mg_of X G i_LONGEST_NAME⟩⟩
  have TT : TermsTxt K w mg := ⟨⟨aL, esL, nL, PySem.W.mg_of X G vL, ⟨lL, kL, yL⟩, fun z => lens_in lL (eL z) oL⟩, ⟨_, PySem.W.mg_of X G i_MOST_ARGUMENTS⟩, ⟨_, PySem.W.mg_of X G i_MOST_DEEP⟩, ⟨_, PySem.W.mg_of X G i_MOST_PARTS⟩⟩
  have CF : CellFns K mg fWh fVa fNa _ _ _ := ⟨FWh, FVa, FNa, bWh, bVa, bNa, PySem.W.mg_of X G aWh, PySem.W.mg_of X G aVa, PySem.W.mg_of X G aNa⟩
  have WF : WithFns K mg fWi fAs _ _ := ⟨FWi, FAs, bWi, bAs, PySem.W.mg_of X G aWi, PySem.W.mg_of X G aAs⟩
  have LF : LawFns K mg fPl fDr fNm fLt fCo fBe fTm fSz fDp fCi fCa fHt _ _ _ _ _ _ _ _ _ _ _ _ := ⟨FPl, bPl, PySem.W.mg_of X G aPl, FDr, bDr, PySem.W.mg_of X G aDr, FNm, bNm, PySem.W.mg_of X G aNm, FLt, bLt, PySem.W.mg_of X G aLt, FCo, bCo, PySem.W.mg_of X G aCo, FBe, bBe, PySem.W.mg_of X G aBe, FTm, bTm, PySem.W.mg_of X G aTm, FSz, bSz, PySem.W.mg_of X G aSz, FDp, bDp, PySem.W.mg_of X G aDp, FCi, bCi, PySem.W.mg_of X G aCi, FCa, bCa, PySem.W.mg_of X G aCa, FHt, bHt, PySem.W.mg_of X G aHt⟩
  exact ⟨PySem.W.fnOf "law" "law" (defArgs sLaw) (defBody sLaw) (defScope sLaw) .none kVLa dcLa pmLa anLa cdLa ctLa, fun s v => .of_eq rfl, fun base _ _ => by
    have GI := ok_inner (P := l.prog) (w := w) (base := base) FIn M TC CF
    have GX := ok_next (P := l.prog) (w := w) (base := base) FNx GI FIn bIn (PySem.W.mg_of X G aIn)
    have GH := ok_has (P := l.prog) (w := w) (base := base) FHa M TC TT CF FCf bCf (PySem.W.mg_of X G aCf)
    have GPa := ok_parts (P := l.prog) (w := w) (base := base) FPa GX FNx bNx (PySem.W.mg_of X G aNx)
    have GWi := ok_with (P := l.prog) (w := w) (base := base) FWi M TC CF GPa FPa bPa (PySem.W.mg_of X G aPa)
    have GAs := ok_asc (P := l.prog) (w := w) (base := base) FAs M
    exact ok_law FLa M LF (ok_pool FPl M) (ok_draw FDr M) (ok_lnames FNm M FDr bDr (PySem.W.mg_of X G aDr) FPi bPi (PySem.W.mg_of X G aPi)) (ok_lterm FLt M bLt (PySem.W.mg_of X G aLt) FDr bDr (PySem.W.mg_of X G aDr) FPi bPi (PySem.W.mg_of X G aPi) 4) (ok_counts FCo M bCo (PySem.W.mg_of X G aCo) FLi bLi (PySem.W.mg_of X G aLi) 4) (ok_bent FBe M bBe (PySem.W.mg_of X G aBe) FDr bDr (PySem.W.mg_of X G aDr) FLi bLi (PySem.W.mg_of X G aLi) 4)
      (ok_term FTm M TT GH FHa bHa (PySem.W.mg_of X G aHa) GX FNx bNx (PySem.W.mg_of X G aNx)) (ok_size FSz M GPa FPa bPa (PySem.W.mg_of X G aPa)) (ok_depth FDp GX FNx bNx (PySem.W.mg_of X G aNx)) (ok_Cells FCi WF GWi GAs) (ok_Calls FCa WF GWi GAs) (ok_hastick FHt M WF GWi)⟩
end Sc
open PySem PySem.W PyProof.Rows
set_option maxHeartbeats 0 in
theorem PySem.Challenge.cw_steadycalls_k03_whole_terms_holds : PySem.Challenge.rw_steadycalls_k03_whole_terms.Holds := by
  w_on; o_law; k_head; (case hw => w_witness2)
  k_fill
  refine L2.walk_of (l := PySem.Challenge.rw_steadycalls_k03_whole_terms) (n := 63) (k := 8) (x := "_law_script") (CX := fun _ => L2.CX0) (sp := fun w => Sc.spLaw _) rfl (by decide) rfl ⟨rfl, by decide, by decide⟩ (fun w h Y => PySem.W.kIn_of Y) ?F (fun _ _ a ns hl _ hS => ⟨a, ns, rfl, hS, hl, fun _ => rfl⟩) (fun _ _ _ _ _ h => h)
  case F =>
    intro w mg fa h KX G hmg
    refine' Sc.all_mk KX G hmg ?aWh ?lWh ?cWh ?kWh ?aVa ?lVa ?cVa ?kVa ?aNa ?lNa ?cNa ?kNa ?aTm ?lTm ?cTm ?kTm ?aHa ?lHa ?cHa ?kHa ?aCf ?lCf ?cCf ?kCf ?aIn ?lIn ?cIn ?kIn ?aNx ?lNx ?cNx ?kNx ?aPa ?lPa ?cPa ?kPa ?aWi ?lWi ?cWi ?kWi ?aSz ?lSz ?cSz ?kSz ?aDp ?lDp ?cDp ?kDp ?aCi ?lCi ?cCi ?kCi ?aCa ?lCa ?cCa ?kCa ?aHt ?lHt ?cHt ?kHt ?aAs ?lAs ?cAs ?kAs ?aPl ?lPl ?cPl ?kPl ?aDr ?lDr ?cDr ?kDr ?aPi ?lPi ?cPi ?kPi ?aNm ?lNm ?cNm ?kNm ?aLt ?lLt ?cLt ?kLt ?aLi ?lLi ?cLi ?kLi ?aCo ?lCo ?cCo ?kCo ?aBe ?lBe ?cBe ?kBe ?aLa ?lLa ?cLa ?kLa ?z_abs ?z_int ?z_len ?z_sum ?z_max ?z_min ?z_range ?z_isinstance ?z_bool ?z_str ?z_tuple ?z_list ?z_dict ?z_all ?z_sorted ?z_repr ?z_zip ?i_LONGEST_NAME ?i_MOST_ARGUMENTS ?i_MOST_DEEP ?i_MOST_PARTS ?vV ?lV ?rV ?sV ?vL ?lL ?kL ?yL ?eL ?oL
    (case aWh => k_is); (case lWh => k_is); (case cWh => k_is); (case kWh => k_is); (case aVa => k_is); (case lVa => k_is)
    (case cVa => k_is); (case kVa => k_is); (case aNa => k_is); (case lNa => k_is); (case cNa => k_is); (case kNa => k_is)
    (case aTm => k_is); (case lTm => k_is); (case cTm => k_is); (case kTm => k_is); (case aHa => k_is); (case lHa => k_is)
    (case cHa => k_is); (case kHa => k_is); (case aCf => k_is); (case lCf => k_is); (case cCf => k_is); (case kCf => k_is)
    (case aIn => k_is); (case lIn => k_is); (case cIn => k_is); (case kIn => k_is); (case aNx => k_is); (case lNx => k_is)
    (case cNx => k_is); (case kNx => k_is); (case aPa => k_is); (case lPa => k_is); (case cPa => k_is); (case kPa => k_is)
    (case aWi => k_is); (case lWi => k_is); (case cWi => k_is); (case kWi => k_is); (case aSz => k_is); (case lSz => k_is)
    (case cSz => k_is); (case kSz => k_is); (case aDp => k_is); (case lDp => k_is); (case cDp => k_is); (case kDp => k_is)
    (case aCi => k_is); (case lCi => k_is); (case cCi => k_is); (case kCi => k_is); (case aCa => k_is); (case lCa => k_is)
    (case cCa => k_is); (case kCa => k_is); (case aHt => k_is); (case lHt => k_is); (case cHt => k_is); (case kHt => k_is)
    (case aAs => k_is); (case lAs => k_is); (case cAs => k_is); (case kAs => k_is); (case aPl => k_is); (case lPl => k_is)
    (case cPl => k_is); (case kPl => k_is); (case aDr => k_is); (case lDr => k_is); (case cDr => k_is); (case kDr => k_is)
    (case aPi => k_is); (case lPi => k_is); (case cPi => k_is); (case kPi => k_is); (case aNm => k_is); (case lNm => k_is)
    (case cNm => k_is); (case kNm => k_is); (case aLt => k_is); (case lLt => k_is); (case cLt => k_is); (case kLt => k_is)
    (case aLi => k_is); (case lLi => k_is); (case cLi => k_is); (case kLi => k_is); (case aCo => k_is); (case lCo => k_is)
    (case cCo => k_is); (case kCo => k_is); (case aBe => k_is); (case lBe => k_is); (case cBe => k_is); (case kBe => k_is)
    (case aLa => k_is); (case lLa => k_is); (case cLa => k_is); (case kLa => k_is); (case z_abs => k_is); (case z_int => k_is)
    (case z_len => k_is); (case z_sum => k_is); (case z_max => k_is); (case z_min => k_is); (case z_range => k_is); (case z_isinstance => k_is)
    (case z_bool => k_is); (case z_str => k_is); (case z_tuple => k_is); (case z_list => k_is); (case z_dict => k_is); (case z_all => k_is)
    (case z_sorted => k_is); (case z_repr => k_is); (case z_zip => k_is); (case i_LONGEST_NAME => k_is); (case i_MOST_ARGUMENTS => k_is); (case i_MOST_DEEP => k_is)
    (case i_MOST_PARTS => k_is)
    case vV => k_is
    case lV => k_is
    case rV => exact .cons ⟨_, rfl⟩ (.cons ⟨_, rfl⟩ (.cons ⟨_, rfl⟩ .nil))
    case sV => decide +kernel
    case vL => k_is
    case lL => k_is
    case kL => first | k_is | exact ⟨⟨_, _, rfl, rfl⟩, ⟨_, _, rfl, rfl⟩, ⟨_, _, rfl, rfl⟩, ⟨_, _, rfl, rfl⟩, ⟨_, _, rfl, rfl⟩, trivial⟩
    case yL => first | rfl | decide +kernel
    case eL => exact fun z => Sc.lens_five z _ _ _ _ _ rfl rfl rfl rfl rfl ⟨_, rfl⟩ ⟨_, rfl⟩ ⟨_, rfl⟩ ⟨_, rfl⟩ ⟨_, rfl⟩
    case oL => first | rfl | decide +kernel


