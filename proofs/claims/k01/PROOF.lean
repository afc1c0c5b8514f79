import PyProof.Rows.All
import Wide.All
import OpenK.AllK
import Wide.FinOn
import HandS.ForExc
import HandS.Wide
import KE.KExcIs
import HandS.ExcInit
import HandS.ExcValue
import HandS.Defaults
import HandS.ExcField
import HandS.ExcIs
import HandS.Comp
import HandS.Iter
import HandS.IsInst
import HandS.Zip
import HandS.Walk
import HandS.More
import HandS.Style
import HandS.Dict
import HandS.HeadHook1
import PySem.Challenge.RW_idlewrites_k01_errors_made
set_option Elab.async false
set_option maxRecDepth 100000
namespace K1
open PySem L2
/-- while, by a word, a measure, and what stands behind it -/
theorem while_to {c : TT} {tb : TS} {D : Ends} {σ : L2.St} {H : Hp} (Pv Pe : L2.St → Hp → Prop) (μ : L2.St → Hp → Nat) (h0 : Pv σ H)
    (hs : (∀ σ H, Pe σ H → D.nx σ H) → ∀ σ H, Pv σ H → c σ H fun b H1 => if b = true then
      ∃ N : L2.St → Hp → Prop, (∀ σ' H', N σ' H' → ∃ m', m' < μ σ H ∧ (m' = μ σ' H' ∧ Pv σ' H')) ∧ tb { D with nx := N, ct := N, bk := D.nx } σ H1 else D.nx σ H1)
    (hd : ∀ σ H, Pe σ H → D.nx σ H) : tWhile c tb D σ H := by
  refine ⟨fun m σ H => m = μ σ H ∧ Pv σ H, ⟨_, rfl, h0⟩, ?_⟩
  rintro m σ H ⟨rfl, p⟩
  exact hs hd σ H p
def top (i : Nat) : Stmt := PySem.Challenge.pw_idlewrites_k01_errors_made.main.body.getD i (.Pass ⟨0, 0, 0, 0⟩)
abbrev sTake : Stmt := top 18
/-- the spring: its cells, how many are read, the great one at hand, the mix of the small ones, the turns -/
structure Spr (H : Hp) (st l : Addr) (cs : List Int) (n : Nat) : Prop where
  ex : ∃ (i k : Nat) (c h : Int), H st = some (.lst [.ref l, .int i, .int c, .int h, .int k]) ∧ i ≤ cs.length ∧ 0 ≤ c ∧ 0 ≤ h ∧ h < 2147483647 ∧ k ≤ n
  ls : H l = some (.lst (cs.map V.int))
  ln : cs.length ≤ 63
  ne : st ≠ l
def spTake : Sp := fun vs H Q _ => ∃ (st l : Addr) (cs : List Int) (n : Nat) (m : Int), vs = [.ref st, .int m] ∧ 0 < m ∧ m < 1000000 ∧ n < 1000000 ∧ Spr H st l cs n ∧
  ∀ (r : Int) (H' : Hp), 0 ≤ r → r < m → Spr H' st l cs (n + 1) → (∀ b, b ≠ st → H' b = H b) → Q (.int r) H'
theorem mixB {a b : Int} (h0 : 0 ≤ a) (h1 : a < 1000000007) (h2 : 0 ≤ b) (h3 : b ≤ 1000000) : (a + 31 * b).natAbs < 2 ^ 64 := by omega
structure TxtT (mg : Str → Option Value) : Prop where
  len : mg "len" = none
  abs : mg "abs" = none
  int : mg "int" = none
/-- between two turns of the loop -/
def WT (H : Hp) (st l : Addr) (cs : List Int) (m : Int) (t : Nat) (σ : L2.St) (H2 : Hp) : Prop := ∃ (i : Nat) (c h : Int) (v : Option V), σ = [some (.ref st), some (.int m), v, none, none, none] ∧
  H2 st = some (.lst [.ref l, .int i, .int c, .int h, .int (t + 1)]) ∧ i ≤ cs.length ∧ 0 ≤ c ∧ 0 ≤ h ∧ h < 2147483647 ∧ (∀ b, b ≠ st → H2 b = H b)
def left (n : Nat) : Option HO → Nat
  | some (.lst [_, .int i, _, _, _]) => n - i.toNat
  | _ => 0
theorem left_at {n i : Nat} {a c d e : V} {o : Option HO} (h : o = some (.lst [a, .int i, c, d, e])) : left n o = n - i := by
  rw [h]
  rfl
section
variable {P : Program} {w : World} {K : PySem.W.Frag} {mg : Str → Option Value} {base : Heap}
theorem scT : FnScope ["_law_state", "_law_many", "_law_cell", "_law_digit", "_law_one_here", "_law_two"] ["_law_state", "_law_many"] (defScope sTake) := ⟨rfl, rfl, rfl, by decide +kernel, rfl, by decide +kernel, by decide +kernel⟩
theorem ok_take {f : Addr} {fd : FuncData} (F : Fun K "_law_take" "_law_take" sTake f fd) (T : TxtT mg) : FnOk P w K mg base CX0 1 f fd ["_law_state", "_law_many"] spTake := by
  refine F.ok scT (fun vs H Q E h => ?_) (fun cdv A outer s H vs Q E hr h => ?_)
  · obtain ⟨st, l, cs, n, m, rfl, _⟩ := h
    rfl
  · obtain ⟨st, l, cs, n, m, rfl, hm0, hm1, hn, S, k⟩ := h
    obtain ⟨⟨i, t, c, h, hs, hi, hc, h0, h1, ht⟩, hl, hln, hne⟩ := S
    refine ⟨_, pss_cons (ps_asg (pe_op op_add (pe_ix ix_list (pv 0) pe_int (fun _ _ => rfl)) pe_int) (pg_sub (pv 0) pe_int set_list))
      (pss_cons (ps_while PassesOwn.never
          (pw_and (pt_cmpR op_eq (pe_ix ix_list (pv 0) pe_int (fun _ _ => rfl)) pe_int (nomark _))
            (pw_and1 (pt_cmpR op_lt (pe_ix ix_list (pv 0) pe_int (fun _ _ => rfl)) (pe_callB call_len_seq (by rfl) T.len PySem.boot_len (pa_cons (pe_ix ix_list (pv 0) pe_int (fun _ _ => rfl)) pa_nil)) (nomark _)))).pt
          (pss_cons (ps_set (i := 2) scT.nd rfl (.inl rfl) (pe_callB call_abs (by rfl) T.abs (by decide +kernel) (pa_cons (pe_ix ix_list (pe_ix ix_list (pv 0) pe_int (fun _ _ => rfl)) (pe_ix ix_list (pv 0) pe_int (fun _ _ => rfl)) (fun _ _ => rfl)) pa_nil)))
          (pss_cons (ps_asg (pe_op op_add (pe_ix ix_list (pv 0) pe_int (fun _ _ => rfl)) pe_int) (pg_sub (pv 0) pe_int set_list))
          (pss_one (ps_if (pt_cmpR op_ge (pv 2) (pe_op op_pow pe_int pe_int) (nomark _))
            (pss_one (ps_asg (pv 2) (pg_sub (pv 0) pe_int set_list)))
            (pss_one (ps_asg (pe_op op_mod (pe_callTy call_int1 (by rfl) T.int (by decide +kernel) (pa_cons (pe_op op_add (pe_op op_add (pe_op op_mul (pe_ix ix_list (pv 0) pe_int (fun _ _ => rfl)) pe_int) (pv 2)) pe_int) pa_nil)) pe_int) (pg_sub (pv 0) pe_int set_list))))))))
      (pss_cons (ps_if (pt_cmpR op_gt (pe_ix ix_list (pv 0) pe_int (fun _ _ => rfl)) pe_int (nomark _))
          (pss_cons (ps_set (i := 3) scT.nd rfl (.inl rfl) (pe_op op_mod (pe_callTy call_int1 (by rfl) T.int (by decide +kernel) (pa_cons (pe_ix ix_list (pv 0) pe_int (fun _ _ => rfl)) pa_nil)) (pv 1)))
          (pss_cons (ps_asg (pe_op op_fdivW (pe_ix ix_list (pv 0) pe_int (fun _ _ => rfl)) (pv 1)) (pg_sub (pv 0) pe_int set_list))
          (pss_one (ps_ret (pv 3)))))
          pss_nil)
      (pss_cons (ps_set (i := 4) scT.nd rfl (.inl rfl) (pe_op op_mod (pe_callTy call_int1 (by rfl) T.int (by decide +kernel) (pa_cons (pe_op op_pow (pe_op op_add (pe_op op_add (pe_ix ix_list (pv 0) pe_int (fun _ _ => rfl)) (pe_op op_mul pe_int (pe_ix ix_list (pv 0) pe_int (fun _ _ => rfl)))) pe_int) pe_int) pa_nil)) pe_int))
      (pss_cons (ps_set (i := 5) scT.nd rfl (.inl rfl) (pe_op op_mod (pe_callTy call_int1 (by rfl) T.int (by decide +kernel) (pa_cons (pe_op op_pow (pe_op op_add (pv 4) (pe_op op_mul pe_int (pe_ix ix_list (pv 0) pe_int (fun _ _ => rfl)))) pe_int) pa_nil)) pe_int))
      (pss_one (ps_ret (pe_op op_mod (pe_callTy call_int1 (by rfl) T.int (by decide +kernel) (pa_cons (pe_op op_fdiv (pv 5) pe_int) pa_nil)) (pv 1)))))))), ?_⟩
    -- state[4] = state[4] + 1
    refine ⟨_, rfl, _, _, _, _, rfl, rfl, SqL.of hs, rfl, _, _, rfl, rfl, _, rfl, _, _, _, _, rfl, rfl, hs, rfl, ?_⟩
    -- the while
    refine while_to (WT H st l cs m t) (WT H st l cs m t) (fun _ H2 => left cs.length (H2 st)) ⟨i, c, h, _, rfl, upd_same, hi, hc, h0, h1, fun b hb => upd_ne hb⟩ ?_ ?_
    · intro hd
      rintro σ H2 ⟨i, c, h, v, rfl, hs2, hi, hc, h0, h1, hk⟩
      have hl2 : H2 l = some (.lst (cs.map V.int)) := by rw [hk l hne.symm]; exact hl
      refine ⟨_, rfl, _, _, _, _, rfl, rfl, SqL.of hs2, rfl, rfl, _, rfl, ite2 (fun e => ?_) fun e => ?_⟩
      · have ec : c = 0 := by simpa using e
        subst ec
        refine ⟨_, rfl, _, _, _, _, rfl, rfl, SqL.of hs2, rfl, _, rfl, _, _, _, _, rfl, rfl, SqL.of hs2, rfl, _, _, rfl, .inl (SqL.of hl2), _, _, rfl, rfl, _, rfl, ite2 (fun e2 => ?_) fun e2 => ?_⟩
        · have hlt : i < cs.length := by
            have := of_decide_eq_true e2
            rw [List.length_map] at this
            omega
          have hz : (cs.map V.int)[i]? = some (.int cs[i]) := by rw [List.getElem?_map, List.getElem?_eq_getElem hlt]; rfl
          have eL : left cs.length (H2 st) = cs.length - i := left_at hs2
          refine ⟨fun σ' H' => WT H st l cs m t σ' H' ∧ left cs.length (H' st) < left cs.length (H2 st), fun σ' H' n => ⟨_, n.2, rfl, n.1⟩, ?_⟩
          -- cell = abs(state[0][state[1]])
          refine ⟨_, rfl, _, _, _, _, rfl, rfl, SqL.of hs2, rfl, _, rfl, _, _, _, _, rfl, rfl, SqL.of hs2, rfl, _, _, _, _, rfl, rfl, SqL.of hl2, atI_nat hz, _, rfl, ?_⟩
          -- state[1] = state[1] + 1
          refine ⟨_, rfl, _, _, _, _, rfl, rfl, SqL.of hs2, rfl, _, _, rfl, rfl, _, rfl, _, _, _, _, rfl, rfl, hs2, rfl, ?_⟩
          have hup : ∀ o b, b ≠ st → upd H2 st o b = H b := fun o b hb => by rw [upd_ne hb]; exact hk b hb
          have ha : 0 ≤ (if cs[i] < 0 then -cs[i] else cs[i]) := by split <;> omega
          -- if cell >= 10 ** 18
          refine ⟨_, rfl, _, _, rfl, rfl, ⟨by decide, by decide, by decide⟩, _, _, rfl, rfl, _, rfl, ite2 (fun e3 => ?_) fun e3 => ?_⟩
          · refine ⟨_, rfl, _, rfl, _, _, _, _, rfl, rfl, upd_same, rfl, ⟨⟨i + 1, _, h, _, rfl, upd_same, hlt, ha, h0, h1, fun b hb => by rw [upd_ne hb]; exact hup _ b hb⟩, ?_⟩⟩
            rw [eL]
            exact Nat.lt_of_le_of_lt (Nat.le_of_eq (left_at (i := i + 1) upd_same)) (by omega)
          · refine ⟨_, rfl, _, _, _, _, rfl, rfl, SqL.of upd_same, rfl, _, _, rfl, rfl, .inr (by decide), _, rfl, _, _, rfl, rfl, _, _, rfl, rfl, .inl ⟨_, rfl, _, _, rfl, rfl, (by show (0 : Int) < 2147483647; decide), _, rfl, _, _, _, _, rfl, rfl, upd_same, rfl, ?_⟩⟩
            refine ⟨⟨i + 1, 0, _, _, rfl, upd_same, hlt, Int.le_refl _, Int.emod_nonneg _ (by decide), Int.emod_lt_of_pos _ (by decide), fun b hb => by rw [upd_ne hb]; exact hup _ b hb⟩, ?_⟩
            rw [eL]
            exact Nat.lt_of_le_of_lt (Nat.le_of_eq (left_at (i := i + 1) upd_same)) (by omega)
        · exact hd _ _ ⟨i, 0, h, v, rfl, hs2, hi, hc, h0, h1, hk⟩
      · exact hd _ _ ⟨i, c, h, v, rfl, hs2, hi, hc, h0, h1, hk⟩
    · rintro σ H2 ⟨i, c, h, v, rfl, hs2, hi, hc, h0, h1, hk⟩
      have mk : ∀ (c' : Int) H', 0 ≤ c' → H' st = some (.lst [.ref l, .int i, .int c', .int h, .int (t + 1)]) → (∀ b, b ≠ st → H' b = H b) → Spr H' st l cs (n + 1) := fun c' H' hc' e1 e2 =>
        ⟨⟨i, t + 1, c', h, e1, hi, hc', h0, h1, by omega⟩, by rw [e2 l hne.symm]; exact hl, hln, hne⟩
      -- if state[2] > 0
      refine ⟨_, rfl, _, _, _, _, rfl, rfl, SqL.of hs2, rfl, _, _, rfl, rfl, _, rfl, ite2 (fun e => ?_) fun e => ?_⟩
      · have hw : CDivW c m := wide_div (b := 64) hm0 (by omega) (by decide) (by decide)
        refine ⟨_, rfl, _, _, _, _, rfl, rfl, SqL.of hs2, rfl, .inl ⟨_, rfl, _, rfl, _, _, rfl, rfl, hm0, ?_⟩⟩
        refine ⟨_, rfl, _, _, _, _, rfl, rfl, SqL.of hs2, rfl, _, rfl, _, _, rfl, rfl, hw, _, rfl, _, _, _, _, rfl, rfl, hs2, rfl, _, rfl, ?_⟩
        exact k _ _ (Int.emod_nonneg _ (by omega)) (Int.emod_lt_of_pos _ hm0) (mk _ _ (Int.ediv_nonneg hc (by omega)) upd_same fun b hb => by rw [upd_ne hb]; exact hk b hb) fun b hb => by rw [upd_ne hb]; exact hk b hb
      · -- the mix
        refine ⟨_, rfl, _, _, _, _, rfl, rfl, SqL.of hs2, rfl, _, rfl, _, _, _, _, rfl, rfl, SqL.of hs2, rfl, _, _, rfl, rfl, .inl (by decide), _, _, rfl, rfl, _, _, rfl, rfl, _, _, rfl, rfl, ⟨by decide, by decide, by omega⟩, .inl ⟨_, rfl, _, _, rfl, rfl, (by show (0 : Int) < 1000000007; decide), ?_⟩⟩
        refine ⟨_, rfl, _, rfl, _, _, _, _, rfl, rfl, SqL.of hs2, rfl, _, _, rfl, rfl, .inl (by decide), _, _, rfl, rfl, _, _, rfl, rfl, ⟨by decide, by decide, ?_⟩, .inl ⟨_, rfl, _, _, rfl, rfl, (by show (0 : Int) < 998244353; decide), ?_⟩⟩
        · exact mixB (Int.emod_nonneg _ (by decide)) (Int.emod_lt_of_pos _ (by decide)) (by omega) (by omega)
        refine ⟨_, rfl, _, _, rfl, rfl, ⟨by decide, by decide⟩, .inl ⟨_, rfl, _, rfl, _, _, rfl, rfl, hm0, ?_⟩⟩
        exact k _ _ (Int.emod_nonneg _ (by omega)) (Int.emod_lt_of_pos _ hm0) (mk _ _ hc hs2 hk) hk
end
end K1
set_option maxRecDepth 100000
set_option maxHeartbeats 4000000
/-! errors of the program as values: made by position and by name, their field read, isinstance of them -/
namespace PySem
namespace KX
open Builtin Builtin.ObjectAttr HandSPX
/-! An error's class called with keywords, too (`C(field=x)`): as the library's road for arguments by position, the keywords carried through to the class's own `__init__`. -/
section
variable {prog : Program} {w : World} {A : Around} {R : Result → Shared → Prop} {X : Value → Shared → Prop} {hp : Heap} {gs : Array GenState} {dr : Drawn} {tk : Nat} {os : OsState} {nm qn : Str} {C N : Addr} {bs ms mB : List Value} {dct : Bool}
  {sn : List Str} {sub : List Value} {ab : Bool} {col : Option Bool} {dd : Option Addr} {z0 z1 z2 z3 z5 : Option Value} {B nI iI : String} {kw : List (Str × Value)} {pos : List Value} {fI : Addr}
abbrev Cls0 (hp : Heap) (C : Addr) (nm qn : Str) (N : Addr) (bs ms : List Value) (dct : Bool) (sn : List Str) (sub : List Value) (ab : Bool) (col : Option Bool) (dd : Option Addr) (z0 z1 z2 z3 z5 : Option Value) (nI : String) : Prop :=
  hp.get? C = some (excClassObj nm qn C N bs ms dct sn sub ab col dd z0 z1 z2 z3 z5 nI)
theorem new_looked (F : ExcBaseFacts B nI iI mB) (same : ∀ T : String, ms.contains (.type T) = mB.contains (.type T)) {Q : Unit → Shared → Prop} {M : Model} (cls : Cls0 hp C nm qn N bs ms dct sn sub ab col dd z0 z1 z2 z3 z5 nI)
    (q : Q () ⟨hp, gs, dr, tk, os⟩) : wpAny M A (checkBuiltinCall nI ⟨.ref C :: pos, kw⟩) Q X ⟨hp, gs, dr, tk, os⟩ := by
  have inB : (Value.ref C :: ms).contains (.type B) = true := by
    rw [List.contains_cons, same, F.hasB]
    exact Bool.or_true _
  have star := F.noStar
  simp only [checkBuiltinCall, F.newRow, F.newKind, F.newSplit]
  repeat (first
    | refine wpAny_loadPart_at cls ?_
    | (refine wpAny_isSubtype_exc cls ?_; rw [inB])
    | refine wpAny_staticBase_exc cls ?_
    | refine wpAny_madeBy_exc cls ?_
    | simp only [bne_self_eq_false, Bool.false_eq_true, if_false]
    | wp_step)
  exact q
theorem type_looked {Q : Unit → Shared → Prop} {M : Model} (cls : Cls0 hp C nm qn N bs ms dct sn sub ab col dd z0 z1 z2 z3 z5 nI) (q : Q () ⟨hp, gs, dr, tk, os⟩) : wpAny M A (checkBuiltinCall "type.__call__" ⟨.ref C :: pos, kw⟩) Q X ⟨hp, gs, dr, tk, os⟩ := by
  have known := tc_sub
  have isT : (⟨hp, gs, dr, tk, os⟩ : Shared).TypeIs (.ref C) "type" := ⟨_, cls, rfl⟩
  simp only [checkBuiltinCall, tc_split, tc_kind]
  repeat (any_goals (first
    | assumption
    | with_reducible refine wpAny_loadPart_at cls ?_
    | with_reducible refine wpAny_onRaise ?_
    | with_reducible refine wpAny_map ?_
    | wp_step))
theorem new_made (F : ExcBaseFacts B nI iI mB) (same : ∀ T : String, ms.contains (.type T) = mB.contains (.type T)) (cls : Cls0 hp C nm qn N bs ms dct sn sub ab col dd z0 z1 z2 z3 z5 nI)
    (q : R (.ok (.ret (.ref (hp.objs.size + 1)))) ⟨(hp.push (W.kdv_tup pos)).push (excO C hp.objs.size), gs, dr, tk, os⟩) (few : pos.length ≤ sizeLine) : codeAny (model prog w) A (.builtin nI ⟨.ref C :: pos, kw⟩) R ⟨hp, gs, dr, tk, os⟩ := by
  have closed := F.ends
  have inB : (Value.ref C :: ms).contains (.type B) = true := by
    rw [List.contains_cons, same, F.hasB]
    exact Bool.or_true _
  have noA : (Value.ref C :: ms).contains (.type "AttributeError") = false := by
    rw [List.contains_cons, same, F.noAttr] <;> rfl
  have noN : (Value.ref C :: ms).contains (.type "NameError") = false := by
    rw [List.contains_cons, same, F.noName] <;> rfl
  refine codeAny_builtinAt F.entry (?_ : wpAt _ _ _ _ _ _ _)
  unfold «BaseException.__new__»
  refine wpAt_bind (?_ : wpAt _ _ _ (stack >>= _) _ _ _)
  refine wpAt_bind (wpAt_stack fun _ _ => wpAt_of_wpAny ?_)
  wp_walk
  refine wpAt_of_wpAny ?_
  rw [F.owner]
  repeat (first
    | with_reducible refine wpAny_madeHere_exc F.canon cls ?_
    | with_reducible refine wpAny_loadPart_at cls ?_
    | (with_reducible refine wpAny_isSubtype_exc cls ?_; first | rw [inB] | rw [noA] | rw [noN])
    | wp_step)
  refine (?_ : R _ _)
  rw [Heap.size_push]
  exact q
theorem type_done (F : ExcBaseFacts B nI iI mB) (same : ∀ T : String, ms.contains (.type T) = mB.contains (.type T)) (cls : Cls0 hp C nm qn N bs ms dct sn sub ab col dd z0 z1 z2 z3 z5 nI) {Q : Fin → Shared → Prop}
    (find : W.Looks (model prog w) hp (typeLookup (.ref C) "__init__") (some (.ref fI))) (bind : ∀ self, W.Looks (model prog w) hp (bindSpecial (.ref fI) self) (.ref fI, [self])) (few : pos.length ≤ sizeLine)
    (q : codeAny (model prog w) A (.call (.ref fI) ⟨.ref (hp.objs.size + 1) :: pos, kw⟩) (fun r s' => match r with
      | .ok (.ret u) => u = .none ∧ Q (.done (.ret (.ref (hp.objs.size + 1)))) s'
      | .ok _ => False
      | .error er => X er s') ⟨(hp.push (W.kdv_tup pos)).push (excO C hp.objs.size), gs, dr, tk, os⟩) : wpAny (model prog w) A («type.__call__» ⟨.ref C :: pos, kw⟩) Q X ⟨hp, gs, dr, tk, os⟩ := by
  have keep : ∀ b o, hp.get? b = some o → ((hp.push (W.kdv_tup pos)).push (excO C hp.objs.size)).get? b = some o := fun _ _ e => Heap.get?_push_of_some _ (Heap.get?_push_of_some _ e)
  have cls2 := keep _ _ cls
  have there : ((hp.push (W.kdv_tup pos)).push (excO C hp.objs.size)).get? (hp.objs.size + 1) = some (excO C hp.objs.size) := by heap_get
  have inC : (Value.ref C :: ms).contains (.ref C) = true := by
    rw [List.contains_cons]
    simp
  repeat (first
    | with_reducible refine wpAny_loadPart_at cls ?_
    | with_reducible refine wpAny_madeBy_exc cls ?_
    | wp_step)
  refine codeAny_call_builtin_code (Code.quiet_builtin _ F.quiet) (new_looked F same cls (new_made F same cls (?_ : wpAny _ _ _ _ _ _) few))
  unfold isInstance
  repeat (first
    | with_reducible refine wpAny_loadPart_at there ?_
    | (with_reducible refine wpAny_isSubtype_exc cls2 ?_; rw [inC])
    | wp_step)
  have found := find.keeps keep
  have bound := (bind (.ref (hp.objs.size + 1))).keeps keep
  refine (?_ : wpAny _ _ (typeLookup (.ref C) _) _ _ _)
  refine found.at ?_
  refine wpAny_holding (wpAny_bind (bound.at ?_))
  refine wpAny_bind (wpAny_call (codeAny_mono q fun r s' back => ?_))
  match r, back with
  | .error _, back => exact back
  | .ok (.ret _), back =>
    obtain ⟨rfl, back⟩ := back
    first
      | exact wpAny_pure (wpAny_pure back)
      | (wp_walk; exact back)
  | .ok .next, back => exact back.elim
  | .ok .brk, back => exact back.elim
  | .ok .cont, back => exact back.elim
/-- C(.., k = v), C an error of the program whose class has an `__init__` of its own at fI -/
theorem call_kw (F : ExcBaseFacts B nI iI mB) (same : ∀ T : String, ms.contains (.type T) = mB.contains (.type T)) (cls : Cls0 hp C nm qn N bs ms dct sn sub ab col dd z0 z1 z2 z3 z5 nI)
    (find : W.Looks (model prog w) hp (typeLookup (.ref C) "__init__") (some (.ref fI))) (bind : ∀ self, W.Looks (model prog w) hp (bindSpecial (.ref fI) self) (.ref fI, [self])) (few : pos.length ≤ sizeLine)
    (q : codeAny (model prog w) (A.under (.builtin "type.__call__" ⟨.ref C :: pos, kw⟩)) (.call (.ref fI) ⟨.ref (hp.objs.size + 1) :: pos, kw⟩) (W.InitBack (hp.objs.size + 1) R) ⟨(hp.push (W.kdv_tup pos)).push (excO C hp.objs.size), gs, dr, tk, os⟩) :
    codeAny (model prog w) A (.call (.ref C) ⟨pos, kw⟩) R ⟨hp, gs, dr, tk, os⟩ := by
  have known1 := tc_lookup
  have known2 := tc_bind (.ref C)
  have isT : (⟨hp, gs, dr, tk, os⟩ : Shared).TypeIs (.ref C) "type" := ⟨_, cls, rfl⟩
  refine codeAny_of_tree (?_ : wpAny _ _ (callAny (.ref C) _) _ _ _)
  repeat (any_goals (first
    | assumption
    | with_reducible refine wpAny_loadPart_at cls ?_
    | wp_step))
  refine ⟨rfl, codeAny_call_builtin_at (Code.quiet_builtin _ (by decide +kernel)) entry_typeCall (type_looked cls (type_done F same cls find bind few (codeAny_mono q fun r s' back => ?_)))⟩
  match r, back with
  | .error _, back => exact back
  | .ok (.ret _), back => exact back
  | .ok .next, back => exact back
  | .ok .brk, back => exact back
  | .ok .cont, back => exact back
end
end KX
end PySem
namespace K1
open PySem PySem.Spec PyProof.Rows L2
/-- C(e, .., k = v, ..), C an error with an __init__ of its own, kept as a value -/
def tErr (C : Addr) (n m : Nat) (sp : Sp) (gV : List V → List V → List V) (ta tk : TA) : TE := fun σ H Q => ta σ H fun vs H1 => tk σ H1 fun zs H2 => vs.length = n ∧ zs.length = m ∧ vs.length ≤ 1000 ∧
  ∀ a, H2 a = none → sp (gV (.ref a :: vs) zs) (upd H2 a (exo a C none)) (fun v H3 => v = .non ∧ Q (.ref a) H3) (fun _ _ _ => False)
section
variable {X : Cx} {CX : CXT} {k n : Nat} {fI C : Addr} {fd : FuncData} {ps ks : List Str} {sp : Sp} {x : Str} {p pos : Pos} {e : Expr} {es : List Expr} {kws : List Keyword} {ta tk : TA} {g : List Value → List Value → List Value} {gV : List V → List V → List V}
theorem run_err {pins : List (Addr × Obj)} {σ : L2.St} {H : Hp} {s : Shared} {Q : VK} {us ws : List Value} {vs zs : List V} (T : OexC X.K C) (iC : PySem.W.findIn X.K (.ref C) "__init__" = some (some (.ref fI)))
    (tI : PySem.W.typeIn X.K (.ref fI) = some (.type "function")) (F1 : FnOk X.prog X.w X.K X.mg X.base CX k fI fd ps sp) (hr : Room (k + 1) X.A) (hb : KBn X.K fd ps (n + 1) ks g gV) (hx : Passes CX X (fun _ _ _ => False))
    (I1 : Inv X pins σ H s) (r1 : Vals vs us) (rz : Vals zs ws) (l1 : vs.length = n) (l2 : zs.length = ks.length) (hz : vs.length ≤ 1000)
    (h : ∀ a, H a = none → sp (gV (.ref a :: vs) zs) (upd H a (exo a C none)) (fun v H3 => v = .non ∧ Q (.ref a) H3) (fun _ _ _ => False)) :
    wpAny (model X.prog X.w) X.A (call (.ref C) us (ks.zip ws)) (EP X pins σ Q) X.xe s := by
  obtain ⟨nm, q, N, bs, bm, sn, sub, ab, col, dd, k0, k1, k2, k3, k5, hC, hbm⟩ := T.cls
  obtain ⟨hp, gg, dr, tt, os⟩ := s
  have up := Nat.le_succ hp.objs.size
  have hn : H (hp.objs.size + 1) = none := I1.hok.fresh up
  have hq := h (hp.objs.size + 1) hn
  have ob : ((hp.push (PySem.W.kdv_tup us)).push (PySem.HandSPX.excO C hp.objs.size)).get? (hp.objs.size + 1) = some (PySem.HandSPX.excO C hp.objs.size) := by heap_get
  have I2 : Inv X pins σ (upd H (hp.objs.size + 1) (exo (hp.objs.size + 1) C none)) ⟨(hp.push (PySem.W.kdv_tup us)).push (PySem.HandSPX.excO C hp.objs.size), gg, dr, tt, os⟩ :=
    I1.laid (fun b o z => Heap.get?_push_of_some _ (Heap.get?_push_of_some _ z)) up (exo_ok ob)
  have ru : Vals (V.ref (hp.objs.size + 1) :: vs) (Value.ref (hp.objs.size + 1) :: us) := .cons rfl r1
  have ra := hb.rel ru rz
  have e1 : (Value.ref (hp.objs.size + 1) :: us).length = n + 1 := ru.length.symm.trans (congrArg Nat.succ l1)
  have e2 : ws.length = ks.length := rz.length.symm.trans l2
  have us0 : us.length ≤ sizeLine := by rw [← Paired.length r1, sizeLine_eq]; omega
  refine wpAny_call (PySem.KX.call_kw F.excBase_ValueError (fun Y => PySem.HandSPX.refsVE_contains Y bm hbm) (I1.kIn _ _ hC) (PySem.W.looks_findIn I1.kIn iC) (fun self => PySem.W.bind_fn I1.kIn self tI) us0 ?_)
  refine codeAny_mono (F1.run _ X.stack _ _ ⟨Value.ref (hp.objs.size + 1) :: us, ks.zip ws⟩ (g (Value.ref (hp.objs.size + 1) :: us) ws) _ _ (fun _ _ _ => False) (hr.make C us (ks.zip ws)) (I2.env0.make C us (ks.zip ws)) (hb.to _ _ ws I2.kIn e1 e2) ra hq) fun r s' z => ?_
  cases r with
  | error er => exact hx pins σ _ _ er s' I2 z
  | ok fl =>
    cases fl with
    | ret u =>
      obtain ⟨v, H', I3, rv, ev, q3⟩ := I2.after z
      subst ev
      exact ⟨rv, .ref (hp.objs.size + 1), H', I3, rfl, q3⟩
    | _ => exact (show False from z).elim
theorem pe_err (T : OexC X.K C) (iC : PySem.W.findIn X.K (.ref C) "__init__" = some (some (.ref fI))) (tI : PySem.W.typeIn X.K (.ref fI) = some (.type "function")) (F1 : FnOk X.prog X.w X.K X.mg X.base CX k fI fd ps sp)
    (hr : Room (k + 1) X.A) (hb : KBn X.K fd ps (n + 1) [] g gV) (hx : Passes CX X (fun _ _ _ => False)) (hg : Gl X x) (hm : X.mg x = some (.ref C)) (ha : PA X (e :: es) ta) (hdb : (x == ("__debug__" : Str)) = false := by decide)
    (he : starEach (e :: es) X.env = (false, eval e X.env) :: starEach es X.env := by rfl) (hpl : (backTo pos (starEach es X.env)).any (·.1) = false := by rfl) : PE X (.Call (.Name x p) (e :: es) [] pos) (tErr C n 0 sp gV ta tNil) := by
  refine ⟨fun pins s σ H Q I h => wpAny_Call_Name_kw (ld_glob I hg hm ?_ hdb)⟩
  refine PySem.W.callWith_K (h₀ := X.base) I.ok.mod.kin T.kC (thn (ha.run pos pins s σ H _ I h) fun us s1 z => ?_) he hpl
  obtain ⟨vs, H1, I1, r1, l1, l2, hz, q⟩ := z
  exact ⟨I1.kIn, run_err (ws := []) (ks := []) T iC tI F1 hr hb hx I1 r1 .nil l1 l2 hz q⟩
theorem pe_errK (T : OexC X.K C) (iC : PySem.W.findIn X.K (.ref C) "__init__" = some (some (.ref fI))) (tI : PySem.W.typeIn X.K (.ref fI) = some (.type "function")) (F1 : FnOk X.prog X.w X.K X.mg X.base CX k fI fd ps sp)
    (hr : Room (k + 1) X.A) (hb : KBn X.K fd ps 1 ks g gV) (hx : Passes CX X (fun _ _ _ => False)) (hg : Gl X x) (hm : X.mg x = some (.ref C)) (hkw : PK X kws tk) (hdb : (x == ("__debug__" : Str)) = false := by decide)
    (hall : (backToKw pos (keywordEach kws X.env)).all (·.1.isSome) = true := by rfl) (hks : (backToKw pos (keywordEach kws X.env)).filterMap (·.1) = ks := by rfl)
    (hpl : ((backTo pos (starEach [] X.env)).any (·.1) || (backToKw pos (keywordEach kws X.env)).any (·.1.isNone)) = false := by rfl) : PE X (.Call (.Name x p) [] kws pos) (tErr C 0 ks.length sp gV tNil tk) := by
  refine ⟨fun pins s σ H Q I h => wpAny_Call_Name_kw (ld_glob I hg hm ?_ hdb)⟩
  refine PySem.W.callWith_KW0 (h₀ := X.base) I.ok.mod.kin T.kC hall (thn (hkw.run pos pins s σ H _ I h) fun ws s1 z => ?_) hpl
  obtain ⟨zs, H1, I1, rz, l1, l2, hz, q⟩ := z
  rw [hks]
  exact ⟨I1.kIn, run_err (us := []) T iC tI F1 hr hb hx I1 .nil rz l1 l2 hz q⟩
/-- C(), C an error without an __init__ of its own -/
theorem pe_err0 {bmB : List Value} {B newId initId : String} (F : ExcBaseFacts B newId initId bmB) (q : PySem.W.excIn X.K C bmB newId = true) (hm : X.mg x = some (.ref C)) (kC : PySem.W.keepIn X.K (.ref C) = true) (hg : Gl X x)
    (hdb : (x == ("__debug__" : Str)) = false := by decide) : PE X (.Call (.Name x p) [] [] pos) (fun σ H Q => ∀ a, H a = none → Q (.ref a) (upd H a (exo a C none))) := by
  refine ⟨fun pins s σ H Q I h => wpAny_Call_Name_kw (ld_glob I hg hm ?_ hdb)⟩
  refine PySem.W.callWith_K0 I.kIn kC ?_
  obtain ⟨bm, N, nm, qn, bs, hdct, sn, sub, ab, col, dd, k0, k1, k2, k3, k5, mN, hC, hN, hni, T⟩ := exc_obj I.kIn q
  refine wpAny_call_exc_subT F T hC hN hni (fun h' a made => ?_) (by show 0 ≤ sizeLine; rw [sizeLine_eq]; omega)
  have na : H a = none := I.hok.gone made.new
  obtain ⟨t, ht, _, _⟩ := made.there
  exact ⟨.ref a, _, I.laidN made.keeps made.new na (exo_ok ht), rfl, h a na⟩
/-- what stands at an error: itself, and its dict if it has one -/
theorem err_inst {pins : List (Addr × Obj)} {σ : L2.St} {H : Hp} {s : Shared} {a : Addr} {d : Option Addr} (I : Inv X pins σ H s) (ha : H a = some (exo a C d)) (hd : ∀ b, d = some b → ∃ fs, H b = some (exd b fs)) :
    ∃ ox od, PySem.W.InstAt s.heap a ox C od ∧ (∀ b fs, d = some b → H b = some (exd b fs) → ∃ o, od = some o ∧ ∃ mA : Str → Option Value, (∀ f, RelO (fs.lookup f) (mA f)) ∧ ∀ name, PySem.W.lookIn name o = some (mA name)) := by
  obtain ⟨t1, ho⟩ := exo_at I.hok ha
  cases d with
  | none => exact ⟨_, none, ⟨ho, rfl, rfl, trivial⟩, fun b fs e => nomatch e⟩
  | some b =>
    obtain ⟨fs, hb⟩ := hd b rfl
    obtain ⟨mA, hns, rel⟩ := exd_at I.hok hb
    obtain ⟨od, hod, hl⟩ := lookIn_ns hns
    refine ⟨_, some od, ⟨ho, rfl, rfl, hod⟩, fun b' fs' e hb' => ?_⟩
    cases e
    obtain ⟨mA', hns', rel'⟩ := exd_at I.hok hb'
    obtain ⟨od', hod', hl'⟩ := lookIn_ns hns'
    rw [hod] at hod'
    cases hod'
    exact ⟨od, rfl, mA', rel', hl'⟩
/-- e.f, e an error with a field f -/
def tEfl (K : PySem.W.Frag) (n : Str) (te : TE) : TE := fun σ H Q => te σ H fun x H1 => ∃ (a C b : Addr) (fs : List (Str × V)) (v : V), x = .ref a ∧ XfC K C ∧ PySem.W.findIn K (.ref C) n = some none ∧
  H1 a = some (exo a C (some b)) ∧ H1 b = some (exd b fs) ∧ fs.lookup n = some v ∧ Q v H1
theorem pe_efl {te : TE} {n : Str} (he : PE X e te) (hb : attributeBase e n X.env (eval e X.env) = eval e X.env := by rfl) : PE X (.Attribute e n pos) (tEfl X.K n te) := by
  refine ⟨fun pins s σ H Q I h => attr_of hb (thn (he.run pins s σ H _ I h) fun u s1 hh => ?_)⟩
  obtain ⟨x, H1, I1, rx, a, C, b, fs, v, rfl, T, hno, ha, hbb, l, q⟩ := hh
  obtain rfl : u = Value.ref a := rx
  obtain ⟨ox, od, J, k⟩ := err_inst I1 ha fun b' e' => ⟨fs, by cases e'; exact hbb⟩
  obtain ⟨o, rfl, mA, rel, look⟩ := k b fs rfl hbb
  obtain ⟨u, hu, ru⟩ := RelO.some_of (v := v) (o := mA n) (by rw [← l]; exact rel n)
  exact PySem.HandSPX.exc_get I1.kIn J T.ga T.gg T.exC (PySem.W.findObj_own T.hdC hno rfl (by rw [look, hu])) (handed_of ru) ⟨v, H1, I1.tok _, ru, q⟩
/-- isinstance(e, c), e an error -/
def rIsErr (K : PySem.W.Frag) : List V → Hp → VK → Prop := fun xs H Q => ∃ (a D : Addr) (d : Option Addr) (c : V) (cv : Value) (b : Bool), xs = [.ref a, c] ∧ H a = some (exo a D d) ∧ (∀ b, d = some b → ∃ fs, H b = some (exd b fs)) ∧
  ExcC K D ∧ (∀ u, RelV c u → u = cv) ∧ PySem.W.kitOne K (.ref D) cv = some b ∧ Q (.bl b) H
theorem call_isErr : CallR X (.builtin "isinstance") (rIsErr X.K) := by
  intro pins s σ H xs us Q I r h
  obtain ⟨a, D, d, c, cv, b, rfl, ha, hd, T, hcv, e, q⟩ := h
  match us, r with
  | [_, u], .cons rx (.cons rt .nil) =>
    cases rx
    obtain rfl := hcv u rt
    obtain ⟨ox, od, J, _⟩ := err_inst I ha hd
    have hc : (PySem.W.clsIn X.K D).isSome = true := by
      obtain ⟨cd, hc, _⟩ := PySem.W.any_some T.hd
      rw [hc]
      rfl
    exact PySem.W.kia_one (PySem.W.kitx_exc (x := a) (ox := ox) (od := od) hc T.hg T.hk T.hs T.ha T.hn T.ht T.hm) I.kIn J e (fun z => nomatch z) fun tk => ⟨.bl b, H, I.kept (t' := tk) fun _ _ z => z, rfl, q⟩
end
end K1
set_option maxRecDepth 100000
set_option maxHeartbeats 4000000
namespace K1
open PySem L2
theorem PE.weak {X : Cx} {e : Expr} {t t' : TE} (h : PE X e t) (k : ∀ σ H Q, t' σ H Q → t σ H Q) : PE X e t' := ⟨fun pins s σ H Q I q => h.run pins s σ H Q I (k σ H Q q)⟩
/-- an error of the class at C stands at a, its one field f holds v -/
structure ErrAt (H : Hp) (a C d : Addr) (f : Str) (v : V) : Prop where
  ob : H a = some (exo a C (some d))
  dc : H d = some (exd d [(f, v)])
/-- self.f = v on an error that is being made -/
def spErr (K : PySem.W.Frag) (C : Addr) (f : Str) : Sp := fun vs H Q _ => ∃ (a : Addr) (v : V), vs = [.ref a, v] ∧ OexC K C ∧ PySem.W.findIn K (.ref C) f = some none ∧ H a = some (exo a C none) ∧
  ∀ (d : Addr) (H' : Hp), H d = none → d ≠ a → ErrAt H' a C d f v → (∀ b o, H b = some o → b ≠ a → H' b = some o) → Q .non H'
section
variable {P : Program} {w : World} {K : PySem.W.Frag} {mg : Str → Option Value} {base : Heap}
abbrev sI0 : Stmt := inClass (top 2) 0
theorem scI0 : FnScope ["self", "place"] ["self", "place"] (defScope sI0) := ⟨rfl, rfl, rfl, by decide +kernel, rfl, by decide +kernel, by decide +kernel⟩
theorem ok_i0 {f C : Addr} {fd : FuncData} (F : Fun K "__init__" "BadProgram.__init__" sI0 f fd) : FnOk P w K mg base CX0 1 f fd ["self", "place"] (spErr K C "place") := by
  refine F.ok scI0 (fun vs H Q E h => ?_) (fun cdv A outer s H vs Q E hr h => ?_)
  · obtain ⟨a, v, rfl, _⟩ := h
    rfl
  · obtain ⟨a, v, rfl, T, hno, ha, q⟩ := h
    refine ⟨_, pss_one (ps_ost (pv 0) (pv 1)), _, rfl, _, rfl, a, C, rfl, T, hno, .inl ⟨ha, fun d nd ne => ?_⟩⟩
    exact q d _ nd ne ⟨upd_same, by rw [upd_ne ne, upd_same]⟩ fun b o hb hne => by rw [upd_ne hne, upd_ne (ne_of_none hb nd)]; exact hb
abbrev sI1 : Stmt := inClass (top 3) 0
theorem scI1 : FnScope ["self", "place"] ["self", "place"] (defScope sI1) := ⟨rfl, rfl, rfl, by decide +kernel, rfl, by decide +kernel, by decide +kernel⟩
theorem ok_i1 {f C : Addr} {fd : FuncData} (F : Fun K "__init__" "NoPlace.__init__" sI1 f fd) : FnOk P w K mg base CX0 1 f fd ["self", "place"] (spErr K C "place") := by
  refine F.ok scI1 (fun vs H Q E h => ?_) (fun cdv A outer s H vs Q E hr h => ?_)
  · obtain ⟨a, v, rfl, _⟩ := h
    rfl
  · obtain ⟨a, v, rfl, T, hno, ha, q⟩ := h
    refine ⟨_, pss_one (ps_ost (pv 0) (pv 1)), _, rfl, _, rfl, a, C, rfl, T, hno, .inl ⟨ha, fun d nd ne => ?_⟩⟩
    exact q d _ nd ne ⟨upd_same, by rw [upd_ne ne, upd_same]⟩ fun b o hb hne => by rw [upd_ne hne, upd_ne (ne_of_none hb nd)]; exact hb
abbrev sI2 : Stmt := inClass (top 4) 0
theorem scI2 : FnScope ["self", "place"] ["self", "place"] (defScope sI2) := ⟨rfl, rfl, rfl, by decide +kernel, rfl, by decide +kernel, by decide +kernel⟩
theorem ok_i2 {f C : Addr} {fd : FuncData} (F : Fun K "__init__" "NoWrite.__init__" sI2 f fd) : FnOk P w K mg base CX0 1 f fd ["self", "place"] (spErr K C "place") := by
  refine F.ok scI2 (fun vs H Q E h => ?_) (fun cdv A outer s H vs Q E hr h => ?_)
  · obtain ⟨a, v, rfl, _⟩ := h
    rfl
  · obtain ⟨a, v, rfl, T, hno, ha, q⟩ := h
    refine ⟨_, pss_one (ps_ost (pv 0) (pv 1)), _, rfl, _, rfl, a, C, rfl, T, hno, .inl ⟨ha, fun d nd ne => ?_⟩⟩
    exact q d _ nd ne ⟨upd_same, by rw [upd_ne ne, upd_same]⟩ fun b o hb hne => by rw [upd_ne hne, upd_ne (ne_of_none hb nd)]; exact hb
abbrev sI3 : Stmt := inClass (top 5) 0
theorem scI3 : FnScope ["self", "line"] ["self", "line"] (defScope sI3) := ⟨rfl, rfl, rfl, by decide +kernel, rfl, by decide +kernel, by decide +kernel⟩
theorem ok_i3 {f C : Addr} {fd : FuncData} (F : Fun K "__init__" "BadText.__init__" sI3 f fd) : FnOk P w K mg base CX0 1 f fd ["self", "line"] (spErr K C "line") := by
  refine F.ok scI3 (fun vs H Q E h => ?_) (fun cdv A outer s H vs Q E hr h => ?_)
  · obtain ⟨a, v, rfl, _⟩ := h
    rfl
  · obtain ⟨a, v, rfl, T, hno, ha, q⟩ := h
    refine ⟨_, pss_one (ps_ost (pv 0) (pv 1)), _, rfl, _, rfl, a, C, rfl, T, hno, .inl ⟨ha, fun d nd ne => ?_⟩⟩
    exact q d _ nd ne ⟨upd_same, by rw [upd_ne ne, upd_same]⟩ fun b o hb hne => by rw [upd_ne hne, upd_ne (ne_of_none hb nd)]; exact hb
abbrev sI4 : Stmt := inClass (top 6) 0
theorem scI4 : FnScope ["self", "index"] ["self", "index"] (defScope sI4) := ⟨rfl, rfl, rfl, by decide +kernel, rfl, by decide +kernel, by decide +kernel⟩
theorem ok_i4 {f C : Addr} {fd : FuncData} (F : Fun K "__init__" "BadMeeting.__init__" sI4 f fd) : FnOk P w K mg base CX0 1 f fd ["self", "index"] (spErr K C "index") := by
  refine F.ok scI4 (fun vs H Q E h => ?_) (fun cdv A outer s H vs Q E hr h => ?_)
  · obtain ⟨a, v, rfl, _⟩ := h
    rfl
  · obtain ⟨a, v, rfl, T, hno, ha, q⟩ := h
    refine ⟨_, pss_one (ps_ost (pv 0) (pv 1)), _, rfl, _, rfl, a, C, rfl, T, hno, .inl ⟨ha, fun d nd ne => ?_⟩⟩
    exact q d _ nd ne ⟨upd_same, by rw [upd_ne ne, upd_same]⟩ fun b o hb hne => by rw [upd_ne hne, upd_ne (ne_of_none hb nd)]; exact hb
abbrev sI5 : Stmt := inClass (top 7) 0
theorem scI5 : FnScope ["self", "name"] ["self", "name"] (defScope sI5) := ⟨rfl, rfl, rfl, by decide +kernel, rfl, by decide +kernel, by decide +kernel⟩
theorem ok_i5 {f C : Addr} {fd : FuncData} (F : Fun K "__init__" "NoName.__init__" sI5 f fd) : FnOk P w K mg base CX0 1 f fd ["self", "name"] (spErr K C "name") := by
  refine F.ok scI5 (fun vs H Q E h => ?_) (fun cdv A outer s H vs Q E hr h => ?_)
  · obtain ⟨a, v, rfl, _⟩ := h
    rfl
  · obtain ⟨a, v, rfl, T, hno, ha, q⟩ := h
    refine ⟨_, pss_one (ps_ost (pv 0) (pv 1)), _, rfl, _, rfl, a, C, rfl, T, hno, .inl ⟨ha, fun d nd ne => ?_⟩⟩
    exact q d _ nd ne ⟨upd_same, by rw [upd_ne ne, upd_same]⟩ fun b o hb hne => by rw [upd_ne hne, upd_ne (ne_of_none hb nd)]; exact hb
abbrev sI7 : Stmt := inClass (top 9) 0
theorem scI7 : FnScope ["self", "index"] ["self", "index"] (defScope sI7) := ⟨rfl, rfl, rfl, by decide +kernel, rfl, by decide +kernel, by decide +kernel⟩
theorem ok_i7 {f C : Addr} {fd : FuncData} (F : Fun K "__init__" "BadLot.__init__" sI7 f fd) : FnOk P w K mg base CX0 1 f fd ["self", "index"] (spErr K C "index") := by
  refine F.ok scI7 (fun vs H Q E h => ?_) (fun cdv A outer s H vs Q E hr h => ?_)
  · obtain ⟨a, v, rfl, _⟩ := h
    rfl
  · obtain ⟨a, v, rfl, T, hno, ha, q⟩ := h
    refine ⟨_, pss_one (ps_ost (pv 0) (pv 1)), _, rfl, _, rfl, a, C, rfl, T, hno, .inl ⟨ha, fun d nd ne => ?_⟩⟩
    exact q d _ nd ne ⟨upd_same, by rw [upd_ne ne, upd_same]⟩ fun b o hb hne => by rw [upd_ne hne, upd_ne (ne_of_none hb nd)]; exact hb
abbrev sI9 : Stmt := inClass (top 11) 0
theorem scI9 : FnScope ["self", "index"] ["self", "index"] (defScope sI9) := ⟨rfl, rfl, rfl, by decide +kernel, rfl, by decide +kernel, by decide +kernel⟩
theorem ok_i9 {f C : Addr} {fd : FuncData} (F : Fun K "__init__" "BadAnswer.__init__" sI9 f fd) : FnOk P w K mg base CX0 1 f fd ["self", "index"] (spErr K C "index") := by
  refine F.ok scI9 (fun vs H Q E h => ?_) (fun cdv A outer s H vs Q E hr h => ?_)
  · obtain ⟨a, v, rfl, _⟩ := h
    rfl
  · obtain ⟨a, v, rfl, T, hno, ha, q⟩ := h
    refine ⟨_, pss_one (ps_ost (pv 0) (pv 1)), _, rfl, _, rfl, a, C, rfl, T, hno, .inl ⟨ha, fun d nd ne => ?_⟩⟩
    exact q d _ nd ne ⟨upd_same, by rw [upd_ne ne, upd_same]⟩ fun b o hb hne => by rw [upd_ne hne, upd_ne (ne_of_none hb nd)]; exact hb
abbrev sI10 : Stmt := inClass (top 12) 0
theorem scI10 : FnScope ["self", "place"] ["self", "place"] (defScope sI10) := ⟨rfl, rfl, rfl, by decide +kernel, rfl, by decide +kernel, by decide +kernel⟩
theorem ok_i10 {f C : Addr} {fd : FuncData} (F : Fun K "__init__" "UnlikeBones.__init__" sI10 f fd) : FnOk P w K mg base CX0 1 f fd ["self", "place"] (spErr K C "place") := by
  refine F.ok scI10 (fun vs H Q E h => ?_) (fun cdv A outer s H vs Q E hr h => ?_)
  · obtain ⟨a, v, rfl, _⟩ := h
    rfl
  · obtain ⟨a, v, rfl, T, hno, ha, q⟩ := h
    refine ⟨_, pss_one (ps_ost (pv 0) (pv 1)), _, rfl, _, rfl, a, C, rfl, T, hno, .inl ⟨ha, fun d nd ne => ?_⟩⟩
    exact q d _ nd ne ⟨upd_same, by rw [upd_ne ne, upd_same]⟩ fun b o hb hne => by rw [upd_ne hne, upd_ne (ne_of_none hb nd)]; exact hb
abbrev sI11 : Stmt := inClass (top 13) 0
theorem scI11 : FnScope ["self", "index"] ["self", "index"] (defScope sI11) := ⟨rfl, rfl, rfl, by decide +kernel, rfl, by decide +kernel, by decide +kernel⟩
theorem ok_i11 {f C : Addr} {fd : FuncData} (F : Fun K "__init__" "BadPromise.__init__" sI11 f fd) : FnOk P w K mg base CX0 1 f fd ["self", "index"] (spErr K C "index") := by
  refine F.ok scI11 (fun vs H Q E h => ?_) (fun cdv A outer s H vs Q E hr h => ?_)
  · obtain ⟨a, v, rfl, _⟩ := h
    rfl
  · obtain ⟨a, v, rfl, T, hno, ha, q⟩ := h
    refine ⟨_, pss_one (ps_ost (pv 0) (pv 1)), _, rfl, _, rfl, a, C, rfl, T, hno, .inl ⟨ha, fun d nd ne => ?_⟩⟩
    exact q d _ nd ne ⟨upd_same, by rw [upd_ne ne, upd_same]⟩ fun b o hb hne => by rw [upd_ne hne, upd_ne (ne_of_none hb nd)]; exact hb
abbrev sI12 : Stmt := inClass (top 14) 0
theorem scI12 : FnScope ["self", "n"] ["self", "n"] (defScope sI12) := ⟨rfl, rfl, rfl, by decide +kernel, rfl, by decide +kernel, by decide +kernel⟩
theorem ok_i12 {f C : Addr} {fd : FuncData} (F : Fun K "__init__" "TooMany.__init__" sI12 f fd) : FnOk P w K mg base CX0 1 f fd ["self", "n"] (spErr K C "n") := by
  refine F.ok scI12 (fun vs H Q E h => ?_) (fun cdv A outer s H vs Q E hr h => ?_)
  · obtain ⟨a, v, rfl, _⟩ := h
    rfl
  · obtain ⟨a, v, rfl, T, hno, ha, q⟩ := h
    refine ⟨_, pss_one (ps_ost (pv 0) (pv 1)), _, rfl, _, rfl, a, C, rfl, T, hno, .inl ⟨ha, fun d nd ne => ?_⟩⟩
    exact q d _ nd ne ⟨upd_same, by rw [upd_ne ne, upd_same]⟩ fun b o hb hne => by rw [upd_ne hne, upd_ne (ne_of_none hb nd)]; exact hb
abbrev sI13 : Stmt := inClass (top 15) 0
theorem scI13 : FnScope ["self", "parting"] ["self", "parting"] (defScope sI13) := ⟨rfl, rfl, rfl, by decide +kernel, rfl, by decide +kernel, by decide +kernel⟩
theorem ok_i13 {f C : Addr} {fd : FuncData} (F : Fun K "__init__" "Parted.__init__" sI13 f fd) : FnOk P w K mg base CX0 1 f fd ["self", "parting"] (spErr K C "parting") := by
  refine F.ok scI13 (fun vs H Q E h => ?_) (fun cdv A outer s H vs Q E hr h => ?_)
  · obtain ⟨a, v, rfl, _⟩ := h
    rfl
  · obtain ⟨a, v, rfl, T, hno, ha, q⟩ := h
    refine ⟨_, pss_one (ps_ost (pv 0) (pv 1)), _, rfl, _, rfl, a, C, rfl, T, hno, .inl ⟨ha, fun d nd ne => ?_⟩⟩
    exact q d _ nd ne ⟨upd_same, by rw [upd_ne ne, upd_same]⟩ fun b o hb hne => by rw [upd_ne hne, upd_ne (ne_of_none hb nd)]; exact hb
end
end K1
set_option maxRecDepth 100000
set_option maxHeartbeats 4000000
namespace K1
open PySem L2
/-- the class x stands at C; its __init__ stores its one argument as f -/
structure EC (P : Program) (w : World) (K : PySem.W.Frag) (mg : Str → Option Value) (base : Heap) (x : Str) (C : Addr) (f : Str) : Prop where
  T : OexC K C
  no : PySem.W.findIn K (.ref C) f = some none
  gl : mg x = some (.ref C)
  xf : XfC K C
  ini : ∃ (fI : Addr) (fd : FuncData), PySem.W.findIn K (.ref C) "__init__" = some (some (.ref fI)) ∧ PySem.W.typeIn K (.ref fI) = some (.type "function") ∧ FnOk P w K mg base CX0 1 fI fd ["self", f] (spErr K C f) ∧
    KBn K fd ["self", f] 2 [] (fun us ws => us ++ ws) (fun vs zs => vs ++ zs) ∧ KBn K fd ["self", f] 1 [f] (fun us ws => us ++ ws) (fun vs zs => vs ++ zs)
/-- x(e): a new error with e in its field -/
def tE (C : Addr) (f : Str) (ta : TA) : TE := fun σ H Q => ta σ H fun vs H1 => ∃ v, vs = [v] ∧ ∀ (a d : Addr) (H2 : Hp), H1 a = none → Same H1 H2 → ErrAt H2 a C d f v → Q (.ref a) H2
theorem same_err {H H2 : Hp} {a C : Addr} (n : H a = none) (k : ∀ b o, (upd H a (exo a C none)) b = some o → b ≠ a → H2 b = some o) : Same H H2 := fun b o h =>
  k b o (by rw [upd_ne (ne_of_none h n)]; exact h) (ne_of_none h n)
theorem one_small (v : V) : [v].length ≤ 1000 := by show 1 ≤ 1000; decide
section
open PySem.Spec PyProof.Rows
variable {X : Cx} {x f : Str} {C : Addr} {p pos : Pos} {e : Expr} {es : List Expr} {kws : List Keyword} {ta tk : TA}
theorem pe_E (c : EC X.prog X.w X.K X.mg X.base x C f) (hr : Room 2 X.A) (hg : Gl X x) (ha : PA X (e :: es) ta) (hdb : (x == ("__debug__" : Str)) = false := by decide)
    (he : starEach (e :: es) X.env = (false, eval e X.env) :: starEach es X.env := by rfl) (hpl : (backTo pos (starEach es X.env)).any (·.1) = false := by rfl) : PE X (.Call (.Name x p) (e :: es) [] pos) (tE C f ta) := by
  obtain ⟨fI, fd, i1, i2, G, b1, _⟩ := c.ini
  refine ⟨fun pins s σ H Q I h => wpAny_Call_Name_kw (ld_glob I hg c.gl ?_ hdb)⟩
  refine PySem.W.callWith_K (h₀ := X.base) I.ok.mod.kin c.T.kC (thn (ha.run pos pins s σ H _ I h) fun us s1 z => ?_) he hpl
  obtain ⟨vs, H1, I1, r1, v, rfl, k⟩ := z
  exact ⟨I1.kIn, run_err (n := 1) (ws := []) (ks := []) c.T i1 i2 G hr b1 pass0 I1 r1 .nil rfl rfl (one_small v) fun a na => ⟨a, v, rfl, c.T, c.no, upd_same, fun d H' _ _ E k2 => ⟨rfl, k a d H' na (same_err na k2) E⟩⟩⟩
theorem pe_EK (c : EC X.prog X.w X.K X.mg X.base x C f) (hr : Room 2 X.A) (hg : Gl X x) (hkw : PK X kws tk) (hdb : (x == ("__debug__" : Str)) = false := by decide)
    (hall : (backToKw pos (keywordEach kws X.env)).all (·.1.isSome) = true := by rfl) (hks : (backToKw pos (keywordEach kws X.env)).filterMap (·.1) = [f] := by rfl)
    (hpl : ((backTo pos (starEach [] X.env)).any (·.1) || (backToKw pos (keywordEach kws X.env)).any (·.1.isNone)) = false := by rfl) : PE X (.Call (.Name x p) [] kws pos) (tE C f tk) := by
  obtain ⟨fI, fd, i1, i2, G, _, b2⟩ := c.ini
  refine ⟨fun pins s σ H Q I h => wpAny_Call_Name_kw (ld_glob I hg c.gl ?_ hdb)⟩
  refine PySem.W.callWith_KW0 (h₀ := X.base) I.ok.mod.kin c.T.kC hall (thn (hkw.run pos pins s σ H _ I h) fun ws s1 z => ?_) hpl
  obtain ⟨zs, H1, I1, rz, v, rfl, k⟩ := z
  rw [hks]
  exact ⟨I1.kIn, run_err (n := 0) (us := []) (vs := []) c.T i1 i2 G hr b2 pass0 I1 .nil rz rfl rfl (by decide) fun a na => ⟨a, v, rfl, c.T, c.no, upd_same, fun d H' _ _ E k2 => ⟨rfl, k a d H' na (same_err na k2) E⟩⟩⟩
end
end K1
set_option maxRecDepth 100000
set_option maxHeartbeats 4000000
namespace K1
open PySem L2
abbrev sFresh : Stmt := top 17
abbrev sOne : Stmt := top 19
abbrev sKinds : Stmt := top 21
abbrev sBy : Stmt := top 22
abbrev sHeld : Stmt := top 23
abbrev veB : List Value := [.type "ValueError", .type "Exception", .type "BaseException", .type "object"]
/-- all error classes as the top leaves them -/
structure Er (P : Program) (w : World) (K : PySem.W.Frag) (mg : Str → Option Value) (base : Heap) (C : Nat → Addr) : Prop where
  isi : mg "isinstance" = none
  g0 : mg "BadProgram" = some (.ref (C 0))
  e0 : EC P w K mg base "BadProgram" (C 0) "place"
  g1 : mg "NoPlace" = some (.ref (C 1))
  e1 : EC P w K mg base "NoPlace" (C 1) "place"
  g2 : mg "NoWrite" = some (.ref (C 2))
  e2 : EC P w K mg base "NoWrite" (C 2) "place"
  g3 : mg "BadText" = some (.ref (C 3))
  e3 : EC P w K mg base "BadText" (C 3) "line"
  g4 : mg "BadMeeting" = some (.ref (C 4))
  e4 : EC P w K mg base "BadMeeting" (C 4) "index"
  g5 : mg "NoName" = some (.ref (C 5))
  e5 : EC P w K mg base "NoName" (C 5) "name"
  g6 : mg "UnlikeNames" = some (.ref (C 6))
  q6 : PySem.W.excIn K (C 6) veB "ValueError.__new__" = true
  k6 : PySem.W.keepIn K (.ref (C 6)) = true
  g7 : mg "BadLot" = some (.ref (C 7))
  e7 : EC P w K mg base "BadLot" (C 7) "index"
  g8 : mg "BadNumbers" = some (.ref (C 8))
  q8 : PySem.W.excIn K (C 8) veB "ValueError.__new__" = true
  k8 : PySem.W.keepIn K (.ref (C 8)) = true
  g9 : mg "BadAnswer" = some (.ref (C 9))
  e9 : EC P w K mg base "BadAnswer" (C 9) "index"
  g10 : mg "UnlikeBones" = some (.ref (C 10))
  e10 : EC P w K mg base "UnlikeBones" (C 10) "place"
  g11 : mg "BadPromise" = some (.ref (C 11))
  e11 : EC P w K mg base "BadPromise" (C 11) "index"
  g12 : mg "TooMany" = some (.ref (C 12))
  e12 : EC P w K mg base "TooMany" (C 12) "n"
  g13 : mg "Parted" = some (.ref (C 13))
  e13 : EC P w K mg base "Parted" (C 13) "parting"
  ex : ∀ i, i < 14 → ExcC K (C i)
  kit : ∀ i j, i < 14 → j < 14 → PySem.W.kitOne K (.ref (C i)) (.ref (C j)) = some (decide (i = j))
  gI : mg "IdleError" = some (.ref (C 14))
  kI : ∀ i, i < 14 → PySem.W.kitOne K (.ref (C i)) (.ref (C 14)) = some true
  kV : ∀ i, i < 14 → PySem.W.kitOne K (.ref (C i)) (.type "ValueError") = some true
  gV : mg "ValueError" = none
/-- an error of the i-th class stands at a -/
def ErrK (C : Nat → Addr) (H : Hp) (i : Nat) (a : Addr) : Prop := ∃ d, H a = some (exo a (C i) d) ∧ ∀ b, d = some b → ∃ fs, H b = some (exd b fs)
theorem ErrK.mono {C : Nat → Addr} {H H' : Hp} {i : Nat} {a : Addr} (h : ErrK C H i a) (s : Same H H') : ErrK C H' i a := by
  obtain ⟨d, h1, h2⟩ := h
  refine ⟨d, s _ _ h1, fun b e => ?_⟩
  obtain ⟨fs, h3⟩ := h2 b e
  exact ⟨fs, s _ _ h3⟩
theorem ErrAt.k {C : Nat → Addr} {H : Hp} {i : Nat} {a d : Addr} {f : Str} {v : V} (h : ErrAt H a (C i) d f v) : ErrK C H i a := ⟨some d, h.ob, fun b e => by cases e; exact ⟨_, h.dc⟩⟩
def Errs (C : Nat → Addr) (H : Hp) : Nat → List Addr → Prop
  | _, [] => True
  | i, a :: r => ErrK C H i a ∧ Errs C H (i + 1) r
theorem Errs.get {C : Nat → Addr} {H : Hp} : ∀ {as : List Addr} {i j : Nat} {a : Addr}, Errs C H i as → as[j]? = some a → ErrK C H (i + j) a
  | _ :: _, i, 0, _, h, e => by
    cases e
    exact h.1
  | _ :: r, i, j + 1, a, h, e => by
    have q := Errs.get (as := r) (i := i + 1) (j := j) h.2 (by simpa using e)
    rw [show i + (j + 1) = i + 1 + j by omega]
    exact q
theorem Errs.mono {C : Nat → Addr} {H H' : Hp} (s : Same H H') : ∀ {as : List Addr} {i : Nat}, Errs C H i as → Errs C H' i as
  | [], _, _ => trivial
  | _ :: _, _, h => ⟨h.1.mono s, Errs.mono s h.2⟩
def spKinds (C : Nat → Addr) : Sp := fun vs H Q _ => ∃ (a : Addr) (i : Nat), vs = [.ref a] ∧ i < 14 ∧ ErrK C H i a ∧ ∀ (p : Addr) (H' : Hp), Same H H' → H' p = some (.lst ((List.range 14).map fun j => V.bl (decide (i = j)))) → Q (.ref p) H'
def spBy (C : Nat → Addr) : Sp := fun vs H Q _ => ∃ (v : V), vs = [v] ∧ ∀ (p : Addr) (as : List Addr) (H' : Hp), Same H H' → H' p = some (.lst (as.map V.ref)) → as.length = 14 → Errs C H' 0 as → Q (.ref p) H'
def spHeld : Sp := fun vs H Q _ => ∃ (v : V), vs = [v] ∧ ∀ (p : Addr) (H' : Hp), Same H H' → H' p = some (.lst (List.replicate 24 v)) → Q (.ref p) H'
def spFresh (K : PySem.W.Frag) : Sp := fun vs H Q _ => ∃ (a : Addr) (ns : List Int), vs = [.ref a] ∧ SqL K H a (ns.map V.int) ∧ ns.length ≤ 63 ∧ ∀ (st l : Addr) (cs : List Int) (H' : Hp), Same H H' → Spr H' st l cs 0 → H st = none → Q (.ref st) H'
def spOne : Sp := fun vs H Q _ => ∃ (st l a : Addr) (cs : List Int) (n : Nat) (xs : List V), vs = [.ref st, .ref a] ∧ H a = some (.lst xs) ∧ a ≠ st ∧ 0 < xs.length ∧ xs.length < 1000 ∧ n < 1000000 ∧ Spr H st l cs n ∧
  ∀ (x : V) (H' : Hp), x ∈ xs → Spr H' st l cs (n + 1) → (∀ b, b ≠ st → H' b = H b) → Q x H'
theorem same_new {H : Hp} {p : Addr} (h : H p = none) (o : HO) : Same H (upd H p o) := fun b u q => by rw [upd_ne (ne_of_none q h)]; exact q
theorem pe_cls {X : Cx} {x : Str} {C : Addr} {pos : Pos} (hg : Gl X x) (hm : X.mg x = some (.ref C)) (hdb : (x == ("__debug__" : Str)) = false := by decide) (hcd : (x == ("__classdict__" : Str)) = false := by decide) : PE X (.Name x pos) (tC (.ref C)) := pe_glob hg hm rfl hdb
theorem ext_same {H Hk : Hp} {p q : Addr} {o o' : HO} (s : Same H Hk) (np : H p = none) (nq : Hk q = none) : Same H (upd (upd Hk q o) p o') := fun b u e => by
  rw [upd_ne (ne_of_none e np), upd_ne (ne_of_none (s _ _ e) nq)]
  exact s _ _ e
theorem dict_mono {H Hk : Hp} {d : Option Addr} (hd : ∀ b, d = some b → ∃ fs, H b = some (exd b fs)) (s : Same H Hk) : ∀ b, d = some b → ∃ fs, Hk b = some (exd b fs) := fun b e => by
  obtain ⟨fs, q⟩ := hd b e
  exact ⟨fs, s _ _ q⟩
theorem sz {n : Nat} (h : n ≤ 1000) : n ≤ sizeLine := Nat.le_of_lt (small1000 h)
theorem lk1 {f : Str} {v : V} : List.lookup f [(f, v)] = some v := by simp [List.lookup]
section
variable {P : Program} {w : World} {K : PySem.W.Frag} {mg : Str → Option Value} {base : Heap} {C : Nat → Addr}
theorem scK : FnScope ["_law_e", "_law_found"] ["_law_e"] (defScope sKinds) := ⟨rfl, rfl, rfl, by decide +kernel, rfl, by decide +kernel, by decide +kernel⟩
theorem ok_kinds {f : Addr} {fd : FuncData} (F : Fun K "_law_kinds" "_law_kinds" sKinds f fd) (T : Er P w K mg base C) : FnOk P w K mg base CX0 1 f fd ["_law_e"] (spKinds C) := by
  refine F.ok scK (fun vs H Q E h => ?_) (fun cdv A outer s H vs Q E hr h => ?_)
  · obtain ⟨a, i, rfl, _⟩ := h
    rfl
  · obtain ⟨a, i, rfl, hi, EK, k⟩ := h
    refine ⟨_, pss_cons (ps_set (i := 1) scK.nd rfl (.inl rfl) (pe_lst (pa_cons (pe_callB call_isErr (by rfl) T.isi (by decide +kernel) (pa_cons (pv 0) (pa_cons (pe_cls rfl T.g0) pa_nil))) (pa_cons (pe_callB call_isErr (by rfl) T.isi (by decide +kernel) (pa_cons (pv 0) (pa_cons (pe_cls rfl T.g1) pa_nil))) (pa_cons (pe_callB call_isErr (by rfl) T.isi (by decide +kernel) (pa_cons (pv 0) (pa_cons (pe_cls rfl T.g2) pa_nil))) (pa_cons (pe_callB call_isErr (by rfl) T.isi (by decide +kernel) (pa_cons (pv 0) (pa_cons (pe_cls rfl T.g3) pa_nil))) pa_nil))))))
      (pss_cons (ps_expr (pe_bm PySem.F.plainAttrs_list PySem.F.slot_list_extend PySem.F.type_list_extend mt_extend (pv 1) (pa_cons (pe_lst (pa_cons (pe_callB call_isErr (by rfl) T.isi (by decide +kernel) (pa_cons (pv 0) (pa_cons (pe_cls rfl T.g4) pa_nil))) (pa_cons (pe_callB call_isErr (by rfl) T.isi (by decide +kernel) (pa_cons (pv 0) (pa_cons (pe_cls rfl T.g5) pa_nil))) (pa_cons (pe_callB call_isErr (by rfl) T.isi (by decide +kernel) (pa_cons (pv 0) (pa_cons (pe_cls rfl T.g6) pa_nil))) (pa_cons (pe_callB call_isErr (by rfl) T.isi (by decide +kernel) (pa_cons (pv 0) (pa_cons (pe_cls rfl T.g7) pa_nil))) pa_nil))))) pa_nil)))
      (pss_cons (ps_expr (pe_bm PySem.F.plainAttrs_list PySem.F.slot_list_extend PySem.F.type_list_extend mt_extend (pv 1) (pa_cons (pe_lst (pa_cons (pe_callB call_isErr (by rfl) T.isi (by decide +kernel) (pa_cons (pv 0) (pa_cons (pe_cls rfl T.g8) pa_nil))) (pa_cons (pe_callB call_isErr (by rfl) T.isi (by decide +kernel) (pa_cons (pv 0) (pa_cons (pe_cls rfl T.g9) pa_nil))) (pa_cons (pe_callB call_isErr (by rfl) T.isi (by decide +kernel) (pa_cons (pv 0) (pa_cons (pe_cls rfl T.g10) pa_nil))) pa_nil)))) pa_nil)))
      (pss_cons (ps_expr (pe_bm PySem.F.plainAttrs_list PySem.F.slot_list_extend PySem.F.type_list_extend mt_extend (pv 1) (pa_cons (pe_lst (pa_cons (pe_callB call_isErr (by rfl) T.isi (by decide +kernel) (pa_cons (pv 0) (pa_cons (pe_cls rfl T.g11) pa_nil))) (pa_cons (pe_callB call_isErr (by rfl) T.isi (by decide +kernel) (pa_cons (pv 0) (pa_cons (pe_cls rfl T.g12) pa_nil))) (pa_cons (pe_callB call_isErr (by rfl) T.isi (by decide +kernel) (pa_cons (pv 0) (pa_cons (pe_cls rfl T.g13) pa_nil))) pa_nil)))) pa_nil)))
      (pss_one (ps_ret (pv 1)))))), ?_⟩
    obtain ⟨d, ha, hd⟩ := EK
    refine ⟨_, rfl, a, C i, d, .ref (C 0), .ref (C 0), _, rfl, ha, hd, T.ex i hi, fun u r => r, T.kit i 0 hi (by decide), _, rfl, a, C i, d, .ref (C 1), .ref (C 1), _, rfl, ha, hd, T.ex i hi, fun u r => r, T.kit i 1 hi (by decide), _, rfl, a, C i, d, .ref (C 2), .ref (C 2), _, rfl, ha, hd, T.ex i hi, fun u r => r, T.kit i 2 hi (by decide), _, rfl, a, C i, d, .ref (C 3), .ref (C 3), _, rfl, ha, hd, T.ex i hi, fun u r => r, T.kit i 3 hi (by decide), sz (Nat.le_of_ble_eq_true rfl), fun p np => ?_⟩
    refine ⟨_, rfl, .inl ⟨rfl, _, SqL.of upd_same⟩, _, rfl, a, C i, d, .ref (C 4), .ref (C 4), _, rfl, (same_new np _) _ _ ha, dict_mono hd (same_new np _), T.ex i hi, fun u r => r, T.kit i 4 hi (by decide), _, rfl, a, C i, d, .ref (C 5), .ref (C 5), _, rfl, (same_new np _) _ _ ha, dict_mono hd (same_new np _), T.ex i hi, fun u r => r, T.kit i 5 hi (by decide), _, rfl, a, C i, d, .ref (C 6), .ref (C 6), _, rfl, (same_new np _) _ _ ha, dict_mono hd (same_new np _), T.ex i hi, fun u r => r, T.kit i 6 hi (by decide), _, rfl, a, C i, d, .ref (C 7), .ref (C 7), _, rfl, (same_new np _) _ _ ha, dict_mono hd (same_new np _), T.ex i hi, fun u r => r, T.kit i 7 hi (by decide), sz (Nat.le_of_ble_eq_true rfl), fun p2 n2 => ⟨p, p2, _, _, rfl, rfl, by rw [upd_ne (ne_of_none upd_same n2)]; exact upd_same, upd_same, sz (Nat.le_of_ble_eq_true rfl), ?_⟩⟩
    refine ⟨_, rfl, .inl ⟨rfl, _, SqL.of upd_same⟩, _, rfl, a, C i, d, .ref (C 8), .ref (C 8), _, rfl, (ext_same (same_new np _) np n2) _ _ ha, dict_mono hd (ext_same (same_new np _) np n2), T.ex i hi, fun u r => r, T.kit i 8 hi (by decide), _, rfl, a, C i, d, .ref (C 9), .ref (C 9), _, rfl, (ext_same (same_new np _) np n2) _ _ ha, dict_mono hd (ext_same (same_new np _) np n2), T.ex i hi, fun u r => r, T.kit i 9 hi (by decide), _, rfl, a, C i, d, .ref (C 10), .ref (C 10), _, rfl, (ext_same (same_new np _) np n2) _ _ ha, dict_mono hd (ext_same (same_new np _) np n2), T.ex i hi, fun u r => r, T.kit i 10 hi (by decide), sz (Nat.le_of_ble_eq_true rfl), fun p3 n3 => ⟨p, p3, _, _, rfl, rfl, by rw [upd_ne (ne_of_none upd_same n3)]; exact upd_same, upd_same, sz (Nat.le_of_ble_eq_true rfl), ?_⟩⟩
    refine ⟨_, rfl, .inl ⟨rfl, _, SqL.of upd_same⟩, _, rfl, a, C i, d, .ref (C 11), .ref (C 11), _, rfl, (ext_same (ext_same (same_new np _) np n2) np n3) _ _ ha, dict_mono hd (ext_same (ext_same (same_new np _) np n2) np n3), T.ex i hi, fun u r => r, T.kit i 11 hi (by decide), _, rfl, a, C i, d, .ref (C 12), .ref (C 12), _, rfl, (ext_same (ext_same (same_new np _) np n2) np n3) _ _ ha, dict_mono hd (ext_same (ext_same (same_new np _) np n2) np n3), T.ex i hi, fun u r => r, T.kit i 12 hi (by decide), _, rfl, a, C i, d, .ref (C 13), .ref (C 13), _, rfl, (ext_same (ext_same (same_new np _) np n2) np n3) _ _ ha, dict_mono hd (ext_same (ext_same (same_new np _) np n2) np n3), T.ex i hi, fun u r => r, T.kit i 13 hi (by decide), sz (Nat.le_of_ble_eq_true rfl), fun p4 n4 => ⟨p, p4, _, _, rfl, rfl, by rw [upd_ne (ne_of_none upd_same n4)]; exact upd_same, upd_same, sz (Nat.le_of_ble_eq_true rfl), ?_⟩⟩
    exact ⟨_, rfl, k p _ (ext_same (ext_same (ext_same (same_new np _) np n2) np n3) np n4) upd_same⟩
end
end K1
set_option maxRecDepth 100000
set_option maxHeartbeats 4000000
namespace K1
open PySem L2
section
variable {X : Cx} {x : Str} {C : Addr} {p pos : Pos}
theorem pe_E0 (q : PySem.W.excIn X.K C veB "ValueError.__new__" = true) (hm : X.mg x = some (.ref C)) (kC : PySem.W.keepIn X.K (.ref C) = true) (hg : Gl X x) (hdb : (x == ("__debug__" : Str)) = false := by decide) :
    PE X (.Call (.Name x p) [] [] pos) (fun _ H Q => ∀ (a : Addr) (H' : Hp), H a = none → Same H H' → H' a = some (exo a C none) → Q (.ref a) H') := by
  have h := pe_err0 (X := X) (p := p) (pos := pos) PySem.F.excBase_ValueError q hm kC hg hdb
  exact ⟨fun pins s σ H Q I k => h.run pins s σ H Q I fun a na => k a _ na (same_new na _) upd_same⟩
end
section
variable {P : Program} {w : World} {K : PySem.W.Frag} {mg : Str → Option Value} {base : Heap} {C : Nat → Addr}
theorem scB : FnScope ["_law_x", "_law_found"] ["_law_x"] (defScope sBy) := ⟨rfl, rfl, rfl, by decide +kernel, rfl, by decide +kernel, by decide +kernel⟩
theorem scH : FnScope ["_law_x", "_law_found"] ["_law_x"] (defScope sHeld) := ⟨rfl, rfl, rfl, by decide +kernel, rfl, by decide +kernel, by decide +kernel⟩
theorem scF : FnScope ["_law_script"] ["_law_script"] (defScope sFresh) := ⟨rfl, rfl, rfl, by decide +kernel, rfl, by decide +kernel, by decide +kernel⟩
theorem scO : FnScope ["_law_state", "_law_things"] ["_law_state", "_law_things"] (defScope sOne) := ⟨rfl, rfl, rfl, by decide +kernel, rfl, by decide +kernel, by decide +kernel⟩
theorem ErrK.of0 {H : Hp} {i : Nat} {a : Addr} (h : H a = some (exo a (C i) none)) : ErrK C H i a := ⟨none, h, fun b e => nomatch e⟩
theorem ok_by {f : Addr} {fd : FuncData} (F : Fun K "_law_by_place" "_law_by_place" sBy f fd) (T : Er P w K mg base C) : FnOk P w K mg base CX0 3 f fd ["_law_x"] (spBy C) := by
  refine F.ok scB (fun vs H Q E h => ?_) (fun cdv A outer s H vs Q E hr h => ?_)
  · obtain ⟨v, rfl, _⟩ := h
    rfl
  · obtain ⟨v, rfl, k⟩ := h
    refine ⟨_, pss_cons (ps_set (i := 1) scB.nd rfl (.inl rfl) (pe_lst (pa_cons (pe_E T.e0 hr rfl (pa_cons (pv 0) pa_nil)) (pa_cons (pe_E T.e1 hr rfl (pa_cons (pv 0) pa_nil)) (pa_cons (pe_E T.e2 hr rfl (pa_cons (pv 0) pa_nil)) (pa_cons (pe_E T.e3 hr rfl (pa_cons (pv 0) pa_nil)) (pa_cons (pe_E T.e4 hr rfl (pa_cons (pv 0) pa_nil)) (pa_cons (pe_E T.e5 hr rfl (pa_cons (pv 0) pa_nil)) (pa_cons (pe_E0 T.q6 T.g6 T.k6 rfl) (pa_cons (pe_E T.e7 hr rfl (pa_cons (pv 0) pa_nil)) pa_nil))))))))))
      (pss_one (ps_ret (pe_op op_cat (pv 1) (pe_lst (pa_cons (pe_E0 T.q8 T.g8 T.k8 rfl) (pa_cons (pe_E T.e9 hr rfl (pa_cons (pv 0) pa_nil)) (pa_cons (pe_E T.e10 hr rfl (pa_cons (pv 0) pa_nil)) (pa_cons (pe_E T.e11 hr rfl (pa_cons (pv 0) pa_nil)) (pa_cons (pe_E T.e12 hr rfl (pa_cons (pv 0) pa_nil)) (pa_cons (pe_E T.e13 hr rfl (pa_cons (pv 0) pa_nil)) pa_nil)))))))))), ?_⟩
    refine ⟨_, rfl, v, rfl, fun a0 d0 H0 n0 s0 E0 => ⟨_, rfl, v, rfl, fun a1 d1 H1 n1 s1 E1 => ⟨_, rfl, v, rfl, fun a2 d2 H2 n2 s2 E2 => ⟨_, rfl, v, rfl, fun a3 d3 H3 n3 s3 E3 => ⟨_, rfl, v, rfl, fun a4 d4 H4 n4 s4 E4 => ⟨_, rfl, v, rfl, fun a5 d5 H5 n5 s5 E5 => fun a6 H6 n6 s6 E6 => ⟨_, rfl, v, rfl, fun a7 d7 H7 n7 s7 E7 => ⟨sz (Nat.le_of_ble_eq_true rfl), fun p np => ?_⟩⟩⟩⟩⟩⟩⟩⟩
    refine ⟨_, rfl, ?_⟩
    refine fun a8 H8 n8 s8 E8 => ⟨_, rfl, v, rfl, fun a9 d9 H9 n9 s9 E9 => ⟨_, rfl, v, rfl, fun a10 d10 H10 n10 s10 E10 => ⟨_, rfl, v, rfl, fun a11 d11 H11 n11 s11 E11 => ⟨_, rfl, v, rfl, fun a12 d12 H12 n12 s12 E12 => ⟨_, rfl, v, rfl, fun a13 d13 H13 n13 s13 E13 => ⟨sz (Nat.le_of_ble_eq_true rfl), fun p2 n2 => ?_⟩⟩⟩⟩⟩⟩
    have t13 := same_new n2 (.lst [.ref a8, .ref a9, .ref a10, .ref a11, .ref a12, .ref a13])
    have t12 := s13.trans t13
    have t11 := s12.trans t12
    have t10 := s11.trans t11
    have t9 := s10.trans t10
    have t8 := s9.trans t9
    have tp := s8.trans t8
    have t7 := (same_new np (.lst [.ref a0, .ref a1, .ref a2, .ref a3, .ref a4, .ref a5, .ref a6, .ref a7])).trans tp
    have t6 := s7.trans t7
    have t5 := s6.trans t6
    have t4 := s5.trans t5
    have t3 := s4.trans t4
    have t2 := s3.trans t3
    have t1 := s2.trans t2
    have t0 := s1.trans t1
    have t := s0.trans t0
    refine ⟨p, p2, _, _, rfl, rfl, tp _ _ upd_same, upd_same, sz (Nat.le_of_ble_eq_true rfl), fun p3 n3 => ?_⟩
    refine k p3 [a0, a1, a2, a3, a4, a5, a6, a7, a8, a9, a10, a11, a12, a13] _ (t.trans (same_new n3 _)) upd_same rfl ?_
    exact Errs.mono (same_new n3 _) ⟨(E0.k (C := C) (i := 0)).mono t0, (E1.k (C := C) (i := 1)).mono t1, (E2.k (C := C) (i := 2)).mono t2, (E3.k (C := C) (i := 3)).mono t3, (E4.k (C := C) (i := 4)).mono t4, (E5.k (C := C) (i := 5)).mono t5, (ErrK.of0 (i := 6) E6).mono t6, (E7.k (C := C) (i := 7)).mono t7, (ErrK.of0 (i := 8) E8).mono t8, (E9.k (C := C) (i := 9)).mono t9, (E10.k (C := C) (i := 10)).mono t10, (E11.k (C := C) (i := 11)).mono t11, (E12.k (C := C) (i := 12)).mono t12, (E13.k (C := C) (i := 13)).mono t13, trivial⟩
theorem ok_held {f : Addr} {fd : FuncData} (F : Fun K "_law_held" "_law_held" sHeld f fd) (T : Er P w K mg base C) : FnOk P w K mg base CX0 3 f fd ["_law_x"] spHeld := by
  refine F.ok scH (fun vs H Q E h => ?_) (fun cdv A outer s H vs Q E hr h => ?_)
  · obtain ⟨v, rfl, _⟩ := h
    rfl
  · obtain ⟨v, rfl, k⟩ := h
    refine ⟨_, pss_cons (ps_set (i := 1) scH.nd rfl (.inl rfl) (pe_lst (pa_cons (pe_efl (pe_EK T.e0 hr rfl (pk_cons (pv 0) pk_nil))) (pa_cons (pe_efl (pe_EK T.e1 hr rfl (pk_cons (pv 0) pk_nil))) (pa_cons (pe_efl (pe_EK T.e2 hr rfl (pk_cons (pv 0) pk_nil))) (pa_cons (pe_efl (pe_EK T.e3 hr rfl (pk_cons (pv 0) pk_nil))) pa_nil))))))
      (pss_cons (ps_expr (pe_bm PySem.F.plainAttrs_list PySem.F.slot_list_extend PySem.F.type_list_extend mt_extend (pv 1) (pa_cons (pe_lst (pa_cons (pe_efl (pe_EK T.e4 hr rfl (pk_cons (pv 0) pk_nil))) (pa_cons (pe_efl (pe_EK T.e5 hr rfl (pk_cons (pv 0) pk_nil))) (pa_cons (pe_efl (pe_EK T.e7 hr rfl (pk_cons (pv 0) pk_nil))) (pa_cons (pe_efl (pe_EK T.e9 hr rfl (pk_cons (pv 0) pk_nil))) pa_nil))))) pa_nil)))
      (pss_cons (ps_expr (pe_bm PySem.F.plainAttrs_list PySem.F.slot_list_extend PySem.F.type_list_extend mt_extend (pv 1) (pa_cons (pe_lst (pa_cons (pe_efl (pe_EK T.e10 hr rfl (pk_cons (pv 0) pk_nil))) (pa_cons (pe_efl (pe_EK T.e11 hr rfl (pk_cons (pv 0) pk_nil))) (pa_cons (pe_efl (pe_EK T.e12 hr rfl (pk_cons (pv 0) pk_nil))) (pa_cons (pe_efl (pe_EK T.e13 hr rfl (pk_cons (pv 0) pk_nil))) pa_nil))))) pa_nil)))
      (pss_cons (ps_expr (pe_bm PySem.F.plainAttrs_list PySem.F.slot_list_extend PySem.F.type_list_extend mt_extend (pv 1) (pa_cons (pe_lst (pa_cons (pe_efl (pe_E T.e0 hr rfl (pa_cons (pv 0) pa_nil))) (pa_cons (pe_efl (pe_E T.e1 hr rfl (pa_cons (pv 0) pa_nil))) (pa_cons (pe_efl (pe_E T.e2 hr rfl (pa_cons (pv 0) pa_nil))) (pa_cons (pe_efl (pe_E T.e3 hr rfl (pa_cons (pv 0) pa_nil))) (pa_cons (pe_efl (pe_E T.e4 hr rfl (pa_cons (pv 0) pa_nil))) pa_nil)))))) pa_nil)))
      (pss_cons (ps_expr (pe_bm PySem.F.plainAttrs_list PySem.F.slot_list_extend PySem.F.type_list_extend mt_extend (pv 1) (pa_cons (pe_lst (pa_cons (pe_efl (pe_E T.e5 hr rfl (pa_cons (pv 0) pa_nil))) (pa_cons (pe_efl (pe_E T.e7 hr rfl (pa_cons (pv 0) pa_nil))) (pa_cons (pe_efl (pe_E T.e9 hr rfl (pa_cons (pv 0) pa_nil))) (pa_cons (pe_efl (pe_E T.e10 hr rfl (pa_cons (pv 0) pa_nil))) (pa_cons (pe_efl (pe_E T.e11 hr rfl (pa_cons (pv 0) pa_nil))) pa_nil)))))) pa_nil)))
      (pss_one (ps_ret (pe_op op_cat (pv 1) (pe_lst (pa_cons (pe_efl (pe_E T.e12 hr rfl (pa_cons (pv 0) pa_nil))) (pa_cons (pe_efl (pe_E T.e13 hr rfl (pa_cons (pv 0) pa_nil))) pa_nil)))))))))), ?_⟩
    refine ⟨_, rfl, v, rfl, fun a1 d1 H1 n1 s1 E1 => ⟨a1, C 0, d1, _, v, rfl, T.e0.xf, T.e0.no, E1.ob, E1.dc, lk1, ⟨_, rfl, v, rfl, fun a2 d2 H2 n2 s2 E2 => ⟨a2, C 1, d2, _, v, rfl, T.e1.xf, T.e1.no, E2.ob, E2.dc, lk1, ⟨_, rfl, v, rfl, fun a3 d3 H3 n3 s3 E3 => ⟨a3, C 2, d3, _, v, rfl, T.e2.xf, T.e2.no, E3.ob, E3.dc, lk1, ⟨_, rfl, v, rfl, fun a4 d4 H4 n4 s4 E4 => ⟨a4, C 3, d4, _, v, rfl, T.e3.xf, T.e3.no, E4.ob, E4.dc, lk1, ⟨sz (Nat.le_of_ble_eq_true rfl), fun p np => ?_⟩⟩⟩⟩⟩⟩⟩⟩⟩
    have np0 : H p = none := ((((s1.trans s2).trans s3).trans s4)).free np
    have u := ((((s1.trans s2).trans s3).trans s4)).trans (same_new np (.lst [v, v, v, v]))
    refine ⟨_, rfl, .inl ⟨rfl, _, SqL.of upd_same⟩, ⟨_, rfl, v, rfl, fun a5 d5 H5 n5 s5 E5 => ⟨a5, C 4, d5, _, v, rfl, T.e4.xf, T.e4.no, E5.ob, E5.dc, lk1, ⟨_, rfl, v, rfl, fun a6 d6 H6 n6 s6 E6 => ⟨a6, C 5, d6, _, v, rfl, T.e5.xf, T.e5.no, E6.ob, E6.dc, lk1, ⟨_, rfl, v, rfl, fun a7 d7 H7 n7 s7 E7 => ⟨a7, C 7, d7, _, v, rfl, T.e7.xf, T.e7.no, E7.ob, E7.dc, lk1, ⟨_, rfl, v, rfl, fun a8 d8 H8 n8 s8 E8 => ⟨a8, C 9, d8, _, v, rfl, T.e9.xf, T.e9.no, E8.ob, E8.dc, lk1, ⟨sz (Nat.le_of_ble_eq_true rfl), fun p2 m2 => ⟨p, p2, _, _, rfl, rfl, by rw [upd_ne (ne_of_none (((((s5.trans s6).trans s7).trans s8)) _ _ upd_same) m2)]; exact ((((s5.trans s6).trans s7).trans s8)) _ _ upd_same, upd_same, sz (Nat.le_of_ble_eq_true rfl), ?_⟩⟩⟩⟩⟩⟩⟩⟩⟩⟩⟩
    have u := ext_same (o := .lst [v, v, v, v]) (o' := .lst (List.replicate 8 v)) (u.trans ((((s5.trans s6).trans s7).trans s8))) np0 m2
    refine ⟨_, rfl, .inl ⟨rfl, _, SqL.of upd_same⟩, ⟨_, rfl, v, rfl, fun a9 d9 H9 n9 s9 E9 => ⟨a9, C 10, d9, _, v, rfl, T.e10.xf, T.e10.no, E9.ob, E9.dc, lk1, ⟨_, rfl, v, rfl, fun a10 d10 H10 n10 s10 E10 => ⟨a10, C 11, d10, _, v, rfl, T.e11.xf, T.e11.no, E10.ob, E10.dc, lk1, ⟨_, rfl, v, rfl, fun a11 d11 H11 n11 s11 E11 => ⟨a11, C 12, d11, _, v, rfl, T.e12.xf, T.e12.no, E11.ob, E11.dc, lk1, ⟨_, rfl, v, rfl, fun a12 d12 H12 n12 s12 E12 => ⟨a12, C 13, d12, _, v, rfl, T.e13.xf, T.e13.no, E12.ob, E12.dc, lk1, ⟨sz (Nat.le_of_ble_eq_true rfl), fun p3 m3 => ⟨p, p3, _, _, rfl, rfl, by rw [upd_ne (ne_of_none (((((s9.trans s10).trans s11).trans s12)) _ _ upd_same) m3)]; exact ((((s9.trans s10).trans s11).trans s12)) _ _ upd_same, upd_same, sz (Nat.le_of_ble_eq_true rfl), ?_⟩⟩⟩⟩⟩⟩⟩⟩⟩⟩⟩
    have u := ext_same (o := .lst [v, v, v, v]) (o' := .lst (List.replicate 12 v)) (u.trans ((((s9.trans s10).trans s11).trans s12))) np0 m3
    refine ⟨_, rfl, .inl ⟨rfl, _, SqL.of upd_same⟩, ⟨_, rfl, v, rfl, fun a13 d13 H13 n13 s13 E13 => ⟨a13, C 0, d13, _, v, rfl, T.e0.xf, T.e0.no, E13.ob, E13.dc, lk1, ⟨_, rfl, v, rfl, fun a14 d14 H14 n14 s14 E14 => ⟨a14, C 1, d14, _, v, rfl, T.e1.xf, T.e1.no, E14.ob, E14.dc, lk1, ⟨_, rfl, v, rfl, fun a15 d15 H15 n15 s15 E15 => ⟨a15, C 2, d15, _, v, rfl, T.e2.xf, T.e2.no, E15.ob, E15.dc, lk1, ⟨_, rfl, v, rfl, fun a16 d16 H16 n16 s16 E16 => ⟨a16, C 3, d16, _, v, rfl, T.e3.xf, T.e3.no, E16.ob, E16.dc, lk1, ⟨_, rfl, v, rfl, fun a17 d17 H17 n17 s17 E17 => ⟨a17, C 4, d17, _, v, rfl, T.e4.xf, T.e4.no, E17.ob, E17.dc, lk1, ⟨sz (Nat.le_of_ble_eq_true rfl), fun p4 m4 => ⟨p, p4, _, _, rfl, rfl, by rw [upd_ne (ne_of_none ((((((s13.trans s14).trans s15).trans s16).trans s17)) _ _ upd_same) m4)]; exact (((((s13.trans s14).trans s15).trans s16).trans s17)) _ _ upd_same, upd_same, sz (Nat.le_of_ble_eq_true rfl), ?_⟩⟩⟩⟩⟩⟩⟩⟩⟩⟩⟩⟩⟩
    have u := ext_same (o := .lst [v, v, v, v, v]) (o' := .lst (List.replicate 17 v)) (u.trans (((((s13.trans s14).trans s15).trans s16).trans s17))) np0 m4
    refine ⟨_, rfl, .inl ⟨rfl, _, SqL.of upd_same⟩, ⟨_, rfl, v, rfl, fun a18 d18 H18 n18 s18 E18 => ⟨a18, C 5, d18, _, v, rfl, T.e5.xf, T.e5.no, E18.ob, E18.dc, lk1, ⟨_, rfl, v, rfl, fun a19 d19 H19 n19 s19 E19 => ⟨a19, C 7, d19, _, v, rfl, T.e7.xf, T.e7.no, E19.ob, E19.dc, lk1, ⟨_, rfl, v, rfl, fun a20 d20 H20 n20 s20 E20 => ⟨a20, C 9, d20, _, v, rfl, T.e9.xf, T.e9.no, E20.ob, E20.dc, lk1, ⟨_, rfl, v, rfl, fun a21 d21 H21 n21 s21 E21 => ⟨a21, C 10, d21, _, v, rfl, T.e10.xf, T.e10.no, E21.ob, E21.dc, lk1, ⟨_, rfl, v, rfl, fun a22 d22 H22 n22 s22 E22 => ⟨a22, C 11, d22, _, v, rfl, T.e11.xf, T.e11.no, E22.ob, E22.dc, lk1, ⟨sz (Nat.le_of_ble_eq_true rfl), fun p5 m5 => ⟨p, p5, _, _, rfl, rfl, by rw [upd_ne (ne_of_none ((((((s18.trans s19).trans s20).trans s21).trans s22)) _ _ upd_same) m5)]; exact (((((s18.trans s19).trans s20).trans s21).trans s22)) _ _ upd_same, upd_same, sz (Nat.le_of_ble_eq_true rfl), ?_⟩⟩⟩⟩⟩⟩⟩⟩⟩⟩⟩⟩⟩
    have u := ext_same (o := .lst [v, v, v, v, v]) (o' := .lst (List.replicate 22 v)) (u.trans (((((s18.trans s19).trans s20).trans s21).trans s22))) np0 m5
    refine ⟨_, rfl, ⟨_, rfl, v, rfl, fun a23 d23 H23 n23 s23 E23 => ⟨a23, C 12, d23, _, v, rfl, T.e12.xf, T.e12.no, E23.ob, E23.dc, lk1, ⟨_, rfl, v, rfl, fun a24 d24 H24 n24 s24 E24 => ⟨a24, C 13, d24, _, v, rfl, T.e13.xf, T.e13.no, E24.ob, E24.dc, lk1, ⟨sz (Nat.le_of_ble_eq_true rfl), fun p6 m6 => ⟨p, p6, _, _, rfl, rfl, by rw [upd_ne (ne_of_none (((s23.trans s24)) _ _ upd_same) m6)]; exact ((s23.trans s24)) _ _ upd_same, upd_same, sz (Nat.le_of_ble_eq_true rfl), fun p7 m7 => ?_⟩⟩⟩⟩⟩⟩⟩
    exact k p7 _ (((u.trans ((s23.trans s24))).trans (same_new m6 _)).trans (same_new m7 _)) upd_same
end
end K1
set_option maxRecDepth 100000
set_option maxHeartbeats 4000000
namespace K1
open PySem L2
section
variable {P : Program} {w : World} {K : PySem.W.Frag} {mg : Str → Option Value} {base : Heap} {C : Nat → Addr}
theorem cut_ints (ns : List Int) (lo hi : Option Int) : ∃ cs : List Int, cutV (ns.map V.int) lo hi = cs.map V.int ∧ cs.length ≤ ns.length := by
  refine ⟨(ns.drop (HT.sIx (ns.map V.int).length 0 lo)).take (HT.sIx (ns.map V.int).length (ns.map V.int).length hi - HT.sIx (ns.map V.int).length 0 lo), ?_, ?_⟩
  · rw [List.map_take, List.map_drop]
    rfl
  · rw [List.length_take, List.length_drop]
    omega
theorem ok_fresh {f : Addr} {fd : FuncData} (F : Fun K "_law_fresh" "_law_fresh" sFresh f fd) (hl : mg "list" = none) : FnOk P w K mg base CX0 1 f fd ["_law_script"] (spFresh K) := by
  refine F.ok scF (fun vs H Q E h => ?_) (fun cdv A outer s H vs Q E hr h => ?_)
  · obtain ⟨a, ns, rfl, _⟩ := h
    rfl
  · obtain ⟨a, ns, rfl, hS, hn, k⟩ := h
    refine ⟨_, pss_one (ps_ret (pe_lst (pa_cons (pe_callTy call_list_of (by rfl) hl (by decide +kernel) (pa_cons (pe_slice sl_list (pv 0) po_none (po_some pe_int)) pa_nil)) (pa_cons pe_int (pa_cons pe_int (pa_cons pe_int (pa_cons pe_int pa_nil))))))), ?_⟩
    obtain ⟨cs, e1, e2⟩ := cut_ints ns none (some 40)
    refine ⟨_, rfl, _, rfl, a, _, rfl, hS, fun p np => ?_⟩
    refine ⟨p, _, rfl, .inl (SqL.of upd_same), fun l nl => ⟨sz (Nat.le_of_ble_eq_true rfl), fun st nst => ?_⟩⟩
    have s1 : Same H (upd H p (.lst (cutV (ns.map V.int) none (some 40)))) := same_new np _
    have ne : l ≠ st := ne_of_none upd_same nst
    refine k st l cs _ ((s1.trans (same_new nl _)).trans (same_new nst _)) ⟨⟨0, 0, 0, 0, upd_same, Nat.zero_le _, Int.le_refl _, Int.le_refl _, by decide, Nat.le_refl _⟩, ?_, Nat.le_trans e2 hn, ne.symm⟩ ((s1.trans (same_new nl _)).free nst)
    rw [upd_ne ne, upd_same, e1]
theorem ok_one {f fT : Addr} {fd fdT : FuncData} (F : Fun K "_law_one" "_law_one" sOne f fd) (FT : Fun K "_law_take" "_law_take" sTake fT fdT) (T : TxtT mg) (gT : mg "_law_take" = some (.ref fT)) (bT : Binds K fdT ["_law_state", "_law_many"] []) :
    FnOk P w K mg base CX0 2 f fd ["_law_state", "_law_things"] spOne := by
  have GT : FnOk P w K mg base CX0 1 fT fdT ["_law_state", "_law_many"] spTake := ok_take FT T
  refine F.ok scO (fun vs H Q E h => ?_) (fun cdv A outer s H vs Q E hr h => ?_)
  · obtain ⟨st, l, a, cs, n, xs, rfl, _⟩ := h
    rfl
  · obtain ⟨st, l, a, cs, n, xs, rfl, ha, nal, h0, h1, hn, S, k⟩ := h
    refine ⟨_, pss_one (ps_ret (pe_ix ix_list (pv 1) (pe_call GT hr rfl gT FT.kp bT .nil pass0 (pa_cons (pv 0) (pa_cons (pe_callB call_len_seq (by rfl) T.len PySem.boot_len (pa_cons (pv 1) pa_nil)) pa_nil))) (fun _ _ => rfl))), ?_⟩
    obtain ⟨i, t, c, h, hs, _⟩ := S.ex
    refine ⟨_, rfl, _, rfl, _, rfl, _, _, rfl, .inl (SqL.of ha), st, l, cs, n, _, rfl, by omega, by omega, hn, S, fun r H' r0 r1 S' hk => ?_⟩
    have hr' : r.toNat < xs.length := by omega
    have e : xs[r.toNat]? = some xs[r.toNat] := List.getElem?_eq_getElem hr'
    refine ⟨a, xs, r, _, rfl, rfl, SqL.of (by rw [hk a nal]; exact ha), at_of (by omega) e, ?_⟩
    exact k _ H' (List.getElem_mem hr') S' hk
end
end K1
set_option maxRecDepth 100000
set_option maxHeartbeats 4000000
namespace K1
open PySem L2
abbrev sSame : Stmt := top 20
/-- a flat value, or a flat dict, beside itself -/
inductive Sc (K : PySem.W.Frag) (H : Hp) : V → String → Prop where
  | non : Sc K H .non "NoneType"
  | str (z : Str) : Sc K H (.str z) "str"
  | dic {a : Addr} {kvs : List (Key × V)} : H a = some (.dK kvs) → (kvs.map (·.1)).Nodup → (∀ p ∈ kvs, flatB p.2 = true) → Sc K H (.ref a) "dict"
def SameV (K : PySem.W.Frag) (H : Hp) : Nat → V → V → Prop
  | 0, _, _ => False
  | n + 1, x, y => (∃ i, x = .int i ∧ y = .int i) ∨ (∃ b, x = .bl b ∧ y = .bl b) ∨ (x = y ∧ ∃ nm, Sc K H x nm) ∨
    ∃ (a b : Addr) (xs ys : List V), x = .ref a ∧ y = .ref b ∧ ((H a = some (.lst xs) ∧ H b = some (.lst ys)) ∨ (H a = some (.tup xs) ∧ H b = some (.tup ys))) ∧ xs.length = ys.length ∧ xs.length ≤ 1000 ∧
      ∀ (i : Nat) (u v : V), xs[i]? = some u → ys[i]? = some v → SameV K H n u v
theorem Sc.mono {K : PySem.W.Frag} {H H' : Hp} {x : V} {nm : String} (h : Sc K H x nm) (s : Same H H') : Sc K H' x nm := by
  cases h with
  | non => exact .non
  | str z => exact .str z
  | dic h1 h2 h3 => exact .dic (s _ _ h1) h2 h3
theorem SameV.mono {K : PySem.W.Frag} {H H' : Hp} (s : Same H H') : ∀ {n : Nat} {x y : V}, SameV K H n x y → SameV K H' n x y
  | 0, _, _, h => (show False from h).elim
  | _ + 1, _, _, h => h.imp_right fun h => h.imp_right fun h => Or.imp (fun ⟨e, nm, h⟩ => ⟨e, nm, h.mono s⟩) (fun ⟨a, b, xs, ys, e1, e2, h, l1, l2, k⟩ =>
    ⟨a, b, xs, ys, e1, e2, Or.imp (fun q => ⟨s _ _ q.1, s _ _ q.2⟩) (fun q => ⟨s _ _ q.1, s _ _ q.2⟩) h, l1, l2, fun i u v h1 h2 => SameV.mono s (k i u v h1 h2)⟩) h
def spSame (K : PySem.W.Frag) (n : Nat) : Sp := fun vs H Q _ => ∃ (x y : V), vs = [x, y] ∧ SameV K H n x y ∧ ∀ H', Same H H' → Q (.bl true) H'
theorem iteD {c A B : Prop} [Decidable c] (hc : c) (h : A) : if decide c = true then A else B := by
  rw [decide_eq_true hc]
  exact iteT h
theorem kitA2 {K : PySem.W.Frag} {a b c : String} {r s : Bool} (h1 : kitB a b = some r) (h2 : kitB a c = some s) : PySem.W.kitAny K (.type a) [.type b, .type c] = some (r || s) := by
  refine kitAny_cons (kit_ty h1) (fun e => ?_) (fun e => by rw [e]; rfl)
  subst e
  rw [Bool.false_or]
  exact kitAny_cons (kit_ty h2) (fun e => by subst e; exact kitAny_nil) (fun e => by rw [e])
theorem kitA3 {K : PySem.W.Frag} {a b c d : String} {r s t : Bool} (h1 : kitB a b = some r) (h2 : kitB a c = some s) (h3 : kitB a d = some t) : PySem.W.kitAny K (.type a) [.type b, .type c, .type d] = some (r || (s || t)) := by
  refine kitAny_cons (kit_ty h1) (fun e => ?_) (fun e => by rw [e]; rfl)
  subst e
  rw [Bool.false_or]
  exact kitA2 h2 h3
theorem same_cases {K : PySem.W.Frag} {H : Hp} {n : Nat} {x y : V} (S : SameV K H (n + 1) x y) {R : Prop}
    (num : ∀ (v : V) (nm : String) (bb : Bool), x = v → y = v → (∀ H, TyX K H v (.type nm)) → kitB nm "list" = some false → kitB nm "tuple" = some false → kitB nm "int" = some true → kitB nm "bool" = some bb → scal v v = true → R)
    (flat : ∀ (nm : String), x = y → Sc K H x nm → R)
    (seq : ∀ (nm : String) (a b : Addr) (xs ys : List V), x = .ref a → y = .ref b → kitB nm "list" = some (nm == "list") → kitB nm "tuple" = some (nm == "tuple") → (nm == "list" || nm == "tuple") = true →
      (∀ H', Same H H' → TyX K H' x (.type nm)) → (∀ H', Same H H' → TyX K H' y (.type nm)) → ((H a = some (.lst xs) ∧ H b = some (.lst ys)) ∨ (H a = some (.tup xs) ∧ H b = some (.tup ys))) →
      xs.length = ys.length → xs.length ≤ 1000 → (∀ (i : Nat) (u v : V), xs[i]? = some u → ys[i]? = some v → SameV K H n u v) → R) : R := by
  rcases S with ⟨i, e1, e2⟩ | ⟨b, e1, e2⟩ | ⟨e, nm, h⟩ | ⟨a, b, xs, ys, e1, e2, h, l1, l2, q⟩
  · exact num _ "int" false e1 e2 (fun _ => .base (.int i)) (by decide +kernel) (by decide +kernel) (by decide +kernel) (by decide +kernel) rfl
  · exact num _ "bool" true e1 e2 (fun _ => .base (.bl b)) (by decide +kernel) (by decide +kernel) (by decide +kernel) (by decide +kernel) rfl
  · exact flat nm e h
  · rcases h with h | h
    · exact seq "list" a b xs ys e1 e2 (by decide +kernel) (by decide +kernel) rfl (fun H' s => by rw [e1]; exact .base (.lst (s _ _ h.1))) (fun H' s => by rw [e2]; exact .base (.lst (s _ _ h.2))) (.inl h) l1 l2 q
    · exact seq "tuple" a b xs ys e1 e2 (by decide +kernel) (by decide +kernel) rfl (fun H' s => by rw [e1]; exact .base (.tup (s _ _ h.1))) (fun H' s => by rw [e2]; exact .base (.tup (s _ _ h.2))) (.inr h) l1 l2 q
theorem Sc.ty {K : PySem.W.Frag} {H : Hp} {x : V} {nm : String} (h : Sc K H x nm) : TyX K H x (.type nm) := by
  cases h with
  | non => exact .base .non
  | str z => exact .base (.str z)
  | dic h _ _ => exact .base (.dK h)
theorem Sc.kit {K : PySem.W.Frag} {H : Hp} {x : V} {nm : String} (h : Sc K H x nm) : kitB nm "list" = some false ∧ kitB nm "tuple" = some false ∧ kitB nm "int" = some false := by
  cases h <;> exact ⟨by decide +kernel, by decide +kernel, by decide +kernel⟩
/-- both in step: the pairs of a zip of two lists, of two tuples -/
theorem walk_zipT {K : PySem.W.Frag} {a b : Addr} {xs ys : List V} {n : Nat} (h1 : n = xs.length) (h2 : n = ys.length) : Walk (RZ.ItzT K a b) n (fun H => SqT K H a xs ∧ SqT K H b ys) (YPair (fun i => xs[i]?) (fun i => ys[i]?)) := by
  refine ⟨fun i _ hi q => ?_, fun _ q => ⟨xs, ys, q.1, q.2, .inl (by omega)⟩, fun i H v H' _ q y => ?_⟩
  · have l1 : i < xs.length := by omega
    have l2 : i < ys.length := by omega
    exact ⟨xs, ys, xs[i], ys[i], q.1, q.2, by simp [l1], by simp [l2]⟩
  · obtain ⟨t, u, v, e1, e2, e3, e4, e5⟩ := y
    exact ⟨t, u, v, e1, e2, e3, e4 xs q.1, e5 ys q.2⟩
structure TxtS (mg : Str → Option Value) : Prop where
  isi : mg "isinstance" = none
  list : mg "list" = none
  tuple : mg "tuple" = none
  len : mg "len" = none
  all : mg "all" = none
  zip : mg "zip" = none
  int : mg "int" = none
  bool : mg "bool" = none
section
variable {P : Program} {w : World} {K : PySem.W.Frag} {mg : Str → Option Value} {base : Heap}
abbrev NS : List Str := ["_law_found", "_law_due", "_law_x", "_law_y"]
theorem scS : FnScope NS ["_law_found", "_law_due"] (defScope sSame) := ⟨rfl, rfl, rfl, by decide +kernel, rfl, by decide +kernel, by decide +kernel⟩
theorem ok_same {n : Nat} {f : Addr} {fd : FuncData} (F : Fun K "_law_same" "_law_same" sSame f fd) (T : TxtS mg) (G : FnOk P w K mg base CX0 n f fd ["_law_found", "_law_due"] (spSame K n)) (bG : Binds K fd ["_law_found", "_law_due"] []) (gG : mg "_law_same" = some (.ref f)) :
    FnOk P w K mg base CX0 (n + 1) f fd ["_law_found", "_law_due"] (spSame K (n + 1)) := by
  refine F.ok scS (fun vs H Q E h => ?_) (fun cdv A outer s H vs Q E hr h => ?_)
  · obtain ⟨x, y, rfl, _⟩ := h
    rfl
  · obtain ⟨x, y, rfl, S, k⟩ := h
    refine ⟨_, pss_cons (ps_if (pt_val (pe_callB call_isiT (by rfl) T.isi (by decide +kernel) (pa_cons (pv 1) (pa_cons (pe_tup (pa_cons (pe_bltn (v := .ty "list") (by rfl) T.list (by decide +kernel) rfl) (pa_cons (pe_bltn (v := .ty "tuple") (by rfl) T.tuple (by decide +kernel) rfl) pa_nil))) pa_nil))))
        (pss_cons (ps_if (pw_or (pt_cmpR op_ne (pe_callB call_isi (by rfl) T.isi (by decide +kernel) (pa_cons (pv 0) (pa_cons (pe_bltn (v := .ty "list") (by rfl) T.list (by decide +kernel) rfl) pa_nil)))
                (pe_callB call_isi (by rfl) T.isi (by decide +kernel) (pa_cons (pv 1) (pa_cons (pe_bltn (v := .ty "list") (by rfl) T.list (by decide +kernel) rfl) pa_nil))) (nomark _))
              (pw_or1 (pt_cmpR op_ne (pe_callB call_isi (by rfl) T.isi (by decide +kernel) (pa_cons (pv 0) (pa_cons (pe_bltn (v := .ty "tuple") (by rfl) T.tuple (by decide +kernel) rfl) pa_nil)))
                (pe_callB call_isi (by rfl) T.isi (by decide +kernel) (pa_cons (pv 1) (pa_cons (pe_bltn (v := .ty "tuple") (by rfl) T.tuple (by decide +kernel) rfl) pa_nil))) (nomark _)))).pt (pss_one (ps_ret pe_bl)) pss_nil)
          (pss_one (ps_ret (pe_and (pe_cmpR op_eq (pe_callB call_len_seq (by rfl) T.len PySem.boot_len (pa_cons (pv 0) pa_nil)) (pe_callB call_len_seq (by rfl) T.len PySem.boot_len (pa_cons (pv 1) pa_nil)) (nomark _))
            (pe_one (pe_callB (cr_all rfl) (by rfl) T.all (by decide +kernel) (pa_cons (pe_lc (own := [("_law_x", 2), ("_law_y", 3)]) (g := gTup K 2 (gCons (gName 2) (gCons (gName 3) gNil))) (tt := tYes) rfl scS.nd (RZ.pi_zipA (by rfl) T.zip (pa_cons (pv 0) (pa_cons (pv 1) pa_nil))) (blkOk_by (N := NS) (sc := defScope sSame) (by decide +kernel))
              (fun _ _ _ _ _ => pg_tup rfl (pgs_cons (pg_name (i := 2) scS.nd rfl (Or.inl rfl)) (pgs_cons (pg_name (i := 3) scS.nd rfl (Or.inl rfl)) pgs_nil))) (fun _ _ _ _ _ => pts_nil)
              (fun _ _ _ _ _ => pe_call G hr rfl gG F.kp bG .nil pass0 (pa_cons (pv 2) (pa_cons (pv 3) pa_nil)))) pa_nil)))))))
        pss_nil)
      (pss_cons (ps_if (pt_val (pe_callB call_isi (by rfl) T.isi (by decide +kernel) (pa_cons (pv 1) (pa_cons (pe_bltn (v := .ty "int") (by rfl) T.int (by decide +kernel) rfl) pa_nil))))
        (pss_one (ps_ret (pe_and (pe_callB call_isi (by rfl) T.isi (by decide +kernel) (pa_cons (pv 0) (pa_cons (pe_bltn (v := .ty "int") (by rfl) T.int (by decide +kernel) rfl) pa_nil)))
          (pe_and (pe_cmpR op_eq (pe_callB call_isi (by rfl) T.isi (by decide +kernel) (pa_cons (pv 0) (pa_cons (pe_bltn (v := .ty "bool") (by rfl) T.bool (by decide +kernel) rfl) pa_nil))) (pe_callB call_isi (by rfl) T.isi (by decide +kernel) (pa_cons (pv 1) (pa_cons (pe_bltn (v := .ty "bool") (by rfl) T.bool (by decide +kernel) rfl) pa_nil))) (nomark _))
            (pe_one (pe_cmpR op_eq (pv 0) (pv 1) (nomark _)))))))
        pss_nil)
      (pss_one (ps_ret (pe_and (pe_cmpR op_isBl (pe_callB call_isiT (by rfl) T.isi (by decide +kernel) (pa_cons (pv 0) (pa_cons (pe_tup (pa_cons (pe_bltn (v := .ty "int") (by rfl) T.int (by decide +kernel) rfl) (pa_cons (pe_bltn (v := .ty "list") (by rfl) T.list (by decide +kernel) rfl) (pa_cons (pe_bltn (v := .ty "tuple") (by rfl) T.tuple (by decide +kernel) rfl) pa_nil)))) pa_nil))) pe_bl (nomark _))
        (pe_one (pe_cmpR (OpR.or op_eq (op_eq_dict (Nat.lt_of_le_of_lt (Nat.le_add_right _ 64) hr.units))) (pv 0) (pv 1) (nomark _))))))), ?_⟩
    refine same_cases S ?num ?flat ?seq
    case num =>
      intro v nm bb e1 e2 ty k1 k2 k3 k4 sc
      subst e1 e2
      refine ⟨_, rfl, sz (Nat.le_of_ble_eq_true rfl), fun tp ntp => ⟨_, tp, [.ty "list", .ty "tuple"], .type nm, [.type "list", .type "tuple"], _, rfl, upd_same, .cons (.ty _) (.cons (.ty _) .nil), ty _, kitA2 k1 k2, _, rfl, iteF ?_⟩⟩
      refine ⟨_, rfl, _, .ty "int", .type nm, .type "int", _, rfl, .ty _, ty _, kit_ty k3, _, rfl, iteT ?_⟩
      refine ⟨_, rfl, _, .ty "int", .type nm, .type "int", _, rfl, .ty _, ty _, kit_ty k3, _, rfl, iteT ?_⟩
      refine ⟨_, rfl, _, .ty "bool", .type nm, .type "bool", _, rfl, .ty _, ty _, kit_ty k4, _, rfl, _, .ty "bool", .type nm, .type "bool", _, rfl, .ty _, ty _, kit_ty k4, rfl, _, rfl, iteD rfl ?_⟩
      refine ⟨_, rfl, _, rfl, sc, ?_⟩
      rw [decide_eq_true rfl]
      exact k _ (same_new ntp _)
    case flat =>
      intro nm e h
      subst e
      obtain ⟨k1, k2, k3⟩ := h.kit
      refine ⟨_, rfl, sz (Nat.le_of_ble_eq_true rfl), fun tp ntp => ⟨_, tp, [.ty "list", .ty "tuple"], .type nm, [.type "list", .type "tuple"], _, rfl, upd_same, .cons (.ty _) (.cons (.ty _) .nil), (h.mono (same_new ntp _)).ty, kitA2 k1 k2, _, rfl, iteF ?_⟩⟩
      refine ⟨_, rfl, _, .ty "int", .type nm, .type "int", _, rfl, .ty _, (h.mono (same_new ntp _)).ty, kit_ty k3, _, rfl, iteF ?_⟩
      refine ⟨_, rfl, sz (Nat.le_of_ble_eq_true rfl), fun t2 n2 => ?_⟩
      have s2 : Same H (upd _ t2 (.tup [.ty "int", .ty "list", .ty "tuple"])) := (same_new ntp _).trans (same_new n2 _)
      refine ⟨_, t2, [.ty "int", .ty "list", .ty "tuple"], .type nm, [.type "int", .type "list", .type "tuple"], _, rfl, upd_same, .cons (.ty _) (.cons (.ty _) (.cons (.ty _) .nil)), (h.mono s2).ty, kitA3 k3 k1 k2, _, _, rfl, rfl, _, rfl, iteD rfl ?_⟩
      refine ⟨_, rfl, _, rfl, ?_⟩
      cases h with
      | non => exact .inl ⟨rfl, by rw [decide_eq_true rfl]; exact k _ s2⟩
      | str z => exact .inl ⟨rfl, by rw [decide_eq_true rfl]; exact k _ s2⟩
      | dic h1 h2 h3 => exact .inr ⟨_, _, _, rfl, rfl, s2 _ _ h1, s2 _ _ h1, h2, h3, k _ s2⟩
    case seq => 
      intro nm a b xs ys e1 e2 k1 k2 k3 tx ty hb l1 l2 q
      refine ⟨_, rfl, sz (Nat.le_of_ble_eq_true rfl), fun tp ntp => ⟨_, tp, [.ty "list", .ty "tuple"], .type nm, [.type "list", .type "tuple"], _, rfl, upd_same, .cons (.ty _) (.cons (.ty _) .nil), ty _ (same_new ntp _), kitA2 k1 k2, _, rfl, ?_⟩⟩
      rw [k3]
      refine iteT ?_
      refine ⟨_, rfl, _, .ty "list", .type nm, .type "list", _, rfl, .ty _, tx _ (same_new ntp _), kit_ty k1, _, rfl, _, .ty "list", .type nm, .type "list", _, rfl, .ty _, ty _ (same_new ntp _), kit_ty k1, rfl, _, rfl, iteNS rfl ?_⟩
      refine ⟨_, rfl, _, .ty "tuple", .type nm, .type "tuple", _, rfl, .ty _, tx _ (same_new ntp _), kit_ty k2, _, rfl, _, .ty "tuple", .type nm, .type "tuple", _, rfl, .ty _, ty _ (same_new ntp _), kit_ty k2, rfl, _, rfl, iteNS rfl ?_⟩
      subst e1 e2
      have sq : ∀ H', Same H H' → (SqL K H' a xs ∨ SqT K H' a xs) ∧ (SqL K H' b ys ∨ SqT K H' b ys) := fun H' s => by
        rcases hb with ⟨h1, h2⟩ | ⟨h1, h2⟩
        · exact ⟨.inl (SqL.of (s _ _ h1)), .inl (SqL.of (s _ _ h2))⟩
        · exact ⟨.inr (SqT.of (s _ _ h1)), .inr (SqT.of (s _ _ h2))⟩
      refine ⟨_, rfl, a, xs, rfl, (sq _ (same_new ntp _)).1, _, rfl, b, ys, rfl, (sq _ (same_new ntp _)).2, rfl, _, rfl, iteD (by rw [l1]) ?_⟩
      have turn : ∀ (D : Addr) (i : Nat) (H2 H3 : Hp) (T : Addr) (u v : V), H2 T = none → H3 = upd H2 T (.tup [u, v]) → Same H H2 → H2 D = some (.lst (List.replicate i (.bl true))) → i < xs.length → SameV K H n u v →
          Same H H3 ∧ H3 D = some (.lst (List.replicate i (.bl true))) ∧ H3 T = some (.tup [u, v]) ∧ SameV K H3 n u v := fun D i H2 H3 T u v nT e s hD hi h => by
        subst e
        have s3 := s.trans (same_new nT (.tup [u, v]))
        exact ⟨s3, by rw [upd_ne (ne_of_none hD nT)]; exact hD, upd_same, h.mono s3⟩
      have fin : ∀ (D : Addr) (H2 : Hp), H2 D = some (.lst (List.replicate xs.length (.bl true))) → SqL K H2 D ((List.replicate xs.length true).map V.bl) := fun D H2 h => SqL.of (by rw [List.map_replicate]; exact h)
      have eall : (List.replicate xs.length true).all id = true := by rw [List.all_eq_true]; intro b hb; exact (List.mem_replicate.mp hb).2
      refine ⟨_, rfl, _, rfl, a, b, xs, ys, rfl, ?_⟩
      rcases hb with ⟨h1, h2⟩ | ⟨h1, h2⟩
      · refine .inl ⟨SqL.of ((same_new ntp _) _ _ h1), SqL.of ((same_new ntp _) _ _ h2), fun D nD => ?_⟩
        refine lc_it (walk_zip (n := xs.length) (by omega)) (fun i H2 => Same H H2 ∧ H2 D = some (.lst (List.replicate i (.bl true)))) ⟨(same_new ntp _).trans (same_new nD _), upd_same⟩ (fun i H2 _ p => ⟨SqL.of (p.1 _ _ h1), SqL.of (p.1 _ _ h2)⟩) ?_ ?_
        · rintro i x H2 H3 hi ⟨s, hD⟩ ⟨t, u, v, rfl, nt, e, eu, ev⟩
          obtain ⟨s3, d3, t3, q3⟩ := turn D i H2 H3 t u v nt e s hD hi (q i u v eu ev)
          refine ⟨t, [u, v], rfl, SqT.of t3, rfl, u, [v], rfl, v, [], rfl, rfl, rfl, ?_⟩
          refine ⟨_, rfl, _, rfl, u, v, rfl, q3, fun H4 s4 => ⟨_, s4 _ _ d3, ?_, ?_⟩⟩
          · rw [List.length_replicate]
            exact small1000 (by omega)
          · have n0 : H D = none := (same_new ntp _).free nD
            refine ⟨fun z o hz => ?_, by rw [upd_same, List.replicate_succ']⟩
            rw [upd_ne (ne_of_none hz n0)]
            exact s4 _ _ (s3 _ _ hz)
        · rintro H2 ⟨s, hD⟩
          refine ⟨D, List.replicate xs.length true, rfl, fin D H2 hD, ?_⟩
          rw [eall]
          exact k _ s
      · refine .inr ⟨SqT.of ((same_new ntp _) _ _ h1), SqT.of ((same_new ntp _) _ _ h2), fun D nD => ?_⟩
        refine lc_it (walk_zipT (n := xs.length) rfl l1) (fun i H2 => Same H H2 ∧ H2 D = some (.lst (List.replicate i (.bl true)))) ⟨(same_new ntp _).trans (same_new nD _), upd_same⟩ (fun i H2 _ p => ⟨SqT.of (p.1 _ _ h1), SqT.of (p.1 _ _ h2)⟩) ?_ ?_
        · rintro i x H2 H3 hi ⟨s, hD⟩ ⟨t, u, v, rfl, nt, e, eu, ev⟩
          obtain ⟨s3, d3, t3, q3⟩ := turn D i H2 H3 t u v nt e s hD hi (q i u v eu ev)
          refine ⟨t, [u, v], rfl, SqT.of t3, rfl, u, [v], rfl, v, [], rfl, rfl, rfl, ?_⟩
          refine ⟨_, rfl, _, rfl, u, v, rfl, q3, fun H4 s4 => ⟨_, s4 _ _ d3, ?_, ?_⟩⟩
          · rw [List.length_replicate]
            exact small1000 (by omega)
          · have n0 : H D = none := (same_new ntp _).free nD
            refine ⟨fun z o hz => ?_, by rw [upd_same, List.replicate_succ']⟩
            rw [upd_ne (ne_of_none hz n0)]
            exact s4 _ _ (s3 _ _ hz)
        · rintro H2 ⟨s, hD⟩
          refine ⟨D, List.replicate xs.length true, rfl, fin D H2 hD, ?_⟩
          rw [eall]
          exact k _ s
theorem same_none {f : Addr} {fd : FuncData} : FnOk P w K mg base CX0 0 f fd ["_law_found", "_law_due"] (spSame K 0) := by
  have no : ∀ vs H Q E, ¬ spSame K 0 vs H Q E := fun vs H Q E h => by
    obtain ⟨x, y, _, S, _⟩ := h
    exact S
  exact ⟨fun vs H Q E h => absurd h (no vs H Q E), fun A outer s H args us vs Q E _ _ _ _ h => absurd h (no vs H Q E)⟩
theorem same_all {f : Addr} {fd : FuncData} (F : Fun K "_law_same" "_law_same" sSame f fd) (T : TxtS mg) (bG : Binds K fd ["_law_found", "_law_due"] []) (gG : mg "_law_same" = some (.ref f)) :
    ∀ n : Nat, FnOk P w K mg base CX0 n f fd ["_law_found", "_law_due"] (spSame K n)
  | 0 => same_none
  | n + 1 => ok_same F T (same_all F T bG gG n) bG gG
end
end K1
set_option maxRecDepth 100000
set_option maxHeartbeats 8000000
namespace K1
open PySem L2
abbrev sLaw : Stmt := top 24
abbrev NL : List Str := ["_law_script", "_law_state", "_law_turn", "_law_x", "_law_k", "_law_e", "_law_j", "_law_held_here"]
def spLaw (K : PySem.W.Frag) : Sp := fun vs H Q _ => ∃ (a : Addr) (ns : List Int), vs = [.ref a] ∧ SqL K H a (ns.map V.int) ∧ ns.length ≤ 63 ∧ ∀ H', Q (.bl true) H'
theorem Spr.mono {H H' : Hp} {st l : Addr} {cs : List Int} {n : Nat} (S : Spr H st l cs n) (s : Same H H') : Spr H' st l cs n := by
  obtain ⟨⟨i, k, c, h, e, q⟩, h2, h3, h4⟩ := S
  exact ⟨⟨i, k, c, h, s _ _ e, q⟩, s _ _ h2, h3, h4⟩
theorem Spr.not {H : Hp} {st l b : Addr} {cs : List Int} {n : Nat} (S : Spr H st l cs n) (h : H b = none) : b ≠ st := by
  obtain ⟨⟨i, k, c, m, e, q⟩, _⟩ := S
  exact (ne_of_none e h).symm
theorem same_new2 {H : Hp} {p : Addr} (h : H p = none) (o o' : HO) : Same H (upd (upd H p o) p o') := fun b u q => by
  rw [upd_ne (ne_of_none q h), upd_ne (ne_of_none q h)]
  exact q
section
variable {K : PySem.W.Frag} {H : Hp} {n : Nat}
theorem sv_int (i : Int) : SameV K H (n + 1) (.int i) (.int i) := .inl ⟨i, rfl, rfl⟩
theorem sv_bl (b : Bool) : SameV K H (n + 1) (.bl b) (.bl b) := .inr (.inl ⟨b, rfl, rfl⟩)
theorem sv_sc {x : V} {nm : String} (h : Sc K H x nm) : SameV K H (n + 1) x x := .inr (.inr (.inl ⟨rfl, nm, h⟩))
theorem sv_seq {q : Addr} {xs : List V} (h : H q = some (.lst xs) ∨ H q = some (.tup xs)) (hl : xs.length ≤ 1000) (hx : ∀ x ∈ xs, SameV K H n x x) : SameV K H (n + 1) (.ref q) (.ref q) :=
  .inr (.inr (.inr ⟨q, q, xs, xs, rfl, rfl, h.imp (fun h => ⟨h, h⟩) (fun h => ⟨h, h⟩), rfl, hl, fun i u v hu hv => by
    rw [hu] at hv
    cases hv
    exact hx u (List.mem_of_getElem? hu)⟩))
theorem all0 : ∀ x ∈ ([] : List V), SameV K H n x x := fun _ h => nomatch h
theorem all1 {a : V} (h : SameV K H n a a) : ∀ x ∈ [a], SameV K H n x x := fun x hx => by
  cases List.mem_singleton.mp hx
  exact h
theorem allC {a : V} {l : List V} (h : SameV K H n a a) (t : ∀ x ∈ l, SameV K H n x x) : ∀ x ∈ a :: l, SameV K H n x x := List.forall_mem_cons.mpr ⟨h, t⟩
end
/-- fourteen truths, the i-th is True -/
def bs (i : Nat) : List PyData := (List.range 14).map fun j => PyData.bool (decide (i = j))
theorem bs_eq {i : Nat} (h : i < 14) : PyData.eqv (.list (bs i)) (.list (bs i)) = true := by
  have q : ∀ i : Fin 14, PyData.eqv (.list (bs i)) (.list (bs i)) = true := by decide +kernel
  exact q ⟨i, h⟩
theorem bs_shape {i : Nat} (h : i < 14) : SeqAt.shaped (.list (bs i)) = true := by
  have q : ∀ i : Fin 14, SeqAt.shaped (.list (bs i)) = true := by decide +kernel
  exact q ⟨i, h⟩
theorem bs_dp {K : PySem.W.Frag} {H : Hp} (f : Nat → Bool) : ∀ l : List Nat, DpAll K H (l.map fun j => V.bl (f j)) (l.map fun j => PyData.bool (f j))
  | [] => .nil
  | j :: r => .cons (.bl (f j)) (bs_dp f r)
theorem dec_ji (i j : Nat) : decide (V.int (0 + (j : Int)) = V.int (i : Int)) = decide (i = j) := by
  rw [decide_eq_decide]
  constructor
  · intro e
    injection e with e
    omega
  · intro e
    subst e
    rw [Int.zero_add]
structure Defs (P : Program) (w : World) (K : PySem.W.Frag) (mg : Str → Option Value) (base : Heap) (C : Nat → Addr) : Prop where
  fresh : ∃ f fd, mg "_law_fresh" = some (.ref f) ∧ PySem.W.keepIn K (.ref f) = true ∧ Binds K fd ["_law_script"] [] ∧ FnOk P w K mg base CX0 1 f fd ["_law_script"] (spFresh K)
  one : ∃ f fd, mg "_law_one" = some (.ref f) ∧ PySem.W.keepIn K (.ref f) = true ∧ Binds K fd ["_law_state", "_law_things"] [] ∧ FnOk P w K mg base CX0 2 f fd ["_law_state", "_law_things"] spOne
  by_ : ∃ f fd, mg "_law_by_place" = some (.ref f) ∧ PySem.W.keepIn K (.ref f) = true ∧ Binds K fd ["_law_x"] [] ∧ FnOk P w K mg base CX0 3 f fd ["_law_x"] (spBy C)
  kinds : ∃ f fd, mg "_law_kinds" = some (.ref f) ∧ PySem.W.keepIn K (.ref f) = true ∧ Binds K fd ["_law_e"] [] ∧ FnOk P w K mg base CX0 1 f fd ["_law_e"] (spKinds C)
  held : ∃ f fd, mg "_law_held" = some (.ref f) ∧ PySem.W.keepIn K (.ref f) = true ∧ Binds K fd ["_law_x"] [] ∧ FnOk P w K mg base CX0 3 f fd ["_law_x"] spHeld
  same : ∃ f fd, mg "_law_same" = some (.ref f) ∧ PySem.W.keepIn K (.ref f) = true ∧ Binds K fd ["_law_found", "_law_due"] [] ∧ FnOk P w K mg base CX0 2 f fd ["_law_found", "_law_due"] (spSame K 2)
  range : mg "range" = none
  enum : mg "enumerate" = none
  all : mg "all" = none
section
variable {P : Program} {w : World} {K : PySem.W.Frag} {mg : Str → Option Value} {base : Heap} {C : Nat → Addr}
theorem scL : FnScope NL ["_law_script"] (defScope sLaw) := ⟨rfl, rfl, rfl, by decide +kernel, rfl, by decide +kernel, by decide +kernel⟩
theorem ok_law {f : Addr} {fd : FuncData} (F : Fun K "law" "law" sLaw f fd) (T : Er P w K mg base C) (D : Defs P w K mg base C) : FnOk P w K mg base CX0 4 f fd ["_law_script"] (spLaw K) := by
  obtain ⟨f1, fd1, g1, p1, b1, G1⟩ := D.fresh
  obtain ⟨f2, fd2, g2, p2, b2, G2⟩ := D.one
  obtain ⟨f3, fd3, g3, p3, b3, G3⟩ := D.by_
  obtain ⟨f4, fd4, g4, p4, b4, G4⟩ := D.kinds
  obtain ⟨f5, fd5, g5, p5, b5, G5⟩ := D.held
  obtain ⟨f6, fd6, g6, p6, b6, G6⟩ := D.same
  refine F.ok scL (fun vs H Q E h => ?_) (fun cdv A outer s H vs Q E hr h => ?_)
  · obtain ⟨a, ns, rfl, _⟩ := h
    rfl
  · obtain ⟨a, ns, rfl, hS, hn, k⟩ := h
    have r1 : Room 1 _ := hr.mono (by decide)
    have r2 : Room 2 _ := hr.mono (by decide)
    refine ⟨_, pss_cons (ps_set (i := 1) scL.nd rfl (.inl rfl) (pe_call G1 r1 (by rfl) g1 p1 b1 .nil pass0 (pa_cons (pv 0) pa_nil)))
      (pss_cons (ps_for PassesOwn.never rfl (pi_range1 (by rfl) D.range (pa_cons pe_int pa_nil)) (pg_name (i := 2) scL.nd rfl (Or.inl rfl))
        (pss_cons (ps_set (i := 3) scL.nd rfl (.inr rfl) (pe_call G2 r2 (by rfl) g2 p2 b2 .nil pass0 (pa_cons (pv 1) (pa_cons
            (pe_lst (pa_cons (pe_tup (pa_cons pe_int (pa_cons pe_int pa_nil))) (pa_cons (pe_tup pa_nil) (pa_cons pe_int (pa_cons pe_non (pa_cons pe_str (pa_cons (pe_lst (pa_cons pe_int pa_nil))
              (pa_cons (pe_disp (pps_cons pe_str pe_int pps_nil) (by rfl) (by rfl) (fun z => by cases z) (by decide)) (pa_cons (pe_tup (pa_cons pe_bl (pa_cons pe_str pa_nil))) (pa_cons (pe_op op_pow pe_int pe_int) (pa_cons (pe_un un_neg pe_int)
              (pa_cons (pe_lst pa_nil) (pa_cons pe_str (pa_cons pe_int pa_nil)))))))))))))) pa_nil))))
        (pss_cons (ps_for PassesOwn.never rfl (pi_enum (by rfl) D.enum (pa_cons (pe_call G3 hr (by rfl) g3 p3 b3 .nil pass0 (pa_cons (pv 3) pa_nil)) pa_nil))
            (pg_tup rfl (pgs_cons (pg_name (i := 4) scL.nd rfl (Or.inr rfl)) (pgs_cons (pg_name (i := 5) scL.nd rfl (Or.inl rfl)) pgs_nil)))
          (pss_cons (ps_if (pw_or (pt_cmpR (op_neD hr.units) (pe_call G4 r1 (by rfl) g4 p4 b4 .nil pass0 (pa_cons (pv 5) pa_nil))
                (pe_lc (own := [("_law_j", 6)]) (g := gName 6) (tt := tYes) rfl scL.nd (pi_range1 (by rfl) D.range (pa_cons pe_int pa_nil)) (blkOk_by (N := NL) (sc := defScope sLaw) (by decide +kernel)) (fun _ _ _ _ _ => pg_name (i := 6) scL.nd rfl (Or.inl rfl)) (fun _ _ _ _ _ => pts_nil)
                  (fun _ _ _ _ _ => pe_cmpR op_eq (pv 6) (pv 4) (nomark _))) (nomark _))
              (pw_or1 (pt_not (pt_val (pe_callB call_isErr (by rfl) T.isi (by decide +kernel) (pa_cons (pv 5) (pa_cons (pe_cls (by rfl) T.gI) pa_nil))))))).pt (pss_one (ps_ret pe_bl)) pss_nil)
          (pss_one (ps_if (pt_not (pt_val (pe_callB call_isErr (by rfl) T.isi (by decide +kernel) (pa_cons (pv 5) (pa_cons (pe_bltn (v := .ty "ValueError") (by rfl) T.gV (by decide +kernel) rfl) pa_nil))))) (pss_one (ps_ret pe_bl)) pss_nil))))
        (pss_one (ps_if (pt_not (pt_val (pe_callB (cr_all rfl) (by rfl) D.all (by decide +kernel) (pa_cons
            (pe_lc (own := [("_law_held_here", 7)]) (g := gName 7) (tt := tYes) rfl scL.nd (pi_list (pe_call G5 hr (by rfl) g5 p5 b5 .nil pass0 (pa_cons (pv 3) pa_nil))) (blkOk_by (N := NL) (sc := defScope sLaw) (by decide +kernel)) (fun _ _ _ _ _ => pg_name (i := 7) scL.nd rfl (Or.inl rfl)) (fun _ _ _ _ _ => pts_nil)
              (fun _ _ _ _ _ => pe_call G6 r2 (by rfl) g6 p6 b6 .nil pass0 (pa_cons (pv 7) (pa_cons (pv 3) pa_nil)))) pa_nil)))) (pss_one (ps_ret pe_bl)) pss_nil)))))
      (pss_one (ps_ret pe_bl))), ?_⟩
    -- state = _law_fresh(script)
    refine ⟨_, rfl, a, ns, rfl, hS, hn, fun st l cs H1 s1 S1 nst => ?_⟩
    -- for turn in range(3)
    refine ⟨3, rfl, by decide, by decide, for_range (n := 3) (fun i σ H2 => ∃ v2 v3 v4 v5 : Option V, σ = [some (.ref a), some (.ref st), v2, v3, v4, v5, none, none] ∧ Spr H2 st l cs i) ⟨_, _, _, _, rfl, S1⟩ ?_ ?_⟩
    · rintro i σ H2 hi ⟨v2, v3, v4, v5, rfl, S⟩
      refine ⟨_, rfl, sz (Nat.le_of_ble_eq_true rfl), fun q1 m1 => ⟨sz (Nat.le_of_ble_eq_true rfl), fun q2 m2 => ⟨sz (Nat.le_of_ble_eq_true rfl), fun q3 m3 => fun q4 m4 => ⟨upd_same, [(Sum.inr "a", .int 1)], rfl, by decide, sz (Nat.le_of_ble_eq_true rfl), fun q5 m5 => ⟨_, _, rfl, rfl, ⟨by decide, by decide, by decide⟩, _, rfl, sz (Nat.le_of_ble_eq_true rfl), fun q6 m6 => ⟨sz (Nat.le_of_ble_eq_true rfl), fun q7 m7 => ?_⟩⟩⟩⟩⟩⟩
      have n1 := S.not m1
      have s12 := same_new m1 (.tup [.int 0, .int 1])
      have n2 := (S.mono s12).not m2
      have s23 := same_new m2 (.tup [])
      have n3 := ((S.mono s12).mono s23).not m3
      have s34 := same_new m3 (.lst [.int 3])
      have s14 := (s12.trans s23).trans s34
      have n4 := (S.mono s14).not m4
      have s45 := same_new2 m4 (.dK []) (.dK (mergeK [] [(Sum.inr "a", .int 1)]))
      have n5 := ((S.mono s14).mono s45).not m5
      have s56 := same_new m5 (.tup [.bl true, .str "b"])
      have s16 := (s14.trans s45).trans s56
      have n6 := (S.mono s16).not m6
      have s67 := same_new m6 (.lst [])
      have s78 := same_new m7 (.lst [.ref q1, .ref q2, .int 7, .non, .str "a", .ref q3, .ref q4, .ref q5, .int (10 ^ Int.toNat 30), .int (-1), .ref q6, .str "", .int 0])
      have n7 := ((S.mono s16).mono s67).not m7
      have t6 := s67.trans s78
      have t5 := s56.trans t6
      have t4 := s45.trans t5
      have t3 := s34.trans t4
      have t2 := s23.trans t3
      refine ⟨st, l, q7, cs, i, _, rfl, upd_same, n7, Nat.zero_lt_succ _, (by show 13 < 1000; decide), by omega, S.mono (s12.trans t2), fun x H3 hx S3 hk => ?_⟩
      have f1 := (hk q1 n1).trans (t2 _ _ upd_same)
      have f2 := (hk q2 n2).trans (t3 _ _ upd_same)
      have f3 := (hk q3 n3).trans (t4 _ _ upd_same)
      have f4 := (hk q4 n4).trans (t5 _ _ upd_same)
      have f5 := (hk q5 n5).trans (t6 _ _ upd_same)
      have f6 := (hk q6 n6).trans (s78 _ _ upd_same)
      have sv : SameV K H3 2 x x := (allC (sv_seq (.inr f1) (by decide) (allC (sv_int 0) (all1 (sv_int 1)))) (allC (sv_seq (.inr f2) (by decide) all0) (allC (sv_int 7) (allC (sv_sc .non) (allC (sv_sc (.str "a"))
        (allC (sv_seq (.inl f3) (by decide) (all1 (sv_int 3))) (allC (sv_sc (.dic f4 (by decide +kernel) (fun p hp => by cases List.mem_singleton.mp hp; rfl))) (allC (sv_seq (.inr f5) (by decide) (allC (sv_bl true) (all1 (sv_sc (.str "b")))))
        (allC (sv_int _) (allC (sv_int _) (allC (sv_seq (.inl f6) (by decide) all0) (allC (sv_sc (.str "")) (all1 (sv_int 0)))))))))))))) x hx
      clear f1 f2 f3 f4 f5 f6 hk hx n1 n2 n3 n4 n5 n6 n7 t2 t3 t4 t5 t6 s12 s23 s34 s14 s45 s56 s16 s67 s78 m1 m2 m3 m4 m5 m6 m7
      -- for k, e in enumerate(_law_by_place(x))
      refine ⟨_, rfl, x, rfl, fun p es H4 s4 hp hlen E4 => ⟨p, _, rfl, SqL.of hp, ?_⟩⟩
      have hl14 : (es.map V.ref).length = 14 := by rw [List.length_map]; exact hlen
      refine for_it (walk_enum (xs := es.map V.ref)) (fun j σ H5 => ∃ v2 v4 v5 : Option V, σ = [some (.ref a), some (.ref st), v2, some x, v4, v5, none, none] ∧ Same H4 H5) ⟨_, _, _, rfl, Same.refl _⟩ (fun j σ H5 _ ⟨_, _, _, _, s⟩ => SqL.of (s _ _ hp)) ?_ ?_
      · rintro j y σ H5 H6 hj ⟨v2, v4, v5, rfl, s5⟩ ⟨t, u, e, rfl, nt, rfl, eu, ev⟩
        cases eu
        rw [hl14] at hj
        have ev' : (es.map V.ref)[j]? = some e := ev
        rw [List.getElem?_map] at ev'
        obtain ⟨aj, ha, rfl⟩ := Option.map_eq_some_iff.mp ev'
        have EK : ErrK C (upd H5 t (.tup [.int j, .ref aj])) j aj := by
          have q := (E4.get ha).mono (s5.trans (same_new nt (.tup [.int j, .ref aj])))
          rw [Nat.zero_add] at q
          exact q
        refine ⟨t, [.int j, .ref aj], rfl, SqT.of upd_same, rfl, .int j, [.ref aj], rfl, .ref aj, [], rfl, rfl, ?_⟩
        -- if _law_kinds(e) != [j == k for j in range(14)] or not isinstance(e, IdleError)
        refine ⟨_, rfl, aj, j, rfl, hj, EK, fun pk H7 s7 hpk => ?_⟩
        refine ⟨14, rfl, by decide, by decide, fun Dl nD => lc_range (lo := 0) (n := 14) (fun m H8 => Same H7 H8 ∧ H8 Dl = some (.lst ((List.range m).map fun (q : Nat) => V.bl (decide (V.int (0 + (q : Int)) = V.int (j : Int)))))) ⟨same_new nD _, upd_same⟩ ?_ ?_⟩
        · rintro m H8 hm ⟨s8, d8⟩
          refine ⟨rfl, _, rfl, _, rfl, rfl, _, d8, ?_, ?_⟩
          · rw [List.length_map, List.length_range]
            exact small1000 (by omega)
          · refine ⟨fun z o hz => ?_, ?_⟩
            · rw [upd_ne (ne_of_none hz nD)]
              exact s8 _ _ hz
            · rw [upd_same, List.range_succ, List.map_append]
              rfl
        · rintro H8 ⟨s8, d8⟩
          have el : ((List.range 14).map fun (q : Nat) => V.bl (decide (V.int (0 + (q : Int)) = V.int (j : Int)))) = (List.range 14).map fun (q : Nat) => V.bl (decide (j = q)) := List.map_congr_left fun q _ => by rw [dec_ji]
          rw [el] at d8
          refine ⟨.list (bs j), .list (bs j), .lst (SqL.of (s8 _ _ hpk)) (bs_dp _ _), .lst (SqL.of d8) (bs_dp _ _), bs_shape hj, bs_shape hj, _, rfl, ?_⟩
          rw [bs_eq hj]
          have EK8 := EK.mono (s7.trans s8)
          obtain ⟨d, e1, e2⟩ := EK8
          refine iteF ⟨_, rfl, aj, C j, d, .ref (C 14), .ref (C 14), true, rfl, e1, e2, T.ex j hj, fun u r => r, T.kI j hj, _, rfl, iteF ?_⟩
          refine ⟨_, rfl, aj, C j, d, .ty "ValueError", .type "ValueError", true, rfl, e1, e2, T.ex j hj, fun u r => r, T.kV j hj, _, rfl, iteF ?_⟩
          exact ⟨_, _, _, rfl, ((s5.trans (same_new nt _)).trans s7).trans s8⟩
      · rintro σ H5 ⟨v2, v4, v5, rfl, s5⟩
        -- if not all([_law_same(h, x) for h in _law_held(x)])
        refine ⟨_, rfl, x, rfl, fun ph H6 s6 hph => ⟨ph, rfl, ⟨_, SqL.of hph⟩, fun Dl nD => ?_⟩⟩
        refine lc_list (K := K) (a := ph) (xs := List.replicate 24 x) (fun m H7 => Same H6 H7 ∧ H7 Dl = some (.lst (List.replicate m (.bl true)))) ⟨same_new nD _, upd_same⟩ (fun m H7 _ q => SqL.of (q.1 _ _ hph)) ?_ ?_
        · rintro m y H7 hm ⟨s7, d7⟩
          have hml : m < (List.replicate 24 x).length := (List.getElem?_eq_some_iff.mp hm).1
          rw [List.length_replicate] at hml
          have ey : y = x := (List.mem_replicate.mp (List.mem_of_getElem? hm)).2
          subst ey
          refine ⟨rfl, _, rfl, _, rfl, y, y, rfl, sv.mono (((s4.trans s5).trans s6).trans s7), fun H8 s8 => ⟨_, s8 _ _ d7, ?_, ?_⟩⟩
          · rw [List.length_replicate]
            exact small1000 (by omega)
          · refine ⟨fun z o hz => ?_, by rw [upd_same, List.replicate_succ']⟩
            rw [upd_ne (ne_of_none hz nD)]
            exact s8 _ _ (s7 _ _ hz)
        · rintro H7 ⟨s7, d7⟩
          rw [List.length_replicate] at d7
          refine ⟨Dl, List.replicate 24 true, rfl, SqL.of (by rw [List.map_replicate]; exact d7), _, rfl, ?_⟩
          refine iteF ⟨_, _, _, _, rfl, S3.mono (((s4.trans s5).trans s6).trans s7)⟩
    · rintro σ H2 ⟨v2, v3, v4, v5, rfl, S⟩
      exact k H2
end
end K1
set_option maxRecDepth 100000
set_option maxHeartbeats 8000000
namespace K1
open PySem L2
/-! what the top has written -/
def nms : List Str := ["BadProgram", "NoPlace", "NoWrite", "BadText", "BadMeeting", "NoName", "UnlikeNames", "BadLot", "BadNumbers", "BadAnswer", "UnlikeBones", "BadPromise", "TooMany", "Parted", "IdleError"]
def Ca (K : PySem.W.Frag) (i : Nat) : Addr := He.ga K (nms.getD i "")
def fas : List He.Fa := [.glo "BadProgram", .glo "NoPlace", .glo "NoWrite", .glo "BadText", .glo "BadMeeting", .glo "NoName", .glo "UnlikeNames", .glo "BadLot", .glo "BadNumbers", .glo "BadAnswer", .glo "UnlikeBones", .glo "BadPromise", .glo "TooMany", .glo "Parted", .glo "IdleError", .glo "_law_fresh", .glo "_law_take", .glo "_law_one", .glo "_law_same", .glo "_law_kinds", .glo "_law_by_place", .glo "_law_held", .glo "law", .free "isinstance", .free "list", .free "tuple", .free "len", .free "all", .free "zip", .free "int", .free "bool", .free "abs", .free "range", .free "enumerate", .free "ValueError", .keep "_law_fresh", .keep "_law_take", .keep "_law_one", .keep "_law_same", .keep "_law_kinds", .keep "_law_by_place", .keep "_law_held", .keep "law", .exc "UnlikeNames", .exc "BadNumbers", .noat "BadProgram" "place", .noat "NoPlace" "place", .noat "NoWrite" "place", .noat "BadText" "line", .noat "BadMeeting" "index", .noat "NoName" "name", .noat "BadLot" "index", .noat "BadAnswer" "index", .noat "UnlikeBones" "place", .noat "BadPromise" "index", .noat "TooMany" "n", .noat "Parted" "parting"]
def fns : List He.FnD := [⟨("BadProgram", some "__init__"), "__init__", "BadProgram.__init__", defArgs sI0, defBody sI0, defScope sI0⟩, ⟨("NoPlace", some "__init__"), "__init__", "NoPlace.__init__", defArgs sI1, defBody sI1, defScope sI1⟩, ⟨("NoWrite", some "__init__"), "__init__", "NoWrite.__init__", defArgs sI2, defBody sI2, defScope sI2⟩, ⟨("BadText", some "__init__"), "__init__", "BadText.__init__", defArgs sI3, defBody sI3, defScope sI3⟩, ⟨("BadMeeting", some "__init__"), "__init__", "BadMeeting.__init__", defArgs sI4, defBody sI4, defScope sI4⟩, ⟨("NoName", some "__init__"), "__init__", "NoName.__init__", defArgs sI5, defBody sI5, defScope sI5⟩, ⟨("BadLot", some "__init__"), "__init__", "BadLot.__init__", defArgs sI7, defBody sI7, defScope sI7⟩, ⟨("BadAnswer", some "__init__"), "__init__", "BadAnswer.__init__", defArgs sI9, defBody sI9, defScope sI9⟩, ⟨("UnlikeBones", some "__init__"), "__init__", "UnlikeBones.__init__", defArgs sI10, defBody sI10, defScope sI10⟩, ⟨("BadPromise", some "__init__"), "__init__", "BadPromise.__init__", defArgs sI11, defBody sI11, defScope sI11⟩, ⟨("TooMany", some "__init__"), "__init__", "TooMany.__init__", defArgs sI12, defBody sI12, defScope sI12⟩, ⟨("Parted", some "__init__"), "__init__", "Parted.__init__", defArgs sI13, defBody sI13, defScope sI13⟩, ⟨("_law_fresh", none), "_law_fresh", "_law_fresh", defArgs sFresh, defBody sFresh, defScope sFresh⟩, ⟨("_law_take", none), "_law_take", "_law_take", defArgs sTake, defBody sTake, defScope sTake⟩, ⟨("_law_one", none), "_law_one", "_law_one", defArgs sOne, defBody sOne, defScope sOne⟩, ⟨("_law_same", none), "_law_same", "_law_same", defArgs sSame, defBody sSame, defScope sSame⟩, ⟨("_law_kinds", none), "_law_kinds", "_law_kinds", defArgs sKinds, defBody sKinds, defScope sKinds⟩, ⟨("_law_by_place", none), "_law_by_place", "_law_by_place", defArgs sBy, defBody sBy, defScope sBy⟩, ⟨("_law_held", none), "_law_held", "_law_held", defArgs sHeld, defBody sHeld, defScope sHeld⟩, ⟨("law", none), "law", "law", defArgs sLaw, defBody sLaw, defScope sLaw⟩]
def oexB (K : PySem.W.Frag) (C : Addr) : Bool := match K.lookup C with
  | some ⟨.type "type", _, .cls cd, sl⟩ => (match cd.mro, sl.toList with
    | .ref D :: bm, [_, _, _, _, some (.builtin n), _] => D == C && n == "ValueError.__new__" && !cd.hasDel && cd.hasDict && PySem.HandSPX.refsVE bm
    | _, _ => false)
  | _ => false
theorem oexB_ok {K : PySem.W.Frag} {C : Addr} (q : oexB K C = true) : ∃ nm q N bs bm sn sub ab col dd k0 k1 k2 k3 k5, K.lookup C = some (excClassObj nm q C N bs bm true sn sub ab col dd k0 k1 k2 k3 k5 "ValueError.__new__") ∧ PySem.HandSPX.refsVE bm = true := by
  unfold oexB at q
  split at q
  · rename_i dd cd sl look
    split at q
    · rename_i D bm k0 k1 k2 k3 n k5 mro slots
      simp only [Bool.and_eq_true, beq_iff_eq, Bool.not_eq_true'] at q
      obtain ⟨⟨⟨⟨rfl, rfl⟩, q3⟩, q4⟩, q5⟩ := q
      obtain ⟨nm, bs, ms, ns, qn, hd, sn, sub, ab, col, del⟩ := cd
      dsimp only at mro q3 q4
      subst mro q3 q4
      obtain ⟨sll⟩ := sl
      dsimp only at slots
      subst slots
      exact ⟨nm, qn, ns, bs, bm, sn, sub, ab, col, dd, k0, k1, k2, k3, k5, look, q5⟩
    · cases q
  · cases q
/-- of the i-th class -/
def clB (K : PySem.W.Frag) (i : Nat) : Bool := xfB K (Ca K i) && (decide (PySem.W.findIn K (.ref (Ca K i)) "__class__" = some (some (.builtin "object.__class__"))) && (decide (PySem.W.mroIn K (Ca K i) (.type "object") = some true) &&
  (((List.range 14).all fun j => decide (PySem.W.kitOne K (.ref (Ca K i)) (.ref (Ca K j)) = some (decide (i = j)))) && (decide (PySem.W.kitOne K (.ref (Ca K i)) (.ref (Ca K 14)) = some true) && decide (PySem.W.kitOne K (.ref (Ca K i)) (.type "ValueError") = some true)))))
/-- of the i-th class, if it has an __init__ -/
def inB (K : PySem.W.Frag) (i : Nat) : Bool := oexB K (Ca K i) && (decide (PySem.W.findIn K (.ref (Ca K i)) "__setattr__" = some (some (.builtin "object.__setattr__"))) && (decide (PySem.W.typeIn K (.ref (Ca K i)) = some (.type "type")) && (PySem.W.keepIn K (.ref (Ca K i)) &&
  (decide (PySem.W.findIn K (.ref (Ca K i)) "__init__" = some (some (.ref (He.ma K (Ca K i) "__init__")))) && (decide (PySem.W.typeIn K (.ref (He.ma K (Ca K i) "__init__")) = some (.type "function")) && PySem.W.keepIn K (.ref (He.ma K (Ca K i) "__init__")))))))
def exB (K : PySem.W.Frag) : Bool := ((List.range 14).all fun i => clB K i) && (([0, 1, 2, 3, 4, 5, 7, 9, 10, 11, 12, 13].all fun i => inB K i) && (decide (PySem.W.specialIn K (.builtin "object.__class__") "__get__" = some (some (.builtin "getset_descriptor.__get__"))) && decide (PySem.W.takesIn K (.builtin "object.__class__") = some true)))
section
variable {P : Program} {w : World} {K : PySem.W.Frag} {mg : Str → Option Value} {base h : Heap}
theorem kb {f : Str} {fd : FuncData} {x qual : Str} {st : Stmt} {a : Addr} (F : Fun K x qual st a fd) (hb : ∀ (kV doc pm : Value) (an : Option Addr) (cdv ct u v : Value), bindArgs (PySem.W.fnOf x qual (defArgs st) (defBody st) (defScope st) .none kV doc pm an cdv ct) ⟨[u, v], []⟩ = pure [(("self" : Str), u), (f, v)])
    (hk : ∀ (kV doc pm : Value) (an : Option Addr) (cdv ct u v : Value), bindArgs (PySem.W.fnOf x qual (defArgs st) (defBody st) (defScope st) .none kV doc pm an cdv ct) ⟨[u], [(f, v)]⟩ = pure [(("self" : Str), u), (f, v)]) :
    KBn K fd ["self", f] 2 [] (fun us ws => us ++ ws) (fun vs zs => vs ++ zs) ∧ KBn K fd ["self", f] 1 [f] (fun us ws => us ++ ws) (fun vs zs => vs ++ zs) := by
  obtain ⟨oc, od, kV, doc, pm, an, cdv, ct, osl, rfl, lk, hcd⟩ := F.ex
  refine ⟨⟨fun s us ws _ l1 l2 => ?_, fun r1 r2 => r1.append r2⟩, ⟨fun s us ws _ l1 l2 => ?_, fun r1 r2 => r1.append r2⟩⟩
  · match us, ws, l1, l2 with
    | [u, v], [], _, _ => exact .of_eq (hb _ _ _ _ _ _ u v)
  · match us, ws, l1, l2 with
    | [u], [v], _, _ => exact .of_eq (hk _ _ _ _ _ _ u v)
theorem clB_ok {i : Nat} (g : PySem.W.specialIn K (.builtin "object.__class__") "__get__" = some (some (.builtin "getset_descriptor.__get__"))) (t : PySem.W.takesIn K (.builtin "object.__class__") = some true) (q : clB K i = true) :
    XfC K (Ca K i) ∧ ExcC K (Ca K i) ∧ (∀ j, j < 14 → PySem.W.kitOne K (.ref (Ca K i)) (.ref (Ca K j)) = some (decide (i = j))) ∧ PySem.W.kitOne K (.ref (Ca K i)) (.ref (Ca K 14)) = some true ∧ PySem.W.kitOne K (.ref (Ca K i)) (.type "ValueError") = some true := by
  obtain ⟨q1, q⟩ := He.ba q
  obtain ⟨q2, q⟩ := He.ba q
  obtain ⟨q3, q⟩ := He.ba q
  obtain ⟨q4, q⟩ := He.ba q
  obtain ⟨q5, q6⟩ := He.ba q
  have x := xfB_ok q1
  exact ⟨x, ⟨x.ga, x.gg, x.exC, x.hdC, of_decide_eq_true q2, g, t, of_decide_eq_true q3⟩, fun j hj => of_decide_eq_true (List.all_eq_true.mp q4 j (List.mem_range.mpr hj)), of_decide_eq_true q5, of_decide_eq_true q6⟩
theorem inB_ok {i : Nat} (x : XfC K (Ca K i)) (q : inB K i = true) : OexC K (Ca K i) ∧ PySem.W.findIn K (.ref (Ca K i)) "__init__" = some (some (.ref (He.ma K (Ca K i) "__init__"))) ∧ PySem.W.typeIn K (.ref (He.ma K (Ca K i) "__init__")) = some (.type "function") ∧
    PySem.W.keepIn K (.ref (He.ma K (Ca K i) "__init__")) = true := by
  obtain ⟨q1, q⟩ := He.ba q
  obtain ⟨q2, q⟩ := He.ba q
  obtain ⟨q3, q⟩ := He.ba q
  obtain ⟨q4, q⟩ := He.ba q
  obtain ⟨q5, q⟩ := He.ba q
  obtain ⟨q6, q7⟩ := He.ba q
  exact ⟨⟨oexB_ok q1, of_decide_eq_true q2, x.exC, of_decide_eq_true q3, q4⟩, of_decide_eq_true q5, of_decide_eq_true q6, q7⟩
theorem er_of (X : K.In h) (G : h.Ns mainGlobals mg) (c : He.SaysE fas fns K) (e : exB K = true) : Er P w K mg base (Ca K) := by
  obtain ⟨e1, e⟩ := He.ba e
  obtain ⟨e2, e⟩ := He.ba e
  obtain ⟨e3, e4⟩ := He.ba e
  have cl : ∀ i, i < 14 → _ := fun i hi => clB_ok (i := i) (of_decide_eq_true e3) (of_decide_eq_true e4) (List.all_eq_true.mp e1 i (List.mem_range.mpr hi))
  have it : ∀ i, i ∈ [0, 1, 2, 3, 4, 5, 7, 9, 10, 11, 12, 13] → i < 14 → _ := fun i hi h14 => inB_ok (i := i) (cl i h14).1 (List.all_eq_true.mp e2 i hi)
  have E0 : EC P w K mg base "BadProgram" (Ca K 0) "place" := by
    obtain ⟨oc, od, osl, kV, doc, pm, an, cdv, ct, lk, cd⟩ := c.def_ 0 rfl
    obtain ⟨t1, t2, t3, t4⟩ := it 0 (by decide) (by decide)
    have F := fun_mk (st := sI0) lk cd t4
    have b := kb (f := "place") F (fun _ _ _ _ _ _ _ _ => rfl) (fun _ _ _ _ _ _ _ _ => rfl)
    exact ⟨t1, He.noat_ok (c.fact 45 rfl), He.glo_ok X G (c.fact 0 rfl), (cl 0 (by decide)).1, _, _, t2, t3, ok_i0 F, b⟩
  have E1 : EC P w K mg base "NoPlace" (Ca K 1) "place" := by
    obtain ⟨oc, od, osl, kV, doc, pm, an, cdv, ct, lk, cd⟩ := c.def_ 1 rfl
    obtain ⟨t1, t2, t3, t4⟩ := it 1 (by decide) (by decide)
    have F := fun_mk (st := sI1) lk cd t4
    have b := kb (f := "place") F (fun _ _ _ _ _ _ _ _ => rfl) (fun _ _ _ _ _ _ _ _ => rfl)
    exact ⟨t1, He.noat_ok (c.fact 46 rfl), He.glo_ok X G (c.fact 1 rfl), (cl 1 (by decide)).1, _, _, t2, t3, ok_i1 F, b⟩
  have E2 : EC P w K mg base "NoWrite" (Ca K 2) "place" := by
    obtain ⟨oc, od, osl, kV, doc, pm, an, cdv, ct, lk, cd⟩ := c.def_ 2 rfl
    obtain ⟨t1, t2, t3, t4⟩ := it 2 (by decide) (by decide)
    have F := fun_mk (st := sI2) lk cd t4
    have b := kb (f := "place") F (fun _ _ _ _ _ _ _ _ => rfl) (fun _ _ _ _ _ _ _ _ => rfl)
    exact ⟨t1, He.noat_ok (c.fact 47 rfl), He.glo_ok X G (c.fact 2 rfl), (cl 2 (by decide)).1, _, _, t2, t3, ok_i2 F, b⟩
  have E3 : EC P w K mg base "BadText" (Ca K 3) "line" := by
    obtain ⟨oc, od, osl, kV, doc, pm, an, cdv, ct, lk, cd⟩ := c.def_ 3 rfl
    obtain ⟨t1, t2, t3, t4⟩ := it 3 (by decide) (by decide)
    have F := fun_mk (st := sI3) lk cd t4
    have b := kb (f := "line") F (fun _ _ _ _ _ _ _ _ => rfl) (fun _ _ _ _ _ _ _ _ => rfl)
    exact ⟨t1, He.noat_ok (c.fact 48 rfl), He.glo_ok X G (c.fact 3 rfl), (cl 3 (by decide)).1, _, _, t2, t3, ok_i3 F, b⟩
  have E4 : EC P w K mg base "BadMeeting" (Ca K 4) "index" := by
    obtain ⟨oc, od, osl, kV, doc, pm, an, cdv, ct, lk, cd⟩ := c.def_ 4 rfl
    obtain ⟨t1, t2, t3, t4⟩ := it 4 (by decide) (by decide)
    have F := fun_mk (st := sI4) lk cd t4
    have b := kb (f := "index") F (fun _ _ _ _ _ _ _ _ => rfl) (fun _ _ _ _ _ _ _ _ => rfl)
    exact ⟨t1, He.noat_ok (c.fact 49 rfl), He.glo_ok X G (c.fact 4 rfl), (cl 4 (by decide)).1, _, _, t2, t3, ok_i4 F, b⟩
  have E5 : EC P w K mg base "NoName" (Ca K 5) "name" := by
    obtain ⟨oc, od, osl, kV, doc, pm, an, cdv, ct, lk, cd⟩ := c.def_ 5 rfl
    obtain ⟨t1, t2, t3, t4⟩ := it 5 (by decide) (by decide)
    have F := fun_mk (st := sI5) lk cd t4
    have b := kb (f := "name") F (fun _ _ _ _ _ _ _ _ => rfl) (fun _ _ _ _ _ _ _ _ => rfl)
    exact ⟨t1, He.noat_ok (c.fact 50 rfl), He.glo_ok X G (c.fact 5 rfl), (cl 5 (by decide)).1, _, _, t2, t3, ok_i5 F, b⟩
  have E7 : EC P w K mg base "BadLot" (Ca K 7) "index" := by
    obtain ⟨oc, od, osl, kV, doc, pm, an, cdv, ct, lk, cd⟩ := c.def_ 6 rfl
    obtain ⟨t1, t2, t3, t4⟩ := it 7 (by decide) (by decide)
    have F := fun_mk (st := sI7) lk cd t4
    have b := kb (f := "index") F (fun _ _ _ _ _ _ _ _ => rfl) (fun _ _ _ _ _ _ _ _ => rfl)
    exact ⟨t1, He.noat_ok (c.fact 51 rfl), He.glo_ok X G (c.fact 7 rfl), (cl 7 (by decide)).1, _, _, t2, t3, ok_i7 F, b⟩
  have E9 : EC P w K mg base "BadAnswer" (Ca K 9) "index" := by
    obtain ⟨oc, od, osl, kV, doc, pm, an, cdv, ct, lk, cd⟩ := c.def_ 7 rfl
    obtain ⟨t1, t2, t3, t4⟩ := it 9 (by decide) (by decide)
    have F := fun_mk (st := sI9) lk cd t4
    have b := kb (f := "index") F (fun _ _ _ _ _ _ _ _ => rfl) (fun _ _ _ _ _ _ _ _ => rfl)
    exact ⟨t1, He.noat_ok (c.fact 52 rfl), He.glo_ok X G (c.fact 9 rfl), (cl 9 (by decide)).1, _, _, t2, t3, ok_i9 F, b⟩
  have E10 : EC P w K mg base "UnlikeBones" (Ca K 10) "place" := by
    obtain ⟨oc, od, osl, kV, doc, pm, an, cdv, ct, lk, cd⟩ := c.def_ 8 rfl
    obtain ⟨t1, t2, t3, t4⟩ := it 10 (by decide) (by decide)
    have F := fun_mk (st := sI10) lk cd t4
    have b := kb (f := "place") F (fun _ _ _ _ _ _ _ _ => rfl) (fun _ _ _ _ _ _ _ _ => rfl)
    exact ⟨t1, He.noat_ok (c.fact 53 rfl), He.glo_ok X G (c.fact 10 rfl), (cl 10 (by decide)).1, _, _, t2, t3, ok_i10 F, b⟩
  have E11 : EC P w K mg base "BadPromise" (Ca K 11) "index" := by
    obtain ⟨oc, od, osl, kV, doc, pm, an, cdv, ct, lk, cd⟩ := c.def_ 9 rfl
    obtain ⟨t1, t2, t3, t4⟩ := it 11 (by decide) (by decide)
    have F := fun_mk (st := sI11) lk cd t4
    have b := kb (f := "index") F (fun _ _ _ _ _ _ _ _ => rfl) (fun _ _ _ _ _ _ _ _ => rfl)
    exact ⟨t1, He.noat_ok (c.fact 54 rfl), He.glo_ok X G (c.fact 11 rfl), (cl 11 (by decide)).1, _, _, t2, t3, ok_i11 F, b⟩
  have E12 : EC P w K mg base "TooMany" (Ca K 12) "n" := by
    obtain ⟨oc, od, osl, kV, doc, pm, an, cdv, ct, lk, cd⟩ := c.def_ 10 rfl
    obtain ⟨t1, t2, t3, t4⟩ := it 12 (by decide) (by decide)
    have F := fun_mk (st := sI12) lk cd t4
    have b := kb (f := "n") F (fun _ _ _ _ _ _ _ _ => rfl) (fun _ _ _ _ _ _ _ _ => rfl)
    exact ⟨t1, He.noat_ok (c.fact 55 rfl), He.glo_ok X G (c.fact 12 rfl), (cl 12 (by decide)).1, _, _, t2, t3, ok_i12 F, b⟩
  have E13 : EC P w K mg base "Parted" (Ca K 13) "parting" := by
    obtain ⟨oc, od, osl, kV, doc, pm, an, cdv, ct, lk, cd⟩ := c.def_ 11 rfl
    obtain ⟨t1, t2, t3, t4⟩ := it 13 (by decide) (by decide)
    have F := fun_mk (st := sI13) lk cd t4
    have b := kb (f := "parting") F (fun _ _ _ _ _ _ _ _ => rfl) (fun _ _ _ _ _ _ _ _ => rfl)
    exact ⟨t1, He.noat_ok (c.fact 56 rfl), He.glo_ok X G (c.fact 13 rfl), (cl 13 (by decide)).1, _, _, t2, t3, ok_i13 F, b⟩
  exact {
    isi := He.free_ok X G (c.fact 23 rfl)
    g0 := He.glo_ok X G (c.fact 0 rfl)
    e0 := E0
    g1 := He.glo_ok X G (c.fact 1 rfl)
    e1 := E1
    g2 := He.glo_ok X G (c.fact 2 rfl)
    e2 := E2
    g3 := He.glo_ok X G (c.fact 3 rfl)
    e3 := E3
    g4 := He.glo_ok X G (c.fact 4 rfl)
    e4 := E4
    g5 := He.glo_ok X G (c.fact 5 rfl)
    e5 := E5
    g6 := He.glo_ok X G (c.fact 6 rfl)
    q6 := (He.exc_ok (c.fact 43 rfl)).1
    k6 := (He.exc_ok (c.fact 43 rfl)).2.1
    g7 := He.glo_ok X G (c.fact 7 rfl)
    e7 := E7
    g8 := He.glo_ok X G (c.fact 8 rfl)
    q8 := (He.exc_ok (c.fact 44 rfl)).1
    k8 := (He.exc_ok (c.fact 44 rfl)).2.1
    g9 := He.glo_ok X G (c.fact 9 rfl)
    e9 := E9
    g10 := He.glo_ok X G (c.fact 10 rfl)
    e10 := E10
    g11 := He.glo_ok X G (c.fact 11 rfl)
    e11 := E11
    g12 := He.glo_ok X G (c.fact 12 rfl)
    e12 := E12
    g13 := He.glo_ok X G (c.fact 13 rfl)
    e13 := E13
    ex := fun i hi => (cl i hi).2.1
    kit := fun i j hi hj => (cl i hi).2.2.1 j hj
    gI := He.glo_ok X G (c.fact 14 rfl)
    kI := fun i hi => (cl i hi).2.2.2.1
    kV := fun i hi => (cl i hi).2.2.2.2
    gV := He.free_ok X G (c.fact 34 rfl) }
theorem facts {fa : Addr} (X : K.In h) (G : h.Ns mainGlobals mg) (hfa : mg ("law" : Str) = some (.ref fa)) (c : He.SaysE fas fns K) (e : exB K = true) :
    ∃ fd : FuncData, (∀ (s : Shared) (v : Value), BindsTo s fd ⟨[v], []⟩ [("_law_script", v)]) ∧ ∀ base : Heap, K.In base → base.Ns mainGlobals mg → FnOk P w K mg base CX0 4 fa fd ["_law_script"] (spLaw K) := by
  obtain ⟨oc0, od0, osl0, kV0, doc0, pm0, an0, cdv0, ct0, lk0, cd0⟩ := c.def_ 12 rfl
  have F0 := fun_mk (st := sFresh) lk0 cd0 (He.keep_ok (c.fact 35 rfl))
  have b0 := F0.binds (ps := ["_law_script"]) fun _ _ _ _ _ _ us hl => match us, hl with | [_], _ => rfl
  obtain ⟨oc1, od1, osl1, kV1, doc1, pm1, an1, cdv1, ct1, lk1, cd1⟩ := c.def_ 13 rfl
  have F1 := fun_mk (st := sTake) lk1 cd1 (He.keep_ok (c.fact 36 rfl))
  have b1 := F1.binds (ps := ["_law_state", "_law_many"]) fun _ _ _ _ _ _ us hl => match us, hl with | [_, _], _ => rfl
  obtain ⟨oc2, od2, osl2, kV2, doc2, pm2, an2, cdv2, ct2, lk2, cd2⟩ := c.def_ 14 rfl
  have F2 := fun_mk (st := sOne) lk2 cd2 (He.keep_ok (c.fact 37 rfl))
  have b2 := F2.binds (ps := ["_law_state", "_law_things"]) fun _ _ _ _ _ _ us hl => match us, hl with | [_, _], _ => rfl
  obtain ⟨oc3, od3, osl3, kV3, doc3, pm3, an3, cdv3, ct3, lk3, cd3⟩ := c.def_ 15 rfl
  have F3 := fun_mk (st := sSame) lk3 cd3 (He.keep_ok (c.fact 38 rfl))
  have b3 := F3.binds (ps := ["_law_found", "_law_due"]) fun _ _ _ _ _ _ us hl => match us, hl with | [_, _], _ => rfl
  obtain ⟨oc4, od4, osl4, kV4, doc4, pm4, an4, cdv4, ct4, lk4, cd4⟩ := c.def_ 16 rfl
  have F4 := fun_mk (st := sKinds) lk4 cd4 (He.keep_ok (c.fact 39 rfl))
  have b4 := F4.binds (ps := ["_law_e"]) fun _ _ _ _ _ _ us hl => match us, hl with | [_], _ => rfl
  obtain ⟨oc5, od5, osl5, kV5, doc5, pm5, an5, cdv5, ct5, lk5, cd5⟩ := c.def_ 17 rfl
  have F5 := fun_mk (st := sBy) lk5 cd5 (He.keep_ok (c.fact 40 rfl))
  have b5 := F5.binds (ps := ["_law_x"]) fun _ _ _ _ _ _ us hl => match us, hl with | [_], _ => rfl
  obtain ⟨oc6, od6, osl6, kV6, doc6, pm6, an6, cdv6, ct6, lk6, cd6⟩ := c.def_ 18 rfl
  have F6 := fun_mk (st := sHeld) lk6 cd6 (He.keep_ok (c.fact 41 rfl))
  have b6 := F6.binds (ps := ["_law_x"]) fun _ _ _ _ _ _ us hl => match us, hl with | [_], _ => rfl
  obtain ⟨oc7, od7, osl7, kV7, doc7, pm7, an7, cdv7, ct7, lk7, cd7⟩ := c.def_ 19 rfl
  have F7 := fun_mk (st := sLaw) lk7 cd7 (He.keep_ok (c.fact 42 rfl))
  have b7 := F7.binds (ps := ["_law_script"]) fun _ _ _ _ _ _ us hl => match us, hl with | [_], _ => rfl
  have z := hfa.symm.trans (He.glo_ok X G (c.fact 22 rfl))
  cases z
  refine ⟨PySem.W.fnOf "law" "law" (defArgs sLaw) (defBody sLaw) (defScope sLaw) .none kV7 doc7 pm7 an7 cdv7 ct7, fun s v => .of_eq rfl, fun base _ _ => ?_⟩
  have T : Er P w K mg base (Ca K) := er_of X G c e
  have tt : TxtT mg := ⟨He.free_ok X G (c.fact 26 rfl), He.free_ok X G (c.fact 31 rfl), He.free_ok X G (c.fact 29 rfl)⟩
  have ts : TxtS mg := ⟨He.free_ok X G (c.fact 23 rfl), He.free_ok X G (c.fact 24 rfl), He.free_ok X G (c.fact 25 rfl), He.free_ok X G (c.fact 26 rfl), He.free_ok X G (c.fact 27 rfl), He.free_ok X G (c.fact 28 rfl), He.free_ok X G (c.fact 29 rfl), He.free_ok X G (c.fact 30 rfl)⟩
  exact ok_law F7 T ⟨⟨_, _, He.glo_ok X G (c.fact 15 rfl), F0.kp, b0, ok_fresh F0 (He.free_ok X G (c.fact 24 rfl))⟩, ⟨_, _, He.glo_ok X G (c.fact 17 rfl), F2.kp, b2, ok_one F2 F1 tt (He.glo_ok X G (c.fact 16 rfl)) b1⟩, ⟨_, _, He.glo_ok X G (c.fact 20 rfl), F5.kp, b5, ok_by F5 T⟩,
    ⟨_, _, He.glo_ok X G (c.fact 19 rfl), F4.kp, b4, ok_kinds F4 T⟩, ⟨_, _, He.glo_ok X G (c.fact 21 rfl), F6.kp, b6, ok_held F6 T⟩, ⟨_, _, He.glo_ok X G (c.fact 18 rfl), F3.kp, b3, same_all F3 ts b3 (He.glo_ok X G (c.fact 18 rfl)) 2⟩, He.free_ok X G (c.fact 32 rfl), He.free_ok X G (c.fact 33 rfl), He.free_ok X G (c.fact 27 rfl)⟩
end
end K1
set_option maxRecDepth 100000
namespace K1
open PySem L2
theorem walk {l : PySem.W.OpenLaw} {q : Program} {loose : List Str} {XP : (Str → Option Value) → Heap → Prop} {YP : World → Heap → Prop} {d : DefRec} {K : Params → PySem.W.Frag} (hn : l.most = some 63) (hdf : d.params.defaults = [])
    (hY : ∀ (w : World) (h : Heap), YP w h → (K w.params).In h)
    (F : ∀ (w : World) (mg : Str → Option Value) (fa : Addr) (h : Heap), (K w.params).In h → h.Ns mainGlobals mg → mg d.name = some (.ref fa) →
      ∃ fd : FuncData, (∀ (s : Shared) (u : Value), BindsTo s fd ⟨[u], []⟩ [("_law_script", u)]) ∧ ∀ base : Heap, (K w.params).In base → base.Ns mainGlobals mg → FnOk l.prog w (K w.params) mg base CX0 4 fa fd ["_law_script"] (spLaw (K w.params))) :
    PySem.W.WalkO q loose XP YP l.row.toRowW d [] (fun f vs => PySem.call f vs) :=
  L2.walk_of (n := 63) (k := 4) (x := "_law_script") (CX := fun _ => CX0) (sp := fun w => spLaw (K w.params)) hn (by decide) hdf ⟨rfl, by decide, by decide⟩ hY F (fun _ _ a ns hl _ hS => ⟨a, ns, rfl, hS, hl, fun _ => rfl⟩) fun _ _ _ _ _ z => z
end K1
open PySem PySem.W PyProof.Rows
set_option maxRecDepth 100000 in
set_option maxHeartbeats 0 in
theorem PySem.Challenge.cw_idlewrites_k01_errors_made_holds : PySem.Challenge.rw_idlewrites_k01_errors_made.Holds := by
  w_on; o_law; k_head; (case hw => w_witness2)
  k_fill
  refine K1.walk (l := PySem.Challenge.rw_idlewrites_k01_errors_made) rfl rfl (fun w h Y => PySem.W.kIn_of Y) ?F
  case F =>
    intro w mg fa h KX G hmg
    refine' K1.facts KX G hmg ?c ?e
    case c =>
      refine (?_ : He.obsE K1.fas K1.fns _ = He.valE K1.fns)
      kernel_rfl
    case e => kernel_rfl
