import PyProof.Rows.All
import Wide.All
import OpenK.AllK
import Wide.FinOn
import HandS.ForExc
import HandS.Wide
import HandS.Comp
import HandS.Iter
import HandS.More
import HandS.Dict
import HandS.Walk
import HandS.IsInst
import HandS.Small
import HandS.TupAny
import HandS.Steps
import HandS.TupSets
import HandS.TupLe
import HandS.DictComp
import HandS.ForMost
import HandS.Zip
import KE.GoesMore
import KE.GoesZip
import PyProof.ReprRoads
import PyProof.CallFns
import HandS.ExcInit
import HandS.ExcField
import HandS.ForList
import HandS.SlotsOwn
import PyProof.InstNe
import HandS.Codes
import PyProof.EqKinds
import PyProof.DictFindH
import PyProof.DictRoadsH
import PyProof.TupleKey
import HandS.Deep
import HandS.Star
import HandS.Style
import HandS.HeadHook1
import PySem.Challenge.RW_idlewrites_k16_lots_made
set_option Elab.async false
set_option maxRecDepth 100000
namespace K1
open PySem L2
/-- the top's statements by their places -/
def top (i : Nat) : Stmt := PySem.Challenge.pw_idlewrites_k16_lots_made.main.body.getD i (.Pass ⟨0, 0, 0, 0⟩)
abbrev cBadLotInit : Stmt := inClass (top 2) 0
abbrev pIsInteger : Stmt := top 4
abbrev pIsList : Stmt := top 5
abbrev pAsPlace : Stmt := top 6
abbrev cLotInit : Stmt := inClass (top 8) 0
abbrev cLotLen : Stmt := inClass (top 8) 1
abbrev cLotContains : Stmt := inClass (top 8) 2
abbrev cLotEq : Stmt := inClass (top 8) 3
abbrev cLotOr : Stmt := inClass (top 8) 4
abbrev cLotAnd : Stmt := inClass (top 8) 5
abbrev cLotSub : Stmt := inClass (top 8) 6
abbrev cLotXor : Stmt := inClass (top 8) 7
abbrev cLotLe : Stmt := inClass (top 8) 8
abbrev cLotLt : Stmt := inClass (top 8) 9
abbrev cLotGe : Stmt := inClass (top 8) 10
abbrev cLotGt : Stmt := inClass (top 8) 11
abbrev cLotLiesIn : Stmt := inClass (top 8) 12
abbrev pAscendingPlaces : Stmt := top 9
abbrev sFresh : Stmt := top 11
abbrev sTake : Stmt := top 12
abbrev sOne : Stmt := top 13
abbrev sMix : Stmt := top 14
abbrev sSame : Stmt := top 15
abbrev sLoose : Stmt := top 16
abbrev sRising : Stmt := top 17
abbrev sPlace : Stmt := top 18
abbrev sFits : Stmt := top 19
abbrev sTried : Stmt := top 20
abbrev sOdd : Stmt := top 21
abbrev sLaw : Stmt := top 22
end K1
set_option maxRecDepth 100000
namespace K1
open PySem L2
/-- while, by a word, a measure, and what stands behind it -/
theorem while_to {c : TT} {tb : TS} {D : Ends} {σ : L2.St} {H : Hp} (Pv Pe : L2.St → Hp → Prop) (μ : L2.St → Hp → Nat) (h0 : Pv σ H)
    (hs : (∀ σ H, Pe σ H → D.nx σ H) → ∀ σ H, Pv σ H → c σ H fun b H1 => if b = true then
      ∃ N : L2.St → Hp → Prop, (∀ σ' H', N σ' H' → ∃ m', m' < μ σ H ∧ (m' = μ σ' H' ∧ Pv σ' H')) ∧ tb { D with nx := N, ct := N, bk := D.nx } σ H1 else D.nx σ H1)
    (hd : ∀ σ H, Pe σ H → D.nx σ H) : tWhile c tb D σ H := by
  refine ⟨fun m σ H => m = μ σ H ∧ Pv σ H, ⟨_, rfl, h0⟩, ?_⟩
  rintro m σ H ⟨rfl, p⟩
  exact hs hd σ H p
/-- the spring: its cells, how many are read, the great one at hand, the mix of the small ones, the turns -/
structure Spr (H : Hp) (st l : Addr) (cs : List Int) (n : Nat) : Prop where
  ex : ∃ (i k : Nat) (c h : Int), H st = some (.lst [.ref l, .int i, .int c, .int h, .int k]) ∧ i ≤ cs.length ∧ 0 ≤ c ∧ 0 ≤ h ∧ h < 2147483647 ∧ k ≤ n
  ls : H l = some (.lst (cs.map V.int))
  ln : cs.length ≤ 63
  ne : st ≠ l
def spTake : Sp := fun vs H Q _ => ∃ (st l : Addr) (cs : List Int) (n : Nat) (m : Int), vs = [.ref st, .int m] ∧ 0 < m ∧ m < 1000000 ∧ n < 1000000 ∧ Spr H st l cs n ∧
  ∀ (r : Int) (H' : Hp), 0 ≤ r → r < m → Spr H' st l cs (n + 1) → (∀ b, b ≠ st → H' b = H b) → Q (.int r) H'
theorem mixB {a b : Int} (h0 : 0 ≤ a) (h1 : a < 1000000007) (h2 : 0 ≤ b) (h3 : b ≤ 1000000) : (a + 31 * b).natAbs < 2 ^ 64 := by omega
structure TxtT (mg : Str → Option Value) : Prop where
  len : mg "len" = none
  abs : mg "abs" = none
  int : mg "int" = none
/-- between two turns of the loop -/
def WT (H : Hp) (st l : Addr) (cs : List Int) (m : Int) (t : Nat) (σ : L2.St) (H2 : Hp) : Prop := ∃ (i : Nat) (c h : Int) (v : Option V), σ = [some (.ref st), some (.int m), v, none, none, none] ∧
  H2 st = some (.lst [.ref l, .int i, .int c, .int h, .int (t + 1)]) ∧ i ≤ cs.length ∧ 0 ≤ c ∧ 0 ≤ h ∧ h < 2147483647 ∧ (∀ b, b ≠ st → H2 b = H b)
def left (n : Nat) : Option HO → Nat
  | some (.lst [_, .int i, _, _, _]) => n - i.toNat
  | _ => 0
theorem left_at {n i : Nat} {a c d e : V} {o : Option HO} (h : o = some (.lst [a, .int i, c, d, e])) : left n o = n - i := by
  rw [h]
  rfl
section
variable {P : Program} {w : World} {K : PySem.W.Frag} {mg : Str → Option Value} {base : Heap}
theorem scT : FnScope ["_law_state", "_law_many", "_law_cell", "_law_digit", "_law_one_here", "_law_two"] ["_law_state", "_law_many"] (defScope sTake) := ⟨rfl, rfl, rfl, by decide +kernel, rfl, by decide +kernel, by decide +kernel⟩
theorem ok_take {f : Addr} {fd : FuncData} (F : Fun K "_law_take" "_law_take" sTake f fd) (T : TxtT mg) : FnOk P w K mg base CX0 1 f fd ["_law_state", "_law_many"] spTake := by
  refine F.ok scT (fun vs H Q E h => ?_) (fun cdv A outer s H vs Q E hr h => ?_)
  · obtain ⟨st, l, cs, n, m, rfl, _⟩ := h
    rfl
  · obtain ⟨st, l, cs, n, m, rfl, hm0, hm1, hn, S, k⟩ := h
    obtain ⟨⟨i, t, c, h, hs, hi, hc, h0, h1, ht⟩, hl, hln, hne⟩ := S
    refine ⟨_, pss_cons (ps_asg (pe_op op_add (pe_ix ix_list (pv 0) pe_int (fun _ _ => rfl)) pe_int) (pg_sub (pv 0) pe_int set_list))
      (pss_cons (ps_while PassesOwn.never
          (pw_and (pt_cmpR op_eq (pe_ix ix_list (pv 0) pe_int (fun _ _ => rfl)) pe_int (nomark _))
            (pw_and1 (pt_cmpR op_lt (pe_ix ix_list (pv 0) pe_int (fun _ _ => rfl)) (pe_callB call_len_seq (by rfl) T.len PySem.boot_len (pa_cons (pe_ix ix_list (pv 0) pe_int (fun _ _ => rfl)) pa_nil)) (nomark _)))).pt
          (pss_cons (ps_set (i := 2) scT.nd rfl (.inl rfl) (pe_callB call_abs (by rfl) T.abs (by decide +kernel) (pa_cons (pe_ix ix_list (pe_ix ix_list (pv 0) pe_int (fun _ _ => rfl)) (pe_ix ix_list (pv 0) pe_int (fun _ _ => rfl)) (fun _ _ => rfl)) pa_nil)))
          (pss_cons (ps_asg (pe_op op_add (pe_ix ix_list (pv 0) pe_int (fun _ _ => rfl)) pe_int) (pg_sub (pv 0) pe_int set_list))
          (pss_one (ps_if (pt_cmpR op_ge (pv 2) (pe_op op_pow pe_int pe_int) (nomark _))
            (pss_one (ps_asg (pv 2) (pg_sub (pv 0) pe_int set_list)))
            (pss_one (ps_asg (pe_op op_mod (pe_callTy call_int1 (by rfl) T.int (by decide +kernel) (pa_cons (pe_op op_add (pe_op op_add (pe_op op_mul (pe_ix ix_list (pv 0) pe_int (fun _ _ => rfl)) pe_int) (pv 2)) pe_int) pa_nil)) pe_int) (pg_sub (pv 0) pe_int set_list))))))))
      (pss_cons (ps_if (pt_cmpR op_gt (pe_ix ix_list (pv 0) pe_int (fun _ _ => rfl)) pe_int (nomark _))
          (pss_cons (ps_set (i := 3) scT.nd rfl (.inl rfl) (pe_op op_mod (pe_callTy call_int1 (by rfl) T.int (by decide +kernel) (pa_cons (pe_ix ix_list (pv 0) pe_int (fun _ _ => rfl)) pa_nil)) (pv 1)))
          (pss_cons (ps_asg (pe_op op_fdivW (pe_ix ix_list (pv 0) pe_int (fun _ _ => rfl)) (pv 1)) (pg_sub (pv 0) pe_int set_list))
          (pss_one (ps_ret (pv 3)))))
          pss_nil)
      (pss_cons (ps_set (i := 4) scT.nd rfl (.inl rfl) (pe_op op_mod (pe_callTy call_int1 (by rfl) T.int (by decide +kernel) (pa_cons (pe_op op_pow (pe_op op_add (pe_op op_add (pe_ix ix_list (pv 0) pe_int (fun _ _ => rfl)) (pe_op op_mul pe_int (pe_ix ix_list (pv 0) pe_int (fun _ _ => rfl)))) pe_int) pe_int) pa_nil)) pe_int))
      (pss_cons (ps_set (i := 5) scT.nd rfl (.inl rfl) (pe_op op_mod (pe_callTy call_int1 (by rfl) T.int (by decide +kernel) (pa_cons (pe_op op_pow (pe_op op_add (pv 4) (pe_op op_mul pe_int (pe_ix ix_list (pv 0) pe_int (fun _ _ => rfl)))) pe_int) pa_nil)) pe_int))
      (pss_one (ps_ret (pe_op op_mod (pe_callTy call_int1 (by rfl) T.int (by decide +kernel) (pa_cons (pe_op op_fdiv (pv 5) pe_int) pa_nil)) (pv 1)))))))), ?_⟩
    -- state[4] = state[4] + 1
    refine ⟨_, rfl, _, _, _, _, rfl, rfl, SqL.of hs, rfl, _, _, rfl, rfl, _, rfl, _, _, _, _, rfl, rfl, hs, rfl, ?_⟩
    -- the while
    refine while_to (WT H st l cs m t) (WT H st l cs m t) (fun _ H2 => left cs.length (H2 st)) ⟨i, c, h, _, rfl, upd_same, hi, hc, h0, h1, fun b hb => upd_ne hb⟩ ?_ ?_
    · intro hd
      rintro σ H2 ⟨i, c, h, v, rfl, hs2, hi, hc, h0, h1, hk⟩
      have hl2 : H2 l = some (.lst (cs.map V.int)) := by rw [hk l hne.symm]; exact hl
      refine ⟨_, rfl, _, _, _, _, rfl, rfl, SqL.of hs2, rfl, rfl, _, rfl, ite2 (fun e => ?_) fun e => ?_⟩
      · have ec : c = 0 := by simpa using e
        subst ec
        refine ⟨_, rfl, _, _, _, _, rfl, rfl, SqL.of hs2, rfl, _, rfl, _, _, _, _, rfl, rfl, SqL.of hs2, rfl, _, _, rfl, .inl (SqL.of hl2), _, _, rfl, rfl, _, rfl, ite2 (fun e2 => ?_) fun e2 => ?_⟩
        · have hlt : i < cs.length := by
            have := of_decide_eq_true e2
            rw [List.length_map] at this
            omega
          have hz : (cs.map V.int)[i]? = some (.int cs[i]) := by rw [List.getElem?_map, List.getElem?_eq_getElem hlt]; rfl
          have eL : left cs.length (H2 st) = cs.length - i := left_at hs2
          refine ⟨fun σ' H' => WT H st l cs m t σ' H' ∧ left cs.length (H' st) < left cs.length (H2 st), fun σ' H' n => ⟨_, n.2, rfl, n.1⟩, ?_⟩
          -- cell = abs(state[0][state[1]])
          refine ⟨_, rfl, _, _, _, _, rfl, rfl, SqL.of hs2, rfl, _, rfl, _, _, _, _, rfl, rfl, SqL.of hs2, rfl, _, _, _, _, rfl, rfl, SqL.of hl2, atI_nat hz, _, rfl, ?_⟩
          -- state[1] = state[1] + 1
          refine ⟨_, rfl, _, _, _, _, rfl, rfl, SqL.of hs2, rfl, _, _, rfl, rfl, _, rfl, _, _, _, _, rfl, rfl, hs2, rfl, ?_⟩
          have hup : ∀ o b, b ≠ st → upd H2 st o b = H b := fun o b hb => by rw [upd_ne hb]; exact hk b hb
          have ha : 0 ≤ (if cs[i] < 0 then -cs[i] else cs[i]) := by split <;> omega
          -- if cell >= 10 ** 18
          refine ⟨_, rfl, _, _, rfl, rfl, ⟨by decide, by decide, by decide⟩, _, _, rfl, rfl, _, rfl, ite2 (fun e3 => ?_) fun e3 => ?_⟩
          · refine ⟨_, rfl, _, rfl, _, _, _, _, rfl, rfl, upd_same, rfl, ⟨⟨i + 1, _, h, _, rfl, upd_same, hlt, ha, h0, h1, fun b hb => by rw [upd_ne hb]; exact hup _ b hb⟩, ?_⟩⟩
            rw [eL]
            exact Nat.lt_of_le_of_lt (Nat.le_of_eq (left_at (i := i + 1) upd_same)) (by omega)
          · refine ⟨_, rfl, _, _, _, _, rfl, rfl, SqL.of upd_same, rfl, _, _, rfl, rfl, .inr (by decide), _, rfl, _, _, rfl, rfl, _, _, rfl, rfl, .inl ⟨_, rfl, _, _, rfl, rfl, (by show (0 : Int) < 2147483647; decide), _, rfl, _, _, _, _, rfl, rfl, upd_same, rfl, ?_⟩⟩
            refine ⟨⟨i + 1, 0, _, _, rfl, upd_same, hlt, Int.le_refl _, Int.emod_nonneg _ (by decide), Int.emod_lt_of_pos _ (by decide), fun b hb => by rw [upd_ne hb]; exact hup _ b hb⟩, ?_⟩
            rw [eL]
            exact Nat.lt_of_le_of_lt (Nat.le_of_eq (left_at (i := i + 1) upd_same)) (by omega)
        · exact hd _ _ ⟨i, 0, h, v, rfl, hs2, hi, hc, h0, h1, hk⟩
      · exact hd _ _ ⟨i, c, h, v, rfl, hs2, hi, hc, h0, h1, hk⟩
    · rintro σ H2 ⟨i, c, h, v, rfl, hs2, hi, hc, h0, h1, hk⟩
      have mk : ∀ (c' : Int) H', 0 ≤ c' → H' st = some (.lst [.ref l, .int i, .int c', .int h, .int (t + 1)]) → (∀ b, b ≠ st → H' b = H b) → Spr H' st l cs (n + 1) := fun c' H' hc' e1 e2 =>
        ⟨⟨i, t + 1, c', h, e1, hi, hc', h0, h1, by omega⟩, by rw [e2 l hne.symm]; exact hl, hln, hne⟩
      -- if state[2] > 0
      refine ⟨_, rfl, _, _, _, _, rfl, rfl, SqL.of hs2, rfl, _, _, rfl, rfl, _, rfl, ite2 (fun e => ?_) fun e => ?_⟩
      · have hw : CDivW c m := wide_div (b := 64) hm0 (by omega) (by decide) (by decide)
        refine ⟨_, rfl, _, _, _, _, rfl, rfl, SqL.of hs2, rfl, .inl ⟨_, rfl, _, rfl, _, _, rfl, rfl, hm0, ?_⟩⟩
        refine ⟨_, rfl, _, _, _, _, rfl, rfl, SqL.of hs2, rfl, _, rfl, _, _, rfl, rfl, hw, _, rfl, _, _, _, _, rfl, rfl, hs2, rfl, _, rfl, ?_⟩
        exact k _ _ (Int.emod_nonneg _ (by omega)) (Int.emod_lt_of_pos _ hm0) (mk _ _ (Int.ediv_nonneg hc (by omega)) upd_same fun b hb => by rw [upd_ne hb]; exact hk b hb) fun b hb => by rw [upd_ne hb]; exact hk b hb
      · -- the mix
        refine ⟨_, rfl, _, _, _, _, rfl, rfl, SqL.of hs2, rfl, _, rfl, _, _, _, _, rfl, rfl, SqL.of hs2, rfl, _, _, rfl, rfl, .inl (by decide), _, _, rfl, rfl, _, _, rfl, rfl, _, _, rfl, rfl, ⟨by decide, by decide, by omega⟩, .inl ⟨_, rfl, _, _, rfl, rfl, (by show (0 : Int) < 1000000007; decide), ?_⟩⟩
        refine ⟨_, rfl, _, rfl, _, _, _, _, rfl, rfl, SqL.of hs2, rfl, _, _, rfl, rfl, .inl (by decide), _, _, rfl, rfl, _, _, rfl, rfl, ⟨by decide, by decide, ?_⟩, .inl ⟨_, rfl, _, _, rfl, rfl, (by show (0 : Int) < 998244353; decide), ?_⟩⟩
        · exact mixB (Int.emod_nonneg _ (by decide)) (Int.emod_lt_of_pos _ (by decide)) (by omega) (by omega)
        refine ⟨_, rfl, _, _, rfl, rfl, ⟨by decide, by decide⟩, .inl ⟨_, rfl, _, rfl, _, _, rfl, rfl, hm0, ?_⟩⟩
        exact k _ _ (Int.emod_nonneg _ (by omega)) (Int.emod_lt_of_pos _ hm0) (mk _ _ hc hs2 hk) hk
end
def spFresh (K : PySem.W.Frag) : Sp := fun vs H Q _ => ∃ (a : Addr) (ns : List Int), vs = [.ref a] ∧ SqL K H a (ns.map V.int) ∧ ns.length ≤ 63 ∧ ∀ (st l : Addr) (cs : List Int) (H' : Hp), Same H H' → Spr H' st l cs 0 → H st = none → Q (.ref st) H'
def spOne : Sp := fun vs H Q _ => ∃ (st l a : Addr) (cs : List Int) (n : Nat) (xs : List V), vs = [.ref st, .ref a] ∧ H a = some (.lst xs) ∧ a ≠ st ∧ 0 < xs.length ∧ xs.length < 1000 ∧ n < 1000000 ∧ Spr H st l cs n ∧
  ∀ (x : V) (H' : Hp), x ∈ xs → Spr H' st l cs (n + 1) → (∀ b, b ≠ st → H' b = H b) → Q x H'
theorem same_new {H : Hp} {p : Addr} (h : H p = none) (o : HO) : Same H (upd H p o) := fun b u q => by rw [upd_ne (ne_of_none q h)]; exact q
theorem sz {n : Nat} (h : n ≤ 1000) : n ≤ sizeLine := Nat.le_of_lt (small1000 h)
theorem Spr.mono {H H' : Hp} {st l : Addr} {cs : List Int} {n : Nat} (S : Spr H st l cs n) (s : Same H H') : Spr H' st l cs n := by
  obtain ⟨⟨i, k, c, h, e, q⟩, h2, h3, h4⟩ := S
  exact ⟨⟨i, k, c, h, s _ _ e, q⟩, s _ _ h2, h3, h4⟩
theorem Spr.not {H : Hp} {st l b : Addr} {cs : List Int} {n : Nat} (S : Spr H st l cs n) (h : H b = none) : b ≠ st := by
  obtain ⟨⟨i, k, c, m, e, q⟩, _⟩ := S
  exact (ne_of_none e h).symm
theorem same_new2 {H : Hp} {p : Addr} (h : H p = none) (o o' : HO) : Same H (upd (upd H p o) p o') := fun b u q => by
  rw [upd_ne (ne_of_none q h), upd_ne (ne_of_none q h)]
  exact q
section
variable {P : Program} {w : World} {K : PySem.W.Frag} {mg : Str → Option Value} {base : Heap}
theorem scF : FnScope ["_law_script"] ["_law_script"] (defScope sFresh) := ⟨rfl, rfl, rfl, by decide +kernel, rfl, by decide +kernel, by decide +kernel⟩
theorem scO : FnScope ["_law_state", "_law_things"] ["_law_state", "_law_things"] (defScope sOne) := ⟨rfl, rfl, rfl, by decide +kernel, rfl, by decide +kernel, by decide +kernel⟩
theorem cut_ints (ns : List Int) (lo hi : Option Int) : ∃ cs : List Int, cutV (ns.map V.int) lo hi = cs.map V.int ∧ cs.length ≤ ns.length := by
  refine ⟨(ns.drop (HT.sIx (ns.map V.int).length 0 lo)).take (HT.sIx (ns.map V.int).length (ns.map V.int).length hi - HT.sIx (ns.map V.int).length 0 lo), ?_, ?_⟩
  · rw [List.map_take, List.map_drop]
    rfl
  · rw [List.length_take, List.length_drop]
    omega
theorem ok_fresh {f : Addr} {fd : FuncData} (F : Fun K "_law_fresh" "_law_fresh" sFresh f fd) (hl : mg "list" = none) : FnOk P w K mg base CX0 1 f fd ["_law_script"] (spFresh K) := by
  refine F.ok scF (fun vs H Q E h => ?_) (fun cdv A outer s H vs Q E hr h => ?_)
  · obtain ⟨a, ns, rfl, _⟩ := h
    rfl
  · obtain ⟨a, ns, rfl, hS, hn, k⟩ := h
    refine ⟨_, pss_one (ps_ret (pe_lst (pa_cons (pe_callTy call_list_of (by rfl) hl (by decide +kernel) (pa_cons (pe_slice sl_list (pv 0) po_none (po_some pe_int)) pa_nil)) (pa_cons pe_int (pa_cons pe_int (pa_cons pe_int (pa_cons pe_int pa_nil))))))), ?_⟩
    obtain ⟨cs, e1, e2⟩ := cut_ints ns none (some 40)
    refine ⟨_, rfl, _, rfl, a, _, rfl, hS, fun p np => ?_⟩
    refine ⟨p, _, rfl, .inl (SqL.of upd_same), fun l nl => ⟨sz (Nat.le_of_ble_eq_true rfl), fun st nst => ?_⟩⟩
    have s1 : Same H (upd H p (.lst (cutV (ns.map V.int) none (some 40)))) := same_new np _
    have ne : l ≠ st := ne_of_none upd_same nst
    refine k st l cs _ ((s1.trans (same_new nl _)).trans (same_new nst _)) ⟨⟨0, 0, 0, 0, upd_same, Nat.zero_le _, Int.le_refl _, Int.le_refl _, by decide, Nat.le_refl _⟩, ?_, Nat.le_trans e2 hn, ne.symm⟩ ((s1.trans (same_new nl _)).free nst)
    rw [upd_ne ne, upd_same, e1]
theorem ok_one {f fT : Addr} {fd fdT : FuncData} (F : Fun K "_law_one" "_law_one" sOne f fd) (FT : Fun K "_law_take" "_law_take" sTake fT fdT) (T : TxtT mg) (gT : mg "_law_take" = some (.ref fT)) (bT : Binds K fdT ["_law_state", "_law_many"] []) :
    FnOk P w K mg base CX0 2 f fd ["_law_state", "_law_things"] spOne := by
  have GT : FnOk P w K mg base CX0 1 fT fdT ["_law_state", "_law_many"] spTake := ok_take FT T
  refine F.ok scO (fun vs H Q E h => ?_) (fun cdv A outer s H vs Q E hr h => ?_)
  · obtain ⟨st, l, a, cs, n, xs, rfl, _⟩ := h
    rfl
  · obtain ⟨st, l, a, cs, n, xs, rfl, ha, nal, h0, h1, hn, S, k⟩ := h
    refine ⟨_, pss_one (ps_ret (pe_ix ix_list (pv 1) (pe_call GT hr rfl gT FT.kp bT .nil pass0 (pa_cons (pv 0) (pa_cons (pe_callB call_len_seq (by rfl) T.len PySem.boot_len (pa_cons (pv 1) pa_nil)) pa_nil))) (fun _ _ => rfl))), ?_⟩
    obtain ⟨i, t, c, h, hs, _⟩ := S.ex
    refine ⟨_, rfl, _, rfl, _, rfl, _, _, rfl, .inl (SqL.of ha), st, l, cs, n, _, rfl, by omega, by omega, hn, S, fun r H' r0 r1 S' hk => ?_⟩
    have hr' : r.toNat < xs.length := by omega
    have e : xs[r.toNat]? = some xs[r.toNat] := List.getElem?_eq_getElem hr'
    refine ⟨a, xs, r, _, rfl, rfl, SqL.of (by rw [hk a nal]; exact ha), at_of (by omega) e, ?_⟩
    exact k _ H' (List.getElem_mem hr') S' hk
end
/-- all but the state stands as it stood -/
def But (st : Addr) (H H' : Hp) : Prop := ∀ b o, b ≠ st → H b = some o → H' b = some o
theorem But.refl (st : Addr) (H : Hp) : But st H H := fun _ _ _ h => h
theorem But.trans {st : Addr} {H H1 H2 : Hp} (a : But st H H1) (b : But st H1 H2) : But st H H2 := fun c o n h => b c o n (a c o n h)
theorem But.of {st : Addr} {H H' : Hp} (s : Same H H') : But st H H' := fun b o _ h => s b o h
theorem But.eq {st : Addr} {H H' : Hp} (k : ∀ b, b ≠ st → H' b = H b) : But st H H' := fun b o n h => by
  rw [k b n]
  exact h
theorem But.free {st : Addr} {H H' : Hp} (k : But st H H') {p : Addr} (hp : H' p = none) (n : p ≠ st) : H p = none := by
  cases q : H p with
  | none => rfl
  | some o =>
    rw [k p o n q] at hp
    cases hp
end K1
set_option maxRecDepth 100000
set_option maxHeartbeats 1000000
namespace K1
open PySem L2
/-! ### data that is compared -/
def off (st : Addr) (H : Hp) : Hp := fun b => if b = st then none else H b
theorem off_ne {st b : Addr} {H : Hp} (h : b ≠ st) : off st H b = H b := if_neg h
theorem off_some {st b : Addr} {H : Hp} {o : HO} (h : off st H b = some o) : b ≠ st ∧ H b = some o := by
  by_cases e : b = st
  · rw [e, off, if_pos rfl] at h
    cases h
  · exact ⟨e, by rw [off_ne e] at h; exact h⟩
theorem But.off {st : Addr} {H H' : Hp} (k : But st H H') : Same (off st H) (off st H') := fun b o h => by
  obtain ⟨n, e⟩ := off_some h
  rw [off_ne n]
  exact k b o n e
theorem off_same {st : Addr} {H : Hp} : Same (off st H) H := fun b o h => (off_some h).2
theorem tup_mono {K : PySem.W.Frag} {H H' : Hp} {a : Addr} {xs : List V} (e : Same H H') (h : SqT K H a xs) : SqT K H' a xs := by
  rcases h with (h | ⟨o, h⟩) | h
  · exact .inl (.inl (e _ _ h))
  · exact .inl (.inr ⟨o, e _ _ h⟩)
  · exact .inr h
mutual
theorem dp_mono {K : PySem.W.Frag} {H H' : Hp} (s : Same H H') : ∀ {d : PyData} {v : V}, Dp K H v d → Dp K H' v d
  | _, _, .non => .non
  | _, _, .bl b => .bl b
  | _, _, .int i => .int i
  | _, _, .str x => .str x
  | _, _, .lst h k => .lst (s.seq h) (dpAll_mono s k)
  | _, _, .tup h k => .tup (tup_mono s h) (dpAll_mono s k)
theorem dpAll_mono {K : PySem.W.Frag} {H H' : Hp} (s : Same H H') : ∀ {ds : List PyData} {vs : List V}, DpAll K H vs ds → DpAll K H' vs ds
  | _, _, .nil => .nil
  | _, _, .cons h k => .cons (dp_mono s h) (dpAll_mono s k)
end
/-- data of small depth, as == asks it -/
def Okd (d : PyData) : Prop := d.canLay0 = true ∧ d.depth ≤ 40
theorem okd_all : ∀ {ds : List PyData}, (∀ d ∈ ds, Okd d) → PyData.canLayAll0 ds = true ∧ PyData.depthAll ds ≤ 40
  | [], _ => ⟨by simp only [PyData.canLayAll0], by simp only [PyData.depthAll]; omega⟩
  | d :: r, h => by
    obtain ⟨h1, h2⟩ := h d (List.mem_cons_self ..)
    obtain ⟨h3, h4⟩ := okd_all (ds := r) fun e he => h e (List.mem_cons_of_mem _ he)
    refine ⟨by simp only [PyData.canLayAll0, h1, h3, Bool.and_true], ?_⟩
    simp only [PyData.depthAll]
    omega
theorem okd_list {ds : List PyData} (h : ∀ d ∈ ds, Okd d) : SeqAt.shaped (.list ds) = true := by
  obtain ⟨h1, h2⟩ := okd_all h
  unfold SeqAt.shaped
  rw [Bool.and_eq_true]
  refine ⟨by simp only [PyData.canLay0, h1], decide_eq_true ?_⟩
  simp only [PyData.depth]
  omega
theorem dpAll_len {K : PySem.W.Frag} {H : Hp} : ∀ {vs : List V} {ds : List PyData}, DpAll K H vs ds → vs.length = ds.length
  | _, _, .nil => rfl
  | _, _, .cons _ k => congrArg Nat.succ (dpAll_len k)
theorem dpAll_erase {K : PySem.W.Frag} {H : Hp} : ∀ {vs : List V} {ds : List PyData} (k : Nat), DpAll K H vs ds → DpAll K H (vs.eraseIdx k) (ds.eraseIdx k)
  | _, _, _, .nil => .nil
  | _, _, 0, .cons _ t => t
  | _, _, k + 1, .cons h t => .cons h (dpAll_erase k t)
theorem eqv_nil (ds : List PyData) : PyData.eqv (.list ds) (.list []) = decide (ds.length = 0) := by
  cases ds with
  | nil => decide +kernel
  | cons d r => simp [PyData.eqv, PyData.eqvAll]
/-- the lists that == asks, each item of small depth -/
def DataL (K : PySem.W.Frag) (H : Hp) (xs : List V) : Prop := ∃ ds, DpAll K H xs ds ∧ ∀ d ∈ ds, Okd d
theorem DataL.mono {K : PySem.W.Frag} {H H' : Hp} {xs : List V} (h : DataL K H xs) (s : Same H H') : DataL K H' xs := by
  obtain ⟨ds, h1, h2⟩ := h
  exact ⟨ds, dpAll_mono s h1, h2⟩
theorem DataL.erase {K : PySem.W.Frag} {H : Hp} {xs : List V} (h : DataL K H xs) (k : Nat) : DataL K H (xs.eraseIdx k) := by
  obtain ⟨ds, h1, h2⟩ := h
  exact ⟨ds.eraseIdx k, dpAll_erase k h1, fun d hd => h2 d (List.mem_of_mem_eraseIdx hd)⟩
/-- the same things in another order, in a new list -/
def spMix (K : PySem.W.Frag) : Sp := fun vs H Q _ => ∃ (st l a : Addr) (cs : List Int) (n : Nat) (xs : List V), vs = [.ref st, .ref a] ∧ (SqL K H a xs ∨ SqT K H a xs) ∧ xs.length ≤ 900 ∧ n + xs.length < 1000000 ∧ Spr H st l cs n ∧ DataL K (off st H) xs ∧
  ∀ (p : Addr) (ys : List V) (H' : Hp), ys.Perm xs → H' p = some (.lst ys) → Spr H' st l cs (n + xs.length) → But st H H' → H p = none → Q (.ref p) H'
def lenAt : Option HO → Nat
  | some (.lst xs) => xs.length
  | _ => 0
theorem seq_nat {n : Nat} {r : Int} (h0 : 0 ≤ r) (h1 : r < n) : seqIndex? r n = some r.toNat := (ixN_seq (n := n) (i := r) (j := r.toNat) (by unfold ixN; rw [if_pos h0, if_pos h1])).1
theorem erase_perm {α : Type} : ∀ {l : List α} {k : Nat} {y : α}, l[k]? = some y → (y :: l.eraseIdx k).Perm l
  | a :: r, 0, y, h => by
    have e : a = y := Option.some.inj h
    subst e
    exact List.Perm.refl _
  | a :: r, k + 1, y, h => (List.Perm.swap a y _).trans (List.Perm.cons a (erase_perm (l := r) (k := k) (by simpa using h)))
theorem perm_one {xs ys zs : List V} {k : Nat} {y : V} (h : (zs ++ ys).Perm xs) (e : ys[k]? = some y) : ((zs ++ [y]) ++ ys.eraseIdx k).Perm xs := by
  rw [List.append_assoc]
  exact (List.Perm.append_left zs (erase_perm e)).trans h
section
variable {P : Program} {w : World} {K : PySem.W.Frag} {mg : Str → Option Value} {base : Heap}
abbrev NMix : List Str := ["_law_state", "_law_things", "_law_left", "_law_found"]
theorem scMix : FnScope NMix ["_law_state", "_law_things"] (defScope sMix) := ⟨rfl, rfl, rfl, by decide +kernel, rfl, by decide +kernel, by decide +kernel⟩
theorem ok_mix {f fT : Addr} {fd fdT : FuncData} (F : Fun K "_law_mix" "_law_mix" sMix f fd) (FT : Fun K "_law_take" "_law_take" sTake fT fdT) (T : TxtT mg) (hl : mg "list" = none) (gT : mg "_law_take" = some (.ref fT)) (bT : Binds K fdT ["_law_state", "_law_many"] []) :
    FnOk P w K mg base CX0 2 f fd ["_law_state", "_law_things"] (spMix K) := by
  have GT : FnOk P w K mg base CX0 1 fT fdT ["_law_state", "_law_many"] spTake := ok_take FT T
  refine F.ok scMix (fun vs H Q E h => ?_) (fun cdv A outer s H vs Q E hr h => ?_)
  · obtain ⟨st, l, a, cs, n, xs, rfl, _⟩ := h
    rfl
  · obtain ⟨st, l, a, cs, n, xs, rfl, ha, hz, hn, S, D, k⟩ := h
    refine ⟨_, pss_cons (ps_par (i := 2) (j := 3) rfl scMix.nd rfl rfl (by decide) rfl rfl (pa_cons (pe_callTy call_list_of (by rfl) hl (by decide +kernel) (pa_cons (pv 1) pa_nil)) (pa_cons (pe_lst pa_nil) pa_nil)) (by rfl))
      (pss_cons (ps_while PassesOwn.never (pt_cmpR (op_neD hr.units) (pv 2) (pe_lst pa_nil) (nomark _))
        (pss_one (ps_expr (pe_bm PySem.F.plainAttrs_list PySem.F.slot_list_append PySem.F.type_list_append mt_append (pv 3)
          (pa_cons (pe_bm PySem.F.plainAttrs_list PySem.F.slot_list_pop PySem.F.type_list_pop mt_popAt (pv 2) (pa_cons (pe_call GT hr (by rfl) gT FT.kp bT .nil pass0 (pa_cons (pv 0) (pa_cons (pe_callB call_len_seq (by rfl) T.len PySem.boot_len (pa_cons (pv 2) pa_nil)) pa_nil))) pa_nil)) pa_nil)))))
      (pss_one (ps_ret (pv 3)))), ?_⟩
    refine ⟨_, rfl, a, xs, rfl, ha, fun l2 m2 => ⟨sz (Nat.le_of_ble_eq_true rfl), fun f m3 => ⟨_, _, rfl, ?_⟩⟩⟩
    have e2 := S.not m2
    have s2 := same_new m2 (.lst xs)
    have e3 := (S.mono s2).not m3
    have n3 := s2.free m3
    have e23 : l2 ≠ f := ne_of_none upd_same m3
    have s3 := s2.trans (same_new m3 (.lst []))
    refine while_to (fun σ H2 => ∃ ys zs, σ = [some (.ref st), some (.ref a), some (.ref l2), some (.ref f)] ∧ H2 l2 = some (.lst ys) ∧ H2 f = some (.lst zs) ∧ (zs ++ ys).Perm xs ∧ Spr H2 st l cs (n + zs.length) ∧ But st H H2 ∧ DataL K (off st H) ys)
      (fun σ H2 => ∃ zs, σ = [some (.ref st), some (.ref a), some (.ref l2), some (.ref f)] ∧ H2 f = some (.lst zs) ∧ zs.Perm xs ∧ Spr H2 st l cs (n + zs.length) ∧ But st H H2) (fun _ H2 => lenAt (H2 l2))
      ⟨xs, [], rfl, by rw [upd_ne e23]; exact upd_same, upd_same, List.Perm.refl _, S.mono s3, But.of s3, D⟩ ?_ ?_
    · intro hd
      rintro σ H2 ⟨ys, zs, rfl, h2, h3, pm, S2, bt, D2⟩
      have hlen : zs.length + ys.length = xs.length := by
        have q := pm.length_eq
        rw [List.length_append] at q
        exact q
      obtain ⟨ds, dp, dk⟩ := id D2
      have hdl := dpAll_len dp
      refine ⟨_, rfl, sz (Nat.le_of_ble_eq_true rfl), fun q nq => ?_⟩
      have sq := same_new nq (.lst [])
      refine ⟨.list ds, .list [], .lst (SqL.of (sq _ _ h2)) (dpAll_mono ((bt.off.trans off_same).trans sq) dp), .lst (SqL.of upd_same) .nil, okd_list dk, okd_list (ds := []) (fun _ h => nomatch h), _, rfl, ite2 (fun c => ?_) fun c => ?_⟩
      · have hy : ys.length ≠ 0 := by
          rw [eqv_nil] at c
          rw [hdl]
          simpa using c
        refine ⟨fun σ' H' => (∃ ys zs, σ' = [some (.ref st), some (.ref a), some (.ref l2), some (.ref f)] ∧ H' l2 = some (.lst ys) ∧ H' f = some (.lst zs) ∧ (zs ++ ys).Perm xs ∧ Spr H' st l cs (n + zs.length) ∧ But st H H' ∧ DataL K (off st H) ys) ∧ lenAt (H' l2) < lenAt (H2 l2), fun σ' H' q => ⟨_, q.2, rfl, q.1⟩, ?_⟩
        refine ⟨_, rfl, .inl ⟨rfl, _, SqL.of (sq _ _ h3)⟩, _, rfl, .inl ⟨rfl, _, SqL.of (sq _ _ h2)⟩, _, rfl, _, rfl, l2, ys, rfl, .inl (SqL.of (sq _ _ h2)), st, l, cs, n + zs.length, _, rfl, by omega, by omega, by omega, S2.mono sq, fun r H4 r0 r1 S4 hk => ?_⟩
        have g2 : H4 l2 = some (.lst ys) := by
          rw [hk l2 e2]
          exact sq _ _ h2
        have g3 : H4 f = some (.lst zs) := by
          rw [hk f e3]
          exact sq _ _ h3
        have rk : r.toNat < ys.length := by omega
        have ey : ys[r.toNat]? = some ys[r.toNat] := List.getElem?_eq_getElem rk
        refine ⟨l2, ys, r, r.toNat, _, rfl, rfl, g2, by omega, by omega, seq_nat r0 r1, ey, f, zs, _, rfl, rfl, by rw [upd_ne e23.symm]; exact g3, small1000 (by omega), ?_⟩
        have b4 : But st H2 H4 := (But.of sq).trans (But.eq hk)
        have b5 : ∀ o o', But st H (upd (upd H4 l2 o) f o') := fun o o' b u nb hb => by
          rw [upd_ne (ne_of_none hb n3), upd_ne (ne_of_none hb m2)]
          exact (bt.trans b4) b u nb hb
        refine ⟨⟨_, _, rfl, by rw [upd_ne e23]; exact upd_same, upd_same, perm_one pm ey, ?_, b5 _ _, ?_⟩, ?_⟩
        · rw [List.length_append]
          obtain ⟨⟨i, t, c, m, es, q1, q2, q3, q4, q5⟩, ls, ln, ne⟩ := S4
          refine ⟨⟨i, t, c, m, by rw [upd_ne e3.symm, upd_ne e2.symm]; exact es, q1, q2, q3, q4, ?_⟩, ?_, ln, ne⟩
          · show t ≤ n + (zs.length + 1)
            omega
          · rw [upd_ne (ne_of_none S.ls n3), upd_ne (ne_of_none S.ls m2)]
            exact ls
        · exact D2.erase r.toNat
        · show lenAt (upd (upd H4 l2 _) f _ l2) < lenAt (H2 l2)
          rw [upd_ne e23, upd_same, h2]
          show (ys.eraseIdx r.toNat).length < ys.length
          rw [List.length_eraseIdx_of_lt rk]
          omega
      · have hy : ys = [] := by
          rw [eqv_nil] at c
          have z : ds.length = 0 := by simpa using c
          exact List.eq_nil_of_length_eq_zero (by rw [hdl]; exact z)
        subst hy
        rw [List.append_nil] at pm
        exact hd _ _ ⟨zs, rfl, sq _ _ h3, pm, S2.mono sq, bt.trans (But.of sq)⟩
    · rintro σ H2 ⟨zs, rfl, h3, pm, S2, bt⟩
      refine ⟨_, rfl, k f zs H2 pm h3 ?_ bt n3⟩
      rw [pm.length_eq] at S2
      exact S2
end
end K1
set_option maxRecDepth 100000
set_option maxHeartbeats 1000000
namespace K1
open PySem L2
theorem TyX.mono {K : PySem.W.Frag} {H H' : Hp} {x : V} {t : Value} (s : Same H H') (h : TyX K H x t) : TyX K H' x t := by
  cases h with
  | base b =>
    refine .base ?_
    cases b with
    | non => exact .non
    | bl y => exact .bl y
    | int i => exact .int i
    | str y => exact .str y
    | flt y => exact .flt y
    | lst e => exact .lst (s _ _ e)
    | frz e => exact .frz (s _ _ e)
    | tup e => exact .tup (s _ _ e)
    | dK e => exact .dK (s _ _ e)
    | dT e => exact .dT (s _ _ e)
    | ins e a b c d f => exact .ins (s _ _ e) a b c d f
  | byt b => exact .byt b
  | set e => exact .set (s _ _ e)
  | kList e c => exact .kList e c
  | kTuple e c => exact .kTuple e c
  | kDict e c => exact .kDict e c
  | fTuple e => exact .fTuple (s _ _ e)
  | fDict e => exact .fDict (s _ _ e)
def spIsList (K : PySem.W.Frag) : Sp := fun vs H Q _ => ∃ (x : V) (t : Value) (b : Bool), vs = [x] ∧ TyX K H x t ∧ PySem.W.kitAny K t [.type "list", .type "tuple"] = some b ∧ ∀ H', Same H H' → Q (.bl b) H'
def spIsInteger (K : PySem.W.Frag) : Sp := fun vs H Q _ => ∃ (x : V) (t : Value) (b c : Bool), vs = [x] ∧ TyX K H x t ∧ PySem.W.kitOne K t (.type "int") = some b ∧ PySem.W.kitOne K t (.type "bool") = some c ∧ Q (.bl (b && !c)) H
section
variable {P : Program} {w : World} {K : PySem.W.Frag} {mg : Str → Option Value} {base : Heap}
theorem scIL : FnScope ["thing"] ["thing"] (defScope pIsList) := ⟨rfl, rfl, rfl, by decide +kernel, rfl, by decide +kernel, by decide +kernel⟩
theorem scII : FnScope ["thing"] ["thing"] (defScope pIsInteger) := ⟨rfl, rfl, rfl, by decide +kernel, rfl, by decide +kernel, by decide +kernel⟩
theorem ok_isList {f : Addr} {fd : FuncData} (F : Fun K "is_list" "is_list" pIsList f fd) (hl : mg "list" = none) (ht : mg "tuple" = none) (hi : mg "isinstance" = none) : FnOk P w K mg base CX0 1 f fd ["thing"] (spIsList K) := by
  refine F.ok scIL (fun vs H Q E h => ?_) (fun cdv A outer s H vs Q E hr h => ?_)
  · obtain ⟨x, t, b, rfl, _⟩ := h
    rfl
  · obtain ⟨x, t, b, rfl, ty, kb, k⟩ := h
    refine ⟨_, pss_one (ps_ret (pe_callB call_isiT (by rfl) hi (by decide +kernel) (pa_cons (pv 0) (pa_cons (pe_tup (pa_cons (pe_bltn (v := .ty "list") (by rfl) hl (by decide +kernel) rfl) (pa_cons (pe_bltn (v := .ty "tuple") (by rfl) ht (by decide +kernel) rfl) pa_nil))) pa_nil)))), ?_⟩
    refine ⟨_, rfl, sz (Nat.le_of_ble_eq_true rfl), fun t m => ⟨_, t, _, _, _, b, rfl, upd_same, .cons (.ty _) (.cons (.ty _) .nil), TyX.mono (same_new m _) ty, kb, k _ (same_new m _)⟩⟩
theorem ok_isInteger {f : Addr} {fd : FuncData} (F : Fun K "is_integer" "is_integer" pIsInteger f fd) (hl : mg "int" = none) (ht : mg "bool" = none) (hi : mg "isinstance" = none) : FnOk P w K mg base CX0 1 f fd ["thing"] (spIsInteger K) := by
  refine F.ok scII (fun vs H Q E h => ?_) (fun cdv A outer s H vs Q E hr h => ?_)
  · obtain ⟨x, t, b, c, rfl, _⟩ := h
    rfl
  · obtain ⟨x, t, b, c, rfl, ty, kb, kc, k⟩ := h
    refine ⟨_, pss_one (ps_ret (pe_and (pe_callB call_isi (by rfl) hi (by decide +kernel) (pa_cons (pv 0) (pa_cons (pe_bltn (v := .ty "int") (by rfl) hl (by decide +kernel) rfl) pa_nil)))
      (pe_one (pe_not (pe_callB call_isi (by rfl) hi (by decide +kernel) (pa_cons (pv 0) (pa_cons (pe_bltn (v := .ty "bool") (by rfl) ht (by decide +kernel) rfl) pa_nil))))))), ?_⟩
    refine ⟨_, rfl, _, _, _, _, b, rfl, .ty _, ty, kb, _, rfl, ?_⟩
    cases b with
    | false => exact iteF k
    | true => exact iteT ⟨_, rfl, _, _, _, _, c, rfl, .ty _, ty, kc, _, rfl, k⟩
end
end K1
set_option maxRecDepth 100000
set_option maxHeartbeats 1000000
/-! sorted(s), s a set of tuples of ints of any lengths but none empty, by a rank that follows their order -/
namespace K1
open PySem PySem.Spec PyProof.Rows L2
def ltI : List Int → List Int → Bool
  | [], [] => false
  | [], _ :: _ => true
  | _ :: _, [] => false
  | x :: r, y :: q => if x = y then ltI r q else decide (x < y)
section
variable {prog : Program} {w : World} {A : Around} {E : Value → Shared → Prop} {s : Shared}
theorem lexU {b : Bool} {Q : Bool → Shared → Prop} {us : List Value} {ns : List Int} (hu : IntsAre us ns) : ∀ {ts : List Value} {ms : List Int} {f : Bool} (i : Nat), IntsAre ts ms → f = decide (us.length < ts.length) → Q (ltI ns ms) s →
    PySem.W.KatLex prog w A b f Q (us.zip ts) i s := by
  induction hu with
  | nil =>
    intro ts ms f i ht hf q
    subst hf
    cases ht with
    | nil => exact PySem.W.kat_nil q
    | cons y t r => exact PySem.W.kat_nil q
  | @cons x t0 us ns hu ih =>
    intro ts ms f i ht hf q
    subst hf
    cases ht with
    | nil => exact PySem.W.kat_nil q
    | @cons y t1 ts ms ht =>
      refine PySem.W.kat_cons (r := us.zip ts) (wpAny_eqBool_int ?_)
      by_cases c : x = y
      · have q' : Q (ltI ns ms) s := by
          have z : ltI (x :: ns) (y :: ms) = ltI ns ms := if_pos c
          rw [z] at q
          exact q
        rw [show (x == y) = true from beq_iff_eq.mpr c]
        refine PySem.W.kat_yes (ih (i + 1) ht ?_ q')
        simp
      · rw [show (x == y) = false from beq_eq_false_iff_ne.mpr c]
        have z : ltI (x :: ns) (y :: ms) = decide (x < y) := if_neg c
        rw [z] at q
        exact PySem.W.kat_no (TS.oneLt_ints _ q)
/-- what is sorted -/
def SomeTups (h : Heap) (vs : List Value) : Prop := ∀ v ∈ vs, ∃ ns, TS.TupInts h v ns ∧ ns ≠ []
theorem heads_of {h : Heap} : ∀ {vs : List Value}, SomeTups h vs → ∃ fs, PySem.W.KatTups h vs fs ∧ fs.length = vs.length ∧ ∀ f ∈ fs, ∃ n t, f = Value.int n t := by
  intro vs
  induction vs with
  | nil => intro _; exact ⟨[], .nil, rfl, fun _ hf => nomatch hf⟩
  | cons v vs ih =>
    intro x
    obtain ⟨fs, a1, a2, a3⟩ := ih fun u hu => x u (.tail _ hu)
    obtain ⟨ns, ⟨a, its, rfl, ⟨o, ho, hc, k, hd⟩, hi⟩, ne⟩ := x v (.head _)
    obtain ⟨its⟩ := its
    cases hi with
    | nil => exact absurd rfl ne
    | @cons n t us ns hi =>
      refine ⟨.int n t :: fs, .cons ho hc hd rfl a1, congrArg Nat.succ a2, fun f hf => ?_⟩
      rcases List.mem_cons.mp hf with z | z
      · exact ⟨n, t, z⟩
      · exact a3 f z
theorem kindU {vs : List Value} {rk : Value → Int} (h2 : 2 ≤ vs.length) (x : SomeTups s.heap vs) (hr : ∀ u ∈ vs, ∀ v ∈ vs, ∀ ns ms, TS.TupInts s.heap u ns → TS.TupInts s.heap v ms → ltI ns ms = decide (rk u < rk v)) (Q : SortKind → Shared → Prop)
    (k : ∀ κ, TS.Cmp prog w A s κ (pairsOf vs) rk → Q κ s) : wpAny (model prog w) A (keyKind' vs.toArray) Q E s := by
  obtain ⟨fs, a1, a2, a3⟩ := heads_of x
  refine PySem.W.kat_kind (T := .type "int") a1 (by omega) (fun f hf => ?_) rfl (k _ fun p q hp hq Q' E' q' => ?_)
  · obtain ⟨n, t, z⟩ := a3 f hf
    rw [z]
    exact PySem.W.Looks.of_pure rfl
  · rw [pairsOf_toList] at hp hq
    have mp := (mem_zip_self hp).2
    have mq := (mem_zip_self hq).2
    obtain ⟨ns, tn, _⟩ := x _ mp
    obtain ⟨ms, tm, _⟩ := x _ mq
    rw [← hr _ mp _ mq ns ms tn tm] at q'
    obtain ⟨a, us, ea, ⟨o, ho, hc, n, hd⟩, iu⟩ := tn
    obtain ⟨b, ts, eb, ⟨o', ho', hc', n', hd'⟩, it⟩ := tm
    rw [ea, eb]
    exact PySem.W.kat_lt ho hd ho' hd' (lexU iu 0 it (by rw [Array.length_toList, Array.length_toList]) q')
/-- a list of such tuples is sorted in place -/
theorem sortU {a : Addr} {vs : List Value} {n : Nat} {rk : Value → Int} {Q : Value → Shared → Prop} (ho : s.heap.get? a = some (seqObj "list" vs.toArray n)) (h64 : vs.length < 64) (x : SomeTups s.heap vs)
    (hr : ∀ u ∈ vs, ∀ v ∈ vs, ∀ ns ms, TS.TupInts s.heap u ns → TS.TupInts s.heap v ms → ltI ns ms = decide (rk u < rk v))
    (k : ∀ out : Array Value, out.toList.Perm vs → out.toList.Pairwise (fun u v => rk u ≤ rk v) → Q .none { s with heap := sortedHeap s.heap a vs out }) :
    wpAny (model prog w) A (call (.builtin "list.sort") [.ref a]) Q E s := by
  have stay : ∀ {v : Value} {ns : List Int}, TS.TupInts s.heap v ns → TS.TupInts (TS.midHeap s.heap a vs) v ns := fun t => t.keeps fun b o e hc => by
    refine TS.midHeap_old (fun z => ?_) e
    rw [z, ho] at e
    have e2 := congrArg (fun x : Option Obj => x.map Obj.cls) e
    have e3 : some (Value.type "list") = some o.cls := e2
    rw [hc] at e3
    injection e3 with e4
    injection e4 with e5
    exact absurd e5 (by decide)
  have back : ∀ {v : Value} {ns ms : List Int}, TS.TupInts s.heap v ns → TS.TupInts (TS.midHeap s.heap a vs) v ms → ms = ns := fun t u => u.ints.symm.trans (stay t).ints
  refine wpAny_call_entry slot_list_sort ⟨_, ho, rfl⟩ entry_list_sort (SK.plain_sort (r := rk) ho h64 (fun h2 Q' q' => ?_) fun ps out h1 h2 h3 => ?_) (args_list_sort _)
  · refine kindU (s := { s with heap := TS.midHeap s.heap a vs }) (rk := rk) h2 (fun v hv => ?_) (fun u hu v hv ns ms tn tm => ?_) Q' q'
    · obtain ⟨ns, t, ne⟩ := x v hv
      exact ⟨ns, stay t, ne⟩
    · obtain ⟨ns0, t0, _⟩ := x u hu
      obtain ⟨ms0, t1, _⟩ := x v hv
      rw [back t0 tn, back t1 tm]
      exact hr u hu v hv _ _ t0 t1
  · obtain ⟨p, o⟩ := TS.out_rank h1 h2 h3
    exact ⟨_, rfl, k out p o⟩
theorem sorted_setU {P : Program} {a : Addr} {L : List (Addr × List Int)} {es : Array (Int × Value)} {ep : Nat} {t : SetTable} {Q : Value → Shared → Prop} {rk : List Int → Int} (R : SetTR P w s.heap a L es ep t) (hh : A.handled = none)
    (ne : ∀ p ∈ L, p.2 ≠ []) (hr : ∀ p ∈ L, ∀ q ∈ L, ltI p.2 q.2 = decide (rk p.2 < rk q.2))
    (hQ : ∀ s' d (out : Array Value) (c : Nat) (L' : List (Addr × List Int)), (∀ b o, s.heap.get? b = some o → s'.heap.get? b = some o) → s'.gens = s.gens → s'.os = s.os → s.heap.objs.size ≤ d →
      s'.heap.get? d = some (seqObj "list" out c) → out.toList = L'.map (fun q => Value.ref q.1) → L'.Perm L → L'.Pairwise (fun q r => rk q.2 ≤ rk r.2) → Q (.ref d) s') :
    wpAny (model P w) A (call (.builtin "sorted") [.ref a]) Q E s := by
  obtain ⟨o, ho, hx, hd⟩ := R.ob
  have few := R.few
  refine Calls.call_function_entry kind_sorted plain_sorted entry_sorted (args_sorted1 _) ?_
  unfold Builtin.«sorted»
  refine wpAny_bind (m := checkCount "sorted" 1 1 _) (wpAny_pure (wpAny_bind (collect_set (A := A.in1) hh ⟨o, ho, hx.1, hd⟩ R.fits (by rw [R.size]; unfold scanBound; omega) R.tab.ris R.led fun s1 vs k1 z1 g1 o1 pm => ?_)))
  have rows : es.toList.map (·.2) = L.map fun q => Value.ref q.1 := by
    rw [R.rows, rowsOf, List.map_map]
    rfl
  rw [rows] at pm
  have vl : vs.length < 64 := by
    rw [pm.length_eq, List.length_map]
    exact few
  have mem : ∀ v ∈ vs, ∃ q ∈ L, Value.ref q.1 = v := fun v hv => List.mem_map.mp (pm.mem_iff.mp hv)
  refine wpAny_bind (wpAny_newList ?_ (by rw [sizeLine_eq]; omega))
  have top : (s1.heap.push (seqObj "list" vs.toArray 0)).get? s1.heap.objs.size = some (seqObj "list" vs.toArray 0) := Heap.get?_push_size _ rfl
  have tI : ∀ q ∈ L, TS.TupInts (s1.heap.push (seqObj "list" vs.toArray 0)) (.ref q.1) q.2 := fun q hq => tupInts_of (P := P) (w := w) (isT_keep (R.tup q hq) fun b u e => Heap.get?_push_of_some _ (k1 b u e))
  generalize hh2 : s1.heap.push (seqObj "list" vs.toArray 0) = h2 at top tI ⊢
  refine wpAny_bind (wpAny_holding (sortU (s := { s1 with heap := h2 }) (rk := fun v => rk (TS.intsOf h2 v)) top vl (fun v hv => ?_) (fun u hu v hv ns ms tn tm => ?_) fun out p1 p2 => ?_))
  · obtain ⟨q, hq, rfl⟩ := mem v hv
    exact ⟨q.2, tI q hq, ne q hq⟩
  · obtain ⟨q, hq, rfl⟩ := mem u hu
    obtain ⟨r, hr', rfl⟩ := mem v hv
    have e1 := (tI q hq).ints
    have e2 := (tI r hr').ints
    have e3 := tn.ints
    have e4 := tm.ints
    rw [← e3, ← e4, e1, e2]
    exact hr q hq r hr'
  · obtain ⟨c, hc⟩ := sortedHeap_at (vs := vs) (out := out) top
    -- the rows in the order of the values
    obtain ⟨L', pL, eL⟩ : ∃ L' : List (Addr × List Int), L'.Perm L ∧ L'.map (fun q => Value.ref q.1) = out.toList := by
      obtain ⟨zs, a1, a2⟩ := perm_lift (fun q : Addr × List Int => Value.ref q.1) (p1.trans pm) L rfl
      exact ⟨zs, a1, a2⟩
    refine wpAny_pure ⟨_, rfl, hQ _ s1.heap.objs.size out c L' (fun b u e => ?_) g1 o1 z1 hc eL.symm pL ?_⟩
    · have q := k1 b u e
      have lt := Heap.lt_size q
      show (sortedHeap h2 s1.heap.objs.size vs out).get? b = some u
      rw [sortedHeap_old (Nat.ne_of_lt lt) (by rw [← hh2, size_push']; exact Nat.lt_succ_of_lt lt), ← hh2]
      exact Heap.get?_push_of_some _ q
    · rw [← eL, List.pairwise_map] at p2
      refine List.Pairwise.imp_of_mem (fun {q r} hq hr' h => ?_) p2
      have e1 := (tI q (pL.mem_iff.mp hq)).ints
      have e2 := (tI r (pL.mem_iff.mp hr')).ints
      rw [e1, e2] at h
      exact h
end
/-- sorted(s) -/
def rSortedU (K : PySem.W.Frag) (P : Program) (w : World) : List V → Hp → VK → Prop := fun vs H Q => ∃ (a : Addr) (L : List (Addr × List Int)) (rk : List Int → Int), vs = [V.ref a] ∧ H a = some (SetTO P w a L) ∧ (∀ p ∈ L, SqT K H p.1 (p.2.map V.int)) ∧
  (∀ p ∈ L, p.2 ≠ []) ∧ (∀ p ∈ L, ∀ q ∈ L, ltI p.2 q.2 = decide (rk p.2 < rk q.2)) ∧
  ∀ (L' : List (Addr × List Int)) (d : Addr), L'.Perm L → (L'.map (·.2)).Nodup → L'.length < 64 → L'.Pairwise (fun q r => rk q.2 ≤ rk r.2) → H d = none → Q (.ref d) (upd H d (.lst (L'.map fun q => V.ref q.1)))
theorem cr_sortedU {X : Cx} (hc : X.calm = true) : CallR X (.builtin "sorted") (rSortedU X.K X.prog X.w) := by
  intro pins s σ H vs us Q I r h
  obtain ⟨a, L, rk, rfl, ha, hk, ne, hr, q⟩ := h
  obtain ⟨es, ep, t, R⟩ := (show SetT0 X.prog X.w s.heap a L from (I.hok a _ ha).1).full fun p hp => I.isT (hk p hp)
  rw [Vals.ref1 r]
  refine sorted_setU R (I.ok.hd hc) ne hr fun s' d out c L' k g o hd hg ho pm pw => ?_
  have few : L'.length < 64 := pm.length_eq ▸ R.few
  have nd : H d = none := I.hok.fresh hd
  have rel : Vals (L'.map fun q => V.ref q.1) out.toList := ho ▸ vals_of_refs L'
  have zl : (L'.map fun q => V.ref q.1).length ≤ sizeLine := by
    rw [List.length_map, sizeLine_eq]
    omega
  have J : Inv X pins σ (upd H d (.lst (L'.map fun q => V.ref q.1))) { s with heap := s'.heap, gens := s'.gens, drawn := s'.drawn, toks := s'.toks } :=
    I.call (ch := []) (Un.laid k hd nd) (I.hok.laid k hd ⟨zl, out.toList, c, rel, hg⟩) (g ▸ I.bare) fun _ z => nomatch z
  obtain ⟨hp, gs, dr, tk, os⟩ := s'
  obtain ⟨hp0, gs0, dr0, tk0, os0⟩ := s
  cases o
  exact ⟨.ref d, _, J, rfl, q L' d pm ((pm.map (·.2)).nodup_iff.mpr R.nd) few pw nd⟩
end K1
set_option linter.all false
set_option maxRecDepth 100000
set_option maxHeartbeats 1000000
/-! sorted(s), s a set of tuples of ints of any lengths, empty ones among them -/
namespace K1
open PySem PySem.Spec PyProof.Rows L2
section
variable {prog : Program} {w : World} {A : Around} {E : Value → Shared → Prop} {s : Shared}
theorem lex_ltI : ∀ (ns ms : List Int), Ob.lexAt (fun j => decide (ns.getD j 0 = ms.getD j 0)) (fun j => decide (ns.getD j 0 < ms.getD j 0)) (decide (ns.length < ms.length)) 0 (min ns.length ms.length) = ltI ns ms
  | [], [] => rfl
  | [], _ :: _ => rfl
  | _ :: _, [] => rfl
  | n :: r, m :: q => by
    have z := lex_ltI r q
    have sh : ∀ (e r : Nat → Bool) (z : Bool) (k i : Nat), Ob.lexAt (fun j => e (j + 1)) (fun j => r (j + 1)) z i k = Ob.lexAt e r z (i + 1) k := by
      intro e r z k
      induction k with
      | zero => intro i; rfl
      | succ k ih => intro i; rw [Ob.lexAt_succ, Ob.lexAt_succ, ih (i + 1)]
    have s := sh (fun j => decide ((n :: r).getD j 0 = (m :: q).getD j 0)) (fun j => decide ((n :: r).getD j 0 < (m :: q).getD j 0)) (decide ((n :: r).length < (m :: q).length)) (min r.length q.length) 0
    have l : min (n :: r).length (m :: q).length = min r.length q.length + 1 := by simp only [List.length_cons]; omega
    rw [l, Ob.lexAt_succ, ← s]
    have e1 : decide ((n :: r).length < (m :: q).length) = decide (r.length < q.length) := by simp
    rw [e1]
    show (if decide (n = m) = true then Ob.lexAt (fun j => decide (r.getD j 0 = q.getD j 0)) (fun j => decide (r.getD j 0 < q.getD j 0)) (decide (r.length < q.length)) 0 (min r.length q.length) else decide (n < m)) = (if n = m then ltI r q else decide (n < m))
    rw [z]
    by_cases e : n = m
    · rw [if_pos (decide_eq_true e), if_pos e]
    · rw [if_neg (by simpa using e), if_neg e]
def AnyTups (h : Heap) (vs : List Value) : Prop := ∀ v ∈ vs, ∃ ns, TS.TupInts h v ns
theorem int_get {us : Array Value} {ns : List Int} (h : IntsAre us.toList ns) (j : Nat) (h1 : j < us.size) : ∃ t, us[j] = .int (ns.getD j 0) t := by
  obtain ⟨us⟩ := us
  have l := h.length
  exact PyProof.Rows.IntsAre.int_at h _ _ (by simp at h1 l; simp [h1, l])
/-- t < u of such tuples, as the sort asks it -/
theorem tups_lt {x y : Value} {ns ms : List Int} (hu : A.units + 2 < cLine) (tn : TS.TupInts s.heap x ns) (tm : TS.TupInts s.heap y ms) : (∀ Q : Bool → Shared → Prop, Q (ltI ns ms) s → wpAny (model prog w) A (keyLt' general' x y) Q E s) ∧ (∀ Q : Bool → Shared → Prop, Q (ltI ns ms) s → wpAny (model prog w) A (keyLt' oneType' x y) Q E s) := by
  obtain ⟨a, us, rfl, hl, iu⟩ := tn
  obtain ⟨b, ts, rfl, hb, it⟩ := tm
  have l1 : us.size = ns.length := by have := iu.length; simpa using this
  have l2 : ts.size = ms.length := by have := it.length; simpa using this
  have he : ∀ (B : Around) j (h1 : j < us.size) (h2 : j < ts.size), SeqAt.EqAt B s us[j] ts[j] (decide (ns.getD j 0 = ms.getD j 0)) := fun B j h1 h2 => by
    obtain ⟨t, et⟩ := int_get iu j h1
    obtain ⟨t', et'⟩ := int_get it j h2
    rw [et, et']
    have z : (ns.getD j 0 == ms.getD j 0) = decide (ns.getD j 0 = ms.getD j 0) := by
      by_cases q : ns.getD j 0 = ms.getD j 0
      · rw [decide_eq_true q]; exact beq_iff_eq.mpr q
      · rw [decide_eq_false q]; exact beq_eq_false_iff_ne.mpr q
    rw [← z]
    exact SeqAt.EqAt.int_int _ _ _ _
  have hr : ∀ (B : Around) j (h1 : j < us.size) (h2 : j < ts.size), decide (ns.getD j 0 = ms.getD j 0) = false → Ob.RcOp .Lt B s us[j] ts[j] (decide (ns.getD j 0 < ms.getD j 0)) := fun B j h1 h2 _ => by
    obtain ⟨t, et⟩ := int_get iu j h1
    obtain ⟨t', et'⟩ := int_get it j h2
    rw [et, et']
    exact Ob.RcOp.lt_int _ _ _ _
  have R := Ob.RcOp.tuples_lt (A := A) (s := s) (e := fun j => decide (ns.getD j 0 = ms.getD j 0)) (r := fun j => decide (ns.getD j 0 < ms.getD j 0)) hl hb (by omega) (he A.in1) (hr A.in1)
  rw [l1, l2, lex_ltI] at R
  refine ⟨fun Q q => ?_, fun Q q => ?_⟩
  · show wpAny _ _ (oneLt' false (.ref a) (.ref b)) _ _ _
    refine PySem.W.kat_one _ _ ?_
    exact R prog w E _ q
  · rw [keyLt'_oneType, oneLt'_eq]
    simp only [if_true]
    refine wpAny_bind (wpAny_cRoomFor (by omega) ?_)
    obtain ⟨⟨cls, dd, data, sl⟩, ho, hc, n, hd⟩ := id hl
    obtain ⟨⟨cls2, dd2, data2, sl2⟩, ho2, hc2, n2, hd2⟩ := id hb
    simp only at hc hd hc2 hd2
    subst hc hd hc2 hd2
    refine wpAny_bind (wpAny_callSpecialIfBound?_slot ⟨_, ho, rfl⟩ PySem.F.slot_tuple_lt (call_meets PySem.F.slot_tuple_lt ⟨_, ho, rfl⟩ PySem.F.entry_tuple_lt (PySem.F.args_tuple_lt_2 _ _) (Ob.tuple_ltAt a b us ts n n2 dd dd2 sl sl2 (fun j => decide (ns.getD j 0 = ms.getD j 0)) (fun j => decide (ns.getD j 0 < ms.getD j 0))) ⟨ho, ho2, he _, hr _, ?_⟩))
    rw [l1, l2, lex_ltI]
    exact wpAny_truthy_bool q
theorem firsts_any : ∀ (vs : List Value) {Q : List (Option Value) → Shared → Prop}, AnyTups s.heap vs → (∀ fs : List (Option Value), fs.length = vs.length → ((∃ v ∈ vs, TS.TupInts s.heap v []) → none ∈ fs) → Q fs s) → wpAny (model prog w) A (vs.mapM firstOfTuple') Q E s
  | [], Q, _, h => by
    rw [List.mapM_nil]
    exact wpAny_pure (h [] rfl fun ⟨_, m, _⟩ => nomatch m)
  | v :: vs, Q, x, h => by
    obtain ⟨ns, t⟩ := x v (.head _)
    obtain ⟨a, us, rfl, ⟨o, ho, hc, n, hd⟩, iu⟩ := id t
    rw [List.mapM_cons]
    refine wpAny_bind ?_
    rw [PySem.W.kas_first_eq]
    refine wpAny_bind (PySem.W.Looks.here (show PySem.W.Looks (model prog w) s.heap (typeOf (.ref a)) o.cls from (PySem.W.Looks.ld ho).andThen .now) ?_)
    rw [hc, if_neg (by first | decide | simp)]
    refine wpAny_bind (listItems_at ho hd (wpAny_pure ?_))
    refine wpAny_bind (firsts_any vs (fun u hu => x u (.tail _ hu)) fun fs l e => wpAny_pure (h (us[0]? :: fs) (congrArg Nat.succ l) fun ⟨u, hu, tu⟩ => ?_))
    rcases List.mem_cons.mp hu with rfl | hu
    · have e0 : ns = [] := t.ints.symm.trans tu.ints
      subst e0
      have l := iu.length
      have z : us[0]? = none := by
        obtain ⟨us⟩ := us
        simp at l
        subst l
        rfl
      rw [z]
      exact .head _
    · exact .tail _ (e ⟨u, hu, tu⟩)
theorem kindV {vs : List Value} {rk : Value → Int} (h2 : 2 ≤ vs.length) (x : AnyTups s.heap vs) (hu : A.units + 2 < cLine) (hr : ∀ u ∈ vs, ∀ v ∈ vs, ∀ ns ms, TS.TupInts s.heap u ns → TS.TupInts s.heap v ms → ltI ns ms = decide (rk u < rk v)) (Q : SortKind → Shared → Prop)
    (k : ∀ κ, TS.Cmp prog w A s κ (pairsOf vs) rk → Q κ s) : wpAny (model prog w) A (keyKind' vs.toArray) Q E s := by
  by_cases em : ∃ v ∈ vs, TS.TupInts s.heap v []
  · have cm : TS.Cmp prog w A s general' (pairsOf vs) rk ∧ TS.Cmp prog w A s oneType' (pairsOf vs) rk := by
      have go : ∀ p q : Keyed, p ∈ (pairsOf vs).toList → q ∈ (pairsOf vs).toList → ∃ ns ms, TS.TupInts s.heap p.1 ns ∧ TS.TupInts s.heap q.1 ms ∧ ltI ns ms = decide (rk p.1 < rk q.1) := fun p q hp hq => by
        rw [pairsOf_toList] at hp hq
        have mp := (mem_zip_self hp).2
        have mq := (mem_zip_self hq).2
        obtain ⟨ns, tn⟩ := x _ mp
        obtain ⟨ms, tm⟩ := x _ mq
        exact ⟨ns, ms, tn, tm, hr _ mp _ mq ns ms tn tm⟩
      refine ⟨fun p q hp hq Q' E' q' => ?_, fun p q hp hq Q' E' q' => ?_⟩
      · obtain ⟨ns, ms, tn, tm, e⟩ := go p q hp hq
        exact (tups_lt hu tn tm).1 Q' (by rw [e]; exact q')
      · obtain ⟨ns, ms, tn, tm, e⟩ := go p q hp hq
        exact (tups_lt hu tn tm).2 Q' (by rw [e]; exact q')
    rw [kat_kind_eq, List.mapM_toArray, map_eq_pure_bind]
    refine wpAny_bind (wpAny_bind (firsts_any vs x fun fs l e => wpAny_pure ?_))
    have no : ¬ (fs.toArray.all (·.isSome)) = true := fun z => by
      have z2 : fs.all (·.isSome) = true := by simpa using z
      have := List.all_eq_true.mp z2 none (e em)
      cases this
    rw [if_neg no]
    split
    · exact wpAny_pure (k _ cm.1)
    · have tT : ∀ v ∈ vs, PySem.W.Looks (model prog w) s.heap (typeOf v) (.type "tuple") := fun v hv => by
        obtain ⟨ns, a, us, rfl, ⟨o, ho, hc, n, hd⟩, _⟩ := x v hv
        exact hc ▸ (PySem.W.Looks.ld ho).andThen .now
      rw [oneTypeOnly'_eq, List.mapM_toArray, map_eq_pure_bind]
      refine wpAny_bind (wpAny_bind (wpAny_bind (PySem.W.kas_mapM (r := Value.type "tuple") _ (fun v hv Q' hq => (tT v hv).here hq) (wpAny_pure ?_))))
      cases vs with
      | nil => exact absurd h2 (by simp)
      | cons v r =>
        have all2 : ((List.map (fun _ => Value.type "tuple") (v :: r)).toArray.all fun x => x == Value.type "tuple") = true := by
          simp only [List.all_toArray, List.all_map, List.all_eq_true]
          intro _ _
          rfl
        have h0 : (List.map (fun _ => Value.type "tuple") (v :: r)).toArray[0]? = some (Value.type "tuple") := by simp
        rw [h0]
        simp only [all2, if_true]
        exact wpAny_pure (wpAny_pure (k _ cm.2))
  · exact kindU h2 (fun v hv => by
      obtain ⟨ns, t⟩ := x v hv
      exact ⟨ns, t, fun e => em ⟨v, hv, by rw [← e]; exact t⟩⟩) hr Q k
/-- a list of such tuples is sorted in place -/
theorem sortV {a : Addr} {vs : List Value} {n : Nat} {rk : Value → Int} {Q : Value → Shared → Prop} (ho : s.heap.get? a = some (seqObj "list" vs.toArray n)) (h64 : vs.length < 64) (x : AnyTups s.heap vs) (hu : A.units + 20 < cLine)
    (hr : ∀ u ∈ vs, ∀ v ∈ vs, ∀ ns ms, TS.TupInts s.heap u ns → TS.TupInts s.heap v ms → ltI ns ms = decide (rk u < rk v))
    (k : ∀ out : Array Value, out.toList.Perm vs → out.toList.Pairwise (fun u v => rk u ≤ rk v) → Q .none { s with heap := sortedHeap s.heap a vs out }) :
    wpAny (model prog w) A (call (.builtin "list.sort") [.ref a]) Q E s := by
  have stay : ∀ {v : Value} {ns : List Int}, TS.TupInts s.heap v ns → TS.TupInts (TS.midHeap s.heap a vs) v ns := fun t => t.keeps fun b o e hc => by
    refine TS.midHeap_old (fun z => ?_) e
    rw [z, ho] at e
    have e2 := congrArg (fun x : Option Obj => x.map Obj.cls) e
    have e3 : some (Value.type "list") = some o.cls := e2
    rw [hc] at e3
    injection e3 with e4
    injection e4 with e5
    exact absurd e5 (by decide)
  have back : ∀ {v : Value} {ns ms : List Int}, TS.TupInts s.heap v ns → TS.TupInts (TS.midHeap s.heap a vs) v ms → ms = ns := fun t u => u.ints.symm.trans (stay t).ints
  refine wpAny_call_entry slot_list_sort ⟨_, ho, rfl⟩ entry_list_sort (SK.plain_sort (r := rk) ho h64 (fun h2 Q' q' => ?_) fun ps out h1 h2 h3 => ?_) (args_list_sort _)
  · refine kindV (hu := by show A.units + 1 + 2 < cLine; omega) (s := { s with heap := TS.midHeap s.heap a vs }) (rk := rk) h2 (fun v hv => ?_) (fun u hu0 v hv ns ms tn tm => ?_) Q' q'
    · obtain ⟨ns, t⟩ := x v hv
      exact ⟨ns, stay t⟩
    · obtain ⟨ns0, t0⟩ := x u hu0
      obtain ⟨ms0, t1⟩ := x v hv
      rw [back t0 tn, back t1 tm]
      exact hr u hu0 v hv _ _ t0 t1
  · obtain ⟨p, o⟩ := TS.out_rank h1 h2 h3
    exact ⟨_, rfl, k out p o⟩
theorem sorted_setV {P : Program} {a : Addr} {L : List (Addr × List Int)} {es : Array (Int × Value)} {ep : Nat} {t : SetTable} {Q : Value → Shared → Prop} {rk : List Int → Int} (R : SetTR P w s.heap a L es ep t) (hh : A.handled = none)
    (hu : A.units + 40 < cLine) (hr : ∀ p ∈ L, ∀ q ∈ L, ltI p.2 q.2 = decide (rk p.2 < rk q.2))
    (hQ : ∀ s' d (out : Array Value) (c : Nat) (L' : List (Addr × List Int)), (∀ b o, s.heap.get? b = some o → s'.heap.get? b = some o) → s'.gens = s.gens → s'.os = s.os → s.heap.objs.size ≤ d →
      s'.heap.get? d = some (seqObj "list" out c) → out.toList = L'.map (fun q => Value.ref q.1) → L'.Perm L → L'.Pairwise (fun q r => rk q.2 ≤ rk r.2) → Q (.ref d) s') :
    wpAny (model P w) A (call (.builtin "sorted") [.ref a]) Q E s := by
  obtain ⟨o, ho, hx, hd⟩ := R.ob
  have few := R.few
  refine Calls.call_function_entry kind_sorted plain_sorted entry_sorted (args_sorted1 _) ?_
  unfold Builtin.«sorted»
  refine wpAny_bind (m := checkCount "sorted" 1 1 _) (wpAny_pure (wpAny_bind (collect_set (A := A.in1) hh ⟨o, ho, hx.1, hd⟩ R.fits (by rw [R.size]; unfold scanBound; omega) R.tab.ris R.led fun s1 vs k1 z1 g1 o1 pm => ?_)))
  have rows : es.toList.map (·.2) = L.map fun q => Value.ref q.1 := by
    rw [R.rows, rowsOf, List.map_map]
    rfl
  rw [rows] at pm
  have vl : vs.length < 64 := by
    rw [pm.length_eq, List.length_map]
    exact few
  have mem : ∀ v ∈ vs, ∃ q ∈ L, Value.ref q.1 = v := fun v hv => List.mem_map.mp (pm.mem_iff.mp hv)
  refine wpAny_bind (wpAny_newList ?_ (by rw [sizeLine_eq]; omega))
  have top : (s1.heap.push (seqObj "list" vs.toArray 0)).get? s1.heap.objs.size = some (seqObj "list" vs.toArray 0) := Heap.get?_push_size _ rfl
  have tI : ∀ q ∈ L, TS.TupInts (s1.heap.push (seqObj "list" vs.toArray 0)) (.ref q.1) q.2 := fun q hq => tupInts_of (P := P) (w := w) (isT_keep (R.tup q hq) fun b u e => Heap.get?_push_of_some _ (k1 b u e))
  generalize hh2 : s1.heap.push (seqObj "list" vs.toArray 0) = h2 at top tI ⊢
  refine wpAny_bind (wpAny_holding (sortV (s := { s1 with heap := h2 }) (rk := fun v => rk (TS.intsOf h2 v)) top vl (fun v hv => ?_) (by show A.units + 1 + 20 < cLine; omega) (fun u hu v hv ns ms tn tm => ?_) fun out p1 p2 => ?_))
  · obtain ⟨q, hq, rfl⟩ := mem v hv
    exact ⟨q.2, tI q hq⟩
  · obtain ⟨q, hq, rfl⟩ := mem u hu
    obtain ⟨r, hr', rfl⟩ := mem v hv
    have e1 := (tI q hq).ints
    have e2 := (tI r hr').ints
    have e3 := tn.ints
    have e4 := tm.ints
    rw [← e3, ← e4, e1, e2]
    exact hr q hq r hr'
  · obtain ⟨c, hc⟩ := sortedHeap_at (vs := vs) (out := out) top
    -- the rows in the order of the values
    obtain ⟨L', pL, eL⟩ : ∃ L' : List (Addr × List Int), L'.Perm L ∧ L'.map (fun q => Value.ref q.1) = out.toList := by
      obtain ⟨zs, a1, a2⟩ := perm_lift (fun q : Addr × List Int => Value.ref q.1) (p1.trans pm) L rfl
      exact ⟨zs, a1, a2⟩
    refine wpAny_pure ⟨_, rfl, hQ _ s1.heap.objs.size out c L' (fun b u e => ?_) g1 o1 z1 hc eL.symm pL ?_⟩
    · have q := k1 b u e
      have lt := Heap.lt_size q
      show (sortedHeap h2 s1.heap.objs.size vs out).get? b = some u
      rw [sortedHeap_old (Nat.ne_of_lt lt) (by rw [← hh2, size_push']; exact Nat.lt_succ_of_lt lt), ← hh2]
      exact Heap.get?_push_of_some _ q
    · rw [← eL, List.pairwise_map] at p2
      refine List.Pairwise.imp_of_mem (fun {q r} hq hr' h => ?_) p2
      have e1 := (tI q (pL.mem_iff.mp hq)).ints
      have e2 := (tI r (pL.mem_iff.mp hr')).ints
      rw [e1, e2] at h
      exact h
end
/-- sorted(s) -/
def rSortedV (K : PySem.W.Frag) (P : Program) (w : World) : List V → Hp → VK → Prop := fun vs H Q => ∃ (a : Addr) (L : List (Addr × List Int)) (rk : List Int → Int), vs = [V.ref a] ∧ H a = some (SetTO P w a L) ∧ (∀ p ∈ L, SqT K H p.1 (p.2.map V.int)) ∧
  (∀ p ∈ L, ∀ q ∈ L, ltI p.2 q.2 = decide (rk p.2 < rk q.2)) ∧
  ∀ (L' : List (Addr × List Int)) (d : Addr), L'.Perm L → (L'.map (·.2)).Nodup → L'.length < 64 → L'.Pairwise (fun q r => rk q.2 ≤ rk r.2) → H d = none → Q (.ref d) (upd H d (.lst (L'.map fun q => V.ref q.1)))
theorem cr_sortedV {X : Cx} (hc : X.calm = true) (hu : X.A.units + 64 < cLine) : CallR X (.builtin "sorted") (rSortedV X.K X.prog X.w) := by
  intro pins s σ H vs us Q I r h
  obtain ⟨a, L, rk, rfl, ha, hk, hr, q⟩ := h
  obtain ⟨es, ep, t, R⟩ := (show SetT0 X.prog X.w s.heap a L from (I.hok a _ ha).1).full fun p hp => I.isT (hk p hp)
  rw [Vals.ref1 r]
  refine sorted_setV R (I.ok.hd hc) (by omega) hr fun s' d out c L' k g o hd hg ho pm pw => ?_
  have few : L'.length < 64 := pm.length_eq ▸ R.few
  have nd : H d = none := I.hok.fresh hd
  have rel : Vals (L'.map fun q => V.ref q.1) out.toList := ho ▸ vals_of_refs L'
  have zl : (L'.map fun q => V.ref q.1).length ≤ sizeLine := by
    rw [List.length_map, sizeLine_eq]
    omega
  have J : Inv X pins σ (upd H d (.lst (L'.map fun q => V.ref q.1))) { s with heap := s'.heap, gens := s'.gens, drawn := s'.drawn, toks := s'.toks } :=
    I.call (ch := []) (Un.laid k hd nd) (I.hok.laid k hd ⟨zl, out.toList, c, rel, hg⟩) (g ▸ I.bare) fun _ z => nomatch z
  obtain ⟨hp, gs, dr, tk, os⟩ := s'
  obtain ⟨hp0, gs0, dr0, tk0, os0⟩ := s
  cases o
  exact ⟨.ref d, _, J, rfl, q L' d pm ((pm.map (·.2)).nodup_iff.mpr R.nd) few pw nd⟩
end K1
set_option linter.all false
set_option maxRecDepth 100000
set_option maxHeartbeats 1000000
/-! a dict comprehension whose keys are tuples of ints and texts -/
namespace K1
open PySem PySem.Spec PyProof.Rows L2
theorem setT {X : Cx} {pins : List (Addr × Obj)} {σ : L2.St} {H : Hp} {s : Shared} {E : Value → Shared → Prop} {D b : Addr} {kvs : List (List Key × V)} {k : List Key} {v : V} {r : Value} {Q : Unit → Shared → Prop} (hu : X.A.units < cLine) (I : Inv X pins σ H s)
    (hD : H D = some (.dT kvs)) (hz : kvs.length < sizeLine) (hb : H b = some (.tup (k.map kV))) (rv : RelV v r) (q : ∀ s', Inv X pins σ (upd H D (.dT (putK kvs k v))) s' → Q () s') : wpAny (model X.prog X.w) X.A (dictSet D (.ref b) r) Q E s := by
  obtain ⟨zl, sm, xs, rel, dd⟩ := dt_of I.hok hD
  have few : (putK kvs k v).length ≤ sizeLine := Nat.le_trans (length_putK kvs k v) hz
  refine wpAny_dictSet_heap (hsz := (Paired.length rel) ▸ zl) (show (tupleKind (mixKind X.prog X.w)).room X.A from hu) (key_of I.hok hb) dd fun h2 dd2 sb => q _ ?_
  obtain ⟨o, es, ep, at2, x2, x3, x4, _, x5⟩ := dd2
  refine d_write I (hD ▸ True.intro) sb ⟨o, at2⟩ ⟨few, sm, _, KT.keeps (rel.put k hb rv) fun c ys ec => ?_, o, es, ep, at2, x2, x3, x4, x5⟩
  rw [upd_ne (fun e => by rw [e, hD] at ec; cases ec)]
  exact ec
def tDcT (wi : TI) (g : TG) (tt : TT) (tk tv : TE) (vs : List Nat) : TE := fun σ H Q => wi σ H fun J H1 => ∀ D, H1 D = none → ∃ W : Nat → Nat → Hp → Prop, (∃ m, W 0 m (upd H1 D (.dT []))) ∧ ∀ i m H, W i m H →
  (J.stop i H ∧ Q (.ref D) H) ∨ (J.go i H ∧ ∃ Nx : Hp → Prop, (∀ H', Nx H' → ∃ m', m' < m ∧ W (i + 1) m' H') ∧ ∀ x H', J.yld i H x H' → g x (wipe σ vs) H' fun σ2 H2 => wipe σ2 vs = wipe σ vs ∧ tt σ2 H2 fun b H3 =>
    if b = true then tk σ2 H3 fun y H4 => tv σ2 H4 fun z H5 => ∃ kvs k c, y = .ref c ∧ H5 c = some (.tup (k.map kV)) ∧ H5 D = some (.dT kvs) ∧ kvs.length < sizeLine ∧ Nx (upd H5 D (.dT (putK kvs k z))) else Nx H3)
section
variable {X : Cx} {kx vx tg iter : Expr} {ifs : List Expr} {scope : Scope} {own : List (Str × Nat)} {pos : Pos} {wi : TI} {g : TG} {tt : TT} {tk tv : TE}
theorem pe_dcT (hc : X.calm = true) (hu : X.A.units < cLine) (hN : X.N.Nodup) (hi : PI X tg iter wi) (ok : BlkOk X.N X.env.scope scope own)
    (pg : ∀ (s : Shared) (H : Hp) (C : Addr) (cl : List (Str × Addr)) (fp : List Addr), PG (X.blk s H scope (compEnvC scope cl C X.env) fp) tg g)
    (pt : ∀ (s : Shared) (H : Hp) (C : Addr) (cl : List (Str × Addr)) (fp : List Addr), PTs (X.blk s H scope (compEnvC scope cl C X.env) fp) ifs tt)
    (pk : ∀ (s : Shared) (H : Hp) (C : Addr) (cl : List (Str × Addr)) (fp : List Addr), PE (X.blk s H scope (compEnvC scope cl C X.env) fp) kx tk)
    (pv' : ∀ (s : Shared) (H : Hp) (C : Addr) (cl : List (Str × Addr)) (fp : List Addr), PE (X.blk s H scope (compEnvC scope cl C X.env) fp) vx tv) (fs : ∀ x, foldedSetIterable iter X.env x = pure x := by intro _; rfl) :
    PE X (.DictComp kx vx [⟨tg, iter, ifs, 0⟩] scope pos) (tDcT wi g tt tk tv (own.map (·.2))) := by
  refine ⟨fun pins s σ H Q I h => ?_⟩
  rw [arm_eval_DictComp]
  have clo : ∀ y ∈ scope.names, y.2 = .free → ∃ c, X.env.cells.lookup y.1 = some c := fun y hy e =>
    (ok.free y hy e).elim (fun z => I.ok.has _ (.inl z)) fun z => I.ok.has _ (.inr z)
  refine wpAny_comprehension_free (use := _) rfl fs (closure_ok clo) ok.kind (fun y hy e => by rw [ok.uniq y hy, e]) (thn (hi.run pins s σ H _ I h) fun _ s1 z1 => thn z1 fun _ s2 z2 => ?_)
  obtain ⟨it, fp, tn, J, H2, rfl, I2, T, st2, f2, q⟩ := z2
  refine wpAny_newObj_type (newEnv_comp ?_)
  have free2 : H2 s2.heap.objs.size = none := I2.hok.fresh (Nat.le_refl _)
  obtain ⟨W, ⟨m0, w0⟩, turn⟩ := q s2.heap.objs.size free2
  have below : ∀ b ∈ fp, b < s2.heap.objs.size := fun b hb => (T.obj _ _ st2 b hb).elim fun o z => Heap.lt_size z.1
  -- the new dict stands
  obtain ⟨s3, e3⟩ : ∃ s3 : Shared, s3 = { s2 with heap := s2.heap.push { cls := .type "dict", data := .dict #[] } } := ⟨_, rfl⟩
  have h3 : s3.heap = s2.heap.push { cls := .type "dict", data := .dict #[] } := by rw [e3]
  have keep3 : ∀ b o, s2.heap.get? b = some o → s3.heap.get? b = some o := fun b o e => by rw [h3]; exact Heap.get?_push_of_some _ e
  obtain ⟨D, eD⟩ : ∃ D, D = s2.heap.objs.size := ⟨_, rfl⟩
  rw [← eD] at w0 turn free2
  have I3 : Inv X pins σ (upd H2 D (.dT [])) s3 := by
    rw [e3, eD]
    exact I2.laid (t' := s2.toks) (fun b o e => Heap.get?_push_of_some _ e) (Nat.le_refl _) (dt_empty s2.heap I2.big)
  obtain ⟨H3, eH⟩ : ∃ H3, H3 = upd H2 D (.dT []) := ⟨_, rfl⟩
  rw [← eH] at I3 w0
  have f3 : ∀ b ∈ fp, FpOk X pins H3 b ∧ b < s3.heap.objs.size := fun b hb => by
    have lt := below b hb
    have nD : H3 b = none := by
      rw [eH, upd_ne (by rw [eD]; exact Nat.ne_of_lt lt)]
      exact (f2 b hb).1
    exact ⟨⟨nD, (f2 b hb).2⟩, by rw [h3, Heap.size_push]; exact Nat.lt_succ_of_lt lt⟩
  have st3 : tn 0 s3.heap := T.keep _ _ _ st2 fun b _ o e => keep3 b o e
  have I4 := block_start I3 ok hN f3
  have G := pg s3 H3 s3.heap.objs.size (cellsFrom (s3.heap.objs.size + 1) scope.names (cloFrom X.env.cells scope.names [])) fp
  have Tt := pt s3 H3 s3.heap.objs.size (cellsFrom (s3.heap.objs.size + 1) scope.names (cloFrom X.env.cells scope.names [])) fp
  have Kk := pk s3 H3 s3.heap.objs.size (cellsFrom (s3.heap.objs.size + 1) scope.names (cloFrom X.env.cells scope.names [])) fp
  have Vv := pv' s3 H3 s3.heap.objs.size (cellsFrom (s3.heap.objs.size + 1) scope.names (cloFrom X.env.cells scope.names [])) fp
  rw [← h3, ← eD]
  show codeAny _ _ (.compStart (.DictComp kx vx [⟨tg, iter, ifs, 0⟩] scope pos) 0 (.ref it) (.ref D) (compEnvC scope (cellsFrom (s3.heap.objs.size + 1) scope.names (cloFrom X.env.cells scope.names [])) s3.heap.objs.size X.env)) _ _
  obtain ⟨ce, ec⟩ : ∃ ce, ce = compEnvC scope (cellsFrom (s3.heap.objs.size + 1) scope.names (cloFrom X.env.cells scope.names [])) s3.heap.objs.size X.env := ⟨_, rfl⟩
  have cL : ce.locals = s3.heap.objs.size := by rw [ec]; rfl
  rw [← ec] at I4 G Tt Kk Vv ⊢
  obtain ⟨s4, e4⟩ : ∃ s4 : Shared, s4 = { s3 with heap := pushCells (s3.heap.push { cls := .type "dict", data := .dict #[] }) scope.names } := ⟨_, rfl⟩
  have es : ({ s2 with heap := pushCells (s3.heap.push { cls := .type "dict", data := .dict #[] }) scope.names } : Shared) = s4 := by rw [e4, e3]
  rw [es]
  rw [← e4] at I4
  have st4 : tn 0 s4.heap := T.keep _ _ _ st3 fun b _ o e => by rw [e4]; exact pushCells_keeps _ _ _ _ (Heap.get?_push_of_some _ e)
  have fpNow : ∀ {σ' : L2.St} {H' : Hp} {s' : Shared}, Inv (X.blk s3 H3 scope ce fp) [] σ' H' s' → (∀ b ∈ fp, H' b = none) → ∀ b ∈ fp, FpOk (X.blk s3 H3 scope ce fp) [] H' b := fun J' hn b hb =>
    ⟨hn b hb, (J'.ok.exf b hb).1, J'.ok.exfs b hb, .inl hb, fun x c e => (J'.ok.exf b hb).2 x c e, fun p hp => nomatch (show p ∈ ([] : List (Addr × Obj)) from hp)⟩
  refine codeAny_compStart_dict ?_ (T.self X.A 0 _ _ _ st4 ?_)
  all_goals
    refine compLoop_anyD (fun n s' => ∃ i H', Inv (X.blk s3 H3 scope ce fp) [] (wipe σ (own.map (·.2))) H' s' ∧ tn i s'.heap ∧ (∀ b ∈ fp, H' b = none) ∧ W i n H') ?_ m0 ⟨0, H3, I4, st4, fun b hb => (f3 b hb).1.1, w0⟩
    rintro n s5 ⟨i, H5, I5, st5, n5, w5⟩
    rcases turn i n H5 w5 with ⟨stop, qq⟩ | ⟨go, Nx, hNx, step⟩
    · refine thnF (T.done (X.blk s3 H3 scope ce fp) rfl rfl rfl hc i [] s5 _ H5 (fun _ _ => False) I5 (fpNow I5 n5) st5 stop) fun r s6 ⟨hr, I6⟩ => ?_
      subst hr
      have I7 : Inv X pins σ H5 s6 := I3.call' (ch := fp) I6.os I6.base I6.hok I6.bare fun b hb =>
        have f := (f3 b hb).1.2
        ⟨f.2.2.1, f.1, f.2.2.2.1, f.2.2.2.2⟩
      obtain ⟨m, hn, _⟩ := I6.loc
      have hn' : s6.heap.Ns ce.locals m := hn
      have nC : H5 ce.locals = none := I6.free
      rw [cL] at hn' nC
      obtain ⟨g0, g1, g2, g3, g4, g5⟩ := I3.fpOk (Nat.le_refl _) nC
      exact ⟨m, hn', fun h2 sb => ⟨.ref D, H5, I7.turned (t' := s6.toks) (fun b o hb e => (sb.2 b hb).trans e) g0 g1 g3 g4 g5, rfl, qq⟩⟩
    · refine thnF (T.item (X.blk s3 H3 scope ce fp) rfl rfl rfl hc i [] s5 _ H5 (fun _ _ => False) I5 (fpNow I5 n5) st5 go) fun r s6 ⟨u, hr, z6⟩ => ?_
      subst hr
      refine thnF z6 fun _ s7 ⟨x, H7, I7, r7, y7, st7, n7⟩ => ?_
      refine thnF (G.run _ s7 _ H7 x u _ (I7.pinned (fpNow I7 n7) (T.obj _ _ st7)) r7 (step x H7 y7)) fun _ s8 ⟨σ8, H8, I8, hw8, q8⟩ => ?_
      refine thnF (Tt.run _ s8 σ8 H8 _ I8 q8) fun b s9 ⟨H9, I9, q9⟩ => ?_
      have again : ∀ {s' : Shared} {H' : Hp}, Inv (X.blk s3 H3 scope ce fp) ([] ++ pinsAt fp s7.heap) σ8 H' s' → Nx H' → ∃ m, m < n ∧ ∃ i H', Inv (X.blk s3 H3 scope ce fp) [] (wipe σ (own.map (·.2))) H' s' ∧ tn i s'.heap ∧ (∀ b ∈ fp, H' b = none) ∧ W i m H' := fun {s' H'} J' nx => by
        obtain ⟨m', lt, w'⟩ := hNx H' nx
        have pinned : ∀ b ∈ fp, ∀ o, s7.heap.get? b = some o → s'.heap.get? b = some o ∧ H' b = none := fun b hb o e =>
          have z := J'.pin (b, o) (List.mem_append_right _ (List.mem_append_right _ (mem_pinsAt hb e)))
          ⟨z.1, z.2.1⟩
        refine ⟨m', lt, i + 1, H', (J'.unpinned (pins := [])).weak (by rw [← hw8, wipe_length]) (fun j v e => ?_), T.keep _ _ _ st7 fun b hb o e => (pinned b hb o e).1, fun b hb => ?_, w'⟩
        · rw [← hw8] at e
          exact (wipe_some e).1
        · exact (T.obj _ _ st7 b hb).elim fun o z => (pinned b hb o z.1).2
      cases b with
      | false => exact again I9 (by simpa using q9)
      | true =>
        rw [if_pos rfl] at q9 ⊢
        refine thnF (Kk.run _ s9 σ8 H9 _ I9 q9) fun z s10 ⟨yk, H10, I10, r10, q10⟩ => ?_
        refine thnF (Vv.run _ s10 σ8 H10 _ I10 q10) fun z' s11 ⟨yv, H11, I11, r11, kvs, k, c, ek, hb, hD, hz, nx⟩ => ?_
        subst ek
        cases (show z = Value.ref c from r10)
        exact setT (X := X.blk s3 H3 scope ce fp) hu I11 hD hz hb r11 fun s12 I12 => again I12 nx
end
/-- over a tuple that stays -/
theorem dcT_tup {K : PySem.W.Frag} {a : Addr} {xs : List V} {g : TG} {tt : TT} {tk tv : TE} {vs : List Nat} {σ : L2.St} {H1 : Hp} {D : Addr} {Qd : Hp → Prop} (Pv : Nat → Hp → Prop) (h0 : Pv 0 (upd H1 D (.dT []))) (hl : ∀ i H, i ≤ xs.length → Pv i H → SqT K H a xs)
    (hs : ∀ i x H, xs[i]? = some x → Pv i H → g x (wipe σ vs) H fun σ2 H2 => wipe σ2 vs = wipe σ vs ∧ tt σ2 H2 fun b H3 =>
      if b = true then tk σ2 H3 fun y H4 => tv σ2 H4 fun z H5 => ∃ kvs k c, y = .ref c ∧ H5 c = some (.tup (k.map kV)) ∧ H5 D = some (.dT kvs) ∧ kvs.length < sizeLine ∧ Pv (i + 1) (upd H5 D (.dT (putK kvs k z))) else Pv (i + 1) H3) (hd : ∀ H, Pv xs.length H → Qd H) :
    ∃ W : Nat → Nat → Hp → Prop, (∃ m, W 0 m (upd H1 D (.dT []))) ∧ ∀ i m H, W i m H →
      ((Itt K a).stop i H ∧ Qd H) ∨ ((Itt K a).go i H ∧ ∃ Nx : Hp → Prop, (∀ H', Nx H' → ∃ m', m' < m ∧ W (i + 1) m' H') ∧ ∀ x H', (Itt K a).yld i H x H' → g x (wipe σ vs) H' fun σ2 H2 => wipe σ2 vs = wipe σ vs ∧ tt σ2 H2 fun b H3 =>
        if b = true then tk σ2 H3 fun y H4 => tv σ2 H4 fun z H5 => ∃ kvs k c, y = .ref c ∧ H5 c = some (.tup (k.map kV)) ∧ H5 D = some (.dT kvs) ∧ kvs.length < sizeLine ∧ Nx (upd H5 D (.dT (putK kvs k z))) else Nx H3) := by
  refine ⟨fun i m H => m + i = xs.length ∧ Pv i H, ⟨xs.length, rfl, h0⟩, ?_⟩
  rintro i m H ⟨em, p⟩
  have q := hl i H (by omega) p
  cases c : xs[i]? with
  | some x =>
    have lt : i < xs.length := by
      rcases Nat.lt_or_ge i xs.length with z | z
      · exact z
      · rw [List.getElem?_eq_none z] at c
        cases c
    exact .inr ⟨⟨xs, x, q, c⟩, fun H' => Pv (i + 1) H', fun H' p' => ⟨m - 1, by omega, by omega, p'⟩, fun y H' ⟨e, hy⟩ => by
      subst e
      have z := hy xs q
      rw [c] at z
      cases z
      exact hs i x _ c p⟩
  | none =>
    have e : i = xs.length := by
      have z := List.getElem?_eq_none_iff.mp c
      omega
    subst e
    exact .inl ⟨⟨xs, q, Nat.le_refl _⟩, hd H p⟩
end K1
set_option maxRecDepth 100000
set_option maxHeartbeats 1000000
namespace K1
open PySem L2
/-! ### an order by one number -/
def rkB (B : Int) : Nat → List Int → Int
  | 0, _ => 0
  | _ + 1, [] => 0
  | d + 1, n :: r => (n + 1) * (B + 1) ^ d + rkB B d r
/-- at most d numbers, from 0 on and below B -/
def InB (B : Int) (d : Nat) (ns : List Int) : Prop := ns.length ≤ d ∧ ∀ n ∈ ns, 0 ≤ n ∧ n < B
theorem InB.tail {B : Int} {d : Nat} {n : Int} {r : List Int} (h : InB B (d + 1) (n :: r)) : InB B d r := ⟨Nat.le_of_succ_le_succ h.1, fun m hm => h.2 m (.tail _ hm)⟩
theorem rkB_bd {B : Int} (hB : 0 ≤ B) : ∀ (d : Nat) (ns : List Int), InB B d ns → 0 ≤ rkB B d ns ∧ rkB B d ns < (B + 1) ^ d
  | 0, _, _ => ⟨Int.le_refl _, by show (0 : Int) < (B + 1) ^ 0; rw [Int.pow_zero]; decide⟩
  | d + 1, [], _ => ⟨Int.le_refl _, Int.pow_pos (by omega)⟩
  | d + 1, n :: r, h => by
    obtain ⟨c0, c1⟩ := rkB_bd hB d r h.tail
    obtain ⟨n0, n1⟩ := h.2 n (.head _)
    show 0 ≤ (n + 1) * (B + 1) ^ d + rkB B d r ∧ (n + 1) * (B + 1) ^ d + rkB B d r < (B + 1) ^ (d + 1)
    rw [Int.pow_succ]
    exact TS.num1 c0 c1 (by omega) (by omega)
theorem ltI_rk {B : Int} (hB : 0 ≤ B) : ∀ (d : Nat) (ns ms : List Int), InB B d ns → InB B d ms → ltI ns ms = decide (rkB B d ns < rkB B d ms)
  | 0, [], [], _, _ => (decide_eq_false (Int.lt_irrefl _)).symm
  | 0, _ :: _, _, h, _ => absurd h.1 (Nat.not_succ_le_zero _)
  | 0, [], _ :: _, _, h => absurd h.1 (Nat.not_succ_le_zero _)
  | d + 1, [], [], _, _ => (decide_eq_false (Int.lt_irrefl _)).symm
  | d + 1, [], m :: q, _, h => by
    obtain ⟨c0, c1⟩ := rkB_bd hB d q h.tail
    have m0 := (h.2 m (.head _)).1
    have z := TS.num2 (P := (B + 1) ^ d) (d := 0) (e := m + 1) (c := 0) (Int.le_refl 0) (Int.pow_pos (by omega)) c0 (by omega)
    rw [Int.zero_mul, Int.add_zero] at z
    exact (decide_eq_true z).symm
  | d + 1, n :: r, [], h, _ => by
    have z := (rkB_bd hB (d + 1) (n :: r) h).1
    refine (decide_eq_false ?_).symm
    show ¬ rkB B (d + 1) (n :: r) < 0
    omega
  | d + 1, n :: r, m :: q, h, h' => by
    obtain ⟨c0, c1⟩ := rkB_bd hB d r h.tail
    obtain ⟨g0, g1⟩ := rkB_bd hB d q h'.tail
    show (if n = m then ltI r q else decide (n < m)) = decide ((n + 1) * (B + 1) ^ d + rkB B d r < (m + 1) * (B + 1) ^ d + rkB B d q)
    by_cases e : n = m
    · rw [if_pos e, ltI_rk hB d r q h.tail h'.tail, e]
      generalize (m + 1) * (B + 1) ^ d = X
      exact decide_eq_decide.mpr ⟨fun z => by omega, fun z => by omega⟩
    · rw [if_neg e]
      refine decide_eq_decide.mpr ⟨fun z => TS.num2 c0 c1 g0 (by omega), fun z => ?_⟩
      rcases Int.lt_trichotomy n m with y | y | y
      · exact y
      · exact absurd y e
      · have w := TS.num2 (d := m + 1) (e := n + 1) g0 g1 c0 (by omega)
        omega
theorem ltI_eq : ∀ (ns ms : List Int), ltI ns ms = false → ltI ms ns = false → ns = ms
  | [], [], _, _ => rfl
  | [], _ :: _, h, _ => nomatch h
  | _ :: _, [], _, h => nomatch h
  | n :: r, m :: q, h, h' => by
    have h1 : (if n = m then ltI r q else decide (n < m)) = false := h
    have h2 : (if m = n then ltI q r else decide (m < n)) = false := h'
    by_cases e : n = m
    · rw [if_pos e] at h1
      rw [if_pos e.symm] at h2
      rw [e, ltI_eq r q h1 h2]
    · rw [if_neg e] at h1
      rw [if_neg (fun z => e z.symm)] at h2
      have a := of_decide_eq_false h1
      have b := of_decide_eq_false h2
      omega
theorem rk_inj {B : Int} (hB : 0 ≤ B) {d : Nat} {ns ms : List Int} (h : InB B d ns) (h' : InB B d ms) (e : rkB B d ns = rkB B d ms) : ns = ms := by
  refine ltI_eq ns ms ?_ ?_
  · rw [ltI_rk hB d ns ms h h', e]
    exact decide_eq_false (Int.lt_irrefl _)
  · rw [ltI_rk hB d ms ns h' h, e]
    exact decide_eq_false (Int.lt_irrefl _)
/-- <= of two tuples, as the layer says it -/
theorem lexAt_shift {e r : Nat → Bool} {z : Bool} : ∀ (k i : Nat), Ob.lexAt (fun j => e (j + 1)) (fun j => r (j + 1)) z i k = Ob.lexAt e r z (i + 1) k
  | 0, _ => rfl
  | k + 1, i => by
    rw [Ob.lexAt_succ, Ob.lexAt_succ, lexAt_shift k (i + 1)]
theorem lex_le : ∀ (ns ms : List Int), Ob.lexAt (fun j => decide (ns.getD j 0 = ms.getD j 0)) (fun j => decide (ns.getD j 0 ≤ ms.getD j 0)) (decide (ns.length ≤ ms.length)) 0 (min ns.length ms.length) = !ltI ms ns
  | [], [] => rfl
  | [], _ :: _ => rfl
  | _ :: _, [] => rfl
  | n :: r, m :: q => by
    have z := lex_le r q
    have s := lexAt_shift (e := fun j => decide ((n :: r).getD j 0 = (m :: q).getD j 0)) (r := fun j => decide ((n :: r).getD j 0 ≤ (m :: q).getD j 0)) (z := decide ((n :: r).length ≤ (m :: q).length)) (min r.length q.length) 0
    have l : min (n :: r).length (m :: q).length = min r.length q.length + 1 := by simp only [List.length_cons]; omega
    rw [l, Ob.lexAt_succ, ← s]
    have e1 : decide ((n :: r).length ≤ (m :: q).length) = decide (r.length ≤ q.length) := by simp
    rw [e1]
    show (if decide (n = m) = true then Ob.lexAt (fun j => decide (r.getD j 0 = q.getD j 0)) (fun j => decide (r.getD j 0 ≤ q.getD j 0)) (decide (r.length ≤ q.length)) 0 (min r.length q.length) else decide (n ≤ m)) = !(if m = n then ltI q r else decide (m < n))
    rw [z]
    by_cases e : n = m
    · rw [if_pos (decide_eq_true e), if_pos e.symm]
    · rw [if_neg (by simpa using e), if_neg (fun z => e z.symm), ← decide_not]
      exact decide_eq_decide.mpr (by omega)
/-- the places of this law -/
def BB : Int := 1000000000000000000000000000000
abbrev rk : List Int → Int := rkB BB 9
def Ok (ns : List Int) : Prop := InB BB 9 ns
theorem Ok.lt {ns ms : List Int} (h : Ok ns) (h' : Ok ms) : ltI ns ms = decide (rk ns < rk ms) := ltI_rk (by decide) 9 ns ms h h'
theorem Ok.inj {ns ms : List Int} (h : Ok ns) (h' : Ok ms) (e : rk ns = rk ms) : ns = ms := rk_inj (by decide) h h' e
/-! ### lists of places -/
abbrev PL := List (Addr × List Int)
def refs (L : PL) : List V := L.map fun p => V.ref p.1
def keys (L : PL) : List (List Int) := L.map (·.2)
/-- the tuples stand -/
def Ats (H : Hp) (L : PL) : Prop := ∀ p ∈ L, H p.1 = some (.tup (p.2.map V.int))
def Oks (L : PL) : Prop := ∀ p ∈ L, Ok p.2
/-- strictly ascending -/
def Asc (L : PL) : Prop := L.Pairwise fun p q => rk p.2 < rk q.2
theorem Ats.mono {H H' : Hp} {L : PL} (h : Ats H L) (s : Same H H') : Ats H' L := fun p hp => s _ _ (h p hp)
theorem Ats.sub {H : Hp} {L M : PL} (h : Ats H L) (k : ∀ p ∈ M, p ∈ L) : Ats H M := fun p hp => h p (k p hp)
theorem Oks.sub {L M : PL} (h : Oks L) (k : ∀ p ∈ M, p ∈ L) : Oks M := fun p hp => h p (k p hp)
theorem refs_len (L : PL) : (refs L).length = L.length := List.length_map _
theorem refs_get {L : PL} {i : Nat} {x : V} (h : (refs L)[i]? = some x) : ∃ p, L[i]? = some p ∧ x = .ref p.1 := by
  unfold refs at h
  rw [List.getElem?_map] at h
  obtain ⟨p, h1, h2⟩ := Option.map_eq_some_iff.mp h
  exact ⟨p, h1, h2.symm⟩
theorem refs_take (L : PL) (i : Nat) : (refs L).take i = refs (L.take i) := (List.map_take ..).symm
theorem refs_app (L M : PL) : refs (L ++ M) = refs L ++ refs M := List.map_append ..
/-- strictly ascending lists of the same places are the same -/
theorem asc_keys : ∀ {L M : PL}, Asc L → Asc M → Oks L → Oks M → (∀ k, k ∈ keys L ↔ k ∈ keys M) → keys L = keys M
  | [], [], _, _, _, _, _ => rfl
  | [], q :: M, _, _, _, _, h => absurd ((h q.2).mpr (List.mem_map.mpr ⟨q, .head _, rfl⟩)) (by simp [keys])
  | p :: L, [], _, _, _, _, h => absurd ((h p.2).mp (List.mem_map.mpr ⟨p, .head _, rfl⟩)) (by simp [keys])
  | p :: L, q :: M, hL, hM, oL, oM, h => by
    obtain ⟨l1, l2⟩ := List.pairwise_cons.mp hL
    obtain ⟨m1, m2⟩ := List.pairwise_cons.mp hM
    have low : ∀ {r : Addr × List Int} {N : PL}, (∀ a ∈ N, rk r.2 < rk a.2) → ∀ k, k ∈ keys (r :: N) → rk r.2 ≤ rk k := fun hn k hk => by
      obtain ⟨a, ha, rfl⟩ := List.mem_map.mp hk
      rcases List.mem_cons.mp ha with e | e
      · rw [e]; exact Int.le_refl _
      · exact Int.le_of_lt (hn a e)
    have hp : p.2 ∈ keys (p :: L) := List.mem_map.mpr ⟨p, .head _, rfl⟩
    have hq : q.2 ∈ keys (q :: M) := List.mem_map.mpr ⟨q, .head _, rfl⟩
    have e : p.2 = q.2 := (oL p (.head _)).inj (oM q (.head _)) (Int.le_antisymm (low l1 _ ((h _).mpr hq)) (low m1 _ ((h _).mp hp)))
    have no : ∀ {r : Addr × List Int} {N : PL}, (∀ a ∈ N, rk r.2 < rk a.2) → r.2 ∉ keys N := fun hn hk => by
      obtain ⟨a, ha, ea⟩ := List.mem_map.mp hk
      have z := hn a ha
      rw [ea] at z
      exact absurd z (Int.lt_irrefl _)
    show p.2 :: keys L = q.2 :: keys M
    rw [e, asc_keys l2 m2 (oL.sub fun a ha => .tail _ ha) (oM.sub fun a ha => .tail _ ha) fun k => ?_]
    have z := h k
    constructor
    · intro hk
      have w : k ∈ q.2 :: keys M := z.mp (.tail _ hk)
      rcases List.mem_cons.mp w with y | y
      · exact absurd hk (by rw [y, ← e]; exact no l1)
      · exact y
    · intro hk
      have w : k ∈ p.2 :: keys L := z.mpr (.tail _ hk)
      rcases List.mem_cons.mp w with y | y
      · exact absurd hk (by rw [y, e]; exact no m1)
      · exact y
end K1
set_option linter.all false
set_option maxRecDepth 100000
/-! rules whose reading names the written part, told for use within a comprehension's block; list comprehensions of two clauses over walks -/
namespace K1
open PySem L2
section
variable {X : Cx} {K : PySem.W.Frag}
theorem ix_tupK (h : X.K = K) : IxR X (rIxT K) := by subst h; exact ix_tup
theorem ix_listK (h : X.K = K) : IxR X (rIxL K) := by subst h; exact ix_list
theorem pe_fldK {e : Expr} {ta : TE} {f : Str} {pos : Pos} (h : X.K = K) (he : PE X e ta) (hb : attributeBase e f X.env (eval e X.env) = eval e X.env := by rfl) : PE X (.Attribute e f pos) (tFld K ta f) := by subst h; exact pe_fld he hb
theorem pi_tupK {tg l : Expr} {tl : TE} (h : X.K = K) (hl : PE X l tl) : PI X tg l (iTup K tl) := by subst h; exact pi_tup hl
theorem pi_listK {tg l : Expr} {tl : TE} (h : X.K = K) (hl : PE X l tl) : PI X tg l (iList K tl) := by subst h; exact pi_list hl
theorem call_lenK2 (h : X.K = K) : CallR X (.builtin "len") (fun xs H Q => ∃ p ys, xs = [.ref p] ∧ (SqL K H p ys ∨ SqT K H p ys) ∧ Q (.int ys.length) H) := by subst h; exact call_len_seq
end
/-- the second clause -/
def tLcIn (wi1 : TI) (g1 : TG) (tt1 : TT) (te : TE) (vs1 : List Nat) (D : Addr) (Nx : Hp → Prop) (σ2 : L2.St) (H3 : Hp) : Prop := wi1 σ2 H3 fun J1 H4 => ∃ W1 : Nat → Nat → Hp → Prop, (∃ m, W1 0 m H4) ∧ ∀ j k H, W1 j k H →
  (J1.stop j H ∧ Nx H) ∨ (J1.go j H ∧ ∃ N1 : Hp → Prop, (∀ H', N1 H' → ∃ k', k' < k ∧ W1 (j + 1) k' H') ∧ ∀ x H', J1.yld j H x H' → g1 x (wipe σ2 vs1) H' fun σ3 H5 => wipe σ3 vs1 = wipe σ2 vs1 ∧ tt1 σ3 H5 fun b H6 =>
    if b = true then te σ3 H6 fun y H7 => ∃ acc, H7 D = some (.lst acc) ∧ acc.length < sizeLine ∧ N1 (upd H7 D (.lst (acc ++ [y]))) else N1 H6)
def tLcTwo (wi : TI) (g : TG) (tt : TT) (wi1 : TI) (g1 : TG) (tt1 : TT) (te : TE) (vs vs1 : List Nat) : TE := fun σ H Q => wi σ H fun J H1 => ∀ D, H1 D = none → ∃ W : Nat → Nat → Hp → Prop, (∃ m, W 0 m (upd H1 D (.lst []))) ∧ ∀ i m H, W i m H →
  (J.stop i H ∧ Q (.ref D) H) ∨ (J.go i H ∧ ∃ Nx : Hp → Prop, (∀ H', Nx H' → ∃ m', m' < m ∧ W (i + 1) m' H') ∧ ∀ x H', J.yld i H x H' → g x (wipe σ vs) H' fun σ2 H2 => wipe σ2 vs = wipe σ vs ∧ tt σ2 H2 fun b H3 =>
    if b = true then tLcIn wi1 g1 tt1 te vs1 D Nx σ2 H3 else Nx H3)
theorem pe_lcTwo {X : Cx} {elt tg iter tg1 iter1 : Expr} {ifs ifs1 : List Expr} {scope : Scope} {own : List (Str × Nat)} {vs1 : List Nat} {pos : Pos} {wi wi1 : TI} {g g1 : TG} {tt tt1 : TT} {te : TE} (hc : X.calm = true) (hN : X.N.Nodup) (hi : PI X tg iter wi) (ok : BlkOk X.N X.env.scope scope own) (hv : ∀ i ∈ vs1, i ∈ own.map (·.2))
    (pg : ∀ (s : Shared) (H : Hp) (C : Addr) (cl : List (Str × Addr)) (fp : List Addr), PG (X.blk s H scope (compEnvC scope cl C X.env) fp) tg g) (pt : ∀ (s : Shared) (H : Hp) (C : Addr) (cl : List (Str × Addr)) (fp : List Addr), PTs (X.blk s H scope (compEnvC scope cl C X.env) fp) ifs tt)
    (pj : ∀ (s : Shared) (H : Hp) (C : Addr) (cl : List (Str × Addr)) (fp : List Addr), PI (X.blk s H scope (compEnvC scope cl C X.env) fp) tg1 iter1 wi1)
    (pg1 : ∀ (s : Shared) (H : Hp) (C : Addr) (cl : List (Str × Addr)) (fp : List Addr), PG (X.blk s H scope (compEnvC scope cl C X.env) fp) tg1 g1) (pt1 : ∀ (s : Shared) (H : Hp) (C : Addr) (cl : List (Str × Addr)) (fp : List Addr), PTs (X.blk s H scope (compEnvC scope cl C X.env) fp) ifs1 tt1)
    (pe : ∀ (s : Shared) (H : Hp) (C : Addr) (cl : List (Str × Addr)) (fp : List Addr), PE (X.blk s H scope (compEnvC scope cl C X.env) fp) elt te) (fs : ∀ x, foldedSetIterable iter X.env x = pure x := by intro _; rfl) (fs1 : ∀ env x, foldedSetIterable iter1 env x = pure x := by intro _ _; rfl) :
    PE X (.ListComp elt [⟨tg, iter, ifs, 0⟩, ⟨tg1, iter1, ifs1, 0⟩] scope pos) (tLcTwo wi g tt wi1 g1 tt1 te (own.map (·.2)) vs1) :=
  pe_lc2 hc hN hi ok hv pg pt pj pg1 pt1 pe fs fs1
section
variable {J : It} {n : Nat} {G : Hp → Prop} {Y : Nat → Hp → V → Hp → Prop} {g g1 : TG} {tt tt1 : TT} {wi1 : TI} {te : TE} {vs vs1 : List Nat} {σ σ2 : L2.St} {H1 H4 : Hp} {D : Addr} {Qd Nx : Hp → Prop}
theorem lc2_it (w : Walk J n G Y) (Pv : Nat → Hp → Prop) (h0 : Pv 0 (upd H1 D (.lst []))) (hG : ∀ i H, i ≤ n → Pv i H → G H)
    (hs : ∀ i x H H', i < n → Pv i H → Y i H x H' → g x (wipe σ vs) H' fun σ2 H2 => wipe σ2 vs = wipe σ vs ∧ tt σ2 H2 fun b H3 => if b = true then tLcIn wi1 g1 tt1 te vs1 D (Pv (i + 1)) σ2 H3 else Pv (i + 1) H3) (hd : ∀ H, Pv n H → Qd H) :
    ∃ W : Nat → Nat → Hp → Prop, (∃ m, W 0 m (upd H1 D (.lst []))) ∧ ∀ i m H, W i m H →
      (J.stop i H ∧ Qd H) ∨ (J.go i H ∧ ∃ Nx : Hp → Prop, (∀ H', Nx H' → ∃ m', m' < m ∧ W (i + 1) m' H') ∧ ∀ x H', J.yld i H x H' → g x (wipe σ vs) H' fun σ2 H2 => wipe σ2 vs = wipe σ vs ∧ tt σ2 H2 fun b H3 =>
        if b = true then tLcIn wi1 g1 tt1 te vs1 D Nx σ2 H3 else Nx H3) := by
  refine ⟨fun i m H => (m + i = n) ∧ Pv i H, ⟨n, rfl, h0⟩, ?_⟩
  rintro i m H ⟨e, p⟩
  have q := hG i H (by omega) p
  rcases Nat.lt_or_ge i n with c | c
  · exact .inr ⟨w.goes i H c q, Pv (i + 1), fun H' p' => ⟨m - 1, by omega, by omega, p'⟩, fun x H' y => hs i x H H' c p (w.yields i H x H' c q y)⟩
  · obtain rfl : i = n := by omega
    exact .inl ⟨w.stops H q, hd H p⟩
theorem lcIn_it (w : Walk J n G Y) (Pv : Nat → Hp → Prop) (h0 : Pv 0 H4) (hG : ∀ i H, i ≤ n → Pv i H → G H)
    (hs : ∀ i x H H', i < n → Pv i H → Y i H x H' → g1 x (wipe σ2 vs1) H' fun σ3 H5 => wipe σ3 vs1 = wipe σ2 vs1 ∧ tt1 σ3 H5 fun b H6 =>
      if b = true then te σ3 H6 fun y H7 => ∃ acc, H7 D = some (.lst acc) ∧ acc.length < sizeLine ∧ Pv (i + 1) (upd H7 D (.lst (acc ++ [y]))) else Pv (i + 1) H6) (hd : ∀ H, Pv n H → Nx H) :
    ∃ W1 : Nat → Nat → Hp → Prop, (∃ m, W1 0 m H4) ∧ ∀ j k H, W1 j k H →
      (J.stop j H ∧ Nx H) ∨ (J.go j H ∧ ∃ N1 : Hp → Prop, (∀ H', N1 H' → ∃ k', k' < k ∧ W1 (j + 1) k' H') ∧ ∀ x H', J.yld j H x H' → g1 x (wipe σ2 vs1) H' fun σ3 H5 => wipe σ3 vs1 = wipe σ2 vs1 ∧ tt1 σ3 H5 fun b H6 =>
        if b = true then te σ3 H6 fun y H7 => ∃ acc, H7 D = some (.lst acc) ∧ acc.length < sizeLine ∧ N1 (upd H7 D (.lst (acc ++ [y]))) else N1 H6) := by
  refine ⟨fun i m H => (m + i = n) ∧ Pv i H, ⟨n, rfl, h0⟩, ?_⟩
  rintro i m H ⟨e, p⟩
  have q := hG i H (by omega) p
  rcases Nat.lt_or_ge i n with c | c
  · exact .inr ⟨w.goes i H c q, Pv (i + 1), fun H' p' => ⟨m - 1, by omega, by omega, p'⟩, fun x H' y => hs i x H H' c p (w.yields i H x H' c q y)⟩
  · obtain rfl : i = n := by omega
    exact .inl ⟨w.stops H q, hd H p⟩
end
end K1
set_option linter.all false
set_option maxRecDepth 100000
set_option maxHeartbeats 2000000
/-! zip of two sequences, each a list or a tuple -/
namespace K1
open PySem PySem.Spec PyProof.Rows L2
open Sem (wp)
open AutoSeq1 (wpAny_loadPart')
/-- a tuple (true) or a list (false) -/
def SqB (K : PySem.W.Frag) (t : Bool) (H : Hp) (a : Addr) (xs : List V) : Prop := if t = true then SqT K H a xs else SqL K H a xs
def IsB (t : Bool) (h : Heap) (a : Addr) (items : Array Value) : Prop := if t = true then h.IsTuple a items else h.IsList a items
def itB (t : Bool) : String := if t = true then "tuple_iterator" else "list_iterator"
def IterB (t : Bool) (h : Heap) (it a : Addr) (i : Nat) : Prop := if t = true then h.IsTupleIter it a i else h.IsListIter it a i
theorem IsB.push {t : Bool} {h : Heap} {a : Addr} {items : Array Value} (x : IsB t h a items) (o : Obj) : IsB t (h.push o) a items := by
  cases t with
  | true => exact Heap.IsTuple.push (show h.IsTuple a items from x) o
  | false => exact Heap.IsList.push (show h.IsList a items from x) o
theorem IsB.live {t : Bool} {h : Heap} {a : Addr} {items : Array Value} (x : IsB t h a items) : a < h.objs.size := by
  cases t with
  | true =>
    obtain ⟨o, e, _⟩ := (show h.IsTuple a items from x)
    exact Heap.lt_size e
  | false =>
    obtain ⟨o, e, _⟩ := (show h.IsList a items from x)
    exact Heap.lt_size e
theorem IterB.live {t : Bool} {h : Heap} {it a : Addr} {i : Nat} (x : IterB t h it a i) : ∃ o cl vs, h.get? it = some o ∧ o.data = .fields vs ∧ o.cls = .type cl := by
  cases t with
  | true =>
    obtain ⟨o, e, c, d⟩ := (show h.IsTupleIter it a i from x)
    exact ⟨o, _, _, e, d, c⟩
  | false =>
    obtain ⟨o, e, c, d⟩ := (show h.IsListIter it a i from x)
    exact ⟨o, _, _, e, d, c⟩
theorem IterB.at {t : Bool} {h h' : Heap} {it a : Addr} {i : Nat} (x : IterB t h it a i) (k : ∀ o, h.get? it = some o → h'.get? it = some o) : IterB t h' it a i := by
  cases t with
  | true => exact Heap.IsTupleIter.at (show h.IsTupleIter it a i from x) k
  | false => exact Heap.IsListIter.at (show h.IsListIter it a i from x) k
theorem IsB.at {t : Bool} {h h' : Heap} {a : Addr} {items : Array Value} (x : IsB t h a items) (k : ∀ o, h.get? a = some o → h'.get? a = some o) : IsB t h' a items := by
  cases t with
  | true => exact Heap.IsTuple.at (show h.IsTuple a items from x) k
  | false => exact Heap.IsList.at (show h.IsList a items from x) k
section
variable {prog : Program} {w : World} {A : Around} {E : Value → Shared → Prop} {s : Shared}
theorem iter_B {t : Bool} {a : Addr} {items : Array Value} {Q : Value → Shared → Prop} (x : IsB t s.heap a items) (q : Q (.ref s.heap.objs.size) { s with heap := s.heap.push { cls := .type (itB t), data := .fields #[.ref a, .int 0 0] } }) : wpAny (model prog w) A (pyIter (.ref a)) Q E s := by
  cases t with
  | true => exact wpAny_pyIter_tuple (show s.heap.IsTuple a items from x) q
  | false => exact wpAny_pyIter_list (show s.heap.IsList a items from x) q
theorem draws_B (hh : A.handled = none) (t : Bool) (it a : Addr) (ne : a ≠ it) (items : Array Value) : Draws prog w A it [it, a] items.size (fun i v => items[i]? = some v) (fun i h => IterB t h it a i ∧ IsB t h a items) := by
  cases t with
  | true => exact Draws.tuple hh it a ne items
  | false => exact Draws.list hh it a ne items
abbrev zB1 (h : Heap) (t1 : Bool) (a : Addr) : Heap := h.push { cls := .type (itB t1), data := .fields #[.ref a, .int 0 0] }
abbrev zB2 (h : Heap) (t1 t2 : Bool) (a b : Addr) : Heap := (zB1 h t1 a).push { cls := .type (itB t2), data := .fields #[.ref b, .int 0 0] }
abbrev zB3 (h : Heap) (t1 t2 : Bool) (a b : Addr) : Heap := (zB2 h t1 t2 a b).push { cls := .type "tuple", data := .seq #[.ref h.objs.size, .ref (zB1 h t1 a).objs.size] }
abbrev zB4 (h : Heap) (t1 t2 : Bool) (a b : Addr) : Heap := (zB3 h t1 t2 a b).push { cls := .type "tuple", data := .seq #[.none, .none] }
abbrev zB5 (h : Heap) (t1 t2 : Bool) (a b : Addr) : Heap := (zB4 h t1 t2 a b).push { cls := .type "zip", data := .fields #[.none, .bool false, .bool false, .ref (zB2 h t1 t2 a b).objs.size, .ref (zB3 h t1 t2 a b).objs.size] }
theorem meets_zB (t1 t2 : Bool) (a b : Addr) (xs ys : Array Value) :
    Meets (Builtin.«zip.__new__» ⟨[.type "zip", .ref a, .ref b], []⟩) (fun _ R s => IsB t1 s.heap a xs ∧ IsB t2 s.heap b ys ∧ R (.ok (.ret (.ref (zB4 s.heap t1 t2 a b).objs.size))) { s with heap := zB5 s.heap t1 t2 a b }) :=
  .of_wp fun prog w A R s h => by
    obtain ⟨hp, g, d, tk, os⟩ := s
    obtain ⟨h1, h2, h⟩ := h
    have sub := sub_zip
    have L1 : IsB t1 (Shared.heap ⟨hp, g, d, tk, os⟩) a xs := h1
    have L2 : IsB t2 (Shared.heap ⟨hp.push { cls := .type (itB t1), data := .fields #[.ref a, .int 0 0] }, g, d, tk, os⟩) b ys := IsB.push h2 _
    wp_walk using iter_B L1, iter_B L2
    exact ⟨_, rfl, h⟩
theorem call_zB {t1 t2 : Bool} {a b : Addr} {xs ys : Array Value} {Q : Value → Shared → Prop} (h1 : IsB t1 s.heap a xs) (h2 : IsB t2 s.heap b ys)
    (k : ∀ h', IsZip h' (s.heap.objs.size + 4) (s.heap.objs.size + 2) (s.heap.objs.size + 3) .none → IsPair h' (s.heap.objs.size + 2) (.ref s.heap.objs.size) (.ref (s.heap.objs.size + 1)) → IsPair h' (s.heap.objs.size + 3) .none .none →
      IterB t1 h' s.heap.objs.size a 0 → IterB t2 h' (s.heap.objs.size + 1) b 0 → (∀ c o, s.heap.get? c = some o → h'.get? c = some o) → Q (.ref (s.heap.objs.size + 4)) { s with heap := h' }) :
    wpAny (model prog w) A (call (.type "zip") [.ref a, .ref b]) Q E s := by
  refine callType_new F.called_zip (by decide) (F.typeCall_zip_2 _ _) (F.newCall_zip_2 _ _) (fun obj => F.args_object_init_3 obj _ _) F.entry_zip_new (meets_zB t1 t2 a b xs ys) ⟨h1, h2, ?_⟩
  have z1 : (zB1 s.heap t1 a).objs.size = s.heap.objs.size + 1 := Heap.size_push ..
  have z2 : (zB2 s.heap t1 t2 a b).objs.size = s.heap.objs.size + 2 := by rw [Heap.size_push, z1]
  have z3 : (zB3 s.heap t1 t2 a b).objs.size = s.heap.objs.size + 3 := by rw [Heap.size_push, z2]
  have z4 : (zB4 s.heap t1 t2 a b).objs.size = s.heap.objs.size + 4 := by rw [Heap.size_push, z3]
  have up : ∀ {h : Heap} {o : Obj} {c : Addr} {p : Obj}, h.get? c = some p → (h.push o).get? c = some p := fun e => Heap.get?_push_of_some _ e
  have g5 : (zB5 s.heap t1 t2 a b).get? (zB4 s.heap t1 t2 a b).objs.size = some _ := Heap.get?_push_size _ rfl
  have g4 : (zB5 s.heap t1 t2 a b).get? (zB3 s.heap t1 t2 a b).objs.size = some _ := up (Heap.get?_push_size _ rfl)
  have g3 : (zB5 s.heap t1 t2 a b).get? (zB2 s.heap t1 t2 a b).objs.size = some _ := up (up (Heap.get?_push_size _ rfl))
  have g2 : (zB5 s.heap t1 t2 a b).get? (zB1 s.heap t1 a).objs.size = some _ := up (up (up (Heap.get?_push_size _ rfl)))
  have g1 : (zB5 s.heap t1 t2 a b).get? s.heap.objs.size = some _ := up (up (up (up (Heap.get?_push_size _ rfl))))
  have i1 : IterB t1 (zB5 s.heap t1 t2 a b) s.heap.objs.size a 0 := by
    cases t1 with
    | true => exact ⟨_, g1, rfl, rfl⟩
    | false => exact ⟨_, g1, rfl, rfl⟩
  have i2 : IterB t2 (zB5 s.heap t1 t2 a b) (zB1 s.heap t1 a).objs.size b 0 := by
    cases t2 with
    | true => exact ⟨_, g2, rfl, rfl⟩
    | false => exact ⟨_, g2, rfl, rfl⟩
  show _ ∧ _
  rw [z2, z3, z4] at g5
  rw [z1, z2] at g3
  rw [z3] at g4
  rw [z1] at i2
  rw [z4]
  exact ⟨⟨_, g5, rfl⟩, k _ g5 g3 g4 i1 i2 fun c o x => up (up (up (up (up x))))⟩
end
theorem SqB.get {X : Cx} {pins : List (Addr × Obj)} {σ : L2.St} {H : Hp} {s : Shared} {t : Bool} {a : Addr} {xs : List V} (I : Inv X pins σ H s) (h : SqB X.K t H a xs) : ∃ its : List Value, Vals xs its ∧ IsB t s.heap a its.toArray := by
  cases t with
  | true =>
    obtain ⟨its, rv, p, _⟩ := I.tuple (show SqT X.K H a xs from h)
    exact ⟨its, rv, p⟩
  | false =>
    obtain ⟨its, rv, p, _⟩ := I.list (show SqL X.K H a xs from h)
    exact ⟨its, rv, p.isList⟩
theorem SqB.inj {X : Cx} {pins : List (Addr × Obj)} {σ : L2.St} {H : Hp} {s : Shared} {t : Bool} {a : Addr} {xs ys : List V} (I : Inv X pins σ H s) (h : SqB X.K t H a xs) (h' : SqB X.K t H a ys) : xs = ys := by
  cases t with
  | true => exact I.tuple_inj (show SqT X.K H a xs from h) h'
  | false => exact I.list_inj (show SqL X.K H a xs from h) h'
def ItzB (K : PySem.W.Frag) (t1 t2 : Bool) (a b : Addr) : It :=
  ⟨fun i H => ∃ (xs ys : List V) (x y : V), SqB K t1 H a xs ∧ SqB K t2 H b ys ∧ xs[i]? = some x ∧ ys[i]? = some y,
    fun i H v H' => ∃ T x y, v = .ref T ∧ H T = none ∧ H' = upd H T (.tup [x, y]) ∧ (∀ xs, SqB K t1 H a xs → xs[i]? = some x) ∧ ∀ ys, SqB K t2 H b ys → ys[i]? = some y,
    fun i H => ∃ xs ys : List V, SqB K t1 H a xs ∧ SqB K t2 H b ys ∧ i ≤ xs.length ∧ i ≤ ys.length ∧ (i = xs.length ∨ i = ys.length)⟩
theorem turn_zB {P : Program} {w : World} {K : PySem.W.Frag} {elts : List Expr} {kk : Nat} {tpos : Pos} {t1 t2 : Bool} {a b z TI TO i1 i2 : Addr} (D : ZipApart z TI TO i1 i2 a b) :
    Turn P w K (.Tuple elts kk tpos) (ItzB K t1 t2 a b) [z, TI, TO, i1, i2] z (fun i h => IsZip h z TI TO .none ∧ IsPair h TI (.ref i1) (.ref i2) ∧ (∃ x y, IsPair h TO x y) ∧ IterB t1 h i1 a i ∧ IterB t2 h i2 b i) where
  mem := by simp
  obj := fun i h st c hc => by
    obtain ⟨hz, hTI, ⟨x, y, hTO⟩, h1, h2⟩ := st
    obtain ⟨o1, _, _, e1, d1, _⟩ := h1.live
    obtain ⟨o2, _, _, e2, d2, _⟩ := h2.live
    have e' : c = z ∨ c = TI ∨ c = TO ∨ c = i1 ∨ c = i2 := by simpa using hc
    rcases e' with q | q | q | q | q
    · rw [q]; exact ⟨_, hz, fun v q => nomatch q⟩
    · rw [q]; exact ⟨_, hTI, fun v q => nomatch q⟩
    · rw [q]; exact ⟨_, hTO, fun v q => nomatch q⟩
    · rw [q]; exact ⟨o1, e1, fun v q => by rw [d1] at q; cases q⟩
    · rw [q]; exact ⟨o2, e2, fun v q => by rw [d2] at q; cases q⟩
  keep := fun i h h' st k => by
    obtain ⟨hz, hTI, ⟨x, y, hTO⟩, h1, h2⟩ := st
    exact ⟨k z (by simp) _ hz, k TI (by simp) _ hTI, ⟨x, y, k TO (by simp) _ hTO⟩, h1.at fun o q => k i1 (by simp) o q, h2.at fun o q => k i2 (by simp) o q⟩
  item := by
    intro X hP hw hK hc i pins s σ H E I hf st hg
    subst hP hw hK
    obtain ⟨hz, hTI, ⟨x0, y0, hTO⟩, h1, h2⟩ := st
    obtain ⟨xs, ys, x, y, hqx, hqy, hx, hy⟩ := hg
    obtain ⟨its, rv, p⟩ := hqx.get I
    obtain ⟨its2, rv2, p2⟩ := hqy.get I
    obtain ⟨u, hu, ru⟩ := rv.get hx
    obtain ⟨u2, hu2, ru2⟩ := rv2.get hy
    have hzl : z < s.heap.objs.size := Heap.lt_size hz
    have S : ZipSep2 z TI TO i1 i2 [i1, a] [i2, b] := ⟨D.TIz, D.TOz, D.TITO, D.TIi1, by simp, by simp [D.i1z.symm, D.l1z.symm], by simp [D.TOi1, D.l1TO.symm], D.TIi2, by simp, by simp [D.i2z.symm, D.l2z.symm], by simp [D.TOi2, D.l2TO.symm], by simp [D.i12, D.l2i1.symm], by simp [D.i12.symm, D.l1i2.symm]⟩
    have hh := I.ok.hd hc
    have l1 : i < its.length := (List.getElem?_eq_some_iff.mp hu).1
    have l2 : i < its2.length := (List.getElem?_eq_some_iff.mp hu2).1
    refine wpAny_pyNext_zipD2_item S (draws_B (A := X.A.in1) hh t1 i1 a D.l1i1 its.toArray) (draws_B (A := X.A.in1) hh t2 i2 b D.l2i2 its2.toArray) hz hTI hTO ⟨h1, p⟩ ⟨h2, p2⟩ (by simpa using l1) (by simpa using l2) fun x1 x2 h' tk px1 px2 z' TO' st1' st2' hT hsz hk => ?_
    have e1 : x1 = u := by
      have q : its[i]? = some x1 := by simpa using px1
      rw [hu] at q
      exact (Option.some.inj q).symm
    have e2 : x2 = u2 := by
      have q : its2[i]? = some x2 := by simpa using px2
      rw [hu2] at q
      exact (Option.some.inj q).symm
    subst e1 e2
    refine ⟨_, rfl, wpAny_letOwnedTupleGo_zip (s := { s with heap := h', toks := tk }) z' fun h'' z'' sb => ?_⟩
    have hT2 : h''.get? s.heap.objs.size = some { cls := .type "tuple", data := .seq #[x1, x2] } := (sb.2 _ (Nat.ne_of_gt hzl)).trans hT
    have new : ObjOk X.prog X.w (upd H s.heap.objs.size (.tup [x, y])) h'' s.heap.objs.size (.tup [x, y]) :=
      ⟨by show 2 ≤ sizeLine; decide, [x1, x2], .cons ru (.cons ru2 .nil), ⟨_, hT2, rfl, _, rfl⟩⟩
    have I1 : Inv X pins σ (upd H s.heap.objs.size (.tup [x, y])) { s with heap := h'', toks := tk } :=
      I.turnedNew (t' := tk) (ch := [z, TI, TO, i1, i2]) (fun c o hb q => (sb.2 c (fun q' => hb (by simp [q']))).trans (hk c o (fun q' => hb (by simp [q'])) (fun q' => hb (by simp [q'])) (fun q' => hb (by simp [q'])) (fun q' => hb (by simp [q'])) q)) hf (Nat.le_refl _) new
    refine ⟨.ref s.heap.objs.size, _, I1, rfl, ⟨_, x, y, rfl, I.hok.fresh (Nat.le_refl _), rfl, fun l hl => by rw [hl.inj I hqx]; exact hx, fun l hl => by rw [hl.inj I hqy]; exact hy⟩, ⟨z'', ?_, ⟨x1, x2, ?_⟩, ?_, ?_⟩, fun c hcm => ?_⟩
    · exact (sb.2 _ D.TIz).trans (hk _ _ D.TIz D.TITO D.TIi1 D.TIi2 hTI)
    · exact (sb.2 _ D.TOz).trans TO'
    · exact st1'.1.at fun o q => (sb.2 _ D.i1z).trans q
    · exact st2'.1.at fun o q => (sb.2 _ D.i2z).trans q
    · have hlt : c < s.heap.objs.size := by
        obtain ⟨o1, _, _, g1, _, _⟩ := h1.live
        obtain ⟨o2, _, _, g2, _, _⟩ := h2.live
        have e' : c = z ∨ c = TI ∨ c = TO ∨ c = i1 ∨ c = i2 := by simpa using hcm
        rcases e' with q | q | q | q | q
        · rw [q]; exact hzl
        · rw [q]; exact Heap.lt_size hTI
        · rw [q]; exact Heap.lt_size hTO
        · rw [q]; exact Heap.lt_size g1
        · rw [q]; exact Heap.lt_size g2
      rw [upd_ne (Nat.ne_of_lt hlt)]
      exact (hf c hcm).1
  done := by
    intro X hP hw hK hc i pins s σ H E I hf st hg
    subst hP hw hK
    obtain ⟨hz, hTI, ⟨x0, y0, hTO⟩, h1, h2⟩ := st
    obtain ⟨xs, ys, hqx, hqy, le1, le2, hend⟩ := hg
    obtain ⟨its, rv, p⟩ := hqx.get I
    obtain ⟨its2, rv2, p2⟩ := hqy.get I
    have l1 := rv.length
    have l2 := rv2.length
    have S : ZipSep2 z TI TO i1 i2 [i1, a] [i2, b] := ⟨D.TIz, D.TOz, D.TITO, D.TIi1, by simp, by simp [D.i1z.symm, D.l1z.symm], by simp [D.TOi1, D.l1TO.symm], D.TIi2, by simp, by simp [D.i2z.symm, D.l2z.symm], by simp [D.TOi2, D.l2TO.symm], by simp [D.i12, D.l2i1.symm], by simp [D.i12.symm, D.l1i2.symm]⟩
    have hh := I.ok.hd hc
    refine wpAny_pyNext_zipD2_end S (draws_B (A := X.A.in1) hh t1 i1 a D.l1i1 its.toArray) (draws_B (A := X.A.in1) hh t2 i2 b D.l2i2 its2.toArray) hz hTI hTO ⟨h1, p⟩ ⟨h2, p2⟩ (by simp; omega) (by simp; omega) (by simp; omega) fun h' tk hk => ⟨rfl, I.turnedL (t' := tk) (ch := [z, TI, TO, i1, i2]) (fun c o hb q =>
      hk c o (fun q' => hb (by simp [q'])) (fun q' => hb (by simp [q'])) (fun q' => hb (by simp [q'])) (fun q' => hb (by simp [q'])) q) hf⟩
  self := fun A i s Q E st h => wpAny_pyIter_zip st.1 h
def iZipB (K : PySem.W.Frag) (ta : TA) : TI := fun σ H R => ta σ H fun vs H1 => ∃ t1 t2 a b xs ys, vs = [.ref a, .ref b] ∧ SqB K t1 H1 a xs ∧ SqB K t2 H1 b ys ∧ R (ItzB K t1 t2 a b) H1
theorem pi_zB {X : Cx} {e e2 : Expr} {ta : TA} {p pos tpos : Pos} {elts : List Expr} {kk : Nat} (hg : Gl X "zip") (hm : X.mg "zip" = none) (ha : PA X [e, e2] ta)
    (hs : starEach [e, e2] X.env = (false, eval e X.env) :: starEach [e2] X.env := by rfl) (hpl : (backTo pos (starEach [e2] X.env)).any (·.1) = false := by rfl) :
    PI X (.Tuple elts kk tpos) (.Call (.Name "zip" p) [e, e2] [] pos) (iZipB X.K ta) := by
  refine ⟨fun pins s σ H R I h => ?_⟩
  refine Call_ (ld_blt I hg hm PyProof.Rows.boot_zip (PyProof.Rows.callWith_type1 (thn (ha.run pos pins s σ H _ I h) fun us s1 ⟨vs, H1, I1, r1, q1⟩ => ?_) hs hpl))
  obtain ⟨t1, t2, a, b, xs, ys, ex, hqx, hqy, q⟩ := q1
  subst ex
  cases r1 with
  | cons r rr =>
    cases rr with
    | cons r' rr =>
      cases rr
      cases r
      cases r'
      have five : ∀ c, c ∈ [s1.heap.objs.size + 4, s1.heap.objs.size + 2, s1.heap.objs.size + 3, s1.heap.objs.size, s1.heap.objs.size + 1] → FpOk X pins H1 c := fun c hcm => by
        have hle : s1.heap.objs.size ≤ c := by
          simp only [List.mem_cons, List.not_mem_nil, or_false] at hcm
          omega
        exact I1.fpOk hle (I1.hok.fresh hle)
      obtain ⟨its, rv, p1⟩ := hqx.get I1
      obtain ⟨its2, rv2, p2⟩ := hqy.get I1
      refine call_zB p1 p2 fun h' hz hTI hTO h1 h2 hk => wpAny_pyIter_zip hz ?_
      have I2 : Inv X pins σ H1 { s1 with heap := h' } := I1.kept (t' := s1.toks) hk
      exact ⟨s1.heap.objs.size + 4, [s1.heap.objs.size + 4, s1.heap.objs.size + 2, s1.heap.objs.size + 3, s1.heap.objs.size, s1.heap.objs.size + 1], _, _, H1, rfl, I2, turn_zB (PySem.W.ktu_apart s1.heap.objs.size a b p1.live p2.live), ⟨hz, hTI, ⟨_, _, hTO⟩, h1, h2⟩, five, q⟩
theorem walk_zB {K : PySem.W.Frag} {t1 t2 : Bool} {a b : Addr} {xs ys : List V} {n : Nat} (hn : n = min xs.length ys.length) : Walk (ItzB K t1 t2 a b) n (fun H => SqB K t1 H a xs ∧ SqB K t2 H b ys) (YPair (fun i => xs[i]?) (fun i => ys[i]?)) := by
  subst hn
  refine ⟨fun i _ hi q => ?_, fun _ q => ⟨xs, ys, q.1, q.2, by omega, by omega, by omega⟩, fun i H v H' _ q y => ?_⟩
  · have h1 : i < xs.length := by omega
    have h2 : i < ys.length := by omega
    exact ⟨xs, ys, xs[i], ys[i], q.1, q.2, by simp [h1], by simp [h2]⟩
  · obtain ⟨T, x, z, h1, h2, h3, h4, h5⟩ := y
    exact ⟨T, x, z, h1, h2, h3, h4 xs q.1, h5 ys q.2⟩
end K1
set_option linter.all false
set_option maxRecDepth 100000
set_option maxHeartbeats 1000000
namespace K1
open PySem PySem.Spec PyProof.Rows L2
/-! ### data, an empty dict among it -/
mutual
inductive Dq (H : Hp) : V → PyData → Prop
  | non : Dq H .non .none
  | bl (b : Bool) : Dq H (.bl b) (.bool b)
  | int (i : Int) : Dq H (.int i) (.int i)
  | str (x : Str) : Dq H (.str x) (.str x)
  | lst {a : Addr} {xs : List V} {ds : List PyData} : H a = some (.lst xs) → DqAll H xs ds → Dq H (.ref a) (.list ds)
  | tup {a : Addr} {xs : List V} {ds : List PyData} : H a = some (.tup xs) → DqAll H xs ds → Dq H (.ref a) (.tuple ds)
  | emp {a : Addr} : H a = some (.dK []) → Dq H (.ref a) (.dict [])
inductive DqAll (H : Hp) : List V → List PyData → Prop
  | nil : DqAll H [] []
  | cons {v : V} {vs : List V} {d : PyData} {ds : List PyData} : Dq H v d → DqAll H vs ds → DqAll H (v :: vs) (d :: ds)
end
mutual
theorem Dq.mono {H H' : Hp} (s : ∀ b o, H b = some o → H' b = some o) : ∀ {v : V} {d : PyData}, Dq H v d → Dq H' v d
  | _, _, .non => .non
  | _, _, .bl b => .bl b
  | _, _, .int i => .int i
  | _, _, .str x => .str x
  | _, _, .lst h hs => .lst (s _ _ h) (DqAll.mono s hs)
  | _, _, .tup h hs => .tup (s _ _ h) (DqAll.mono s hs)
  | _, _, .emp h => .emp (s _ _ h)
theorem DqAll.mono {H H' : Hp} (s : ∀ b o, H b = some o → H' b = some o) : ∀ {vs : List V} {ds : List PyData}, DqAll H vs ds → DqAll H' vs ds
  | _, _, .nil => .nil
  | _, _, .cons h t => .cons (Dq.mono s h) (DqAll.mono s t)
end
theorem Dq.same {H H' : Hp} {v : V} {d : PyData} (h : Dq H v d) (s : Same H H') : Dq H' v d := h.mono s
theorem DqAll.same {H H' : Hp} {vs : List V} {ds : List PyData} (h : DqAll H vs ds) (s : Same H H') : DqAll H' vs ds := h.mono s
theorem DqAll.len {H : Hp} : ∀ {vs : List V} {ds : List PyData}, DqAll H vs ds → vs.length = ds.length
  | _, _, .nil => rfl
  | _, _, .cons _ t => by rw [List.length_cons, List.length_cons, DqAll.len t]
theorem DqAll.get {H : Hp} : ∀ {xs : List V} {ds : List PyData} {i : Nat} {x : V}, DqAll H xs ds → xs[i]? = some x → ∃ d, ds[i]? = some d ∧ Dq H x d
  | _, _, _, _, .nil, h => by simp at h
  | _, _, 0, _, .cons h _, e => by
    cases Option.some.inj e
    exact ⟨_, rfl, h⟩
  | _, _, i + 1, _, .cons _ t, e => DqAll.get (i := i) t (by simpa using e)
theorem DqAll.app {H : Hp} : ∀ {xs ys : List V} {ds es : List PyData}, DqAll H xs ds → DqAll H ys es → DqAll H (xs ++ ys) (ds ++ es)
  | _, _, _, _, .nil, h => h
  | _, _, _, _, .cons h t, k => .cons h (DqAll.app t k)
/-- the type's name of such data -/
def tyD : PyData → String
  | .none => "NoneType"
  | .bool _ => "bool"
  | .int _ => "int"
  | .str _ => "str"
  | .list _ => "list"
  | .tuple _ => "tuple"
  | .dict _ => "dict"
theorem Dq.ty {K : PySem.W.Frag} {H : Hp} {v : V} {d : PyData} (h : Dq H v d) : TyX K H v (.type (tyD d)) := by
  cases h with
  | non => exact .base .non
  | bl b => exact .base (.bl b)
  | int i => exact .base (.int i)
  | str x => exact .base (.str x)
  | lst h _ => exact .base (.lst h)
  | tup h _ => exact .base (.tup h)
  | emp h => exact .base (.dK h)
section
variable {X : Cx} {pins : List (Addr × Obj)} {σ : L2.St} {H : Hp} {s : Shared}
theorem emp_at (I : Inv X pins σ H s) {a : Addr} (ha : H a = some (.dK [])) : ∃ o es ep, s.heap.get? a = some o ∧ o.cls = .type "dict" ∧ o.data = .dict es ep ∧ es.toList = [] ∧ (a == sysModules) = false := by
  obtain ⟨_, ne, vs, kv, o, es, ep, g, ex, dt, _, pr, _⟩ := (show ObjOk X.prog X.w H s.heap _ (.dK []) from I.hok _ _ ha)
  cases kv
  refine ⟨o, es, ep, g, ex.1, dt, ?_, ne⟩
  cases hq : es.toList with
  | nil => rfl
  | cons x r =>
    rw [hq] at pr
    cases pr
end
section
variable {X : Cx} {pins : List (Addr × Obj)} {σ : L2.St} {H : Hp} {s : Shared}
mutual
theorem Dq.reads (I : Inv X pins σ H s) : ∀ (d : PyData) (v : V) (u : Value), Dq H v d → RelV v u → ∃ as, Reads s.heap u d as
  | .none, _, _, h, r => by
    cases h; cases r
    exact ⟨_, .none⟩
  | .bool b, _, _, h, r => by
    cases h; cases r
    exact ⟨_, .bool b⟩
  | .int i, _, _, h, r => by
    cases h
    obtain ⟨t, rfl⟩ := r
    exact ⟨_, .int i t⟩
  | .str x, _, _, h, r => by
    cases h
    obtain ⟨t, rfl⟩ := r
    exact ⟨_, .str x t⟩
  | .list ds, _, _, h, r => by
    cases h with
    | lst ha hs =>
      cases r
      obtain ⟨_, its, n, rv, g⟩ := (show ObjOk X.prog X.w H s.heap _ (.lst _) from I.hok _ _ ha)
      obtain ⟨as, q⟩ := DqAll.reads I ds _ its hs rv
      exact ⟨_, .list g rfl rfl (by simpa using q)⟩
  | .tuple ds, _, _, h, r => by
    cases h with
    | tup ha hs =>
      cases r
      obtain ⟨its, rv, ⟨o, ho, hc, n, hd⟩, _⟩ := I.tuple (SqT.of ha)
      obtain ⟨as, q⟩ := DqAll.reads I ds _ its hs rv
      exact ⟨_, .tuple ho hc hd (by simpa using q)⟩
  | .dict kvs, _, _, h, r => by
    cases h with
    | emp ha =>
      cases r
      obtain ⟨o, es, ep, g, ex, dt, e0, ne⟩ := emp_at I ha
      exact ⟨_, .dict g ex dt (by rw [e0]; exact .nil) (by rw [e0]; exact .nil)⟩
theorem DqAll.reads (I : Inv X pins σ H s) : ∀ (ds : List PyData) (vs : List V) (us : List Value), DqAll H vs ds → Vals vs us → ∃ as, ReadsAll s.heap us ds as
  | [], _, _, h, r => by
    cases h; cases r
    exact ⟨_, .nil⟩
  | d :: ds, _, _, h, r => by
    cases h with
    | cons h1 h2 =>
      cases r with
      | cons r1 r2 =>
        obtain ⟨as, q1⟩ := Dq.reads I d _ _ h1 r1
        obtain ⟨bs, q2⟩ := DqAll.reads I ds _ _ h2 r2
        exact ⟨_, .cons q1 q2⟩
end
/-- how repr of it goes; bs: the lists, tuples and dicts within -/
def Few (h : Heap) (n : Nat) (bs : List Addr) : Prop := ReadAtMost h n bs
mutual
theorem Dq.reprK (I : Inv X pins σ H s) : ∀ (d : PyData) (v : V) (u : Value), Dq H v d → RelV v u → PyData.showable d = true → (PyData.shown d).length ≤ sizeLine → ∃ bs, Few s.heap (PyData.depth d) bs ∧ ReprK X.prog X.w bs s.heap (PyData.depth d) u (PyData.shown d)
  | .none, _, _, h, r, _, _ => by
    cases h; cases r
    exact ⟨[], (fun _ m => nomatch m), by simp only [PyData.shown]; exact ReprK.of_is ReprIs.none _ _ _⟩
  | .bool b, _, _, h, r, _, _ => by
    cases h; cases r
    exact ⟨[], (fun _ m => nomatch m), by simp only [PyData.shown]; exact ReprK.of_is (ReprIs.bool b) _ _ _⟩
  | .int i, _, _, h, r, sh, _ => by
    cases h
    obtain ⟨t, rfl⟩ := r
    exact ⟨[], (fun _ m => nomatch m), by simp only [PyData.shown]; exact ReprK.of_is (ReprIs.int t (by simpa [PyData.showable] using sh)) _ _ _⟩
  | .str x, _, _, h, r, _, hz => by
    cases h
    obtain ⟨t, rfl⟩ := r
    exact ⟨[], (fun _ m => nomatch m), by simp only [PyData.shown]; exact ReprK.of_is (ReprIs.str x t (by simpa only [PyData.shown] using hz)) _ _ _⟩
  | .list ds, v, u, h, r, sh, hz => by
    obtain ⟨as, rd⟩ := Dq.reads I _ v u h r
    cases h with
    | lst ha hs =>
      cases r
      obtain ⟨_, its, n, rv, g⟩ := (show ObjOk X.prog X.w H s.heap _ (.lst _) from I.hok _ _ ha)
      have hz2 : (listText (PyData.shownAll ds)).length ≤ sizeLine := by simpa only [PyData.shown] using hz
      obtain ⟨bs, few, all⟩ := DqAll.reprK I ds _ its hs rv (by simpa [PyData.showable] using sh) fun t m => Nat.le_trans (listText_mem_le m) hz2
      have no := not_mem_of_deeper rd (by simp only [PyData.depth]; omega) few
      refine ⟨_ :: bs, ReadAtMost.cons rd (by simp only [PyData.depth]; omega) few, ?_⟩
      simp only [PyData.depth, PyData.shown]
      cases its with
      | nil =>
        cases rv
        cases hs
        simp only [PyData.shownAll, listText_nil]
        exact ReprK.listEmpty g rfl rfl
      | cons x l => exact ReprK.list g rfl rfl no (by simpa using all.length_eq) fun i y e => all.item i y (by simpa using e)
  | .tuple ds, v, u, h, r, sh, hz => by
    obtain ⟨as, rd⟩ := Dq.reads I _ v u h r
    cases h with
    | tup ha hs =>
      cases r
      obtain ⟨its, rv, ⟨o, ho, hc, n, hd⟩, _⟩ := I.tuple (SqT.of ha)
      have hz2 : (tupleText (PyData.shownAll ds)).length ≤ sizeLine := by simpa only [PyData.shown] using hz
      obtain ⟨bs, few, all⟩ := DqAll.reprK I ds _ its hs rv (by simpa [PyData.showable] using sh) fun t m => Nat.le_trans (tupleText_mem_le m) hz2
      have no := not_mem_of_deeper rd (by simp only [PyData.depth]; omega) few
      refine ⟨_ :: bs, ReadAtMost.cons rd (by simp only [PyData.depth]; omega) few, ?_⟩
      simp only [PyData.depth, PyData.shown]
      exact ReprK.tuple ho hc hd no (by simpa using all)
  | .dict kvs, v, u, h, r, sh, hz => by
    obtain ⟨as, rd⟩ := Dq.reads I _ v u h r
    cases h with
    | emp ha =>
      cases r
      obtain ⟨o, es, ep, g, ex, dt, e0, ne⟩ := emp_at I ha
      refine ⟨[_], ReadAtMost.cons (n := 0) rd (Nat.zero_le _) (fun _ m => nomatch m), ?_⟩
      simp only [PyData.depth, PyData.shown, PyData.shownKv]
      exact ReprK.dict g ex dt ne (List.not_mem_nil) (by rw [e0]; exact .nil)
theorem DqAll.reprK (I : Inv X pins σ H s) : ∀ (ds : List PyData) (vs : List V) (us : List Value), DqAll H vs ds → Vals vs us → PyData.showableAll ds = true → (∀ t ∈ PyData.shownAll ds, t.length ≤ sizeLine) → ∃ bs, Few s.heap (PyData.depthAll ds) bs ∧ ReprAllK X.prog X.w bs s.heap (PyData.depthAll ds) us (PyData.shownAll ds)
  | [], _, _, h, r, _, _ => by
    cases h; cases r
    exact ⟨[], (fun _ m => nomatch m), by simp only [PyData.shownAll]; exact .nil⟩
  | d :: ds, _, _, h, r, sh, hz => by
    cases h with
    | cons h1 h2 =>
      cases r with
      | cons r1 r2 =>
        have sh2 : PyData.showable d = true ∧ PyData.showableAll ds = true := by simpa [PyData.showableAll] using sh
        simp only [PyData.shownAll] at hz
        obtain ⟨as, f1, q1⟩ := Dq.reprK I d _ _ h1 r1 sh2.1 (hz _ (.head _))
        obtain ⟨bs, f2, q2⟩ := DqAll.reprK I ds _ _ h2 r2 sh2.2 fun t m => hz t (.tail _ m)
        refine ⟨as ++ bs, (f1.mono (by simp only [PyData.depthAll]; omega)).append (f2.mono (by simp only [PyData.depthAll]; omega)), ?_⟩
        simp only [PyData.depthAll, PyData.shownAll]
        exact .cons ((q1.more fun b m => List.mem_append_left _ m).level_le (Nat.le_max_left _ _)) (q2.more_le (fun b m => List.mem_append_right _ m) (Nat.le_max_right _ _))
end
/-- repr of such data, called where no repr runs -/
theorem call_reprQ (hu : X.A.units + 64 < cLine) :
    CallR X (.builtin "repr") (fun xs H Q => ∃ v d, xs = [v] ∧ Dq H v d ∧ X.A.guards = some [] ∧ PyData.showable d = true ∧ PyData.depth d ≤ 20 ∧ (PyData.shown d).length ≤ sizeLine ∧ Q (.str (PyData.shown d)) H) := by
  intro pins s σ H xs us Q I r h
  obtain ⟨v, d, rfl, hd, hg, hs, hz, hl, q⟩ := h
  obtain ⟨u, rfl, ru⟩ := vals1 r
  cases d with
  | none =>
    cases hd; cases ru
    exact PySem.P.repr_of_none ⟨.str "None", H, I.tok _, ⟨_, rfl⟩, by simpa only [PyData.shown] using q⟩
  | bool b =>
    cases hd; cases ru
    exact PySem.P.repr_of_bool ⟨.str (if b then "True" else "False"), H, I.tok _, ⟨_, rfl⟩, by simpa only [PyData.shown] using q⟩
  | int i =>
    cases hd
    obtain ⟨t, rfl⟩ := ru
    exact PySem.P.repr_of_int (by simpa [PyData.showable] using hs) ⟨.str (toString i), H, I.tok _, ⟨_, rfl⟩, by simpa only [PyData.shown] using q⟩
  | str x =>
    cases hd
    obtain ⟨t, rfl⟩ := ru
    exact PySem.P.repr_of_str ⟨.str (reprText x), H, I.tok _, ⟨_, rfl⟩, by simpa only [PyData.shown] using q⟩ (by simpa only [PyData.shown] using hl)
  | list ds =>
    obtain ⟨bs0, rd⟩ := Dq.reads I _ v u hd ru
    cases hd with
    | lst ha hq =>
      cases ru
      obtain ⟨_, its, n, rv, g⟩ := (show ObjOk X.prog X.w H s.heap _ (.lst _) from I.hok _ _ ha)
      have hz2 : (listText (PyData.shownAll ds)).length ≤ sizeLine := by simpa only [PyData.shown] using hl
      obtain ⟨bs, few, all⟩ := DqAll.reprK I ds _ its hq rv (by simpa [PyData.showable] using hs) fun t m => Nat.le_trans (listText_mem_le m) hz2
      have no := not_mem_of_deeper rd (by simp only [PyData.depth]; omega) few
      simp only [PyData.depth] at hz
      simp only [PyData.shown] at q
      refine call_repr_slot (by omega) ⟨_, g, rfl⟩ F.slot_list_repr.toG ?_
      cases its with
      | nil =>
        cases rv
        cases hq
        simp only [PyData.shownAll, listText_nil] at q
        exact call_list_repr_empty ⟨_, g, rfl⟩ g rfl ⟨_, _, rfl, .str "[]", H, I.tok _, ⟨_, rfl⟩, q⟩
      | cons x l =>
        refine call_list_reprK g rfl rfl no (by simpa using all.length_eq) (fun i y e => all.item i y (by simpa using e)) hg (fun b _ => Clear.nil b) (by show X.A.units + 1 + _ < cLine; omega) (fun _ _ e => e) (fun h' u tk hk => ⟨_, _, rfl, .str (listText (PyData.shownAll ds)), H, I.kept hk, ⟨_, rfl⟩, q⟩) hz2
  | tuple ds =>
    obtain ⟨bs0, rd⟩ := Dq.reads I _ v u hd ru
    cases hd with
    | tup ha hq =>
      cases ru
      obtain ⟨its, rv, ⟨o, ho, hc, n, hdt⟩, _⟩ := I.tuple (SqT.of ha)
      have hz2 : (tupleText (PyData.shownAll ds)).length ≤ sizeLine := by simpa only [PyData.shown] using hl
      obtain ⟨bs, few, all⟩ := DqAll.reprK I ds _ its hq rv (by simpa [PyData.showable] using hs) fun t m => Nat.le_trans (tupleText_mem_le m) hz2
      have no := not_mem_of_deeper rd (by simp only [PyData.depth]; omega) few
      simp only [PyData.depth] at hz
      simp only [PyData.shown] at q
      refine call_repr_slot (by omega) ⟨_, ho, hc⟩ F.slot_tuple_repr ?_
      exact call_tuple_reprK ho hc hdt no (by simpa using all) hg (fun b _ => Clear.nil b) (by show X.A.units + 1 + _ < cLine; omega) (fun _ _ e => e) (fun h' u tk hk => ⟨_, _, rfl, .str (tupleText (PyData.shownAll ds)), H, I.kept hk, ⟨_, rfl⟩, q⟩) hz2
  | dict kvs =>
    cases hd with
    | emp ha =>
      cases ru
      obtain ⟨o, es, ep, g, ex, dt, e0, ne⟩ := emp_at I ha
      simp only [PyData.shown, PyData.shownKv] at q hl
      refine call_repr_slot (by omega) ⟨_, g, ex⟩ F.slot_dict_repr ?_
      exact call_dict_reprK (d := 0) (as := []) (ps := []) g ex dt ne (List.not_mem_nil) (by rw [e0]; exact .nil) hg (fun b _ => Clear.nil b) (by show X.A.units + 1 + _ < cLine; omega) (fun _ _ e => e) (fun h' u tk hk => ⟨_, _, rfl, .str (dictText []), H, I.kept hk, ⟨_, rfl⟩, q⟩) hl
end
end K1
set_option maxRecDepth 100000
set_option maxHeartbeats 2000000
namespace K1
open PySem PySem.Spec PyProof.Rows L2
open Sem (wp)
open AutoSeq1 (wpAny_loadPart')
/-! ### enumerate of a tuple -/
theorem meets_enumT (l : Addr) (items : Array Value) (n : Nat) (dct : Option Addr) (sl : Array (Option Value)) :
    Meets (Builtin.«enumerate.__new__» ⟨[.type "enumerate", .ref l], []⟩) (fun _ R s => s.heap.get? l = some { cls := .type "tuple", dict := dct, data := .seq items n, slots := sl } ∧
      R (.ok (.ret (.ref (s.heap.push { cls := .type "tuple_iterator", data := .fields #[.ref l, .int 0 0] }).objs.size)))
        { s with heap := (s.heap.push { cls := .type "tuple_iterator", data := .fields #[.ref l, .int 0 0] }).push { cls := .type "enumerate", data := .fields #[.none, .bool false, .ref s.heap.objs.size, rawInt 0, .none, .none] } }) :=
  .of_wp fun prog w A R s h => by
    obtain ⟨hp, g, d, tk, os⟩ := s; obtain ⟨hl, h⟩ := h
    have hsub := sub_enumerate
    have hL : Heap.IsTuple (Shared.heap ⟨hp, g, d, tk, os⟩) l items := ⟨_, hl, rfl, n, rfl⟩
    wp_walk using wpAny_loadPart' hl
    refine wpAny_stack_any fun st => wpAny_pure ?_
    split
    · rename_i c _ _ _ _ _
      cases (c == Value.type "enumerate")
      · wp_walk using wpAny_loadPart' hl, wpAny_pyIter_tuple hL
        exact ⟨_, rfl, h⟩
      · wp_walk using wpAny_loadPart' hl, wpAny_pyIter_tuple hL
        exact ⟨_, rfl, h⟩
    · wp_walk using wpAny_loadPart' hl, wpAny_pyIter_tuple hL
      exact ⟨_, rfl, h⟩
section
variable {prog : Program} {w : World} {A : Around} {E : Value → Shared → Prop} {s : Shared}
theorem call_enumT {l : Addr} {items : Array Value} {Q : Value → Shared → Prop} (hL : s.heap.IsTuple l items)
    (h : ∀ h', IsEnum h' (s.heap.objs.size + 1) s.heap.objs.size 0 .none → h'.IsTupleIter s.heap.objs.size l 0 → h'.objs.size = s.heap.objs.size + 2 →
      (∀ b o, s.heap.get? b = some o → h'.get? b = some o) → Q (.ref (s.heap.objs.size + 1)) { s with heap := h' }) :
    wpAny (model prog w) A (call (.type "enumerate") [.ref l]) Q E s := by
  obtain ⟨⟨c, dct, dt, sl⟩, hl, hc, n, hd⟩ := hL
  replace hc : c = .type "tuple" := hc
  replace hd : dt = .seq items n := hd
  subst hc hd
  refine callType_new F.called_enumerate (by decide) (F.typeCall_enumerate_1 _) (F.newCall_enumerate_1 _) (fun obj => F.args_object_init_2 obj _) F.entry_enumerate_new
    (meets_enumT l items n dct sl) ⟨hl, ?_⟩
  have hz : (s.heap.push { cls := .type "tuple_iterator", data := .fields #[.ref l, .int 0 0] }).objs.size = s.heap.objs.size + 1 := Heap.size_push ..
  show _ ∧ _
  rw [hz]
  have he : IsEnum ((s.heap.push { cls := .type "tuple_iterator", data := .fields #[.ref l, .int 0 0] }).push
      { cls := .type "enumerate", data := .fields #[.none, .bool false, .ref s.heap.objs.size, rawInt 0, .none, .none] }) (s.heap.objs.size + 1) s.heap.objs.size 0 .none := by
    have := Heap.get?_push_size (s.heap.push { cls := .type "tuple_iterator", data := .fields #[.ref l, .int 0 0] })
      (o := { cls := .type "enumerate", data := .fields #[.none, .bool false, .ref s.heap.objs.size, rawInt 0, .none, .none] }) rfl
    rw [hz] at this; exact this
  refine ⟨⟨_, he, rfl⟩, h _ he ⟨_, Heap.get?_push_of_some _ (Heap.get?_push_size _ rfl), rfl, rfl⟩ (by rw [Heap.size_push, hz]) fun b o x => Heap.get?_push_of_some _ (Heap.get?_push_of_some _ x)⟩
end
/-- the tuple at a, each item in a new pair -/
def IteT (K : PySem.W.Frag) (a : Addr) : It :=
  ⟨fun i H => ∃ (xs : List V) (x : V), SqT K H a xs ∧ xs[i]? = some x, fun i H v H' => ∃ T x, v = .ref T ∧ H T = none ∧ H' = upd H T (.tup [.int (i : Nat), x]) ∧ ∀ xs, SqT K H a xs → xs[i]? = some x, fun i H => ∃ xs : List V, SqT K H a xs ∧ xs.length ≤ i⟩
theorem draws_end {prog : Program} {w : World} {A : Around} (hh : A.handled = none) (it t : Addr) (items : Array Value) {i : Nat} (hi : items[i]? = none) :
    Draws prog w A it [it, t] i (fun _ _ => False) (fun j h => j = i ∧ h.IsTupleIter it t i ∧ h.IsTuple t items) where
  live := fun _ _ st => let ⟨o, ho, _⟩ := st.2.1; ⟨o, ho⟩
  frame := fun _ _ _ st hk => ⟨st.1, st.2.1.at fun o e => hk it (by simp) o e, st.2.2.at fun o e => hk t (by simp) o e⟩
  item := fun j s Q E hj st _ => absurd st.1 (Nat.ne_of_lt hj)
  done := fun s Q E st hE => wpAny_nextOf_tuple_end hh st.2.1 st.2.2 hi hE
theorem turn_enumT {P : Program} {w : World} {K : PySem.W.Frag} {elts : List Expr} {kk : Nat} {tpos : Pos} (a e it : Addr) :
    Turn P w K (.Tuple elts kk tpos) (IteT K a) [e, it] e (fun i h => (∃ old, IsEnum h e it ((i : Nat) : Int) old) ∧ h.IsTupleIter it a i ∧ e ≠ it) where
  mem := by simp
  obj := fun i h st b hb => by
    obtain ⟨⟨old, he⟩, ⟨o, ho, hc, hd⟩, _⟩ := st
    have e' : b = e ∨ b = it := by simpa using hb
    rcases e' with z | z
    · rw [z]; exact ⟨_, he, fun v q => nomatch q⟩
    · rw [z]; exact ⟨o, ho, fun v q => by rw [hd] at q; cases q⟩
  keep := fun i h h' st k => let ⟨⟨old, he⟩, hi, hne⟩ := st; ⟨⟨old, k e (by simp) _ he⟩, hi.at fun o q => k it (by simp) o q, hne⟩
  item := by
    intro X hP hw hK hc i pins s σ H E I hf st hg
    subst hP hw hK
    obtain ⟨⟨old, he⟩, hit, hne⟩ := st
    obtain ⟨xs, x, hq, hx⟩ := hg
    obtain ⟨its, rv, p, hz⟩ := I.tuple hq
    obtain ⟨u, hu, ru⟩ := rv.get hx
    have pt : s.heap.IsTuple a its.toArray := p
    have hel : e < s.heap.objs.size := Heap.lt_size he
    have hil : it < s.heap.objs.size := by obtain ⟨_, q, _⟩ := hit; exact Heap.lt_size q
    have nai : a ≠ it := fun z => by
      obtain ⟨o, h1, h2, _⟩ := pt
      obtain ⟨o2, h3, h4, _⟩ := hit
      rw [z, h3] at h1
      cases h1
      rw [h4] at h2
      exact absurd h2 (by decide)
    have nae : e ≠ a := fun z => by
      obtain ⟨o, h1, h2, _⟩ := pt
      have h3 : s.heap.get? e = some _ := he
      rw [← z, h3] at h1
      cases h1
      have h5 : Value.type "enumerate" = Value.type "tuple" := h2
      exact absurd h5 (by decide)
    have hl : i < its.toArray.size := by
      have := (List.getElem?_eq_some_iff.mp hu).1
      simpa using this
    refine wpAny_pyNext_enum_itemD (Draws.tuple (A := X.A.in1) (I.ok.hd hc) it a nai its.toArray) he ⟨hit, pt⟩ hl hne (by simp [hne, nae]) fun x' h' tk px ho hst hT hsz hk => ?_
    obtain rfl : x' = u := by
      have e1 : its.toArray[i]? = some u := by simpa using hu
      rw [e1] at px
      exact (Option.some.inj px).symm
    refine ⟨_, rfl, wpAny_letOwnedTupleGo_enum (s := { s with heap := h', toks := tk + 1 }) ho fun h'' he' sb => ?_⟩
    have hT2 : h''.get? s.heap.objs.size = some { cls := .type "tuple", data := .seq #[.int i tk, x'] } := (sb.2 _ (Nat.ne_of_gt hel)).trans hT
    have new : ObjOk X.prog X.w (upd H s.heap.objs.size (.tup [.int (i : Nat), x])) h'' s.heap.objs.size (.tup [.int (i : Nat), x]) :=
      ⟨by show 2 ≤ sizeLine; decide, [.int i tk, x'], .cons ⟨_, rfl⟩ (.cons ru .nil), ⟨_, hT2, rfl, _, rfl⟩⟩
    have I1 : Inv X pins σ (upd H s.heap.objs.size (.tup [.int (i : Nat), x])) { s with heap := h'', toks := tk + 1 } :=
      I.turnedNew (ch := [e, it]) (fun b ob hb q => (sb.2 b (fun z => hb (by simp [z]))).trans (hk b ob (fun z => hb (by simp [z])) (fun z => hb (by simp [z])) q)) hf (Nat.le_refl _) new
    refine ⟨.ref s.heap.objs.size, _, I1, rfl, ⟨_, x, rfl, I.hok.fresh (Nat.le_refl _), rfl, fun ys hy => by rw [I.tuple_inj hy hq]; exact hx⟩, ⟨⟨x', ?_⟩, hst.1.at fun o q => (sb.2 it (Ne.symm hne)).trans q, hne⟩, fun b hb => ?_⟩
    · have e1 : ((i + 1 : Nat) : Int) = (i : Int) + 1 := by omega
      rw [e1]; exact he'
    · have hb' : b < s.heap.objs.size := by
        have e' : b = e ∨ b = it := by simpa using hb
        rcases e' with z | z
        · rw [z]; exact hel
        · rw [z]; exact hil
      rw [upd_ne (Nat.ne_of_lt hb')]
      exact (hf b hb).1
  done := by
    intro X hP hw hK hc i pins s σ H E I hf st hg
    subst hP hw hK
    obtain ⟨⟨old, he⟩, hit, hne⟩ := st
    obtain ⟨xs, hq, hx⟩ := hg
    obtain ⟨its, rv, p, hz⟩ := I.tuple hq
    obtain ⟨f0, f1, f2, f3, f4, f5⟩ := hf it (by simp)
    have hl := rv.length
    exact wpAny_pyNext_enum_endD (draws_end (A := X.A.in1) (i := i) (I.ok.hd hc) it a its.toArray (by simp; omega)) he ⟨rfl, hit, p⟩ fun h' eb => ⟨rfl, I.turned (t' := s.toks) (fun b o hb q => eb b o hb q) f0 f1 f3 f4 f5⟩
  self := fun A i s Q E st h => let ⟨⟨_, he⟩, _⟩ := st; wpAny_pyIter_enum he h
def iEnumT (K : PySem.W.Frag) (ta : TA) : TI := fun σ H R => ta σ H fun vs H1 => ∃ a xs, vs = [.ref a] ∧ SqT K H1 a xs ∧ R (IteT K a) H1
theorem pi_enumT {X : Cx} {e : Expr} {ta : TA} {p pos tpos : Pos} {elts : List Expr} {kk : Nat} (hg : Gl X "enumerate") (hm : X.mg "enumerate" = none) (ha : PA X [e] ta) (hs : starEach [e] X.env = [(false, eval e X.env)] := by rfl) :
    PI X (.Tuple elts kk tpos) (.Call (.Name "enumerate" p) [e] [] pos) (iEnumT X.K ta) := by
  refine ⟨fun pins s σ H R I h => ?_⟩
  refine Call_ (ld_blt I hg hm boot_enumerate (PyProof.Rows.callWith_type1 (thn (ha.run pos pins s σ H _ I h) fun us s1 ⟨vs, H1, I1, r1, q1⟩ => ?_) hs rfl))
  obtain ⟨a, xs, ex, hq, q⟩ := q1
  subst ex
  cases r1 with
  | cons r rr =>
    cases rr
    cases r
    obtain ⟨its, rv, p', hz⟩ := I1.tuple hq
    refine call_enumT p' fun h' he hit hsz hk => wpAny_pyIter_enum he ?_
    have I2 : Inv X pins σ H1 { s1 with heap := h' } := I1.kept (t' := s1.toks) hk
    refine ⟨s1.heap.objs.size + 1, [s1.heap.objs.size + 1, s1.heap.objs.size], _, _, H1, rfl, I2, turn_enumT a (s1.heap.objs.size + 1) s1.heap.objs.size, ⟨⟨.none, he⟩, hit, Nat.succ_ne_self _⟩, fun b hb => ?_, q⟩
    have e' : b = s1.heap.objs.size + 1 ∨ b = s1.heap.objs.size := by simpa using hb
    have hle : s1.heap.objs.size ≤ b := by
      rcases e' with z | z
      · rw [z]; exact Nat.le_add_right _ _
      · rw [z]; exact Nat.le_refl _
    exact I1.fpOk hle (I1.hok.fresh hle)
theorem walk_enumT {K : PySem.W.Frag} {a : Addr} {xs : List V} : Walk (IteT K a) xs.length (fun H => SqT K H a xs) (YPair (fun i => some (.int (i : Nat))) (fun i => xs[i]?)) := by
  refine ⟨fun i _ hi q => ⟨xs, xs[i], q, by simp [hi]⟩, fun _ q => ⟨xs, q, Nat.le_refl _⟩, fun i H v H' _ q y => ?_⟩
  obtain ⟨T, x, h1, h2, h3, h4⟩ := y
  exact ⟨T, .int (i : Nat), x, h1, h2, h3, rfl, h4 xs q⟩
end K1
set_option linter.all false
set_option maxRecDepth 100000
set_option maxHeartbeats 1000000
namespace K1
open PySem PySem.Spec PyProof.Rows L2
/-! ### one of two readings -/
def iOr (w1 w2 : TI) : TI := fun σ H R => w1 σ H R ∨ w2 σ H R
theorem pi_or {X : Cx} {tg it : Expr} {w1 w2 : TI} (h1 : PI X tg it w1) (h2 : PI X tg it w2) : PI X tg it (iOr w1 w2) :=
  ⟨fun pins s σ H R I h => h.elim (h1.run pins s σ H R I) (h2.run pins s σ H R I)⟩
def tOr (t1 t2 : TE) : TE := fun σ H Q => t1 σ H Q ∨ t2 σ H Q
theorem pe_or2 {X : Cx} {e : Expr} {t1 t2 : TE} (h1 : PE X e t1) (h2 : PE X e t2) : PE X e (tOr t1 t2) :=
  ⟨fun pins s σ H Q I h => h.elim (h1.run pins s σ H Q I) (h2.run pins s σ H Q I)⟩
/-- a list or a tuple -/
def seqO (t : Bool) (xs : List V) : HO := if t = true then .tup xs else .lst xs
theorem or_var {K : PySem.W.Frag} {i : Nat} {σ : L2.St} {H : Hp} {R : It → Hp → Prop} {t : Bool} {a : Addr} {xs : List V} (hσ : σ[i]? = some (some (.ref a))) (h : H a = some (seqO t xs))
    (k : ∀ J, Walk J xs.length (fun H => H a = some (seqO t xs)) (YAt xs) → R J H) : iOr (iList K (tVar i)) (iTup K (tVar i)) σ H R := by
  cases t with
  | false => exact .inl ⟨_, hσ, a, rfl, ⟨xs, SqL.of h⟩, k _ (walk_list.mono (fun H z => SqL.of z) fun _ _ _ _ _ _ y => y)⟩
  | true => exact .inr ⟨_, hσ, a, rfl, ⟨xs, SqT.of h⟩, k _ (walk_tup.mono (fun H z => SqT.of z) fun _ _ _ _ _ _ y => y)⟩
theorem or_enum {K : PySem.W.Frag} {i : Nat} {σ : L2.St} {H : Hp} {R : It → Hp → Prop} {t : Bool} {a : Addr} {xs : List V} (hσ : σ[i]? = some (some (.ref a))) (h : H a = some (seqO t xs))
    (k : ∀ J, Walk J xs.length (fun H => H a = some (seqO t xs)) (YPair (fun i => some (.int (i : Nat))) (fun i => xs[i]?)) → R J H) : iOr (iEnum K (tCons (tVar i) tNil)) (iEnumT K (tCons (tVar i) tNil)) σ H R := by
  cases t with
  | false => exact .inl ⟨_, hσ, a, xs, rfl, SqL.of h, k _ (walk_enum.mono (fun H z => SqL.of z) fun _ _ _ _ _ _ y => y)⟩
  | true => exact .inr ⟨_, hσ, a, xs, rfl, SqT.of h, k _ (walk_enumT.mono (fun H z => SqT.of z) fun _ _ _ _ _ _ y => y)⟩
/-! ### data of lists -/
def seqD : PyData → Option (List PyData)
  | .list ds => some ds
  | .tuple ds => some ds
  | _ => none
theorem Dq.seq {H : Hp} {v : V} {d : PyData} {ds : List PyData} (h : Dq H v d) (e : seqD d = some ds) : ∃ t a xs, v = .ref a ∧ H a = some (seqO t xs) ∧ DqAll H xs ds ∧ d = (if t = true then .tuple ds else .list ds) := by
  cases h with
  | lst ha hs => cases e; exact ⟨false, _, _, rfl, ha, hs, rfl⟩
  | tup ha hs => cases e; exact ⟨true, _, _, rfl, ha, hs, rfl⟩
  | non => cases e
  | bl _ => cases e
  | int _ => cases e
  | str _ => cases e
  | emp _ => cases e
theorem kit_seq {K : PySem.W.Frag} (d : PyData) : PySem.W.kitAny K (.type (tyD d)) [.type "list", .type "tuple"] = some (seqD d).isSome := by
  have two : ∀ {a : String} {r s : Bool}, kitB a "list" = some r → kitB a "tuple" = some s → PySem.W.kitAny K (.type a) [.type "list", .type "tuple"] = some (r || s) := fun {a r s} h1 h2 => by
    refine kitAny_cons (kit_ty h1) (fun e => ?_) (fun e => by rw [e]; rfl)
    subst e
    rw [Bool.false_or]
    exact kitAny_cons (kit_ty h2) (fun e => by rw [e]; rfl) (fun e => e.symm ▸ rfl)
  cases d with
  | none => exact two (a := "NoneType") (r := false) (s := false) (by decide +kernel) (by decide +kernel)
  | bool _ => exact two (a := "bool") (r := false) (s := false) (by decide +kernel) (by decide +kernel)
  | int _ => exact two (a := "int") (r := false) (s := false) (by decide +kernel) (by decide +kernel)
  | str _ => exact two (a := "str") (r := false) (s := false) (by decide +kernel) (by decide +kernel)
  | list _ => exact two (a := "list") (r := true) (s := false) (by decide +kernel) (by decide +kernel)
  | tuple _ => exact two (a := "tuple") (r := false) (s := true) (by decide +kernel) (by decide +kernel)
  | dict _ => exact two (a := "dict") (r := false) (s := false) (by decide +kernel) (by decide +kernel)
def strD : PyData → Option Str
  | .str z => some z
  | _ => none
theorem kit_str {K : PySem.W.Frag} (d : PyData) : PySem.W.kitOne K (.type (tyD d)) (.type "str") = some (strD d).isSome := by
  cases d with
  | none => exact kit_ty (a := "NoneType") (r := false) (by decide +kernel)
  | bool _ => exact kit_ty (a := "bool") (r := false) (by decide +kernel)
  | int _ => exact kit_ty (a := "int") (r := false) (by decide +kernel)
  | str _ => exact kit_ty (a := "str") (r := true) (by decide +kernel)
  | list _ => exact kit_ty (a := "list") (r := false) (by decide +kernel)
  | tuple _ => exact kit_ty (a := "tuple") (r := false) (by decide +kernel)
  | dict _ => exact kit_ty (a := "dict") (r := false) (by decide +kernel)
theorem Dq.strs {H : Hp} : ∀ {xs : List V} {zs : List Str}, DqAll H xs (zs.map PyData.str) → xs = zs.map V.str
  | _, [], h => by cases h; rfl
  | _, z :: zs, h => by
    cases h with
    | cons h1 h2 =>
      cases h1
      rw [Dq.strs h2]
      rfl
theorem dq_strs {H : Hp} : ∀ zs : List Str, DqAll H (zs.map V.str) (zs.map PyData.str)
  | [] => .nil
  | z :: zs => .cons (.str z) (dq_strs zs)
end K1
set_option linter.all false
set_option maxRecDepth 100000
set_option maxHeartbeats 1000000
namespace K1
open PySem L2
/-! ### data that may be places -/
def natD : PyData → Bool
  | .int n => decide (0 ≤ n)
  | _ => false
def intsD : List PyData → List Int
  | [] => []
  | .int n :: r => n :: intsD r
  | _ :: r => intsD r
theorem nat_ints : ∀ {ds : List PyData}, ds.all natD = true → ds = (intsD ds).map PyData.int
  | [], _ => rfl
  | d :: r, h => by
    rw [List.all_cons, Bool.and_eq_true] at h
    have h1 := nat_ints h.2
    cases d with
    | int z =>
      show PyData.int z :: r = PyData.int z :: (intsD r).map PyData.int
      rw [← h1]
    | none => cases h.1
    | bool _ => cases h.1
    | str _ => cases h.1
    | list _ => cases h.1
    | tuple _ => cases h.1
    | dict _ => cases h.1
def placeD (d : PyData) : Option (List Int) := match seqD d with
  | some ds => if ds.all natD = true then some (intsD ds) else none
  | none => none
theorem Dq.ints {H : Hp} : ∀ {xs : List V} {ns : List Int}, DqAll H xs (ns.map PyData.int) → xs = ns.map V.int
  | _, [], h => by cases h; rfl
  | _, n :: ns, h => by
    cases h with
    | cons h1 h2 =>
      cases h1
      rw [Dq.ints h2]
      rfl
theorem dq_ints {H : Hp} : ∀ ns : List Int, DqAll H (ns.map V.int) (ns.map PyData.int)
  | [] => .nil
  | n :: ns => .cons (.int n) (dq_ints ns)
def isI : PyData → Bool
  | .int _ => true
  | .bool _ => true
  | _ => false
def isB : PyData → Bool
  | .bool _ => true
  | _ => false
theorem kit_int {K : PySem.W.Frag} (d : PyData) : PySem.W.kitOne K (.type (tyD d)) (.type "int") = some (isI d) := by
  cases d with
  | none => exact kit_ty (a := "NoneType") (r := false) (by decide +kernel)
  | bool _ => exact kit_ty (a := "bool") (r := true) (by decide +kernel)
  | int _ => exact kit_ty (a := "int") (r := true) (by decide +kernel)
  | str _ => exact kit_ty (a := "str") (r := false) (by decide +kernel)
  | list _ => exact kit_ty (a := "list") (r := false) (by decide +kernel)
  | tuple _ => exact kit_ty (a := "tuple") (r := false) (by decide +kernel)
  | dict _ => exact kit_ty (a := "dict") (r := false) (by decide +kernel)
theorem kit_bool {K : PySem.W.Frag} (d : PyData) : PySem.W.kitOne K (.type (tyD d)) (.type "bool") = some (isB d) := by
  cases d with
  | none => exact kit_ty (a := "NoneType") (r := false) (by decide +kernel)
  | bool _ => exact kit_ty (a := "bool") (r := true) (by decide +kernel)
  | int _ => exact kit_ty (a := "int") (r := false) (by decide +kernel)
  | str _ => exact kit_ty (a := "str") (r := false) (by decide +kernel)
  | list _ => exact kit_ty (a := "list") (r := false) (by decide +kernel)
  | tuple _ => exact kit_ty (a := "tuple") (r := false) (by decide +kernel)
  | dict _ => exact kit_ty (a := "dict") (r := false) (by decide +kernel)
theorem int_of {d : PyData} (h : (isI d && !isB d) = true) : ∃ n, d = .int n := by
  cases d with
  | int n => exact ⟨n, rfl⟩
  | none => cases h
  | bool _ => cases h
  | str _ => cases h
  | list _ => cases h
  | tuple _ => cases h
  | dict _ => cases h
theorem nat_no {d : PyData} (h : (isI d && !isB d) = false) : natD d = false := by
  cases d with
  | int n => cases h
  | none => rfl
  | bool _ => rfl
  | str _ => rfl
  | list _ => rfl
  | tuple _ => rfl
  | dict _ => rfl
/-- its size -/
def LimP (d : PyData) : Prop := ∀ ds, seqD d = some ds → ds.length ≤ 900
def spAsPlace : Sp := fun vs H Q _ => ∃ (v : V) (d : PyData), vs = [v] ∧ Dq H v d ∧ LimP d ∧ (placeD d = none → ∀ H', Same H H' → Q .non H') ∧
  (∀ ns, placeD d = some ns → ∀ b H', Same H H' → H' b = some (.tup (ns.map V.int)) → Q (.ref b) H')
section
variable {P : Program} {w : World} {K : PySem.W.Frag} {mg : Str → Option Value} {base : Heap}
theorem scAP : FnScope ["thing", "item"] ["thing"] (defScope pAsPlace) := ⟨rfl, rfl, rfl, by decide +kernel, rfl, by decide +kernel, by decide +kernel⟩
theorem ok_asPlace {f fL fI : Addr} {fd fdL fdI : FuncData} (F : Fun K "as_place" "as_place" pAsPlace f fd) (GL : FnOk P w K mg base CX0 1 fL fdL ["thing"] (spIsList K)) (gL : mg "is_list" = some (.ref fL)) (kL : PySem.W.keepIn K (.ref fL) = true) (bL : Binds K fdL ["thing"] [])
    (GI : FnOk P w K mg base CX0 1 fI fdI ["thing"] (spIsInteger K)) (gI : mg "is_integer" = some (.ref fI)) (kI : PySem.W.keepIn K (.ref fI) = true) (bI : Binds K fdI ["thing"] []) (ha : mg "all" = none) (ht : mg "tuple" = none) :
    FnOk P w K mg base CX0 2 f fd ["thing"] spAsPlace := by
  refine F.ok scAP (fun vs H Q E h => ?_) (fun cdv A outer s H vs Q E hr h => ?_)
  · obtain ⟨v, d, rfl, _⟩ := h
    rfl
  · obtain ⟨v, d, rfl, hv, lim, kN, k⟩ := h
    refine ⟨_, pss_cons (ps_if (pt_not (pt_val (pe_call GL hr (by rfl) gL kL bL .nil pass0 (pa_cons (pv 0) pa_nil)))) (pss_one (ps_ret pe_non)) pss_nil)
      (pss_cons (ps_if (pt_not (pt_val (pe_callB (cr_all rfl) (by rfl) ha (by decide +kernel) (pa_cons (pe_lc (own := [("item", 1)]) (g := gName 1) (tt := tYes) rfl scAP.nd (pi_or (pi_list (pv 0)) (pi_tup (pv 0))) (blkOk_by (N := ["thing", "item"]) (sc := defScope pAsPlace) (by decide +kernel))
          (fun _ _ _ _ _ => pg_name (i := 1) scAP.nd rfl (Or.inl rfl)) (fun _ _ _ _ _ => pts_nil) (fun _ _ _ _ _ => pe_and (pe_call GI hr (by rfl) gI kI bI .nil pass0 (pa_cons (pv 1) pa_nil)) (pe_one (pe_cmpR op_ge (pv 1) pe_int (nomark _))))) pa_nil)))) (pss_one (ps_ret pe_non)) pss_nil)
      (pss_one (ps_ret (pe_callTy call_tuple_of (by rfl) ht (by decide +kernel) (pa_cons (pv 0) pa_nil))))), ?_⟩
    refine ⟨_, rfl, v, _, _, rfl, hv.ty, kit_seq d, fun H1 s1 => ⟨_, rfl, ?_⟩⟩
    cases e : seqD d with
    | none => exact iteT (kN (by unfold placeD; rw [e]) H1 s1)
    | some ds =>
      have pD : placeD d = if ds.all natD = true then some (intsD ds) else none := by unfold placeD; rw [e]
      obtain ⟨t, a, xs, rfl, hA, hs, _⟩ := hv.seq e
      refine iteF ?_
      refine or_var rfl (s1 _ _ hA) fun J wk D nD => ?_
      have lx := hs.len
      have few := lim ds e
      refine lc_it wk (fun i H9 => H9 D = some (.lst (((ds.take i).map natD).map V.bl)) ∧ Same H1 H9) ⟨upd_same, same_new nD _⟩ (fun i H9 _ h9 => (s1.trans h9.2) _ _ hA) ?_ ?_
      · rintro i y H9 H9' hi ⟨h9, s9⟩ ⟨rfl, hy⟩
        obtain ⟨e1, he1, dy⟩ := hs.get hy
        have done : ∀ b, natD e1 = b → ∃ acc, H9' D = some (.lst acc) ∧ acc.length < sizeLine ∧ upd H9' D (.lst (acc ++ [.bl b])) D = some (.lst (((ds.take (i + 1)).map natD).map V.bl)) ∧ Same H1 (upd H9' D (.lst (acc ++ [.bl b]))) := fun b hb => by
          refine ⟨_, h9, ?_, ?_, fun c o hc => ?_⟩
          · rw [List.length_map, List.length_map, List.length_take]
            exact small1000 (by omega)
          · rw [upd_same, List.take_add_one, he1]
            simp only [Option.toList_some, List.map_append, List.map_cons, List.map_nil, hb]
          · rw [upd_ne (ne_of_none hc nD)]
            exact s9 _ _ hc
        have dy9 := (dy.same s1).same s9
        refine ⟨rfl, _, rfl, y, _, _, _, rfl, dy9.ty, kit_int e1, kit_bool e1, _, rfl, ?_⟩
        cases ib : (isI e1 && !isB e1) with
        | false => exact iteF (done false (nat_no ib))
        | true =>
          obtain ⟨n, rfl⟩ := int_of ib
          cases dy
          exact iteT ⟨_, rfl, _, _, rfl, rfl, done _ rfl⟩
      · rintro H9 ⟨h9, s9⟩
        refine ⟨D, _, rfl, SqL.of h9, ?_⟩
        have sH := s1.trans s9
        rw [lx, List.take_of_length_le (Nat.le_refl _)]
        have e3 : (ds.map natD).all id = ds.all natD := by rw [List.all_map]; rfl
        rw [e3]
        refine ⟨_, rfl, ?_⟩
        cases c : ds.all natD with
        | false =>
          rw [c] at pD
          exact iteT (kN pD H9 sH)
        | true =>
          rw [c] at pD
          obtain rfl : xs = (intsD ds).map V.int := Dq.ints (by rw [← nat_ints c]; exact hs)
          refine iteF ⟨_, rfl, a, (intsD ds).map V.int, rfl, ?_⟩
          cases t with
          | false => exact .inl ⟨SqL.of (sH _ _ hA), fun r nr => k _ pD r _ (sH.trans (same_new nr _)) upd_same⟩
          | true => exact .inr ⟨SqT.of (sH _ _ hA), k _ pD a _ sH (sH _ _ hA)⟩
end
end K1
set_option linter.all false
set_option maxRecDepth 100000
set_option maxHeartbeats 1000000
/-! errors of the program with one field: made, raised, caught, their field read -/
namespace K1
open PySem L2
/-- what the written part says of an error class with one field f, at C, its __init__ at fI -/
structure ErrC (K : PySem.W.Frag) (mg : Str → Option Value) (x f : Str) (C fI : Addr) : Prop where
  g : mg x = some (.ref C)
  oex : OexC K C
  xf : XfC K C
  no : PySem.W.findIn K (.ref C) f = some none
  iC : PySem.W.findIn K (.ref C) "__init__" = some (some (.ref fI))
  tI : PySem.W.typeIn K (.ref fI) = some (.type "function")
  te : PySem.W.exmOne K (.ref C) (.ref C) = some true
def oexB (K : PySem.W.Frag) (C : Addr) : Bool := match K.lookup C with
  | some ⟨.type "type", _, .cls cd, sl⟩ => (match cd.mro, sl.toList with
    | .ref D :: bm, [_, _, _, _, some (.builtin n), _] => D == C && n == "ValueError.__new__" && !cd.hasDel && cd.hasDict && PySem.HandSPX.refsVE bm
    | _, _ => false)
  | _ => false
theorem oexB_ok {K : PySem.W.Frag} {C : Addr} (q : oexB K C = true) : ∃ nm q N bs bm sn sub ab col dd k0 k1 k2 k3 k5, K.lookup C = some (excClassObj nm q C N bs bm true sn sub ab col dd k0 k1 k2 k3 k5 "ValueError.__new__") ∧ PySem.HandSPX.refsVE bm = true := by
  unfold oexB at q
  split at q
  · rename_i dd cd sl look
    split at q
    · rename_i D bm k0 k1 k2 k3 n k5 mro slots
      simp only [Bool.and_eq_true, beq_iff_eq, Bool.not_eq_true'] at q
      obtain ⟨⟨⟨⟨rfl, rfl⟩, q3⟩, q4⟩, q5⟩ := q
      obtain ⟨nm, bs, ms, ns, qn, hd, sn, sub, ab, col, del⟩ := cd
      dsimp only at mro q3 q4
      subst mro q3 q4
      obtain ⟨sll⟩ := sl
      dsimp only at slots
      subst slots
      exact ⟨nm, qn, ns, bs, bm, sn, sub, ab, col, dd, k0, k1, k2, k3, k5, look, q5⟩
    · cases q
  · cases q
/-- the same as a truth over the written part -/
def errB (K : PySem.W.Frag) (f : Str) (C fI : Addr) : Bool := oexB K C && (decide (PySem.W.findIn K (.ref C) "__setattr__" = some (some (.builtin "object.__setattr__"))) && (decide (PySem.W.typeIn K (.ref C) = some (.type "type")) && (PySem.W.keepIn K (.ref C) && (xfB K C &&
  (decide (PySem.W.findIn K (.ref C) f = some none) && (decide (PySem.W.findIn K (.ref C) "__init__" = some (some (.ref fI))) && (decide (PySem.W.typeIn K (.ref fI) = some (.type "function")) && decide (PySem.W.exmOne K (.ref C) (.ref C) = some true))))))))
theorem errB_ok {K : PySem.W.Frag} {mg : Str → Option Value} {x f : Str} {C fI : Addr} (g : mg x = some (.ref C)) (q : errB K f C fI = true) : ErrC K mg x f C fI := by
  unfold errB at q
  simp only [Bool.and_eq_true, decide_eq_true_eq] at q
  obtain ⟨q1, q2, q3, q4, q5, q6, q7, q8, q9⟩ := q
  have xf := xfB_ok q5
  exact ⟨g, ⟨oexB_ok q1, q2, xf.exC, q3, q4⟩, xf, q6, q7, q8, q9⟩
/-- self.f = v on an error that is being made -/
def spErrI (K : PySem.W.Frag) (C : Addr) (f : Str) : Sp := fun vs H Q _ => ∃ (a : Addr) (v : V), vs = [.ref a, v] ∧ H a = some (exo a C none) ∧
  ∀ (d : Addr), H d = none → d ≠ a → Q .non (upd (upd H d (exd d [(f, v)])) a (exo a C (some d)))
/-- what raise X(v) asks: the way out with the error's own new dict -/
theorem err_made {K : PySem.W.Frag} {C : Addr} {f : Str} {v : V} {H1 : Hp} {W : Value → Option Addr → Hp → Prop} (k : ∀ d H', H1 d = none → (∀ b o, H1 b = some o → H' b = some o) → H' d = some (.xd [(f, v)]) → W (.ref C) (some d) H') :
    ∀ a, H1 a = none → spErrI K C f (.ref a :: ([v] ++ [])) (upd H1 a (exo a C none)) (fun u H2 => u = .non ∧ ∃ (d : Addr) (fs : List (Str × V)), H2 a = some (exo a C (some d)) ∧ H2 d = some (exd d fs) ∧ H1 d = none ∧ W (.ref C) (some d) (upd (del H2 a) d (.xd fs))) (fun _ _ _ => False) := by
  intro a na
  refine ⟨a, v, rfl, upd_same, fun d nd ne => ⟨rfl, d, _, upd_same, by rw [upd_ne ne, upd_same], by rw [upd_ne ne] at nd; exact nd, ?_⟩⟩
  have nd1 : H1 d = none := by rw [upd_ne ne] at nd; exact nd
  refine k d _ nd1 (fun b o hb => ?_) upd_same
  have b1 : b ≠ a := ne_of_none hb na
  have b2 : b ≠ d := ne_of_none hb nd1
  rw [upd_ne b2, del_ne b1, upd_ne b1, upd_ne b2, upd_ne b1]
  exact hb
/-- o.m(e, ..), what it lets out taken where it stands -/
def tMethW (C : Addr) (m : Str) (sp : Sp) (E : L2.St → XK) (ta : TE) (t : TA) : TE := fun σ H Q => ta σ H fun x H1 => ∃ a dx fs, x = .ref a ∧ H1 a = some (.ins C dx fs) ∧ fs.lookup m = none ∧ t σ H1 fun vs H2 => sp (x :: vs) H2 Q (E σ)
open PySem.Spec PyProof.Rows in
theorem pe_methW {X : Cx} {CX : CXT} {k : Nat} {C f : Addr} {fd : FuncData} {ps : List Str} {sp : Sp} {m : Str} {o e : Expr} {es : List Expr} {apos pos : Pos} {ta : TE} {t : TA} {E : L2.St → XK} {pl : Sem Bool} (he : PE X o ta) (c : Cls X.K C) (hm : Meth X.K C m f) (F : FnOk X.prog X.w X.K X.mg X.base CX k f fd ps sp) (hr : Room k X.A) (hb : Binds X.K fd ps []) (hx : ∀ σ, PassesAt CX X σ (E σ)) (ha : PA X (e :: es) t)
    (hst : starEach (e :: es) X.env = (false, eval e X.env) :: starEach es X.env := by rfl) (hpl : (backTo pos (starEach es X.env)).any (·.1) = false := by rfl)
    (ht : eval (.Call (.Attribute o m apos) (e :: es) [] pos) X.env = (do
      let ov ← eval o X.env
      standAt apos.atName
      let (f, first) ← holding [ov] (getMethod ov m pl)
      callWith pos f first (backTo pos (starEach (e :: es) X.env)) (backToKw pos (keywordEach [] X.env))) := by rfl) :
    PE X (.Call (.Attribute o m apos) (e :: es) [] pos) (tMethW C m sp E ta t) := by
  refine ⟨fun pins s σ H Q I h => ?_⟩
  refine PySem.W.methodCall_KW (pl := pl) (thn (he.run pins s σ H _ I h) fun u s1 ⟨x, H1, I1, rx, a, dx, fs, ex, ea, l, q⟩ => ?_) ht
  subst ex
  obtain rfl : u = Value.ref a := rx
  refine getmeth_ok I1 ea c hm l ?_
  refine PySem.W.callWith_K (first := [.ref a]) (h₀ := X.base) I.ok.mod.kin hm.kp (thn (ha.run pos pins s1 σ H1 _ I1 q) fun us s2 ⟨vs, H2, I2, r, q2⟩ => ⟨I2.kIn, ?_⟩) hst hpl
  exact run_fnS (us := .ref a :: us) (vs := .ref a :: vs) F hr hb (hx σ) I2 (.cons rfl r) q2
end K1
set_option linter.all false
set_option maxRecDepth 100000
set_option maxHeartbeats 1000000
namespace K1
open PySem L2
/-- the way out of an error with one field -/
def Raises1 (C : Addr) (f : Str) (H : Hp) (E : XK) (v : V) : Prop := ∀ d H', H d = none → Same H H' → H' d = some (.xd [(f, v)]) → E (.ref C) (some d) H'
theorem Raises1.mono {C : Addr} {f : Str} {H H1 : Hp} {E : XK} {v : V} (h : Raises1 C f H E v) (s : Same H H1) : Raises1 C f H1 E v := fun d H' nd s' e => h d H' (s.free nd) (s.trans s') e
/-- the first that is no place -/
def badFrom : List PyData → Option Nat
  | [] => none
  | d :: r => if (placeD d).isSome = true then (badFrom r).map (· + 1) else some 0
def badL (d : PyData) : Option Nat := match seqD d with
  | some ds => badFrom ds
  | none => some 0
def plOf (d : PyData) : List Int := (placeD d).getD []
def keysD (d : PyData) : List (List Int) := match seqD d with
  | some ds => ds.map plOf
  | none => []
theorem bad_turn {ds : List PyData} {i : Nat} {d : PyData} (h : ds[i]? = some d) : badFrom (ds.drop i) = if (placeD d).isSome = true then (badFrom (ds.drop (i + 1))).map (· + 1) else some 0 := by
  have li := (List.getElem?_eq_some_iff.mp h).1
  have ei : ds[i] = d := Option.some.inj ((List.getElem?_eq_getElem li).symm.trans h)
  rw [List.drop_eq_getElem_cons li, ei]
  rfl
theorem bad_none : ∀ {ds : List PyData}, badFrom ds = none → ∀ d ∈ ds, (placeD d).isSome = true
  | d :: r, h, e, he => by
    unfold badFrom at h
    split at h
    · rename_i c
      rcases List.mem_cons.mp he with rfl | he
      · exact c
      · refine bad_none (ds := r) ?_ e he
        cases q : badFrom r with
        | none => rfl
        | some k => rw [q] at h; cases h
    · cases h
/-- what is told of the places as a whole -/
structure LimL (d : PyData) : Prop where
  few : ∀ ds, seqD d = some ds → ds.length < 60
  low : ∀ ds, seqD d = some ds → ∀ e ∈ ds, LimP e
  ok : ∀ ds, seqD d = some ds → ∀ e ∈ ds, ∀ ns, placeD e = some ns → Ok ns
/-- the places that were read -/
inductive Plc (H : Hp) : List V → List PyData → Prop
  | nil : Plc H [] []
  | bad {vs ds d} : placeD d = none → Plc H vs ds → Plc H (.non :: vs) (d :: ds)
  | good {vs ds d ns b} : placeD d = some ns → H b = some (.tup (ns.map V.int)) → Plc H vs ds → Plc H (.ref b :: vs) (d :: ds)
theorem Plc.mono {H H' : Hp} (s : Same H H') : ∀ {vs ds}, Plc H vs ds → Plc H' vs ds
  | _, _, .nil => .nil
  | _, _, .bad e t => .bad e (Plc.mono s t)
  | _, _, .good e h t => .good e (s _ _ h) (Plc.mono s t)
theorem Plc.app {H : Hp} {ys es} (k : Plc H ys es) : ∀ {vs ds}, Plc H vs ds → Plc H (vs ++ ys) (ds ++ es)
  | _, _, .nil => k
  | _, _, .bad e t => .bad e (Plc.app k t)
  | _, _, .good e h t => .good e h (Plc.app k t)
theorem Plc.len {H : Hp} : ∀ {vs ds}, Plc H vs ds → vs.length = ds.length
  | _, _, .nil => rfl
  | _, _, .bad _ t => congrArg Nat.succ (Plc.len t)
  | _, _, .good _ _ t => congrArg Nat.succ (Plc.len t)
theorem Plc.get {H : Hp} : ∀ {vs ds} {i : Nat} {v : V}, Plc H vs ds → vs[i]? = some v → ∃ d, ds[i]? = some d ∧ ((placeD d = none ∧ v = .non) ∨ ∃ ns b, placeD d = some ns ∧ v = .ref b)
  | _, _, _, _, .nil, h => by simp at h
  | _, _, 0, _, .bad e _, h => ⟨_, rfl, .inl ⟨e, (Option.some.inj h).symm⟩⟩
  | _, _, 0, _, .good e _ _, h => ⟨_, rfl, .inr ⟨_, _, e, (Option.some.inj h).symm⟩⟩
  | _, _, i + 1, _, .bad _ t, h => Plc.get (i := i) t (by simpa using h)
  | _, _, i + 1, _, .good _ _ t, h => Plc.get (i := i) t (by simpa using h)
theorem Plc.up {H : Hp} {D : Addr} {us : List V} {o : HO} (h : H D = some (.lst us)) : ∀ {vs ds}, Plc H vs ds → Plc (upd H D o) vs ds
  | _, _, .nil => .nil
  | _, _, .bad e t => .bad e (Plc.up h t)
  | _, _, .good e hb t => .good e (by rw [upd_ne (fun e => by rw [e, h] at hb; cases hb)]; exact hb) (Plc.up h t)
theorem Plc.rows {H : Hp} : ∀ {vs ds}, Plc H vs ds → (∀ d ∈ ds, (placeD d).isSome = true) → ∃ L : PL, vs = refs L ∧ Ats H L ∧ keys L = ds.map plOf
  | _, _, .nil, _ => ⟨[], rfl, (fun _ h => nomatch h), rfl⟩
  | _, _, .bad e t, a => by
    have z := a _ (.head _)
    rw [e] at z
    cases z
  | _, _, .good (ns := ns) (b := b) (ds := ds) (d := d) e h t, a => by
    obtain ⟨L, e1, h1, k1⟩ := Plc.rows t fun d hd => a d (.tail _ hd)
    refine ⟨(b, ns) :: L, ?_, ?_, ?_⟩
    · rw [e1]; rfl
    · intro p hp
      rcases List.mem_cons.mp hp with rfl | hp
      · exact h
      · exact h1 p hp
    · have e2 : plOf d = ns := by unfold plOf; rw [e]; rfl
      show ns :: keys L = plOf d :: ds.map plOf
      rw [k1, e2]
/-- pigeons -/
theorem nodup_le {α : Type} [BEq α] [LawfulBEq α] : ∀ (l D : List α), l.Nodup → (∀ x ∈ l, x ∈ D) → l.length ≤ D.length
  | [], _, _, _ => Nat.zero_le _
  | x :: r, D, nd, h => by
    obtain ⟨n1, n2⟩ := List.nodup_cons.mp nd
    have mx := h x (.head _)
    have z := nodup_le r (D.erase x) n2 fun y hy => (List.mem_erase_of_ne (fun e => n1 (by rw [← e]; exact hy))).mpr (h y (.tail _ hy))
    rw [List.length_erase_of_mem mx] at z
    have p := List.length_pos_of_mem mx
    rw [List.length_cons]
    omega
structure TxtA (mg : Str → Option Value) : Prop where
  enum : mg "enumerate" = none
  set : mg "set" = none
  sorted : mg "sorted" = none
  tuple : mg "tuple" = none
/-- the tuple of the places, ascending, without doubles -/
structure PlT (H : Hp) (t : Addr) (ks : List (List Int)) (L : PL) : Prop where
  at_ : H t = some (.tup (refs L))
  tu : Ats H L
  ok : Oks L
  asc : Asc L
  few : L.length ≤ ks.length
  mem : ∀ k, k ∈ keys L ↔ k ∈ ks
def spAscL (BC : Addr) : Sp := fun vs H Q E => ∃ (x : V) (d : PyData), vs = [x] ∧ Dq H x d ∧ LimL d ∧ (∀ i, badL d = some i → Raises1 BC "index" H E (.int (i : Nat))) ∧
  (badL d = none → ∀ (t : Addr) (L : PL) (H' : Hp), Same H H' → H t = none → PlT H' t (keysD d) L → Q (.ref t) H')
section
variable {P : Program} {w : World} {K : PySem.W.Frag} {mg : Str → Option Value} {base : Heap} {BC : Addr}
theorem scBLi : FnScope ["self", "index"] ["self", "index"] (defScope cBadLotInit) := ⟨rfl, rfl, rfl, by decide +kernel, rfl, by decide +kernel, by decide +kernel⟩
theorem ok_bli {f : Addr} {fd : FuncData} (F : Fun K "__init__" "BadLot.__init__" cBadLotInit f fd) (T : OexC K BC) (no : PySem.W.findIn K (.ref BC) "index" = some none) : FnOk P w K mg base CX0 1 f fd ["self", "index"] (spErrI K BC "index") := by
  refine F.ok scBLi (fun vs H Q E h => ?_) (fun cdv A outer s H vs Q E hr h => ?_)
  · obtain ⟨a, v, rfl, _⟩ := h
    rfl
  · obtain ⟨a, v, rfl, ha, q⟩ := h
    exact ⟨_, pss_one (ps_ost (pv 0) (pv 1)), _, rfl, _, rfl, a, BC, rfl, T, no, .inl ⟨ha, fun d nd ne => q d nd ne⟩⟩
abbrev NAs : List Str := ["things", "places", "thing", "index", "place"]
theorem scAs : FnScope NAs ["things"] (defScope pAscendingPlaces) := ⟨rfl, rfl, rfl, by decide +kernel, rfl, by decide +kernel, by decide +kernel⟩
theorem ok_ascL {f fL fP fI : Addr} {fd fdL fdP fdI : FuncData} (F : Fun K "ascending_places" "ascending_places" pAscendingPlaces f fd) (GL : FnOk P w K mg base CX0 1 fL fdL ["thing"] (spIsList K)) (gL : mg "is_list" = some (.ref fL)) (kL : PySem.W.keepIn K (.ref fL) = true) (bL : Binds K fdL ["thing"] [])
    (GP : FnOk P w K mg base CX0 2 fP fdP ["thing"] spAsPlace) (gP : mg "as_place" = some (.ref fP)) (kP : PySem.W.keepIn K (.ref fP) = true) (bP : Binds K fdP ["thing"] []) (T : TxtA mg)
    (e : ErrC K mg "BadLot" "index" BC fI) (GI : FnOk P w K mg base CX0 1 fI fdI ["self", "index"] (spErrI K BC "index")) (bI : Binds K fdI ["self", "index"] []) : FnOk P w K mg base (L2.CX P w) 3 f fd ["things"] (spAscL BC) := by
  refine F.okX scAs (fun vs H Q E h => ?_) (fun cdv A outer s H vs Q E hr h => ?_)
  · obtain ⟨x, d, rfl, _⟩ := h
    rfl
  · obtain ⟨x, d, rfl, hx, lim, kB, kG⟩ := h
    refine ⟨_, pss_cons (ps_if (pt_not (pt_val (pe_call GL (hr.mono (by decide)) (by rfl) gL kL bL .nil pass0 (pa_cons (pv 0) pa_nil)))) (pss_one (ps_raise rfl (takes_of rfl rfl rfl rfl) (pmk_oex e.oex e.iC e.tI GI (hr.mono (by decide)) bI .nil pass0 (by rfl) e.g (pa_cons pe_int pa_nil)))) pss_nil)
      (pss_cons (ps_setLc (i := 1) (own := [("thing", 2)]) (g := gName 2) (tt := tYes) rfl scAs.nd rfl rfl (sw_true rfl rfl rfl rfl) (pi_or (pi_list (pv 0)) (pi_tup (pv 0))) (blkOk_by (N := NAs) (sc := defScope pAscendingPlaces) (by decide +kernel)) (fun _ _ _ _ _ => pg_name (i := 2) scAs.nd rfl (Or.inl rfl)) (fun _ _ _ _ _ => pts_nil)
        (fun _ _ _ _ _ => pe_call GP hr (by rfl) gP kP bP .nil pass0 (pa_cons (pv 2) pa_nil)))
      (pss_cons (ps_for (passes_of rfl) rfl (pi_enum (by rfl) T.enum (pa_cons (pv 1) pa_nil)) (pg_tup rfl (pgs_cons (pg_name (i := 3) scAs.nd rfl (Or.inl rfl)) (pgs_cons (pg_name (i := 4) scAs.nd rfl (Or.inl rfl)) pgs_nil)))
        (pss_one (ps_if (pt_cmpR op_isN (pv 4) pe_non (nomark _)) (pss_one (ps_raise rfl (takes_of rfl rfl rfl rfl) (pmk_oex e.oex e.iC e.tI GI (hr.mono (by decide)) bI .nil pass0 (by rfl) e.g (pa_cons (pv 3) pa_nil)))) pss_nil)))
      (pss_one (ps_ret (pe_callTy call_tuple_of (by rfl) T.tuple (by decide +kernel) (pa_cons (pe_callB (cr_sortedV rfl (Nat.lt_of_le_of_lt (Nat.add_le_add_left (by decide) _) hr.units)) (by rfl) T.sorted (by decide +kernel) (pa_cons (pe_callTy (cr_setOfT rfl hr.units) (by rfl) T.set (by decide +kernel) (pa_cons (pv 1) pa_nil)) pa_nil)) pa_nil)))))), ?_⟩
    refine ⟨_, rfl, x, _, _, rfl, hx.ty, kit_seq d, fun H1 s1 => ⟨_, rfl, ?_⟩⟩
    cases eD : seqD d with
    | none =>
      have b0 : badL d = some 0 := by unfold badL; rw [eD]
      exact iteT ⟨Nat.le_of_ble_eq_true rfl, err_made fun d' H' nd' s' hd' => kB 0 b0 d' H' (s1.free nd') (s1.trans s') hd'⟩
    | some ds =>
      have bD : badL d = badFrom ds := by unfold badL; rw [eD]
      have kD : keysD d = ds.map plOf := by unfold keysD; rw [eD]
      have few := lim.few ds eD
      have low := lim.low ds eD
      have okd := lim.ok ds eD
      rw [kD, bD] at kG
      rw [bD] at kB
      obtain ⟨t0, a, xs, rfl, hA, hs, _⟩ := hx.seq eD
      have lx := hs.len
      refine iteF ?_
      refine or_var rfl (s1 _ _ hA) fun J wk D nD => ?_
      have n0 : H D = none := s1.free nD
      refine lc_it wk (fun i H9 => ∃ vs, H9 D = some (.lst vs) ∧ Plc H9 vs (ds.take i) ∧ Same H1 H9) ⟨[], upd_same, .nil, same_new nD _⟩ (fun i H9 _ ⟨_, _, _, h9⟩ => (s1.trans h9) _ _ hA) ?_ ?_
      · rintro i y H9 H9' hi ⟨vs, h9, pl, s9⟩ ⟨rfl, hy⟩
        obtain ⟨e1, he1, dy⟩ := hs.get hy
        have mem := List.mem_of_getElem? he1
        have l9 : vs.length < 60 := by
          rw [pl.len, List.length_take]
          omega
        have et : ds.take (i + 1) = ds.take i ++ [e1] := by rw [List.take_add_one, he1]; rfl
        refine ⟨rfl, _, rfl, y, e1, rfl, (dy.same s1).same s9, low e1 mem, fun pn H10 s10 => ?_, fun ns pn b H10 s10 hb => ?_⟩
        · have hD10 := s10 _ _ h9
          have nt : Same H1 (upd H10 D (.lst (vs ++ [V.non]))) := fun c o hc => by
            rw [upd_ne (ne_of_none hc nD)]
            exact s10 _ _ (s9 _ _ hc)
          refine ⟨_, hD10, small1000 (by omega), vs ++ [.non], upd_same, ?_, nt⟩
          rw [et]
          refine Plc.app (.bad pn .nil) ?_
          exact Plc.up hD10 (pl.mono s10)
        · have hD10 := s10 _ _ h9
          have nt : Same H1 (upd H10 D (.lst (vs ++ [V.ref b]))) := fun c o hc => by
            rw [upd_ne (ne_of_none hc nD)]
            exact s10 _ _ (s9 _ _ hc)
          refine ⟨_, hD10, small1000 (by omega), vs ++ [.ref b], upd_same, ?_, nt⟩
          rw [et]
          refine Plc.app (.good pn ?_ .nil) (Plc.up hD10 (pl.mono s10))
          rw [upd_ne (fun e => by rw [e, hD10] at hb; cases hb)]
          exact hb
      · rintro H9 ⟨vs, h9, pl, s9⟩
        rw [lx, List.take_of_length_le (Nat.le_refl _)] at pl
        have lv := pl.len
        have sH := s1.trans s9
        refine ⟨_, rfl, D, vs, rfl, SqL.of h9, ?_⟩
        refine for_it (walk_enum (xs := vs)) (fun i σ H2 => ∃ v u, σ = [some (.ref a), some (.ref D), none, v, u] ∧ Same H9 H2 ∧ badFrom ds = (badFrom (ds.drop i)).map (· + i)) ⟨_, _, rfl, Same.refl _, by simp⟩ (fun i σ H2 _ ⟨v, u, _, s2, _⟩ => SqL.of (s2 _ _ h9)) ?_ ?_
        · rintro i x σ H2 H3 hi ⟨v, u, rfl, s2, run⟩ ⟨tp, x1, x2, rfl, nt, rfl, e1, e2⟩
          obtain ⟨d1, hd1, alt⟩ := pl.get e2
          cases e1
          have step := bad_turn hd1
          refine ⟨tp, _, rfl, SqT.of upd_same, rfl, _, _, rfl, _, _, rfl, rfl, ?_⟩
          have sA := s2.trans (same_new nt (.tup [.int (i : Nat), x2]))
          rcases alt with ⟨pn, rfl⟩ | ⟨ns, b, pn, rfl⟩
          · rw [pn] at step
            refine ⟨_, rfl, rfl, _, rfl, iteT ⟨_, rfl, Nat.le_of_ble_eq_true rfl, err_made fun d' H' nd' s' hd' => ?_⟩⟩
            have bi : badFrom ds = some i := by rw [run, step]; simp
            have sB := sH.trans sA
            exact kB i bi d' H' (sB.free nd') (sB.trans s') hd'
          · rw [pn] at step
            refine ⟨_, rfl, rfl, _, rfl, iteF ?_⟩
            refine ⟨_, _, rfl, sA, ?_⟩
            rw [run, step]
            show Option.map (· + i) (Option.map (· + 1) (badFrom (ds.drop (i + 1)))) = Option.map (· + (i + 1)) (badFrom (ds.drop (i + 1)))
            cases badFrom (ds.drop (i + 1)) with
            | none => rfl
            | some k =>
              show some (k + 1 + i) = some (k + (i + 1))
              exact congrArg some (by omega)
        · rintro σ H2 ⟨v, u, rfl, s2, run⟩
          rw [lv, List.drop_length] at run
          have b0 : badFrom ds = none := run
          obtain ⟨L, rfl, hL, eK⟩ := (pl.mono s2).rows (bad_none b0)
          have sA := sH.trans s2
          have h2 := s2 _ _ h9
          have lL : L.length = ds.length := by rw [← lv, refs_len]
          have oL : Oks L := fun p hp => by
            have z : p.2 ∈ keys L := List.mem_map.mpr ⟨p, hp, rfl⟩
            rw [eK] at z
            obtain ⟨d1, hd1, e1⟩ := List.mem_map.mp z
            have w := bad_none b0 d1 hd1
            obtain ⟨ns, hn⟩ := Option.isSome_iff_exists.mp w
            have e2 : plOf d1 = ns := by unfold plOf; rw [hn]; rfl
            rw [← e1, e2]
            exact okd d1 hd1 ns hn
          refine ⟨_, rfl, D, L, rfl, SqL.of h2, fun p hp => SqT.of (hL p hp), by omega, fun sa Ls nsa sub cov => ?_⟩
          have sB := same_new nsa (SetTO P w sa Ls)
          refine ⟨sa, Ls, rk, rfl, upd_same, fun p hp => SqT.of (sB _ _ (hL p (sub p hp))), fun p hp q hq => (oL p (sub p hp)).lt (oL q (sub q hq)), fun L' d' pm nd few' pw nd' => ?_⟩
          have sC := sB.trans (same_new nd' (.lst (refs L')))
          refine ⟨d', refs L', rfl, .inl ⟨SqL.of upd_same, fun t nt => ?_⟩⟩
          have sD := sC.trans (same_new nt (.tup (refs L')))
          have oS : Oks L' := fun p hp => oL p (sub p (pm.mem_iff.mp hp))
          refine kG b0 t L' _ (sA.trans sD) ((sA.trans sC).free nt) ⟨upd_same, fun p hp => sD _ _ (hL p (sub p (pm.mem_iff.mp hp))), oS, ?_, ?_, fun k => ?_⟩
          · have nk := List.pairwise_map.mp nd
            refine (List.Pairwise.and pw nk).imp_of_mem fun {p q} hp hq z => ?_
            rcases Int.lt_or_eq_of_le z.1 with y | y
            · exact y
            · exact absurd ((oS p hp).inj (oS q hq) y) z.2
          · have z := nodup_le (L'.map (·.2)) (L.map (·.2)) nd fun x hx => by
              obtain ⟨p, hp, rfl⟩ := List.mem_map.mp hx
              exact List.mem_map.mpr ⟨p, sub p (pm.mem_iff.mp hp), rfl⟩
            rw [List.length_map, List.length_map] at z
            rw [List.length_map]
            omega
          · rw [← eK]
            constructor
            · intro h
              obtain ⟨p, hp, rfl⟩ := List.mem_map.mp h
              exact List.mem_map.mpr ⟨p, sub p (pm.mem_iff.mp hp), rfl⟩
            · intro h
              obtain ⟨p, hp, rfl⟩ := List.mem_map.mp h
              exact (pm.map (·.2)).mem_iff.mpr (cov p hp)
end
end K1
set_option maxRecDepth 100000
set_option maxHeartbeats 400000
/-! operators that a class of the program defines, its instances ordinary ones -/
namespace K1
open PySem PySem.Spec PyProof.Rows L2
section
variable {X : Cx} {CX : CXT} {E : XK} {C g : Addr} {fd : FuncData} {ps : List Str} {sp : Sp} {k : Nat}
/-- an instance of the class at C stands at a -/
def Ins (H : Hp) (a C : Addr) : Prop := ∃ dx fs, H a = some (.ins C dx fs)
theorem ins_inst {pins : List (Addr × Obj)} {σ : L2.St} {H : Hp} {s : Shared} {a : Addr} (I : Inv X pins σ H s) (h : Ins H a C) : ∃ dx od, PySem.W.InstAt s.heap a (PySem.W.instObj C dx) C (some od) := by
  obtain ⟨dx, fs, e⟩ := h
  obtain ⟨mA, O, _⟩ := ins_get I.hok e
  obtain ⟨od, J, _⟩ := O.look
  exact ⟨dx, od, J⟩
theorem op_two {op : Operator} (M : Meth X.K C (PySem.dunder op.info.2) g) (sf : PySem.W.selfFirst X.K C = true) (F : FnOk X.prog X.w X.K X.mg X.base CX k g fd ps sp) (hr : Room k X.A) (hb : Binds X.K fd ps []) (hx : Passes CX X E) :
    OpR X (binaryOp op) (fun x y H Q => ∃ a b, x = .ref a ∧ y = .ref b ∧ Ins H a C ∧ Ins H b C ∧ sp [x, y] H Q E) := by
  intro pins s σ H x y v u Q I rx ry h
  obtain ⟨a, b, rfl, rfl, ha, hb', q⟩ := h
  cases (show v = Value.ref a from rx)
  cases (show u = Value.ref b from ry)
  obtain ⟨_, _, J⟩ := ins_inst I ha
  obtain ⟨_, _, J'⟩ := ins_inst I hb'
  obtain ⟨m, fr⟩ := I.fr
  refine PySem.W.binop_K fr I.ok.mod.kin J J'.type sf M.at_ M.fn ?_
  refine thn (run_fn (us := [.ref a, .ref b]) (vs := [.ref a, .ref b]) F hr hb .nil hx I (.cons rfl (.cons rfl .nil)) (by rw [List.append_nil]; exact q)) fun r s' z => ?_
  obtain ⟨z', H', I', rz, qz⟩ := z
  exact SlX.cmpback rz ⟨z', H', I', rz, qz⟩
theorem op_cmp {op : CmpOp} (hop : ∀ a b, compareOp op a b = richCompare op a b) (M : Meth X.K C (cmpInfo op).2.1 g) (nf : PySem.W.notFirst X.K C (.ref C) = true) (F : FnOk X.prog X.w X.K X.mg X.base CX k g fd ps sp) (hr : Room k X.A) (hb : Binds X.K fd ps []) (hx : Passes CX X E) :
    OpR X (compareOp op) (fun x y H Q => ∃ a b, x = .ref a ∧ y = .ref b ∧ Ins H a C ∧ Ins H b C ∧ sp [x, y] H Q E) := by
  intro pins s σ H x y v u Q I rx ry h
  obtain ⟨a, b, rfl, rfl, ha, hb', q⟩ := h
  cases (show v = Value.ref a from rx)
  cases (show u = Value.ref b from ry)
  obtain ⟨_, _, J⟩ := ins_inst I ha
  obtain ⟨_, _, J'⟩ := ins_inst I hb'
  obtain ⟨m, fr⟩ := I.fr
  rw [hop]
  refine PySem.W.cmp_K (op := op) (tb := .ref C) hr.units0 fr I.ok.mod.kin J J'.type nf M.at_ M.fn ?_
  refine thn (run_fn (us := [.ref a, .ref b]) (vs := [.ref a, .ref b]) F hr hb .nil hx I (.cons rfl (.cons rfl .nil)) (by rw [List.append_nil]; exact q)) fun r s' z => ?_
  obtain ⟨z', H', I', rz, qz⟩ := z
  exact SlX.cmpback rz ⟨z', H', I', rz, qz⟩
/-- x in y, y an instance of a class that defines it; its def hands back a truth -/
theorem op_has (M : Meth X.K C "__contains__" g) (F : FnOk X.prog X.w X.K X.mg X.base CX k g fd ps sp) (hr : Room k X.A) (hb : Binds X.K fd ps []) (hx : Passes CX X E) :
    OpR X (compareOp .In) (fun x y H Q => ∃ b, y = .ref b ∧ Ins H b C ∧ sp [y, x] H (fun v H' => ∃ t, v = .bl t ∧ Q (.bl t) H') E) := by
  intro pins s σ H x y v u Q I rx ry h
  obtain ⟨b, rfl, hb', q⟩ := h
  cases (show u = Value.ref b from ry)
  obtain ⟨_, _, J⟩ := ins_inst I hb'
  obtain ⟨m, fr⟩ := I.fr
  refine PySem.W.in_K fr I.ok.mod.kin J M.at_ M.fn ?_
  refine thn (run_fn (us := [.ref b, v]) (vs := [.ref b, x]) F hr hb .nil hx I (.cons rfl (.cons rx .nil)) (by rw [List.append_nil]; exact q)) fun r s' z => ?_
  obtain ⟨z', H', I', rz, t, rfl, qz⟩ := z
  cases (show r = Value.bool t from rz)
  exact wpAny_pure ⟨.bl t, H', I', rfl, qz⟩
theorem op_hasnt (M : Meth X.K C "__contains__" g) (F : FnOk X.prog X.w X.K X.mg X.base CX k g fd ps sp) (hr : Room k X.A) (hb : Binds X.K fd ps []) (hx : Passes CX X E) :
    OpR X (compareOp .NotIn) (fun x y H Q => ∃ b, y = .ref b ∧ Ins H b C ∧ sp [y, x] H (fun v H' => ∃ t, v = .bl t ∧ Q (.bl (!t)) H') E) := by
  intro pins s σ H x y v u Q I rx ry h
  obtain ⟨b, rfl, hb', q⟩ := h
  cases (show u = Value.ref b from ry)
  obtain ⟨_, _, J⟩ := ins_inst I hb'
  obtain ⟨m, fr⟩ := I.fr
  refine PySem.W.notIn_K fr I.ok.mod.kin J M.at_ M.fn ?_
  refine thn (run_fn (us := [.ref b, v]) (vs := [.ref b, x]) F hr hb .nil hx I (.cons rfl (.cons rx .nil)) (by rw [List.append_nil]; exact q)) fun r s' z => ?_
  obtain ⟨z', H', I', rz, t, rfl, qz⟩ := z
  cases (show r = Value.bool t from rz)
  exact wpAny_pure ⟨.bl (!t), H', I', rfl, qz⟩
end
/-! ### !=, by an own == alone -/
/-- the class at C has no base of the program's; its own == is at g, it has no != -/
structure NeC (K : PySem.W.Frag) (C g : Addr) : Prop where
  cls : ∃ nm q N bs hdct sn sub ab col dd k0 k1 k2 k3 k5 newId, K.lookup C = some (excClassObj nm q C N bs [.type "object"] hdct sn sub ab col dd k0 k1 k2 k3 k5 newId) ∧ PySem.W.nsOkIn K N = true ∧
    PySem.W.nsIn K N "__eq__" = some (some (.ref g)) ∧ PySem.W.nsIn K N "__ne__" = some none
  fn : ∃ o, K.lookup g = some o ∧ o.cls = .type "function"
def neB (K : PySem.W.Frag) (C g : Addr) : Bool := (match K.lookup C with
  | some ⟨.type "type", _, .cls cd, sl⟩ => (match cd.mro, sl.toList with
    | [.ref D, .type "object"], [_, _, _, _, some (.builtin _), _] => D == C && !cd.hasDel && PySem.W.nsOkIn K cd.ns && decide (PySem.W.nsIn K cd.ns "__eq__" = some (some (.ref g))) && decide (PySem.W.nsIn K cd.ns "__ne__" = some none)
    | _, _ => false)
  | _ => false) && (match K.lookup g with
  | some o => decide (o.cls = .type "function")
  | none => false)
theorem neB_ok {K : PySem.W.Frag} {C g : Addr} (q : neB K C g = true) : NeC K C g := by
  obtain ⟨q, r⟩ := Bool.and_eq_true_iff.mp q
  refine ⟨?_, ?_⟩
  · split at q
    · rename_i dd cd sl look
      split at q
      · rename_i D k0 k1 k2 k3 n k5 mro slots
        simp only [Bool.and_eq_true, beq_iff_eq, Bool.not_eq_true', decide_eq_true_eq] at q
        obtain ⟨⟨⟨⟨rfl, q2⟩, q3⟩, q4⟩, q5⟩ := q
        obtain ⟨nm, bs, ms, ns, qn, hd, sn, sub, ab, col, del⟩ := cd
        dsimp only at mro q2 q3 q4 q5
        subst mro q2
        obtain ⟨sll⟩ := sl
        dsimp only at slots
        subst slots
        exact ⟨nm, qn, ns, bs, hd, sn, sub, ab, col, dd, k0, k1, k2, k3, k5, n, look, q3, q4, q5⟩
      · cases q
    · cases q
  · split at r
    · rename_i o e
      exact ⟨o, e, of_decide_eq_true r⟩
    · cases r
theorem ns_at {K : PySem.W.Frag} {h : Heap} {N : Addr} {m : Str → Option Value} {n : Str} {v : Value} (X : K.In h) (G : h.Ns N m) (e : PySem.W.nsIn K N n = some (some v)) : m n = some v := by
  obtain ⟨o, es, ep, look, dt, _, at_⟩ := G
  unfold PySem.W.nsIn at e
  split at e
  · rename_i c d es' n' sl q
    have z := X _ _ q
    rw [look] at z
    cases z
    cases dt
    split at e
    · rename_i en there
      cases e
      rw [← at_]
      unfold nsFind findBy
      rw [← Array.find?_toList, there] <;> rfl
    · split at e <;> cases e
  · cases e
section
variable {X : Cx} {CX : CXT} {E : XK} {C g : Addr} {fd : FuncData} {ps : List Str} {sp : Sp} {k : Nat}
/-- the callee runs within a builtin's call -/
theorem run_in {pins : List (Addr × Obj)} {σ : L2.St} {H : Hp} {s : Shared} {A : Around} {Q : VK} {us : List Value} {vs : List V} (F : FnOk X.prog X.w X.K X.mg X.base CX k g fd ps sp) (hr : Room k A) (e0 : Env0 X.prog X.w X.K X.mg X.base A X.stack s H) (hb : Binds X.K fd ps [])
    (hx : Passes CX X E) (I : Inv X pins σ H s) (r : Vals vs us) (q : sp vs H Q E) : wpAny (model X.prog X.w) A (call (.ref g) us) (EP X pins σ Q) X.xe s := by
  have l : (us ++ []).length = ps.length := by
    rw [List.append_nil, ← r.length]
    exact F.len _ _ _ _ q
  refine wpAny_call (codeAny_mono (F.run A X.stack s H ⟨us, []⟩ (us ++ []) vs Q E hr e0 (hb s us I.kIn l) (by rw [List.append_nil]; exact r) q) fun z s' back => ?_)
  cases z with
  | error e => exact hx pins σ H s e s' I back
  | ok fl =>
    cases fl with
    | ret u => exact I.after back
    | next => exact False.elim back
    | brk => exact False.elim back
    | cont => exact False.elim back
theorem op_unlike (N : NeC X.K C g) (F : FnOk X.prog X.w X.K X.mg X.base CX k g fd ps sp) (hr : Room (k + 1) X.A) (hb : Binds X.K fd ps []) (hx : Passes CX X E) :
    OpR X (compareOp .NotEq) (fun x y H Q => ∃ a b, x = .ref a ∧ y = .ref b ∧ Ins H a C ∧ Ins H b C ∧ sp [x, y] H (fun v H' => ∃ t, v = .bl t ∧ Q (.bl (!t)) H') E) := by
  intro pins s σ H x y v u Q I rx ry h
  obtain ⟨a, b, rfl, rfl, ha, hb', q⟩ := h
  cases (show v = Value.ref a from rx)
  cases (show u = Value.ref b from ry)
  obtain ⟨_, _, J⟩ := ins_inst I ha
  obtain ⟨_, _, J'⟩ := ins_inst I hb'
  obtain ⟨nm, qn, ns, bs, hdct, sn, sub, ab, col, dd, k0, k1, k2, k3, k5, nI, look, ok, eq, ne⟩ := N.cls
  obtain ⟨of, gat, gcl⟩ := N.fn
  have G : s.heap.Ns ns (s.heap.nsMap ns) := .of_isNs (PySem.W.isNs_of_in I.kIn ok)
  have hC := I.kIn _ _ look
  have hg := I.kIn _ _ gat
  have m1 := ns_at I.kIn G eq
  have m2 := PySem.W.ns_none_of I.kIn G ne
  have mro := PySem.F.cmp_object.mro
  have lk := PySem.F.cmp_object.eq.lookup
  have Z : s.heap.OwnEqNoNe a C g "object" [.type "object"] := by
    exact ⟨_, of, nm, qn, ns, bs, hdct, sn, sub, ab, col, dd, k0, k1, k2, k3, k5, nI, s.heap.nsMap ns, some (.builtin "object.__eq__"), J.at_, J.cls, hC, G, m1, hg, gcl, mro, lk, m2⟩
  obtain ⟨hp, gs, dr, tk, os⟩ := s
  refine compareOp_ne_ownEq PySem.F.cmp_object Z J'.at_ J'.cls (hu_of hr) ?_
  have two : Vals [V.ref a, V.ref b] [Value.ref a, Value.ref b] := .cons (show L2.RelV (V.ref a) (Value.ref a) from rfl) (.cons (show L2.RelV (V.ref b) (Value.ref b) from rfl) .nil)
  refine wpAny_mono (run_in F hr.in1 I.env0.in1 hb hx I two q) (fun r s' z => ?_) fun _ _ e => e
  obtain ⟨v', H', I', rv, t, rfl, qz⟩ := z
  cases (show r = Value.bool t from rv)
  exact ⟨t, rfl, .bl (!t), H', I', rfl, qz⟩
end
end K1
set_option maxRecDepth 100000
set_option maxHeartbeats 400000
/-! len(x), x an instance of a class that defines it -/
namespace K1
open PySem PySem.Spec PyProof.Rows L2
section
variable {X : Cx} {CX : CXT} {E : XK} {C g : Addr} {fd : FuncData} {ps : List Str} {sp : Sp} {k : Nat}
theorem call_lenOwn (M : Meth X.K C "__len__" g) (F : FnOk X.prog X.w X.K X.mg X.base CX k g fd ps sp) (hr : Room (k + 1) X.A) (hb : Binds X.K fd ps []) (hx : Passes CX X E) :
    CallR X (.builtin "len") (fun xs H Q => ∃ a, xs = [.ref a] ∧ Ins H a C ∧ sp [.ref a] H (fun v H' => ∃ n : Nat, v = .int n ∧ n < 100000 ∧ Q (.int n) H') E) := by
  intro pins s σ H xs us Q I r h
  obtain ⟨a, rfl, ha, q⟩ := h
  rw [Vals.ref1 r]
  obtain ⟨_, _, J⟩ := ins_inst I ha
  refine Calls.call_function_entry kind_len plain_len entry_len (args_len1 _) ?_
  unfold Builtin.«len»
  refine wpAny_bind (m := oneArg "len" _) (wpAny_pure ?_)
  refine wpAny_bind (m := callSpecial? (.ref a) "__len__") (PySem.W.special_fn I.kIn J M.at_ (beq_iff_eq.mp M.fn) ?_)
  refine wpAny_mono (run_in F hr.in1 I.env0.in1 hb hx I (.cons (show L2.RelV (V.ref a) (Value.ref a) from rfl) .nil) q) (fun u s' z => ?_) fun _ _ e => e
  obtain ⟨v, H', I', rv, n, rfl, hn, qz⟩ := z
  obtain ⟨t, rfl⟩ := rv
  refine wpAny_bind (wpAny_holding (wpAny_pure ?_))
  refine wpAny_bind (wpAny_letGo ?_)
  show wpAny _ _ (if ((n : Nat) : Int) < 0 then _ else _) _ _ _
  rw [if_neg (by omega)]
  show wpAny _ _ (if ((n : Nat) : Int) ≥ 2 ^ 63 then _ else _) _ _ _
  rw [if_neg (by have : (2 : Int) ^ 63 = 9223372036854775808 := by decide
                 omega)]
  exact wpAny_bind (wpAny_mkInt (wpAny_pure ⟨_, rfl, .int n, H', I'.tok _, ⟨_, rfl⟩, qz⟩))
end
end K1
set_option linter.all false
set_option maxRecDepth 100000
set_option maxHeartbeats 1000000
namespace K1
open PySem L2
/-- the Lot with these places stands -/
def LotAt (C : Addr) (H : Hp) (a : Addr) (L : PL) : Prop := ∃ (dx t kn : Addr) (kvs : List (List Key × V)), H a = some (.ins C dx [("places", .ref t), ("_known", .ref kn)]) ∧ H t = some (.tup (refs L)) ∧ H kn = some (.dT kvs) ∧ Ats H L ∧ Oks L ∧ Asc L ∧ L.length < 60 ∧
  ∀ k : List Int, (valV kvs (k.map Sum.inl)).isSome = decide (k ∈ keys L)
theorem LotAt.mono {C : Addr} {H H' : Hp} {a : Addr} {L : PL} (h : LotAt C H a L) (s : Same H H') : LotAt C H' a L := by
  obtain ⟨dx, t, kn, kvs, h1, h2, h3, h4, r⟩ := h
  exact ⟨dx, t, kn, kvs, s _ _ h1, s _ _ h2, s _ _ h3, h4.mono s, r⟩
theorem LotAt.oks {C : Addr} {H : Hp} {a : Addr} {L : PL} (h : LotAt C H a L) : Oks L := by
  obtain ⟨_, _, _, _, _, _, _, _, r, _⟩ := h
  exact r
theorem LotAt.asc {C : Addr} {H : Hp} {a : Addr} {L : PL} (h : LotAt C H a L) : Asc L := by
  obtain ⟨_, _, _, _, _, _, _, _, _, r, _⟩ := h
  exact r
theorem LotAt.ats {C : Addr} {H : Hp} {a : Addr} {L : PL} (h : LotAt C H a L) : Ats H L := by
  obtain ⟨_, _, _, _, _, _, _, r, _⟩ := h
  exact r
theorem LotAt.few {C : Addr} {H : Hp} {a : Addr} {L : PL} (h : LotAt C H a L) : L.length < 60 := by
  obtain ⟨_, _, _, _, _, _, _, _, _, _, r, _⟩ := h
  exact r
theorem LotAt.ins {C : Addr} {H : Hp} {a : Addr} {L : PL} (h : LotAt C H a L) : Ins H a C := by
  obtain ⟨dx, t, kn, kvs, h1, _⟩ := h
  exact ⟨dx, _, h1⟩
/-- what the class Lot is -/
structure LotC (K : PySem.W.Frag) (mg : Str → Option Value) (C : Addr) : Prop where
  glob : mg "Lot" = some (.ref C)
  cls : Cls K C
  np : NoAttr K C "places"
  nk : NoAttr K C "_known"
  isC : C8.InsC K C
  sf : PySem.W.selfFirst K C = true
  nf : PySem.W.notFirst K C (.ref C) = true
def spInitQ (C BC : Addr) : Sp := fun vs H Q E => ∃ (x : Addr) (v : V) (dx : Addr) (d : PyData), vs = [.ref x, v] ∧ H x = some (.ins C dx []) ∧ Dq H v d ∧ LimL d ∧ (∀ i, badL d = some i → Raises1 BC "index" H E (.int (i : Nat))) ∧
  (badL d = none → ∀ (L : PL) (H' : Hp), (∀ b o, b ≠ x → H b = some o → H' b = some o) → LotAt C H' x L → L.length ≤ (keysD d).length → (∀ k, k ∈ keys L ↔ k ∈ keysD d) → Q .non H')
def keyT (p : Addr × List Int) : List Key := p.2.map Sum.inl
theorem key_kV (ns : List Int) : (ns.map (Sum.inl : Int → Key)).map kV = ns.map V.int := by
  rw [List.map_map]
  rfl
theorem inl_inj {ns ms : List Int} (h : ns.map (Sum.inl : Int → Key) = ms.map Sum.inl) : ns = ms := by
  induction ns generalizing ms with
  | nil => cases ms with
    | nil => rfl
    | cons _ _ => cases h
  | cons n r ih => cases ms with
    | nil => cases h
    | cons m q =>
      rw [List.map_cons, List.map_cons] at h
      injection h with h1 h2
      injection h1 with h3
      rw [h3, ih h2]
section
variable {P : Program} {w : World} {K : PySem.W.Frag} {mg : Str → Option Value} {base : Heap} {C BC : Addr}
abbrev NIn : List Str := ["self", "places", "place"]
theorem scIn : FnScope NIn ["self", "places"] (defScope cLotInit) := ⟨rfl, rfl, rfl, by decide +kernel, rfl, by decide +kernel, by decide +kernel⟩
theorem ok_initQ {f fA : Addr} {fd fdA : FuncData} (F : Fun K "__init__" "Lot.__init__" cLotInit f fd) (c : LotC K mg C) (GA : FnOk P w K mg base (L2.CX P w) 3 fA fdA ["things"] (spAscL BC)) (gA : mg "ascending_places" = some (.ref fA)) (kA : PySem.W.keepIn K (.ref fA) = true) (bA : Binds K fdA ["things"] []) :
    FnOk P w K mg base (L2.CX P w) 4 f fd ["self", "places"] (spInitQ C BC) := by
  refine F.okX scIn (fun vs H Q E h => ?_) (fun cdv A outer s H vs Q E hr h => ?_)
  · obtain ⟨x, v, dx, d, rfl, _⟩ := h
    rfl
  · obtain ⟨x, v, dx, d, rfl, hx, hv, lim, kR, k⟩ := h
    have pk := passes_call (E := E) (takes_of (X := cxOf (L2.CX P w) P w K mg base NIn "Lot.__init__" (defScope cLotInit) f cdv A outer s H E) rfl rfl rfl rfl) fun _ _ _ _ h => h
    refine ⟨_, pss_cons (ps_fld (pv 0) (pe_call GA hr (by rfl) gA kA bA .nil pk (pa_cons (pv 1) pa_nil)) rfl)
      (pss_one (ps_fld (pv 0) (pe_dcT (own := [("place", 2)]) (g := gName 2) (tt := tYes) rfl hr.units0 scIn.nd (pi_tup (pe_fld (pv 0) rfl)) (blkOk_by (N := NIn) (sc := defScope cLotInit) (by decide +kernel)) (fun _ _ _ _ _ => pg_name (i := 2) scIn.nd rfl (Or.inl rfl)) (fun _ _ _ _ _ => pts_nil)
        (fun _ _ _ _ _ => pv 2) (fun _ _ _ _ _ => pe_bl)) rfl)), ?_⟩
    refine ⟨_, rfl, v, d, rfl, hv, lim, kR, fun b0 t L' H1 s1 nt pt => ?_⟩
    have ht := pt.at_
    have asc := pt.asc
    have few0 := pt.few
    have lk : (keysD d).length < 60 := by
      unfold keysD
      split
      · rename_i ds e
        rw [List.length_map]
        exact lim.few ds e
      · decide
    have hL : Ats H1 L' := pt.tu
    refine ⟨_, rfl, x, C, dx, [], rfl, s1 _ _ hx, c.cls, c.np, by decide, ?_⟩
    have hx1 := s1 _ _ hx
    have nxt : t ≠ x := fun e => by rw [e, hx] at nt; cases nt
    have b1 : But x H1 (upd H1 x (.ins C dx (putF "places" (.ref t) []))) := fun b o n hb => by rw [upd_ne n]; exact hb
    have t1 : upd H1 x (.ins C dx (putF "places" (.ref t) [])) t = some (.tup (refs L')) := by rw [upd_ne nxt]; exact ht
    generalize hH2 : upd H1 x (.ins C dx (putF "places" (.ref t) [])) = H2 at b1 t1 ⊢
    have x2 : H2 x = some (.ins C dx (putF "places" (.ref t) [])) := by rw [← hH2]; exact upd_same
    have few : L'.length < 60 := Nat.lt_of_le_of_lt few0 lk
    refine ⟨_, rfl, x, C, dx, _, _, rfl, x2, c.cls, c.np, rfl, t, rfl, ⟨_, SqT.of t1⟩, fun D nD => ?_⟩
    have nxD : D ≠ x := fun e => by rw [e, x2] at nD; cases nD
    refine dcT_tup (xs := refs L') (fun i H9 => ∃ kvs, H9 D = some (.dT kvs) ∧ kvs.length ≤ i ∧ (∀ k : List Int, (valV kvs (k.map Sum.inl)).isSome = decide (k ∈ keys (L'.take i))) ∧ ∀ b o, b ≠ D → H2 b = some o → H9 b = some o)
      ⟨[], upd_same, Nat.zero_le _, fun k => by simp [keys, valV], fun b o n hb => by rw [upd_ne n]; exact hb⟩ (fun i H9 _ ⟨kvs, _, _, _, q⟩ => SqT.of (q t _ (fun e => by rw [e, nD] at t1; cases t1) t1)) ?_ ?_
    · rintro i y H9 hy ⟨kvs, h9, kl, kk, q⟩
      obtain ⟨p, hp, rfl⟩ := refs_get hy
      have mem := List.mem_of_getElem? hp
      have li : i < L'.length := (List.getElem?_eq_some_iff.mp hp).1
      have pa : H9 p.1 = some (.tup (p.2.map V.int)) := by
        have z := hL p mem
        refine q p.1 _ (fun e => ?_) (b1 p.1 _ (fun e => by rw [e, hx1] at z; cases z) z)
        have w := b1 p.1 _ (fun e => by rw [e, hx1] at z; cases z) z
        rw [e, nD] at w
        cases w
      refine ⟨rfl, _, rfl, ?_⟩
      refine ⟨kvs, keyT p, p.1, rfl, by rw [pa]; unfold keyT; rw [key_kV], h9, small1000 (by omega), _, upd_same, ?_, fun k => ?_, fun b o n hb => by rw [upd_ne n]; exact q b o n hb⟩
      · exact Nat.le_trans (length_putK kvs _ _) (Nat.succ_le_succ kl)
      · rw [valV_put, List.take_add_one, hp]
        have e : keys (L'.take i ++ (some p).toList) = keys (L'.take i) ++ [p.2] := by
          unfold keys
          rw [List.map_append]
          rfl
        rw [e]
        by_cases z : k = p.2
        · rw [if_pos (by rw [z]; rfl)]
          simp [z]
        · have hne : ¬ (k.map (Sum.inl : Int → Key)) = keyT p := fun w => z (inl_inj w)
          rw [if_neg hne, kk k]
          simp [z]
    · rintro H9 ⟨kvs, h9, _, kk, q⟩
      rw [refs_len, List.take_of_length_le (Nat.le_refl _)] at kk
      have x9 := q x _ (Ne.symm nxD) x2
      refine ⟨_, rfl, x, C, dx, _, rfl, x9, c.cls, c.nk, (by show 1 < 1000; decide), ?_⟩
      have q2 : ∀ b o, b ≠ x → b ≠ D → H2 b = some o → upd H9 x (.ins C dx (putF "_known" (.ref D) (putF "places" (.ref t) []))) b = some o := fun b o n n' hb => by
        rw [upd_ne n]
        exact q b o n' hb
      have nD0 : ∀ b o, b ≠ x → H1 b = some o → b ≠ D := fun b o n hb e => by
        have z := b1 b o n hb
        rw [e, nD] at z
        cases z
      refine k b0 L' _ (fun b o n hb => q2 b o n (nD0 b o n (s1 _ _ hb)) (b1 b o n (s1 _ _ hb))) ⟨dx, t, D, kvs, upd_same, q2 t _ nxt (fun e => by rw [e, nD] at t1; cases t1) t1, by rw [upd_ne nxD]; exact h9, ?_, pt.ok, asc, few, kk⟩ few0 pt.mem
      intro p hp
      have z := hL p hp
      have nx : p.1 ≠ x := fun e => by rw [e, hx1] at z; cases z
      exact q2 p.1 _ nx (nD0 _ _ nx z) (b1 _ _ nx z)
end
end K1
set_option linter.all false
set_option maxRecDepth 100000
set_option maxHeartbeats 1000000
/-! x == y, x of a built-in kind, y an instance whose class defines __eq__ -/
namespace K1
open PySem PySem.Spec PyProof.Rows L2
/-- a thing that is no instance: its type -/
inductive Plain (H : Hp) : V → String → Prop
  | non : Plain H .non "NoneType"
  | int (i : Int) : Plain H (.int i) "int"
  | lst {a : Addr} {xs : List V} : H a = some (.lst xs) → Plain H (.ref a) "list"
  | tup {a : Addr} {xs : List V} : H a = some (.tup xs) → Plain H (.ref a) "tuple"
theorem Plain.mono {H H' : Hp} {v : V} {t : String} (h : Plain H v t) (s : Same H H') : Plain H' v t := by
  cases h with
  | non => exact .non
  | int i => exact .int i
  | lst e => exact .lst (s _ _ e)
  | tup e => exact .tup (s _ _ e)
theorem Plain.ty {K : PySem.W.Frag} {H : Hp} {v : V} {t : String} (h : Plain H v t) : TyX K H v (.type t) := by
  cases h with
  | non => exact .base .non
  | int i => exact .base (.int i)
  | lst e => exact .base (.lst e)
  | tup e => exact .base (.tup e)
/-- the class at C beside the built-in kinds -/
structure AloneC (K : PySem.W.Frag) (C : Addr) : Prop where
  kit : ∀ t ∈ ["NoneType", "int", "list", "tuple"], PySem.W.kitOne K (.type t) (.ref C) = some false ∧ PySem.W.notFirst K C (.type t) = true
  sub : ∀ t ∈ ["NoneType", "int", "list", "tuple"], PySem.W.subIn K (.ref C) (.type t) = some false
theorem Plain.in4 {H : Hp} {v : V} {t : String} (h : Plain H v t) : t ∈ ["NoneType", "int", "list", "tuple"] := by
  cases h <;> decide
section
variable {X : Cx} {CX : CXT} {E : XK} {C g : Addr} {fd : FuncData} {ps : List Str} {sp : Sp} {k : Nat}
theorem plain_looks {pins : List (Addr × Obj)} {σ : L2.St} {H : Hp} {s : Shared} {v : V} {u : Value} {t : String} (I : Inv X pins σ H s) (h : Plain H v t) (r : RelV v u) : PySem.W.Looks (model X.prog X.w) s.heap (typeOf u) (.type t) := by
  cases h with
  | non =>
    cases r
    exact PySem.W.Looks.of_pure rfl
  | int i =>
    obtain ⟨tk, rfl⟩ := r
    exact PySem.W.Looks.of_pure rfl
  | lst e =>
    cases r
    obtain ⟨_, its, n, rv, g⟩ := (show ObjOk X.prog X.w H s.heap _ (.lst _) from I.hok _ _ e)
    exact (PySem.W.Looks.ld g).andThen .now
  | tup e =>
    cases r
    obtain ⟨its, rv, ⟨o, ho, hc, n, hd⟩, _⟩ := I.tuple (SqT.of e)
    exact hc ▸ (PySem.W.Looks.ld ho).andThen .now
theorem op_cmpP {op : CmpOp} (hop : ∀ a b, compareOp op a b = richCompare op a b) (M : Meth X.K C (cmpInfo op).2.1 g) (al : AloneC X.K C) (F : FnOk X.prog X.w X.K X.mg X.base CX k g fd ps sp) (hr : Room k X.A) (hb : Binds X.K fd ps []) (hx : Passes CX X E) :
    OpR X (compareOp op) (fun x y H Q => ∃ a t, x = .ref a ∧ Ins H a C ∧ Plain H y t ∧ sp [x, y] H Q E) := by
  intro pins s σ H x y v u Q I rx ry h
  obtain ⟨a, t, rfl, ha, hy, q⟩ := h
  cases (show v = Value.ref a from rx)
  obtain ⟨_, _, J⟩ := ins_inst I ha
  obtain ⟨m, fr⟩ := I.fr
  rw [hop]
  refine PySem.W.cmp_K (op := op) (tb := .type t) hr.units0 fr I.ok.mod.kin J (plain_looks I hy ry) (al.kit t hy.in4).2 M.at_ M.fn ?_
  refine thn (run_fn (us := [.ref a, u]) (vs := [.ref a, y]) F hr hb .nil hx I (.cons rfl (.cons ry .nil)) (by rw [List.append_nil]; exact q)) fun r s' z => ?_
  obtain ⟨z', H', I', rz, qz⟩ := z
  exact SlX.cmpback rz ⟨z', H', I', rz, qz⟩
theorem op_cmpQ {op : CmpOp} (hop : ∀ a b, compareOp op a b = richCompare op a b) (M : Meth X.K C (cmpInfo op).2.1 g) (nf : PySem.W.notFirst X.K C (.ref C) = true) (al : AloneC X.K C) (F : FnOk X.prog X.w X.K X.mg X.base CX k g fd ps sp) (hr : Room k X.A) (hb : Binds X.K fd ps []) (hx : Passes CX X E) :
    OpR X (compareOp op) (fun x y H Q => ∃ a, x = .ref a ∧ Ins H a C ∧ ((∃ b, y = .ref b ∧ Ins H b C) ∨ ∃ t, Plain H y t) ∧ sp [x, y] H Q E) := by
  intro pins s σ H x y v u Q I rx ry h
  obtain ⟨a, rfl, ha, hy, q⟩ := h
  rcases hy with ⟨b, rfl, hb'⟩ | ⟨t, hy⟩
  · exact op_cmp hop M nf F hr hb hx pins s σ H _ _ v u Q I rx ry ⟨a, b, rfl, rfl, ha, hb', q⟩
  · exact op_cmpP hop M al F hr hb hx pins s σ H _ _ v u Q I rx ry ⟨a, t, rfl, ha, hy, q⟩
/-! the built-in kinds decline -/
theorem isInst_ref {M : Model} {A : Around} {E : Value → Shared → Prop} {s : Shared} {b : Addr} {o : Obj} {T : Value} {r : Bool} {Q : Bool → Shared → Prop} (ho : s.heap.get? b = some o) (l : PySem.W.Looks M s.heap (isSubtype o.cls T) r) (q : Q r s) : wpAny M A (isInstance (.ref b) T) Q E s := by
  unfold isInstance
  exact wpAny_bind (PySem.W.Looks.here (show PySem.W.Looks M s.heap (typeOf (.ref b)) o.cls from (PySem.W.Looks.ld ho).andThen .now) (l.here q))
theorem list_no {prog : Program} {w : World} {A : Around} {E : Value → Shared → Prop} {s : Shared} {l b : Addr} {o : Obj} {Q : Value → Shared → Prop} (hl : s.TypeIs (.ref l) "list") (ho : s.heap.get? b = some o) (lk : PySem.W.Looks (model prog w) s.heap (isSubtype o.cls (.type "list")) false) (q : Q .notImplemented s) : wpAny (model prog w) A (call (.builtin "list.__eq__") [.ref l, .ref b]) Q E s := by
  refine wpAny_call_entry F.slot_list_eq hl F.entry_list_eq ?_ (F.args_list_eq_2 _ _)
  obtain ⟨hp, g, d, tk, os⟩ := s
  wp_walk using isInst_ref ho lk
  exact ⟨_, rfl, q⟩
theorem tuple_no {prog : Program} {w : World} {A : Around} {E : Value → Shared → Prop} {s : Shared} {l b : Addr} {o : Obj} {Q : Value → Shared → Prop} (hl : s.TypeIs (.ref l) "tuple") (ho : s.heap.get? b = some o) (lk : PySem.W.Looks (model prog w) s.heap (isSubtype o.cls (.type "tuple")) false) (q : Q .notImplemented s) : wpAny (model prog w) A (call (.builtin "tuple.__eq__") [.ref l, .ref b]) Q E s := by
  refine wpAny_call_entry F.slot_tuple_eq hl F.entry_tuple_eq ?_ (F.args_tuple_eq_2 _ _)
  obtain ⟨hp, g, d, tk, os⟩ := s
  wp_walk using isInst_ref ho lk
  exact ⟨_, rfl, q⟩
theorem int_no {prog : Program} {w : World} {A : Around} {E : Value → Shared → Prop} {s : Shared} {i : Int} {t : Tok} {b : Addr} {o : Obj} {Q : Value → Shared → Prop} (ho : s.heap.get? b = some o) (hd : o.data = .plain) (q : Q .notImplemented s) : wpAny (model prog w) A (call (.builtin "int.__eq__") [.int i t, .ref b]) Q E s := by
  refine wpAny_call_entry F.slot_int_eq (typeIs_int s i t) F.entry_int_eq ?_ (F.args_int_eq_2 _ _)
  obtain ⟨cls, dict, data, sl⟩ := o
  cases hd
  obtain ⟨hp, g, d, tk, os⟩ := s
  wp_walk using wpAny_load ho
  exact ⟨_, rfl, q⟩
theorem rev_K {prog : Program} {w : World} {A : Around} {E : Value → Shared → Prop} {s : Shared} {K : PySem.W.Frag} {u : Value} {t id : String} {a C f : Addr} {ox : Obj} {od : Option Obj} {Q : Value → Shared → Prop} (ht : s.TypeIs u t) (hu : A.units < cLine) (kin : K.In s.heap) (J : PySem.W.InstAt s.heap a ox C od)
    (sub : PySem.W.subIn K (.ref C) (.type t) = some false) (h1 : Slot t "__eq__" id) (no : ∀ Q' : Value → Shared → Prop, Q' .notImplemented s → wpAny (model prog w) A (call (.builtin id) [u, .ref a]) Q' E s)
    (hs : PySem.W.findIn K (.ref C) "__eq__" = some (some (.ref f))) (hf : PySem.W.isFn K (.ref f) = true) (h : wpAny (model prog w) A (call (.ref f) [.ref a, u]) (PySem.W.CmpBack Q) E s) : wpAny (model prog w) A (richCompare .Eq u (.ref a)) Q E s := by
  have one : wpAny (model prog w) A (tryCompare (.ref a) "__eq__" u) (fun r s' => ∃ v, r = some v ∧ Q v s') E s := by
    unfold tryCompare
    refine wpAny_bind (PySem.W.ifBound_K kin J hs hf (wpAny_mono h (fun v s' hv => ?_) fun _ _ e => e))
    cases v <;> first | exact hv.elim | exact wpAny_pure ⟨_, rfl, hv⟩
  simp only [richCompare, ht.oneThing_none]
  refine wpAny_holding (wpAny_bind (wpAny_cRoomFor hu ?_))
  refine wpAny_bind (wpAny_typeOf ht (wpAny_bind (J.type.here ?_)))
  have ne : (Value.type t != Value.ref C) = true := by
    rw [bne_iff_ne]
    exact fun e => by cases e
  rw [if_pos ne]
  refine wpAny_bind ((PySem.W.looks_subIn kin sub).here ?_)
  simp only [Bool.false_eq_true, if_false, Bool.not_false, if_true]
  refine wpAny_bind (wpAny_tryCompare_declines ht h1 (no _ ⟨rfl, ?_⟩))
  refine wpAny_bind (wpAny_mono one (fun r s' z => ?_) fun _ _ e => e)
  obtain ⟨v, rfl, hq⟩ := z
  exact wpAny_pure hq
/-- x == y -/
theorem op_rev (M : Meth X.K C "__eq__" g) (al : AloneC X.K C) (F : FnOk X.prog X.w X.K X.mg X.base CX k g fd ps sp) (hr : Room k X.A) (hb : Binds X.K fd ps []) (hx : Passes CX X E) :
    OpR X (compareOp .Eq) (fun x y H Q => ∃ t a, y = .ref a ∧ Ins H a C ∧ Plain H x t ∧ sp [y, x] H Q E) := by
  intro pins s σ H x y u v Q I rx ry h
  obtain ⟨t, a, rfl, ha, hy, q⟩ := h
  cases (show v = Value.ref a from ry)
  obtain ⟨dx, od, J⟩ := ins_inst I ha
  have kin : X.K.In s.heap := I.kIn
  have sub : ∀ T ∈ ["NoneType", "int", "list", "tuple"], PySem.W.Looks (model X.prog X.w) s.heap (isSubtype (PySem.W.instObj C dx).cls (.type T)) false := fun T hT => PySem.W.looks_subIn kin (al.sub T hT)
  show wpAny _ _ (richCompare .Eq u (.ref a)) _ _ s
  have fin : wpAny (model X.prog X.w) X.A (call (.ref g) [.ref a, u]) (PySem.W.CmpBack (EP X pins σ Q)) X.xe s := by
    refine thn (run_fn (us := [.ref a, u]) (vs := [.ref a, x]) F hr hb .nil hx I (.cons rfl (.cons rx .nil)) (by rw [List.append_nil]; exact q)) fun r s' z => ?_
    obtain ⟨z', H', I', rz, qz⟩ := z
    exact SlX.cmpback rz ⟨z', H', I', rz, qz⟩
  cases hy with
  | non =>
    cases rx
    exact rev_K (t := "NoneType") rfl hr.units0 kin J (al.sub _ (by decide)) PySem.F.slot_NoneType_eq (fun _ hq => call_gives PySem.F.slot_NoneType_eq rfl PySem.F.entry_NoneType_eq (PySem.F.args_NoneType_eq_2 _ _) (PySem.SeqAt.NoneType___eq___none_ref_0 a) hq) M.at_ M.fn fin
  | int i =>
    obtain ⟨tk, rfl⟩ := rx
    exact rev_K (t := "int") (typeIs_int s i tk) hr.units0 kin J (al.sub _ (by decide)) PySem.F.slot_int_eq (fun _ hq => int_no J.at_ rfl hq) M.at_ M.fn fin
  | lst e =>
    cases rx
    obtain ⟨_, its, n, rv, hg⟩ := (show ObjOk X.prog X.w H s.heap _ (.lst _) from I.hok _ _ e)
    have ty : s.TypeIs (.ref _) "list" := ⟨_, hg, rfl⟩
    exact rev_K (t := "list") ty hr.units0 kin J (al.sub _ (by decide)) PySem.F.slot_list_eq (fun _ hq => list_no ty J.at_ (sub _ (by decide)) hq) M.at_ M.fn fin
  | tup e =>
    cases rx
    obtain ⟨its, rv, ⟨o, ho, hc, n, hd⟩, _⟩ := I.tuple (SqT.of e)
    have ty : s.TypeIs (.ref _) "tuple" := ⟨_, ho, hc⟩
    exact rev_K (t := "tuple") ty hr.units0 kin J (al.sub _ (by decide)) PySem.F.slot_tuple_eq (fun _ hq => tuple_no ty J.at_ (sub _ (by decide)) hq) M.at_ M.fn fin
end
end K1
set_option linter.all false
set_option maxRecDepth 100000
set_option maxHeartbeats 1000000
/-! None in a dict whose keys are tuples -/
namespace K1
open PySem PySem.Spec PyProof.Rows L2
section
variable {prog : Program} {w : World} {K : Type} [DecidableEq K] {knd : HeapKind prog w K} {A : Around} {E : Value → Shared → Prop} {s : Shared} {d : Addr} {xs : List (K × Addr × Value)}
theorem tells_none {stored : List Value} {Q : Bool → Shared → Prop} (st : ∀ v ∈ stored, ∃ k b, v = .ref b ∧ knd.is s.heap k b) (q : Q false s) : wpAny (model prog w) A (tableMayTell .none stored) Q E s := by
  unfold tableMayTell
  split
  · exact wpAny_pure q
  · refine wpAny_bind (m := eqIsQuiet 8 Value.none) ?_
    show wpAny _ _ (pure true) _ _ _
    refine wpAny_pure ?_
    rw [if_neg (by simp)]
    refine wpAny_bind ?_
    refine wpAny_forIn_list _ (fun rest r t => t = s ∧ r = (none, ()) ∧ ∀ v ∈ rest, ∃ k b, v = .ref b ∧ knd.is s.heap k b) _ ?_ ?_ _ _ ⟨rfl, rfl, st⟩
    · rintro x rest r t ⟨rfl, rfl, all⟩
      obtain ⟨k, b, rfl, kb⟩ := all x (.head _)
      refine wpAny_bind (knd.quiet kb ?_)
      rw [if_neg (by simp)]
      exact wpAny_pure ⟨rfl, rfl, fun v hv => all v (.tail _ hv)⟩
    · rintro r t ⟨rfl, rfl, _⟩
      exact wpAny_pure q
theorem find_none {o : Obj} {es : Array DictEntry} {ep : Nat} {hs : Int} {Q : Option Nat → Shared → Prop} (ho : s.heap.get? d = some o) (hd : o.data = .dict es ep) (he : es.toList = xs.map (entryOfKey knd))
    (ki : ∀ x ∈ xs, knd.is s.heap x.1 x.2.1) (ne : ∀ x ∈ xs, SeqAt.EqAt A s (.ref x.2.1) .none false) (q : Q none s) : wpAny (model prog w) A (dictFind d .none hs) Q E s := by
  have mem : ∀ e ∈ es, ∃ x ∈ xs, e = entryOfKey knd x := fun e hin => by
    have z : e ∈ xs.map (entryOfKey knd) := by rw [← he]; exact Array.mem_toList_iff.mpr hin
    obtain ⟨x, hx, e'⟩ := List.mem_map.mp z
    exact ⟨x, hx, e'.symm⟩
  have st : ∀ v ∈ (placesWithHash es.size (fun i => es[i]?.map (·.hash)) hs).filterMap (fun i => es[i]?.map (·.key)), ∃ k b, v = .ref b ∧ knd.is s.heap k b := fun v hv => by
    obtain ⟨i, _, hi⟩ := List.mem_filterMap.mp hv
    obtain ⟨e, hei, rfl⟩ := Option.map_eq_some_iff.mp hi
    obtain ⟨x, hx, rfl⟩ := mem e (Array.mem_of_getElem? hei)
    exact ⟨x.1, x.2.1, rfl, ki x hx⟩
  unfold dictFind
  refine wpAny_holding ?_
  refine wpAny_bind (wpAny_dictEntries ho hd ?_)
  dsimp only
  generalize hst : (placesWithHash es.size (fun i => es[i]?.map (·.hash)) hs).filterMap (fun i => es[i]?.map (·.key)) = stored at st ⊢
  by_cases all : (Value.none :: stored).all carriedByValue = true
  · -- nothing of that hash
    rw [if_pos all]
    have no : placesWithHash es.size (fun i => es[i]?.map (·.hash)) hs = [] := by
      cases h : placesWithHash es.size (fun i => es[i]?.map (·.hash)) hs with
      | nil => rfl
      | cons i r =>
        exfalso
        have mi : i ∈ placesWithHash es.size (fun i => es[i]?.map (·.hash)) hs := by rw [h]; exact .head _
        have li : i < es.size := List.mem_range.mp (List.mem_filter.mp mi).1
        obtain ⟨x, hx, e'⟩ := mem es[i] (Array.getElem_mem li)
        have mv : (Value.ref x.2.1) ∈ stored := by
          rw [← hst]
          refine List.mem_filterMap.mpr ⟨i, mi, ?_⟩
          rw [Array.getElem?_eq_getElem li, e']
          rfl
        have := List.all_eq_true.mp all _ (.tail _ mv)
        cases this
    rw [no]
    unfold dictWalkPlain
    refine wpAny_bind ?_
    refine wpAny_forIn_list _ (fun rest r t => t = s ∧ r = (none, ()) ∧ rest = []) _ ?_ ?_ _ _ ⟨rfl, rfl, rfl⟩
    · rintro x rest r t ⟨_, _, e⟩
      cases e
    · rintro r t ⟨rfl, rfl, _⟩
      first
        | exact wpAny_pure q
        | exact wpAny_pure (wpAny_pure q)
  · rw [if_neg all]
    have nk : (stored == [Value.none]) = false := by
      cases h : (stored == [Value.none]) with
      | false => rfl
      | true =>
        have e := beq_iff_eq.mp h
        obtain ⟨k, b, eb, _⟩ := st .none (by rw [e]; exact .head _)
        cases eb
    rw [if_neg (by rw [nk]; exact Bool.false_ne_true)]
    refine wpAny_bind (tells_none st ?_)
    rw [if_neg (by simp)]
    refine wpAny_bind ?_
    refine wpAny_forIn_list _ (fun rest r t => t = s ∧ r = (none, none)) _ ?_ ?_ _ _ ⟨rfl, rfl⟩
    · rintro i rest r t ⟨rfl, rfl⟩
      cases hei : es[i]? with
      | none => exact wpAny_pure ⟨rfl, rfl⟩
      | some e =>
        obtain ⟨x, hx, rfl⟩ := mem e (Array.mem_of_getElem? hei)
        dsimp only
        split
        · refine wpAny_bind (wpAny_dictEpoch ho hd (wpAny_bind (ne x hx _ _ _ _ (wpAny_bind (wpAny_dictEpoch ho hd ?_)))))
          rw [if_neg (by simp)]
          simp only [Bool.false_eq_true, if_false]
          refine wpAny_bind (wpAny_rule ?_)
          first
            | exact wpAny_pure ⟨rfl, rfl⟩
            | (rw [if_neg (by simp)]; exact wpAny_pure ⟨rfl, rfl⟩)
            | exact wpAny_bind (wpAny_pure (wpAny_pure ⟨rfl, rfl⟩))
        · exact wpAny_pure ⟨rfl, rfl⟩
    · rintro r t ⟨rfl, rfl⟩
      exact wpAny_pure q
theorem get_none {Q : Option Value → Shared → Prop} (hm : s.heap.DictOfH knd d xs) (ne : ∀ t : Nat, ∀ x ∈ xs, SeqAt.EqAt A { s with toks := t } (.ref x.2.1) .none false) (q : ∀ t, Q none { s with toks := t }) : wpAny (model prog w) A (dictGet d .none) Q E s := by
  obtain ⟨o, es, ep, ho, _, hd, he, ki, _⟩ := hm
  unfold dictGet
  refine wpAny_holding ?_
  refine wpAny_bind (m := pyHash Value.none) ?_
  refine PySem.W.pyHash_slot (T := "NoneType") rfl PySem.F.slot_NoneType_hash PySem.F.entry_NoneType_hash
    (PySem.F.args_NoneType_hash_1 _) (beq_builtin_none _) (.inl rfl) ?_
  refine wpAny_bind (wpAny_pure (wpAny_bind (wpAny_mkInt (wpAny_pure ⟨_, _, rfl, ?_⟩))))
  refine wpAny_bind (find_none (knd := knd) (xs := xs) ho hd he ki (ne _) ?_)
  exact wpAny_pure (q _)
theorem in_none {Q : Value → Shared → Prop} (hsm : (d == sysModules) = false) (hm : s.heap.DictOfH knd d xs) (ne : ∀ t : Nat, ∀ x ∈ xs, SeqAt.EqAt A.in1 { s with toks := t } (.ref x.2.1) .none false)
    (q : ∀ t, Q (.bool false) { s with toks := t }) : wpAny (model prog w) A (compareOp .In .none (.ref d)) Q E s := by
  show wpAny _ _ (do return .bool (← contains (.ref d) .none)) Q E s
  refine wpAny_bind ?_
  unfold contains
  refine wpAny_holding ?_
  refine wpAny_bind (wpAny_specialOf hm.typeIs slot_dict_contains.lookup ?_)
  show wpAny _ _ (if (some (Value.builtin "dict.__contains__") == some Value.none) = true then _ else _) _ E s
  rw [if_neg (show ¬ (some (Value.builtin "dict.__contains__") == some Value.none) = true by rw [beq_builtin_none]; exact Bool.false_ne_true)]
  refine wpAny_bind (wpAny_callSpecialUnlessNone?_slot (name := Str.ofString "__contains__") hm.typeIs
    slot_dict_contains (wpAny_call_entry slot_dict_contains hm.typeIs entry_dict_contains ?_ (args_dict_contains _ _)))
  show wpAny _ _ (dictGet d .none >>= _) _ _ s
  refine wpAny_bind (get_none hm ne fun t => ?_)
  show wpAny _ _ (Builtin.Dict.pendingKey? d .none >>= _) _ _ _
  exact wpAny_bind (wpAny_pendingKey_other hsm (wpAny_pure ⟨_, rfl, wpAny_truthy_bool (wpAny_pure (q _))⟩))
end
section
variable {X : Cx} {i o : Expr} {ty td : TE}
/-- y in d; y may be None where the keys are tuples -/
def tDInN (ty td : TE) : TE := fun σ H Q => ty σ H fun y H1 => td σ H1 fun x H2 => ∃ a, x = .ref a ∧ ((∃ ov, DGet H2 a y ov ∧ Q (.bl ov.isSome) H2) ∨ (y = .non ∧ (∃ kvs, H2 a = some (.dT kvs)) ∧ Q (.bl false) H2))
theorem pc_dinN (hu : X.A.units + 1 < cLine) (hi : PE X i ty) (ho : PE X o td) : PC X .In i o (tDInN ty td) := by
  constructor
  intro pins s σ H Q I h
  refine thn (hi.run pins s σ H _ I h) fun iv s1 ⟨y, H1, I1, ry, q1⟩ => ?_
  refine thn (ho.run pins s1 σ H1 _ I1 q1) fun u s2 ⟨x, H2, I2, rx, a, ex, q2⟩ => ?_
  subst ex
  obtain rfl : u = Value.ref a := rx
  rcases q2 with ⟨ov, g, q2⟩ | ⟨rfl, ⟨kvs, hd⟩, q2⟩
  · exact d_in hu I2 g ry fun s3 I3 => ⟨.bl ov.isSome, H2, I3, rfl, q2⟩
  · cases ry
    obtain ⟨_, nsm, xs, rel, dd⟩ := dt_of I2.hok hd
    refine in_none nsm dd (fun t x hx => ?_) fun t => ⟨.bl false, H2, I2.tok _, rfl, q2⟩
    obtain ⟨_, _, _, _, _, _, _, ki, _⟩ := dd
    obtain ⟨o', its, n, h1, h2, h3, _⟩ := ki x hx
    exact SeqAt.EqAt.tuple_none (items := its) ⟨o', h1, h2, n, h3⟩ hu
end
end K1
set_option linter.all false
set_option maxRecDepth 100000
set_option maxHeartbeats 1000000
namespace K1
open PySem L2
/-! ### places as data -/
def dT (ns : List Int) : PyData := .tuple (ns.map .int)
theorem dp_ints {K : PySem.W.Frag} {H : Hp} : ∀ ns : List Int, DpAll K H (ns.map V.int) (ns.map PyData.int)
  | [] => .nil
  | n :: r => .cons (.int n) (dp_ints r)
theorem dp_T {K : PySem.W.Frag} {H : Hp} {b : Addr} {ns : List Int} (h : H b = some (.tup (ns.map V.int))) : Dp K H (.ref b) (dT ns) := .tup (SqT.of h) (dp_ints ns)
theorem dp_refs {K : PySem.W.Frag} {H : Hp} : ∀ {L : PL}, Ats H L → DpAll K H (refs L) ((keys L).map dT)
  | [], _ => .nil
  | _ :: _, h => .cons (dp_T (h _ (.head _))) (dp_refs fun q hq => h q (.tail _ hq))
theorem okd_int (n : Int) : Okd (.int n) := ⟨by simp only [PyData.canLay0], by simp only [PyData.depth]; omega⟩
theorem okd_T (ns : List Int) : PyData.canLay0 (dT ns) = true ∧ PyData.depth (dT ns) ≤ 3 := by
  have z : ∀ ns : List Int, PyData.canLayAll0 (ns.map PyData.int) = true ∧ PyData.depthAll (ns.map PyData.int) ≤ 2 := by
    intro ns
    induction ns with
    | nil => exact ⟨by simp only [List.map_nil, PyData.canLayAll0], by simp only [List.map_nil, PyData.depthAll]; omega⟩
    | cons n r ih => exact ⟨by simp only [List.map_cons, PyData.canLayAll0, PyData.canLay0, ih.1, Bool.and_true], by simp only [List.map_cons, PyData.depthAll, PyData.depth]; have := ih.2; omega⟩
  obtain ⟨z1, z2⟩ := z ns
  unfold dT
  exact ⟨by simp only [PyData.canLay0, z1], by simp only [PyData.depth]; omega⟩
theorem okd_dT (ns : List Int) : Okd (dT ns) := ⟨(okd_T ns).1, Nat.le_trans (okd_T ns).2 (by decide)⟩
theorem sh_dT (ns : List Int) : SeqAt.shaped (dT ns) = true := by
  unfold SeqAt.shaped
  rw [(okd_T ns).1, decide_eq_true (Nat.le_trans (okd_T ns).2 (by decide))]
  rfl
theorem sh_tup {ds : List PyData} (h : ∀ d ∈ ds, Okd d) : SeqAt.shaped (.tuple ds) = true := by
  obtain ⟨h1, h2⟩ := okd_all h
  unfold SeqAt.shaped
  rw [Bool.and_eq_true]
  refine ⟨by simp only [PyData.canLay0, h1], decide_eq_true ?_⟩
  simp only [PyData.depth]
  omega
theorem okd_keys (ks : List (List Int)) : ∀ d ∈ ks.map dT, Okd d := fun d hd => by
  obtain ⟨k, _, rfl⟩ := List.mem_map.mp hd
  exact okd_dT k
theorem eqv_ints : ∀ ns ms : List Int, PyData.eqvAll (ns.map PyData.int) (ms.map PyData.int) = decide (ns = ms)
  | [], [] => by simp [PyData.eqvAll]
  | [], _ :: _ => by simp [PyData.eqvAll]
  | _ :: _, [] => by simp [PyData.eqvAll]
  | n :: r, m :: q => by
    have ih := eqv_ints r q
    simp only [List.map_cons, PyData.eqvAll, PyData.eqv, ih]
    by_cases e : n = m <;> by_cases e2 : r = q <;> simp [e, e2]
theorem eqv_T (ns ms : List Int) : PyData.eqv (dT ns) (dT ms) = decide (ns = ms) := by
  unfold dT
  simp only [PyData.eqv]
  exact eqv_ints ns ms
theorem eqv_keys : ∀ ks ls : List (List Int), PyData.eqvAll (ks.map dT) (ls.map dT) = decide (ks = ls)
  | [], [] => by simp [PyData.eqvAll]
  | [], _ :: _ => by simp [PyData.eqvAll]
  | _ :: _, [] => by simp [PyData.eqvAll]
  | n :: r, m :: q => by
    have ih := eqv_keys r q
    simp only [List.map_cons, PyData.eqvAll, eqv_T, ih]
    by_cases e : n = m <;> by_cases e2 : r = q <;> simp [e, e2]
theorem any_keys (ks : List (List Int)) (k : List Int) : ((ks.map dT).any fun z => PyData.eqv z (dT k)) = decide (k ∈ ks) := by
  induction ks with
  | nil => simp
  | cons a r ih =>
    rw [List.map_cons, List.any_cons, ih, eqv_T]
    by_cases e : a = k
    · simp [e]
    · have e' : ¬ k = a := fun z => e z.symm
      simp [e, e']
/-! ### promises -/
def hasD (L : PL) (d : PyData) : Bool := match placeD d with
  | some ns => decide (ns ∈ keys L)
  | none => false
def spHasQ (C : Addr) : Sp := fun vs H Q _ => ∃ (a : Addr) (v : V) (L : PL) (d : PyData), vs = [.ref a, v] ∧ LotAt C H a L ∧ Dq H v d ∧ LimP d ∧ ∀ H', Same H H' → Q (.bl (hasD L d)) H'
def spLen (C : Addr) : Sp := fun vs H Q _ => ∃ (a : Addr) (L : PL), vs = [.ref a] ∧ LotAt C H a L ∧ Q (.int (L.length : Nat)) H
def spEqQ (C : Addr) : Sp := fun vs H Q _ => ∃ (a : Addr) (y : V) (L : PL), vs = [.ref a, y] ∧ LotAt C H a L ∧ ((∃ b M, y = .ref b ∧ LotAt C H b M ∧ ∀ H', Same H H' → Q (.bl (decide (keys L = keys M))) H') ∨ ((∃ t, Plain H y t) ∧ Q (.bl false) H))
theorem mem_keys {L : PL} {k : List Int} : k ∈ keys L ↔ ∃ p ∈ L, p.2 = k := List.mem_map
section
variable {P : Program} {w : World} {K : PySem.W.Frag} {mg : Str → Option Value} {base : Heap} {C : Addr}
theorem scHa : FnScope ["self", "thing"] ["self", "thing"] (defScope cLotContains) := ⟨rfl, rfl, rfl, by decide +kernel, rfl, by decide +kernel, by decide +kernel⟩
theorem scLe : FnScope ["self"] ["self"] (defScope cLotLen) := ⟨rfl, rfl, rfl, by decide +kernel, rfl, by decide +kernel, by decide +kernel⟩
theorem scEq : FnScope ["self", "other"] ["self", "other"] (defScope cLotEq) := ⟨rfl, rfl, rfl, by decide +kernel, rfl, by decide +kernel, by decide +kernel⟩
theorem ok_hasQ {f fP : Addr} {fd fdP : FuncData} (F : Fun K "__contains__" "Lot.__contains__" cLotContains f fd) (c : LotC K mg C) (GP : FnOk P w K mg base CX0 2 fP fdP ["thing"] spAsPlace) (gP : mg "as_place" = some (.ref fP)) (kP : PySem.W.keepIn K (.ref fP) = true) (bP : Binds K fdP ["thing"] []) :
    FnOk P w K mg base CX0 3 f fd ["self", "thing"] (spHasQ C) := by
  refine F.ok scHa (fun vs H Q E h => ?_) (fun cdv A outer s H vs Q E hr h => ?_)
  · obtain ⟨a, v, L, d, rfl, _⟩ := h
    rfl
  · obtain ⟨a, v, L, d, rfl, la, hv, lim, k⟩ := h
    refine ⟨_, pss_one (ps_ret (pe_cmp (pc_dinN (Nat.lt_of_le_of_lt (Nat.add_le_add_left (by decide) _) hr.units) (pe_call GP hr (by rfl) gP kP bP .nil pass0 (pa_cons (pv 1) pa_nil)) (pe_fld (pv 0) rfl)))), ?_⟩
    refine ⟨_, rfl, v, d, rfl, hv, lim, fun pn H1 s1 => ?_, fun ns pn b H1 s1 hb => ?_⟩
    · obtain ⟨dx, t, kn, kvs, h1, h2, h3, h4, _, _, _, kk⟩ := la.mono s1
      refine ⟨_, rfl, a, C, dx, _, _, rfl, h1, c.cls, c.nk, rfl, kn, rfl, .inr ⟨rfl, ⟨kvs, h3⟩, ?_⟩⟩
      have z := k H1 s1
      unfold hasD at z
      rw [pn] at z
      exact z
    · obtain ⟨dx, t, kn, kvs, h1, h2, h3, h4, _, _, _, kk⟩ := la.mono s1
      refine ⟨_, rfl, a, C, dx, _, _, rfl, h1, c.cls, c.nk, rfl, kn, rfl, .inl ⟨_, DGet.t (k := ns.map Sum.inl) h3 (by rw [key_kV]; exact hb), ?_⟩⟩
      have z := k H1 s1
      unfold hasD at z
      rw [pn] at z
      rw [kk ns]
      exact z
theorem ok_len {f : Addr} {fd : FuncData} (F : Fun K "__len__" "Lot.__len__" cLotLen f fd) (c : LotC K mg C) (hl : mg "len" = none) : FnOk P w K mg base CX0 1 f fd ["self"] (spLen C) := by
  refine F.ok scLe (fun vs H Q E h => ?_) (fun cdv A outer s H vs Q E hr h => ?_)
  · obtain ⟨a, L, rfl, _⟩ := h
    rfl
  · obtain ⟨a, L, rfl, la, k⟩ := h
    refine ⟨_, pss_one (ps_ret (pe_callB call_len_seq (by rfl) hl PySem.boot_len (pa_cons (pe_fld (pv 0) rfl) pa_nil))), ?_⟩
    obtain ⟨dx, t, kn, kvs, h1, h2, _⟩ := la
    refine ⟨_, rfl, a, C, dx, _, _, rfl, h1, c.cls, c.np, rfl, t, refs L, rfl, .inr (SqT.of h2), ?_⟩
    rw [refs_len]
    exact k
theorem ok_eqQ {f : Addr} {fd : FuncData} (F : Fun K "__eq__" "Lot.__eq__" cLotEq f fd) (c : LotC K mg C) (al : AloneC K C) (hi : mg "isinstance" = none) : FnOk P w K mg base CX0 1 f fd ["self", "other"] (spEqQ C) := by
  refine F.ok scEq (fun vs H Q E h => ?_) (fun cdv A outer s H vs Q E hr h => ?_)
  · obtain ⟨a, y, L, rfl, _⟩ := h
    rfl
  · obtain ⟨a, y, L, rfl, la, k⟩ := h
    refine ⟨_, pss_one (ps_ret (pe_and (pe_or2 (pe_callB (C8.call_isC c.isC) (by rfl) hi (by decide +kernel) (pa_cons (pv 1) (pa_cons (pe_glob (v := .ref C) (by rfl) c.glob rfl) pa_nil))) (pe_callB call_isi (by rfl) hi (by decide +kernel) (pa_cons (pv 1) (pa_cons (pe_glob (v := .ref C) (by rfl) c.glob rfl) pa_nil)))) (pe_one (pe_cmpR (op_eqD hr.units) (pe_fld (pv 0) rfl) (pe_fld (pv 1) rfl) (nomark _))))), ?_⟩
    obtain ⟨dx, t, kn, kvs, h1, h2, h3, h4, _⟩ := la
    rcases k with ⟨b, M, rfl, lb, k⟩ | ⟨⟨ty, py⟩, k⟩
    · obtain ⟨dx', t', kn', kvs', g1, g2, g3, g4, _⟩ := lb
      refine .inl ⟨_, rfl, b, dx', _, rfl, g1, _, rfl, iteT ?_⟩
      refine ⟨_, rfl, a, C, dx, _, _, rfl, h1, c.cls, c.np, rfl, _, rfl, b, C, dx', _, _, rfl, g1, c.cls, c.np, rfl, .tuple ((keys L).map dT), .tuple ((keys M).map dT), .tup (SqT.of h2) (dp_refs h4), .tup (SqT.of g2) (dp_refs g4), sh_tup (okd_keys _), sh_tup (okd_keys _), ?_⟩
      have e : PyData.eqv (.tuple ((keys L).map dT)) (.tuple ((keys M).map dT)) = decide (keys L = keys M) := by
        simp only [PyData.eqv]
        exact eqv_keys _ _
      rw [e]
      exact k H (Same.refl H)
    · exact .inr ⟨_, rfl, y, .ref C, .type ty, .ref C, false, rfl, .own C, py.ty, (al.kit ty py.in4).1, _, rfl, iteF k⟩
end
end K1
set_option linter.all false
set_option maxRecDepth 100000
set_option maxHeartbeats 1000000
namespace K1
open PySem L2
section
open PySem.Spec PyProof.Rows
variable {X : Cx} {CX : CXT} {k : Nat} {f C : Addr} {fd : FuncData} {ps : List Str} {sp : Sp} {x : Str} {e : Expr} {es : List Expr} {t : TA} {p pos : Pos} {E : L2.St → XK}
/-- C(..), what its __init__ lets out taken where it stands -/
def tMakeW (C : Addr) (sp : Sp) (E : L2.St → XK) (t : TA) : TE := fun σ H Q => t σ H fun vs H1 => ∀ x dx, H1 x = none → H1 dx = none → dx ≠ x →
  sp (.ref x :: vs) (upd (upd H1 dx (.own x)) x (.ins C dx [])) (fun v H2 => v = .non ∧ Q (.ref x) H2) (E σ)
theorem pe_makeW (M : Mk X.K C f) (F : FnOk X.prog X.w X.K X.mg X.base CX k f fd ps sp) (hr : Room (k + 1) X.A) (hg : Gl X x) (hm : X.mg x = some (.ref C)) (hb : Binds X.K fd ps []) (hx : ∀ σ, PassesAt CX X σ (E σ))
    (ha : PA X (e :: es) t) (hdb : (x == ("__debug__" : Str)) = false := by decide) (he : starEach (e :: es) X.env = (false, eval e X.env) :: starEach es X.env := by rfl) (hpl : (backTo pos (starEach es X.env)).any (·.1) = false := by rfl) :
    PE X (.Call (.Name x p) (e :: es) [] pos) (tMakeW C sp E t) := by
  constructor
  intro pins s σ H Q I h
  refine wpAny_Call_Name_kw (ld_glob I hg hm ?_ hdb)
  refine PySem.W.callWith_K (h₀ := X.base) I.ok.mod.kin M.kp (thn (ha.run pos pins s σ H _ I h) fun us s1 ⟨vs, H1, J, r, q⟩ => ⟨J.kIn, ?_⟩) he hpl
  have want := q (s1.heap.objs.size + 1) s1.heap.objs.size (J.hok.fresh (Nat.le_succ _)) (J.hok.fresh (Nat.le_refl _)) (Nat.ne_of_lt (Nat.lt_succ_self _))
  have J2 := Inv.made (C := C) J
  have rel : Vals (V.ref (s1.heap.objs.size + 1) :: vs) (Value.ref (s1.heap.objs.size + 1) :: us) := .cons rfl r
  have many : (Value.ref (s1.heap.objs.size + 1) :: us).length = ps.length := by
    rw [← rel.length]
    exact F.len _ _ _ _ want
  have bd := hb _ (Value.ref (s1.heap.objs.size + 1) :: us) J2.kIn (by rw [List.append_nil]; exact many)
  rw [List.append_nil] at bd
  refine wpAny_call (make_map (f := f) J.kIn M.makes M.init (beq_iff_eq.mp M.fn) (codeAny_mono (F.run _ X.stack _ _ ⟨Value.ref (s1.heap.objs.size + 1) :: us, []⟩ _ _ _ (E σ) (hr.make C us []) (J2.env0.make C us []) bd rel want) fun z s' back => ?_))
  cases z with
  | error err => exact hx σ pins _ _ err s' J2 back
  | ok fl =>
    cases fl with
    | ret u =>
      obtain ⟨v, H', J3, rv, ev, q3⟩ := J2.after back
      subst ev
      exact ⟨rv, ⟨V.ref (s1.heap.objs.size + 1), H', J3, rfl, q3⟩⟩
    | next => exact False.elim back
    | brk => exact False.elim back
    | cont => exact False.elim back
end
theorem LotAt.plT {C : Addr} {H : Hp} {x : Addr} {L : PL} {ks : List (List Int)} (h : LotAt C H x L) (few : L.length ≤ ks.length) (mem : ∀ k, k ∈ keys L ↔ k ∈ ks) : ∃ dx t kn, H x = some (.ins C dx [("places", .ref t), ("_known", .ref kn)]) ∧ PlT H t ks L := by
  obtain ⟨dx, t, kn, kvs, h1, h2, h3, h4, ok, asc, _⟩ := h
  exact ⟨dx, t, kn, h1, h2, h4, ok, asc, few, mem⟩
theorem PlT.mono {H H' : Hp} {t : Addr} {ks : List (List Int)} {L : PL} (h : PlT H t ks L) (s : Same H H') : PlT H' t ks L := ⟨s _ _ h.at_, h.tu.mono s, h.ok, h.asc, h.few, h.mem⟩
def spTried : Sp := fun vs H Q _ => ∃ (v : V) (d : PyData), vs = [v] ∧ Dq H v d ∧ LimL d ∧ (∀ i, badL d = some i → ∀ t H', Same H H' → H t = none → H' t = some (.tup [.str "bad", .int (i : Nat)]) → Q (.ref t) H') ∧
  (badL d = none → ∀ t tp L H', Same H H' → H t = none → H' t = some (.tup [.str "made", .ref tp]) → PlT H' tp (keysD d) L → Q (.ref t) H')
section
variable {P : Program} {w : World} {K : PySem.W.Frag} {mg : Str → Option Value} {base : Heap} {C BC : Addr}
abbrev NTr : List Str := ["_law_things", "_law_found", "e"]
theorem scTr : FnScope NTr ["_law_things"] (defScope sTried) := ⟨rfl, rfl, rfl, by decide +kernel, rfl, by decide +kernel, by decide +kernel⟩
theorem ok_tried {f fI gM : Addr} {fd fdM : FuncData} (F : Fun K "_law_tried" "_law_tried" sTried f fd) (c : LotC K mg C) (e : ErrC K mg "BadLot" "index" BC fI) (MM : Mk K C gM) (GM : FnOk P w K mg base (L2.CX P w) 4 gM fdM ["self", "places"] (spInitQ C BC)) (bM : Binds K fdM ["self", "places"] []) :
    FnOk P w K mg base CX0 6 f fd ["_law_things"] spTried := by
  refine F.ok scTr (fun vs H Q E h => ?_) (fun cdv A outer s H vs Q E hr h => ?_)
  · obtain ⟨v, d, rfl, _⟩ := h
    rfl
  · obtain ⟨v, d, rfl, hd, lim, kB, kG⟩ := h
    refine ⟨_, pss_cons (ps_try_as (i := 2) (tb := fun W => tAsg (tTup (tCons (tC (.str "made")) (tCons (tFld K (tMakeW C (spInitQ C BC) (WE W) (tCons (tVar 0) tNil)) "places") tNil))) (gName 1)) (ts := fun a cls d => tAsg (tTup (tCons (tC (.str "bad")) (tCons (tXf a cls d BC "index" (tVar 2)) tNil))) (gName 1)) (Wout := fun _ _ _ _ => False)
        rfl rfl scTr.nd rfl rfl ⟨rfl, by decide, Or.inl e.g⟩ takes0
        (fun W pn xe tk _ => pss_one (ps_set (i := 1) scTr.nd rfl (Or.inl rfl) (by exact (pe_tup (pa_cons pe_str (pa_cons (pe_fld (pe_makeW MM GM (hr.mono (by decide)) (by rfl) c.glob bM (fun σ => passAt tk σ) (pa_cons (pv 0) pa_nil)) rfl) pa_nil))))))
        (fun a oe cls d pn hz hf => pss_one (ps_set (i := 1) scTr.nd rfl (Or.inl rfl) (by exact (pe_tup (pa_cons pe_str (pa_cons (pe_xf e.xf e.no hz hf (pv 2)) pa_nil)))))))
      (pss_one (ps_ret (pv 1))), ?_⟩
    refine ⟨_, rfl, fun x dx nx ndx ne => ?_⟩
    have sx : Same H (upd (upd H dx (.own x)) x (.ins C dx [])) := fun b o hb => by
      rw [upd_ne (ne_of_none hb nx), upd_ne (ne_of_none hb ndx)]
      exact hb
    refine ⟨x, v, dx, d, rfl, upd_same, hd.same sx, lim, fun i hi d' H' nd' s' hd' => ?_, fun b0 L H' keep la few mem => ⟨rfl, ?_⟩⟩
    · refine ⟨true, e.te, fun _ b nb => ?_, fun z => nomatch z⟩
      refine ⟨_, rfl, rfl, rfl, d', _, .int (i : Nat), rfl, hd', rfl, sz (Nat.le_of_ble_eq_true rfl), fun tp ntp => ?_⟩
      exact ⟨_, rfl, kB i hi tp _ (sx.trans (s'.trans (same_new ntp _))) ((sx.trans s').free ntp) upd_same⟩
    · have s1 : Same H H' := fun b o hb => keep b o (ne_of_none hb nx) (sx b o hb)
      obtain ⟨dx2, t, kn, ho, pt⟩ := la.plT few mem
      refine ⟨x, C, dx2, _, _, rfl, ho, c.cls, c.np, rfl, sz (Nat.le_of_ble_eq_true rfl), fun tp ntp => ?_⟩
      have s2 := same_new ntp (.tup [.str "made", .ref t])
      exact ⟨_, rfl, kG b0 tp t L _ (s1.trans s2) (s1.free ntp) upd_same (pt.mono s2)⟩
end
end K1
set_option maxRecDepth 100000
set_option maxHeartbeats 4000000
namespace K1
open PySem L2
/-- a flat value, or a flat dict, beside itself -/
inductive Sc (K : PySem.W.Frag) (H : Hp) : V → String → Prop where
  | non : Sc K H .non "NoneType"
  | str (z : Str) : Sc K H (.str z) "str"
  | dic {a : Addr} {kvs : List (Key × V)} : H a = some (.dK kvs) → (kvs.map (·.1)).Nodup → (∀ p ∈ kvs, flatB p.2 = true) → Sc K H (.ref a) "dict"
def SameV (K : PySem.W.Frag) (H : Hp) : Nat → V → V → Prop
  | 0, _, _ => False
  | n + 1, x, y => (∃ i, x = .int i ∧ y = .int i) ∨ (∃ b, x = .bl b ∧ y = .bl b) ∨ (x = y ∧ ∃ nm, Sc K H x nm) ∨
    ∃ (a b : Addr) (xs ys : List V), x = .ref a ∧ y = .ref b ∧ ((H a = some (.lst xs) ∧ H b = some (.lst ys)) ∨ (H a = some (.tup xs) ∧ H b = some (.tup ys))) ∧ xs.length = ys.length ∧ xs.length ≤ 1000 ∧
      ∀ (i : Nat) (u v : V), xs[i]? = some u → ys[i]? = some v → SameV K H n u v
theorem Sc.mono {K : PySem.W.Frag} {H H' : Hp} {x : V} {nm : String} (h : Sc K H x nm) (s : Same H H') : Sc K H' x nm := by
  cases h with
  | non => exact .non
  | str z => exact .str z
  | dic h1 h2 h3 => exact .dic (s _ _ h1) h2 h3
theorem SameV.mono {K : PySem.W.Frag} {H H' : Hp} (s : Same H H') : ∀ {n : Nat} {x y : V}, SameV K H n x y → SameV K H' n x y
  | 0, _, _, h => (show False from h).elim
  | _ + 1, _, _, h => h.imp_right fun h => h.imp_right fun h => Or.imp (fun ⟨e, nm, h⟩ => ⟨e, nm, h.mono s⟩) (fun ⟨a, b, xs, ys, e1, e2, h, l1, l2, k⟩ =>
    ⟨a, b, xs, ys, e1, e2, Or.imp (fun q => ⟨s _ _ q.1, s _ _ q.2⟩) (fun q => ⟨s _ _ q.1, s _ _ q.2⟩) h, l1, l2, fun i u v h1 h2 => SameV.mono s (k i u v h1 h2)⟩) h
def spSame (K : PySem.W.Frag) (n : Nat) : Sp := fun vs H Q _ => ∃ (x y : V), vs = [x, y] ∧ SameV K H n x y ∧ ∀ H', Same H H' → Q (.bl true) H'
theorem iteD {c A B : Prop} [Decidable c] (hc : c) (h : A) : if decide c = true then A else B := by
  rw [decide_eq_true hc]
  exact iteT h
theorem kitA2 {K : PySem.W.Frag} {a b c : String} {r s : Bool} (h1 : kitB a b = some r) (h2 : kitB a c = some s) : PySem.W.kitAny K (.type a) [.type b, .type c] = some (r || s) := by
  refine kitAny_cons (kit_ty h1) (fun e => ?_) (fun e => by rw [e]; rfl)
  subst e
  rw [Bool.false_or]
  exact kitAny_cons (kit_ty h2) (fun e => by subst e; exact kitAny_nil) (fun e => by rw [e])
theorem kitA3 {K : PySem.W.Frag} {a b c d : String} {r s t : Bool} (h1 : kitB a b = some r) (h2 : kitB a c = some s) (h3 : kitB a d = some t) : PySem.W.kitAny K (.type a) [.type b, .type c, .type d] = some (r || (s || t)) := by
  refine kitAny_cons (kit_ty h1) (fun e => ?_) (fun e => by rw [e]; rfl)
  subst e
  rw [Bool.false_or]
  exact kitA2 h2 h3
theorem same_cases {K : PySem.W.Frag} {H : Hp} {n : Nat} {x y : V} (S : SameV K H (n + 1) x y) {R : Prop}
    (num : ∀ (v : V) (nm : String) (bb : Bool), x = v → y = v → (∀ H, TyX K H v (.type nm)) → kitB nm "list" = some false → kitB nm "tuple" = some false → kitB nm "int" = some true → kitB nm "bool" = some bb → scal v v = true → R)
    (flat : ∀ (nm : String), x = y → Sc K H x nm → R)
    (seq : ∀ (nm : String) (a b : Addr) (xs ys : List V), x = .ref a → y = .ref b → kitB nm "list" = some (nm == "list") → kitB nm "tuple" = some (nm == "tuple") → (nm == "list" || nm == "tuple") = true →
      (∀ H', Same H H' → TyX K H' x (.type nm)) → (∀ H', Same H H' → TyX K H' y (.type nm)) → ((H a = some (.lst xs) ∧ H b = some (.lst ys)) ∨ (H a = some (.tup xs) ∧ H b = some (.tup ys))) →
      xs.length = ys.length → xs.length ≤ 1000 → (∀ (i : Nat) (u v : V), xs[i]? = some u → ys[i]? = some v → SameV K H n u v) → R) : R := by
  rcases S with ⟨i, e1, e2⟩ | ⟨b, e1, e2⟩ | ⟨e, nm, h⟩ | ⟨a, b, xs, ys, e1, e2, h, l1, l2, q⟩
  · exact num _ "int" false e1 e2 (fun _ => .base (.int i)) (by decide +kernel) (by decide +kernel) (by decide +kernel) (by decide +kernel) rfl
  · exact num _ "bool" true e1 e2 (fun _ => .base (.bl b)) (by decide +kernel) (by decide +kernel) (by decide +kernel) (by decide +kernel) rfl
  · exact flat nm e h
  · rcases h with h | h
    · exact seq "list" a b xs ys e1 e2 (by decide +kernel) (by decide +kernel) rfl (fun H' s => by rw [e1]; exact .base (.lst (s _ _ h.1))) (fun H' s => by rw [e2]; exact .base (.lst (s _ _ h.2))) (.inl h) l1 l2 q
    · exact seq "tuple" a b xs ys e1 e2 (by decide +kernel) (by decide +kernel) rfl (fun H' s => by rw [e1]; exact .base (.tup (s _ _ h.1))) (fun H' s => by rw [e2]; exact .base (.tup (s _ _ h.2))) (.inr h) l1 l2 q
theorem Sc.ty {K : PySem.W.Frag} {H : Hp} {x : V} {nm : String} (h : Sc K H x nm) : TyX K H x (.type nm) := by
  cases h with
  | non => exact .base .non
  | str z => exact .base (.str z)
  | dic h _ _ => exact .base (.dK h)
theorem Sc.kit {K : PySem.W.Frag} {H : Hp} {x : V} {nm : String} (h : Sc K H x nm) : kitB nm "list" = some false ∧ kitB nm "tuple" = some false ∧ kitB nm "int" = some false := by
  cases h <;> exact ⟨by decide +kernel, by decide +kernel, by decide +kernel⟩
/-- both in step: the pairs of a zip of two lists, of two tuples -/
theorem walk_zipT {K : PySem.W.Frag} {a b : Addr} {xs ys : List V} {n : Nat} (h1 : n = xs.length) (h2 : n = ys.length) : Walk (RZ.ItzT K a b) n (fun H => SqT K H a xs ∧ SqT K H b ys) (YPair (fun i => xs[i]?) (fun i => ys[i]?)) := by
  refine ⟨fun i _ hi q => ?_, fun _ q => ⟨xs, ys, q.1, q.2, .inl (by omega)⟩, fun i H v H' _ q y => ?_⟩
  · have l1 : i < xs.length := by omega
    have l2 : i < ys.length := by omega
    exact ⟨xs, ys, xs[i], ys[i], q.1, q.2, by simp [l1], by simp [l2]⟩
  · obtain ⟨t, u, v, e1, e2, e3, e4, e5⟩ := y
    exact ⟨t, u, v, e1, e2, e3, e4 xs q.1, e5 ys q.2⟩
structure TxtS (mg : Str → Option Value) : Prop where
  isi : mg "isinstance" = none
  list : mg "list" = none
  tuple : mg "tuple" = none
  len : mg "len" = none
  all : mg "all" = none
  zip : mg "zip" = none
  int : mg "int" = none
  bool : mg "bool" = none
section
variable {P : Program} {w : World} {K : PySem.W.Frag} {mg : Str → Option Value} {base : Heap}
abbrev NS : List Str := ["_law_found", "_law_due", "_law_x", "_law_y"]
theorem scS : FnScope NS ["_law_found", "_law_due"] (defScope sSame) := ⟨rfl, rfl, rfl, by decide +kernel, rfl, by decide +kernel, by decide +kernel⟩
theorem ok_same {n : Nat} {f : Addr} {fd : FuncData} (F : Fun K "_law_same" "_law_same" sSame f fd) (T : TxtS mg) (G : FnOk P w K mg base CX0 n f fd ["_law_found", "_law_due"] (spSame K n)) (bG : Binds K fd ["_law_found", "_law_due"] []) (gG : mg "_law_same" = some (.ref f)) :
    FnOk P w K mg base CX0 (n + 1) f fd ["_law_found", "_law_due"] (spSame K (n + 1)) := by
  refine F.ok scS (fun vs H Q E h => ?_) (fun cdv A outer s H vs Q E hr h => ?_)
  · obtain ⟨x, y, rfl, _⟩ := h
    rfl
  · obtain ⟨x, y, rfl, S, k⟩ := h
    refine ⟨_, pss_cons (ps_if (pt_val (pe_callB call_isiT (by rfl) T.isi (by decide +kernel) (pa_cons (pv 1) (pa_cons (pe_tup (pa_cons (pe_bltn (v := .ty "list") (by rfl) T.list (by decide +kernel) rfl) (pa_cons (pe_bltn (v := .ty "tuple") (by rfl) T.tuple (by decide +kernel) rfl) pa_nil))) pa_nil))))
        (pss_cons (ps_if (pw_or (pt_cmpR op_ne (pe_callB call_isi (by rfl) T.isi (by decide +kernel) (pa_cons (pv 0) (pa_cons (pe_bltn (v := .ty "list") (by rfl) T.list (by decide +kernel) rfl) pa_nil)))
                (pe_callB call_isi (by rfl) T.isi (by decide +kernel) (pa_cons (pv 1) (pa_cons (pe_bltn (v := .ty "list") (by rfl) T.list (by decide +kernel) rfl) pa_nil))) (nomark _))
              (pw_or1 (pt_cmpR op_ne (pe_callB call_isi (by rfl) T.isi (by decide +kernel) (pa_cons (pv 0) (pa_cons (pe_bltn (v := .ty "tuple") (by rfl) T.tuple (by decide +kernel) rfl) pa_nil)))
                (pe_callB call_isi (by rfl) T.isi (by decide +kernel) (pa_cons (pv 1) (pa_cons (pe_bltn (v := .ty "tuple") (by rfl) T.tuple (by decide +kernel) rfl) pa_nil))) (nomark _)))).pt (pss_one (ps_ret pe_bl)) pss_nil)
          (pss_one (ps_ret (pe_and (pe_cmpR op_eq (pe_callB call_len_seq (by rfl) T.len PySem.boot_len (pa_cons (pv 0) pa_nil)) (pe_callB call_len_seq (by rfl) T.len PySem.boot_len (pa_cons (pv 1) pa_nil)) (nomark _))
            (pe_one (pe_callB (cr_all rfl) (by rfl) T.all (by decide +kernel) (pa_cons (pe_lc (own := [("_law_x", 2), ("_law_y", 3)]) (g := gTup K 2 (gCons (gName 2) (gCons (gName 3) gNil))) (tt := tYes) rfl scS.nd (RZ.pi_zipA (by rfl) T.zip (pa_cons (pv 0) (pa_cons (pv 1) pa_nil))) (blkOk_by (N := NS) (sc := defScope sSame) (by decide +kernel))
              (fun _ _ _ _ _ => pg_tup rfl (pgs_cons (pg_name (i := 2) scS.nd rfl (Or.inl rfl)) (pgs_cons (pg_name (i := 3) scS.nd rfl (Or.inl rfl)) pgs_nil))) (fun _ _ _ _ _ => pts_nil)
              (fun _ _ _ _ _ => pe_call G hr rfl gG F.kp bG .nil pass0 (pa_cons (pv 2) (pa_cons (pv 3) pa_nil)))) pa_nil)))))))
        pss_nil)
      (pss_cons (ps_if (pt_val (pe_callB call_isi (by rfl) T.isi (by decide +kernel) (pa_cons (pv 1) (pa_cons (pe_bltn (v := .ty "int") (by rfl) T.int (by decide +kernel) rfl) pa_nil))))
        (pss_one (ps_ret (pe_and (pe_callB call_isi (by rfl) T.isi (by decide +kernel) (pa_cons (pv 0) (pa_cons (pe_bltn (v := .ty "int") (by rfl) T.int (by decide +kernel) rfl) pa_nil)))
          (pe_and (pe_cmpR op_eq (pe_callB call_isi (by rfl) T.isi (by decide +kernel) (pa_cons (pv 0) (pa_cons (pe_bltn (v := .ty "bool") (by rfl) T.bool (by decide +kernel) rfl) pa_nil))) (pe_callB call_isi (by rfl) T.isi (by decide +kernel) (pa_cons (pv 1) (pa_cons (pe_bltn (v := .ty "bool") (by rfl) T.bool (by decide +kernel) rfl) pa_nil))) (nomark _))
            (pe_one (pe_cmpR op_eq (pv 0) (pv 1) (nomark _)))))))
        pss_nil)
      (pss_one (ps_ret (pe_and (pe_cmpR op_isBl (pe_callB call_isiT (by rfl) T.isi (by decide +kernel) (pa_cons (pv 0) (pa_cons (pe_tup (pa_cons (pe_bltn (v := .ty "int") (by rfl) T.int (by decide +kernel) rfl) (pa_cons (pe_bltn (v := .ty "list") (by rfl) T.list (by decide +kernel) rfl) (pa_cons (pe_bltn (v := .ty "tuple") (by rfl) T.tuple (by decide +kernel) rfl) pa_nil)))) pa_nil))) pe_bl (nomark _))
        (pe_one (pe_cmpR (OpR.or op_eq (op_eq_dict (Nat.lt_of_le_of_lt (Nat.le_add_right _ 64) hr.units))) (pv 0) (pv 1) (nomark _))))))), ?_⟩
    refine same_cases S ?num ?flat ?seq
    case num =>
      intro v nm bb e1 e2 ty k1 k2 k3 k4 sc
      subst e1 e2
      refine ⟨_, rfl, sz (Nat.le_of_ble_eq_true rfl), fun tp ntp => ⟨_, tp, [.ty "list", .ty "tuple"], .type nm, [.type "list", .type "tuple"], _, rfl, upd_same, .cons (.ty _) (.cons (.ty _) .nil), ty _, kitA2 k1 k2, _, rfl, iteF ?_⟩⟩
      refine ⟨_, rfl, _, .ty "int", .type nm, .type "int", _, rfl, .ty _, ty _, kit_ty k3, _, rfl, iteT ?_⟩
      refine ⟨_, rfl, _, .ty "int", .type nm, .type "int", _, rfl, .ty _, ty _, kit_ty k3, _, rfl, iteT ?_⟩
      refine ⟨_, rfl, _, .ty "bool", .type nm, .type "bool", _, rfl, .ty _, ty _, kit_ty k4, _, rfl, _, .ty "bool", .type nm, .type "bool", _, rfl, .ty _, ty _, kit_ty k4, rfl, _, rfl, iteD rfl ?_⟩
      refine ⟨_, rfl, _, rfl, sc, ?_⟩
      rw [decide_eq_true rfl]
      exact k _ (same_new ntp _)
    case flat =>
      intro nm e h
      subst e
      obtain ⟨k1, k2, k3⟩ := h.kit
      refine ⟨_, rfl, sz (Nat.le_of_ble_eq_true rfl), fun tp ntp => ⟨_, tp, [.ty "list", .ty "tuple"], .type nm, [.type "list", .type "tuple"], _, rfl, upd_same, .cons (.ty _) (.cons (.ty _) .nil), (h.mono (same_new ntp _)).ty, kitA2 k1 k2, _, rfl, iteF ?_⟩⟩
      refine ⟨_, rfl, _, .ty "int", .type nm, .type "int", _, rfl, .ty _, (h.mono (same_new ntp _)).ty, kit_ty k3, _, rfl, iteF ?_⟩
      refine ⟨_, rfl, sz (Nat.le_of_ble_eq_true rfl), fun t2 n2 => ?_⟩
      have s2 : Same H (upd _ t2 (.tup [.ty "int", .ty "list", .ty "tuple"])) := (same_new ntp _).trans (same_new n2 _)
      refine ⟨_, t2, [.ty "int", .ty "list", .ty "tuple"], .type nm, [.type "int", .type "list", .type "tuple"], _, rfl, upd_same, .cons (.ty _) (.cons (.ty _) (.cons (.ty _) .nil)), (h.mono s2).ty, kitA3 k3 k1 k2, _, _, rfl, rfl, _, rfl, iteD rfl ?_⟩
      refine ⟨_, rfl, _, rfl, ?_⟩
      cases h with
      | non => exact .inl ⟨rfl, by rw [decide_eq_true rfl]; exact k _ s2⟩
      | str z => exact .inl ⟨rfl, by rw [decide_eq_true rfl]; exact k _ s2⟩
      | dic h1 h2 h3 => exact .inr ⟨_, _, _, rfl, rfl, s2 _ _ h1, s2 _ _ h1, h2, h3, k _ s2⟩
    case seq => 
      intro nm a b xs ys e1 e2 k1 k2 k3 tx ty hb l1 l2 q
      refine ⟨_, rfl, sz (Nat.le_of_ble_eq_true rfl), fun tp ntp => ⟨_, tp, [.ty "list", .ty "tuple"], .type nm, [.type "list", .type "tuple"], _, rfl, upd_same, .cons (.ty _) (.cons (.ty _) .nil), ty _ (same_new ntp _), kitA2 k1 k2, _, rfl, ?_⟩⟩
      rw [k3]
      refine iteT ?_
      refine ⟨_, rfl, _, .ty "list", .type nm, .type "list", _, rfl, .ty _, tx _ (same_new ntp _), kit_ty k1, _, rfl, _, .ty "list", .type nm, .type "list", _, rfl, .ty _, ty _ (same_new ntp _), kit_ty k1, rfl, _, rfl, iteNS rfl ?_⟩
      refine ⟨_, rfl, _, .ty "tuple", .type nm, .type "tuple", _, rfl, .ty _, tx _ (same_new ntp _), kit_ty k2, _, rfl, _, .ty "tuple", .type nm, .type "tuple", _, rfl, .ty _, ty _ (same_new ntp _), kit_ty k2, rfl, _, rfl, iteNS rfl ?_⟩
      subst e1 e2
      have sq : ∀ H', Same H H' → (SqL K H' a xs ∨ SqT K H' a xs) ∧ (SqL K H' b ys ∨ SqT K H' b ys) := fun H' s => by
        rcases hb with ⟨h1, h2⟩ | ⟨h1, h2⟩
        · exact ⟨.inl (SqL.of (s _ _ h1)), .inl (SqL.of (s _ _ h2))⟩
        · exact ⟨.inr (SqT.of (s _ _ h1)), .inr (SqT.of (s _ _ h2))⟩
      refine ⟨_, rfl, a, xs, rfl, (sq _ (same_new ntp _)).1, _, rfl, b, ys, rfl, (sq _ (same_new ntp _)).2, rfl, _, rfl, iteD (by rw [l1]) ?_⟩
      have turn : ∀ (D : Addr) (i : Nat) (H2 H3 : Hp) (T : Addr) (u v : V), H2 T = none → H3 = upd H2 T (.tup [u, v]) → Same H H2 → H2 D = some (.lst (List.replicate i (.bl true))) → i < xs.length → SameV K H n u v →
          Same H H3 ∧ H3 D = some (.lst (List.replicate i (.bl true))) ∧ H3 T = some (.tup [u, v]) ∧ SameV K H3 n u v := fun D i H2 H3 T u v nT e s hD hi h => by
        subst e
        have s3 := s.trans (same_new nT (.tup [u, v]))
        exact ⟨s3, by rw [upd_ne (ne_of_none hD nT)]; exact hD, upd_same, h.mono s3⟩
      have fin : ∀ (D : Addr) (H2 : Hp), H2 D = some (.lst (List.replicate xs.length (.bl true))) → SqL K H2 D ((List.replicate xs.length true).map V.bl) := fun D H2 h => SqL.of (by rw [List.map_replicate]; exact h)
      have eall : (List.replicate xs.length true).all id = true := by rw [List.all_eq_true]; intro b hb; exact (List.mem_replicate.mp hb).2
      refine ⟨_, rfl, _, rfl, a, b, xs, ys, rfl, ?_⟩
      rcases hb with ⟨h1, h2⟩ | ⟨h1, h2⟩
      · refine .inl ⟨SqL.of ((same_new ntp _) _ _ h1), SqL.of ((same_new ntp _) _ _ h2), fun D nD => ?_⟩
        refine lc_it (walk_zip (n := xs.length) (by omega)) (fun i H2 => Same H H2 ∧ H2 D = some (.lst (List.replicate i (.bl true)))) ⟨(same_new ntp _).trans (same_new nD _), upd_same⟩ (fun i H2 _ p => ⟨SqL.of (p.1 _ _ h1), SqL.of (p.1 _ _ h2)⟩) ?_ ?_
        · rintro i x H2 H3 hi ⟨s, hD⟩ ⟨t, u, v, rfl, nt, e, eu, ev⟩
          obtain ⟨s3, d3, t3, q3⟩ := turn D i H2 H3 t u v nt e s hD hi (q i u v eu ev)
          refine ⟨t, [u, v], rfl, SqT.of t3, rfl, u, [v], rfl, v, [], rfl, rfl, rfl, ?_⟩
          refine ⟨_, rfl, _, rfl, u, v, rfl, q3, fun H4 s4 => ⟨_, s4 _ _ d3, ?_, ?_⟩⟩
          · rw [List.length_replicate]
            exact small1000 (by omega)
          · have n0 : H D = none := (same_new ntp _).free nD
            refine ⟨fun z o hz => ?_, by rw [upd_same, List.replicate_succ']⟩
            rw [upd_ne (ne_of_none hz n0)]
            exact s4 _ _ (s3 _ _ hz)
        · rintro H2 ⟨s, hD⟩
          refine ⟨D, List.replicate xs.length true, rfl, fin D H2 hD, ?_⟩
          rw [eall]
          exact k _ s
      · refine .inr ⟨SqT.of ((same_new ntp _) _ _ h1), SqT.of ((same_new ntp _) _ _ h2), fun D nD => ?_⟩
        refine lc_it (walk_zipT (n := xs.length) rfl l1) (fun i H2 => Same H H2 ∧ H2 D = some (.lst (List.replicate i (.bl true)))) ⟨(same_new ntp _).trans (same_new nD _), upd_same⟩ (fun i H2 _ p => ⟨SqT.of (p.1 _ _ h1), SqT.of (p.1 _ _ h2)⟩) ?_ ?_
        · rintro i x H2 H3 hi ⟨s, hD⟩ ⟨t, u, v, rfl, nt, e, eu, ev⟩
          obtain ⟨s3, d3, t3, q3⟩ := turn D i H2 H3 t u v nt e s hD hi (q i u v eu ev)
          refine ⟨t, [u, v], rfl, SqT.of t3, rfl, u, [v], rfl, v, [], rfl, rfl, rfl, ?_⟩
          refine ⟨_, rfl, _, rfl, u, v, rfl, q3, fun H4 s4 => ⟨_, s4 _ _ d3, ?_, ?_⟩⟩
          · rw [List.length_replicate]
            exact small1000 (by omega)
          · have n0 : H D = none := (same_new ntp _).free nD
            refine ⟨fun z o hz => ?_, by rw [upd_same, List.replicate_succ']⟩
            rw [upd_ne (ne_of_none hz n0)]
            exact s4 _ _ (s3 _ _ hz)
        · rintro H2 ⟨s, hD⟩
          refine ⟨D, List.replicate xs.length true, rfl, fin D H2 hD, ?_⟩
          rw [eall]
          exact k _ s
theorem same_none {f : Addr} {fd : FuncData} : FnOk P w K mg base CX0 0 f fd ["_law_found", "_law_due"] (spSame K 0) := by
  have no : ∀ vs H Q E, ¬ spSame K 0 vs H Q E := fun vs H Q E h => by
    obtain ⟨x, y, _, S, _⟩ := h
    exact S
  exact ⟨fun vs H Q E h => absurd h (no vs H Q E), fun A outer s H args us vs Q E _ _ _ _ h => absurd h (no vs H Q E)⟩
theorem same_all {f : Addr} {fd : FuncData} (F : Fun K "_law_same" "_law_same" sSame f fd) (T : TxtS mg) (bG : Binds K fd ["_law_found", "_law_due"] []) (gG : mg "_law_same" = some (.ref f)) :
    ∀ n : Nat, FnOk P w K mg base CX0 n f fd ["_law_found", "_law_due"] (spSame K n)
  | 0 => same_none
  | n + 1 => ok_same F T (same_all F T bG gG n) bG gG
end
end K1
set_option maxRecDepth 100000
set_option maxHeartbeats 1000000
namespace K1
open PySem L2
theorem units65 {k : Nat} {A : Around} (r : Room (k + 1) A) : A.units + 65 < cLine := by
  have := r.un
  omega
/-! ### _law_rising -/
def low (t : List Int) (R : PL) : PL := R.filter fun p => decide (rk p.2 ≤ rk t)
theorem low_cut {t : List Int} : ∀ {R : PL}, Asc R → R.take (low t R).length = low t R ∧ (∀ p ∈ R.drop (low t R).length, rk t < rk p.2) ∧ ∀ p ∈ R.take (low t R).length, rk p.2 ≤ rk t
  | [], _ => ⟨rfl, fun _ h => by simp at h, fun _ h => by simp at h⟩
  | a :: R, h => by
    obtain ⟨h1, h2⟩ := List.pairwise_cons.mp h
    obtain ⟨i1, i2, i3⟩ := low_cut (t := t) h2
    by_cases c : rk a.2 ≤ rk t
    · have e : low t (a :: R) = a :: low t R := by
        unfold low
        rw [List.filter_cons, if_pos (decide_eq_true c)]
      rw [e, List.length_cons, List.take_succ_cons, List.drop_succ_cons, i1]
      refine ⟨rfl, i2, fun p hp => ?_⟩
      rcases List.mem_cons.mp hp with z | z
      · rw [z]; exact c
      · exact i3 p (by rw [i1]; exact z)
    · have e : low t (a :: R) = [] := by
        unfold low
        refine List.filter_eq_nil_iff.mpr fun p hp => ?_
        rcases List.mem_cons.mp hp with z | z
        · rw [z]; simpa using c
        · have := h1 p z
          simp only [decide_eq_true_eq]
          omega
      rw [e]
      refine ⟨rfl, fun p hp => ?_, fun p hp => by simp at hp⟩
      rcases List.mem_cons.mp hp with z | z
      · rw [z]; omega
      · have := h1 p z
        omega
theorem op_leTK {X : Cx} {K : PySem.W.Frag} (hu : X.A.units < cLine) (h : X.K = K := by rfl) : OpR X (compareOp .LtE) (rLeT K) := by
  subst h
  exact op_leT hu
def spRising : Sp := fun vs H Q _ => ∃ (a : Addr) (L : PL), vs = [.ref a] ∧ H a = some (.lst (refs L)) ∧ Ats H L ∧ Oks L ∧ (keys L).Nodup ∧ L.length ≤ 50 ∧
  ∀ (f : Addr) (R : PL) (H' : Hp), Same H H' → H f = none → H' f = some (.lst (refs R)) → R.Perm L → Asc R → Q (.ref f) H'
section
variable {P : Program} {w : World} {K : PySem.W.Frag} {mg : Str → Option Value} {base : Heap}
abbrev NRi : List Str := ["_law_things", "_law_found", "_law_thing", "_law_x"]
theorem scRi : FnScope NRi ["_law_things"] (defScope sRising) := ⟨rfl, rfl, rfl, by decide +kernel, rfl, by decide +kernel, by decide +kernel⟩
theorem ok_rising {f : Addr} {fd : FuncData} (F : Fun K "_law_rising" "_law_rising" sRising f fd) (hl : mg "len" = none) : FnOk P w K mg base CX0 1 f fd ["_law_things"] spRising := by
  refine F.ok scRi (fun vs H Q E h => ?_) (fun cdv A outer s H vs Q E hr h => ?_)
  · obtain ⟨a, L, rfl, _⟩ := h
    rfl
  · obtain ⟨a, L, rfl, ha, aL, oL, nd, few, k⟩ := h
    refine ⟨_, pss_cons (ps_set (i := 1) scRi.nd rfl (.inl rfl) (pe_lst pa_nil))
      (pss_cons (ps_for PassesOwn.never rfl (pi_list (pv 0)) (pg_name (i := 2) scRi.nd rfl (Or.inr rfl))
        (pss_one (ps_expr (pe_bm PySem.F.plainAttrs_list PySem.F.slot_list_insert PySem.F.type_list_insert mt_insert (pv 1)
          (pa_cons (pe_callB call_len_seq (by rfl) hl PySem.boot_len (pa_cons (pe_lc (own := [("_law_x", 3)]) (g := gName 3) rfl scRi.nd (pi_list (pv 1)) (blkOk_by (N := NRi) (sc := defScope sRising) (by decide +kernel))
            (fun _ _ _ _ _ => pg_name (i := 3) scRi.nd rfl (Or.inl rfl)) (fun _ _ _ _ _ => pts_one (pt_cmpR (op_leTK (K := K) hr.units0) (pv 3) (pv 2) (nomark _))) (fun _ _ _ _ _ => pv 3)) pa_nil)) (pa_cons (pv 2) pa_nil))))))
      (pss_one (ps_ret (pv 1)))), ?_⟩
    refine ⟨sz (Nat.le_of_ble_eq_true rfl), fun fo nf => ⟨_, rfl, a, rfl, ⟨_, SqL.of (same_new nf _ _ _ ha)⟩, ?_⟩⟩
    have s0 := same_new nf (.lst [])
    refine for_list (xs := refs L) (fun i σ H2 => ∃ (R : PL) (v : Option V), σ = [some (.ref a), some (.ref fo), v, none] ∧ H2 fo = some (.lst (refs R)) ∧ R.Perm (L.take i) ∧ Asc R ∧ Same H H2) ⟨[], _, rfl, upd_same, List.Perm.refl _, .nil, s0⟩
      (fun i σ H2 _ ⟨_, _, _, _, _, _, s2⟩ => SqL.of (s2 _ _ ha)) ?_ ?_
    · rintro i x σ H2 hx ⟨R, v, rfl, hf, pm, asc, s2⟩
      obtain ⟨p, hp, rfl⟩ := refs_get hx
      have mem := List.mem_of_getElem? hp
      have li : i < L.length := (List.getElem?_eq_some_iff.mp hp).1
      have lR : R.length = i := by rw [pm.length_eq, List.length_take]; omega
      have subR : ∀ q ∈ R, q ∈ L := fun q hq => List.mem_of_mem_take (pm.mem_iff.mp hq)
      refine ⟨_, rfl, .inl ⟨rfl, _, SqL.of hf⟩, _, rfl, fo, rfl, ⟨_, SqL.of hf⟩, fun D nD => ?_⟩
      have nDf : D ≠ fo := fun e => by rw [e, hf] at nD; cases nD
      refine lc_list (xs := refs R) (fun j H9 => H9 D = some (.lst (refs (low p.2 (R.take j)))) ∧ Same H2 H9) ⟨upd_same, same_new nD _⟩ (fun j H9 _ h9 => SqL.of (h9.2 _ _ hf)) ?_ ?_
      · rintro j y H9 hy ⟨h9, s9⟩
        obtain ⟨q, hq, rfl⟩ := refs_get hy
        have mq := subR q (List.mem_of_getElem? hq)
        have lj : j < R.length := (List.getElem?_eq_some_iff.mp hq).1
        have sA := s2.trans s9
        refine ⟨rfl, _, rfl, _, rfl, q.1, p.1, q.2, p.2, rfl, rfl, SqT.of (sA _ _ (aL q mq)), SqT.of (sA _ _ (aL p mem)), ?_⟩
        have step : low p.2 (R.take (j + 1)) = if decide (rk q.2 ≤ rk p.2) = true then low p.2 (R.take j) ++ [q] else low p.2 (R.take j) := by
          unfold low
          rw [List.take_add_one, hq, Option.toList_some, List.filter_append]
          by_cases e : decide (rk q.2 ≤ rk p.2) = true
          · rw [if_pos e, List.filter_cons, if_pos e]; rfl
          · rw [if_neg e, List.filter_cons, if_neg e, List.filter_nil, List.append_nil]
        rw [lex_le, (oL p mem).lt (oL q mq)]
        refine ⟨_, rfl, ite2 (fun e => ?_) fun e => ?_⟩
        · have e' : decide (rk q.2 ≤ rk p.2) = true := by
            simp only [Bool.not_eq_true', decide_eq_false_iff_not] at e
            exact decide_eq_true (by omega)
          refine ⟨_, rfl, _, h9, ?_, ?_, ?_⟩
          · rw [refs_len]
            have z : (low p.2 (R.take j)).length ≤ (R.take j).length := List.length_filter_le ..
            rw [List.length_take] at z
            exact small1000 (by omega)
          · rw [upd_same, step, if_pos e', refs_app]
            rfl
          · intro b o hb
            rw [upd_ne (ne_of_none hb nD)]
            exact s9 _ _ hb
        · have e' : ¬ decide (rk q.2 ≤ rk p.2) = true := by
            intro z
            have z' := of_decide_eq_true z
            have w : decide (rk p.2 < rk q.2) = false := decide_eq_false (by omega)
            rw [w] at e
            first
              | exact absurd e (by decide)
              | exact e rfl
          exact ⟨by rw [h9, step, if_neg e'], s9⟩
      · rintro H9 ⟨h9, s9⟩
        rw [refs_len, List.take_of_length_le (Nat.le_refl _)] at h9
        obtain ⟨c1, c2, c3⟩ := low_cut (t := p.2) asc
        have ll : (low p.2 R).length ≤ R.length := List.length_filter_le ..
        refine ⟨D, _, rfl, .inl (SqL.of h9), _, rfl, fo, refs R, _, _, rfl, rfl, s9 _ _ hf, small1000 (by rw [refs_len]; omega), ?_, ?_, ?_⟩
        · exact Int.natCast_nonneg _
        · rw [refs_len]
          have z : (2 : Int) ^ 63 = 9223372036854775808 := by decide
          omega
        · refine ⟨R.take (low p.2 R).length ++ [p] ++ R.drop (low p.2 R).length, _, rfl, ?_, ?_, ?_, ?_⟩
          · rw [upd_same, refs_len]
            show some (HO.lst ((refs R).take (low p.2 R).length ++ [V.ref p.1] ++ (refs R).drop (low p.2 R).length)) = _
            rw [refs_app, refs_app, refs_take]
            unfold refs
            rw [List.map_drop]
            rfl
          · rw [List.take_add_one, hp, Option.toList_some, List.append_assoc]
            have z : ([p] ++ R.drop (low p.2 R).length).Perm (R.drop (low p.2 R).length ++ [p]) := List.perm_append_comm
            refine (List.Perm.append_left _ z).trans ?_
            rw [← List.append_assoc, List.take_append_drop]
            exact List.Perm.append_right _ pm
          · have ne : ∀ q ∈ R, rk q.2 ≠ rk p.2 := fun q hq e => by
              have hk := (oL q (subR q hq)).inj (oL p mem) e
              have hq' := pm.mem_iff.mp hq
              obtain ⟨j, hj⟩ := List.mem_iff_getElem?.mp hq'
              rw [List.getElem?_take] at hj
              split at hj
              · rename_i lt
                have a1 : (keys L)[j]? = some q.2 := by unfold keys; rw [List.getElem?_map, hj]; rfl
                have a2 : (keys L)[i]? = some p.2 := by unfold keys; rw [List.getElem?_map, hp]; rfl
                rw [hk] at a1
                have lk : (keys L).length = L.length := List.length_map _
                exact absurd ((List.getElem?_inj (i := j) (j := i) (by omega) nd).mp (a1.trans a2.symm)) (by omega)
              · cases hj
            rw [List.append_assoc]
            refine List.pairwise_append.mpr ⟨List.Pairwise.sublist (List.take_sublist _ _) asc, List.pairwise_cons.mpr ⟨fun q hq => c2 q hq, List.Pairwise.sublist (List.drop_sublist _ _) asc⟩, fun q hq r hr => ?_⟩
            have h3 := c3 q hq
            have h4 := ne q (List.mem_of_mem_take hq)
            rcases List.mem_cons.mp hr with z | z
            · rw [z]; omega
            · have := c2 r z
              omega
          · have nf' : ∀ b o, H b = some o → b ≠ fo := fun b o hb => ne_of_none hb nf
            intro b o hb
            rw [upd_ne (nf' b o hb)]
            exact s9 _ _ (s2 _ _ hb)
    · rintro σ H2 ⟨R, v, rfl, hf, pm, asc, s2⟩
      rw [refs_len, List.take_of_length_le (Nat.le_refl _)] at pm
      exact ⟨_, rfl, k fo R H2 s2 nf hf pm asc⟩
end
end K1
set_option linter.all false
set_option maxRecDepth 100000
set_option maxHeartbeats 1000000
namespace K1
open PySem L2
theorem Spr.no {H : Hp} {st l : Addr} {cs : List Int} {n : Nat} {b : Addr} {o : HO} (S : Spr H st l cs n) (h : H b = some o) (ho : ∀ xs, o ≠ .lst xs) : b ≠ st := by
  obtain ⟨⟨i, k, c, g, e, _⟩, _⟩ := S
  intro z
  rw [z, e] at h
  exact ho _ (Option.some.inj h).symm
theorem Spr.up {H : Hp} {st l : Addr} {cs : List Int} {n m : Nat} (S : Spr H st l cs n) (h : n ≤ m) : Spr H st l cs m := by
  obtain ⟨⟨i, k, c, g, e, q1, q2, q3, q4, q5⟩, r1, r2, r3⟩ := S
  exact ⟨⟨i, k, c, g, e, q1, q2, q3, q4, Nat.le_trans q5 h⟩, r1, r2, r3⟩
theorem Spr.upd {H : Hp} {st l D : Addr} {cs : List Int} {n : Nat} {o : HO} (S : Spr H st l cs n) (h1 : D ≠ st) (h2 : D ≠ l) : Spr (upd H D o) st l cs n := by
  obtain ⟨⟨i, k, c, g, e, q⟩, r1, r2, r3⟩ := S
  exact ⟨⟨i, k, c, g, by rw [upd_ne h1.symm]; exact e, q⟩, by rw [upd_ne h2.symm]; exact r1, r2, r3⟩
/-- one of a tuple's things -/
def spOneT : Sp := fun vs H Q _ => ∃ (st l a : Addr) (cs : List Int) (n : Nat) (xs : List V), vs = [.ref st, .ref a] ∧ H a = some (.tup xs) ∧ 0 < xs.length ∧ xs.length < 1000 ∧ n < 1000000 ∧ Spr H st l cs n ∧
  ∀ (x : V) (H' : Hp), x ∈ xs → Spr H' st l cs (n + 1) → (∀ b, b ≠ st → H' b = H b) → Q x H'
/-- t + u, the right one not empty and new -/
def rCatN (K : PySem.W.Frag) : R2 := fun x y H Q => ∃ a b xs ys, x = .ref a ∧ y = .ref b ∧ SqT K H a xs ∧ H b = some (.tup ys) ∧ ys ≠ [] ∧ xs.length + ys.length ≤ sizeLine ∧ ∀ t H', H' t = some (.tup (xs ++ ys)) → (t = b ∨ H t = none) → Same H H' → Q (.ref t) H'
theorem op_catN {X : Cx} {K : PySem.W.Frag} (h : X.K = K := by rfl) : OpR X (binaryOp .Add) (rCatN K) := by
  subst h
  intro pins s σ H x y v u Q I rx ry h
  obtain ⟨a, b, xs, ys, rfl, rfl, ha, hb, ne, hz, q⟩ := h
  exact op_catA pins s σ H _ _ v u Q I rx ry ⟨a, b, xs, ys, rfl, rfl, ha, SqT.of hb, hz, fun e => q b H (by rw [e]; exact hb) (.inl rfl) (Same.refl H), fun _ e => absurd e ne, fun _ _ p np => q p _ upd_same (.inr np) (same_new np _)⟩
end K1
set_option linter.all false
set_option maxRecDepth 100000
set_option maxHeartbeats 1000000
namespace K1
open PySem L2
/-- a fact of a value once, and what follows once -/
def tMid (t : TE) : TE := fun σ H Q => ∃ R : VK, t σ H R ∧ ∀ x H1, R x H1 → Q x H1
theorem pe_mid {X : Cx} {e : Expr} {t : TE} (h : PE X e t) : PE X e (tMid t) := ⟨fun pins s σ H Q I ⟨R, q, k⟩ => thn (h.run pins s σ H R I q) fun v s1 ⟨x, H1, I1, r1, p⟩ => ⟨x, H1, I1, r1, k x H1 p⟩⟩
/-- a drawn place -/
def nums : List Int := [0, 0, 1, 1, 2, 9, 10, 12, 10 ^ 29]
structure Drw (ns : List Int) : Prop where
  few : ns.length ≤ 8
  mem : ∀ x ∈ ns, x ∈ nums
theorem Drw.ok {ns : List Int} (h : Drw ns) : Ok ns := ⟨Nat.le_trans h.few (by decide), fun n hn => by
  have z := h.mem n hn
  unfold nums at z
  simp only [List.mem_cons, List.not_mem_nil, or_false] at z
  unfold BB
  rcases z with rfl | rfl | rfl | rfl | rfl | rfl | rfl | rfl | rfl <;> exact ⟨by decide, by decide⟩⟩
def spPlace : Sp := fun vs H Q _ => ∃ (st l : Addr) (cs : List Int) (n : Nat), vs = [.ref st] ∧ Spr H st l cs n ∧ n + 20 < 1000000 ∧
  ∀ (b : Addr) (ns : List Int) (H' : Hp) (n' : Nat), H b = none → H' b = some (.tup (ns.map V.int)) → Drw ns → Spr H' st l cs n' → n' ≤ n + 20 → But st H H' → Q (.ref b) H'
structure TxtP (mg : Str → Option Value) : Prop where
  range : mg "range" = none
section
variable {P : Program} {w : World} {K : PySem.W.Frag} {mg : Str → Option Value} {base : Heap}
abbrev NPl : List Str := ["_law_state", "_law_found", "_law_k"]
theorem scPl : FnScope NPl ["_law_state"] (defScope sPlace) := ⟨rfl, rfl, rfl, by decide +kernel, rfl, by decide +kernel, by decide +kernel⟩
theorem ok_place {f f1 f2 : Addr} {fd fd1 fd2 : FuncData} (F : Fun K "_law_place" "_law_place" sPlace f fd) (g1 : mg "_law_take" = some (.ref f1)) (k1 : PySem.W.keepIn K (.ref f1) = true) (b1 : Binds K fd1 ["_law_state", "_law_many"] []) (G1 : FnOk P w K mg base CX0 1 f1 fd1 ["_law_state", "_law_many"] spTake)
    (g2 : mg "_law_one" = some (.ref f2)) (k2 : PySem.W.keepIn K (.ref f2) = true) (b2 : Binds K fd2 ["_law_state", "_law_things"] []) (G2 : FnOk P w K mg base CX0 2 f2 fd2 ["_law_state", "_law_things"] spOne) (T : TxtP mg) : FnOk P w K mg base CX0 3 f fd ["_law_state"] spPlace := by
  refine F.ok scPl (fun vs H Q E h => ?_) (fun cdv A outer s H vs Q E hr h => ?_)
  · obtain ⟨st, l, cs, n, rfl, _⟩ := h
    rfl
  · obtain ⟨st, l, cs, n, rfl, S, hn, k⟩ := h
    have r1 : Room 1 _ := hr.mono (by decide)
    have r2 : Room 2 _ := hr.mono (by decide)
    refine ⟨_, pss_cons (ps_set (i := 1) scPl.nd rfl (.inl rfl) (pe_mid (pe_slice sl_tupA (pe_tup (pa_cons (pe_call G1 r1 (by rfl) g1 k1 b1 .nil pass0 (pa_cons (pv 0) (pa_cons pe_int pa_nil))) pa_nil)) po_none (po_some (pe_call G1 r1 (by rfl) g1 k1 b1 .nil pass0 (pa_cons (pv 0) (pa_cons pe_int pa_nil)))))))
      (pss_cons (ps_for PassesOwn.never rfl (pi_range1 (by rfl) T.range (pa_cons (pe_mid (pe_ifExp (pt_cmpR (op_neD hr.units) (pv 1) (pe_tup pa_nil) (nomark _)) (pe_call G1 r1 (by rfl) g1 k1 b1 .nil pass0 (pa_cons (pv 0) (pa_cons pe_int pa_nil))) pe_int)) pa_nil)) (pg_name (i := 2) scPl.nd rfl (Or.inl rfl))
        (pss_one (ps_set (i := 1) scPl.nd rfl (.inl rfl) (pe_op (op_catN (K := K)) (pv 1) (pe_tup (pa_cons (pe_call G2 r2 (by rfl) g2 k2 b2 .nil pass0 (pa_cons (pv 0) (pa_cons (pe_lst (pa_cons pe_int (pa_cons pe_int (pa_cons pe_int (pa_cons pe_int (pa_cons pe_int (pa_cons pe_int (pa_cons pe_int (pa_cons pe_int (pa_cons (pe_op op_pow pe_int pe_int) pa_nil)))))))))) pa_nil))) pa_nil))))))
      (pss_one (ps_ret (pv 1)))), ?_⟩
    refine ⟨fun v H' => ∃ (b : Addr) (ns : List Int) (n' : Nat), v = .ref b ∧ H b = none ∧ H' b = some (.tup (ns.map V.int)) ∧ ns.length ≤ 1 ∧ (∀ x ∈ ns, x ∈ nums) ∧ Spr H' st l cs n' ∧ n' ≤ n + 2 ∧ But st H H', ?_, ?_⟩
    · refine ⟨_, rfl, st, l, cs, n, 3, rfl, by decide, by decide, by omega, S, fun r H1 r0 r3 S1 hk1 => ⟨sz (Nat.le_of_ble_eq_true rfl), fun t nt => ?_⟩⟩
      have B1 : But st H H1 := But.eq hk1
      have s2 := same_new nt (.tup [.int r])
      have nts := S1.not nt
      have rn : r ∈ nums := by
        unfold nums
        have : r = 0 ∨ r = 1 ∨ r = 2 := by omega
        rcases this with rfl | rfl | rfl <;> decide
      refine ⟨_, rfl, st, l, cs, n + 1, 12, rfl, by decide, by decide, by omega, S1.mono s2, fun m H2 m0 m1 S2 hk2 => ?_⟩
      have B2 : But st H H2 := (B1.trans (But.of s2)).trans (But.eq hk2)
      have t2 : H2 t = some (.tup [.int r]) := by rw [hk2 t nts]; exact upd_same
      refine ⟨m, rfl, t, _, rfl, SqT.of t2, fun full => ⟨t, [r], n + 2, rfl, B1.free nt nts, t2, Nat.le_refl _, fun x hx => by rw [List.mem_singleton.mp hx]; exact rn, S2, Nat.le_refl _, B2⟩, fun nf p np => ?_⟩
      have ep : cutV ([r].map V.int) none (some m) = ([].map V.int : List V) ∨ m ≠ 0 := by
        by_cases z : m = 0
        · subst z; exact .inl rfl
        · exact .inr z
      rcases ep with ep | nz
      · refine ⟨p, [], n + 2, rfl, B2.free np (S2.not np), ?_, Nat.zero_le _, (fun x hx => nomatch hx), S2.mono (same_new np _), Nat.le_refl _, B2.trans (But.of (same_new np _))⟩
        rw [upd_same]
        exact congrArg (fun z => some (HO.tup z)) ep
      · exfalso
        refine nf ⟨rfl, ?_⟩
        show (if m < 0 then (m + ((1 : Nat) : Int)).toNat else min m.toNat 1) = 1
        rw [if_neg (by omega)]
        omega
    · rintro _ H3 ⟨b, ns, n3, rfl, nb, hb, l1, hm, S3, ln3, B3⟩
      refine ⟨fun v H' => ∃ (j : Int) (n' : Nat), v = .int j ∧ 0 ≤ j ∧ j ≤ 7 ∧ H' b = some (.tup (ns.map V.int)) ∧ Spr H' st l cs n' ∧ n' ≤ n + 3 ∧ But st H H', ?_, ?_⟩
      · refine ⟨_, rfl, sz (Nat.zero_le _), fun t nt => ⟨dT ns, .tuple [], ?_⟩⟩
        have s4 := same_new nt (.tup [])
        have B4 := B3.trans (But.of s4)
        refine ⟨dp_T (s4 _ _ hb), .tup (SqT.of upd_same) .nil, sh_dT ns, by decide +kernel, _, rfl, ite2 (fun c => ?_) fun c => ?_⟩
        · refine ⟨_, rfl, st, l, cs, n3, 8, rfl, by decide, by decide, by omega, S3.mono s4, fun r H5 r0 r8 S5 hk5 => ?_⟩
          have nbs : b ≠ st := S3.no hb (fun _ z => by cases z)
          exact ⟨r, n3 + 1, rfl, r0, by omega, by rw [hk5 b nbs]; exact s4 _ _ hb, S5, by omega, B4.trans (But.eq hk5)⟩
        · exact ⟨0, n3, rfl, Int.le_refl _, by decide, s4 _ _ hb, S3.mono s4, by omega, B4⟩
      · rintro _ H4 ⟨j, n4, rfl, j0, j7, h4, S4, ln4, B4⟩
        refine ⟨j, rfl, by omega, by omega, ?_⟩
        refine for_range (n := j.toNat) (fun i σ H5 => ∃ (b5 : Addr) (ns5 : List Int) (v : Option V) (n5 : Nat), σ = [some (.ref st), some (.ref b5), v] ∧ H b5 = none ∧ H5 b5 = some (.tup (ns5.map V.int)) ∧ ns5.length ≤ 1 + i ∧ (∀ x ∈ ns5, x ∈ nums) ∧ Spr H5 st l cs n5 ∧ n5 ≤ n + 3 + i ∧ But st H H5)
          ⟨b, ns, _, n4, rfl, nb, h4, l1, hm, S4, by omega, B4⟩ ?_ ?_
        · rintro i σ H5 hi ⟨b5, ns5, v, n5, rfl, nb5, h5, l5, hm5, S5, ln5, B5⟩
          refine ⟨_, rfl, _, rfl, _, _, rfl, rfl, ⟨by decide, by decide, by decide⟩, sz (Nat.le_of_ble_eq_true rfl), fun L nL => ?_⟩
          have s6 := same_new nL (.lst (nums.map V.int))
          refine ⟨st, l, L, cs, n5, nums.map V.int, rfl, upd_same, S5.not nL, by decide, by decide, by omega, S5.mono s6, fun x H7 mx S7 hk7 => ?_⟩
          obtain ⟨z, hz, rfl⟩ := List.mem_map.mp mx
          have B7 : But st H H7 := (B5.trans (But.of s6)).trans (But.eq hk7)
          refine ⟨sz (Nat.le_of_ble_eq_true rfl), fun t nt => ?_⟩
          have s8 := same_new nt (.tup [.int z])
          have nb5s : b5 ≠ st := S5.no h5 (fun _ z => by cases z)
          have h8 : upd H7 t (.tup [.int z]) b5 = some (.tup (ns5.map V.int)) := s8 _ _ (by rw [hk7 b5 nb5s]; exact s6 _ _ h5)
          have nt0 : H t = none := B7.free nt (S7.not nt)
          have B8 := B7.trans (But.of s8)
          refine ⟨b5, t, ns5.map V.int, [.int z], rfl, rfl, SqT.of h8, upd_same, by simp, sz (by rw [List.length_map]; simp only [List.length_cons, List.length_nil]; omega), fun u H9 hu alt s9 => ?_⟩
          refine ⟨u, ns5 ++ [z], _, n5 + 1, rfl, ?_, by rw [hu, List.map_append]; rfl, by rw [List.length_append]; simp only [List.length_cons, List.length_nil]; omega, fun x hx => ?_, (S7.mono s8).mono s9, by omega, B8.trans (But.of s9)⟩
          · rcases alt with rfl | nu
            · exact nt0
            · exact B8.free nu ((S7.mono s8).not nu)
          · rcases List.mem_append.mp hx with h | h
            · exact hm5 x h
            · rw [List.mem_singleton.mp h]; exact hz
        · rintro σ H5 ⟨b5, ns5, v, n5, rfl, nb5, h5, l5, hm5, S5, ln5, B5⟩
          exact ⟨_, rfl, k b5 ns5 H5 n5 nb5 h5 ⟨by omega, hm5⟩ S5 (by omega) B5⟩
end
end K1
set_option linter.all false
set_option maxRecDepth 100000
set_option maxHeartbeats 1000000
namespace K1
open PySem L2
def spFits : Sp := fun vs H Q _ => ∃ (v : V) (d : PyData), vs = [v] ∧ Dq H v d ∧ LimP d ∧ ∀ H', Same H H' → Q (.bl (placeD d).isSome) H'
theorem call_isiO {X : Cx} {K : PySem.W.Frag} (h : X.K = K := by rfl) : CallR X (.builtin "isinstance") (rIsi K) := by
  subst h
  exact call_isi
structure TxtFi (mg : Str → Option Value) : Prop where
  isi : mg "isinstance" = none
  list : mg "list" = none
  tuple : mg "tuple" = none
  int : mg "int" = none
  bool : mg "bool" = none
  all : mg "all" = none
section
variable {P : Program} {w : World} {K : PySem.W.Frag} {mg : Str → Option Value} {base : Heap}
theorem scFi : FnScope ["_law_thing", "_law_x"] ["_law_thing"] (defScope sFits) := ⟨rfl, rfl, rfl, by decide +kernel, rfl, by decide +kernel, by decide +kernel⟩
theorem ok_fits {f : Addr} {fd : FuncData} (F : Fun K "_law_fits" "_law_fits" sFits f fd) (T : TxtFi mg) : FnOk P w K mg base CX0 1 f fd ["_law_thing"] spFits := by
  refine F.ok scFi (fun vs H Q E h => ?_) (fun cdv A outer s H vs Q E hr h => ?_)
  · obtain ⟨v, d, rfl, _⟩ := h
    rfl
  · obtain ⟨v, d, rfl, hv, lim, k⟩ := h
    refine ⟨_, pss_cons (ps_if (pt_not (pt_val (pe_callB call_isiT (by rfl) T.isi (by decide +kernel) (pa_cons (pv 0) (pa_cons (pe_tup (pa_cons (pe_bltn (v := .ty "list") (by rfl) T.list (by decide +kernel) rfl) (pa_cons (pe_bltn (v := .ty "tuple") (by rfl) T.tuple (by decide +kernel) rfl) pa_nil))) pa_nil))))) (pss_one (ps_ret pe_bl)) pss_nil)
      (pss_one (ps_ret (pe_callB (cr_all rfl) (by rfl) T.all (by decide +kernel) (pa_cons (pe_lc (own := [("_law_x", 1)]) (g := gName 1) (tt := tYes) rfl scFi.nd (pi_or (pi_list (pv 0)) (pi_tup (pv 0))) (blkOk_by (N := ["_law_thing", "_law_x"]) (sc := defScope sFits) (by decide +kernel))
          (fun _ _ _ _ _ => pg_name (i := 1) scFi.nd rfl (Or.inl rfl)) (fun _ _ _ _ _ => pts_nil) (fun _ _ _ _ _ => pe_and (pe_callB (call_isiO (K := K)) (by rfl) T.isi (by decide +kernel) (pa_cons (pv 1) (pa_cons (pe_bltn (v := .ty "int") (by rfl) T.int (by decide +kernel) rfl) pa_nil)))
            (pe_and (pe_not (pe_callB (call_isiO (K := K)) (by rfl) T.isi (by decide +kernel) (pa_cons (pv 1) (pa_cons (pe_bltn (v := .ty "bool") (by rfl) T.bool (by decide +kernel) rfl) pa_nil)))) (pe_one (pe_cmpR op_ge (pv 1) pe_int (nomark _)))))) pa_nil)))), ?_⟩
    refine ⟨_, rfl, sz (Nat.le_of_ble_eq_true rfl), fun t m => ⟨_, t, _, _, _, (seqD d).isSome, rfl, upd_same, .cons (.ty _) (.cons (.ty _) .nil), (hv.same (same_new m _)).ty, kit_seq d, ?_⟩⟩
    have s1 := same_new m (.tup [.ty "list", .ty "tuple"])
    generalize upd H t (.tup [.ty "list", .ty "tuple"]) = H1 at s1
    refine ⟨_, rfl, ?_⟩
    cases e : seqD d with
    | none =>
      have pD : placeD d = none := by unfold placeD; rw [e]
      rw [pD] at k
      exact iteT (k H1 s1)
    | some ds =>
      have pD : (placeD d).isSome = ds.all natD := by
        unfold placeD
        rw [e]
        show Option.isSome (if ds.all natD = true then some (intsD ds) else none) = _
        cases ds.all natD <;> rfl
      rw [pD] at k
      obtain ⟨t, a, xs, rfl, hA, hs, _⟩ := hv.seq e
      refine iteF ?_
      refine or_var rfl (s1 _ _ hA) fun J wk D nD => ?_
      have lx := hs.len
      have few := lim ds e
      refine lc_it wk (fun i H9 => H9 D = some (.lst (((ds.take i).map natD).map V.bl)) ∧ Same H1 H9) ⟨upd_same, same_new nD _⟩ (fun i H9 _ h9 => (s1.trans h9.2) _ _ hA) ?_ ?_
      · rintro i y H9 H9' hi ⟨h9, s9⟩ ⟨rfl, hy⟩
        obtain ⟨e1, he1, dy⟩ := hs.get hy
        have done : ∀ b, natD e1 = b → ∃ acc, H9' D = some (.lst acc) ∧ acc.length < sizeLine ∧ upd H9' D (.lst (acc ++ [.bl b])) D = some (.lst (((ds.take (i + 1)).map natD).map V.bl)) ∧ Same H1 (upd H9' D (.lst (acc ++ [.bl b]))) := fun b hb => by
          refine ⟨_, h9, ?_, ?_, fun c o hc => ?_⟩
          · rw [List.length_map, List.length_map, List.length_take]
            exact small1000 (by omega)
          · rw [upd_same, List.take_add_one, he1]
            simp only [Option.toList_some, List.map_append, List.map_cons, List.map_nil, hb]
          · rw [upd_ne (ne_of_none hc nD)]
            exact s9 _ _ hc
        have dy9 := (dy.same s1).same s9
        refine ⟨rfl, _, rfl, y, _, _, _, isI e1, rfl, .ty _, dy9.ty, kit_int e1, _, rfl, ?_⟩
        cases i1 : isI e1 with
        | false => exact iteF (done false (nat_no (by rw [i1]; rfl)))
        | true =>
          refine iteT ⟨_, rfl, y, _, _, _, isB e1, rfl, .ty _, dy9.ty, kit_bool e1, _, rfl, _, rfl, ?_⟩
          cases i2 : isB e1 with
          | true => exact iteF (done false (nat_no (by rw [i1, i2]; rfl)))
          | false =>
            obtain ⟨n, rfl⟩ := int_of (d := e1) (by rw [i1, i2]; rfl)
            cases dy
            exact iteT ⟨_, rfl, _, _, rfl, rfl, done _ rfl⟩
      · rintro H9 ⟨h9, s9⟩
        refine ⟨D, _, rfl, SqL.of h9, ?_⟩
        rw [lx, List.take_of_length_le (Nat.le_refl _)]
        have e3 : (ds.map natD).all id = ds.all natD := by rw [List.all_map]; rfl
        rw [e3]
        exact k H9 (s1.trans s9)
end
end K1
set_option linter.all false
set_option maxRecDepth 100000
set_option maxHeartbeats 1000000
namespace K1
open PySem L2
/-! ### the same thing, with lists and tuples as drawn -/
mutual
/-- tuples throughout -/
def tupd : PyData → PyData
  | .list ds => .tuple (tupds ds)
  | .tuple ds => .tuple (tupds ds)
  | d => d
def tupds : List PyData → List PyData
  | [] => []
  | d :: r => tupd d :: tupds r
end
mutual
/-- how many lists and tuples -/
def cnt : PyData → Nat
  | .list ds => cnts ds + 1
  | .tuple ds => cnts ds + 1
  | _ => 0
def cnts : List PyData → Nat
  | [] => 0
  | d :: r => cnt d + cnts r
end
mutual
def dep : PyData → Nat
  | .list ds => deps ds + 1
  | .tuple ds => deps ds + 1
  | _ => 0
def deps : List PyData → Nat
  | [] => 0
  | d :: r => max (dep d) (deps r)
end
mutual
def wid : PyData → Prop
  | .list ds => ds.length ≤ 900 ∧ wids ds
  | .tuple ds => ds.length ≤ 900 ∧ wids ds
  | _ => True
def wids : List PyData → Prop
  | [] => True
  | d :: r => wid d ∧ wids r
end
theorem tupds_app : ∀ a b, tupds (a ++ b) = tupds a ++ tupds b
  | [], _ => by simp only [tupds, List.nil_append]
  | d :: r, b => by simp only [tupds, List.cons_append, tupds_app r b]
theorem cnts_app : ∀ a b, cnts (a ++ b) = cnts a + cnts b
  | [], _ => by simp only [cnts, List.nil_append, Nat.zero_add]
  | d :: r, b => by simp only [cnts, List.cons_append, cnts_app r b, Nat.add_assoc]
theorem deps_mem : ∀ {ds : List PyData} {d : PyData}, d ∈ ds → dep d ≤ deps ds
  | e :: r, d, h => by
    simp only [deps]
    rcases List.mem_cons.mp h with h | h
    · subst h
      omega
    · have := deps_mem h
      omega
theorem wids_mem : ∀ {ds : List PyData} {d : PyData}, d ∈ ds → wids ds → wid d
  | e :: r, d, h, k => by
    simp only [wids] at k
    rcases List.mem_cons.mp h with h | h
    · subst h
      exact k.1
    · exact wids_mem h k.2
theorem cnts_take {ds : List PyData} {i : Nat} {d : PyData} (h : ds[i]? = some d) : cnts (ds.take (i + 1)) = cnts (ds.take i) + cnt d := by
  rw [List.take_add_one, h, cnts_app]
  simp only [Option.toList_some, cnts, Nat.add_zero]
theorem tupds_take {ds : List PyData} {i : Nat} {d : PyData} (h : ds[i]? = some d) : tupds (ds.take (i + 1)) = tupds (ds.take i) ++ [tupd d] := by
  rw [List.take_add_one, h, tupds_app]
  simp only [Option.toList_some, tupds]
theorem cnts_le (ds : List PyData) (i : Nat) : cnts (ds.take i) ≤ cnts ds := by
  have h := cnts_app (ds.take i) (ds.drop i)
  rw [List.take_append_drop] at h
  omega
theorem tupd_seq (d : PyData) : seqD (tupd d) = (seqD d).map tupds := by cases d <;> simp only [tupd, seqD, Option.map]
theorem tupd_str (d : PyData) : strD (tupd d) = strD d := by cases d <;> simp only [tupd, strD]
theorem seq_dep {d : PyData} {ds : List PyData} (h : seqD d = some ds) : dep d = deps ds + 1 ∧ cnt d = cnts ds + 1 ∧ (wid d → ds.length ≤ 900 ∧ wids ds) ∧ tupd d = .tuple (tupds ds) := by
  cases d with
  | list _ => cases h; exact ⟨by simp only [dep], by simp only [cnt], (fun h => by simpa only [wid] using h), by simp only [tupd]⟩
  | tuple _ => cases h; exact ⟨by simp only [dep], by simp only [cnt], (fun h => by simpa only [wid] using h), by simp only [tupd]⟩
  | none => cases h
  | bool _ => cases h
  | int _ => cases h
  | str _ => cases h
  | dict _ => cases h
/-- what is new -/
def fresh (H H' : Hp) : Hp := fun b => match H b with
  | none => H' b
  | some _ => none
theorem fresh_some {H H' : Hp} {b : Addr} {o : HO} (h : fresh H H' b = some o) : H b = none ∧ H' b = some o := by
  unfold fresh at h
  cases e : H b with
  | none =>
    rw [e] at h
    exact ⟨rfl, h⟩
  | some u =>
    rw [e] at h
    cases h
theorem fresh_of {H H' : Hp} {b : Addr} (h : H b = none) : fresh H H' b = H' b := by
  unfold fresh
  rw [h]
/-- the one, then the other -/
def jn (W F : Hp) : Hp := fun b => match W b with
  | some o => some o
  | none => F b
theorem jn_l {W F : Hp} {b : Addr} {o : HO} (h : W b = some o) : jn W F b = some o := by unfold jn; rw [h]
theorem jn_r {W F : Hp} {b : Addr} (h : W b = none) : jn W F b = F b := by unfold jn; rw [h]
theorem jn_some {W F : Hp} {b : Addr} {o : HO} (h : jn W F b = some o) : W b = some o ∨ (W b = none ∧ F b = some o) := by
  cases e : W b with
  | some u => rw [jn_l e] at h; exact .inl h
  | none => rw [jn_r e] at h; exact .inr ⟨rfl, h⟩
theorem jn_mono {W F G : Hp} (h : ∀ b o, W b = none → F b = some o → G b = some o) : ∀ b o, jn W F b = some o → jn W G b = some o := fun b o e => by
  rcases jn_some e with z | ⟨z, y⟩
  · exact jn_l z
  · rw [jn_r z]; exact h b o z y
def spLooseQ (D : Nat) : Sp := fun vs H Q _ => ∃ (st l : Addr) (cs : List Int) (n : Nat) (v : V) (d : PyData) (W : Hp), vs = [.ref st, v] ∧ dep d ≤ D ∧ wid d ∧ n + cnt d < 900000 ∧ Spr H st l cs n ∧ Dq W v d ∧ (∀ b o, W b = some o → H b = some o ∧ b ≠ st) ∧
  ∀ (v' : V) (d' : PyData) (H' : Hp) (n' : Nat), Dq (jn W (fresh H H')) v' d' → tupd d' = tupd d → Spr H' st l cs n' → n' ≤ n + cnt d → But st H H' → Q v' H'
def spNoL : Sp := fun vs _ _ _ => (∃ a b : V, vs = [a, b]) ∧ False
section
variable {P : Program} {w : World} {K : PySem.W.Frag} {mg : Str → Option Value} {base : Heap}
abbrev NLo : List Str := ["_law_state", "_law_thing", "_law_found", "_law_x"]
theorem scLo : FnScope NLo ["_law_state", "_law_thing"] (defScope sLoose) := ⟨rfl, rfl, rfl, by decide +kernel, rfl, by decide +kernel, by decide +kernel⟩
theorem ok_looseQ {f f1 : Addr} {fd fd1 : FuncData} (D : Nat) (F : Fun K "_law_loose" "_law_loose" sLoose f fd) (g1 : mg "_law_take" = some (.ref f1)) (k1 : PySem.W.keepIn K (.ref f1) = true) (b1 : Binds K fd1 ["_law_state", "_law_many"] []) (G1 : FnOk P w K mg base CX0 1 f1 fd1 ["_law_state", "_law_many"] spTake)
    (g : mg "_law_loose" = some (.ref f)) (bb : Binds K fd ["_law_state", "_law_thing"] []) (hl : mg "list" = none) (ht : mg "tuple" = none) (hi : mg "isinstance" = none)
    (G : FnOk P w K mg base CX0 (D + 1) f fd ["_law_state", "_law_thing"] (match D with | 0 => spNoL | e + 1 => spLooseQ e)) : FnOk P w K mg base CX0 (D + 2) f fd ["_law_state", "_law_thing"] (spLooseQ D) := by
  refine F.ok scLo (fun vs H Q E h => ?_) (fun cdv A outer s H vs Q E hr h => ?_)
  · obtain ⟨st, l, cs, n, v, d, W, rfl, _⟩ := h
    rfl
  · obtain ⟨st, l, cs, n, v, d, W, rfl, hd, hw, hn, S, dq, hW, k⟩ := h
    have r1 : Room 1 _ := hr.mono (by omega)
    refine ⟨_, pss_cons (ps_if (pt_val (pe_callB call_isiT (by rfl) hi (by decide +kernel) (pa_cons (pv 1) (pa_cons (pe_tup (pa_cons (pe_bltn (v := .ty "list") (by rfl) hl (by decide +kernel) rfl) (pa_cons (pe_bltn (v := .ty "tuple") (by rfl) ht (by decide +kernel) rfl) pa_nil))) pa_nil))))
        (pss_cons (ps_setLc (i := 2) (own := [("_law_x", 3)]) (g := gName 3) (tt := tYes) rfl scLo.nd rfl rfl (sw_true rfl rfl rfl rfl) (pi_or (pi_list (pv 1)) (pi_tup (pv 1))) (blkOk_by (N := NLo) (sc := defScope sLoose) (by decide +kernel)) (fun _ _ _ _ _ => pg_name (i := 3) scLo.nd rfl (Or.inl rfl)) (fun _ _ _ _ _ => pts_nil)
          (fun _ _ _ _ _ => pe_call G hr (by rfl) g F.kp bb .nil pass0 (pa_cons (pv 0) (pa_cons (pv 3) pa_nil))))
        (pss_one (ps_ret (pe_ifExp (pt_cmpR op_eq (pe_call G1 r1 (by rfl) g1 k1 b1 .nil pass0 (pa_cons (pv 0) (pa_cons pe_int pa_nil))) pe_int (nomark _)) (pv 2) (pe_callTy call_tuple_of (by rfl) ht (by decide +kernel) (pa_cons (pv 2) pa_nil)))))) pss_nil)
      (pss_one (ps_ret (pv 1))), ?_⟩
    have sW : Same W H := fun b o e => (hW b o e).1
    refine ⟨_, rfl, sz (Nat.le_of_ble_eq_true rfl), fun t m => ⟨_, t, _, _, _, (seqD d).isSome, rfl, upd_same, .cons (.ty _) (.cons (.ty _) .nil), (dq.same (sW.trans (same_new m _))).ty, kit_seq d, _, rfl, ?_⟩⟩
    have s1 := same_new m (.tup [.ty "list", .ty "tuple"])
    cases e : seqD d with
    | none =>
      refine iteF ⟨_, rfl, ?_⟩
      exact k v d _ n (dq.same fun b o z => jn_l z) rfl (S.mono s1) (Nat.le_add_right _ _) (But.of s1)
    | some ds =>
      obtain ⟨e1, e2, e3, e4⟩ := seq_dep e
      obtain ⟨hw1, hw2⟩ := e3 hw
      obtain ⟨t0, a, xs, rfl, hA, hs, _⟩ := dq.seq e
      have lx := hs.len
      obtain ⟨D', rfl⟩ : ∃ e, D = e + 1 := ⟨D - 1, by omega⟩
      refine iteT ?_
      refine or_var rfl (s1 _ _ (sW _ _ hA)) fun J wk D nD => ?_
      have s2 := same_new nD (.lst [])
      have S2 := (S.mono s1).mono s2
      have nDs := (S.mono s1).not nD
      have hD0 : H D = none := s1.free nD
      obtain ⟨_, _, _, _, hstD, _⟩ := S2.ex
      obtain ⟨HD, eD⟩ : ∃ X : Hp, X = upd (upd H t (.tup [.ty "list", .ty "tuple"])) D (.lst []) := ⟨_, rfl⟩
      rw [← eD] at hstD
      have hDD : HD D = some (.lst []) := by
        rw [eD]
        exact upd_same
      have s12 : Same H HD := by
        rw [eD]
        exact s1.trans s2
      have wD : W D = none := by
        cases q : W D with
        | none => rfl
        | some u => rw [(hW D u q).1] at hD0; cases hD0
      refine lc_it wk (fun i H9 => ∃ (acc : List V) (es : List PyData) (n9 : Nat), H9 D = some (.lst acc) ∧ DqAll (jn W (fresh HD H9)) acc es ∧ tupds es = tupds (ds.take i) ∧ Spr H9 st l cs n9 ∧ n9 ≤ n + cnts (ds.take i) ∧ But st H H9 ∧ acc.length = i ∧ (∀ b o, b ≠ st → b ≠ D → HD b = some o → H9 b = some o)) ?_ ?_ ?_ ?_
      · refine ⟨[], [], n, upd_same, .nil, rfl, S2, Nat.le_add_right _ _, But.of (s1.trans s2), rfl, fun b o _ _ h => ?_⟩
        rw [eD] at h
        exact h
      · rintro i H9 _ ⟨acc, es, n9, hD9, dp9, te9, S9, l9, B9, la, kp⟩
        exact B9 _ _ (hW _ _ hA).2 (sW _ _ hA)
      · rintro i x H9 H9' hi ⟨acc, es, n9, hD9, dp9, te9, S9, l9, B9, la, kp⟩ ⟨rfl, hx⟩
        obtain ⟨d1, hd1, dx⟩ := hs.get hx
        have mem := List.mem_of_getElem? hd1
        have w1 := wids_mem mem hw2
        have p1 := deps_mem mem
        have c1 := cnts_take hd1
        have c2 := cnts_le ds (i + 1)
        have ix : i < xs.length := (List.getElem?_eq_some_iff.mp hx).1
        refine ⟨rfl, _, rfl, _, rfl, st, l, cs, n9, x, d1, W, rfl, by omega, w1, by omega, S9, dx, fun b o z => ⟨B9 b o (hW b o z).2 (hW b o z).1, (hW b o z).2⟩, fun v' d' H10 n10 dv tv S10 l10 B10 => ?_⟩
        have hD10 := B10 D _ nDs hD9
        refine ⟨acc, hD10, small1000 (by omega), acc ++ [v'], es ++ [d'], n10, upd_same, ?_, ?_, ?_, by omega, ?_, by rw [List.length_append, la]; rfl, ?_⟩
        · refine DqAll.app (dp9.mono (jn_mono fun b o _ h => ?_)) (.cons (dv.mono (jn_mono fun b o _ h => ?_)) .nil)
          · obtain ⟨h1, h2⟩ := fresh_some h
            have n1 : b ≠ D := fun z => by
              rw [z, hDD] at h1
              cases h1
            have n2 : b ≠ st := fun z => by
              rw [z, hstD] at h1
              cases h1
            rw [fresh_of h1, upd_ne n1]
            exact B10 b o n2 h2
          · obtain ⟨h1, h2⟩ := fresh_some h
            have n1 : b ≠ D := fun z => by
              rw [z, hD9] at h1
              cases h1
            have n2 : HD b = none := by
              cases q : HD b with
              | none => rfl
              | some u =>
                obtain ⟨_, _, _, _, hst9, _⟩ := S9.ex
                have n3 : b ≠ st := fun z => by
                  rw [z, hst9] at h1
                  cases h1
                rw [kp b u n3 n1 q] at h1
                cases h1
            rw [fresh_of n2, upd_ne n1]
            exact h2
        · rw [tupds_app, te9, tupds_take hd1]
          simp only [tupds, tv]
        · exact S10.upd nDs (ne_of_none S.ls hD0).symm
        · intro b o n1 hb
          rw [upd_ne (ne_of_none hb hD0)]
          exact B10 b o n1 (B9 b o n1 hb)
        · intro b o n1 n2 hb
          rw [upd_ne n2]
          exact B10 b o n1 (kp b o n1 n2 hb)
      · rintro H9 ⟨acc, es, n9, hD9, dp9, te9, S9, l9, B9, la, kp⟩
        rw [List.take_of_length_le (by omega)] at te9 l9
        refine ⟨_, rfl, st, l, cs, n9, 2, rfl, by decide, by decide, by omega, S9, fun r H10 r0 r2 S10 hk10 => ⟨rfl, _, rfl, ?_⟩⟩
        have B10 : But st H9 H10 := But.eq hk10
        have hD10 := B10 D _ nDs hD9
        have dp10 : DqAll (jn W (fresh H H10)) acc es := dp9.mono (jn_mono fun b o _ h => by
          obtain ⟨h1, h2⟩ := fresh_some h
          have n2 : b ≠ st := fun z => by
            rw [z, hstD] at h1
            cases h1
          have n3 : H b = none := by
            cases q : H b with
            | none => rfl
            | some u =>
              rw [s12 _ _ q] at h1
              cases h1
          rw [fresh_of n3]
          exact B10 b o n2 h2)
        refine ite2 (fun c => ?_) fun c => ?_
        · refine ⟨_, rfl, k _ (.list es) H10 _ (.lst (by rw [jn_r wD, fresh_of hD0]; exact hD10) dp10) (by rw [e4]; simp only [tupd, te9]) S10 (by omega) (B9.trans B10)⟩
        · refine ⟨_, rfl, D, acc, rfl, .inl ⟨SqL.of hD10, fun t2 m2 => ?_⟩⟩
          have s3 := same_new m2 (.tup acc)
          have ht0 : H t2 = none := (B9.trans B10).free m2 (S10.not m2)
          have wt : W t2 = none := by
            cases q : W t2 with
            | none => rfl
            | some u => rw [(hW t2 u q).1] at ht0; cases ht0
          refine k _ (.tuple es) _ _ (.tup (by rw [jn_r wt, fresh_of ht0]; exact upd_same) (dp10.mono (jn_mono fun b o _ h => ?_))) (by rw [e4]; simp only [tupd, te9]) (S10.mono s3) (by omega) ((B9.trans B10).trans (But.of s3))
          obtain ⟨h1, h2⟩ := fresh_some h
          rw [fresh_of h1]
          exact s3 _ _ h2
theorem ok_looseQD {f f1 : Addr} {fd fd1 : FuncData} (F : Fun K "_law_loose" "_law_loose" sLoose f fd) (g1 : mg "_law_take" = some (.ref f1)) (k1 : PySem.W.keepIn K (.ref f1) = true) (b1 : Binds K fd1 ["_law_state", "_law_many"] []) (G1 : FnOk P w K mg base CX0 1 f1 fd1 ["_law_state", "_law_many"] spTake)
    (g : mg "_law_loose" = some (.ref f)) (bb : Binds K fd ["_law_state", "_law_thing"] []) (hl : mg "list" = none) (ht : mg "tuple" = none) (hi : mg "isinstance" = none) :
    ∀ D : Nat, FnOk P w K mg base CX0 (D + 2) f fd ["_law_state", "_law_thing"] (spLooseQ D)
  | 0 => ok_looseQ 0 F g1 k1 b1 G1 g bb hl ht hi (F.ok scLo (fun vs H Q E h => by obtain ⟨⟨a, b, rfl⟩, _⟩ := h; rfl) (fun cdv A outer s H vs Q E hr h => h.2.elim))
  | D + 1 => ok_looseQ (D + 1) F g1 k1 b1 G1 g bb hl ht hi (ok_looseQD F g1 k1 b1 G1 g bb hl ht hi D)
end
end K1
set_option linter.all false
set_option maxRecDepth 100000
set_option maxHeartbeats 1000000
namespace K1
open PySem L2
/-- things that are no places -/
def oddDs : List PyData := [.none, .int 5, .str "a", .str "00", .dict [], .tuple [.int 0, .int (-1)], .tuple [.bool true], .tuple [.int 0, .bool false], .tuple [.int 0, .str "1"], .list [.list [.int 0]], .tuple [.tuple [.int 0, .int 0]], .tuple [.none], .tuple [.int (-1)]]
def spOdd : Sp := fun vs H Q _ => vs = [] ∧ ∀ (a : Addr) (xs : List V) (H' : Hp), Same H H' → H a = none → H' a = some (.lst xs) → DqAll (fresh H H') xs oddDs → Q (.ref a) H'
section
variable {P : Program} {w : World} {K : PySem.W.Frag} {mg : Str → Option Value} {base : Heap}
theorem scOd : FnScope [] [] (defScope sOdd) := ⟨rfl, rfl, rfl, by decide +kernel, rfl, by decide +kernel, by decide +kernel⟩
theorem ok_odd {f : Addr} {fd : FuncData} (F : Fun K "_law_odd" "_law_odd" sOdd f fd) : FnOk P w K mg base CX0 1 f fd [] spOdd := by
  refine F.ok scOd (fun vs H Q E h => ?_) (fun cdv A outer s H vs Q E hr h => ?_)
  · obtain ⟨rfl, _⟩ := h
    rfl
  · obtain ⟨rfl, k⟩ := h
    refine ⟨_, pss_one (ps_ret (pe_lst (pa_cons pe_non (pa_cons pe_int (pa_cons pe_str (pa_cons pe_str (pa_cons pe_dnewK (pa_cons (pe_tup (pa_cons pe_int (pa_cons (pe_un un_neg pe_int) pa_nil))) (pa_cons (pe_tup (pa_cons pe_bl pa_nil)) (pa_cons (pe_tup (pa_cons pe_int (pa_cons pe_bl pa_nil))) (pa_cons (pe_tup (pa_cons pe_int (pa_cons pe_str pa_nil))) (pa_cons (pe_lst (pa_cons (pe_lst (pa_cons pe_int pa_nil)) pa_nil)) (pa_cons (pe_tup (pa_cons (pe_tup (pa_cons pe_int (pa_cons pe_int pa_nil))) pa_nil)) (pa_cons (pe_tup (pa_cons pe_non pa_nil)) (pa_cons (pe_tup (pa_cons (pe_un un_neg pe_int) pa_nil)) pa_nil))))))))))))))), ?_⟩
    refine fun p1 n1 => ⟨_, rfl, sz (Nat.le_of_ble_eq_true rfl), fun p2 n2 => ⟨sz (Nat.le_of_ble_eq_true rfl), fun p3 n3 => ⟨sz (Nat.le_of_ble_eq_true rfl), fun p4 n4 => ⟨sz (Nat.le_of_ble_eq_true rfl), fun p5 n5 => ⟨sz (Nat.le_of_ble_eq_true rfl), fun p6 n6 => ⟨sz (Nat.le_of_ble_eq_true rfl), fun p7 n7 => ⟨sz (Nat.le_of_ble_eq_true rfl), fun p8 n8 => ⟨sz (Nat.le_of_ble_eq_true rfl), fun p9 n9 => ⟨sz (Nat.le_of_ble_eq_true rfl), fun p10 n10 => ⟨_, rfl, sz (Nat.le_of_ble_eq_true rfl), fun p11 n11 => ⟨sz (Nat.le_of_ble_eq_true rfl), fun p12 n12 => ?_⟩⟩⟩⟩⟩⟩⟩⟩⟩⟩⟩
    have s1 := same_new n1 (.dK [])
    have s2 := same_new n2 (.tup [.int 0, .int (-1)])
    have s3 := same_new n3 (.tup [.bl true])
    have s4 := same_new n4 (.tup [.int 0, .bl false])
    have s5 := same_new n5 (.tup [.int 0, .str "1"])
    have s6 := same_new n6 (.lst [.int 0])
    have s7 := same_new n7 (.lst [.ref p6])
    have s8 := same_new n8 (.tup [.int 0, .int 0])
    have s9 := same_new n9 (.tup [.ref p8])
    have s10 := same_new n10 (.tup [.non])
    have s11 := same_new n11 (.tup [.int (-1)])
    have s12 := same_new n12 (.lst [.non, .int 5, .str "a", .str "00", .ref p1, .ref p2, .ref p3, .ref p4, .ref p5, .ref p7, .ref p9, .ref p10, .ref p11])
    have S1 := s1
    have S2 := S1.trans s2
    have S3 := S2.trans s3
    have S4 := S3.trans s4
    have S5 := S4.trans s5
    have S6 := S5.trans s6
    have S7 := S6.trans s7
    have S8 := S7.trans s8
    have S9 := S8.trans s9
    have S10 := S9.trans s10
    have S11 := S10.trans s11
    have S12 := S11.trans s12
    have f1 : H p1 = none := n1
    have f2 : H p2 = none := S1.free n2
    have f3 : H p3 = none := S2.free n3
    have f4 : H p4 = none := S3.free n4
    have f5 : H p5 = none := S4.free n5
    have f6 : H p6 = none := S5.free n6
    have f7 : H p7 = none := S6.free n7
    have f8 : H p8 = none := S7.free n8
    have f9 : H p9 = none := S8.free n9
    have f10 : H p10 = none := S9.free n10
    have f11 : H p11 = none := S10.free n11
    have f12 : H p12 = none := S11.free n12
    have t11 := s12
    have t10 := s11.trans t11
    have t9 := s10.trans t10
    have t8 := s9.trans t9
    have t7 := s8.trans t8
    have t6 := s7.trans t7
    have t5 := s6.trans t6
    have t4 := s5.trans t5
    have t3 := s4.trans t4
    have t2 := s3.trans t3
    have t1 := s2.trans t2
    have a1 := t1 _ _ (upd_same (o := (.dK [])))
    have a2 := t2 _ _ (upd_same (o := (.tup [.int 0, .int (-1)])))
    have a3 := t3 _ _ (upd_same (o := (.tup [.bl true])))
    have a4 := t4 _ _ (upd_same (o := (.tup [.int 0, .bl false])))
    have a5 := t5 _ _ (upd_same (o := (.tup [.int 0, .str "1"])))
    have a6 := t6 _ _ (upd_same (o := (.lst [.int 0])))
    have a7 := t7 _ _ (upd_same (o := (.lst [.ref p6])))
    have a8 := t8 _ _ (upd_same (o := (.tup [.int 0, .int 0])))
    have a9 := t9 _ _ (upd_same (o := (.tup [.ref p8])))
    have a10 := t10 _ _ (upd_same (o := (.tup [.non])))
    have a11 := t11 _ _ (upd_same (o := (.tup [.int (-1)])))
    have g : ∀ {p : Addr} {o : HO} {HL : Hp}, H p = none → HL p = some o → fresh H HL p = some o := fun f a => by rw [fresh_of f]; exact a
    refine k p12 _ _ S12 f12 upd_same ?_
    exact .cons .non (.cons (.int 5) (.cons (.str _) (.cons (.str _) (.cons (.emp (g f1 a1)) (.cons (.tup (g f2 a2) (.cons (.int 0) (.cons (.int (-1)) .nil))) (.cons (.tup (g f3 a3) (.cons (.bl true) .nil)) (.cons (.tup (g f4 a4) (.cons (.int 0) (.cons (.bl false) .nil))) (.cons (.tup (g f5 a5) (.cons (.int 0) (.cons (.str _) .nil))) (.cons (.lst (g f7 a7) (.cons (.lst (g f6 a6) (.cons (.int 0) .nil)) .nil)) (.cons (.tup (g f9 a9) (.cons (.tup (g f8 a8) (.cons (.int 0) (.cons (.int 0) .nil))) .nil)) (.cons (.tup (g f10 a10) (.cons .non .nil)) (.cons (.tup (g f11 a11) (.cons (.int (-1)) .nil)) .nil))))))))))))
end
end K1
set_option linter.all false
set_option maxRecDepth 100000
set_option maxHeartbeats 1000000
namespace K1
open PySem PySem.Spec PyProof.Rows L2
/-! ### a def's promise where what runs around it is known -/
structure FnC (A : Around) (P : Program) (w : World) (K : PySem.W.Frag) (mg : Str → Option Value) (B0 : Heap) (T : CXT) (k : Nat) (f : Addr) (fd : FuncData) (ps : List Str) (sp : Sp) : Prop where
  len : ∀ vs H Q E, sp vs H Q E → vs.length = ps.length
  run : ∀ (fr : List Env) (s : Shared) (H : Hp) (args : Args) (us : List Value) (vs : List V) (Q : VK) (E : XK), Room k A → Env0 P w K mg B0 A fr s H → BindsTo s fd args (ps.zip us) → Vals vs us → sp vs H Q E → codeAny (model P w) A (.call (.ref f) args) (CR T fr P w H s Q E) s
section
variable {P : Program} {w : World} {K : PySem.W.Frag} {mg : Str → Option Value} {B0 : Heap} {A : Around}
theorem okAt {x qual : Str} {st : Stmt} {f : Addr} {fd : FuncData} {N ps : List Str} {k : Nat} {sp : Sp} (F : Fun K x qual st f fd) (S : FnScope N ps (defScope st)) (len : ∀ vs H Q E, sp vs H Q E → vs.length = ps.length)
    (body : ∀ (cdv : Value) (fr : List Env) (s : Shared) (H : Hp) (vs : List V) (Q : VK) (E : XK), Room k (A.deeper (envOfC qual (defScope st) s.heap.objs.size f cdv)) → sp vs H Q E →
      ∃ t, PSs (cxOf CX0 P w K mg B0 N qual (defScope st) f cdv A fr s H E).nox (defBody st) t ∧ t { nx := fun _ H' => Q .non H', rt := Q } (start N vs) H) : FnC A P w K mg B0 CX0 (k + 1) f fd ps sp := by
  obtain ⟨oc, od, kV, doc, pm, an, cdv, ct, osl, rfl, look, code⟩ := F.ex
  constructor
  · exact len
  intro fr s H args us vs Q E room en bind rel want
  have many := len _ _ _ _ want
  have inK : K.In s.heap := en.mod.kin.keeps fun b o z => (en.bs b o z).1
  have noLim : s.heap.NoLimit := en.mod.nolimit.keeps fun b o z => (en.bs b o z).1
  have kinds : ∀ y ∈ ps.zip us, (defScope st).names.lookup y.1 = some .local ∨ ((defScope st).names.lookup y.1 = some .cell ∧ ((cellsFrom (s.heap.objs.size + 1) (defScope st).names []).lookup y.1).isSome = true) := by
    rintro ⟨n, v⟩ m
    rcases S.par n (List.of_mem_zip m).1 with z | z
    · exact .inl z
    · exact .inr ⟨z, PySem.W.cellsFrom_some _ _ _ (.inl z)⟩
  refine codeAny_call_function room.depth (inK _ _ look) rfl S.co S.gen rfl (PySem.W.codeRec_of inK code) (bind _ _ _ _ ?_)
  refine wpAny_newFunctionEnv_cells S.kind kinds fun env here s1 entry => ?_
  subst here
  refine ⟨noLim.keeps entry.toInCall.keep, codeAny_func ?_⟩
  obtain ⟨t, term, wish⟩ := body cdv fr s H vs Q E (room.deeper _) want
  have J0 : Inv (cxOf CX0 P w K mg B0 N qual (defScope st) f cdv A fr s H E) [] (start N vs) H s1 := inv_start S room.hd en many rel entry
  refine wpAny_mono (term.nox.run [] s1 (start N vs) H _ J0 wish) (fun out s' back => ?_) fun _ _ z => z
  cases out with
  | ret u =>
    obtain ⟨v, σ', H', J, rv, q⟩ := back
    exact ⟨v, H', J.os, J.bare, J.base, J.hok, rv, q⟩
  | next =>
    obtain ⟨σ', H', J, q⟩ := back
    exact ⟨.non, H', J.os, J.bare, J.base, J.hok, rfl, q⟩
  | brk =>
    obtain ⟨_, _, _, q⟩ := back
    exact q.elim
  | cont =>
    obtain ⟨_, _, _, q⟩ := back
    exact q.elim
end
/-! ### the end: the script alone is told -/
theorem law_callG {P : Program} {w : World} {K : PySem.W.Frag} {mg mb : Str → Option Value} {k : Nat} {fa a : Addr} {fd : FuncData} {x : Str} {sp : Sp} {s₁ : Shared} {vs : List Value} {ns : List Int}
    (inK : K.In s₁.heap) (gns : s₁.heap.Ns mainGlobals mg) (bns : s₁.heap.Ns builtinsNs mb) (boot : ∀ x : Str, x ≠ "__name__" → mb x = bootBuiltins x) (lim : s₁.heap.NoLimit) (ge : s₁.gens = #[])
    (at_ : s₁.heap.get? a = some { cls := .type "list", data := .seq vs.toArray }) (hI : IntsAre vs ns) (short : ns.length ≤ sizeLine) (room : Room k callerA)
    (F : ∀ B0 : Heap, K.In B0 → B0.Ns mainGlobals mg → FnC callerA P w K mg B0 CX0 k fa fd [x] sp) (bind : ∀ (s : Shared) (u : Value), BindsTo s fd ⟨[u], []⟩ [(x, u)])
    (wish : ∀ H : Hp, Only H → SqL K H a (ns.map V.int) → sp [.ref a] H (fun v _ => v = .bl true) fun _ _ _ => False) :
    codeAny (model P w) callerA (.call (.ref fa) ⟨[.ref a], []⟩) (fun r s' => r = .ok (.ret (.bool true)) ∧ OldK s₁.heap s'.heap ∧ s'.os = s₁.os ∧ AllBare s'.gens) s₁ := by
  have rv := vals_ints hI
  have lenV := hI.length
  have go : ∀ H : Hp, Only H → SqL K H a (ns.map V.int) → HOk P w H s₁.heap → (∀ b, H b ≠ none → b = a) → (H a ≠ none → K.lookup a = none) → 
      codeAny (model P w) callerA (.call (.ref fa) ⟨[.ref a], []⟩) (fun r s' => r = .ok (.ret (.bool true)) ∧ OldK s₁.heap s'.heap ∧ s'.os = s₁.os ∧ AllBare s'.gens) s₁ := by
    intro H only seq hok one notK
    have noD : ∀ (b : Addr) (o : Obj) (es : Array DictEntry) (ep : Nat), s₁.heap.get? b = some o → o.data = .dict es ep → H b = none := by
      intro b o es ep e d
      cases q : H b with
      | none => rfl
      | some u =>
        obtain rfl := one b (by rw [q]; simp)
        rw [at_] at e
        cases e
        cases (show Data.seq vs.toArray _ = Data.dict es ep from d)
    have nsB : ∀ {b : Addr} {m : Str → Option Value}, s₁.heap.Ns b m → (hidT s₁.heap H).Ns b m := fun {b m} ⟨o, es, ep, e, d, r⟩ => ⟨o, es, ep, hidT_get e (noD b o es ep e d), d, r⟩
    have inB : K.In (hidT s₁.heap H) := fun b o e => hidT_get (inK b o e) (by
      cases q : H b with
      | none => rfl
      | some u =>
        have no : H b ≠ none := by rw [q]; simp
        obtain rfl := one b no
        rw [notK no] at e
        cases e)
    have md : Mod K mg (hidT s₁.heap H) := ⟨inB, nsB gns, ⟨mb, nsB bns, boot⟩, let ⟨mc, h1, h2⟩ := lim; ⟨mc, nsB h1, h2⟩⟩
    have en : Env0 P w K mg (hidT s₁.heap H) callerA [] s₁ H := ⟨rfl, md, fun b o e => of_hidT e, Nat.le_of_eq (hidT_size _ _), trivial, fun b m => absurd (show b ∈ ([] : List Addr) from m) (by simp), hok, .of_eq ge⟩
    refine codeAny_mono ((F _ inB (nsB gns)).run [] s₁ H ⟨[.ref a], []⟩ [.ref a] [.ref a] _ _ room en (bind s₁ (.ref a)) (.cons rfl .nil) (wish H only seq)) fun r s' back => ?_
    cases r with
    | error e => exact False.elim back
    | ok fl =>
      cases fl with
      | next => exact False.elim back
      | brk => exact False.elim back
      | cont => exact False.elim back
      | ret u =>
        obtain ⟨v, H', os, bare, un, hok', rv', q⟩ := back
        obtain rfl : v = .bl true := q
        obtain rfl : u = Value.bool true := rv'
        refine ⟨rfl, OldK.of_keep fun b o e => ?_, os, bare⟩
        cases q : H b with
        | none => exact un.keep b o e q (fun m => absurd (show b ∈ ([] : List Addr) from m) (by simp)) (by simp)
        | some u =>
          rcases only b with z | ⟨ob, y, z⟩
          · rw [q] at z
            cases z
          · obtain ⟨e1, _⟩ := hok b _ z
            obtain ⟨e2, _⟩ := hok' b _ (un.frzs b ob _ z)
            rw [e] at e1
            cases e1
            exact e2
  cases hk : K.lookup a with
  | some o =>
    have e := inK a o hk
    rw [at_] at e
    cases e
    exact go (fun _ => none) (fun _ => .inl rfl) (.inr ⟨_, vs.toArray, _, hk, rfl, rfl, rfl, by rw [List.size_toArray, lenV]; exact short, by simpa using rv⟩) (fun _ _ z => nomatch (show (none : Option HO) = some _ from z)) (fun _ z => absurd rfl z) fun z => absurd rfl z
  | none =>
    refine go (fun b => if b = a then some (.frz { cls := .type "list", data := .seq vs.toArray } (.lst (ns.map V.int))) else none) (fun b => ?_) (.inl (.inr ⟨{ cls := .type "list", data := .seq vs.toArray }, if_pos rfl⟩)) (fun b u z => ?_) (fun b z => ?_) fun _ => hk
    · by_cases c : b = a
      · exact .inr ⟨_, _, if_pos c⟩
      · exact .inl (if_neg c)
    · by_cases c : b = a
      · cases (if_pos c).symm.trans z
        subst c
        exact ⟨at_, by rw [List.length_map]; exact short, vs, _, rv, at_⟩
      · cases (if_neg c).symm.trans z
    · by_cases c : b = a
      · exact c
      · exact absurd (if_neg c) z
theorem walk_ofG {l : PySem.W.OpenLaw} {n k : Nat} {q : Program} {loose : List Str} {XP : (Str → Option Value) → Heap → Prop} {YP : World → Heap → Prop} {d : DefRec} {K : Params → PySem.W.Frag} {sp : World → Sp} {x : Str}
    (hn : l.most = some n) (hn2 : n ≤ sizeLine) (hdf : d.params.defaults = []) (room : Room k callerA)
    (hY : ∀ (w : World) (h : Heap), YP w h → (K w.params).In h)
    (F : ∀ (w : World) (mg : Str → Option Value) (fa : Addr) (h : Heap), (K w.params).In h → h.Ns mainGlobals mg → mg d.name = some (.ref fa) →
      ∃ fd : FuncData, (∀ (s : Shared) (u : Value), BindsTo s fd ⟨[u], []⟩ [(x, u)]) ∧
        ∀ B0 : Heap, (K w.params).In B0 → B0.Ns mainGlobals mg → FnC callerA l.prog w (K w.params) mg B0 CX0 k fa fd [x] (sp w))
    (wish : ∀ (w : World) (H : Hp) (a : Addr) (ns : List Int), ns.length ≤ n → Only H → SqL (K w.params) H a (ns.map V.int) → sp w [.ref a] H (fun v _ => v = .bl true) fun _ _ _ => False) :
    PySem.W.WalkO q loose XP YP l.row.toRowW d [] (fun f vs => PySem.call f vs) := by
  refine Att.attach_call hn hdf fun w s₀ s₁ mg mb fa o pm cd doc a vs ns G Y ho hd hcd hmg hobj hints hlen hg => ?_
  have inK := hY w _ Y
  obtain ⟨fd, bind, hF⟩ := F w mg fa _ inK G.T.g hmg
  exact law_callG inK G.T.g G.T.b G.T.builtins G.T.nolimit hg hobj hints (Nat.le_trans hlen hn2) room hF bind fun H h1 h2 => wish w H a ns hlen h1 h2
end K1
set_option linter.all false
set_option maxRecDepth 100000
set_option maxHeartbeats 1000000
namespace K1
open PySem L2
theorem units65' {k : Nat} {A : Around} (r : Room (k + 1) A) : A.units + 65 < cLine := by
  have := r.un
  omega
theorem op_notInDK {X : Cx} {K : PySem.W.Frag} (hu : X.A.units + 65 < cLine) (h : X.K = K := by rfl) : OpR X (compareOp .NotIn) (rNotInD K) := by
  subst h
  exact op_notInD hu
theorem sl_listK {X : Cx} {K : PySem.W.Frag} (h : X.K = K := by rfl) : SlR X (rSlL K) := by
  subst h
  exact sl_list
theorem perm_of_map {α β : Type} {f : α → β} {ys zs : List β} (h : ys.Perm zs) : ∀ {L : List α}, zs = L.map f → ∃ L' : List α, L'.Perm L ∧ ys = L'.map f := by
  induction h with
  | nil => intro L e; exact ⟨L, .refl _, e⟩
  | cons x p ih =>
    intro L e
    cases L with
    | nil => cases e
    | cons y r =>
      rw [List.map_cons] at e
      injection e with e1 e2
      obtain ⟨L', p', e'⟩ := ih e2
      exact ⟨y :: L', p'.cons y, by rw [e', e1]; rfl⟩
  | swap x y l =>
    intro L e
    match L, e with
    | a :: b :: r, e =>
      rw [List.map_cons, List.map_cons] at e
      injection e with e1 e2
      injection e2 with e2 e3
      exact ⟨b :: a :: r, .swap _ _ _, by rw [e1, e2, e3]; rfl⟩
  | trans p q ih1 ih2 =>
    intro L e
    obtain ⟨L1, p1, e1⟩ := ih2 e
    obtain ⟨L2, p2, e2⟩ := ih1 e1
    exact ⟨L2, p2.trans p1, e2⟩
theorem Ats.but {H H' : Hp} {L : PL} {st l : Addr} {cs : List Int} {n : Nat} (h : Ats H L) (S : Spr H st l cs n) (b : But st H H') : Ats H' L := fun p hp => b p.1 _ (S.no (h p hp) fun _ z => by cases z) (h p hp)
theorem LotAt.but {C : Addr} {H H' : Hp} {a : Addr} {L : PL} {st l : Addr} {cs : List Int} {n : Nat} (h : LotAt C H a L) (S : Spr H st l cs n) (b : But st H H') : LotAt C H' a L := by
  obtain ⟨dx, t, kn, kvs, h1, h2, h3, h4, r⟩ := h
  exact ⟨dx, t, kn, kvs, b _ _ (S.no h1 fun _ z => by cases z) h1, b _ _ (S.no h2 fun _ z => by cases z) h2, b _ _ (S.no h3 fun _ z => by cases z) h3, h4.but S b, r⟩
/-- a place is drawn -/
theorem dataP {K : PySem.W.Frag} {H : Hp} {L : PL} (h : Ats H L) : DataL K H (refs L) := ⟨_, dp_refs h, okd_keys _⟩
theorem dqP {H : Hp} : ∀ {L : PL}, Ats H L → DqAll H (refs L) ((keys L).map dT)
  | [], _ => .nil
  | p :: r, h => .cons (.tup (h p (.head _)) (dq_ints p.2)) (dqP fun q hq => h q (.tail _ hq))
theorem Ats.off {H : Hp} {st l : Addr} {cs : List Int} {n : Nat} {L : PL} (h : Ats H L) (S : Spr H st l cs n) : Ats (off st H) L := fun p hp => by
  rw [off_ne (S.no (h p hp) fun _ z => by cases z)]
  exact h p hp
theorem cut_to {α : Type} (f : α → V) (zs : List α) {m : Int} (h : 0 ≤ m) : cutV (zs.map f) none (some m) = (zs.take m.toNat).map f := by
  have e : m = (m.toNat : Int) := by omega
  rw [e]
  unfold cutV
  rw [HT.sIx_none, HT.sIx_nat, List.drop_zero, List.length_map, Nat.sub_zero, ← List.map_take, Int.toNat_natCast]
  congr 1
  rcases Nat.le_total m.toNat zs.length with q | q
  · rw [Nat.min_eq_left q]
  · rw [Nat.min_eq_right q, List.take_of_length_le (Nat.le_refl _), List.take_of_length_le q]
theorem cut_from {α : Type} (f : α → V) (zs : List α) {i : Int} (h : 0 ≤ i) : cutV (zs.map f) (some i) none = (zs.drop i.toNat).map f := by
  have e : i = (i.toNat : Int) := by omega
  unfold cutV
  rw [e, HT.sIx_nat, HT.sIx_none, Int.toNat_natCast, List.length_map, ← List.map_drop, ← List.map_take]
  congr 1
  rcases Nat.le_total i.toNat zs.length with q | q
  · rw [Nat.min_eq_left q, List.take_of_length_le (by rw [List.length_drop]; exact Nat.le_refl _)]
  · rw [Nat.min_eq_right q, List.drop_eq_nil_of_le (Nat.le_refl _), List.drop_eq_nil_of_le q, List.take_nil]
theorem DqAll.take {H : Hp} : ∀ (n : Nat) {vs : List V} {ds : List PyData}, DqAll H vs ds → DqAll H (vs.take n) (ds.take n)
  | 0, _, _, _ => .nil
  | _ + 1, _, _, .nil => .nil
  | n + 1, _, _, .cons a b => .cons a (DqAll.take n b)
theorem DqAll.drop {H : Hp} : ∀ (n : Nat) {vs : List V} {ds : List PyData}, DqAll H vs ds → DqAll H (vs.drop n) (ds.drop n)
  | 0, _, _, h => h
  | _ + 1, _, _, .nil => .nil
  | n + 1, _, _, .cons _ b => DqAll.drop n b
/-- the heap without the spring's cell and one more -/
def off2 (st p : Addr) (H : Hp) : Hp := off p (off st H)
theorem off2_some {st p b : Addr} {H : Hp} {o : HO} (h : off2 st p H b = some o) : b ≠ st ∧ b ≠ p ∧ H b = some o := by
  obtain ⟨h1, h2⟩ := off_some h
  obtain ⟨h3, h4⟩ := off_some h2
  exact ⟨h3, h1, h4⟩
theorem off2_of {st p b : Addr} {H : Hp} {o : HO} (h1 : b ≠ st) (h2 : b ≠ p) (h : H b = some o) : off2 st p H b = some o := by
  unfold off2
  rw [off_ne h2, off_ne h1]
  exact h
theorem off2_but {st p : Addr} {H H' : Hp} (k : But st H H') : Same (off2 st p H) (off2 st p H') := fun b o h => by
  obtain ⟨h1, h2, h3⟩ := off2_some h
  exact off2_of h1 h2 (k b o h1 h3)
theorem off2_upd {st p : Addr} {H : Hp} {u : HO} : Same (off2 st p H) (off2 st p (upd H p u)) := fun b o h => by
  obtain ⟨h1, h2, h3⟩ := off2_some h
  exact off2_of h1 h2 (by rw [upd_ne h2]; exact h3)
theorem off2_off {st p : Addr} {H : Hp} : Same (off2 st p H) (off st H) := fun b o h => by
  obtain ⟨h1, h2, h3⟩ := off2_some h
  rw [off_ne h1]
  exact h3
theorem off2_same {st p : Addr} {H : Hp} : Same (off2 st p H) H := fun b o h => (off2_some h).2.2
theorem Ats.off2 {H : Hp} {st p l : Addr} {cs : List Int} {n : Nat} {xs : List V} {L : PL} (h : Ats H L) (S : Spr H st l cs n) (hp : H p = some (.lst xs)) : Ats (off2 st p H) L := fun q hq => by
  have z := h q hq
  exact off2_of (S.no z fun _ e => by cases e) (fun e => by rw [e, hp] at z; cases z) z
/-- list(a list) -/
def rLstL : List V → Hp → VK → Prop := fun xs H Q => ∃ p ys, xs = [.ref p] ∧ (H p = some (.lst ys) ∨ H p = some (.tup ys)) ∧ ∀ l, H l = none → Q (.ref l) (upd H l (.lst ys))
theorem call_listL {X : Cx} : CallR X (.type "list") rLstL := by
  intro pins s σ H xs us Q I r h
  obtain ⟨p, ys, rfl, hp, q⟩ := h
  rcases hp with hp | hp
  · exact call_list_of pins s σ H _ us Q I r ⟨p, ys, rfl, .inl (SqL.of hp), q⟩
  · exact call_list_of pins s σ H _ us Q I r ⟨p, ys, rfl, .inr (SqT.of hp), q⟩
def spLaw (K : PySem.W.Frag) : Sp := fun vs H Q _ => ∃ (a : Addr) (ns : List Int), vs = [.ref a] ∧ SqL K H a (ns.map V.int) ∧ ns.length ≤ 63 ∧ ∀ H', Q (.bl true) H'
end K1
set_option linter.all false
set_option maxRecDepth 100000
set_option maxHeartbeats 1000000
namespace K1
open PySem L2
theorem tupds_len : ∀ ds : List PyData, (tupds ds).length = ds.length
  | [] => by simp only [tupds]
  | d :: r => by simp only [tupds, List.length_cons, tupds_len r]
theorem mem_tupds : ∀ {ds : List PyData} {e : PyData}, e ∈ tupds ds → ∃ d ∈ ds, e = tupd d
  | [], e, h => by simp only [tupds] at h; cases h
  | d :: r, e, h => by
    simp only [tupds] at h
    rcases List.mem_cons.mp h with h | h
    · exact ⟨d, .head _, h⟩
    · obtain ⟨x, hx, e'⟩ := mem_tupds h
      exact ⟨x, .tail _ hx, e'⟩
theorem mem_tupds' : ∀ {ds : List PyData} {d : PyData}, d ∈ ds → tupd d ∈ tupds ds
  | x :: r, d, h => by
    simp only [tupds]
    rcases List.mem_cons.mp h with h | h
    · rw [h]; exact .head _
    · exact .tail _ (mem_tupds' h)
theorem piled_le : ∀ {ts : List Str} {n : Nat}, (∀ t ∈ ts, t.length ≤ n) → piled ts ≤ ts.length * (n + 2)
  | [], _, _ => by simp [piled]
  | t :: r, n, h => by
    have h1 := h t (.head _)
    have h2 := piled_le (ts := r) (n := n) fun x hx => h x (.tail _ hx)
    have e : piled (t :: r) = t.length + 2 + piled r := by simp [piled]
    rw [e, List.length_cons, Nat.add_mul, Nat.one_mul]
    omega
theorem listText_le {ts : List Str} {n : Nat} (h : ∀ t ∈ ts, t.length ≤ n) : (listText ts).length ≤ ts.length * (n + 2) + 4 := by
  have p := piled_le h
  cases ts with
  | nil => show (listText []).length ≤ _; rw [listText_nil]; have : (("[]" : Str)).length = 2 := rfl; omega
  | cons t r =>
    show (textFrom 1 (("[" : Str) ++ ("" : Str) ++ t) r ++ "]").length ≤ _
    rw [strLen_append, textFrom_length_pos r 1 _ (by decide), strLen_append, strLen_append]
    have a1 : (("[" : Str)).length = 1 := rfl
    have a2 : (("" : Str)).length = 0 := rfl
    have a3 : (("]" : Str)).length = 1 := rfl
    have e : piled (t :: r) = t.length + 2 + piled r := by simp [piled]
    omega
theorem tupleText_le {ts : List Str} {n : Nat} (h : ∀ t ∈ ts, t.length ≤ n) : (tupleText ts).length ≤ ts.length * (n + 2) + 4 := by
  have p := piled_le h
  unfold tupleText
  rw [strLen_append, strLen_append]
  have a1 : (("(" : Str)).length = 1 := rfl
  have a2 : ((if ts.length == 1 then ",)" else ")" : String) : Str).length ≤ 2 := by split <;> decide
  by_cases e : ts = []
  · subst e
    have : (Str.join ", " []).length = 0 := rfl
    omega
  · have j := join_length_add ts e
    omega
/-! ### how long its text may be -/
mutual
def szt : PyData → Nat
  | .list ds => ds.length * (szts ds + 2) + 4
  | .tuple ds => ds.length * (szts ds + 2) + 4
  | d => (PyData.shown d).length
def szts : List PyData → Nat
  | [] => 0
  | d :: r => max (szt d) (szts r)
end
theorem szts_mem : ∀ {ds : List PyData} {d : PyData}, d ∈ ds → szt d ≤ szts ds
  | e :: r, d, h => by
    simp only [szts]
    rcases List.mem_cons.mp h with h | h
    · subst h; omega
    · have := szts_mem h; omega
theorem szts_le : ∀ {ds : List PyData} {n : Nat}, (∀ d ∈ ds, szt d ≤ n) → szts ds ≤ n
  | [], _, _ => by simp only [szts]; omega
  | d :: r, n, h => by
    have h1 := h d (.head _)
    have h2 := szts_le (ds := r) (n := n) fun x hx => h x (.tail _ hx)
    simp only [szts]
    omega
mutual
theorem shown_szt : ∀ d : PyData, (PyData.shown d).length ≤ szt d
  | .none => by simp only [szt]; omega
  | .bool _ => by simp only [szt]; omega
  | .int _ => by simp only [szt]; omega
  | .str _ => by simp only [szt]; omega
  | .dict _ => by simp only [szt]; omega
  | .list ds => by
    have h := shown_szts ds
    have l := shownAll_len ds
    simp only [PyData.shown, szt]
    have := listText_le h
    rwa [l] at this
  | .tuple ds => by
    have h := shown_szts ds
    have l := shownAll_len ds
    simp only [PyData.shown, szt]
    have := tupleText_le h
    rwa [l] at this
theorem shown_szts : ∀ ds : List PyData, ∀ t ∈ PyData.shownAll ds, t.length ≤ szts ds
  | [], t, h => by simp only [PyData.shownAll] at h; cases h
  | d :: r, t, h => by
    simp only [PyData.shownAll] at h
    simp only [szts]
    rcases List.mem_cons.mp h with h | h
    · rw [h]; have := shown_szt d; omega
    · have := shown_szts r t h; omega
theorem shownAll_len : ∀ ds : List PyData, (PyData.shownAll ds).length = ds.length
  | [] => by simp only [PyData.shownAll, List.length_nil]
  | d :: r => by simp only [PyData.shownAll, List.length_cons, shownAll_len r]
end
mutual
theorem szt_tupd : ∀ d : PyData, szt (tupd d) = szt d
  | .none => by simp only [tupd]
  | .bool _ => by simp only [tupd]
  | .int _ => by simp only [tupd]
  | .str _ => by simp only [tupd]
  | .dict _ => by simp only [tupd]
  | .list ds => by simp only [tupd, szt, szts_tupds ds, tupds_len]
  | .tuple ds => by simp only [tupd, szt, szts_tupds ds, tupds_len]
theorem szts_tupds : ∀ ds : List PyData, szts (tupds ds) = szts ds
  | [] => by simp only [tupds]
  | d :: r => by simp only [tupds, szts, szt_tupd d, szts_tupds r]
end
mutual
theorem show_tupd : ∀ d : PyData, PyData.showable (tupd d) = PyData.showable d
  | .none => by simp only [tupd]
  | .bool _ => by simp only [tupd]
  | .int _ => by simp only [tupd]
  | .str _ => by simp only [tupd]
  | .dict _ => by simp only [tupd]
  | .list ds => by simp only [tupd, PyData.showable, show_tupds ds]
  | .tuple ds => by simp only [tupd, PyData.showable, show_tupds ds]
theorem show_tupds : ∀ ds : List PyData, PyData.showableAll (tupds ds) = PyData.showableAll ds
  | [] => by simp only [tupds]
  | d :: r => by simp only [tupds, PyData.showableAll, show_tupd d, show_tupds r]
end
mutual
theorem depth_tupd : ∀ d : PyData, PyData.depth (tupd d) = PyData.depth d
  | .none => by simp only [tupd]
  | .bool _ => by simp only [tupd]
  | .int _ => by simp only [tupd]
  | .str _ => by simp only [tupd]
  | .dict _ => by simp only [tupd]
  | .list ds => by simp only [tupd, PyData.depth, depth_tupds ds]
  | .tuple ds => by simp only [tupd, PyData.depth, depth_tupds ds]
theorem depth_tupds : ∀ ds : List PyData, PyData.depthAll (tupds ds) = PyData.depthAll ds
  | [] => by simp only [tupds]
  | d :: r => by simp only [tupds, PyData.depthAll, depth_tupd d, depth_tupds r]
end
/-! ### what places they are does not hang from lists or tuples -/
theorem nat_tupd (d : PyData) : natD (tupd d) = natD d := by cases d <;> simp only [tupd, natD]
theorem nats_tupds : ∀ ds : List PyData, (tupds ds).all natD = ds.all natD
  | [] => by simp only [tupds]
  | d :: r => by simp only [tupds, List.all_cons, nat_tupd, nats_tupds r]
theorem ints_tupds : ∀ ds : List PyData, intsD (tupds ds) = intsD ds
  | [] => by simp only [tupds]
  | d :: r => by
    have ih := ints_tupds r
    cases d <;> simp only [tupds, tupd, intsD, ih]
theorem place_tupd (d : PyData) : placeD (tupd d) = placeD d := by
  unfold placeD
  rw [tupd_seq]
  cases seqD d with
  | none => rfl
  | some ds =>
    show (if (tupds ds).all natD = true then some (intsD (tupds ds)) else none) = _
    rw [nats_tupds, ints_tupds]
theorem badF_tupds : ∀ ds : List PyData, badFrom (tupds ds) = badFrom ds
  | [] => by simp only [tupds]
  | d :: r => by simp only [tupds, badFrom, place_tupd, badF_tupds r]
theorem bad_tupd (d : PyData) : badL (tupd d) = badL d := by
  unfold badL
  rw [tupd_seq]
  cases seqD d with
  | none => rfl
  | some ds => exact badF_tupds ds
theorem pl_tupds : ∀ ds : List PyData, (tupds ds).map plOf = ds.map plOf
  | [] => by simp only [tupds]
  | d :: r => by
    simp only [tupds, List.map_cons, pl_tupds r]
    unfold plOf
    rw [place_tupd]
theorem keys_tupd (d : PyData) : keysD (tupd d) = keysD d := by
  unfold keysD
  rw [tupd_seq]
  cases seqD d with
  | none => rfl
  | some ds => exact pl_tupds ds
theorem limP_tupd {d : PyData} : LimP (tupd d) ↔ LimP d := by
  unfold LimP
  rw [tupd_seq]
  cases seqD d with
  | none => exact ⟨fun _ => (fun _ h => nomatch h), fun _ => (fun _ h => nomatch h)⟩
  | some ds =>
    constructor
    · intro h es e
      cases e
      have := h _ rfl
      rwa [tupds_len] at this
    · intro h es e
      cases e
      rw [tupds_len]
      exact h _ rfl
theorem limL_tupd {d : PyData} : LimL (tupd d) ↔ LimL d := by
  cases hs : seqD d with
  | none =>
    have h0 : seqD (tupd d) = none := by rw [tupd_seq, hs]; rfl
    have nn : ∀ {d : PyData}, seqD d = none → LimL d := fun {d} hd => ⟨(fun ds e => by rw [hd] at e; cases e), (fun ds e => by rw [hd] at e; cases e), (fun ds e => by rw [hd] at e; cases e)⟩
    exact ⟨fun _ => nn hs, fun _ => nn h0⟩
  | some ds =>
    have h0 : seqD (tupd d) = some (tupds ds) := by rw [tupd_seq, hs]; rfl
    constructor
    · intro h
      refine ⟨fun es e => ?_, fun es e x hx => ?_, fun es e x hx ns hn => ?_⟩ <;> (rw [hs] at e; cases e)
      · have := h.few _ h0
        rwa [tupds_len] at this
      · exact limP_tupd.mp (h.low _ h0 _ (mem_tupds' hx))
      · exact h.ok _ h0 _ (mem_tupds' hx) ns (by rw [place_tupd]; exact hn)
    · intro h
      refine ⟨fun es e => ?_, fun es e x hx => ?_, fun es e x hx ns hn => ?_⟩ <;> (rw [h0] at e; cases e)
      · rw [tupds_len]
        exact h.few _ hs
      · obtain ⟨y, hy, rfl⟩ := mem_tupds hx
        exact limP_tupd.mpr (h.low _ hs y hy)
      · obtain ⟨y, hy, rfl⟩ := mem_tupds hx
        rw [place_tupd] at hn
        exact h.ok _ hs y hy ns hn
/-- a thing that the law hands over -/
structure ThF (d : PyData) : Prop where
  lim : LimL d
  dep : dep d ≤ 3
  cnt : cnt d ≤ 100
  wid : wid d
  sho : PyData.showable d = true
  deep : PyData.depth d ≤ 20
  len : szt d ≤ 10000
theorem ThF.loose {d d' : PyData} (h : ThF d) (e : tupd d' = tupd d) : LimL d' ∧ badL d' = badL d ∧ keysD d' = keysD d ∧ PyData.showable d' = true ∧ PyData.depth d' ≤ 20 ∧ (PyData.shown d').length ≤ sizeLine := by
  refine ⟨limL_tupd.mp (by rw [e]; exact limL_tupd.mpr h.lim), by rw [← bad_tupd, e, bad_tupd], by rw [← keys_tupd, e, keys_tupd], by rw [← show_tupd, e, show_tupd]; exact h.sho, by rw [← depth_tupd, e, depth_tupd]; exact h.deep, ?_⟩
  refine Nat.le_trans (shown_szt d') ?_
  rw [← szt_tupd, e, szt_tupd]
  exact Nat.le_trans h.len (by rw [PySem.sizeLine_eq]; decide)
/-- the indexes of those that are no places -/
def wr : Nat → List PyData → List Nat
  | _, [] => []
  | i, d :: r => if (placeD d).isSome = true then wr (i + 1) r else i :: wr (i + 1) r
theorem wr_snoc (d : PyData) : ∀ (ds : List PyData) (i : Nat), wr i (ds ++ [d]) = wr i ds ++ (if (placeD d).isSome = true then [] else [i + ds.length])
  | [], i => by
    show (if (placeD d).isSome = true then [] else [i]) = [] ++ (if (placeD d).isSome = true then [] else [i + 0])
    rw [List.nil_append, Nat.add_zero]
  | x :: r, i => by
    have ih := wr_snoc d r (i + 1)
    have e : i + 1 + r.length = i + (x :: r).length := by rw [List.length_cons]; omega
    rw [e] at ih
    show (if (placeD x).isSome = true then wr (i + 1) (r ++ [d]) else i :: wr (i + 1) (r ++ [d])) = (if (placeD x).isSome = true then wr (i + 1) r else i :: wr (i + 1) r) ++ _
    rw [ih]
    split <;> rfl
theorem wr_head : ∀ (ds : List PyData) (i : Nat), (wr i ds).head? = (badFrom ds).map (· + i)
  | [], _ => rfl
  | d :: r, i => by
    have ih := wr_head r (i + 1)
    show (if (placeD d).isSome = true then wr (i + 1) r else i :: wr (i + 1) r).head? = Option.map (· + i) (if (placeD d).isSome = true then (badFrom r).map (· + 1) else some 0)
    split
    · rw [ih]
      cases badFrom r with
      | none => rfl
      | some k =>
        show some (k + (i + 1)) = some (k + 1 + i)
        exact congrArg some (by omega)
    · show some i = some (0 + i)
      rw [Nat.zero_add]
theorem wr_len : ∀ (ds : List PyData) (i : Nat), (wr i ds).length ≤ ds.length
  | [], _ => Nat.le_refl _
  | d :: r, i => by
    have := wr_len r (i + 1)
    unfold wr
    split <;> simp only [List.length_cons] <;> omega
def wrongAt (ds : List PyData) (j : Nat) : List Nat := wr 0 (ds.take j)
theorem wrong_succ (ds : List PyData) {j : Nat} {d : PyData} (h : ds[j]? = some d) : wrongAt ds (j + 1) = if (placeD d).isSome = true then wrongAt ds j else wrongAt ds j ++ [j] := by
  have lj := (List.getElem?_eq_some_iff.mp h).1
  unfold wrongAt
  rw [List.take_add_one, h, Option.toList_some, wr_snoc, List.length_take, Nat.min_eq_left (Nat.le_of_lt lj), Nat.zero_add]
  split
  · rw [List.append_nil]
  · rfl
theorem wrongAt_len (ds : List PyData) (j : Nat) : (wrongAt ds j).length ≤ j := Nat.le_trans (wr_len _ _) (by rw [List.length_take]; omega)
def wrongs (ds : List PyData) : List Nat := wr 0 ds
theorem wrong_all (ds : List PyData) : wrongAt ds ds.length = wrongs ds := by
  unfold wrongAt wrongs
  rw [List.take_length]
theorem bad_wrongs (ds : List PyData) : badL (.list ds) = (wrongs ds).head? := by
  have z := wr_head ds 0
  show badFrom ds = (wr 0 ds).head?
  rw [z]
  cases badFrom ds <;> rfl
theorem plOf_dT {ns : List Int} (h : placeD (dT ns) = some ns) : plOf (dT ns) = ns := by
  unfold plOf
  rw [h]
  rfl
/-- each place where it first comes -/
def insP (R : PL) (p : Addr × List Int) : PL := if p.2 ∈ keys R then R else R ++ [p]
def fl (L : PL) : PL := L.foldl insP []
theorem fl_snoc (L : PL) (p : Addr × List Int) : fl (L ++ [p]) = insP (fl L) p := by
  unfold fl
  rw [List.foldl_append]
  rfl
theorem keys_snoc (L : PL) (p : Addr × List Int) : keys (L ++ [p]) = keys L ++ [p.2] := by
  unfold keys
  rw [List.map_append]
  rfl
theorem fl_gen : ∀ (L R : PL), (keys R).Nodup → (keys (L.foldl insP R)).Nodup ∧ (∀ k, k ∈ keys (L.foldl insP R) ↔ k ∈ keys R ∨ k ∈ keys L) ∧ ∀ p ∈ L.foldl insP R, p ∈ R ∨ p ∈ L
  | [], R, h => ⟨h, fun k => by simp [keys], fun p hp => .inl hp⟩
  | x :: r, R, h => by
    have hi : (keys (insP R x)).Nodup ∧ (∀ k, k ∈ keys (insP R x) ↔ k ∈ keys R ∨ k = x.2) ∧ ∀ p ∈ insP R x, p ∈ R ∨ p = x := by
      unfold insP
      by_cases c : x.2 ∈ keys R
      · rw [if_pos c]
        exact ⟨h, fun k => ⟨.inl, fun z => z.elim id fun e => by rw [e]; exact c⟩, fun p hp => .inl hp⟩
      · rw [if_neg c, keys_snoc]
        refine ⟨List.nodup_append.mpr ⟨h, by simp, fun a ha b hb => ?_⟩, fun k => by simp, fun p hp => by simpa using hp⟩
        rw [List.mem_singleton.mp hb]
        exact fun e => c (by rw [← e]; exact ha)
    obtain ⟨g1, g2, g3⟩ := fl_gen r (insP R x) hi.1
    refine ⟨g1, fun k => ?_, fun p hp => ?_⟩
    · rw [List.foldl_cons, g2, hi.2.1]
      show (k ∈ keys R ∨ k = x.2) ∨ k ∈ keys r ↔ k ∈ keys R ∨ k ∈ x.2 :: keys r
      rw [List.mem_cons, or_assoc]
    · rcases g3 p hp with z | z
      · rcases hi.2.2 p z with y | y
        · exact .inl y
        · exact .inr (by rw [y]; exact .head _)
      · exact .inr (.tail _ z)
theorem fl_nd (L : PL) : (keys (fl L)).Nodup := (fl_gen L [] (by simp [keys])).1
theorem fl_mem (L : PL) (k : List Int) : k ∈ keys (fl L) ↔ k ∈ keys L := by
  have := (fl_gen L [] (by simp [keys])).2.1 k
  unfold fl
  rw [this]
  simp [keys]
theorem fl_sub (L : PL) : ∀ p ∈ fl L, p ∈ L := fun p hp => ((fl_gen L [] (by simp [keys])).2.2 p hp).elim (fun h => nomatch h) id
theorem fl_len (L : PL) : (fl L).length ≤ L.length := by
  have z := nodup_le (keys (fl L)) (keys L) (fl_nd L) fun k hk => (fl_mem L k).mp hk
  unfold keys at z
  rwa [List.length_map, List.length_map] at z
/-- one of the things -/
structure ThE (d : PyData) : Prop where
  lim : LimP d
  ok : ∀ ns, placeD d = some ns → Ok ns
  dep : dep d ≤ 2
  cnt : cnt d ≤ 2
  wid : wid d
  sho : PyData.showable d = true
  deep : PyData.depth d ≤ 5
  len : szt d ≤ 400
theorem th_list {ds : List PyData} (h : ∀ d ∈ ds, ThE d) (few : ds.length ≤ 20) : ThF (.list ds) := by
  have go : deps ds ≤ 2 ∧ cnts ds ≤ 2 * ds.length ∧ wids ds ∧ PyData.showableAll ds = true ∧ PyData.depthAll ds ≤ 5 := by
    clear few
    induction ds with
    | nil => exact ⟨by simp only [deps]; omega, by simp only [cnts]; omega, by simp only [wids], by simp only [PyData.showableAll], by simp only [PyData.depthAll]; omega⟩
    | cons x r ih =>
      obtain ⟨a, b, c, d, e⟩ := ih fun y hy => h y (.tail _ hy)
      have f := h x (.head _)
      have f1 := f.dep
      have f2 := f.cnt
      have f3 := f.deep
      exact ⟨by simp only [deps]; omega, by simp only [cnts, List.length_cons]; omega, by simp only [wids]; exact ⟨f.wid, c⟩, by simp only [PyData.showableAll, f.sho, d, Bool.and_self], by simp only [PyData.depthAll]; omega⟩
  obtain ⟨a, b, c, d, e⟩ := go
  refine ⟨⟨fun es he => ?_, fun es he x hx => ?_, fun es he x hx => ?_⟩, by simp only [K1.dep]; omega, by simp only [K1.cnt]; omega, by simp only [K1.wid]; exact ⟨by omega, c⟩, by simp only [PyData.showable]; exact d, by simp only [PyData.depth]; omega, ?_⟩
  · cases he
    omega
  · cases he
    exact (h x hx).lim
  · cases he
    exact (h x hx).ok
  · have q := szts_le (n := 400) fun x hx => (h x hx).len
    simp only [szt]
    have z : ds.length * (szts ds + 2) ≤ 20 * 402 := Nat.mul_le_mul few (by omega)
    omega
theorem same_tup2 {K : PySem.W.Frag} {H : Hp} {t t2 : Addr} {z : Str} {u v : V} {n : Nat} (h1 : H t = some (.tup [.str z, u])) (h2 : H t2 = some (.tup [.str z, v])) (h : SameV K H (n + 1) u v) : SameV K H (n + 2) (.ref t) (.ref t2) := by
  refine .inr (.inr (.inr ⟨t, t2, _, _, rfl, rfl, .inr ⟨h1, h2⟩, rfl, Nat.le_of_ble_eq_true rfl, fun i a b ha hb => ?_⟩))
  match i, ha, hb with
  | 0, ha, hb =>
    cases ha
    cases hb
    exact .inr (.inr (.inl ⟨rfl, _, .str z⟩))
  | 1, ha, hb =>
    cases ha
    cases hb
    exact h
theorem same_ints {K : PySem.W.Frag} {H : Hp} {a b : Addr} {ns : List Int} {n : Nat} (ha : H a = some (.tup (ns.map V.int))) (hb : H b = some (.tup (ns.map V.int))) (few : ns.length ≤ 1000) : SameV K H (n + 2) (.ref a) (.ref b) := by
  refine .inr (.inr (.inr ⟨a, b, _, _, rfl, rfl, .inr ⟨ha, hb⟩, rfl, by rw [List.length_map]; exact few, fun i u v hu hv => ?_⟩))
  rw [hu] at hv
  cases hv
  obtain ⟨z, _, rfl⟩ := List.mem_map.mp (List.mem_of_getElem? hu)
  exact .inl ⟨z, rfl, rfl⟩
theorem same_places {K : PySem.W.Frag} {H : Hp} {a b : Addr} {L M : PL} {n : Nat} (ha : H a = some (.tup (refs L))) (hb : H b = some (.tup (refs M))) (aL : Ats H L) (aM : Ats H M) (e : keys L = keys M) (few : L.length ≤ 1000) (ok : Oks L) : SameV K H (n + 3) (.ref a) (.ref b) := by
  have l : L.length = M.length := by
    have z := congrArg List.length e
    unfold keys at z
    rwa [List.length_map, List.length_map] at z
  refine .inr (.inr (.inr ⟨a, b, _, _, rfl, rfl, .inr ⟨ha, hb⟩, by rw [refs_len, refs_len, l], by rw [refs_len]; exact few, fun i u v hu hv => ?_⟩))
  obtain ⟨p, hp, rfl⟩ := refs_get hu
  obtain ⟨q, hq, rfl⟩ := refs_get hv
  have e1 : (keys L)[i]? = some p.2 := by unfold keys; rw [List.getElem?_map, hp]; rfl
  have e2 : (keys M)[i]? = some q.2 := by unfold keys; rw [List.getElem?_map, hq]; rfl
  rw [e, e2] at e1
  have e3 : q.2 = p.2 := Option.some.inj e1
  have h2 := aM q (List.mem_of_getElem? hq)
  rw [e3] at h2
  have mp := List.mem_of_getElem? hp
  exact same_ints (aL p mp) h2 (Nat.le_trans (ok p mp).1 (by decide))
theorem int_facts {x : Int} (h : x ∈ nums) : 0 ≤ x ∧ PyData.showable (.int x) = true ∧ szt (.int x) ≤ 40 := by
  unfold nums at h
  simp only [List.mem_cons, List.not_mem_nil, or_false] at h
  simp only [szt]
  rcases h with rfl | rfl | rfl | rfl | rfl | rfl | rfl | rfl | rfl <;> exact ⟨by decide, by decide +kernel, by decide +kernel⟩
theorem place_dT {ns : List Int} (h : ∀ x ∈ ns, 0 ≤ x) : placeD (dT ns) = some ns := by
  have e1 : (ns.map PyData.int).all natD = true := by
    rw [List.all_map, List.all_eq_true]
    exact fun x hx => decide_eq_true (h x hx)
  have e2 : intsD (ns.map PyData.int) = ns := by
    clear h e1
    induction ns with
    | nil => rfl
    | cons n r ih => exact congrArg (n :: ·) ih
  show (if (ns.map PyData.int).all natD = true then some (intsD (ns.map PyData.int)) else none) = some ns
  rw [if_pos e1, e2]
theorem th_place {ns : List Int} (h : Drw ns) : ThE (dT ns) := by
  have go : ∀ {ns : List Int}, (∀ x ∈ ns, x ∈ nums) → deps (ns.map PyData.int) ≤ 0 ∧ cnts (ns.map PyData.int) ≤ 0 ∧ wids (ns.map PyData.int) ∧ PyData.showableAll (ns.map PyData.int) = true ∧ PyData.depthAll (ns.map PyData.int) ≤ 2 ∧ szts (ns.map PyData.int) ≤ 40 := by
    intro ns
    induction ns with
    | nil => intro _; exact ⟨by simp only [List.map_nil, deps]; omega, by simp only [List.map_nil, cnts]; omega, by simp only [List.map_nil, wids], by simp only [List.map_nil, PyData.showableAll], by simp only [List.map_nil, PyData.depthAll]; omega, by simp only [List.map_nil, szts]; omega⟩
    | cons n r ih =>
      intro h
      obtain ⟨a, b, c, d, e, f⟩ := ih fun x hx => h x (.tail _ hx)
      obtain ⟨_, s1, s2⟩ := int_facts (h n (.head _))
      exact ⟨by simp only [List.map_cons, deps, K1.dep]; omega, by simp only [List.map_cons, cnts, K1.cnt]; omega, by simp only [List.map_cons, wids, K1.wid]; exact ⟨trivial, c⟩, by simp only [List.map_cons, PyData.showableAll, s1, d, Bool.and_self], by simp only [List.map_cons, PyData.depthAll, PyData.depth]; omega, by simp only [List.map_cons, szts]; omega⟩
  obtain ⟨a, b, c, d, e, f⟩ := go h.mem
  have few := h.few
  refine ⟨fun es he => ?_, fun es he => ?_, by simp only [dT, K1.dep]; omega, by simp only [dT, K1.cnt]; omega, by simp only [dT, K1.wid]; exact ⟨by rw [List.length_map]; omega, c⟩, by simp only [dT, PyData.showable]; exact d, by simp only [dT, PyData.depth]; omega, ?_⟩
  · cases he
    rw [List.length_map]
    omega
  · rw [place_dT fun x hx => (int_facts (h.mem x hx)).1] at he
    cases he
    exact h.ok
  · simp only [dT, szt, List.length_map]
    have z : ns.length * (szts (ns.map PyData.int) + 2) ≤ 8 * 42 := Nat.mul_le_mul few (by omega)
    omega
theorem th_odd {d : PyData} (h : d ∈ oddDs) : ThE d ∧ placeD d = none := by
  have pn : placeD d = none := by
    unfold oddDs at h
    simp only [List.mem_cons, List.not_mem_nil, or_false] at h
    rcases h with rfl | rfl | rfl | rfl | rfl | rfl | rfl | rfl | rfl | rfl | rfl | rfl | rfl <;> rfl
  refine ⟨?_, pn⟩
  have nk : ∀ ns, placeD d = some ns → Ok ns := fun ns e => by rw [pn] at e; cases e
  unfold oddDs at h
  simp only [List.mem_cons, List.not_mem_nil, or_false] at h
  rcases h with rfl | rfl | rfl | rfl | rfl | rfl | rfl | rfl | rfl | rfl | rfl | rfl | rfl <;>
    exact ⟨fun ds e => by cases e <;> decide, nk, by simp [K1.dep, K1.deps], by simp [K1.cnt, K1.cnts], by simp [K1.wid, K1.wids], by simp [PyData.showable, PyData.showableAll, PyData.showableKv] <;> decide +kernel, by simp [PyData.depth, PyData.depthAll, PyData.depthKv], by simp only [szt, szts, List.length_cons, List.length_nil, PyData.shown, PyData.shownAll, PyData.shownKv] <;> decide +kernel⟩
theorem LotAt.keep {C : Addr} {H : Hp} {a q : Addr} {L : PL} {xs ys : List V} (h : LotAt C H a L) (hq : H q = some (.lst xs)) : LotAt C (upd H q (.lst ys)) a L := by
  obtain ⟨dx, t, kn, kvs, h1, h2, h3, h4, r⟩ := h
  have up : ∀ {b : Addr} {u : HO}, H b = some u → (∀ zs, u ≠ .lst zs) → upd H q (.lst ys) b = some u := fun {b u} hb hu => by
    rw [upd_ne (fun e => by rw [e, hq] at hb; exact hu _ (Option.some.inj hb).symm)]
    exact hb
  exact ⟨dx, t, kn, kvs, up h1 (fun _ e => by cases e), up h2 (fun _ e => by cases e), up h3 (fun _ e => by cases e), fun p hp => up (h4 p hp) (fun _ e => by cases e), r⟩
/-- lists of places as what is passed -/
def dLi (ns : List Int) : PyData := .list (ns.map .int)
theorem place_dLi {ns : List Int} (h : ∀ x ∈ ns, 0 ≤ x) : placeD (dLi ns) = some ns := place_dT h
theorem rows_ok {f : List Int → PyData} {G : PL} (sf : ∀ ns, seqD (f ns) = some (ns.map PyData.int)) (pf : ∀ ns, (∀ x ∈ ns, 0 ≤ x) → placeD (f ns) = some ns) (dG : ∀ q ∈ G, Drw q.2) (few : G.length < 60) :
    LimL (.list ((keys G).map f)) ∧ badL (.list ((keys G).map f)) = none ∧ keysD (.list ((keys G).map f)) = keys G := by
  have pp : ∀ k ∈ keys G, placeD (f k) = some k ∧ Drw k := fun k hk => by
    obtain ⟨q, hq, rfl⟩ := List.mem_map.mp hk
    exact ⟨pf _ fun x hx => (int_facts ((dG q hq).mem x hx)).1, dG q hq⟩
  refine ⟨⟨fun es e => ?_, fun es e x hx => ?_, fun es e x hx ns hn => ?_⟩, ?_, ?_⟩
  · cases e
    rw [List.length_map]
    unfold keys
    rw [List.length_map]
    exact few
  · cases e
    obtain ⟨k, hk, rfl⟩ := List.mem_map.mp hx
    intro es he
    rw [sf] at he
    cases he
    rw [List.length_map]
    have := (pp k hk).2.few
    omega
  · cases e
    obtain ⟨k, hk, rfl⟩ := List.mem_map.mp hx
    rw [(pp k hk).1] at hn
    cases hn
    exact (pp _ hk).2.ok
  · show badFrom ((keys G).map f) = none
    generalize keys G = ks at pp
    induction ks with
    | nil => rfl
    | cons k r ih =>
      show (if (placeD (f k)).isSome = true then (badFrom (r.map f)).map (· + 1) else some 0) = none
      rw [(pp k (.head _)).1, ih fun j hj => pp j (.tail _ hj)]
      rfl
  · show ((keys G).map f).map plOf = keys G
    rw [List.map_map]
    have e : (keys G).map (plOf ∘ f) = (keys G).map id := List.map_congr_left fun k hk => by
      show plOf (f k) = k
      unfold plOf
      rw [(pp k hk).1]
      rfl
    rw [e, List.map_id]
theorem dqLi {H : Hp} : ∀ {G : PL}, (∀ q ∈ G, H q.1 = some (.lst (q.2.map V.int))) → DqAll H (refs G) ((keys G).map dLi)
  | [], _ => .nil
  | p :: r, h => .cons (.lst (h p (.head _)) (dq_ints p.2)) (dqLi fun q hq => h q (.tail _ hq))
theorem data_lists {H : Hp} {g : Addr} {G : PL} (hg : H g = some (.lst (refs G))) (aG : ∀ q ∈ G, H q.1 = some (.lst (q.2.map V.int))) (dG : ∀ q ∈ G, Drw q.2) (few : G.length < 60) :
    Dq H (.ref g) (.list ((keys G).map dLi)) ∧ LimL (.list ((keys G).map dLi)) ∧ badL (.list ((keys G).map dLi)) = none ∧ keysD (.list ((keys G).map dLi)) = keys G :=
  ⟨.lst hg (dqLi aG), rows_ok (fun _ => rfl) (fun _ => place_dLi) dG few⟩
theorem data_tups {H : Hp} {g : Addr} {G : PL} (hg : H g = some (.lst (refs G))) (aG : Ats H G) (dG : ∀ q ∈ G, Drw q.2) (few : G.length < 60) :
    Dq H (.ref g) (.list ((keys G).map dT)) ∧ LimL (.list ((keys G).map dT)) ∧ badL (.list ((keys G).map dT)) = none ∧ keysD (.list ((keys G).map dT)) = keys G :=
  ⟨.lst hg (dqP aG), rows_ok (fun _ => rfl) (fun _ => place_dT) dG few⟩
theorem lmakeQ {C BC : Addr} {v : V} {d : PyData} {H1 : Hp} {W : Addr → Hp → Prop} {E : XK} (dq : Dq H1 v d) (lim : LimL d) (b0 : badL d = none)
    (k : ∀ (x : Addr) (H' : Hp) (L : PL), Same H1 H' → H1 x = none → LotAt C H' x L → L.length ≤ (keysD d).length → (∀ k, k ∈ keys L ↔ k ∈ keysD d) → W x H') :
    ∀ x dx, H1 x = none → H1 dx = none → dx ≠ x → spInitQ C BC (.ref x :: ([v] ++ [])) (upd (upd H1 dx (.own x)) x (.ins C dx [])) (fun v H2 => v = .non ∧ W x H2) E := by
  intro x dx nx nd ne
  have s : Same H1 (upd (upd H1 dx (.own x)) x (.ins C dx [])) := fun b o hb => by rw [upd_ne (ne_of_none hb nx), upd_ne (ne_of_none hb nd)]; exact hb
  exact ⟨x, v, dx, d, rfl, upd_same, dq.same s, lim, fun i hi => (by rw [b0] at hi; cases hi), fun _ L H' b la few mem => ⟨rfl, k x H' L (Same.made nx nd fun z o hz ne' => b z o ne' hz) nx la few mem⟩⟩
end K1
set_option linter.all false
set_option maxRecDepth 100000
set_option maxHeartbeats 1000000
set_option pp.maxSteps 600
namespace K1
open PySem L2
structure L16 (P : Program) (w : World) (K : PySem.W.Frag) (mg : Str → Option Value) (base : Heap) (C BC : Addr) : Prop where
  c : LotC K mg C
  al : AloneC K C
  len : mg "len" = none
  any : mg "any" = none
  all : mg "all" = none
  range : mg "range" = none
  list : mg "list" = none
  tuple : mg "tuple" = none
  enum : mg "enumerate" = none
  repr : mg "repr" = none
  take : ∃ f fd, mg "_law_take" = some (.ref f) ∧ PySem.W.keepIn K (.ref f) = true ∧ Binds K fd ["_law_state", "_law_many"] [] ∧ FnOk P w K mg base CX0 1 f fd ["_law_state", "_law_many"] spTake
  fresh : ∃ f fd, mg "_law_fresh" = some (.ref f) ∧ PySem.W.keepIn K (.ref f) = true ∧ Binds K fd ["_law_script"] [] ∧ FnOk P w K mg base CX0 1 f fd ["_law_script"] (spFresh K)
  place : ∃ f fd, mg "_law_place" = some (.ref f) ∧ PySem.W.keepIn K (.ref f) = true ∧ Binds K fd ["_law_state"] [] ∧ FnOk P w K mg base CX0 3 f fd ["_law_state"] spPlace
  mix : ∃ f fd, mg "_law_mix" = some (.ref f) ∧ PySem.W.keepIn K (.ref f) = true ∧ Binds K fd ["_law_state", "_law_things"] [] ∧ FnOk P w K mg base CX0 2 f fd ["_law_state", "_law_things"] (spMix K)
  one : ∃ f fd, mg "_law_one" = some (.ref f) ∧ PySem.W.keepIn K (.ref f) = true ∧ Binds K fd ["_law_state", "_law_things"] [] ∧ FnOk P w K mg base CX0 2 f fd ["_law_state", "_law_things"] spOne
  same : ∃ f fd, mg "_law_same" = some (.ref f) ∧ PySem.W.keepIn K (.ref f) = true ∧ Binds K fd ["_law_found", "_law_due"] [] ∧ FnOk P w K mg base CX0 5 f fd ["_law_found", "_law_due"] (spSame K 5)
  loose : ∃ f fd, mg "_law_loose" = some (.ref f) ∧ PySem.W.keepIn K (.ref f) = true ∧ Binds K fd ["_law_state", "_law_thing"] [] ∧ FnOk P w K mg base CX0 5 f fd ["_law_state", "_law_thing"] (spLooseQ 3)
  rising : ∃ f fd, mg "_law_rising" = some (.ref f) ∧ PySem.W.keepIn K (.ref f) = true ∧ Binds K fd ["_law_things"] [] ∧ FnOk P w K mg base CX0 1 f fd ["_law_things"] spRising
  fits : ∃ f fd, mg "_law_fits" = some (.ref f) ∧ PySem.W.keepIn K (.ref f) = true ∧ Binds K fd ["_law_thing"] [] ∧ FnOk P w K mg base CX0 1 f fd ["_law_thing"] spFits
  tried : ∃ f fd, mg "_law_tried" = some (.ref f) ∧ PySem.W.keepIn K (.ref f) = true ∧ Binds K fd ["_law_things"] [] ∧ FnOk P w K mg base CX0 6 f fd ["_law_things"] spTried
  odd : ∃ f fd, mg "_law_odd" = some (.ref f) ∧ PySem.W.keepIn K (.ref f) = true ∧ Binds K fd [] [] ∧ FnOk P w K mg base CX0 1 f fd [] spOdd
  make : ∃ g fd, Mk K C g ∧ Binds K fd ["self", "places"] [] ∧ FnOk P w K mg base (L2.CX P w) 4 g fd ["self", "places"] (spInitQ C BC)
  eq : ∃ g fd, Meth K C "__eq__" g ∧ NeC K C g ∧ Binds K fd ["self", "other"] [] ∧ FnOk P w K mg base CX0 1 g fd ["self", "other"] (spEqQ C)
  lenO : ∃ g fd, Meth K C "__len__" g ∧ Binds K fd ["self"] [] ∧ FnOk P w K mg base CX0 1 g fd ["self"] (spLen C)
  has : ∃ g fd, Meth K C "__contains__" g ∧ Binds K fd ["self", "thing"] [] ∧ FnOk P w K mg base CX0 3 g fd ["self", "thing"] (spHasQ C)
section
variable {P : Program} {w : World} {K : PySem.W.Frag} {mg : Str → Option Value} {base : Heap} {C BC : Addr}
abbrev NLa : List Str := ["_law_script", "_law_state", "_law_turn", "_law_places", "_law_k", "_law_things", "_law_wrong", "_law_x", "_law_every", "_law_due", "_law_given", "_law_kept", "_law_thing", "_law_handed", "_law_lot", "_law_twin"]
theorem scLa : FnScope NLa ["_law_script"] (defScope sLaw) := ⟨rfl, rfl, rfl, by decide +kernel, rfl, by decide +kernel, by decide +kernel⟩
theorem ok_law {f : Addr} {fd : FuncData} (F : Fun K "law" "law" sLaw f fd) (T : L16 P w K mg base C BC) : FnC callerA P w K mg base CX0 8 f fd ["_law_script"] (spLaw K) := by
  obtain ⟨fT, fdT, gT, kT, bT, GT⟩ := T.take
  obtain ⟨fF, fdF, gF, kF, bF, GF⟩ := T.fresh
  obtain ⟨fP, fdP, gP, kP, bP, GP⟩ := T.place
  obtain ⟨fM, fdM, gM0, kM0, bM0, GM0⟩ := T.mix
  obtain ⟨fO, fdO, gO, kO, bO, GO⟩ := T.one
  obtain ⟨fS, fdS, gS, kS, bS, GS⟩ := T.same
  obtain ⟨fL, fdL, gL, kL, bL, GL⟩ := T.loose
  obtain ⟨fR, fdR, gR, kR, bR, GR⟩ := T.rising
  obtain ⟨fFi, fdFi, gFi, kFi, bFi, GFi⟩ := T.fits
  obtain ⟨fTr, fdTr, gTr, kTr, bTr, GTr⟩ := T.tried
  obtain ⟨fOd, fdOd, gOd, kOd, bOd, GOd⟩ := T.odd
  obtain ⟨gMk, fdMk, MM, bM', GM'⟩ := T.make
  obtain ⟨gE, fdE, ME, NE, bE, GE⟩ := T.eq
  obtain ⟨gN, fdN, MN, bN, GN⟩ := T.lenO
  obtain ⟨gH, fdH, MH, bH, GH⟩ := T.has
  have c := T.c
  have al := T.al
  refine okAt F scLa (fun vs H Q E h => ?_) (fun cdv fr s H vs Q E hr h => ?_)
  · obtain ⟨a, ns, rfl, _⟩ := h
    rfl
  · obtain ⟨a, ns, rfl, hS, hn, k⟩ := h
    have r1 : Room 1 _ := hr.mono (by decide)
    have r2 : Room 2 _ := hr.mono (by decide)
    have r3 : Room 3 _ := hr.mono (by decide)
    have r5 : Room 5 _ := hr.mono (by decide)
    have r6 : Room 6 _ := hr.mono (by decide)
    refine ⟨_, pss_cons (ps_set (i := 1) scLa.nd rfl (.inr rfl) (pe_call GF r1 (by rfl) gF kF bF .nil pass0 (pa_cons (pv 0) pa_nil)))
      (pss_cons (ps_for PassesOwn.never rfl (pi_range1 (by rfl) T.range (pa_cons pe_int pa_nil)) (pg_name (i := 2) scLa.nd rfl (Or.inl rfl)) (pss_cons (ps_set (i := 3) scLa.nd rfl (.inr rfl) (pe_lc (own := [("_law_k", 4)]) (g := gName 4) (tt := tYes)  rfl scLa.nd (pi_range1 (by rfl) T.range (pa_cons (pe_call GT r1 (by rfl) gT kT bT .nil pass0 (pa_cons (pv 1) (pa_cons pe_int pa_nil))) pa_nil)) (blkOk_by (N := NLa) (sc := defScope sLaw) (by decide +kernel)) (fun _ _ _ _ _ => (pg_name (i := 4) scLa.nd rfl (Or.inl rfl))) (fun _ _ _ _ _ => pts_nil) (fun _ _ _ _ _ => (pe_call GP r3 (by rfl) gP kP bP .nil pass0 (pa_cons (pv 1) pa_nil)))))
      (pss_cons (ps_set (i := 5) scLa.nd rfl (.inl rfl) (pe_call GM0 r2 (by rfl) gM0 kM0 bM0 .nil pass0 (pa_cons (pv 1) (pa_cons (pe_op op_cat (pv 3) (pe_slice sl_list (pv 3) po_none (po_some (pe_call GT r1 (by rfl) gT kT bT .nil pass0 (pa_cons (pv 1) (pa_cons pe_int pa_nil)))))) pa_nil))))
      (pss_cons (ps_for PassesOwn.never rfl (pi_range1 (by rfl) T.range (pa_cons (pe_mid (pe_ifExp (pt_cmpR op_gt (pv 2) pe_int (nomark _)) (pe_call GT r1 (by rfl) gT kT bT .nil pass0 (pa_cons (pv 1) (pa_cons pe_int pa_nil))) pe_int)) pa_nil)) (pg_name (i := 4) scLa.nd rfl (Or.inl rfl)) (pss_one (ps_expr (pe_bm PySem.F.plainAttrs_list PySem.F.slot_list_insert PySem.F.type_list_insert mt_insert (pv 5) (pa_cons (pe_call GT r1 (by rfl) gT kT bT .nil pass0 (pa_cons (pv 1) (pa_cons (pe_op op_add (pe_callB call_len_seq (by rfl) T.len PySem.boot_len (pa_cons (pv 5) pa_nil)) pe_int) pa_nil))) (pa_cons (pe_call GO r2 (by rfl) gO kO bO .nil pass0 (pa_cons (pv 1) (pa_cons (pe_call0 GOd r1 (by rfl) gOd kOd bOd .nil pass0) pa_nil))) pa_nil))))))
      (pss_cons (ps_setLc (i := 6) (own := [("_law_k", 4), ("_law_x", 7)]) (g := gTup K 2 (gCons (gName 4) (gCons (gName 7) gNil)))  rfl scLa.nd rfl rfl (sw_true rfl rfl rfl rfl) (pi_enum (by rfl) T.enum (pa_cons (pv 5) pa_nil)) (blkOk_by (N := NLa) (sc := defScope sLaw) (by decide +kernel)) (fun _ _ _ _ _ => (pg_tup rfl (pgs_cons (pg_name (i := 4) scLa.nd rfl (Or.inl rfl)) (pgs_cons (pg_name (i := 7) scLa.nd rfl (Or.inl rfl)) pgs_nil)))) (fun _ _ _ _ _ => pts_one (pt_not (pt_val (pe_call GFi r1 (by rfl) gFi kFi bFi .nil pass0 (pa_cons (pv 7) pa_nil))))) (fun _ _ _ _ _ => (pv 4)))
      (pss_cons (ps_set (i := 8) scLa.nd rfl (.inl rfl) (pe_call GR r1 (by rfl) gR kR bR .nil pass0 (pa_cons (pe_lc (own := [("_law_k", 4), ("_law_x", 7)]) (g := gTup K 2 (gCons (gName 4) (gCons (gName 7) gNil)))  rfl scLa.nd (pi_enum (by rfl) T.enum (pa_cons (pv 3) pa_nil)) (blkOk_by (N := NLa) (sc := defScope sLaw) (by decide +kernel)) (fun _ _ _ _ _ => (pg_tup rfl (pgs_cons (pg_name (i := 4) scLa.nd rfl (Or.inl rfl)) (pgs_cons (pg_name (i := 7) scLa.nd rfl (Or.inl rfl)) pgs_nil)))) (fun _ _ _ _ _ => pts_one (pt_cmpR (op_notInDK (K := K) (units65' r1)) (pv 7) (pe_slice (sl_listK (K := K)) (pv 3) po_none (po_some (pv 4))) rfl)) (fun _ _ _ _ _ => (pv 7))) pa_nil)))
      (pss_cons (ps_set (i := 9) scLa.nd rfl (.inl rfl) (pe_mid (pe_ifExp (pt_cmpR (op_neD hr.units) (pv 6) (pe_lst pa_nil) (nomark _)) (pe_tup (pa_cons pe_str (pa_cons (pe_ix ix_list (pv 6) pe_int (fun _ _ => rfl)) pa_nil))) (pe_tup (pa_cons pe_str (pa_cons (pe_callTy call_tuple_of (by rfl) T.tuple (by decide +kernel) (pa_cons (pv 8) pa_nil)) pa_nil))))))
      (pss_cons (ps_set (i := 10) scLa.nd rfl (.inl rfl) (pe_call GL r5 (by rfl) gL kL bL .nil pass0 (pa_cons (pv 1) (pa_cons (pv 5) pa_nil))))
      (pss_cons (ps_set (i := 11) scLa.nd rfl (.inl rfl) (pe_callB (call_reprQ hr.units) (by rfl) T.repr (by decide +kernel) (pa_cons (pv 10) pa_nil)))
      (C8.pss_cut (ps_if (pw_or (pt_not (pt_val (pe_call GS r5 (by rfl) gS kS bS .nil pass0 (pa_cons (pe_call GTr r6 (by rfl) gTr kTr bTr .nil pass0 (pa_cons (pv 10) pa_nil)) (pa_cons (pv 9) pa_nil))))) (pw_or1 (pt_cmpR op_ne (pe_callB (call_reprQ hr.units) (by rfl) T.repr (by decide +kernel) (pa_cons (pv 10) pa_nil)) (pv 11) (nomark _)))).pt (pss_one (ps_ret pe_bl)) pss_nil)
      (pss_cons (ps_set (i := 12) scLa.nd rfl (.inl rfl) (pe_mid (pe_call GO r2 (by rfl) gO kO bO .nil pass0 (pa_cons (pv 1) (pa_cons (pe_lst (pa_cons pe_non (pa_cons pe_int (pa_cons pe_str (pa_cons pe_dnewK (pa_cons pe_bl pa_nil)))))) pa_nil)))))
      (pss_cons (ps_if (pt_not (pt_val (pe_call GS r5 (by rfl) gS kS bS .nil pass0 (pa_cons (pe_call GTr r6 (by rfl) gTr kTr bTr .nil pass0 (pa_cons (pv 12) pa_nil)) (pa_cons (pe_tup (pa_cons pe_str (pa_cons pe_int pa_nil))) pa_nil))))) (pss_one (ps_ret pe_bl)) pss_nil)
      (pss_cons (ps_setLc (i := 13) (own := [("_law_x", 7)]) (g := gName 7) (tt := tYes)  rfl scLa.nd rfl rfl (sw_true rfl rfl rfl rfl) (pi_list (pv 3)) (blkOk_by (N := NLa) (sc := defScope sLaw) (by decide +kernel)) (fun _ _ _ _ _ => (pg_name (i := 7) scLa.nd rfl (Or.inl rfl))) (fun _ _ _ _ _ => pts_nil) (fun _ _ _ _ _ => (pe_callTy call_listL (by rfl) T.list (by decide +kernel) (pa_cons (pv 7) pa_nil))))
      (pss_cons (ps_asg (pe_tup (pa_cons (pe_make MM GM' r5 (by rfl) c.glob bM' .nil passL (pa_cons (pv 13) pa_nil)) (pa_cons (pe_make MM GM' r5 (by rfl) c.glob bM' .nil passL (pa_cons (pe_call GM0 r2 (by rfl) gM0 kM0 bM0 .nil pass0 (pa_cons (pv 1) (pa_cons (pe_op op_cat (pv 3) (pv 3)) pa_nil))) pa_nil)) pa_nil))) (pg_tup rfl (pgs_cons (pg_name (i := 14) scLa.nd rfl (Or.inr rfl)) (pgs_cons (pg_name (i := 15) scLa.nd rfl (Or.inl rfl)) pgs_nil))))
      (pss_cons (ps_expr (pe_bm PySem.F.plainAttrs_list PySem.F.slot_list_append PySem.F.type_list_append mt_append (pv 13) (pa_cons (pe_lst (pa_cons pe_int (pa_cons pe_int (pa_cons pe_int (pa_cons pe_int pa_nil))))) pa_nil)))
      (pss_cons (ps_expr (pe_bm PySem.F.plainAttrs_list PySem.F.slot_list_append PySem.F.type_list_append mt_append (pe_ix ix_list (pv 13) pe_int (fun _ _ => rfl)) (pa_cons pe_int pa_nil)))
      (pss_cons (ps_asg (pe_lst (pa_cons pe_int pa_nil)) (pg_sub (pv 13) pe_int set_list))
      (pss_cons (ps_if (pw_or (pt_not (pt_val (pe_call GS r5 (by rfl) gS kS bS .nil pass0 (pa_cons (pe_tup (pa_cons (pe_fld (pv 14) rfl) (pa_cons (pe_callB (call_lenOwn MN GN r2 bN pass0) (by rfl) T.len PySem.boot_len (pa_cons (pv 14) pa_nil)) pa_nil))) (pa_cons (pe_tup (pa_cons (pe_callTy call_tuple_of (by rfl) T.tuple (by decide +kernel) (pa_cons (pv 8) pa_nil)) (pa_cons (pe_callB call_len_seq (by rfl) T.len PySem.boot_len (pa_cons (pv 8) pa_nil)) pa_nil))) pa_nil))))) (pw_or1 (pt_not (pt_cmpR (op_cmpQ (fun _ _ => rfl) ME c.nf al GE r1 bE pass0) (pv 14) (pv 15) (nomark _))))).pt (pss_one (ps_ret pe_bl)) pss_nil)
      (pss_cons (ps_if (pw_or (pt_cmpR (op_unlike NE GE r2 bE pass0) (pv 14) (pv 15) (nomark _)) (pw_or1 (pt_not (pt_val (pe_callB (cr_all rfl) (by rfl) T.all (by decide +kernel) (pa_cons (pe_lc (own := [("_law_x", 7)]) (g := gName 7) (tt := tYes)  rfl scLa.nd (pi_list (pv 8)) (blkOk_by (N := NLa) (sc := defScope sLaw) (by decide +kernel)) (fun _ _ _ _ _ => (pg_name (i := 7) scLa.nd rfl (Or.inl rfl))) (fun _ _ _ _ _ => pts_nil) (fun _ _ _ _ _ => (pe_and (pe_cmpR (op_has MH GH r3 bH pass0) (pv 7) (pv 14) rfl) (pe_one (pe_cmpR (op_has MH GH r3 bH pass0) (pe_callTy call_listL (by rfl) T.list (by decide +kernel) (pa_cons (pv 7) pa_nil)) (pv 14) rfl))))) pa_nil)))))).pt (pss_one (ps_ret pe_bl)) pss_nil)
      (pss_cons (ps_if (pt_val (pe_callB (cr_any rfl) (by rfl) T.any (by decide +kernel) (pa_cons (pe_lc (own := [("_law_x", 7)]) (g := gName 7) (tt := tYes)  rfl scLa.nd (pi_list (pe_op op_cat (pe_call0 GOd r1 (by rfl) gOd kOd bOd .nil pass0) (pe_lst (pa_cons (pe_tup (pa_cons pe_int (pa_cons pe_int (pa_cons pe_int (pa_cons pe_int pa_nil))))) pa_nil)))) (blkOk_by (N := NLa) (sc := defScope sLaw) (by decide +kernel)) (fun _ _ _ _ _ => (pg_name (i := 7) scLa.nd rfl (Or.inl rfl))) (fun _ _ _ _ _ => pts_nil) (fun _ _ _ _ _ => (pe_cmpR (op_has MH GH r3 bH pass0) (pv 7) (pv 14) rfl))) pa_nil))) (pss_one (ps_ret pe_bl)) pss_nil)
      (pss_cons (ps_if (pt_val (pe_callB (cr_any rfl) (by rfl) T.any (by decide +kernel) (pa_cons (pe_lc (own := [("_law_x", 7)]) (g := gName 7) (tt := tYes)  rfl scLa.nd (pi_list (pe_lst (pa_cons pe_non (pa_cons (pv 3) (pa_cons (pv 8) (pa_cons (pe_fld (pv 14) rfl) (pa_cons pe_int pa_nil))))))) (blkOk_by (N := NLa) (sc := defScope sLaw) (by decide +kernel)) (fun _ _ _ _ _ => (pg_name (i := 7) scLa.nd rfl (Or.inl rfl))) (fun _ _ _ _ _ => pts_nil) (fun _ _ _ _ _ => (pe_or (pe_cmpR (op_cmpQ (fun _ _ => rfl) ME c.nf al GE r1 bE pass0) (pv 14) (pv 7) (nomark _)) (pe_one (pe_cmpR (op_rev ME al GE r1 bE pass0) (pv 7) (pv 14) (nomark _)))))) pa_nil))) (pss_one (ps_ret pe_bl)) pss_nil)
      (pss_one (ps_if (pw_and (pt_cmpR (op_neD hr.units) (pv 8) (pe_lst pa_nil) (nomark _)) (pw_and1 (pt_cmpR (op_cmpQ (fun _ _ => rfl) ME c.nf al GE r1 bE pass0) (pv 14) (pe_make MM GM' r5 (by rfl) c.glob bM' .nil passL (pa_cons (pe_slice sl_list (pv 8) (po_some pe_int) po_none) pa_nil)) (nomark _)))).pt (pss_one (ps_ret pe_bl)) pss_nil)))))))))))))))))))))))
      (pss_one (ps_ret pe_bl))), ?_⟩
    refine ⟨_, rfl, a, ns, rfl, hS, hn, fun st l cs H0 s0 S0 nst => ?_⟩
    refine ⟨6, rfl, by decide, by decide, ?_⟩
    refine for_range (n := 6) (fun i σ H2 => (∃ v2 v3 v4 v5 v6 v7 v8 v9 v10 v11 v12 v13 v14 v15 : Option V, σ = [some (.ref a), some (.ref st), v2, v3, v4, v5, v6, v7, v8, v9, v10, v11, v12, v13, v14, v15]) ∧ Spr H2 st l cs (600 * i)) ⟨⟨_, _, _, _, _, _, _, _, _, _, _, _, _, _, rfl⟩, S0⟩ ?_ ?_
    · rintro i σ H2 hi ⟨⟨v2, v3, v4, v5, v6, v7, v8, v9, v10, v11, v12, v13, v14, v15, rfl⟩, S2⟩
      refine ⟨_, rfl, st, l, cs, _, 11, rfl, by decide, by decide, by omega, S2, fun m H3 m0 m1 S3 hk3 => ?_⟩
      refine ⟨m, rfl, by omega, by omega, fun D nD => ?_⟩
      have nDs := S3.not nD
      have s3 := same_new nD (.lst [])
      have Dl : D ≠ l := (ne_of_none S3.ls nD).symm
      refine lc_it (walk_range (lo := 0) (n := m.toNat)) (fun j H9 => ∃ L : PL, H9 D = some (.lst (refs L)) ∧ Ats H9 L ∧ (∀ p ∈ L, Drw p.2) ∧ L.length = j ∧ Spr H9 st l cs (600 * i + 1 + 20 * j) ∧ But st H2 H9) ⟨[], upd_same, (fun _ h => nomatch h), (fun _ h => nomatch h), rfl, (S3.mono s3).up (by omega), (But.eq hk3).trans (But.of s3)⟩ (fun j H9 _ _ => trivial) ?_ ?_
      · rintro j y H9 H10 hj ⟨L, hD, aL, dL, lL, S9, b9⟩ ⟨rfl, hy⟩
        refine ⟨rfl, _, rfl, st, l, cs, _, rfl, S9, by omega, fun b ns H' n' nb hb dr S' ln bt => ?_⟩
        have hD' := bt D _ nDs hD
        have aL' := aL.but S9 bt
        have up : ∀ {c : Addr} {xs : List V} {o : HO}, H' c = some (.tup xs) → upd H' D o c = some (.tup xs) := fun {c xs o} hc => by
          rw [upd_ne (fun e => by rw [e, hD'] at hc; cases hc)]
          exact hc
        refine ⟨_, hD', small1000 (by rw [refs_len]; omega), L ++ [(b, ns)], by rw [upd_same, refs_app]; rfl, fun p hp => ?_, fun p hp => ?_, by rw [List.length_append, lL]; rfl, (S'.upd nDs Dl).up (by omega), fun c o nc hc => ?_⟩
        · rcases List.mem_append.mp hp with h | h
          · exact up (aL' p h)
          · rw [List.mem_singleton.mp h]
            exact up hb
        · rcases List.mem_append.mp hp with h | h
          · exact dL p h
          · rw [List.mem_singleton.mp h]
            exact dr
        · have cD : c ≠ D := fun e => by
            rw [e, (But.eq hk3).free nD nDs] at hc
            cases hc
          rw [upd_ne cD]
          exact bt c o nc (b9 c o nc hc)
      rintro H4 ⟨L, hD4, aL, dL, lL, S4, b4⟩
      have lL10 : L.length ≤ 10 := by omega
      have S4 := S4.up (m := 600 * i + 210) (by omega)
      clear b4 lL
      -- the things
      refine ⟨_, rfl, _, rfl, _, rfl, _, rfl, st, l, cs, _, 3, rfl, by decide, by decide, by omega, S4, fun r H5 r0 r1' S5 hk5 => ?_⟩
      have hD5 : H5 D = some (.lst (refs L)) := by rw [hk5 D nDs]; exact hD4
      have aL5 := aL.but S4 (But.eq hk5)
      have ecut : cutV (refs L) none (some r) = refs (L.take r.toNat) := by
        unfold refs
        exact cut_to _ L r0
      refine ⟨r, rfl, D, refs L, rfl, SqL.of hD5, fun p1 np1 => ?_⟩
      rw [ecut]
      have s6 := same_new np1 (.lst (refs (L.take r.toNat)))
      refine ⟨D, p1, refs L, _, rfl, rfl, s6 _ _ hD5, upd_same, sz (by rw [refs_len, refs_len, List.length_take]; omega), fun p2 np2 => ?_⟩
      rw [← refs_app]
      have s7 := s6.trans (same_new np2 (.lst (refs (L ++ L.take r.toNat))))
      have S7 := S5.mono s7
      have subA : ∀ q ∈ L ++ L.take r.toNat, q ∈ L := fun q hq => (List.mem_append.mp hq).elim id (List.mem_of_mem_take ·)
      have lA : (L ++ L.take r.toNat).length ≤ 12 := by
        rw [List.length_append, List.length_take]
        omega
      have aA := ((aL5.mono s7).sub subA)
      refine ⟨st, l, p2, cs, _, refs (L ++ L.take r.toNat), rfl, .inl (SqL.of upd_same), by rw [refs_len]; omega, by rw [refs_len]; omega, S7, dataP (aA.off S7), fun p ys H8 pm hp8 S8 b8 np8 => ?_⟩
      obtain ⟨Tl, pT, eys⟩ := perm_of_map (f := fun q : Addr × List Int => V.ref q.1) pm (L := L ++ L.take r.toNat) rfl
      have eys : ys = refs Tl := eys
      subst eys
      have subT : ∀ q ∈ Tl, q ∈ L := fun q hq => subA q (pT.mem_iff.mp hq)
      have lT : Tl.length ≤ 12 := by rw [pT.length_eq]; exact lA
      have S8 := S8.up (m := 600 * i + 240) (by rw [refs_len]; omega)
      have hD8 : H8 D = some (.lst (refs L)) := b8 D _ nDs (s7 _ _ hD5)
      have aL8 := (aL5.mono s7).but S7 b8
      have pD : D ≠ p := ne_of_none (s7 _ _ hD5) np8
      have pst : p ≠ st := S7.not np8
      have pl : p ≠ l := (ne_of_none S7.ls np8).symm
      clear S2 S3 S4 S5 S7 hD4 hD5 aL aL5 aA b8 s6 s7 np8 np1 np2 hk3 hk5 nD s3
      -- odd ones among them
      refine ⟨fun x H' => ∃ m : Nat, m ≤ 2 ∧ x = .int (m : Nat) ∧ Spr H' st l cs (600 * i + 241) ∧ But st H8 H', ?_, ?_⟩
      · refine ⟨_, rfl, _, _, rfl, rfl, _, rfl, ite2 (fun _ => ?_) fun _ => ?_⟩
        · exact ⟨_, rfl, st, l, cs, _, 3, rfl, by decide, by decide, by omega, S8, fun r H8 r0 r1' S8 hk8 => ⟨r.toNat, by omega, congrArg V.int (by omega), S8.up (by omega), But.eq hk8⟩⟩
        · exact ⟨0, by omega, rfl, S8.up (by omega), But.refl _ _⟩
      rintro x H9 ⟨m2, hm2, rfl, S9, b9⟩
      refine ⟨(m2 : Nat), rfl, by omega, by omega, ?_⟩
      rw [Int.toNat_natCast]
      refine for_range (n := m2) (fun j σ H9 => ∃ (ys : List V) (ds : List PyData) (v4 : Option V), σ = [some (.ref a), some (.ref st), some (.int (0 + i)), some (.ref D), v4, some (.ref p), v6, v7, v8, v9, v10, v11, v12, v13, v14, v15] ∧ Spr H9 st l cs (600 * i + 241 + 4 * j) ∧ H9 p = some (.lst ys) ∧ DqAll (off2 st p H9) ys ds ∧ (∀ e ∈ ds, ThE e) ∧ (∀ e ∈ ds, (∃ q ∈ L, e = dT q.2) ∨ placeD e = none) ∧ (∀ q ∈ L, dT q.2 ∈ ds) ∧ ds.length ≤ 12 + j ∧ H9 D = some (.lst (refs L)) ∧ Ats H9 L)
        ⟨_, _, _, rfl, S9, b9 p _ pst hp8, dqP (((aL8.but S8 b9).sub subT).off2 S9 (b9 p _ pst hp8)), (fun e he => ?_), (fun e he => ?_), (fun q hq => ?_), by rw [List.length_map]; exact Nat.le_trans (Nat.le_of_eq (List.length_map _)) lT, b9 D _ nDs hD8, aL8.but S8 b9⟩ ?_ ?_
      · obtain ⟨ns, hns, rfl⟩ := List.mem_map.mp he
        obtain ⟨q, hq, rfl⟩ := List.mem_map.mp hns
        exact th_place (dL q (subT q hq))
      · obtain ⟨ns, hns, rfl⟩ := List.mem_map.mp he
        obtain ⟨q, hq, rfl⟩ := List.mem_map.mp hns
        exact .inl ⟨q, subT q hq, rfl⟩
      · exact List.mem_map.mpr ⟨q.2, List.mem_map.mpr ⟨q, pT.mem_iff.mpr (List.mem_append_left _ hq), rfl⟩, rfl⟩
      · rintro j σ H10 hj ⟨ys, ds, v4', rfl, S10, hp10, dq10, th10, wh10, al10, len10, hD10, aL10⟩
        have ly := dq10.len
        refine ⟨_, rfl, .inl ⟨rfl, _, SqL.of hp10⟩, _, rfl, _, rfl, p, ys, rfl, .inl (SqL.of hp10), _, _, rfl, rfl, st, l, cs, _, _, rfl, by omega, by omega, by omega, S10, fun r H11 r0 r1' S11 hk11 => ?_⟩
        have b11 : But st H10 H11 := But.eq hk11
        refine ⟨_, rfl, rfl, fun oa ox H12 s12 noa hoa doa => ?_⟩
        have S12 := S11.mono s12
        have lo : ox.length = 13 := doa.len
        refine ⟨st, l, oa, cs, _, ox, rfl, hoa, S11.not noa, by omega, by omega, by omega, S12, fun x H13 mx S13 hk13 => ?_⟩
        have b13 : But st H12 H13 := But.eq hk13
        have bb : But st H10 H13 := (b11.trans (But.of s12)).trans b13
        have hp13 := bb p _ pst hp10
        obtain ⟨q, hq⟩ := List.getElem?_of_mem mx
        obtain ⟨d, hd, dx⟩ := doa.get hq
        obtain ⟨thd, tnd⟩ := th_odd (List.mem_of_getElem? hd)
        have dx13 : Dq (off2 st p H13) x d := dx.mono fun b o hb => by
          obtain ⟨h1, h2⟩ := fresh_some hb
          have n1 : b ≠ st := fun e => by
            obtain ⟨_, _, _, _, hst, _⟩ := S11.ex
            rw [e, hst] at h1
            cases h1
          have n2 : b ≠ p := fun e => by
            rw [e, b11 p _ pst hp10] at h1
            cases h1
          exact off2_of n1 n2 (b13 b o n1 h2)
        have dq13 := dq10.same (off2_but bb)
        have rl : r.toNat ≤ ys.length := by omega
        refine ⟨p, ys, r, x, rfl, rfl, hp13, small1000 (by omega), r0, by have z : (2 : Int) ^ 63 = 9223372036854775808 := by decide
                                                                          omega, ?_⟩
        refine ⟨_, ds.take r.toNat ++ [d] ++ ds.drop r.toNat, _, rfl, (S13.upd pst pl).up (by omega), upd_same, (((dq13.take r.toNat).app (.cons dx13 .nil)).app (dq13.drop r.toNat)).same off2_upd, fun e he => ?_, fun e he => ?_, fun q hq => ?_, ?_, by rw [upd_ne pD]; exact bb D _ nDs hD10, fun q hq => ?_⟩
        · rcases List.mem_append.mp he with h | h
          · rcases List.mem_append.mp h with h | h
            · exact th10 e (List.mem_of_mem_take h)
            · rw [List.mem_singleton.mp h]
              exact thd
          · exact th10 e (List.mem_of_mem_drop h)
        · rcases List.mem_append.mp he with h | h
          · rcases List.mem_append.mp h with h | h
            · exact wh10 e (List.mem_of_mem_take h)
            · rw [List.mem_singleton.mp h]
              exact .inr tnd
          · exact wh10 e (List.mem_of_mem_drop h)
        · have z := al10 q hq
          rw [← List.take_append_drop r.toNat ds] at z
          rcases List.mem_append.mp z with z | z
          · exact List.mem_append_left _ (List.mem_append_left _ z)
          · exact List.mem_append_right _ z
        · rw [List.length_append, List.length_append, List.length_take, List.length_drop]
          simp only [List.length_cons, List.length_nil]
          omega
        · have z := aL10.but S10 bb q hq
          rw [upd_ne (fun e => by rw [e, hp13] at z; cases z)]
          exact z
      rintro σ H10 ⟨ys, ds, v4', rfl, S10, hp10, dq10, th10, wh10, al10, len10, hD10, aL10⟩
      clear S8 S9 b9 hp8 hD8 aL8
      have thf := th_list th10 (by omega)
      have S10 := S10.up (m := 600 * i + 250) (by omega)
      have lds : ds.length ≤ 14 := by omega
      have ly := dq10.len
      -- the wrong ones
      refine ⟨_, rfl, p, ys, rfl, SqL.of hp10, fun Dw nDw => ?_⟩
      have DwD : Dw ≠ D := fun e => by rw [e, hD10] at nDw; cases nDw
      have n0 := S10.not nDw
      have sw := same_new nDw (.lst [])
      refine lc_it (walk_enum (xs := ys)) (fun j H9 => H9 Dw = some (.lst ((wrongAt ds j).map fun k : Nat => V.int (k : Nat))) ∧ Same H10 H9) ⟨upd_same, sw⟩ (fun j H9 _ h9 => SqL.of (h9.2 _ _ hp10)) ?_ ?_
      · rintro j x H11 H12 hj ⟨h11, s11⟩ ⟨tp, x1, x2, rfl, nt, rfl, e1, e2⟩
        obtain ⟨d, hd, dx⟩ := dq10.get e2
        cases e1
        have s12 := s11.trans (same_new nt (.tup [.int (j : Nat), x2]))
        have md := List.mem_of_getElem? hd
        have lj : j < ds.length := (List.getElem?_eq_some_iff.mp hd).1
        have step := wrong_succ ds hd
        have lw := wrongAt_len ds j
        refine ⟨tp, [.int (j : Nat), x2], rfl, SqT.of upd_same, rfl, _, [x2], rfl, x2, [], rfl, rfl, rfl, ?_⟩
        refine ⟨_, rfl, x2, d, rfl, dx.mono (fun b o hb => s12 b o (off2_some hb).2.2), (th10 d md).lim, fun H13 s13 => ⟨_, rfl, ?_⟩⟩
        have h13 := s13 _ _ ((same_new nt _) _ _ h11)
        have sA := s12.trans s13
        cases cp : (placeD d).isSome with
        | true =>
          rw [cp, if_pos rfl] at step
          refine iteF ⟨?_, sA⟩
          rw [step]
          exact h13
        | false =>
          rw [cp, if_neg (by simp)] at step
          refine iteT ⟨_, rfl, _, h13, small1000 (by rw [List.length_map]; omega), ?_, fun b o hb => ?_⟩
          · rw [upd_same, step, List.map_append]
            rfl
          · rw [upd_ne (ne_of_none hb nDw)]
            exact sA _ _ hb
      rintro H11 ⟨h11, s11⟩
      rw [ly, wrong_all] at h11
      have hD11 := s11 _ _ hD10
      have hp11 := s11 _ _ hp10
      have aL11 := aL10.mono s11
      have S11 := S10.mono s11
      have dq11 : DqAll (off2 st p H11) ys ds := dq10.same (off2_but (But.of s11))
      clear dq10 hp10 hD10 aL10 S10 nDw sw
      -- all places, ascending
      refine ⟨_, rfl, D, refs L, rfl, SqL.of hD11, fun Dn nDn => ?_⟩
      have n1 := S11.not nDn
      refine lc_it (walk_enum (xs := refs L)) (fun j H9 => H9 Dn = some (.lst (refs (fl (L.take j)))) ∧ Same H11 H9) ⟨upd_same, same_new nDn _⟩ (fun j H9 _ h9 => SqL.of (h9.2 _ _ hD11)) ?_ ?_
      · rintro j x H12 H13 hj ⟨h12, s12⟩ ⟨tp, x1, x2, rfl, nt, rfl, e1, e2⟩
        obtain ⟨q, hq, rfl⟩ := refs_get e2
        cases e1
        have mq := List.mem_of_getElem? hq
        have lj : j < L.length := (List.getElem?_eq_some_iff.mp hq).1
        have s13 := s12.trans (same_new nt (.tup [.int (j : Nat), .ref q.1]))
        have h13 := (same_new nt (.tup [.int (j : Nat), .ref q.1])) _ _ h12
        have et : L.take (j + 1) = L.take j ++ [q] := by rw [List.take_add_one, hq]; rfl
        have lf : (fl (L.take j)).length ≤ j := by
          have := fl_len (L.take j)
          rw [List.length_take] at this
          omega
        have ec : cutV (refs L) none (some ((j : Nat) : Int)) = refs (L.take j) := by
          unfold refs
          rw [cut_to _ L (by omega), Int.toNat_natCast]
        refine ⟨tp, [.int (j : Nat), .ref q.1], rfl, SqT.of upd_same, rfl, _, [.ref q.1], rfl, .ref q.1, [], rfl, rfl, rfl, ?_⟩
        refine ⟨_, rfl, _, rfl, _, rfl, (j : Nat), rfl, D, refs L, rfl, SqL.of (s13 _ _ hD11), fun z nz => ?_⟩
        rw [ec]
        have sz' := same_new nz (.lst (refs (L.take j)))
        have aj : Ats (upd (upd H12 tp (.tup [.int (j : Nat), .ref q.1])) z (.lst (refs (L.take j)))) L := (aL11.mono s13).mono sz'
        refine ⟨dT q.2, (keys (L.take j)).map dT, dp_T (aj q mq), .lst (SqL.of upd_same) (dp_refs (aj.sub fun p hp => List.mem_of_mem_take hp)), sh_dT _, okd_list (okd_keys _), ?_⟩
        rw [any_keys]
        have hz := sz' _ _ h13
        have sB := s13.trans sz'
        by_cases c : q.2 ∈ keys (L.take j)
        · rw [decide_eq_true c]
          refine ⟨_, rfl, iteF ⟨?_, sB⟩⟩
          rw [hz, et, fl_snoc]
          unfold insP
          rw [if_pos ((fl_mem _ _).mpr c)]
        · rw [decide_eq_false c]
          refine ⟨_, rfl, iteT ⟨_, rfl, _, hz, small1000 (by rw [refs_len]; omega), ?_, fun b o hb => ?_⟩⟩
          · rw [upd_same, et, fl_snoc]
            unfold insP
            rw [if_neg (fun z => c ((fl_mem _ _).mp z)), refs_app]
            rfl
          · rw [upd_ne (ne_of_none hb nDn)]
            exact sB _ _ hb
      rintro H12 ⟨h12, s12⟩
      rw [refs_len, List.take_of_length_le (Nat.le_refl _)] at h12
      have aL12 := aL11.mono s12
      refine ⟨Dn, fl L, rfl, h12, aL12.sub (fl_sub L), fun q hq => (dL q (fl_sub L q hq)).ok, fl_nd L, by have := fl_len L; omega, fun Ev R H13 s13 nEv hEv pR aR => ?_⟩
      have sX := s12.trans s13
      have hD13 := sX _ _ hD11
      have nE : Ev ≠ st := (S11.mono s12).not nEv
      have hp13 := sX _ _ hp11
      have hw13 := sX _ _ h11
      have aL13 := aL11.mono sX
      have S13 := S11.mono sX
      have dq13 : DqAll (off2 st p H13) ys ds := dq11.same (off2_but (But.of sX))
      have subR : ∀ q ∈ R, q ∈ L := fun q hq => fl_sub L q (pR.mem_iff.mp hq)
      have memR : ∀ k, k ∈ keys R ↔ k ∈ keys L := fun k => ((pR.map (·.2)).mem_iff).trans (fl_mem L k)
      have lR : R.length ≤ 10 := by
        rw [pR.length_eq]
        exact Nat.le_trans (fl_len L) lL10
      clear dq11 hD11 hp11 h11 aL11 S11 aL12 h12 nDn s12 s13
      -- what is due
      have eInt : (wrongs ds).map (fun k : Nat => V.int (k : Nat)) = ((wrongs ds).map fun k : Nat => ((k : Nat) : Int)).map V.int := by
        rw [List.map_map]
        rfl
      refine ⟨fun v H' => ∃ t, v = .ref t ∧ Same H13 H' ∧ ((∃ w u, wrongs ds = w :: u ∧ H' t = some (.tup [.str "bad", .int (w : Nat)])) ∨ (wrongs ds = [] ∧ ∃ tv, H' t = some (.tup [.str "made", .ref tv]) ∧ H' tv = some (.tup (refs R)))), ?_, ?_⟩
      · refine ⟨_, rfl, sz (Nat.zero_le _), fun e ne => ?_⟩
        have se := same_new ne (.lst [])
        refine ⟨.list (((wrongs ds).map fun k : Nat => ((k : Nat) : Int)).map PyData.int), .list [], .lst (SqL.of (by rw [se _ _ hw13, eInt])) (dp_ints _), .lst (SqL.of upd_same) .nil, okd_list (fun d hd => ?_), okd_list (ds := []) (fun _ h => nomatch h), ?_⟩
        · obtain ⟨n, _, rfl⟩ := List.mem_map.mp hd
          exact okd_int n
        rw [eqv_nil]
        cases ew : wrongs ds with
        | nil =>
          refine ⟨_, rfl, iteF ⟨_, rfl, Ev, refs R, rfl, .inl ⟨SqL.of (se _ _ hEv), fun tv ntv => ⟨sz (Nat.le_of_ble_eq_true rfl), fun t nt => ?_⟩⟩⟩⟩
          have s2 := same_new ntv (.tup (refs R))
          have s3 := same_new nt (.tup [.str "made", .ref tv])
          exact ⟨t, rfl, se.trans (s2.trans s3), .inr ⟨rfl, tv, upd_same, s3 _ _ upd_same⟩⟩
        | cons w u =>
          rw [ew] at hw13
          refine ⟨_, rfl, iteT ⟨_, rfl, Dw, _, _, .int (w : Nat), rfl, rfl, SqL.of (se _ _ hw13), at_of (j := 0) rfl rfl, sz (Nat.le_of_ble_eq_true rfl), fun t nt => ?_⟩⟩
          exact ⟨t, rfl, se.trans (same_new nt _), .inl ⟨w, u, rfl, upd_same⟩⟩
      rintro _ H14 ⟨Du, rfl, s14, hDu⟩
      have hD14 := s14 _ _ hD13
      have hp14 := s14 _ _ hp13
      have hE14 := s14 _ _ hEv
      have aL14 := aL13.mono s14
      have S14 := S13.mono s14
      have dq14 : DqAll (off2 st p H14) ys ds := dq13.same (off2_but (But.of s14))
      clear hD13 hp13 hEv aL13 S13 dq13 hw13 s14
      -- handed over, lists and tuples as drawn
      refine ⟨_, rfl, _, rfl, st, l, cs, _, .ref p, .list ds, off st H14, rfl, thf.dep, thf.wid, by have := thf.cnt; omega, S14, .lst (by rw [off_ne pst]; exact hp14) (dq14.same off2_off), fun b o hb => ⟨(off_some hb).2, (off_some hb).1⟩, fun v' d' H15 n15 dv tv S15 l15 b15 => ?_⟩
      obtain ⟨limd', bad', key', sho', dep', len'⟩ := thf.loose tv
      have offW : Same (off st H14) H15 := fun b o hb => b15 b o (off_some hb).1 (off_some hb).2
      have dv15 : Dq H15 v' d' := dv.mono fun b o hb => by
        rcases jn_some hb with z | ⟨_, z⟩
        · exact offW b o z
        · exact (fresh_some z).2
      have S15 := S15.up (m := 600 * i + 360) (by have := thf.cnt; omega)
      have hD15 := b15 D _ nDs hD14
      have hE15 : H15 Ev = some (.lst (refs R)) := b15 Ev _ nE hE14
      have aL15 := aL14.but S14 b15
      have hDu15 : (∃ w u, wrongs ds = w :: u ∧ H15 Du = some (.tup [.str "bad", .int (w : Nat)])) ∨ (wrongs ds = [] ∧ ∃ tv, H15 Du = some (.tup [.str "made", .ref tv]) ∧ H15 tv = some (.tup (refs R))) := by
        have nt : ∀ {b : Addr} {xs : List V}, H14 b = some (.tup xs) → H15 b = some (.tup xs) := fun {b xs} hb => b15 b _ (S14.no hb fun _ e => by cases e) hb
        rcases hDu with ⟨w, u, e, h⟩ | ⟨e, t2, h, h2⟩
        · exact .inl ⟨w, u, e, nt h⟩
        · exact .inr ⟨e, t2, nt h, nt h2⟩
      clear hDu dv offW hD14 hE14 aL14 S14 b15 dq14 hp14
      -- its text
      refine ⟨_, rfl, v', d', rfl, dv15, rfl, sho', dep', len', ?_⟩
      refine ⟨fun σ' H' => σ' = [some (.ref a), some (.ref st), some (.int (0 + i)), some (.ref D), v4', some (.ref p), some (.ref Dw), v7, some (.ref Ev), some (.ref Du), some v', some (.str (PyData.shown d')), v12, v13, v14, v15] ∧ Same H15 H', ?_, ?_⟩
      · refine ⟨_, rfl, v', d', rfl, dv15, limd', fun j hj t H16 s16 nt ht => ?_, fun b0 t tp L' H16 s16 nt ht pt => ?_⟩
        · rw [bad', bad_wrongs] at hj
          rcases hDu15 with ⟨w, u, ew, hd⟩ | ⟨ew, _⟩
          · rw [ew] at hj
            cases hj
            refine ⟨_, rfl, _, _, rfl, same_tup2 ht (s16 _ _ hd) (.inl ⟨_, rfl, rfl⟩), fun H17 s17 => ⟨_, rfl, iteF ?_⟩⟩
            have sA := s16.trans s17
            exact ⟨_, rfl, v', d', rfl, dv15.same sA, rfl, sho', dep', len', _, rfl, rfl, _, rfl, iteNS rfl ⟨rfl, sA⟩⟩
          · rw [ew] at hj
            cases hj
        · rw [bad', bad_wrongs] at b0
          rcases hDu15 with ⟨w, u, ew, hd⟩ | ⟨ew, t2, hd, h2⟩
          · rw [ew] at b0
            cases b0
          · rw [key'] at pt
            have allP : ∀ e ∈ ds, ∃ q ∈ L, e = dT q.2 := fun e he => by
              rcases wh10 e he with z | z
              · exact z
              · have bn : badFrom ds = none := by
                  have y := bad_wrongs ds
                  rw [ew] at y
                  exact y
                have w := bad_none bn e he
                rw [z] at w
                cases w
            have pq : ∀ q ∈ L, plOf (dT q.2) = q.2 := fun q hq => plOf_dT (place_dT fun x hx => (int_facts ((dL q hq).mem x hx)).1)
            have memD : ∀ k, k ∈ keysD (.list ds) ↔ k ∈ keys L := fun k => by
              show k ∈ ds.map plOf ↔ k ∈ keys L
              constructor
              · intro h
                obtain ⟨e, he, rfl⟩ := List.mem_map.mp h
                obtain ⟨q, hq, rfl⟩ := allP e he
                rw [pq q hq]
                exact List.mem_map.mpr ⟨q, hq, rfl⟩
              · intro h
                obtain ⟨q, hq, rfl⟩ := List.mem_map.mp h
                exact List.mem_map.mpr ⟨dT q.2, al10 q hq, pq q hq⟩
            have eK : keys L' = keys R := asc_keys pt.asc aR pt.ok (fun q hq => (dL q (subR q hq)).ok) fun k => ((pt.mem k).trans (memD k)).trans (memR k).symm
            have fewL : L'.length ≤ 14 := by
              have z := pt.few
              have y : (keysD (.list ds)).length = ds.length := List.length_map _
              omega
            refine ⟨_, rfl, _, _, rfl, same_tup2 ht (s16 _ _ hd) (same_places pt.at_ (s16 _ _ h2) pt.tu ((aL15.sub subR).mono s16) eK (by omega) pt.ok), fun H17 s17 => ⟨_, rfl, iteF ?_⟩⟩
            have sA := s16.trans s17
            exact ⟨_, rfl, v', d', rfl, dv15.same sA, rfl, sho', dep', len', _, rfl, rfl, _, rfl, iteNS rfl ⟨rfl, sA⟩⟩
      rintro σ' H16 ⟨rfl, s16⟩
      have hD16 := s16 _ _ hD15
      have hE16 := s16 _ _ hE15
      have aL16 := aL15.mono s16
      have S16 := S15.mono s16
      clear dv15 hD15 hE15 aL15 S15 hDu15 limd' sho' dep' len' s16
      -- one thing that is no list
      refine ⟨fun x H' => ∃ d, seqD d = none ∧ Dq H' x d ∧ Spr H' st l cs (600 * i + 361) ∧ But st H16 H', ?_, ?_⟩
      · refine ⟨_, rfl, ?_⟩
        intro od nod
        have e1 := same_new nod (.dK [])
        refine ⟨sz (Nat.le_of_ble_eq_true rfl), fun q nq => ?_⟩
        have e2 := e1.trans (same_new nq (.lst [.non, .int 5, .str "a", .ref od, .bl true]))
        have hod : upd H16 od (.dK []) od = some (.dK []) := upd_same
        refine ⟨st, l, q, cs, _, _, rfl, upd_same, (S16.mono e1).not nq, Nat.le_of_ble_eq_true rfl, Nat.le_of_ble_eq_true rfl, by omega, S16.mono e2, fun x H17 mx S17 hk17 => ?_⟩
        have b17 : But st H16 H17 := (But.of e2).trans (But.eq hk17)
        have odst : od ≠ st := S16.not nod
        simp only [List.mem_cons, List.not_mem_nil, or_false] at mx
        rcases mx with rfl | rfl | rfl | rfl | rfl
        · exact ⟨.none, rfl, .non, S17, b17⟩
        · exact ⟨.int 5, rfl, .int 5, S17, b17⟩
        · exact ⟨.str "a", rfl, .str "a", S17, b17⟩
        · exact ⟨.dict [], rfl, .emp (by rw [hk17 od odst]; exact (same_new nq _) _ _ hod), S17, b17⟩
        · exact ⟨.bool true, rfl, .bl true, S17, b17⟩
      rintro x H17 ⟨d, sd, dx17, S17, b17⟩
      have hD17 := b17 D _ nDs hD16
      have hE17 := b17 Ev _ nE hE16
      have aL17 := aL16.but S16 b17
      have bd : badL d = some 0 := by
        unfold badL
        rw [sd]
      clear hD16 hE16 aL16 S16 b17
      refine ⟨_, rfl, x, d, rfl, dx17, ⟨(fun _ e => by rw [sd] at e; cases e), (fun _ e => by rw [sd] at e; cases e), (fun _ e => by rw [sd] at e; cases e)⟩, fun j hj t H18 s18 nt ht => ?_, fun b0 => by rw [bd] at b0; cases b0⟩
      rw [bd] at hj
      cases hj
      refine ⟨sz (Nat.le_of_ble_eq_true rfl), fun t2 nt2 => ⟨_, _, rfl, same_tup2 ((same_new nt2 _) _ _ ht) upd_same (.inl ⟨_, rfl, rfl⟩), fun H20 s20 => ⟨_, rfl, iteF ?_⟩⟩⟩
      have sA := s18.trans ((same_new nt2 _).trans s20)
      have hD20 := sA _ _ hD17
      have hE20 := sA _ _ hE17
      have aL20 := aL17.mono sA
      have S20 := S17.mono sA
      clear hD17 hE17 aL17 S17 sA dx17 s18 ht nt nt2 s20
      -- copies
      refine ⟨_, rfl, D, rfl, ⟨_, SqL.of hD20⟩, fun Gd nGd => ?_⟩
      refine lc_list (xs := refs L) (fun j H9 => ∃ G : PL, H9 Gd = some (.lst (refs G)) ∧ (∀ q ∈ G, H9 q.1 = some (.lst (q.2.map V.int)) ∧ H20 q.1 = none ∧ q.1 ≠ Gd) ∧ keys G = keys (L.take j) ∧ Same H20 H9) ⟨[], upd_same, (fun _ h => nomatch h), rfl, same_new nGd _⟩ (fun j H9 _ h9 => by obtain ⟨_, _, _, _, q⟩ := h9; exact SqL.of (q _ _ hD20)) ?_ ?_
      · rintro j y H21 hy ⟨G, hG, aG, eG, s21⟩
        obtain ⟨e, he, rfl⟩ := refs_get hy
        have me := List.mem_of_getElem? he
        have lj : j < L.length := (List.getElem?_eq_some_iff.mp he).1
        have lG : G.length = j := by
          have z := congrArg List.length eG
          unfold keys at z
          rw [List.length_map, List.length_map, List.length_take] at z
          omega
        refine ⟨rfl, _, rfl, e.1, _, rfl, .inr (s21 _ _ (aL20 e me)), fun q nq => ?_⟩
        have sq := same_new nq (.lst (e.2.map V.int))
        have hG2 := sq _ _ hG
        have nq20 : H20 q = none := s21.free nq
        have qG : q ≠ Gd := fun z => by rw [z, hG] at nq; cases nq
        refine ⟨_, hG2, small1000 (by rw [refs_len]; omega), G ++ [(q, e.2)], ?_, fun r hr' => ?_, ?_, fun b o hb => ?_⟩
        · rw [upd_same, refs_app]
          rfl
        · rcases List.mem_append.mp hr' with h | h
          · obtain ⟨h1, h2, h3⟩ := aG r h
            exact ⟨by rw [upd_ne h3]; exact sq _ _ h1, h2, h3⟩
          · rw [List.mem_singleton.mp h]
            exact ⟨by rw [upd_ne qG]; exact upd_same, nq20, qG⟩
        · rw [keys_snoc, eG, List.take_add_one, he, Option.toList_some, keys_snoc]
        · rw [upd_ne (ne_of_none hb nGd)]
          exact sq _ _ (s21 _ _ hb)
      rintro H21 ⟨G, hG, aG, eG, s21⟩
      rw [refs_len, List.take_length] at eG
      have dG : ∀ q ∈ G, Drw q.2 := fun q hq => by
        have z : q.2 ∈ keys L := by
          rw [← eG]
          exact List.mem_map.mpr ⟨q, hq, rfl⟩
        obtain ⟨q', hq', e⟩ := List.mem_map.mp z
        rw [← e]
        exact dL q' hq'
      have lG : G.length ≤ 10 := by
        have z := congrArg List.length eG
        unfold keys at z
        rw [List.length_map, List.length_map] at z
        omega
      obtain ⟨dqG, limG, badG, keyG⟩ := data_lists hG (fun q hq => (aG q hq).1) dG (by omega)
      have hD21 := s21 _ _ hD20
      have hE21 := s21 _ _ hE20
      have aL21 := aL20.mono s21
      have S21 := S20.mono s21
      -- two Lots
      refine ⟨_, rfl, ?_⟩
      dsimp only [tNil]
      refine lmakeQ dqG limG badG fun o H22 L1 s22 no la few1 mem1 => ?_
      rw [keyG] at few1 mem1
      have hD22 := s22 _ _ hD21
      have hE22 := s22 _ _ hE21
      have aL22 := aL21.mono s22
      have S22 := S21.mono s22
      refine ⟨_, rfl, _, rfl, _, rfl, D, D, refs L, refs L, rfl, rfl, hD22, hD22, sz (by rw [refs_len]; omega), fun p3 np3 => ?_⟩
      rw [← refs_app]
      have s23 := same_new np3 (.lst (refs (L ++ L)))
      have S23 := S22.mono s23
      have subLL : ∀ q ∈ L ++ L, q ∈ L := fun q hq => (List.mem_append.mp hq).elim id id
      have lLL : (L ++ L).length ≤ 20 := by rw [List.length_append]; omega
      refine ⟨st, l, p3, cs, _, refs (L ++ L), rfl, .inl (SqL.of upd_same), by rw [refs_len]; omega, by rw [refs_len]; omega, S23, dataP (((aL22.mono s23).sub subLL).off S23), fun p4 ys4 H24 pm4 hp4 S24 b24 np4 => ?_⟩
      obtain ⟨T4, pT4, e4⟩ := perm_of_map (f := fun q : Addr × List Int => V.ref q.1) pm4 (L := L ++ L) rfl
      have e4 : ys4 = refs T4 := e4
      subst e4
      have sub4 : ∀ q ∈ T4, q ∈ L := fun q hq => subLL q (pT4.mem_iff.mp hq)
      have l4 : T4.length ≤ 20 := by rw [pT4.length_eq]; exact lLL
      have aL24 := (aL22.mono s23).but S23 b24
      obtain ⟨dq4, lim4, bad4, key4⟩ := data_tups hp4 (aL24.sub sub4) (fun q hq => dL q (sub4 q hq)) (by omega)
      dsimp only [tNil]
      refine lmakeQ dq4 lim4 bad4 fun o2 H25 L2 s25 no2 la2 few2 mem2 => ?_
      rw [key4] at few2 mem2
      refine ⟨sz (Nat.le_of_ble_eq_true rfl), fun tp ntp => ⟨tp, [.ref o, .ref o2], rfl, SqT.of upd_same, rfl, _, [.ref o2], rfl, .ref o2, [], rfl, rfl, ?_⟩⟩
      have s26 := same_new ntp (.tup [.ref o, .ref o2])
      have B1 : But st H21 (upd H25 tp (.tup [.ref o, .ref o2])) := ((But.of (s22.trans s23)).trans b24).trans (But.of (s25.trans s26))
      have B0 : But st H20 (upd H25 tp (.tup [.ref o, .ref o2])) := (But.of s21).trans B1
      have nGst := S20.not nGd
      have hG26 := B1 Gd _ nGst hG
      have aG26 : ∀ q ∈ G, upd H25 tp (.tup [.ref o, .ref o2]) q.1 = some (.lst (q.2.map V.int)) := fun q hq => B1 q.1 _ (S20.not (aG q hq).2.1) (aG q hq).1
      have lo26 := ((la.mono s23).but S23 b24).mono (s25.trans s26)
      have lt26 := la2.mono s26
      have S26 := (S24.up (m := 600 * i + 390) (by rw [refs_len]; omega)).mono (s25.trans s26)
      have hD26 := B0 D _ nDs hD20
      have hE26 := B0 Ev _ nE hE20
      have aL26 := aL20.but S20 B0
      generalize upd H25 tp (.tup [.ref o, .ref o2]) = H26 at B1 B0 hG26 aG26 lo26 lt26 S26 hD26 hE26 aL26 ⊢
      clear B1 la la2 S24 S23 S22 S21 hD21 hE21 aL21 hD22 hE22 aL22 aL24 dq4 lim4 bad4 hp4 dqG limG badG hG s22 s23 b24 s25 s26 ntp
      -- what was passed changes
      refine ⟨_, rfl, .inl ⟨rfl, _, SqL.of hG26⟩, sz (Nat.le_of_ble_eq_true rfl), fun w nw => ?_⟩
      have s27 := same_new nw (.lst [.int 7, .int 7, .int 7, .int 7])
      have hw27 : upd H26 w (.lst [.int 7, .int 7, .int 7, .int 7]) w = some (.lst [.int 7, .int 7, .int 7, .int 7]) := upd_same
      have hG27 := s27 _ _ hG26
      have wst := S26.not nw
      have nw20 : H20 w = none := B0.free nw wst
      have wG : w ≠ Gd := fun z => by rw [z, hG26] at nw; cases nw
      refine ⟨Gd, _, _, rfl, rfl, hG27, small1000 (by rw [refs_len]; omega), ?_⟩
      have lo27 := lo26.mono s27
      have lt27 := lt26.mono s27
      have S27 := S26.mono s27
      have B27 := B0.trans (But.of s27)
      have aG27 : ∀ q ∈ G, upd H26 w (.lst [.int 7, .int 7, .int 7, .int 7]) q.1 = some (.lst (q.2.map V.int)) := fun q hq => s27 _ _ (aG26 q hq)
      generalize upd H26 w (.lst [.int 7, .int 7, .int 7, .int 7]) = H27 at hw27 hG27 lo27 lt27 S27 B27 aG27 ⊢
      have Gl : Gd ≠ l := fun e => by rw [e, S20.ls] at nGd; cases nGd
      have lo28 := lo27.keep (ys := refs G ++ [.ref w]) hG27
      have lt28 := lt27.keep (ys := refs G ++ [.ref w]) hG27
      have S28 := S27.upd (o := .lst (refs G ++ [.ref w])) nGst Gl
      have B28 : But st H20 (upd H27 Gd (.lst (refs G ++ [.ref w]))) := fun b o nb hb => by
        rw [upd_ne (ne_of_none hb nGd)]
        exact B27 _ _ nb hb
      have hG28 : upd H27 Gd (.lst (refs G ++ [.ref w])) Gd = some (.lst (refs G ++ [.ref w])) := upd_same
      obtain ⟨g0, z0, e0, hx0, n0, l0⟩ : ∃ (g0 : Addr) (z0 : List V), (refs G ++ [.ref w])[0]? = some (.ref g0) ∧ upd H27 Gd (.lst (refs G ++ [.ref w])) g0 = some (.lst z0) ∧ (H20 g0 = none ∧ g0 ≠ Gd) ∧ z0.length ≤ 20 := by
        cases G with
        | nil => exact ⟨w, _, rfl, by rw [upd_ne wG]; exact hw27, ⟨nw20, wG⟩, Nat.le_of_ble_eq_true rfl⟩
        | cons q r =>
          obtain ⟨h1, h2, h3⟩ := aG q (.head _)
          refine ⟨q.1, _, rfl, by rw [upd_ne h3]; exact aG27 q (.head _), ⟨h2, h3⟩, ?_⟩
          rw [List.length_map]
          have := (dG q (.head _)).few
          omega
      generalize upd H27 Gd (.lst (refs G ++ [.ref w])) = H28 at lo28 lt28 S28 B28 hG28 hx0 ⊢
      refine ⟨_, rfl, Gd, _, _, _, rfl, rfl, SqL.of hG28, atI_nat (j := 0) e0, .inl ⟨rfl, _, SqL.of hx0⟩, g0, _, _, rfl, rfl, hx0, small1000 (by omega), ?_⟩
      have lo29 := lo28.keep (ys := z0 ++ [.int 9]) hx0
      have lt29 := lt28.keep (ys := z0 ++ [.int 9]) hx0
      have S29 := S28.upd (o := .lst (z0 ++ [.int 9])) (S20.not n0.1) (fun e => by have y := n0.1; rw [e, S20.ls] at y; cases y)
      have B29 : But st H20 (upd H28 g0 (.lst (z0 ++ [.int 9]))) := fun b o nb hb => by
        rw [upd_ne (ne_of_none hb n0.1)]
        exact B28 _ _ nb hb
      have hG29 : upd H28 g0 (.lst (z0 ++ [.int 9])) Gd = some (.lst (refs G ++ [.ref w])) := by
        rw [upd_ne n0.2.symm]
        exact hG28
      generalize upd H28 g0 (.lst (z0 ++ [.int 9])) = H29 at lo29 lt29 S29 B29 hG29 ⊢
      refine ⟨sz (Nat.le_of_ble_eq_true rfl), fun w8 nw8 => ?_⟩
      have s30 := same_new nw8 (.lst [.int 8])
      have hG30 := s30 _ _ hG29
      have lo30 := lo29.mono s30
      have lt30 := lt29.mono s30
      have S30 := S29.mono s30
      have B30 := B29.trans (But.of s30)
      generalize upd H29 w8 (.lst [.int 8]) = H30 at hG30 lo30 lt30 S30 B30 ⊢
      refine ⟨_, rfl, Gd, _, 0, 0, rfl, rfl, hG30, by rw [List.length_append]; simp [ixN], ?_⟩
      have lo31 := lo30.keep (ys := List.set (refs G ++ [V.ref w]) 0 (V.ref w8)) hG30
      have lt31 := lt30.keep (ys := List.set (refs G ++ [V.ref w]) 0 (V.ref w8)) hG30
      have S31 := S30.upd (o := .lst (List.set (refs G ++ [V.ref w]) 0 (V.ref w8))) nGst Gl
      have B31 : But st H20 (upd H30 Gd (.lst (List.set (refs G ++ [V.ref w]) 0 (V.ref w8)))) := fun b o nb hb => by
        rw [upd_ne (ne_of_none hb nGd)]
        exact B30 _ _ nb hb
      generalize upd H30 Gd (.lst (List.set (refs G ++ [V.ref w]) 0 (V.ref w8))) = H31 at lo31 lt31 S31 B31 ⊢
      have hD31 := B31 D _ nDs hD20
      have hE31 := B31 Ev _ nE hE20
      have aL31 := aL20.but S20 B31
      clear lo26 lt26 lo27 lt27 lo28 lt28 lo29 lt29 lo30 lt30 S26 S27 S28 S29 S30 B0 B27 B28 B29 B30 hG26 hG27 hG28 hG29 hG30 aG26 aG27 hw27 hx0 hD26 hE26 aL26 nw nw8 s27 s30
      have nL1 : (keys L1).Nodup := by
        have z := lo31.asc
        exact List.pairwise_map.mpr (z.imp fun h e => by rw [e] at h; exact absurd h (Int.lt_irrefl _))
      have okR : Oks R := fun q hq => (dL q (subR q hq)).ok
      have okL1 := lo31.oks
      have e1 : keys L1 = keys R := asc_keys lo31.asc aR okL1 okR fun k => by rw [mem1, eG, memR]
      have e2 : keys L2 = keys R := asc_keys lt31.asc aR lt31.oks okR fun k => by
        rw [mem2, memR]
        constructor
        · intro h
          obtain ⟨q, hq, rfl⟩ := List.mem_map.mp h
          exact List.mem_map.mpr ⟨q, sub4 q hq, rfl⟩
        · intro h
          obtain ⟨q, hq, rfl⟩ := List.mem_map.mp h
          exact List.mem_map.mpr ⟨q, pT4.mem_iff.mpr (List.mem_append_left _ hq), rfl⟩
      have lenE : L1.length = R.length := by
        have z := congrArg List.length e1
        unfold keys at z
        rwa [List.length_map, List.length_map] at z
      obtain ⟨dxo, tO, knO, kvO, ho1, ho2, ho3, ho4, ho5, ho6, ho7, ho8⟩ := id lo31
      refine ⟨_, rfl, o, C, dxo, _, _, rfl, ho1, c.cls, c.np, rfl, _, rfl, o, rfl, lo31.ins, o, L1, rfl, lo31, L1.length, rfl, by omega, sz (Nat.le_of_ble_eq_true rfl), fun ta nta => ?_⟩
      have s32 := same_new nta (.tup [.ref tO, .int (L1.length : Nat)])
      refine ⟨_, rfl, Ev, refs R, rfl, .inl ⟨SqL.of (s32 _ _ hE31), fun tv ntv => ?_⟩⟩
      have s33 := same_new ntv (.tup (refs R))
      refine ⟨_, rfl, Ev, refs R, rfl, .inl (SqL.of (s33 _ _ (s32 _ _ hE31))), sz (Nat.le_of_ble_eq_true rfl), fun tb ntb => ?_⟩
      have s34 := same_new ntb (.tup [.ref tv, .int ((refs R).length : Nat)])
      have s3 := s32.trans (s33.trans s34)
      have hta := (s33.trans s34) _ _ (upd_same (o := .tup [.ref tO, .int (L1.length : Nat)]) (H := H31) (a := ta))
      have htv := s34 _ _ (upd_same (o := .tup (refs R)) (H := upd H31 ta (.tup [.ref tO, .int (L1.length : Nat)])) (a := tv))
      have smp : SameV K _ 4 (.ref tO) (.ref tv) := same_places (s3 _ _ ho2) htv (ho4.mono s3) ((aL31.sub subR).mono s3) e1 (by omega) okL1
      refine ⟨_, _, rfl, .inr (.inr (.inr ⟨ta, tb, _, _, rfl, rfl, .inr ⟨hta, upd_same⟩, rfl, Nat.le_of_ble_eq_true rfl, fun i a b ha hb => ?_⟩)), fun H35 s35 => ⟨_, rfl, iteF ?_⟩⟩
      · match i, ha, hb with
        | 0, ha, hb =>
          cases ha
          cases hb
          exact smp
        | 1, ha, hb =>
          cases ha
          cases hb
          rw [refs_len, lenE]
          exact .inl ⟨_, rfl, rfl⟩
      have sA := s3.trans s35
      have lo35 := lo31.mono sA
      have lt35 := lt31.mono sA
      have S35 := S31.mono sA
      have hD35 := sA _ _ hD31
      have hE35 := sA _ _ hE31
      have aL35 := aL31.mono sA
      clear s32 s33 s34 s3 hta htv smp ho1 ho2 ho3 ho4 ho5 ho6 ho7 ho8 hD31 hE31 aL31 lo31 lt31 S31 B31 nta ntv ntb s35 sA
      have e12 : keys L1 = keys L2 := e1.trans e2.symm
      refine ⟨_, rfl, _, rfl, o, rfl, lo35.ins, .inl ⟨o2, rfl, lt35.ins⟩, o, .ref o2, L1, rfl, lo35, .inl ⟨o2, L2, rfl, lt35, fun H36 s36 => ?_⟩⟩
      rw [decide_eq_true e12]
      refine ⟨_, rfl, iteF ?_⟩
      have lo36 := lo35.mono s36
      have lt36 := lt35.mono s36
      refine ⟨_, rfl, _, rfl, o, o2, rfl, rfl, lo36.ins, lt36.ins, o, .ref o2, L1, rfl, lo36, .inl ⟨o2, L2, rfl, lt36, fun H37 s37 => ?_⟩⟩
      rw [decide_eq_true e12]
      refine ⟨_, rfl, _, rfl, iteF ?_⟩
      have sA := s36.trans s37
      have lo37 := lo35.mono sA
      have lt37 := lt35.mono sA
      have S37 := S35.mono sA
      have hD37 := sA _ _ hD35
      have hE37 := sA _ _ hE35
      have aL37 := aL35.mono sA
      clear hD35 hE35 aL35 lo35 lt35 S35 lo36 lt36 s36 s37 sA
      -- each place is in it
      have hasT : ∀ q ∈ R, ∀ d, placeD d = some q.2 → hasD L1 d = true := fun q hq d pd => by
        unfold hasD
        rw [pd]
        refine decide_eq_true ?_
        rw [e1]
        exact List.mem_map.mpr ⟨q, hq, rfl⟩
      have nn : ∀ q ∈ R, ∀ x ∈ q.2, 0 ≤ x := fun q hq x hx => (int_facts ((dL q (subR q hq)).mem x hx)).1
      refine ⟨_, rfl, Ev, rfl, ⟨_, SqL.of hE37⟩, fun Da nDa => ?_⟩
      refine lc_list (xs := refs R) (fun j H9 => H9 Da = some (.lst ((List.replicate j true).map V.bl)) ∧ Same H37 H9) ⟨upd_same, same_new nDa _⟩ (fun j H9 _ h9 => SqL.of (h9.2 _ _ hE37)) ?_ ?_
      · rintro j y H38 hy ⟨h38, s38⟩
        obtain ⟨q, hq, rfl⟩ := refs_get hy
        have mq := List.mem_of_getElem? hq
        have lj : j < R.length := (List.getElem?_eq_some_iff.mp hq).1
        have aq := s38 _ _ (aL37 q (subR q mq))
        have few := (dL q (subR q mq)).few
        have lo38 := lo37.mono s38
        refine ⟨rfl, _, rfl, _, rfl, o, rfl, lo38.ins, o, .ref q.1, L1, dT q.2, rfl, lo38, .tup aq (dq_ints q.2), fun es e => by cases e; rw [List.length_map]; omega, fun H39 s39 => ?_⟩
        rw [hasT q mq _ (place_dT (nn q mq))]
        refine ⟨_, rfl, _, rfl, iteT ⟨_, rfl, q.1, _, rfl, .inr (s39 _ _ aq), fun l' nl' => ?_⟩⟩
        have s40 := same_new nl' (.lst (q.2.map V.int))
        have lo40 := (lo38.mono s39).mono s40
        refine ⟨_, rfl, o, rfl, lo40.ins, o, .ref l', L1, dLi q.2, rfl, lo40, .lst upd_same (dq_ints q.2), fun es e => by cases e; rw [List.length_map]; omega, fun H41 s41 => ?_⟩
        rw [hasT q mq _ (place_dLi (nn q mq))]
        have sB := s39.trans (s40.trans s41)
        refine ⟨_, rfl, _, sB _ _ h38, small1000 (by rw [List.length_map, List.length_replicate]; omega), ?_, fun b o' hb => ?_⟩
        · rw [upd_same, List.replicate_succ', List.map_append]
          rfl
        · rw [upd_ne (ne_of_none hb nDa)]
          exact sB _ _ (s38 _ _ hb)
      rintro H42 ⟨h42, s42⟩
      refine ⟨Da, _, rfl, SqL.of h42, ?_⟩
      have ea : (List.replicate (refs R).length true).all id = true := List.all_eq_true.mpr fun b hb => (List.mem_replicate.mp hb).2
      rw [ea]
      refine ⟨_, rfl, iteF ?_⟩
      have lo42 := lo37.mono s42
      have lt42 := lt37.mono s42
      have S42 := S37.mono s42
      have hD42 := s42 _ _ hD37
      have hE42 := s42 _ _ hE37
      have aL42 := aL37.mono s42
      clear hD37 hE37 aL37 lo37 lt37 S37 s42 h42 nDa
      -- none of the others is
      refine ⟨rfl, fun oa ox H43 s43 noa hoa doa => ⟨sz (Nat.le_of_ble_eq_true rfl), fun t7 nt7 => ⟨sz (Nat.le_of_ble_eq_true rfl), fun b7 nb7 => ?_⟩⟩⟩
      have lox : ox.length = 13 := doa.len
      have s44 := same_new nt7 (.tup [.int 7, .int 7, .int 7, .int 7])
      have s45 := same_new nb7 (.lst [.ref t7])
      refine ⟨oa, b7, ox, [.ref t7], rfl, rfl, (s44.trans s45) _ _ hoa, upd_same, sz (by rw [lox]; exact Nat.le_of_ble_eq_true rfl), fun p7 np7 => ?_⟩
      have s46 := same_new np7 (.lst (ox ++ [.ref t7]))
      have hp7 : upd (upd (upd H43 t7 (.tup [.int 7, .int 7, .int 7, .int 7])) b7 (.lst [.ref t7])) p7 (.lst (ox ++ [.ref t7])) p7 = some (.lst (ox ++ [.ref t7])) := upd_same
      have ht7 := (s45.trans s46) _ _ (upd_same (o := .tup [.int 7, .int 7, .int 7, .int 7]) (H := H43) (a := t7))
      have s47 := s44.trans (s45.trans s46)
      generalize upd (upd (upd H43 t7 (.tup [.int 7, .int 7, .int 7, .int 7])) b7 (.lst [.ref t7])) p7 (.lst (ox ++ [.ref t7])) = H47 at s45 s46 s47 hp7 ht7 ⊢
      have sAll := s43.trans s47
      have dq47 : DqAll H47 (ox ++ [.ref t7]) (oddDs ++ [dT [7, 7, 7, 7]]) := (doa.mono fun b o hb => s47 _ _ (fresh_some hb).2).app (.cons (.tup ht7 (dq_ints [7, 7, 7, 7])) .nil)
      have hno : ∀ d ∈ oddDs ++ [dT [7, 7, 7, 7]], LimP d ∧ hasD L1 d = false := fun d hd => by
        rcases List.mem_append.mp hd with h | h
        · obtain ⟨t, pn⟩ := th_odd h
          refine ⟨t.lim, ?_⟩
          unfold hasD
          rw [pn]
        · rw [List.mem_singleton.mp h]
          refine ⟨fun es e => by cases e; decide, ?_⟩
          show decide ([7, 7, 7, 7] ∈ keys L1) = false
          refine decide_eq_false fun m => ?_
          rw [e1] at m
          obtain ⟨q, hq, e⟩ := List.mem_map.mp m
          have z := (dL q (subR q hq)).mem 7 (by rw [e]; exact .head _)
          unfold nums at z
          revert z
          decide
      refine ⟨p7, rfl, ⟨_, SqL.of hp7⟩, fun Da nDa => ?_⟩
      refine lc_list (xs := ox ++ [.ref t7]) (fun j H9 => H9 Da = some (.lst ((List.replicate j false).map V.bl)) ∧ Same H47 H9) ⟨upd_same, same_new nDa _⟩ (fun j H9 _ h9 => SqL.of (h9.2 _ _ hp7)) ?_ ?_
      · rintro j y H48 hy ⟨h48, s48⟩
        obtain ⟨d, hd, dy⟩ := dq47.get hy
        obtain ⟨lm, hf⟩ := hno d (List.mem_of_getElem? hd)
        have lj : j < (ox ++ [V.ref t7]).length := (List.getElem?_eq_some_iff.mp hy).1
        rw [List.length_append, lox] at lj
        have lo48 := lo42.mono (sAll.trans s48)
        refine ⟨rfl, _, rfl, _, rfl, o, rfl, lo48.ins, o, y, L1, d, rfl, lo48, dy.same s48, lm, fun H49 s49 => ?_⟩
        rw [hf]
        refine ⟨_, rfl, _, s49 _ _ h48, small1000 (by rw [List.length_map, List.length_replicate]; simp only [List.length_cons, List.length_nil] at lj; omega), ?_, fun b o' hb => ?_⟩
        · rw [upd_same, List.replicate_succ', List.map_append]
          rfl
        · rw [upd_ne (ne_of_none hb nDa)]
          exact s49 _ _ (s48 _ _ hb)
      rintro H48 ⟨h48, s48⟩
      refine ⟨Da, _, rfl, SqL.of h48, ?_⟩
      have ea2 : (List.replicate (ox ++ [V.ref t7]).length false).any id = false := by
        rw [List.any_eq_false]
        intro b hb
        rw [(List.mem_replicate.mp hb).2]
        decide
      rw [ea2]
      refine ⟨_, rfl, iteF ?_⟩
      have sC := sAll.trans s48
      have lo48 := lo42.mono sC
      have lt48 := lt42.mono sC
      have S48 := S42.mono sC
      have hD48 := sC _ _ hD42
      have hE48 := sC _ _ hE42
      have aL48 := aL42.mono sC
      clear hD42 hE42 aL42 lo42 lt42 S42 sC sAll s43 s44 s45 s46 s47 s48 h48 nDa hp7 ht7 dq47 hoa doa
      -- what is no Lot is unlike it
      obtain ⟨dxo, tO, knO, kvO, ho1, ho2, _⟩ := id lo48
      refine ⟨_, rfl, _, rfl, _, rfl, o, C, dxo, _, _, rfl, ho1, c.cls, c.np, rfl, sz (Nat.le_of_ble_eq_true rfl), fun p9 np9 => ?_⟩
      have s49 := same_new np9 (.lst [.non, .ref D, .ref Ev, .ref tO, .int 5])
      refine ⟨p9, rfl, ⟨_, SqL.of upd_same⟩, fun Da nDa => ?_⟩
      have hp9 : upd H48 p9 (.lst [.non, .ref D, .ref Ev, .ref tO, .int 5]) p9 = some (.lst [.non, .ref D, .ref Ev, .ref tO, .int 5]) := upd_same
      generalize upd H48 p9 (.lst [.non, .ref D, .ref Ev, .ref tO, .int 5]) = H49 at s49 hp9 nDa ⊢
      refine lc_list (xs := [.non, .ref D, .ref Ev, .ref tO, .int 5]) (fun j H9 => H9 Da = some (.lst ((List.replicate j false).map V.bl)) ∧ Same H49 H9) ⟨upd_same, same_new nDa _⟩ (fun j H9 _ h9 => SqL.of (h9.2 _ _ hp9)) ?_ ?_
      · rintro j y H50 hy ⟨h50, s50⟩
        have sB := s49.trans s50
        have lo50 := lo48.mono sB
        have lj : j < 5 := (List.getElem?_eq_some_iff.mp hy).1
        obtain ⟨t, pl'⟩ : ∃ t, Plain H50 y t := by
          have my := List.mem_of_getElem? hy
          simp only [List.mem_cons, List.not_mem_nil, or_false] at my
          rcases my with rfl | rfl | rfl | rfl | rfl
          · exact ⟨_, .non⟩
          · exact ⟨_, .lst (sB _ _ hD48)⟩
          · exact ⟨_, .lst (sB _ _ hE48)⟩
          · exact ⟨_, .tup (sB _ _ ho2)⟩
          · exact ⟨_, .int 5⟩
        refine ⟨rfl, _, rfl, _, rfl, o, rfl, lo50.ins, .inr ⟨t, pl'⟩, o, y, L1, rfl, lo50, .inr ⟨⟨t, pl'⟩, _, rfl, iteF ?_⟩⟩
        refine ⟨_, rfl, _, rfl, t, o, rfl, lo50.ins, pl', o, y, L1, rfl, lo50, .inr ⟨⟨t, pl'⟩, ?_⟩⟩
        refine ⟨_, h50, small1000 (by rw [List.length_map, List.length_replicate]; omega), ?_, fun b o' hb => ?_⟩
        · rw [upd_same, List.replicate_succ', List.map_append]
          rfl
        · rw [upd_ne (ne_of_none hb nDa)]
          exact s50 _ _ hb
      rintro H50 ⟨h50, s50⟩
      refine ⟨Da, _, rfl, SqL.of h50, ?_⟩
      refine ⟨_, rfl, iteF ?_⟩
      have sC := s49.trans s50
      have lo50 := lo48.mono sC
      have S50 := S48.mono sC
      have hE50 := sC _ _ hE48
      have aL50 := aL48.mono sC
      clear hD48 hE48 aL48 lo48 lt48 S48 s49 s50 h50 nDa hp9 ho1 ho2 sC
      -- a Lot of fewer places
      refine ⟨_, rfl, sz (Nat.zero_le _), fun e ne => ?_⟩
      have se := same_new ne (.lst [])
      refine ⟨.list ((keys R).map dT), .list [], .lst (SqL.of (se _ _ hE50)) (dp_refs ((aL50.mono se).sub subR)), .lst (SqL.of upd_same) .nil, okd_list (okd_keys _), okd_list (ds := []) (fun _ h => nomatch h), ?_⟩
      rw [eqv_nil, List.length_map]
      have lkR : (keys R).length = R.length := List.length_map _
      rw [lkR]
      by_cases r0 : R.length = 0
      · rw [decide_eq_true r0]
        refine ⟨_, rfl, iteF (iteF ?_)⟩
        exact ⟨⟨_, _, _, _, _, _, _, _, _, _, _, _, _, _, rfl⟩, (S50.mono se).up (by omega)⟩
      · rw [decide_eq_false r0]
        refine ⟨_, rfl, iteT ?_⟩
        have ec : cutV (refs R) (some 1) none = refs (R.drop 1) := by
          unfold refs
          exact cut_from _ R (by decide)
        refine ⟨_, rfl, _, rfl, 1, rfl, Ev, refs R, rfl, SqL.of (se _ _ hE50), fun p10 np10 => ?_⟩
        rw [ec]
        have s51 := se.trans (same_new np10 (.lst (refs (R.drop 1))))
        have subD : ∀ q ∈ R.drop 1, q ∈ R := fun q hq => List.mem_of_mem_drop hq
        have lRd : (R.drop 1).length = R.length - 1 := List.length_drop ..
        obtain ⟨dqD, limD, badD', keyD⟩ := data_tups (upd_same (o := .lst (refs (R.drop 1))) (a := p10)) ((aL50.mono s51).sub fun q hq => subR q (subD q hq)) (fun q hq => dL q (subR q (subD q hq))) (by omega)
        dsimp only [tNil]
        refine lmakeQ dqD limD badD' fun o3 H53 L3 s53 no3 la3 few3 mem3 => ?_
        rw [keyD] at few3
        have lo53 := (lo50.mono s51).mono s53
        refine ⟨o, rfl, lo53.ins, .inl ⟨o3, rfl, la3.ins⟩, o, .ref o3, L1, rfl, lo53, .inl ⟨o3, L3, rfl, la3, fun H54 s54 => ?_⟩⟩
        have nk : keys L1 ≠ keys L3 := fun e => by
          have z := congrArg List.length e
          unfold keys at z few3
          rw [List.length_map, List.length_map] at z
          rw [List.length_map] at few3
          omega
        rw [decide_eq_false nk]
        refine ⟨_, rfl, iteF ?_⟩
        exact ⟨⟨_, _, _, _, _, _, _, _, _, _, _, _, _, _, rfl⟩, (((S50.mono s51).mono s53).mono s54).up (by omega)⟩
    · rintro σ H2 ⟨⟨v2, v3, v4, v5, v6, v7, v8, v9, v10, v11, v12, v13, v14, v15, rfl⟩, S2⟩
      exact k H2
end
end K1
set_option linter.all false
set_option maxRecDepth 100000
set_option maxHeartbeats 8000000
namespace K1
open PySem L2
/-! what the top has written -/
def fas : List He.Fa := [.glo "is_integer", .glo "is_list", .glo "as_place", .glo "ascending_places", .glo "_law_fresh", .glo "_law_take", .glo "_law_one", .glo "_law_mix", .glo "_law_same", .glo "_law_loose", .glo "_law_rising", .glo "_law_place", .glo "_law_fits", .glo "_law_tried", .glo "_law_odd", .glo "law", .glo "Lot", .free "isinstance", .free "list", .free "tuple", .free "len", .free "all", .free "zip", .free "int", .free "bool", .free "abs", .free "range", .free "enumerate", .free "set", .free "sorted", .free "any", .free "repr", .keep "is_integer", .keep "is_list", .keep "as_place", .keep "ascending_places", .keep "_law_fresh", .keep "_law_take", .keep "_law_one", .keep "_law_mix", .keep "_law_same", .keep "_law_loose", .keep "_law_rising", .keep "_law_place", .keep "_law_fits", .keep "_law_tried", .keep "_law_odd", .keep "law", .cls "Lot", .mkr "Lot", .noat "Lot" "places", .noat "Lot" "_known", .meth "Lot" "__init__", .meth "Lot" "__len__", .meth "Lot" "__contains__", .meth "Lot" "__eq__", .glo "BadLot"]
def fns : List He.FnD := [⟨("is_integer", none), "is_integer", "is_integer", defArgs pIsInteger, defBody pIsInteger, defScope pIsInteger⟩, ⟨("is_list", none), "is_list", "is_list", defArgs pIsList, defBody pIsList, defScope pIsList⟩, ⟨("as_place", none), "as_place", "as_place", defArgs pAsPlace, defBody pAsPlace, defScope pAsPlace⟩, ⟨("ascending_places", none), "ascending_places", "ascending_places", defArgs pAscendingPlaces, defBody pAscendingPlaces, defScope pAscendingPlaces⟩, ⟨("_law_fresh", none), "_law_fresh", "_law_fresh", defArgs sFresh, defBody sFresh, defScope sFresh⟩, ⟨("_law_take", none), "_law_take", "_law_take", defArgs sTake, defBody sTake, defScope sTake⟩, ⟨("_law_one", none), "_law_one", "_law_one", defArgs sOne, defBody sOne, defScope sOne⟩, ⟨("_law_mix", none), "_law_mix", "_law_mix", defArgs sMix, defBody sMix, defScope sMix⟩, ⟨("_law_same", none), "_law_same", "_law_same", defArgs sSame, defBody sSame, defScope sSame⟩, ⟨("_law_loose", none), "_law_loose", "_law_loose", defArgs sLoose, defBody sLoose, defScope sLoose⟩, ⟨("_law_rising", none), "_law_rising", "_law_rising", defArgs sRising, defBody sRising, defScope sRising⟩, ⟨("_law_place", none), "_law_place", "_law_place", defArgs sPlace, defBody sPlace, defScope sPlace⟩, ⟨("_law_fits", none), "_law_fits", "_law_fits", defArgs sFits, defBody sFits, defScope sFits⟩, ⟨("_law_tried", none), "_law_tried", "_law_tried", defArgs sTried, defBody sTried, defScope sTried⟩, ⟨("_law_odd", none), "_law_odd", "_law_odd", defArgs sOdd, defBody sOdd, defScope sOdd⟩, ⟨("law", none), "law", "law", defArgs sLaw, defBody sLaw, defScope sLaw⟩, ⟨("Lot", some "__init__"), "__init__", "Lot.__init__", defArgs cLotInit, defBody cLotInit, defScope cLotInit⟩, ⟨("Lot", some "__len__"), "__len__", "Lot.__len__", defArgs cLotLen, defBody cLotLen, defScope cLotLen⟩, ⟨("Lot", some "__contains__"), "__contains__", "Lot.__contains__", defArgs cLotContains, defBody cLotContains, defScope cLotContains⟩, ⟨("Lot", some "__eq__"), "__eq__", "Lot.__eq__", defArgs cLotEq, defBody cLotEq, defScope cLotEq⟩, ⟨("BadLot", some "__init__"), "__init__", "BadLot.__init__", defArgs cBadLotInit, defBody cBadLotInit, defScope cBadLotInit⟩]
abbrev MC (K : PySem.W.Frag) : Addr := He.ga K "Lot"
def exB0 (K : PySem.W.Frag) : Bool := decide (PySem.W.findIn K (.ref (MC K)) "__class__" = some (some (.builtin "object.__class__"))) && (decide (PySem.W.specialIn K (.builtin "object.__class__") "__get__" = some (some (.builtin "getset_descriptor.__get__"))) &&
  (decide (PySem.W.takesIn K (.builtin "object.__class__") = some true) && (decide (PySem.W.mroIn K (MC K) (.type "object") = some true) && (decide (PySem.W.kitOne K (.ref (MC K)) (.ref (MC K)) = some true) && (PySem.W.selfFirst K (MC K) && (PySem.W.notFirst K (MC K) (.ref (MC K)) && neB K (MC K) (He.ma K (MC K) "__eq__")))))))
def alB (K : PySem.W.Frag) : Bool := ["NoneType", "int", "list", "tuple"].all fun t => (decide (PySem.W.kitOne K (.type t) (.ref (MC K)) = some false) && PySem.W.notFirst K (MC K) (.type t)) && decide (PySem.W.subIn K (.ref (MC K)) (.type t) = some false)
theorem alB_ok {K : PySem.W.Frag} (e : alB K = true) : AloneC K (MC K) := ⟨fun t ht => by
  have z := List.all_eq_true.mp e t ht
  rw [Bool.and_eq_true, Bool.and_eq_true] at z
  exact ⟨of_decide_eq_true z.1.1, z.1.2⟩, fun t ht => by
  have z := List.all_eq_true.mp e t ht
  rw [Bool.and_eq_true] at z
  exact of_decide_eq_true z.2⟩
def exB (K : PySem.W.Frag) : Bool := (exB0 K && alB K) && (errB K "index" (He.ga K "BadLot") (He.ma K (He.ga K "BadLot") "__init__") && PySem.W.keepIn K (.ref (He.ma K (He.ga K "BadLot") "__init__")))
section
variable {P : Program} {w : World} {K : PySem.W.Frag} {mg : Str → Option Value} {h : Heap}
theorem meet_of (X : K.In h) (G : h.Ns mainGlobals mg) (c : He.SaysE fas fns K) (e : exB0 K = true) : LotC K mg (MC K) ∧ NeC K (MC K) (He.ma K (MC K) "__eq__") := by
  obtain ⟨e1, e⟩ := He.ba e
  obtain ⟨e2, e⟩ := He.ba e
  obtain ⟨e3, e⟩ := He.ba e
  obtain ⟨e4, e⟩ := He.ba e
  obtain ⟨e5, e⟩ := He.ba e
  obtain ⟨e6, e⟩ := He.ba e
  obtain ⟨e7, e8⟩ := He.ba e
  have cl := He.cls_ok (c.fact 48 rfl)
  exact ⟨⟨(He.glo_ok X G (c.fact 16 rfl)), cl, (He.noat_ok (c.fact 50 rfl)), (He.noat_ok (c.fact 51 rfl)), ⟨cl, of_decide_eq_true e1, of_decide_eq_true e2, of_decide_eq_true e3, of_decide_eq_true e4, of_decide_eq_true e5⟩, e6, e7⟩, neB_ok e8⟩
theorem facts {fa : Addr} (X : K.In h) (G : h.Ns mainGlobals mg) (hfa : mg ("law" : Str) = some (.ref fa)) (c : He.SaysE fas fns K) (e : exB K = true) :
    ∃ fd : FuncData, (∀ (s : Shared) (v : Value), BindsTo s fd ⟨[v], []⟩ [("_law_script", v)]) ∧ ∀ base : Heap, K.In base → base.Ns mainGlobals mg → FnC callerA P w K mg base CX0 8 fa fd ["_law_script"] (spLaw K) := by
  obtain ⟨oc0, od0, osl0, kV0, doc0, pm0, an0, cdv0, ct0, lk0, cd0⟩ := c.def_ 0 rfl
  have F0 := fun_mk (st := pIsInteger) lk0 cd0 (He.keep_ok (c.fact 32 rfl))
  have b0 := F0.binds (ps := ["thing"]) fun _ _ _ _ _ _ us hl => match us, hl with | [_], _ => rfl
  obtain ⟨oc1, od1, osl1, kV1, doc1, pm1, an1, cdv1, ct1, lk1, cd1⟩ := c.def_ 1 rfl
  have F1 := fun_mk (st := pIsList) lk1 cd1 (He.keep_ok (c.fact 33 rfl))
  have b1 := F1.binds (ps := ["thing"]) fun _ _ _ _ _ _ us hl => match us, hl with | [_], _ => rfl
  obtain ⟨oc2, od2, osl2, kV2, doc2, pm2, an2, cdv2, ct2, lk2, cd2⟩ := c.def_ 2 rfl
  have F2 := fun_mk (st := pAsPlace) lk2 cd2 (He.keep_ok (c.fact 34 rfl))
  have b2 := F2.binds (ps := ["thing"]) fun _ _ _ _ _ _ us hl => match us, hl with | [_], _ => rfl
  obtain ⟨oc3, od3, osl3, kV3, doc3, pm3, an3, cdv3, ct3, lk3, cd3⟩ := c.def_ 3 rfl
  have F3 := fun_mk (st := pAscendingPlaces) lk3 cd3 (He.keep_ok (c.fact 35 rfl))
  have b3 := F3.binds (ps := ["things"]) fun _ _ _ _ _ _ us hl => match us, hl with | [_], _ => rfl
  obtain ⟨oc4, od4, osl4, kV4, doc4, pm4, an4, cdv4, ct4, lk4, cd4⟩ := c.def_ 4 rfl
  have F4 := fun_mk (st := sFresh) lk4 cd4 (He.keep_ok (c.fact 36 rfl))
  have b4 := F4.binds (ps := ["_law_script"]) fun _ _ _ _ _ _ us hl => match us, hl with | [_], _ => rfl
  obtain ⟨oc5, od5, osl5, kV5, doc5, pm5, an5, cdv5, ct5, lk5, cd5⟩ := c.def_ 5 rfl
  have F5 := fun_mk (st := sTake) lk5 cd5 (He.keep_ok (c.fact 37 rfl))
  have b5 := F5.binds (ps := ["_law_state", "_law_many"]) fun _ _ _ _ _ _ us hl => match us, hl with | [_, _], _ => rfl
  obtain ⟨oc6, od6, osl6, kV6, doc6, pm6, an6, cdv6, ct6, lk6, cd6⟩ := c.def_ 6 rfl
  have F6 := fun_mk (st := sOne) lk6 cd6 (He.keep_ok (c.fact 38 rfl))
  have b6 := F6.binds (ps := ["_law_state", "_law_things"]) fun _ _ _ _ _ _ us hl => match us, hl with | [_, _], _ => rfl
  obtain ⟨oc7, od7, osl7, kV7, doc7, pm7, an7, cdv7, ct7, lk7, cd7⟩ := c.def_ 7 rfl
  have F7 := fun_mk (st := sMix) lk7 cd7 (He.keep_ok (c.fact 39 rfl))
  have b7 := F7.binds (ps := ["_law_state", "_law_things"]) fun _ _ _ _ _ _ us hl => match us, hl with | [_, _], _ => rfl
  obtain ⟨oc8, od8, osl8, kV8, doc8, pm8, an8, cdv8, ct8, lk8, cd8⟩ := c.def_ 8 rfl
  have F8 := fun_mk (st := sSame) lk8 cd8 (He.keep_ok (c.fact 40 rfl))
  have b8 := F8.binds (ps := ["_law_found", "_law_due"]) fun _ _ _ _ _ _ us hl => match us, hl with | [_, _], _ => rfl
  obtain ⟨oc9, od9, osl9, kV9, doc9, pm9, an9, cdv9, ct9, lk9, cd9⟩ := c.def_ 9 rfl
  have F9 := fun_mk (st := sLoose) lk9 cd9 (He.keep_ok (c.fact 41 rfl))
  have b9 := F9.binds (ps := ["_law_state", "_law_thing"]) fun _ _ _ _ _ _ us hl => match us, hl with | [_, _], _ => rfl
  obtain ⟨oc10, od10, osl10, kV10, doc10, pm10, an10, cdv10, ct10, lk10, cd10⟩ := c.def_ 10 rfl
  have F10 := fun_mk (st := sRising) lk10 cd10 (He.keep_ok (c.fact 42 rfl))
  have b10 := F10.binds (ps := ["_law_things"]) fun _ _ _ _ _ _ us hl => match us, hl with | [_], _ => rfl
  obtain ⟨oc11, od11, osl11, kV11, doc11, pm11, an11, cdv11, ct11, lk11, cd11⟩ := c.def_ 11 rfl
  have F11 := fun_mk (st := sPlace) lk11 cd11 (He.keep_ok (c.fact 43 rfl))
  have b11 := F11.binds (ps := ["_law_state"]) fun _ _ _ _ _ _ us hl => match us, hl with | [_], _ => rfl
  obtain ⟨oc12, od12, osl12, kV12, doc12, pm12, an12, cdv12, ct12, lk12, cd12⟩ := c.def_ 12 rfl
  have F12 := fun_mk (st := sFits) lk12 cd12 (He.keep_ok (c.fact 44 rfl))
  have b12 := F12.binds (ps := ["_law_thing"]) fun _ _ _ _ _ _ us hl => match us, hl with | [_], _ => rfl
  obtain ⟨oc13, od13, osl13, kV13, doc13, pm13, an13, cdv13, ct13, lk13, cd13⟩ := c.def_ 13 rfl
  have F13 := fun_mk (st := sTried) lk13 cd13 (He.keep_ok (c.fact 45 rfl))
  have b13 := F13.binds (ps := ["_law_things"]) fun _ _ _ _ _ _ us hl => match us, hl with | [_], _ => rfl
  obtain ⟨oc14, od14, osl14, kV14, doc14, pm14, an14, cdv14, ct14, lk14, cd14⟩ := c.def_ 14 rfl
  have F14 := fun_mk (st := sOdd) lk14 cd14 (He.keep_ok (c.fact 46 rfl))
  have b14 := F14.binds (ps := []) fun _ _ _ _ _ _ us hl => match us, hl with | [], _ => rfl
  obtain ⟨oc15, od15, osl15, kV15, doc15, pm15, an15, cdv15, ct15, lk15, cd15⟩ := c.def_ 15 rfl
  have F15 := fun_mk (st := sLaw) lk15 cd15 (He.keep_ok (c.fact 47 rfl))
  have b15 := F15.binds (ps := ["_law_script"]) fun _ _ _ _ _ _ us hl => match us, hl with | [_], _ => rfl
  obtain ⟨oc16, od16, osl16, kV16, doc16, pm16, an16, cdv16, ct16, lk16, cd16⟩ := c.def_ 16 rfl
  have F16 := fun_mk (st := cLotInit) lk16 cd16 (He.meth_ok (c.fact 52 rfl)).kp
  have b16 := F16.binds (ps := ["self", "places"]) fun _ _ _ _ _ _ us hl => match us, hl with | [_, _], _ => rfl
  obtain ⟨oc17, od17, osl17, kV17, doc17, pm17, an17, cdv17, ct17, lk17, cd17⟩ := c.def_ 17 rfl
  have F17 := fun_mk (st := cLotLen) lk17 cd17 (He.meth_ok (c.fact 53 rfl)).kp
  have b17 := F17.binds (ps := ["self"]) fun _ _ _ _ _ _ us hl => match us, hl with | [_], _ => rfl
  obtain ⟨oc18, od18, osl18, kV18, doc18, pm18, an18, cdv18, ct18, lk18, cd18⟩ := c.def_ 18 rfl
  have F18 := fun_mk (st := cLotContains) lk18 cd18 (He.meth_ok (c.fact 54 rfl)).kp
  have b18 := F18.binds (ps := ["self", "thing"]) fun _ _ _ _ _ _ us hl => match us, hl with | [_, _], _ => rfl
  obtain ⟨oc19, od19, osl19, kV19, doc19, pm19, an19, cdv19, ct19, lk19, cd19⟩ := c.def_ 19 rfl
  have F19 := fun_mk (st := cLotEq) lk19 cd19 (He.meth_ok (c.fact 55 rfl)).kp
  have b19 := F19.binds (ps := ["self", "other"]) fun _ _ _ _ _ _ us hl => match us, hl with | [_, _], _ => rfl
  obtain ⟨oc20, od20, osl20, kV20, doc20, pm20, an20, cdv20, ct20, lk20, cd20⟩ := c.def_ 20 rfl
  have z := hfa.symm.trans (He.glo_ok X G (c.fact 15 rfl))
  cases z
  refine ⟨PySem.W.fnOf "law" "law" (defArgs sLaw) (defBody sLaw) (defScope sLaw) .none kV15 doc15 pm15 an15 cdv15 ct15, fun s v => .of_eq rfl, fun base _ _ => ?_⟩
  obtain ⟨e, zBadLot⟩ := Bool.and_eq_true_iff.mp e
  obtain ⟨qBadLot, kBadLot⟩ := Bool.and_eq_true_iff.mp zBadLot
  obtain ⟨e, eal⟩ := Bool.and_eq_true_iff.mp e
  obtain ⟨mc, ne⟩ := meet_of X G c e
  have al := alB_ok eal
  have F20 := fun_mk (st := cBadLotInit) lk20 cd20 kBadLot
  have b20 := F20.binds (ps := ["self", "index"]) fun _ _ _ _ _ _ us hl => match us, hl with | [_, _], _ => rfl
  have erBadLot := errB_ok (x := "BadLot") (He.glo_ok X G (c.fact 56 rfl)) qBadLot
  have tt : TxtT mg := ⟨(He.free_ok X G (c.fact 20 rfl)), (He.free_ok X G (c.fact 25 rfl)), (He.free_ok X G (c.fact 23 rfl))⟩
  have gIL := ok_isList (P := P) (w := w) (base := base) F1 (He.free_ok X G (c.fact 18 rfl)) (He.free_ok X G (c.fact 19 rfl)) (He.free_ok X G (c.fact 17 rfl))
  have gII := ok_isInteger (P := P) (w := w) (base := base) F0 (He.free_ok X G (c.fact 23 rfl)) (He.free_ok X G (c.fact 24 rfl)) (He.free_ok X G (c.fact 17 rfl))
  have gAP := ok_asPlace F2 gIL (He.glo_ok X G (c.fact 1 rfl)) F1.kp b1 gII (He.glo_ok X G (c.fact 0 rfl)) F0.kp b0 (He.free_ok X G (c.fact 21 rfl)) (He.free_ok X G (c.fact 19 rfl))
  have gNi := ok_bli (P := P) (w := w) (mg := mg) (base := base) F20 erBadLot.oex erBadLot.no
  have gAs := ok_ascL F3 gIL (He.glo_ok X G (c.fact 1 rfl)) F1.kp b1 gAP (He.glo_ok X G (c.fact 2 rfl)) F2.kp b2 ⟨(He.free_ok X G (c.fact 27 rfl)), (He.free_ok X G (c.fact 28 rfl)), (He.free_ok X G (c.fact 29 rfl)), (He.free_ok X G (c.fact 19 rfl))⟩ erBadLot gNi b20
  have gIn := ok_initQ F16 mc gAs (He.glo_ok X G (c.fact 3 rfl)) F3.kp b3
  have gLn := ok_len (P := P) (w := w) (base := base) F17 mc (He.free_ok X G (c.fact 20 rfl))
  have gHa := ok_hasQ F18 mc gAP (He.glo_ok X G (c.fact 2 rfl)) F2.kp b2
  have gEq := ok_eqQ (P := P) (w := w) (base := base) F19 mc al (He.free_ok X G (c.fact 17 rfl))
  have gTk := ok_take (P := P) (w := w) (base := base) F5 tt
  have gFr := ok_fresh (P := P) (w := w) (base := base) F4 (He.free_ok X G (c.fact 18 rfl))
  have gMx := ok_mix (P := P) (w := w) (base := base) F7 F5 tt (He.free_ok X G (c.fact 18 rfl)) (He.glo_ok X G (c.fact 5 rfl)) b5
  have gOn := ok_one (P := P) (w := w) (base := base) F6 F5 tt (He.glo_ok X G (c.fact 5 rfl)) b5
  have ts : TxtS mg := ⟨(He.free_ok X G (c.fact 17 rfl)), (He.free_ok X G (c.fact 18 rfl)), (He.free_ok X G (c.fact 19 rfl)), (He.free_ok X G (c.fact 20 rfl)), (He.free_ok X G (c.fact 21 rfl)), (He.free_ok X G (c.fact 22 rfl)), (He.free_ok X G (c.fact 23 rfl)), (He.free_ok X G (c.fact 24 rfl))⟩
  have gSm := same_all (P := P) (w := w) (base := base) F8 ts b8 (He.glo_ok X G (c.fact 8 rfl))
  have gLo := ok_looseQD F9 (He.glo_ok X G (c.fact 5 rfl)) F5.kp b5 gTk (He.glo_ok X G (c.fact 9 rfl)) b9 (He.free_ok X G (c.fact 18 rfl)) (He.free_ok X G (c.fact 19 rfl)) (He.free_ok X G (c.fact 17 rfl)) 3
  have gRi := ok_rising (P := P) (w := w) (base := base) F10 (He.free_ok X G (c.fact 20 rfl))
  have gPl := ok_place F11 (He.glo_ok X G (c.fact 5 rfl)) F5.kp b5 gTk (He.glo_ok X G (c.fact 6 rfl)) F6.kp b6 gOn ⟨(He.free_ok X G (c.fact 26 rfl))⟩
  have gFi := ok_fits (P := P) (w := w) (base := base) F12 ⟨(He.free_ok X G (c.fact 17 rfl)), (He.free_ok X G (c.fact 18 rfl)), (He.free_ok X G (c.fact 19 rfl)), (He.free_ok X G (c.fact 23 rfl)), (He.free_ok X G (c.fact 24 rfl)), (He.free_ok X G (c.fact 21 rfl))⟩
  have gTr := ok_tried F13 mc erBadLot (He.mkr_ok (c.fact 49 rfl)) gIn b16
  have gOd := ok_odd (P := P) (w := w) (mg := mg) (base := base) F14
  exact ok_law F15 ⟨mc, al, (He.free_ok X G (c.fact 20 rfl)), (He.free_ok X G (c.fact 30 rfl)), (He.free_ok X G (c.fact 21 rfl)), (He.free_ok X G (c.fact 26 rfl)), (He.free_ok X G (c.fact 18 rfl)), (He.free_ok X G (c.fact 19 rfl)), (He.free_ok X G (c.fact 27 rfl)), (He.free_ok X G (c.fact 31 rfl)), ⟨_, _, (He.glo_ok X G (c.fact 5 rfl)), F5.kp, b5, gTk⟩, ⟨_, _, (He.glo_ok X G (c.fact 4 rfl)), F4.kp, b4, gFr⟩, ⟨_, _, (He.glo_ok X G (c.fact 11 rfl)), F11.kp, b11, gPl⟩, ⟨_, _, (He.glo_ok X G (c.fact 7 rfl)), F7.kp, b7, gMx⟩, ⟨_, _, (He.glo_ok X G (c.fact 6 rfl)), F6.kp, b6, gOn⟩, ⟨_, _, (He.glo_ok X G (c.fact 8 rfl)), F8.kp, b8, (gSm 5)⟩, ⟨_, _, (He.glo_ok X G (c.fact 9 rfl)), F9.kp, b9, gLo⟩, ⟨_, _, (He.glo_ok X G (c.fact 10 rfl)), F10.kp, b10, gRi⟩, ⟨_, _, (He.glo_ok X G (c.fact 12 rfl)), F12.kp, b12, gFi⟩, ⟨_, _, (He.glo_ok X G (c.fact 13 rfl)), F13.kp, b13, gTr⟩, ⟨_, _, (He.glo_ok X G (c.fact 14 rfl)), F14.kp, b14, gOd⟩, ⟨_, _, (He.mkr_ok (c.fact 49 rfl)), b16, gIn⟩, ⟨_, _, (He.meth_ok (c.fact 55 rfl)), ne, b19, gEq⟩, ⟨_, _, (He.meth_ok (c.fact 53 rfl)), b17, gLn⟩, ⟨_, _, (He.meth_ok (c.fact 54 rfl)), b18, gHa⟩⟩
end
end K1
set_option maxRecDepth 100000
namespace K1
open PySem L2
theorem walk {l : PySem.W.OpenLaw} {q : Program} {loose : List Str} {XP : (Str → Option Value) → Heap → Prop} {YP : World → Heap → Prop} {d : DefRec} {K : Params → PySem.W.Frag} (hn : l.most = some 63) (hdf : d.params.defaults = [])
    (hY : ∀ (w : World) (h : Heap), YP w h → (K w.params).In h)
    (F : ∀ (w : World) (mg : Str → Option Value) (fa : Addr) (h : Heap), (K w.params).In h → h.Ns mainGlobals mg → mg d.name = some (.ref fa) →
      ∃ fd : FuncData, (∀ (s : Shared) (u : Value), BindsTo s fd ⟨[u], []⟩ [("_law_script", u)]) ∧ ∀ base : Heap, (K w.params).In base → base.Ns mainGlobals mg → FnC callerA l.prog w (K w.params) mg base CX0 8 fa fd ["_law_script"] (spLaw (K w.params))) :
    PySem.W.WalkO q loose XP YP l.row.toRowW d [] (fun f vs => PySem.call f vs) :=
  walk_ofG (n := 63) (k := 8) (x := "_law_script") (sp := fun w => spLaw (K w.params)) hn (by decide) hdf ⟨rfl, by decide, by decide⟩ hY F (fun _ _ a ns hl _ hS => ⟨a, ns, rfl, hS, hl, fun _ => rfl⟩)
end K1
open PySem PySem.W PyProof.Rows
set_option maxRecDepth 100000 in
set_option maxHeartbeats 0 in
theorem PySem.Challenge.cw_idlewrites_k16_lots_made_holds : PySem.Challenge.rw_idlewrites_k16_lots_made.Holds := by
  w_on; o_law; k_head; (case hw => w_witness2)
  k_fill
  refine K1.walk (l := PySem.Challenge.rw_idlewrites_k16_lots_made) rfl rfl (fun w h Y => PySem.W.kIn_of Y) ?F
  case F =>
    intro w mg fa h KX G hmg
    refine' K1.facts KX G hmg ?c ?e
    case c =>
      refine (?_ : He.obsE K1.fas K1.fns _ = He.valE K1.fns)
      kernel_rfl
    case e => kernel_rfl
