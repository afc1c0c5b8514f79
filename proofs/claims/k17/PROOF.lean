import PyProof.Rows.All
import Wide.All
import OpenK.AllK
import Wide.FinOn
import HandS.ForExc
import HandS.Wide
import HandS.Comp
import HandS.Iter
import HandS.More
import HandS.Dict
import HandS.Walk
import HandS.IsInst
import HandS.Small
import HandS.TupAny
import HandS.Steps
import HandS.TupSets
import HandS.TupLe
import HandS.DictComp
import HandS.ForList
import HandS.SlotsOwn
import PyProof.InstNe
import HandS.Codes
import HandS.Deep
import HandS.Star
import HandS.Zip
import HandS.Style
import HandS.HeadHook1
import PySem.Challenge.RW_idlewrites_k17_lots_as_sets
set_option Elab.async false
set_option maxRecDepth 100000
namespace K1
open PySem L2
/-- the top's statements by their places -/
def top (i : Nat) : Stmt := PySem.Challenge.pw_idlewrites_k17_lots_as_sets.main.body.getD i (.Pass ⟨0, 0, 0, 0⟩)
abbrev cBadLotInit : Stmt := inClass (top 2) 0
abbrev pIsInteger : Stmt := top 4
abbrev pIsList : Stmt := top 5
abbrev pAsPlace : Stmt := top 6
abbrev cLotInit : Stmt := inClass (top 8) 0
abbrev cLotLen : Stmt := inClass (top 8) 1
abbrev cLotContains : Stmt := inClass (top 8) 2
abbrev cLotEq : Stmt := inClass (top 8) 3
abbrev cLotOr : Stmt := inClass (top 8) 4
abbrev cLotAnd : Stmt := inClass (top 8) 5
abbrev cLotSub : Stmt := inClass (top 8) 6
abbrev cLotXor : Stmt := inClass (top 8) 7
abbrev cLotLe : Stmt := inClass (top 8) 8
abbrev cLotLt : Stmt := inClass (top 8) 9
abbrev cLotGe : Stmt := inClass (top 8) 10
abbrev cLotGt : Stmt := inClass (top 8) 11
abbrev cLotLiesIn : Stmt := inClass (top 8) 12
abbrev pAscendingPlaces : Stmt := top 9
abbrev sFresh : Stmt := top 11
abbrev sTake : Stmt := top 12
abbrev sMix : Stmt := top 13
abbrev sSame : Stmt := top 14
abbrev sRising : Stmt := top 15
abbrev sDrawn : Stmt := top 16
abbrev sCompared : Stmt := top 17
abbrev sLaw : Stmt := top 18
end K1
set_option maxRecDepth 100000
namespace K1
open PySem L2
/-- while, by a word, a measure, and what stands behind it -/
theorem while_to {c : TT} {tb : TS} {D : Ends} {σ : L2.St} {H : Hp} (Pv Pe : L2.St → Hp → Prop) (μ : L2.St → Hp → Nat) (h0 : Pv σ H)
    (hs : (∀ σ H, Pe σ H → D.nx σ H) → ∀ σ H, Pv σ H → c σ H fun b H1 => if b = true then
      ∃ N : L2.St → Hp → Prop, (∀ σ' H', N σ' H' → ∃ m', m' < μ σ H ∧ (m' = μ σ' H' ∧ Pv σ' H')) ∧ tb { D with nx := N, ct := N, bk := D.nx } σ H1 else D.nx σ H1)
    (hd : ∀ σ H, Pe σ H → D.nx σ H) : tWhile c tb D σ H := by
  refine ⟨fun m σ H => m = μ σ H ∧ Pv σ H, ⟨_, rfl, h0⟩, ?_⟩
  rintro m σ H ⟨rfl, p⟩
  exact hs hd σ H p
/-- the spring: its cells, how many are read, the great one at hand, the mix of the small ones, the turns -/
structure Spr (H : Hp) (st l : Addr) (cs : List Int) (n : Nat) : Prop where
  ex : ∃ (i k : Nat) (c h : Int), H st = some (.lst [.ref l, .int i, .int c, .int h, .int k]) ∧ i ≤ cs.length ∧ 0 ≤ c ∧ 0 ≤ h ∧ h < 2147483647 ∧ k ≤ n
  ls : H l = some (.lst (cs.map V.int))
  ln : cs.length ≤ 63
  ne : st ≠ l
def spTake : Sp := fun vs H Q _ => ∃ (st l : Addr) (cs : List Int) (n : Nat) (m : Int), vs = [.ref st, .int m] ∧ 0 < m ∧ m < 1000000 ∧ n < 1000000 ∧ Spr H st l cs n ∧
  ∀ (r : Int) (H' : Hp), 0 ≤ r → r < m → Spr H' st l cs (n + 1) → (∀ b, b ≠ st → H' b = H b) → Q (.int r) H'
theorem mixB {a b : Int} (h0 : 0 ≤ a) (h1 : a < 1000000007) (h2 : 0 ≤ b) (h3 : b ≤ 1000000) : (a + 31 * b).natAbs < 2 ^ 64 := by omega
structure TxtT (mg : Str → Option Value) : Prop where
  len : mg "len" = none
  abs : mg "abs" = none
  int : mg "int" = none
/-- between two turns of the loop -/
def WT (H : Hp) (st l : Addr) (cs : List Int) (m : Int) (t : Nat) (σ : L2.St) (H2 : Hp) : Prop := ∃ (i : Nat) (c h : Int) (v : Option V), σ = [some (.ref st), some (.int m), v, none, none, none] ∧
  H2 st = some (.lst [.ref l, .int i, .int c, .int h, .int (t + 1)]) ∧ i ≤ cs.length ∧ 0 ≤ c ∧ 0 ≤ h ∧ h < 2147483647 ∧ (∀ b, b ≠ st → H2 b = H b)
def left (n : Nat) : Option HO → Nat
  | some (.lst [_, .int i, _, _, _]) => n - i.toNat
  | _ => 0
theorem left_at {n i : Nat} {a c d e : V} {o : Option HO} (h : o = some (.lst [a, .int i, c, d, e])) : left n o = n - i := by
  rw [h]
  rfl
section
variable {P : Program} {w : World} {K : PySem.W.Frag} {mg : Str → Option Value} {base : Heap}
theorem scT : FnScope ["_law_state", "_law_many", "_law_cell", "_law_digit", "_law_one", "_law_two"] ["_law_state", "_law_many"] (defScope sTake) := ⟨rfl, rfl, rfl, by decide +kernel, rfl, by decide +kernel, by decide +kernel⟩
theorem ok_take {f : Addr} {fd : FuncData} (F : Fun K "_law_take" "_law_take" sTake f fd) (T : TxtT mg) : FnOk P w K mg base CX0 1 f fd ["_law_state", "_law_many"] spTake := by
  refine F.ok scT (fun vs H Q E h => ?_) (fun cdv A outer s H vs Q E hr h => ?_)
  · obtain ⟨st, l, cs, n, m, rfl, _⟩ := h
    rfl
  · obtain ⟨st, l, cs, n, m, rfl, hm0, hm1, hn, S, k⟩ := h
    obtain ⟨⟨i, t, c, h, hs, hi, hc, h0, h1, ht⟩, hl, hln, hne⟩ := S
    refine ⟨_, pss_cons (ps_asg (pe_op op_add (pe_ix ix_list (pv 0) pe_int (fun _ _ => rfl)) pe_int) (pg_sub (pv 0) pe_int set_list))
      (pss_cons (ps_while PassesOwn.never
          (pw_and (pt_cmpR op_eq (pe_ix ix_list (pv 0) pe_int (fun _ _ => rfl)) pe_int (nomark _))
            (pw_and1 (pt_cmpR op_lt (pe_ix ix_list (pv 0) pe_int (fun _ _ => rfl)) (pe_callB call_len_seq (by rfl) T.len PySem.boot_len (pa_cons (pe_ix ix_list (pv 0) pe_int (fun _ _ => rfl)) pa_nil)) (nomark _)))).pt
          (pss_cons (ps_set (i := 2) scT.nd rfl (.inl rfl) (pe_callB call_abs (by rfl) T.abs (by decide +kernel) (pa_cons (pe_ix ix_list (pe_ix ix_list (pv 0) pe_int (fun _ _ => rfl)) (pe_ix ix_list (pv 0) pe_int (fun _ _ => rfl)) (fun _ _ => rfl)) pa_nil)))
          (pss_cons (ps_asg (pe_op op_add (pe_ix ix_list (pv 0) pe_int (fun _ _ => rfl)) pe_int) (pg_sub (pv 0) pe_int set_list))
          (pss_one (ps_if (pt_cmpR op_ge (pv 2) (pe_op op_pow pe_int pe_int) (nomark _))
            (pss_one (ps_asg (pv 2) (pg_sub (pv 0) pe_int set_list)))
            (pss_one (ps_asg (pe_op op_mod (pe_callTy call_int1 (by rfl) T.int (by decide +kernel) (pa_cons (pe_op op_add (pe_op op_add (pe_op op_mul (pe_ix ix_list (pv 0) pe_int (fun _ _ => rfl)) pe_int) (pv 2)) pe_int) pa_nil)) pe_int) (pg_sub (pv 0) pe_int set_list))))))))
      (pss_cons (ps_if (pt_cmpR op_gt (pe_ix ix_list (pv 0) pe_int (fun _ _ => rfl)) pe_int (nomark _))
          (pss_cons (ps_set (i := 3) scT.nd rfl (.inl rfl) (pe_op op_mod (pe_callTy call_int1 (by rfl) T.int (by decide +kernel) (pa_cons (pe_ix ix_list (pv 0) pe_int (fun _ _ => rfl)) pa_nil)) (pv 1)))
          (pss_cons (ps_asg (pe_op op_fdivW (pe_ix ix_list (pv 0) pe_int (fun _ _ => rfl)) (pv 1)) (pg_sub (pv 0) pe_int set_list))
          (pss_one (ps_ret (pv 3)))))
          pss_nil)
      (pss_cons (ps_set (i := 4) scT.nd rfl (.inl rfl) (pe_op op_mod (pe_callTy call_int1 (by rfl) T.int (by decide +kernel) (pa_cons (pe_op op_pow (pe_op op_add (pe_op op_add (pe_ix ix_list (pv 0) pe_int (fun _ _ => rfl)) (pe_op op_mul pe_int (pe_ix ix_list (pv 0) pe_int (fun _ _ => rfl)))) pe_int) pe_int) pa_nil)) pe_int))
      (pss_cons (ps_set (i := 5) scT.nd rfl (.inl rfl) (pe_op op_mod (pe_callTy call_int1 (by rfl) T.int (by decide +kernel) (pa_cons (pe_op op_pow (pe_op op_add (pv 4) (pe_op op_mul pe_int (pe_ix ix_list (pv 0) pe_int (fun _ _ => rfl)))) pe_int) pa_nil)) pe_int))
      (pss_one (ps_ret (pe_op op_mod (pe_callTy call_int1 (by rfl) T.int (by decide +kernel) (pa_cons (pe_op op_fdiv (pv 5) pe_int) pa_nil)) (pv 1)))))))), ?_⟩
    -- state[4] = state[4] + 1
    refine ⟨_, rfl, _, _, _, _, rfl, rfl, SqL.of hs, rfl, _, _, rfl, rfl, _, rfl, _, _, _, _, rfl, rfl, hs, rfl, ?_⟩
    -- the while
    refine while_to (WT H st l cs m t) (WT H st l cs m t) (fun _ H2 => left cs.length (H2 st)) ⟨i, c, h, _, rfl, upd_same, hi, hc, h0, h1, fun b hb => upd_ne hb⟩ ?_ ?_
    · intro hd
      rintro σ H2 ⟨i, c, h, v, rfl, hs2, hi, hc, h0, h1, hk⟩
      have hl2 : H2 l = some (.lst (cs.map V.int)) := by rw [hk l hne.symm]; exact hl
      refine ⟨_, rfl, _, _, _, _, rfl, rfl, SqL.of hs2, rfl, rfl, _, rfl, ite2 (fun e => ?_) fun e => ?_⟩
      · have ec : c = 0 := by simpa using e
        subst ec
        refine ⟨_, rfl, _, _, _, _, rfl, rfl, SqL.of hs2, rfl, _, rfl, _, _, _, _, rfl, rfl, SqL.of hs2, rfl, _, _, rfl, .inl (SqL.of hl2), _, _, rfl, rfl, _, rfl, ite2 (fun e2 => ?_) fun e2 => ?_⟩
        · have hlt : i < cs.length := by
            have := of_decide_eq_true e2
            rw [List.length_map] at this
            omega
          have hz : (cs.map V.int)[i]? = some (.int cs[i]) := by rw [List.getElem?_map, List.getElem?_eq_getElem hlt]; rfl
          have eL : left cs.length (H2 st) = cs.length - i := left_at hs2
          refine ⟨fun σ' H' => WT H st l cs m t σ' H' ∧ left cs.length (H' st) < left cs.length (H2 st), fun σ' H' n => ⟨_, n.2, rfl, n.1⟩, ?_⟩
          -- cell = abs(state[0][state[1]])
          refine ⟨_, rfl, _, _, _, _, rfl, rfl, SqL.of hs2, rfl, _, rfl, _, _, _, _, rfl, rfl, SqL.of hs2, rfl, _, _, _, _, rfl, rfl, SqL.of hl2, atI_nat hz, _, rfl, ?_⟩
          -- state[1] = state[1] + 1
          refine ⟨_, rfl, _, _, _, _, rfl, rfl, SqL.of hs2, rfl, _, _, rfl, rfl, _, rfl, _, _, _, _, rfl, rfl, hs2, rfl, ?_⟩
          have hup : ∀ o b, b ≠ st → upd H2 st o b = H b := fun o b hb => by rw [upd_ne hb]; exact hk b hb
          have ha : 0 ≤ (if cs[i] < 0 then -cs[i] else cs[i]) := by split <;> omega
          -- if cell >= 10 ** 18
          refine ⟨_, rfl, _, _, rfl, rfl, ⟨by decide, by decide, by decide⟩, _, _, rfl, rfl, _, rfl, ite2 (fun e3 => ?_) fun e3 => ?_⟩
          · refine ⟨_, rfl, _, rfl, _, _, _, _, rfl, rfl, upd_same, rfl, ⟨⟨i + 1, _, h, _, rfl, upd_same, hlt, ha, h0, h1, fun b hb => by rw [upd_ne hb]; exact hup _ b hb⟩, ?_⟩⟩
            rw [eL]
            exact Nat.lt_of_le_of_lt (Nat.le_of_eq (left_at (i := i + 1) upd_same)) (by omega)
          · refine ⟨_, rfl, _, _, _, _, rfl, rfl, SqL.of upd_same, rfl, _, _, rfl, rfl, .inr (by decide), _, rfl, _, _, rfl, rfl, _, _, rfl, rfl, .inl ⟨_, rfl, _, _, rfl, rfl, (by show (0 : Int) < 2147483647; decide), _, rfl, _, _, _, _, rfl, rfl, upd_same, rfl, ?_⟩⟩
            refine ⟨⟨i + 1, 0, _, _, rfl, upd_same, hlt, Int.le_refl _, Int.emod_nonneg _ (by decide), Int.emod_lt_of_pos _ (by decide), fun b hb => by rw [upd_ne hb]; exact hup _ b hb⟩, ?_⟩
            rw [eL]
            exact Nat.lt_of_le_of_lt (Nat.le_of_eq (left_at (i := i + 1) upd_same)) (by omega)
        · exact hd _ _ ⟨i, 0, h, v, rfl, hs2, hi, hc, h0, h1, hk⟩
      · exact hd _ _ ⟨i, c, h, v, rfl, hs2, hi, hc, h0, h1, hk⟩
    · rintro σ H2 ⟨i, c, h, v, rfl, hs2, hi, hc, h0, h1, hk⟩
      have mk : ∀ (c' : Int) H', 0 ≤ c' → H' st = some (.lst [.ref l, .int i, .int c', .int h, .int (t + 1)]) → (∀ b, b ≠ st → H' b = H b) → Spr H' st l cs (n + 1) := fun c' H' hc' e1 e2 =>
        ⟨⟨i, t + 1, c', h, e1, hi, hc', h0, h1, by omega⟩, by rw [e2 l hne.symm]; exact hl, hln, hne⟩
      -- if state[2] > 0
      refine ⟨_, rfl, _, _, _, _, rfl, rfl, SqL.of hs2, rfl, _, _, rfl, rfl, _, rfl, ite2 (fun e => ?_) fun e => ?_⟩
      · have hw : CDivW c m := wide_div (b := 64) hm0 (by omega) (by decide) (by decide)
        refine ⟨_, rfl, _, _, _, _, rfl, rfl, SqL.of hs2, rfl, .inl ⟨_, rfl, _, rfl, _, _, rfl, rfl, hm0, ?_⟩⟩
        refine ⟨_, rfl, _, _, _, _, rfl, rfl, SqL.of hs2, rfl, _, rfl, _, _, rfl, rfl, hw, _, rfl, _, _, _, _, rfl, rfl, hs2, rfl, _, rfl, ?_⟩
        exact k _ _ (Int.emod_nonneg _ (by omega)) (Int.emod_lt_of_pos _ hm0) (mk _ _ (Int.ediv_nonneg hc (by omega)) upd_same fun b hb => by rw [upd_ne hb]; exact hk b hb) fun b hb => by rw [upd_ne hb]; exact hk b hb
      · -- the mix
        refine ⟨_, rfl, _, _, _, _, rfl, rfl, SqL.of hs2, rfl, _, rfl, _, _, _, _, rfl, rfl, SqL.of hs2, rfl, _, _, rfl, rfl, .inl (by decide), _, _, rfl, rfl, _, _, rfl, rfl, _, _, rfl, rfl, ⟨by decide, by decide, by omega⟩, .inl ⟨_, rfl, _, _, rfl, rfl, (by show (0 : Int) < 1000000007; decide), ?_⟩⟩
        refine ⟨_, rfl, _, rfl, _, _, _, _, rfl, rfl, SqL.of hs2, rfl, _, _, rfl, rfl, .inl (by decide), _, _, rfl, rfl, _, _, rfl, rfl, ⟨by decide, by decide, ?_⟩, .inl ⟨_, rfl, _, _, rfl, rfl, (by show (0 : Int) < 998244353; decide), ?_⟩⟩
        · exact mixB (Int.emod_nonneg _ (by decide)) (Int.emod_lt_of_pos _ (by decide)) (by omega) (by omega)
        refine ⟨_, rfl, _, _, rfl, rfl, ⟨by decide, by decide⟩, .inl ⟨_, rfl, _, rfl, _, _, rfl, rfl, hm0, ?_⟩⟩
        exact k _ _ (Int.emod_nonneg _ (by omega)) (Int.emod_lt_of_pos _ hm0) (mk _ _ hc hs2 hk) hk
end
def spFresh (K : PySem.W.Frag) : Sp := fun vs H Q _ => ∃ (a : Addr) (ns : List Int), vs = [.ref a] ∧ SqL K H a (ns.map V.int) ∧ ns.length ≤ 63 ∧ ∀ (st l : Addr) (cs : List Int) (H' : Hp), Same H H' → Spr H' st l cs 0 → H st = none → Q (.ref st) H'
def spOne : Sp := fun vs H Q _ => ∃ (st l a : Addr) (cs : List Int) (n : Nat) (xs : List V), vs = [.ref st, .ref a] ∧ H a = some (.lst xs) ∧ a ≠ st ∧ 0 < xs.length ∧ xs.length < 1000 ∧ n < 1000000 ∧ Spr H st l cs n ∧
  ∀ (x : V) (H' : Hp), x ∈ xs → Spr H' st l cs (n + 1) → (∀ b, b ≠ st → H' b = H b) → Q x H'
theorem same_new {H : Hp} {p : Addr} (h : H p = none) (o : HO) : Same H (upd H p o) := fun b u q => by rw [upd_ne (ne_of_none q h)]; exact q
theorem sz {n : Nat} (h : n ≤ 1000) : n ≤ sizeLine := Nat.le_of_lt (small1000 h)
theorem Spr.mono {H H' : Hp} {st l : Addr} {cs : List Int} {n : Nat} (S : Spr H st l cs n) (s : Same H H') : Spr H' st l cs n := by
  obtain ⟨⟨i, k, c, h, e, q⟩, h2, h3, h4⟩ := S
  exact ⟨⟨i, k, c, h, s _ _ e, q⟩, s _ _ h2, h3, h4⟩
theorem Spr.not {H : Hp} {st l b : Addr} {cs : List Int} {n : Nat} (S : Spr H st l cs n) (h : H b = none) : b ≠ st := by
  obtain ⟨⟨i, k, c, m, e, q⟩, _⟩ := S
  exact (ne_of_none e h).symm
theorem same_new2 {H : Hp} {p : Addr} (h : H p = none) (o o' : HO) : Same H (upd (upd H p o) p o') := fun b u q => by
  rw [upd_ne (ne_of_none q h), upd_ne (ne_of_none q h)]
  exact q
section
variable {P : Program} {w : World} {K : PySem.W.Frag} {mg : Str → Option Value} {base : Heap}
theorem scF : FnScope ["_law_script"] ["_law_script"] (defScope sFresh) := ⟨rfl, rfl, rfl, by decide +kernel, rfl, by decide +kernel, by decide +kernel⟩
theorem cut_ints (ns : List Int) (lo hi : Option Int) : ∃ cs : List Int, cutV (ns.map V.int) lo hi = cs.map V.int ∧ cs.length ≤ ns.length := by
  refine ⟨(ns.drop (HT.sIx (ns.map V.int).length 0 lo)).take (HT.sIx (ns.map V.int).length (ns.map V.int).length hi - HT.sIx (ns.map V.int).length 0 lo), ?_, ?_⟩
  · rw [List.map_take, List.map_drop]
    rfl
  · rw [List.length_take, List.length_drop]
    omega
theorem ok_fresh {f : Addr} {fd : FuncData} (F : Fun K "_law_fresh" "_law_fresh" sFresh f fd) (hl : mg "list" = none) : FnOk P w K mg base CX0 1 f fd ["_law_script"] (spFresh K) := by
  refine F.ok scF (fun vs H Q E h => ?_) (fun cdv A outer s H vs Q E hr h => ?_)
  · obtain ⟨a, ns, rfl, _⟩ := h
    rfl
  · obtain ⟨a, ns, rfl, hS, hn, k⟩ := h
    refine ⟨_, pss_one (ps_ret (pe_lst (pa_cons (pe_callTy call_list_of (by rfl) hl (by decide +kernel) (pa_cons (pe_slice sl_list (pv 0) po_none (po_some pe_int)) pa_nil)) (pa_cons pe_int (pa_cons pe_int (pa_cons pe_int (pa_cons pe_int pa_nil))))))), ?_⟩
    obtain ⟨cs, e1, e2⟩ := cut_ints ns none (some 40)
    refine ⟨_, rfl, _, rfl, a, _, rfl, hS, fun p np => ?_⟩
    refine ⟨p, _, rfl, .inl (SqL.of upd_same), fun l nl => ⟨sz (Nat.le_of_ble_eq_true rfl), fun st nst => ?_⟩⟩
    have s1 : Same H (upd H p (.lst (cutV (ns.map V.int) none (some 40)))) := same_new np _
    have ne : l ≠ st := ne_of_none upd_same nst
    refine k st l cs _ ((s1.trans (same_new nl _)).trans (same_new nst _)) ⟨⟨0, 0, 0, 0, upd_same, Nat.zero_le _, Int.le_refl _, Int.le_refl _, by decide, Nat.le_refl _⟩, ?_, Nat.le_trans e2 hn, ne.symm⟩ ((s1.trans (same_new nl _)).free nst)
    rw [upd_ne ne, upd_same, e1]
end
/-- all but the state stands as it stood -/
def But (st : Addr) (H H' : Hp) : Prop := ∀ b o, b ≠ st → H b = some o → H' b = some o
theorem But.refl (st : Addr) (H : Hp) : But st H H := fun _ _ _ h => h
theorem But.trans {st : Addr} {H H1 H2 : Hp} (a : But st H H1) (b : But st H1 H2) : But st H H2 := fun c o n h => b c o n (a c o n h)
theorem But.of {st : Addr} {H H' : Hp} (s : Same H H') : But st H H' := fun b o _ h => s b o h
theorem But.eq {st : Addr} {H H' : Hp} (k : ∀ b, b ≠ st → H' b = H b) : But st H H' := fun b o n h => by
  rw [k b n]
  exact h
theorem But.free {st : Addr} {H H' : Hp} (k : But st H H') {p : Addr} (hp : H' p = none) (n : p ≠ st) : H p = none := by
  cases q : H p with
  | none => rfl
  | some o =>
    rw [k p o n q] at hp
    cases hp
end K1
set_option maxRecDepth 100000
set_option maxHeartbeats 1000000
namespace K1
open PySem L2
/-! ### data that is compared -/
def off (st : Addr) (H : Hp) : Hp := fun b => if b = st then none else H b
theorem off_ne {st b : Addr} {H : Hp} (h : b ≠ st) : off st H b = H b := if_neg h
theorem off_some {st b : Addr} {H : Hp} {o : HO} (h : off st H b = some o) : b ≠ st ∧ H b = some o := by
  by_cases e : b = st
  · rw [e, off, if_pos rfl] at h
    cases h
  · exact ⟨e, by rw [off_ne e] at h; exact h⟩
theorem But.off {st : Addr} {H H' : Hp} (k : But st H H') : Same (off st H) (off st H') := fun b o h => by
  obtain ⟨n, e⟩ := off_some h
  rw [off_ne n]
  exact k b o n e
theorem off_same {st : Addr} {H : Hp} : Same (off st H) H := fun b o h => (off_some h).2
theorem tup_mono {K : PySem.W.Frag} {H H' : Hp} {a : Addr} {xs : List V} (e : Same H H') (h : SqT K H a xs) : SqT K H' a xs := by
  rcases h with (h | ⟨o, h⟩) | h
  · exact .inl (.inl (e _ _ h))
  · exact .inl (.inr ⟨o, e _ _ h⟩)
  · exact .inr h
mutual
theorem dp_mono {K : PySem.W.Frag} {H H' : Hp} (s : Same H H') : ∀ {d : PyData} {v : V}, Dp K H v d → Dp K H' v d
  | _, _, .non => .non
  | _, _, .bl b => .bl b
  | _, _, .int i => .int i
  | _, _, .str x => .str x
  | _, _, .lst h k => .lst (s.seq h) (dpAll_mono s k)
  | _, _, .tup h k => .tup (tup_mono s h) (dpAll_mono s k)
theorem dpAll_mono {K : PySem.W.Frag} {H H' : Hp} (s : Same H H') : ∀ {ds : List PyData} {vs : List V}, DpAll K H vs ds → DpAll K H' vs ds
  | _, _, .nil => .nil
  | _, _, .cons h k => .cons (dp_mono s h) (dpAll_mono s k)
end
/-- data of small depth, as == asks it -/
def Okd (d : PyData) : Prop := d.canLay0 = true ∧ d.depth ≤ 40
theorem okd_all : ∀ {ds : List PyData}, (∀ d ∈ ds, Okd d) → PyData.canLayAll0 ds = true ∧ PyData.depthAll ds ≤ 40
  | [], _ => ⟨by simp only [PyData.canLayAll0], by simp only [PyData.depthAll]; omega⟩
  | d :: r, h => by
    obtain ⟨h1, h2⟩ := h d (List.mem_cons_self ..)
    obtain ⟨h3, h4⟩ := okd_all (ds := r) fun e he => h e (List.mem_cons_of_mem _ he)
    refine ⟨by simp only [PyData.canLayAll0, h1, h3, Bool.and_true], ?_⟩
    simp only [PyData.depthAll]
    omega
theorem okd_list {ds : List PyData} (h : ∀ d ∈ ds, Okd d) : SeqAt.shaped (.list ds) = true := by
  obtain ⟨h1, h2⟩ := okd_all h
  unfold SeqAt.shaped
  rw [Bool.and_eq_true]
  refine ⟨by simp only [PyData.canLay0, h1], decide_eq_true ?_⟩
  simp only [PyData.depth]
  omega
theorem dpAll_len {K : PySem.W.Frag} {H : Hp} : ∀ {vs : List V} {ds : List PyData}, DpAll K H vs ds → vs.length = ds.length
  | _, _, .nil => rfl
  | _, _, .cons _ k => congrArg Nat.succ (dpAll_len k)
theorem dpAll_erase {K : PySem.W.Frag} {H : Hp} : ∀ {vs : List V} {ds : List PyData} (k : Nat), DpAll K H vs ds → DpAll K H (vs.eraseIdx k) (ds.eraseIdx k)
  | _, _, _, .nil => .nil
  | _, _, 0, .cons _ t => t
  | _, _, k + 1, .cons h t => .cons h (dpAll_erase k t)
theorem eqv_nil (ds : List PyData) : PyData.eqv (.list ds) (.list []) = decide (ds.length = 0) := by
  cases ds with
  | nil => decide +kernel
  | cons d r => simp [PyData.eqv, PyData.eqvAll]
/-- the lists that == asks, each item of small depth -/
def DataL (K : PySem.W.Frag) (H : Hp) (xs : List V) : Prop := ∃ ds, DpAll K H xs ds ∧ ∀ d ∈ ds, Okd d
theorem DataL.mono {K : PySem.W.Frag} {H H' : Hp} {xs : List V} (h : DataL K H xs) (s : Same H H') : DataL K H' xs := by
  obtain ⟨ds, h1, h2⟩ := h
  exact ⟨ds, dpAll_mono s h1, h2⟩
theorem DataL.erase {K : PySem.W.Frag} {H : Hp} {xs : List V} (h : DataL K H xs) (k : Nat) : DataL K H (xs.eraseIdx k) := by
  obtain ⟨ds, h1, h2⟩ := h
  exact ⟨ds.eraseIdx k, dpAll_erase k h1, fun d hd => h2 d (List.mem_of_mem_eraseIdx hd)⟩
/-- the same things in another order, in a new list -/
def spMix (K : PySem.W.Frag) : Sp := fun vs H Q _ => ∃ (st l a : Addr) (cs : List Int) (n : Nat) (xs : List V), vs = [.ref st, .ref a] ∧ (SqL K H a xs ∨ SqT K H a xs) ∧ xs.length ≤ 900 ∧ n + xs.length < 1000000 ∧ Spr H st l cs n ∧ DataL K (off st H) xs ∧
  ∀ (p : Addr) (ys : List V) (H' : Hp), ys.Perm xs → H' p = some (.lst ys) → Spr H' st l cs (n + xs.length) → But st H H' → H p = none → Q (.ref p) H'
def lenAt : Option HO → Nat
  | some (.lst xs) => xs.length
  | _ => 0
theorem seq_nat {n : Nat} {r : Int} (h0 : 0 ≤ r) (h1 : r < n) : seqIndex? r n = some r.toNat := (ixN_seq (n := n) (i := r) (j := r.toNat) (by unfold ixN; rw [if_pos h0, if_pos h1])).1
theorem erase_perm {α : Type} : ∀ {l : List α} {k : Nat} {y : α}, l[k]? = some y → (y :: l.eraseIdx k).Perm l
  | a :: r, 0, y, h => by
    have e : a = y := Option.some.inj h
    subst e
    exact List.Perm.refl _
  | a :: r, k + 1, y, h => (List.Perm.swap a y _).trans (List.Perm.cons a (erase_perm (l := r) (k := k) (by simpa using h)))
theorem perm_one {xs ys zs : List V} {k : Nat} {y : V} (h : (zs ++ ys).Perm xs) (e : ys[k]? = some y) : ((zs ++ [y]) ++ ys.eraseIdx k).Perm xs := by
  rw [List.append_assoc]
  exact (List.Perm.append_left zs (erase_perm e)).trans h
section
variable {P : Program} {w : World} {K : PySem.W.Frag} {mg : Str → Option Value} {base : Heap}
abbrev NMix : List Str := ["_law_state", "_law_things", "_law_left", "_law_found"]
theorem scMix : FnScope NMix ["_law_state", "_law_things"] (defScope sMix) := ⟨rfl, rfl, rfl, by decide +kernel, rfl, by decide +kernel, by decide +kernel⟩
theorem ok_mix {f fT : Addr} {fd fdT : FuncData} (F : Fun K "_law_mix" "_law_mix" sMix f fd) (FT : Fun K "_law_take" "_law_take" sTake fT fdT) (T : TxtT mg) (hl : mg "list" = none) (gT : mg "_law_take" = some (.ref fT)) (bT : Binds K fdT ["_law_state", "_law_many"] []) :
    FnOk P w K mg base CX0 2 f fd ["_law_state", "_law_things"] (spMix K) := by
  have GT : FnOk P w K mg base CX0 1 fT fdT ["_law_state", "_law_many"] spTake := ok_take FT T
  refine F.ok scMix (fun vs H Q E h => ?_) (fun cdv A outer s H vs Q E hr h => ?_)
  · obtain ⟨st, l, a, cs, n, xs, rfl, _⟩ := h
    rfl
  · obtain ⟨st, l, a, cs, n, xs, rfl, ha, hz, hn, S, D, k⟩ := h
    refine ⟨_, pss_cons (ps_par (i := 2) (j := 3) rfl scMix.nd rfl rfl (by decide) rfl rfl (pa_cons (pe_callTy call_list_of (by rfl) hl (by decide +kernel) (pa_cons (pv 1) pa_nil)) (pa_cons (pe_lst pa_nil) pa_nil)) (by rfl))
      (pss_cons (ps_while PassesOwn.never (pt_cmpR (op_neD hr.units) (pv 2) (pe_lst pa_nil) (nomark _))
        (pss_one (ps_expr (pe_bm PySem.F.plainAttrs_list PySem.F.slot_list_append PySem.F.type_list_append mt_append (pv 3)
          (pa_cons (pe_bm PySem.F.plainAttrs_list PySem.F.slot_list_pop PySem.F.type_list_pop mt_popAt (pv 2) (pa_cons (pe_call GT hr (by rfl) gT FT.kp bT .nil pass0 (pa_cons (pv 0) (pa_cons (pe_callB call_len_seq (by rfl) T.len PySem.boot_len (pa_cons (pv 2) pa_nil)) pa_nil))) pa_nil)) pa_nil)))))
      (pss_one (ps_ret (pv 3)))), ?_⟩
    refine ⟨_, rfl, a, xs, rfl, ha, fun l2 m2 => ⟨sz (Nat.le_of_ble_eq_true rfl), fun f m3 => ⟨_, _, rfl, ?_⟩⟩⟩
    have e2 := S.not m2
    have s2 := same_new m2 (.lst xs)
    have e3 := (S.mono s2).not m3
    have n3 := s2.free m3
    have e23 : l2 ≠ f := ne_of_none upd_same m3
    have s3 := s2.trans (same_new m3 (.lst []))
    refine while_to (fun σ H2 => ∃ ys zs, σ = [some (.ref st), some (.ref a), some (.ref l2), some (.ref f)] ∧ H2 l2 = some (.lst ys) ∧ H2 f = some (.lst zs) ∧ (zs ++ ys).Perm xs ∧ Spr H2 st l cs (n + zs.length) ∧ But st H H2 ∧ DataL K (off st H) ys)
      (fun σ H2 => ∃ zs, σ = [some (.ref st), some (.ref a), some (.ref l2), some (.ref f)] ∧ H2 f = some (.lst zs) ∧ zs.Perm xs ∧ Spr H2 st l cs (n + zs.length) ∧ But st H H2) (fun _ H2 => lenAt (H2 l2))
      ⟨xs, [], rfl, by rw [upd_ne e23]; exact upd_same, upd_same, List.Perm.refl _, S.mono s3, But.of s3, D⟩ ?_ ?_
    · intro hd
      rintro σ H2 ⟨ys, zs, rfl, h2, h3, pm, S2, bt, D2⟩
      have hlen : zs.length + ys.length = xs.length := by
        have q := pm.length_eq
        rw [List.length_append] at q
        exact q
      obtain ⟨ds, dp, dk⟩ := id D2
      have hdl := dpAll_len dp
      refine ⟨_, rfl, sz (Nat.le_of_ble_eq_true rfl), fun q nq => ?_⟩
      have sq := same_new nq (.lst [])
      refine ⟨.list ds, .list [], .lst (SqL.of (sq _ _ h2)) (dpAll_mono ((bt.off.trans off_same).trans sq) dp), .lst (SqL.of upd_same) .nil, okd_list dk, okd_list (ds := []) (fun _ h => nomatch h), _, rfl, ite2 (fun c => ?_) fun c => ?_⟩
      · have hy : ys.length ≠ 0 := by
          rw [eqv_nil] at c
          rw [hdl]
          simpa using c
        refine ⟨fun σ' H' => (∃ ys zs, σ' = [some (.ref st), some (.ref a), some (.ref l2), some (.ref f)] ∧ H' l2 = some (.lst ys) ∧ H' f = some (.lst zs) ∧ (zs ++ ys).Perm xs ∧ Spr H' st l cs (n + zs.length) ∧ But st H H' ∧ DataL K (off st H) ys) ∧ lenAt (H' l2) < lenAt (H2 l2), fun σ' H' q => ⟨_, q.2, rfl, q.1⟩, ?_⟩
        refine ⟨_, rfl, .inl ⟨rfl, _, SqL.of (sq _ _ h3)⟩, _, rfl, .inl ⟨rfl, _, SqL.of (sq _ _ h2)⟩, _, rfl, _, rfl, l2, ys, rfl, .inl (SqL.of (sq _ _ h2)), st, l, cs, n + zs.length, _, rfl, by omega, by omega, by omega, S2.mono sq, fun r H4 r0 r1 S4 hk => ?_⟩
        have g2 : H4 l2 = some (.lst ys) := by
          rw [hk l2 e2]
          exact sq _ _ h2
        have g3 : H4 f = some (.lst zs) := by
          rw [hk f e3]
          exact sq _ _ h3
        have rk : r.toNat < ys.length := by omega
        have ey : ys[r.toNat]? = some ys[r.toNat] := List.getElem?_eq_getElem rk
        refine ⟨l2, ys, r, r.toNat, _, rfl, rfl, g2, by omega, by omega, seq_nat r0 r1, ey, f, zs, _, rfl, rfl, by rw [upd_ne e23.symm]; exact g3, small1000 (by omega), ?_⟩
        have b4 : But st H2 H4 := (But.of sq).trans (But.eq hk)
        have b5 : ∀ o o', But st H (upd (upd H4 l2 o) f o') := fun o o' b u nb hb => by
          rw [upd_ne (ne_of_none hb n3), upd_ne (ne_of_none hb m2)]
          exact (bt.trans b4) b u nb hb
        refine ⟨⟨_, _, rfl, by rw [upd_ne e23]; exact upd_same, upd_same, perm_one pm ey, ?_, b5 _ _, ?_⟩, ?_⟩
        · rw [List.length_append]
          obtain ⟨⟨i, t, c, m, es, q1, q2, q3, q4, q5⟩, ls, ln, ne⟩ := S4
          refine ⟨⟨i, t, c, m, by rw [upd_ne e3.symm, upd_ne e2.symm]; exact es, q1, q2, q3, q4, ?_⟩, ?_, ln, ne⟩
          · show t ≤ n + (zs.length + 1)
            omega
          · rw [upd_ne (ne_of_none S.ls n3), upd_ne (ne_of_none S.ls m2)]
            exact ls
        · exact D2.erase r.toNat
        · show lenAt (upd (upd H4 l2 _) f _ l2) < lenAt (H2 l2)
          rw [upd_ne e23, upd_same, h2]
          show (ys.eraseIdx r.toNat).length < ys.length
          rw [List.length_eraseIdx_of_lt rk]
          omega
      · have hy : ys = [] := by
          rw [eqv_nil] at c
          have z : ds.length = 0 := by simpa using c
          exact List.eq_nil_of_length_eq_zero (by rw [hdl]; exact z)
        subst hy
        rw [List.append_nil] at pm
        exact hd _ _ ⟨zs, rfl, sq _ _ h3, pm, S2.mono sq, bt.trans (But.of sq)⟩
    · rintro σ H2 ⟨zs, rfl, h3, pm, S2, bt⟩
      refine ⟨_, rfl, k f zs H2 pm h3 ?_ bt n3⟩
      rw [pm.length_eq] at S2
      exact S2
end
end K1
set_option maxRecDepth 100000
set_option maxHeartbeats 1000000
namespace K1
open PySem L2
theorem TyX.mono {K : PySem.W.Frag} {H H' : Hp} {x : V} {t : Value} (s : Same H H') (h : TyX K H x t) : TyX K H' x t := by
  cases h with
  | base b =>
    refine .base ?_
    cases b with
    | non => exact .non
    | bl y => exact .bl y
    | int i => exact .int i
    | str y => exact .str y
    | flt y => exact .flt y
    | lst e => exact .lst (s _ _ e)
    | frz e => exact .frz (s _ _ e)
    | tup e => exact .tup (s _ _ e)
    | dK e => exact .dK (s _ _ e)
    | dT e => exact .dT (s _ _ e)
    | ins e a b c d f => exact .ins (s _ _ e) a b c d f
  | byt b => exact .byt b
  | set e => exact .set (s _ _ e)
  | kList e c => exact .kList e c
  | kTuple e c => exact .kTuple e c
  | kDict e c => exact .kDict e c
  | fTuple e => exact .fTuple (s _ _ e)
  | fDict e => exact .fDict (s _ _ e)
def spIsList (K : PySem.W.Frag) : Sp := fun vs H Q _ => ∃ (x : V) (t : Value) (b : Bool), vs = [x] ∧ TyX K H x t ∧ PySem.W.kitAny K t [.type "list", .type "tuple"] = some b ∧ ∀ H', Same H H' → Q (.bl b) H'
def spIsInteger (K : PySem.W.Frag) : Sp := fun vs H Q _ => ∃ (x : V) (t : Value) (b c : Bool), vs = [x] ∧ TyX K H x t ∧ PySem.W.kitOne K t (.type "int") = some b ∧ PySem.W.kitOne K t (.type "bool") = some c ∧ Q (.bl (b && !c)) H
section
variable {P : Program} {w : World} {K : PySem.W.Frag} {mg : Str → Option Value} {base : Heap}
theorem scIL : FnScope ["thing"] ["thing"] (defScope pIsList) := ⟨rfl, rfl, rfl, by decide +kernel, rfl, by decide +kernel, by decide +kernel⟩
theorem scII : FnScope ["thing"] ["thing"] (defScope pIsInteger) := ⟨rfl, rfl, rfl, by decide +kernel, rfl, by decide +kernel, by decide +kernel⟩
theorem ok_isList {f : Addr} {fd : FuncData} (F : Fun K "is_list" "is_list" pIsList f fd) (hl : mg "list" = none) (ht : mg "tuple" = none) (hi : mg "isinstance" = none) : FnOk P w K mg base CX0 1 f fd ["thing"] (spIsList K) := by
  refine F.ok scIL (fun vs H Q E h => ?_) (fun cdv A outer s H vs Q E hr h => ?_)
  · obtain ⟨x, t, b, rfl, _⟩ := h
    rfl
  · obtain ⟨x, t, b, rfl, ty, kb, k⟩ := h
    refine ⟨_, pss_one (ps_ret (pe_callB call_isiT (by rfl) hi (by decide +kernel) (pa_cons (pv 0) (pa_cons (pe_tup (pa_cons (pe_bltn (v := .ty "list") (by rfl) hl (by decide +kernel) rfl) (pa_cons (pe_bltn (v := .ty "tuple") (by rfl) ht (by decide +kernel) rfl) pa_nil))) pa_nil)))), ?_⟩
    refine ⟨_, rfl, sz (Nat.le_of_ble_eq_true rfl), fun t m => ⟨_, t, _, _, _, b, rfl, upd_same, .cons (.ty _) (.cons (.ty _) .nil), TyX.mono (same_new m _) ty, kb, k _ (same_new m _)⟩⟩
theorem ok_isInteger {f : Addr} {fd : FuncData} (F : Fun K "is_integer" "is_integer" pIsInteger f fd) (hl : mg "int" = none) (ht : mg "bool" = none) (hi : mg "isinstance" = none) : FnOk P w K mg base CX0 1 f fd ["thing"] (spIsInteger K) := by
  refine F.ok scII (fun vs H Q E h => ?_) (fun cdv A outer s H vs Q E hr h => ?_)
  · obtain ⟨x, t, b, c, rfl, _⟩ := h
    rfl
  · obtain ⟨x, t, b, c, rfl, ty, kb, kc, k⟩ := h
    refine ⟨_, pss_one (ps_ret (pe_and (pe_callB call_isi (by rfl) hi (by decide +kernel) (pa_cons (pv 0) (pa_cons (pe_bltn (v := .ty "int") (by rfl) hl (by decide +kernel) rfl) pa_nil)))
      (pe_one (pe_not (pe_callB call_isi (by rfl) hi (by decide +kernel) (pa_cons (pv 0) (pa_cons (pe_bltn (v := .ty "bool") (by rfl) ht (by decide +kernel) rfl) pa_nil))))))), ?_⟩
    refine ⟨_, rfl, _, _, _, _, b, rfl, .ty _, ty, kb, _, rfl, ?_⟩
    cases b with
    | false => exact iteF k
    | true => exact iteT ⟨_, rfl, _, _, _, _, c, rfl, .ty _, ty, kc, _, rfl, k⟩
end
end K1
set_option maxRecDepth 100000
set_option maxHeartbeats 1000000
/-! sorted(s), s a set of tuples of ints of any lengths but none empty, by a rank that follows their order -/
namespace K1
open PySem PySem.Spec PyProof.Rows L2
def ltI : List Int → List Int → Bool
  | [], [] => false
  | [], _ :: _ => true
  | _ :: _, [] => false
  | x :: r, y :: q => if x = y then ltI r q else decide (x < y)
section
variable {prog : Program} {w : World} {A : Around} {E : Value → Shared → Prop} {s : Shared}
theorem lexU {b : Bool} {Q : Bool → Shared → Prop} {us : List Value} {ns : List Int} (hu : IntsAre us ns) : ∀ {ts : List Value} {ms : List Int} {f : Bool} (i : Nat), IntsAre ts ms → f = decide (us.length < ts.length) → Q (ltI ns ms) s →
    PySem.W.KatLex prog w A b f Q (us.zip ts) i s := by
  induction hu with
  | nil =>
    intro ts ms f i ht hf q
    subst hf
    cases ht with
    | nil => exact PySem.W.kat_nil q
    | cons y t r => exact PySem.W.kat_nil q
  | @cons x t0 us ns hu ih =>
    intro ts ms f i ht hf q
    subst hf
    cases ht with
    | nil => exact PySem.W.kat_nil q
    | @cons y t1 ts ms ht =>
      refine PySem.W.kat_cons (r := us.zip ts) (wpAny_eqBool_int ?_)
      by_cases c : x = y
      · have q' : Q (ltI ns ms) s := by
          have z : ltI (x :: ns) (y :: ms) = ltI ns ms := if_pos c
          rw [z] at q
          exact q
        rw [show (x == y) = true from beq_iff_eq.mpr c]
        refine PySem.W.kat_yes (ih (i + 1) ht ?_ q')
        simp
      · rw [show (x == y) = false from beq_eq_false_iff_ne.mpr c]
        have z : ltI (x :: ns) (y :: ms) = decide (x < y) := if_neg c
        rw [z] at q
        exact PySem.W.kat_no (TS.oneLt_ints _ q)
/-- what is sorted -/
def SomeTups (h : Heap) (vs : List Value) : Prop := ∀ v ∈ vs, ∃ ns, TS.TupInts h v ns ∧ ns ≠ []
theorem heads_of {h : Heap} : ∀ {vs : List Value}, SomeTups h vs → ∃ fs, PySem.W.KatTups h vs fs ∧ fs.length = vs.length ∧ ∀ f ∈ fs, ∃ n t, f = Value.int n t := by
  intro vs
  induction vs with
  | nil => intro _; exact ⟨[], .nil, rfl, fun _ hf => nomatch hf⟩
  | cons v vs ih =>
    intro x
    obtain ⟨fs, a1, a2, a3⟩ := ih fun u hu => x u (.tail _ hu)
    obtain ⟨ns, ⟨a, its, rfl, ⟨o, ho, hc, k, hd⟩, hi⟩, ne⟩ := x v (.head _)
    obtain ⟨its⟩ := its
    cases hi with
    | nil => exact absurd rfl ne
    | @cons n t us ns hi =>
      refine ⟨.int n t :: fs, .cons ho hc hd rfl a1, congrArg Nat.succ a2, fun f hf => ?_⟩
      rcases List.mem_cons.mp hf with z | z
      · exact ⟨n, t, z⟩
      · exact a3 f z
theorem kindU {vs : List Value} {rk : Value → Int} (h2 : 2 ≤ vs.length) (x : SomeTups s.heap vs) (hr : ∀ u ∈ vs, ∀ v ∈ vs, ∀ ns ms, TS.TupInts s.heap u ns → TS.TupInts s.heap v ms → ltI ns ms = decide (rk u < rk v)) (Q : SortKind → Shared → Prop)
    (k : ∀ κ, TS.Cmp prog w A s κ (pairsOf vs) rk → Q κ s) : wpAny (model prog w) A (keyKind' vs.toArray) Q E s := by
  obtain ⟨fs, a1, a2, a3⟩ := heads_of x
  refine PySem.W.kat_kind (T := .type "int") a1 (by omega) (fun f hf => ?_) rfl (k _ fun p q hp hq Q' E' q' => ?_)
  · obtain ⟨n, t, z⟩ := a3 f hf
    rw [z]
    exact PySem.W.Looks.of_pure rfl
  · rw [pairsOf_toList] at hp hq
    have mp := (mem_zip_self hp).2
    have mq := (mem_zip_self hq).2
    obtain ⟨ns, tn, _⟩ := x _ mp
    obtain ⟨ms, tm, _⟩ := x _ mq
    rw [← hr _ mp _ mq ns ms tn tm] at q'
    obtain ⟨a, us, ea, ⟨o, ho, hc, n, hd⟩, iu⟩ := tn
    obtain ⟨b, ts, eb, ⟨o', ho', hc', n', hd'⟩, it⟩ := tm
    rw [ea, eb]
    exact PySem.W.kat_lt ho hd ho' hd' (lexU iu 0 it (by rw [Array.length_toList, Array.length_toList]) q')
/-- a list of such tuples is sorted in place -/
theorem sortU {a : Addr} {vs : List Value} {n : Nat} {rk : Value → Int} {Q : Value → Shared → Prop} (ho : s.heap.get? a = some (seqObj "list" vs.toArray n)) (h64 : vs.length < 64) (x : SomeTups s.heap vs)
    (hr : ∀ u ∈ vs, ∀ v ∈ vs, ∀ ns ms, TS.TupInts s.heap u ns → TS.TupInts s.heap v ms → ltI ns ms = decide (rk u < rk v))
    (k : ∀ out : Array Value, out.toList.Perm vs → out.toList.Pairwise (fun u v => rk u ≤ rk v) → Q .none { s with heap := sortedHeap s.heap a vs out }) :
    wpAny (model prog w) A (call (.builtin "list.sort") [.ref a]) Q E s := by
  have stay : ∀ {v : Value} {ns : List Int}, TS.TupInts s.heap v ns → TS.TupInts (TS.midHeap s.heap a vs) v ns := fun t => t.keeps fun b o e hc => by
    refine TS.midHeap_old (fun z => ?_) e
    rw [z, ho] at e
    have e2 := congrArg (fun x : Option Obj => x.map Obj.cls) e
    have e3 : some (Value.type "list") = some o.cls := e2
    rw [hc] at e3
    injection e3 with e4
    injection e4 with e5
    exact absurd e5 (by decide)
  have back : ∀ {v : Value} {ns ms : List Int}, TS.TupInts s.heap v ns → TS.TupInts (TS.midHeap s.heap a vs) v ms → ms = ns := fun t u => u.ints.symm.trans (stay t).ints
  refine wpAny_call_entry slot_list_sort ⟨_, ho, rfl⟩ entry_list_sort (SK.plain_sort (r := rk) ho h64 (fun h2 Q' q' => ?_) fun ps out h1 h2 h3 => ?_) (args_list_sort _)
  · refine kindU (s := { s with heap := TS.midHeap s.heap a vs }) (rk := rk) h2 (fun v hv => ?_) (fun u hu v hv ns ms tn tm => ?_) Q' q'
    · obtain ⟨ns, t, ne⟩ := x v hv
      exact ⟨ns, stay t, ne⟩
    · obtain ⟨ns0, t0, _⟩ := x u hu
      obtain ⟨ms0, t1, _⟩ := x v hv
      rw [back t0 tn, back t1 tm]
      exact hr u hu v hv _ _ t0 t1
  · obtain ⟨p, o⟩ := TS.out_rank h1 h2 h3
    exact ⟨_, rfl, k out p o⟩
theorem sorted_setU {P : Program} {a : Addr} {L : List (Addr × List Int)} {es : Array (Int × Value)} {ep : Nat} {t : SetTable} {Q : Value → Shared → Prop} {rk : List Int → Int} (R : SetTR P w s.heap a L es ep t) (hh : A.handled = none)
    (ne : ∀ p ∈ L, p.2 ≠ []) (hr : ∀ p ∈ L, ∀ q ∈ L, ltI p.2 q.2 = decide (rk p.2 < rk q.2))
    (hQ : ∀ s' d (out : Array Value) (c : Nat) (L' : List (Addr × List Int)), (∀ b o, s.heap.get? b = some o → s'.heap.get? b = some o) → s'.gens = s.gens → s'.os = s.os → s.heap.objs.size ≤ d →
      s'.heap.get? d = some (seqObj "list" out c) → out.toList = L'.map (fun q => Value.ref q.1) → L'.Perm L → L'.Pairwise (fun q r => rk q.2 ≤ rk r.2) → Q (.ref d) s') :
    wpAny (model P w) A (call (.builtin "sorted") [.ref a]) Q E s := by
  obtain ⟨o, ho, hx, hd⟩ := R.ob
  have few := R.few
  refine Calls.call_function_entry kind_sorted plain_sorted entry_sorted (args_sorted1 _) ?_
  unfold Builtin.«sorted»
  refine wpAny_bind (m := checkCount "sorted" 1 1 _) (wpAny_pure (wpAny_bind (collect_set (A := A.in1) hh ⟨o, ho, hx.1, hd⟩ R.fits (by rw [R.size]; unfold scanBound; omega) R.tab.ris R.led fun s1 vs k1 z1 g1 o1 pm => ?_)))
  have rows : es.toList.map (·.2) = L.map fun q => Value.ref q.1 := by
    rw [R.rows, rowsOf, List.map_map]
    rfl
  rw [rows] at pm
  have vl : vs.length < 64 := by
    rw [pm.length_eq, List.length_map]
    exact few
  have mem : ∀ v ∈ vs, ∃ q ∈ L, Value.ref q.1 = v := fun v hv => List.mem_map.mp (pm.mem_iff.mp hv)
  refine wpAny_bind (wpAny_newList ?_ (by rw [sizeLine_eq]; omega))
  have top : (s1.heap.push (seqObj "list" vs.toArray 0)).get? s1.heap.objs.size = some (seqObj "list" vs.toArray 0) := Heap.get?_push_size _ rfl
  have tI : ∀ q ∈ L, TS.TupInts (s1.heap.push (seqObj "list" vs.toArray 0)) (.ref q.1) q.2 := fun q hq => tupInts_of (P := P) (w := w) (isT_keep (R.tup q hq) fun b u e => Heap.get?_push_of_some _ (k1 b u e))
  generalize hh2 : s1.heap.push (seqObj "list" vs.toArray 0) = h2 at top tI ⊢
  refine wpAny_bind (wpAny_holding (sortU (s := { s1 with heap := h2 }) (rk := fun v => rk (TS.intsOf h2 v)) top vl (fun v hv => ?_) (fun u hu v hv ns ms tn tm => ?_) fun out p1 p2 => ?_))
  · obtain ⟨q, hq, rfl⟩ := mem v hv
    exact ⟨q.2, tI q hq, ne q hq⟩
  · obtain ⟨q, hq, rfl⟩ := mem u hu
    obtain ⟨r, hr', rfl⟩ := mem v hv
    have e1 := (tI q hq).ints
    have e2 := (tI r hr').ints
    have e3 := tn.ints
    have e4 := tm.ints
    rw [← e3, ← e4, e1, e2]
    exact hr q hq r hr'
  · obtain ⟨c, hc⟩ := sortedHeap_at (vs := vs) (out := out) top
    -- the rows in the order of the values
    obtain ⟨L', pL, eL⟩ : ∃ L' : List (Addr × List Int), L'.Perm L ∧ L'.map (fun q => Value.ref q.1) = out.toList := by
      obtain ⟨zs, a1, a2⟩ := perm_lift (fun q : Addr × List Int => Value.ref q.1) (p1.trans pm) L rfl
      exact ⟨zs, a1, a2⟩
    refine wpAny_pure ⟨_, rfl, hQ _ s1.heap.objs.size out c L' (fun b u e => ?_) g1 o1 z1 hc eL.symm pL ?_⟩
    · have q := k1 b u e
      have lt := Heap.lt_size q
      show (sortedHeap h2 s1.heap.objs.size vs out).get? b = some u
      rw [sortedHeap_old (Nat.ne_of_lt lt) (by rw [← hh2, size_push']; exact Nat.lt_succ_of_lt lt), ← hh2]
      exact Heap.get?_push_of_some _ q
    · rw [← eL, List.pairwise_map] at p2
      refine List.Pairwise.imp_of_mem (fun {q r} hq hr' h => ?_) p2
      have e1 := (tI q (pL.mem_iff.mp hq)).ints
      have e2 := (tI r (pL.mem_iff.mp hr')).ints
      rw [e1, e2] at h
      exact h
end
/-- sorted(s) -/
def rSortedU (K : PySem.W.Frag) (P : Program) (w : World) : List V → Hp → VK → Prop := fun vs H Q => ∃ (a : Addr) (L : List (Addr × List Int)) (rk : List Int → Int), vs = [V.ref a] ∧ H a = some (SetTO P w a L) ∧ (∀ p ∈ L, SqT K H p.1 (p.2.map V.int)) ∧
  (∀ p ∈ L, p.2 ≠ []) ∧ (∀ p ∈ L, ∀ q ∈ L, ltI p.2 q.2 = decide (rk p.2 < rk q.2)) ∧
  ∀ (L' : List (Addr × List Int)) (d : Addr), L'.Perm L → (L'.map (·.2)).Nodup → L'.length < 64 → L'.Pairwise (fun q r => rk q.2 ≤ rk r.2) → H d = none → Q (.ref d) (upd H d (.lst (L'.map fun q => V.ref q.1)))
theorem cr_sortedU {X : Cx} (hc : X.calm = true) : CallR X (.builtin "sorted") (rSortedU X.K X.prog X.w) := by
  intro pins s σ H vs us Q I r h
  obtain ⟨a, L, rk, rfl, ha, hk, ne, hr, q⟩ := h
  obtain ⟨es, ep, t, R⟩ := (show SetT0 X.prog X.w s.heap a L from (I.hok a _ ha).1).full fun p hp => I.isT (hk p hp)
  rw [Vals.ref1 r]
  refine sorted_setU R (I.ok.hd hc) ne hr fun s' d out c L' k g o hd hg ho pm pw => ?_
  have few : L'.length < 64 := pm.length_eq ▸ R.few
  have nd : H d = none := I.hok.fresh hd
  have rel : Vals (L'.map fun q => V.ref q.1) out.toList := ho ▸ vals_of_refs L'
  have zl : (L'.map fun q => V.ref q.1).length ≤ sizeLine := by
    rw [List.length_map, sizeLine_eq]
    omega
  have J : Inv X pins σ (upd H d (.lst (L'.map fun q => V.ref q.1))) { s with heap := s'.heap, gens := s'.gens, drawn := s'.drawn, toks := s'.toks } :=
    I.call (ch := []) (Un.laid k hd nd) (I.hok.laid k hd ⟨zl, out.toList, c, rel, hg⟩) (g ▸ I.bare) fun _ z => nomatch z
  obtain ⟨hp, gs, dr, tk, os⟩ := s'
  obtain ⟨hp0, gs0, dr0, tk0, os0⟩ := s
  cases o
  exact ⟨.ref d, _, J, rfl, q L' d pm ((pm.map (·.2)).nodup_iff.mpr R.nd) few pw nd⟩
end K1
set_option linter.all false
set_option maxRecDepth 100000
set_option maxHeartbeats 1000000
/-! a dict comprehension whose keys are tuples of ints and texts -/
namespace K1
open PySem PySem.Spec PyProof.Rows L2
theorem setT {X : Cx} {pins : List (Addr × Obj)} {σ : L2.St} {H : Hp} {s : Shared} {E : Value → Shared → Prop} {D b : Addr} {kvs : List (List Key × V)} {k : List Key} {v : V} {r : Value} {Q : Unit → Shared → Prop} (hu : X.A.units < cLine) (I : Inv X pins σ H s)
    (hD : H D = some (.dT kvs)) (hz : kvs.length < sizeLine) (hb : H b = some (.tup (k.map kV))) (rv : RelV v r) (q : ∀ s', Inv X pins σ (upd H D (.dT (putK kvs k v))) s' → Q () s') : wpAny (model X.prog X.w) X.A (dictSet D (.ref b) r) Q E s := by
  obtain ⟨zl, sm, xs, rel, dd⟩ := dt_of I.hok hD
  have few : (putK kvs k v).length ≤ sizeLine := Nat.le_trans (length_putK kvs k v) hz
  refine wpAny_dictSet_heap (hsz := (Paired.length rel) ▸ zl) (show (tupleKind (mixKind X.prog X.w)).room X.A from hu) (key_of I.hok hb) dd fun h2 dd2 sb => q _ ?_
  obtain ⟨o, es, ep, at2, x2, x3, x4, _, x5⟩ := dd2
  refine d_write I (hD ▸ True.intro) sb ⟨o, at2⟩ ⟨few, sm, _, KT.keeps (rel.put k hb rv) fun c ys ec => ?_, o, es, ep, at2, x2, x3, x4, x5⟩
  rw [upd_ne (fun e => by rw [e, hD] at ec; cases ec)]
  exact ec
def tDcT (wi : TI) (g : TG) (tt : TT) (tk tv : TE) (vs : List Nat) : TE := fun σ H Q => wi σ H fun J H1 => ∀ D, H1 D = none → ∃ W : Nat → Nat → Hp → Prop, (∃ m, W 0 m (upd H1 D (.dT []))) ∧ ∀ i m H, W i m H →
  (J.stop i H ∧ Q (.ref D) H) ∨ (J.go i H ∧ ∃ Nx : Hp → Prop, (∀ H', Nx H' → ∃ m', m' < m ∧ W (i + 1) m' H') ∧ ∀ x H', J.yld i H x H' → g x (wipe σ vs) H' fun σ2 H2 => wipe σ2 vs = wipe σ vs ∧ tt σ2 H2 fun b H3 =>
    if b = true then tk σ2 H3 fun y H4 => tv σ2 H4 fun z H5 => ∃ kvs k c, y = .ref c ∧ H5 c = some (.tup (k.map kV)) ∧ H5 D = some (.dT kvs) ∧ kvs.length < sizeLine ∧ Nx (upd H5 D (.dT (putK kvs k z))) else Nx H3)
section
variable {X : Cx} {kx vx tg iter : Expr} {ifs : List Expr} {scope : Scope} {own : List (Str × Nat)} {pos : Pos} {wi : TI} {g : TG} {tt : TT} {tk tv : TE}
theorem pe_dcT (hc : X.calm = true) (hu : X.A.units < cLine) (hN : X.N.Nodup) (hi : PI X tg iter wi) (ok : BlkOk X.N X.env.scope scope own)
    (pg : ∀ (s : Shared) (H : Hp) (C : Addr) (cl : List (Str × Addr)) (fp : List Addr), PG (X.blk s H scope (compEnvC scope cl C X.env) fp) tg g)
    (pt : ∀ (s : Shared) (H : Hp) (C : Addr) (cl : List (Str × Addr)) (fp : List Addr), PTs (X.blk s H scope (compEnvC scope cl C X.env) fp) ifs tt)
    (pk : ∀ (s : Shared) (H : Hp) (C : Addr) (cl : List (Str × Addr)) (fp : List Addr), PE (X.blk s H scope (compEnvC scope cl C X.env) fp) kx tk)
    (pv' : ∀ (s : Shared) (H : Hp) (C : Addr) (cl : List (Str × Addr)) (fp : List Addr), PE (X.blk s H scope (compEnvC scope cl C X.env) fp) vx tv) (fs : ∀ x, foldedSetIterable iter X.env x = pure x := by intro _; rfl) :
    PE X (.DictComp kx vx [⟨tg, iter, ifs, 0⟩] scope pos) (tDcT wi g tt tk tv (own.map (·.2))) := by
  refine ⟨fun pins s σ H Q I h => ?_⟩
  rw [arm_eval_DictComp]
  have clo : ∀ y ∈ scope.names, y.2 = .free → ∃ c, X.env.cells.lookup y.1 = some c := fun y hy e =>
    (ok.free y hy e).elim (fun z => I.ok.has _ (.inl z)) fun z => I.ok.has _ (.inr z)
  refine wpAny_comprehension_free (use := _) rfl fs (closure_ok clo) ok.kind (fun y hy e => by rw [ok.uniq y hy, e]) (thn (hi.run pins s σ H _ I h) fun _ s1 z1 => thn z1 fun _ s2 z2 => ?_)
  obtain ⟨it, fp, tn, J, H2, rfl, I2, T, st2, f2, q⟩ := z2
  refine wpAny_newObj_type (newEnv_comp ?_)
  have free2 : H2 s2.heap.objs.size = none := I2.hok.fresh (Nat.le_refl _)
  obtain ⟨W, ⟨m0, w0⟩, turn⟩ := q s2.heap.objs.size free2
  have below : ∀ b ∈ fp, b < s2.heap.objs.size := fun b hb => (T.obj _ _ st2 b hb).elim fun o z => Heap.lt_size z.1
  -- the new dict stands
  obtain ⟨s3, e3⟩ : ∃ s3 : Shared, s3 = { s2 with heap := s2.heap.push { cls := .type "dict", data := .dict #[] } } := ⟨_, rfl⟩
  have h3 : s3.heap = s2.heap.push { cls := .type "dict", data := .dict #[] } := by rw [e3]
  have keep3 : ∀ b o, s2.heap.get? b = some o → s3.heap.get? b = some o := fun b o e => by rw [h3]; exact Heap.get?_push_of_some _ e
  obtain ⟨D, eD⟩ : ∃ D, D = s2.heap.objs.size := ⟨_, rfl⟩
  rw [← eD] at w0 turn free2
  have I3 : Inv X pins σ (upd H2 D (.dT [])) s3 := by
    rw [e3, eD]
    exact I2.laid (t' := s2.toks) (fun b o e => Heap.get?_push_of_some _ e) (Nat.le_refl _) (dt_empty s2.heap I2.big)
  obtain ⟨H3, eH⟩ : ∃ H3, H3 = upd H2 D (.dT []) := ⟨_, rfl⟩
  rw [← eH] at I3 w0
  have f3 : ∀ b ∈ fp, FpOk X pins H3 b ∧ b < s3.heap.objs.size := fun b hb => by
    have lt := below b hb
    have nD : H3 b = none := by
      rw [eH, upd_ne (by rw [eD]; exact Nat.ne_of_lt lt)]
      exact (f2 b hb).1
    exact ⟨⟨nD, (f2 b hb).2⟩, by rw [h3, Heap.size_push]; exact Nat.lt_succ_of_lt lt⟩
  have st3 : tn 0 s3.heap := T.keep _ _ _ st2 fun b _ o e => keep3 b o e
  have I4 := block_start I3 ok hN f3
  have G := pg s3 H3 s3.heap.objs.size (cellsFrom (s3.heap.objs.size + 1) scope.names (cloFrom X.env.cells scope.names [])) fp
  have Tt := pt s3 H3 s3.heap.objs.size (cellsFrom (s3.heap.objs.size + 1) scope.names (cloFrom X.env.cells scope.names [])) fp
  have Kk := pk s3 H3 s3.heap.objs.size (cellsFrom (s3.heap.objs.size + 1) scope.names (cloFrom X.env.cells scope.names [])) fp
  have Vv := pv' s3 H3 s3.heap.objs.size (cellsFrom (s3.heap.objs.size + 1) scope.names (cloFrom X.env.cells scope.names [])) fp
  rw [← h3, ← eD]
  show codeAny _ _ (.compStart (.DictComp kx vx [⟨tg, iter, ifs, 0⟩] scope pos) 0 (.ref it) (.ref D) (compEnvC scope (cellsFrom (s3.heap.objs.size + 1) scope.names (cloFrom X.env.cells scope.names [])) s3.heap.objs.size X.env)) _ _
  obtain ⟨ce, ec⟩ : ∃ ce, ce = compEnvC scope (cellsFrom (s3.heap.objs.size + 1) scope.names (cloFrom X.env.cells scope.names [])) s3.heap.objs.size X.env := ⟨_, rfl⟩
  have cL : ce.locals = s3.heap.objs.size := by rw [ec]; rfl
  rw [← ec] at I4 G Tt Kk Vv ⊢
  obtain ⟨s4, e4⟩ : ∃ s4 : Shared, s4 = { s3 with heap := pushCells (s3.heap.push { cls := .type "dict", data := .dict #[] }) scope.names } := ⟨_, rfl⟩
  have es : ({ s2 with heap := pushCells (s3.heap.push { cls := .type "dict", data := .dict #[] }) scope.names } : Shared) = s4 := by rw [e4, e3]
  rw [es]
  rw [← e4] at I4
  have st4 : tn 0 s4.heap := T.keep _ _ _ st3 fun b _ o e => by rw [e4]; exact pushCells_keeps _ _ _ _ (Heap.get?_push_of_some _ e)
  have fpNow : ∀ {σ' : L2.St} {H' : Hp} {s' : Shared}, Inv (X.blk s3 H3 scope ce fp) [] σ' H' s' → (∀ b ∈ fp, H' b = none) → ∀ b ∈ fp, FpOk (X.blk s3 H3 scope ce fp) [] H' b := fun J' hn b hb =>
    ⟨hn b hb, (J'.ok.exf b hb).1, J'.ok.exfs b hb, .inl hb, fun x c e => (J'.ok.exf b hb).2 x c e, fun p hp => nomatch (show p ∈ ([] : List (Addr × Obj)) from hp)⟩
  refine codeAny_compStart_dict ?_ (T.self X.A 0 _ _ _ st4 ?_)
  all_goals
    refine compLoop_anyD (fun n s' => ∃ i H', Inv (X.blk s3 H3 scope ce fp) [] (wipe σ (own.map (·.2))) H' s' ∧ tn i s'.heap ∧ (∀ b ∈ fp, H' b = none) ∧ W i n H') ?_ m0 ⟨0, H3, I4, st4, fun b hb => (f3 b hb).1.1, w0⟩
    rintro n s5 ⟨i, H5, I5, st5, n5, w5⟩
    rcases turn i n H5 w5 with ⟨stop, qq⟩ | ⟨go, Nx, hNx, step⟩
    · refine thnF (T.done (X.blk s3 H3 scope ce fp) rfl rfl rfl hc i [] s5 _ H5 (fun _ _ => False) I5 (fpNow I5 n5) st5 stop) fun r s6 ⟨hr, I6⟩ => ?_
      subst hr
      have I7 : Inv X pins σ H5 s6 := I3.call' (ch := fp) I6.os I6.base I6.hok I6.bare fun b hb =>
        have f := (f3 b hb).1.2
        ⟨f.2.2.1, f.1, f.2.2.2.1, f.2.2.2.2⟩
      obtain ⟨m, hn, _⟩ := I6.loc
      have hn' : s6.heap.Ns ce.locals m := hn
      have nC : H5 ce.locals = none := I6.free
      rw [cL] at hn' nC
      obtain ⟨g0, g1, g2, g3, g4, g5⟩ := I3.fpOk (Nat.le_refl _) nC
      exact ⟨m, hn', fun h2 sb => ⟨.ref D, H5, I7.turned (t' := s6.toks) (fun b o hb e => (sb.2 b hb).trans e) g0 g1 g3 g4 g5, rfl, qq⟩⟩
    · refine thnF (T.item (X.blk s3 H3 scope ce fp) rfl rfl rfl hc i [] s5 _ H5 (fun _ _ => False) I5 (fpNow I5 n5) st5 go) fun r s6 ⟨u, hr, z6⟩ => ?_
      subst hr
      refine thnF z6 fun _ s7 ⟨x, H7, I7, r7, y7, st7, n7⟩ => ?_
      refine thnF (G.run _ s7 _ H7 x u _ (I7.pinned (fpNow I7 n7) (T.obj _ _ st7)) r7 (step x H7 y7)) fun _ s8 ⟨σ8, H8, I8, hw8, q8⟩ => ?_
      refine thnF (Tt.run _ s8 σ8 H8 _ I8 q8) fun b s9 ⟨H9, I9, q9⟩ => ?_
      have again : ∀ {s' : Shared} {H' : Hp}, Inv (X.blk s3 H3 scope ce fp) ([] ++ pinsAt fp s7.heap) σ8 H' s' → Nx H' → ∃ m, m < n ∧ ∃ i H', Inv (X.blk s3 H3 scope ce fp) [] (wipe σ (own.map (·.2))) H' s' ∧ tn i s'.heap ∧ (∀ b ∈ fp, H' b = none) ∧ W i m H' := fun {s' H'} J' nx => by
        obtain ⟨m', lt, w'⟩ := hNx H' nx
        have pinned : ∀ b ∈ fp, ∀ o, s7.heap.get? b = some o → s'.heap.get? b = some o ∧ H' b = none := fun b hb o e =>
          have z := J'.pin (b, o) (List.mem_append_right _ (List.mem_append_right _ (mem_pinsAt hb e)))
          ⟨z.1, z.2.1⟩
        refine ⟨m', lt, i + 1, H', (J'.unpinned (pins := [])).weak (by rw [← hw8, wipe_length]) (fun j v e => ?_), T.keep _ _ _ st7 fun b hb o e => (pinned b hb o e).1, fun b hb => ?_, w'⟩
        · rw [← hw8] at e
          exact (wipe_some e).1
        · exact (T.obj _ _ st7 b hb).elim fun o z => (pinned b hb o z.1).2
      cases b with
      | false => exact again I9 (by simpa using q9)
      | true =>
        rw [if_pos rfl] at q9 ⊢
        refine thnF (Kk.run _ s9 σ8 H9 _ I9 q9) fun z s10 ⟨yk, H10, I10, r10, q10⟩ => ?_
        refine thnF (Vv.run _ s10 σ8 H10 _ I10 q10) fun z' s11 ⟨yv, H11, I11, r11, kvs, k, c, ek, hb, hD, hz, nx⟩ => ?_
        subst ek
        cases (show z = Value.ref c from r10)
        exact setT (X := X.blk s3 H3 scope ce fp) hu I11 hD hz hb r11 fun s12 I12 => again I12 nx
end
/-- over a tuple that stays -/
theorem dcT_tup {K : PySem.W.Frag} {a : Addr} {xs : List V} {g : TG} {tt : TT} {tk tv : TE} {vs : List Nat} {σ : L2.St} {H1 : Hp} {D : Addr} {Qd : Hp → Prop} (Pv : Nat → Hp → Prop) (h0 : Pv 0 (upd H1 D (.dT []))) (hl : ∀ i H, i ≤ xs.length → Pv i H → SqT K H a xs)
    (hs : ∀ i x H, xs[i]? = some x → Pv i H → g x (wipe σ vs) H fun σ2 H2 => wipe σ2 vs = wipe σ vs ∧ tt σ2 H2 fun b H3 =>
      if b = true then tk σ2 H3 fun y H4 => tv σ2 H4 fun z H5 => ∃ kvs k c, y = .ref c ∧ H5 c = some (.tup (k.map kV)) ∧ H5 D = some (.dT kvs) ∧ kvs.length < sizeLine ∧ Pv (i + 1) (upd H5 D (.dT (putK kvs k z))) else Pv (i + 1) H3) (hd : ∀ H, Pv xs.length H → Qd H) :
    ∃ W : Nat → Nat → Hp → Prop, (∃ m, W 0 m (upd H1 D (.dT []))) ∧ ∀ i m H, W i m H →
      ((Itt K a).stop i H ∧ Qd H) ∨ ((Itt K a).go i H ∧ ∃ Nx : Hp → Prop, (∀ H', Nx H' → ∃ m', m' < m ∧ W (i + 1) m' H') ∧ ∀ x H', (Itt K a).yld i H x H' → g x (wipe σ vs) H' fun σ2 H2 => wipe σ2 vs = wipe σ vs ∧ tt σ2 H2 fun b H3 =>
        if b = true then tk σ2 H3 fun y H4 => tv σ2 H4 fun z H5 => ∃ kvs k c, y = .ref c ∧ H5 c = some (.tup (k.map kV)) ∧ H5 D = some (.dT kvs) ∧ kvs.length < sizeLine ∧ Nx (upd H5 D (.dT (putK kvs k z))) else Nx H3) := by
  refine ⟨fun i m H => m + i = xs.length ∧ Pv i H, ⟨xs.length, rfl, h0⟩, ?_⟩
  rintro i m H ⟨em, p⟩
  have q := hl i H (by omega) p
  cases c : xs[i]? with
  | some x =>
    have lt : i < xs.length := by
      rcases Nat.lt_or_ge i xs.length with z | z
      · exact z
      · rw [List.getElem?_eq_none z] at c
        cases c
    exact .inr ⟨⟨xs, x, q, c⟩, fun H' => Pv (i + 1) H', fun H' p' => ⟨m - 1, by omega, by omega, p'⟩, fun y H' ⟨e, hy⟩ => by
      subst e
      have z := hy xs q
      rw [c] at z
      cases z
      exact hs i x _ c p⟩
  | none =>
    have e : i = xs.length := by
      have z := List.getElem?_eq_none_iff.mp c
      omega
    subst e
    exact .inl ⟨⟨xs, q, Nat.le_refl _⟩, hd H p⟩
end K1
set_option maxRecDepth 100000
set_option maxHeartbeats 400000
/-! operators that a class of the program defines, its instances ordinary ones -/
namespace K1
open PySem PySem.Spec PyProof.Rows L2
section
variable {X : Cx} {CX : CXT} {E : XK} {C g : Addr} {fd : FuncData} {ps : List Str} {sp : Sp} {k : Nat}
/-- an instance of the class at C stands at a -/
def Ins (H : Hp) (a C : Addr) : Prop := ∃ dx fs, H a = some (.ins C dx fs)
theorem ins_inst {pins : List (Addr × Obj)} {σ : L2.St} {H : Hp} {s : Shared} {a : Addr} (I : Inv X pins σ H s) (h : Ins H a C) : ∃ dx od, PySem.W.InstAt s.heap a (PySem.W.instObj C dx) C (some od) := by
  obtain ⟨dx, fs, e⟩ := h
  obtain ⟨mA, O, _⟩ := ins_get I.hok e
  obtain ⟨od, J, _⟩ := O.look
  exact ⟨dx, od, J⟩
theorem op_two {op : Operator} (M : Meth X.K C (PySem.dunder op.info.2) g) (sf : PySem.W.selfFirst X.K C = true) (F : FnOk X.prog X.w X.K X.mg X.base CX k g fd ps sp) (hr : Room k X.A) (hb : Binds X.K fd ps []) (hx : Passes CX X E) :
    OpR X (binaryOp op) (fun x y H Q => ∃ a b, x = .ref a ∧ y = .ref b ∧ Ins H a C ∧ Ins H b C ∧ sp [x, y] H Q E) := by
  intro pins s σ H x y v u Q I rx ry h
  obtain ⟨a, b, rfl, rfl, ha, hb', q⟩ := h
  cases (show v = Value.ref a from rx)
  cases (show u = Value.ref b from ry)
  obtain ⟨_, _, J⟩ := ins_inst I ha
  obtain ⟨_, _, J'⟩ := ins_inst I hb'
  obtain ⟨m, fr⟩ := I.fr
  refine PySem.W.binop_K fr I.ok.mod.kin J J'.type sf M.at_ M.fn ?_
  refine thn (run_fn (us := [.ref a, .ref b]) (vs := [.ref a, .ref b]) F hr hb .nil hx I (.cons rfl (.cons rfl .nil)) (by rw [List.append_nil]; exact q)) fun r s' z => ?_
  obtain ⟨z', H', I', rz, qz⟩ := z
  exact SlX.cmpback rz ⟨z', H', I', rz, qz⟩
theorem op_cmp {op : CmpOp} (hop : ∀ a b, compareOp op a b = richCompare op a b) (M : Meth X.K C (cmpInfo op).2.1 g) (nf : PySem.W.notFirst X.K C (.ref C) = true) (F : FnOk X.prog X.w X.K X.mg X.base CX k g fd ps sp) (hr : Room k X.A) (hb : Binds X.K fd ps []) (hx : Passes CX X E) :
    OpR X (compareOp op) (fun x y H Q => ∃ a b, x = .ref a ∧ y = .ref b ∧ Ins H a C ∧ Ins H b C ∧ sp [x, y] H Q E) := by
  intro pins s σ H x y v u Q I rx ry h
  obtain ⟨a, b, rfl, rfl, ha, hb', q⟩ := h
  cases (show v = Value.ref a from rx)
  cases (show u = Value.ref b from ry)
  obtain ⟨_, _, J⟩ := ins_inst I ha
  obtain ⟨_, _, J'⟩ := ins_inst I hb'
  obtain ⟨m, fr⟩ := I.fr
  rw [hop]
  refine PySem.W.cmp_K (op := op) (tb := .ref C) hr.units0 fr I.ok.mod.kin J J'.type nf M.at_ M.fn ?_
  refine thn (run_fn (us := [.ref a, .ref b]) (vs := [.ref a, .ref b]) F hr hb .nil hx I (.cons rfl (.cons rfl .nil)) (by rw [List.append_nil]; exact q)) fun r s' z => ?_
  obtain ⟨z', H', I', rz, qz⟩ := z
  exact SlX.cmpback rz ⟨z', H', I', rz, qz⟩
/-- x in y, y an instance of a class that defines it; its def hands back a truth -/
theorem op_has (M : Meth X.K C "__contains__" g) (F : FnOk X.prog X.w X.K X.mg X.base CX k g fd ps sp) (hr : Room k X.A) (hb : Binds X.K fd ps []) (hx : Passes CX X E) :
    OpR X (compareOp .In) (fun x y H Q => ∃ b, y = .ref b ∧ Ins H b C ∧ sp [y, x] H (fun v H' => ∃ t, v = .bl t ∧ Q (.bl t) H') E) := by
  intro pins s σ H x y v u Q I rx ry h
  obtain ⟨b, rfl, hb', q⟩ := h
  cases (show u = Value.ref b from ry)
  obtain ⟨_, _, J⟩ := ins_inst I hb'
  obtain ⟨m, fr⟩ := I.fr
  refine PySem.W.in_K fr I.ok.mod.kin J M.at_ M.fn ?_
  refine thn (run_fn (us := [.ref b, v]) (vs := [.ref b, x]) F hr hb .nil hx I (.cons rfl (.cons rx .nil)) (by rw [List.append_nil]; exact q)) fun r s' z => ?_
  obtain ⟨z', H', I', rz, t, rfl, qz⟩ := z
  cases (show r = Value.bool t from rz)
  exact wpAny_pure ⟨.bl t, H', I', rfl, qz⟩
theorem op_hasnt (M : Meth X.K C "__contains__" g) (F : FnOk X.prog X.w X.K X.mg X.base CX k g fd ps sp) (hr : Room k X.A) (hb : Binds X.K fd ps []) (hx : Passes CX X E) :
    OpR X (compareOp .NotIn) (fun x y H Q => ∃ b, y = .ref b ∧ Ins H b C ∧ sp [y, x] H (fun v H' => ∃ t, v = .bl t ∧ Q (.bl (!t)) H') E) := by
  intro pins s σ H x y v u Q I rx ry h
  obtain ⟨b, rfl, hb', q⟩ := h
  cases (show u = Value.ref b from ry)
  obtain ⟨_, _, J⟩ := ins_inst I hb'
  obtain ⟨m, fr⟩ := I.fr
  refine PySem.W.notIn_K fr I.ok.mod.kin J M.at_ M.fn ?_
  refine thn (run_fn (us := [.ref b, v]) (vs := [.ref b, x]) F hr hb .nil hx I (.cons rfl (.cons rx .nil)) (by rw [List.append_nil]; exact q)) fun r s' z => ?_
  obtain ⟨z', H', I', rz, t, rfl, qz⟩ := z
  cases (show r = Value.bool t from rz)
  exact wpAny_pure ⟨.bl (!t), H', I', rfl, qz⟩
end
/-! ### !=, by an own == alone -/
/-- the class at C has no base of the program's; its own == is at g, it has no != -/
structure NeC (K : PySem.W.Frag) (C g : Addr) : Prop where
  cls : ∃ nm q N bs hdct sn sub ab col dd k0 k1 k2 k3 k5 newId, K.lookup C = some (excClassObj nm q C N bs [.type "object"] hdct sn sub ab col dd k0 k1 k2 k3 k5 newId) ∧ PySem.W.nsOkIn K N = true ∧
    PySem.W.nsIn K N "__eq__" = some (some (.ref g)) ∧ PySem.W.nsIn K N "__ne__" = some none
  fn : ∃ o, K.lookup g = some o ∧ o.cls = .type "function"
def neB (K : PySem.W.Frag) (C g : Addr) : Bool := (match K.lookup C with
  | some ⟨.type "type", _, .cls cd, sl⟩ => (match cd.mro, sl.toList with
    | [.ref D, .type "object"], [_, _, _, _, some (.builtin _), _] => D == C && !cd.hasDel && PySem.W.nsOkIn K cd.ns && decide (PySem.W.nsIn K cd.ns "__eq__" = some (some (.ref g))) && decide (PySem.W.nsIn K cd.ns "__ne__" = some none)
    | _, _ => false)
  | _ => false) && (match K.lookup g with
  | some o => decide (o.cls = .type "function")
  | none => false)
theorem neB_ok {K : PySem.W.Frag} {C g : Addr} (q : neB K C g = true) : NeC K C g := by
  obtain ⟨q, r⟩ := Bool.and_eq_true_iff.mp q
  refine ⟨?_, ?_⟩
  · split at q
    · rename_i dd cd sl look
      split at q
      · rename_i D k0 k1 k2 k3 n k5 mro slots
        simp only [Bool.and_eq_true, beq_iff_eq, Bool.not_eq_true', decide_eq_true_eq] at q
        obtain ⟨⟨⟨⟨rfl, q2⟩, q3⟩, q4⟩, q5⟩ := q
        obtain ⟨nm, bs, ms, ns, qn, hd, sn, sub, ab, col, del⟩ := cd
        dsimp only at mro q2 q3 q4 q5
        subst mro q2
        obtain ⟨sll⟩ := sl
        dsimp only at slots
        subst slots
        exact ⟨nm, qn, ns, bs, hd, sn, sub, ab, col, dd, k0, k1, k2, k3, k5, n, look, q3, q4, q5⟩
      · cases q
    · cases q
  · split at r
    · rename_i o e
      exact ⟨o, e, of_decide_eq_true r⟩
    · cases r
theorem ns_at {K : PySem.W.Frag} {h : Heap} {N : Addr} {m : Str → Option Value} {n : Str} {v : Value} (X : K.In h) (G : h.Ns N m) (e : PySem.W.nsIn K N n = some (some v)) : m n = some v := by
  obtain ⟨o, es, ep, look, dt, _, at_⟩ := G
  unfold PySem.W.nsIn at e
  split at e
  · rename_i c d es' n' sl q
    have z := X _ _ q
    rw [look] at z
    cases z
    cases dt
    split at e
    · rename_i en there
      cases e
      rw [← at_]
      unfold nsFind findBy
      rw [← Array.find?_toList, there] <;> rfl
    · split at e <;> cases e
  · cases e
section
variable {X : Cx} {CX : CXT} {E : XK} {C g : Addr} {fd : FuncData} {ps : List Str} {sp : Sp} {k : Nat}
/-- the callee runs within a builtin's call -/
theorem run_in {pins : List (Addr × Obj)} {σ : L2.St} {H : Hp} {s : Shared} {A : Around} {Q : VK} {us : List Value} {vs : List V} (F : FnOk X.prog X.w X.K X.mg X.base CX k g fd ps sp) (hr : Room k A) (e0 : Env0 X.prog X.w X.K X.mg X.base A X.stack s H) (hb : Binds X.K fd ps [])
    (hx : Passes CX X E) (I : Inv X pins σ H s) (r : Vals vs us) (q : sp vs H Q E) : wpAny (model X.prog X.w) A (call (.ref g) us) (EP X pins σ Q) X.xe s := by
  have l : (us ++ []).length = ps.length := by
    rw [List.append_nil, ← r.length]
    exact F.len _ _ _ _ q
  refine wpAny_call (codeAny_mono (F.run A X.stack s H ⟨us, []⟩ (us ++ []) vs Q E hr e0 (hb s us I.kIn l) (by rw [List.append_nil]; exact r) q) fun z s' back => ?_)
  cases z with
  | error e => exact hx pins σ H s e s' I back
  | ok fl =>
    cases fl with
    | ret u => exact I.after back
    | next => exact False.elim back
    | brk => exact False.elim back
    | cont => exact False.elim back
theorem op_unlike (N : NeC X.K C g) (F : FnOk X.prog X.w X.K X.mg X.base CX k g fd ps sp) (hr : Room (k + 1) X.A) (hb : Binds X.K fd ps []) (hx : Passes CX X E) :
    OpR X (compareOp .NotEq) (fun x y H Q => ∃ a b, x = .ref a ∧ y = .ref b ∧ Ins H a C ∧ Ins H b C ∧ sp [x, y] H (fun v H' => ∃ t, v = .bl t ∧ Q (.bl (!t)) H') E) := by
  intro pins s σ H x y v u Q I rx ry h
  obtain ⟨a, b, rfl, rfl, ha, hb', q⟩ := h
  cases (show v = Value.ref a from rx)
  cases (show u = Value.ref b from ry)
  obtain ⟨_, _, J⟩ := ins_inst I ha
  obtain ⟨_, _, J'⟩ := ins_inst I hb'
  obtain ⟨nm, qn, ns, bs, hdct, sn, sub, ab, col, dd, k0, k1, k2, k3, k5, nI, look, ok, eq, ne⟩ := N.cls
  obtain ⟨of, gat, gcl⟩ := N.fn
  have G : s.heap.Ns ns (s.heap.nsMap ns) := .of_isNs (PySem.W.isNs_of_in I.kIn ok)
  have hC := I.kIn _ _ look
  have hg := I.kIn _ _ gat
  have m1 := ns_at I.kIn G eq
  have m2 := PySem.W.ns_none_of I.kIn G ne
  have mro := PySem.F.cmp_object.mro
  have lk := PySem.F.cmp_object.eq.lookup
  have Z : s.heap.OwnEqNoNe a C g "object" [.type "object"] := by
    exact ⟨_, of, nm, qn, ns, bs, hdct, sn, sub, ab, col, dd, k0, k1, k2, k3, k5, nI, s.heap.nsMap ns, some (.builtin "object.__eq__"), J.at_, J.cls, hC, G, m1, hg, gcl, mro, lk, m2⟩
  obtain ⟨hp, gs, dr, tk, os⟩ := s
  refine compareOp_ne_ownEq PySem.F.cmp_object Z J'.at_ J'.cls (hu_of hr) ?_
  have two : Vals [V.ref a, V.ref b] [Value.ref a, Value.ref b] := .cons (show L2.RelV (V.ref a) (Value.ref a) from rfl) (.cons (show L2.RelV (V.ref b) (Value.ref b) from rfl) .nil)
  refine wpAny_mono (run_in F hr.in1 I.env0.in1 hb hx I two q) (fun r s' z => ?_) fun _ _ e => e
  obtain ⟨v', H', I', rv, t, rfl, qz⟩ := z
  cases (show r = Value.bool t from rv)
  exact ⟨t, rfl, .bl (!t), H', I', rfl, qz⟩
end
end K1
set_option maxRecDepth 100000
set_option maxHeartbeats 400000
/-! len(x), x an instance of a class that defines it -/
namespace K1
open PySem PySem.Spec PyProof.Rows L2
section
variable {X : Cx} {CX : CXT} {E : XK} {C g : Addr} {fd : FuncData} {ps : List Str} {sp : Sp} {k : Nat}
theorem call_lenOwn (M : Meth X.K C "__len__" g) (F : FnOk X.prog X.w X.K X.mg X.base CX k g fd ps sp) (hr : Room (k + 1) X.A) (hb : Binds X.K fd ps []) (hx : Passes CX X E) :
    CallR X (.builtin "len") (fun xs H Q => ∃ a, xs = [.ref a] ∧ Ins H a C ∧ sp [.ref a] H (fun v H' => ∃ n : Nat, v = .int n ∧ n < 100000 ∧ Q (.int n) H') E) := by
  intro pins s σ H xs us Q I r h
  obtain ⟨a, rfl, ha, q⟩ := h
  rw [Vals.ref1 r]
  obtain ⟨_, _, J⟩ := ins_inst I ha
  refine Calls.call_function_entry kind_len plain_len entry_len (args_len1 _) ?_
  unfold Builtin.«len»
  refine wpAny_bind (m := oneArg "len" _) (wpAny_pure ?_)
  refine wpAny_bind (m := callSpecial? (.ref a) "__len__") (PySem.W.special_fn I.kIn J M.at_ (beq_iff_eq.mp M.fn) ?_)
  refine wpAny_mono (run_in F hr.in1 I.env0.in1 hb hx I (.cons (show L2.RelV (V.ref a) (Value.ref a) from rfl) .nil) q) (fun u s' z => ?_) fun _ _ e => e
  obtain ⟨v, H', I', rv, n, rfl, hn, qz⟩ := z
  obtain ⟨t, rfl⟩ := rv
  refine wpAny_bind (wpAny_holding (wpAny_pure ?_))
  refine wpAny_bind (wpAny_letGo ?_)
  show wpAny _ _ (if ((n : Nat) : Int) < 0 then _ else _) _ _ _
  rw [if_neg (by omega)]
  show wpAny _ _ (if ((n : Nat) : Int) ≥ 2 ^ 63 then _ else _) _ _ _
  rw [if_neg (by have : (2 : Int) ^ 63 = 9223372036854775808 := by decide
                 omega)]
  exact wpAny_bind (wpAny_mkInt (wpAny_pure ⟨_, rfl, .int n, H', I'.tok _, ⟨_, rfl⟩, qz⟩))
end
end K1
set_option maxRecDepth 100000
set_option maxHeartbeats 1000000
namespace K1
open PySem L2
/-! ### an order by one number -/
def rkB (B : Int) : Nat → List Int → Int
  | 0, _ => 0
  | _ + 1, [] => 0
  | d + 1, n :: r => (n + 1) * (B + 1) ^ d + rkB B d r
/-- at most d numbers, from 0 on and below B -/
def InB (B : Int) (d : Nat) (ns : List Int) : Prop := ns.length ≤ d ∧ ∀ n ∈ ns, 0 ≤ n ∧ n < B
theorem InB.tail {B : Int} {d : Nat} {n : Int} {r : List Int} (h : InB B (d + 1) (n :: r)) : InB B d r := ⟨Nat.le_of_succ_le_succ h.1, fun m hm => h.2 m (.tail _ hm)⟩
theorem rkB_bd {B : Int} (hB : 0 ≤ B) : ∀ (d : Nat) (ns : List Int), InB B d ns → 0 ≤ rkB B d ns ∧ rkB B d ns < (B + 1) ^ d
  | 0, _, _ => ⟨Int.le_refl _, by show (0 : Int) < (B + 1) ^ 0; rw [Int.pow_zero]; decide⟩
  | d + 1, [], _ => ⟨Int.le_refl _, Int.pow_pos (by omega)⟩
  | d + 1, n :: r, h => by
    obtain ⟨c0, c1⟩ := rkB_bd hB d r h.tail
    obtain ⟨n0, n1⟩ := h.2 n (.head _)
    show 0 ≤ (n + 1) * (B + 1) ^ d + rkB B d r ∧ (n + 1) * (B + 1) ^ d + rkB B d r < (B + 1) ^ (d + 1)
    rw [Int.pow_succ]
    exact TS.num1 c0 c1 (by omega) (by omega)
theorem ltI_rk {B : Int} (hB : 0 ≤ B) : ∀ (d : Nat) (ns ms : List Int), InB B d ns → InB B d ms → ltI ns ms = decide (rkB B d ns < rkB B d ms)
  | 0, [], [], _, _ => (decide_eq_false (Int.lt_irrefl _)).symm
  | 0, _ :: _, _, h, _ => absurd h.1 (Nat.not_succ_le_zero _)
  | 0, [], _ :: _, _, h => absurd h.1 (Nat.not_succ_le_zero _)
  | d + 1, [], [], _, _ => (decide_eq_false (Int.lt_irrefl _)).symm
  | d + 1, [], m :: q, _, h => by
    obtain ⟨c0, c1⟩ := rkB_bd hB d q h.tail
    have m0 := (h.2 m (.head _)).1
    have z := TS.num2 (P := (B + 1) ^ d) (d := 0) (e := m + 1) (c := 0) (Int.le_refl 0) (Int.pow_pos (by omega)) c0 (by omega)
    rw [Int.zero_mul, Int.add_zero] at z
    exact (decide_eq_true z).symm
  | d + 1, n :: r, [], h, _ => by
    have z := (rkB_bd hB (d + 1) (n :: r) h).1
    refine (decide_eq_false ?_).symm
    show ¬ rkB B (d + 1) (n :: r) < 0
    omega
  | d + 1, n :: r, m :: q, h, h' => by
    obtain ⟨c0, c1⟩ := rkB_bd hB d r h.tail
    obtain ⟨g0, g1⟩ := rkB_bd hB d q h'.tail
    show (if n = m then ltI r q else decide (n < m)) = decide ((n + 1) * (B + 1) ^ d + rkB B d r < (m + 1) * (B + 1) ^ d + rkB B d q)
    by_cases e : n = m
    · rw [if_pos e, ltI_rk hB d r q h.tail h'.tail, e]
      generalize (m + 1) * (B + 1) ^ d = X
      exact decide_eq_decide.mpr ⟨fun z => by omega, fun z => by omega⟩
    · rw [if_neg e]
      refine decide_eq_decide.mpr ⟨fun z => TS.num2 c0 c1 g0 (by omega), fun z => ?_⟩
      rcases Int.lt_trichotomy n m with y | y | y
      · exact y
      · exact absurd y e
      · have w := TS.num2 (d := m + 1) (e := n + 1) g0 g1 c0 (by omega)
        omega
theorem ltI_eq : ∀ (ns ms : List Int), ltI ns ms = false → ltI ms ns = false → ns = ms
  | [], [], _, _ => rfl
  | [], _ :: _, h, _ => nomatch h
  | _ :: _, [], _, h => nomatch h
  | n :: r, m :: q, h, h' => by
    have h1 : (if n = m then ltI r q else decide (n < m)) = false := h
    have h2 : (if m = n then ltI q r else decide (m < n)) = false := h'
    by_cases e : n = m
    · rw [if_pos e] at h1
      rw [if_pos e.symm] at h2
      rw [e, ltI_eq r q h1 h2]
    · rw [if_neg e] at h1
      rw [if_neg (fun z => e z.symm)] at h2
      have a := of_decide_eq_false h1
      have b := of_decide_eq_false h2
      omega
theorem rk_inj {B : Int} (hB : 0 ≤ B) {d : Nat} {ns ms : List Int} (h : InB B d ns) (h' : InB B d ms) (e : rkB B d ns = rkB B d ms) : ns = ms := by
  refine ltI_eq ns ms ?_ ?_
  · rw [ltI_rk hB d ns ms h h', e]
    exact decide_eq_false (Int.lt_irrefl _)
  · rw [ltI_rk hB d ms ns h' h, e]
    exact decide_eq_false (Int.lt_irrefl _)
/-- <= of two tuples, as the layer says it -/
theorem lexAt_shift {e r : Nat → Bool} {z : Bool} : ∀ (k i : Nat), Ob.lexAt (fun j => e (j + 1)) (fun j => r (j + 1)) z i k = Ob.lexAt e r z (i + 1) k
  | 0, _ => rfl
  | k + 1, i => by
    rw [Ob.lexAt_succ, Ob.lexAt_succ, lexAt_shift k (i + 1)]
theorem lex_le : ∀ (ns ms : List Int), Ob.lexAt (fun j => decide (ns.getD j 0 = ms.getD j 0)) (fun j => decide (ns.getD j 0 ≤ ms.getD j 0)) (decide (ns.length ≤ ms.length)) 0 (min ns.length ms.length) = !ltI ms ns
  | [], [] => rfl
  | [], _ :: _ => rfl
  | _ :: _, [] => rfl
  | n :: r, m :: q => by
    have z := lex_le r q
    have s := lexAt_shift (e := fun j => decide ((n :: r).getD j 0 = (m :: q).getD j 0)) (r := fun j => decide ((n :: r).getD j 0 ≤ (m :: q).getD j 0)) (z := decide ((n :: r).length ≤ (m :: q).length)) (min r.length q.length) 0
    have l : min (n :: r).length (m :: q).length = min r.length q.length + 1 := by simp only [List.length_cons]; omega
    rw [l, Ob.lexAt_succ, ← s]
    have e1 : decide ((n :: r).length ≤ (m :: q).length) = decide (r.length ≤ q.length) := by simp
    rw [e1]
    show (if decide (n = m) = true then Ob.lexAt (fun j => decide (r.getD j 0 = q.getD j 0)) (fun j => decide (r.getD j 0 ≤ q.getD j 0)) (decide (r.length ≤ q.length)) 0 (min r.length q.length) else decide (n ≤ m)) = !(if m = n then ltI q r else decide (m < n))
    rw [z]
    by_cases e : n = m
    · rw [if_pos (decide_eq_true e), if_pos e.symm]
    · rw [if_neg (by simpa using e), if_neg (fun z => e z.symm), ← decide_not]
      exact decide_eq_decide.mpr (by omega)
/-- the places of this law -/
abbrev rk : List Int → Int := rkB 4 4
def Ok (ns : List Int) : Prop := ns ≠ [] ∧ InB 4 4 ns
theorem Ok.lt {ns ms : List Int} (h : Ok ns) (h' : Ok ms) : ltI ns ms = decide (rk ns < rk ms) := ltI_rk (by decide) 4 ns ms h.2 h'.2
theorem Ok.inj {ns ms : List Int} (h : Ok ns) (h' : Ok ms) (e : rk ns = rk ms) : ns = ms := rk_inj (by decide) h.2 h'.2 e
/-! ### lists of places -/
abbrev PL := List (Addr × List Int)
def refs (L : PL) : List V := L.map fun p => V.ref p.1
def keys (L : PL) : List (List Int) := L.map (·.2)
/-- the tuples stand -/
def Ats (H : Hp) (L : PL) : Prop := ∀ p ∈ L, H p.1 = some (.tup (p.2.map V.int))
def Oks (L : PL) : Prop := ∀ p ∈ L, Ok p.2
/-- strictly ascending -/
def Asc (L : PL) : Prop := L.Pairwise fun p q => rk p.2 < rk q.2
theorem Ats.mono {H H' : Hp} {L : PL} (h : Ats H L) (s : Same H H') : Ats H' L := fun p hp => s _ _ (h p hp)
theorem Ats.sub {H : Hp} {L M : PL} (h : Ats H L) (k : ∀ p ∈ M, p ∈ L) : Ats H M := fun p hp => h p (k p hp)
theorem Oks.sub {L M : PL} (h : Oks L) (k : ∀ p ∈ M, p ∈ L) : Oks M := fun p hp => h p (k p hp)
theorem refs_len (L : PL) : (refs L).length = L.length := List.length_map _
theorem refs_get {L : PL} {i : Nat} {x : V} (h : (refs L)[i]? = some x) : ∃ p, L[i]? = some p ∧ x = .ref p.1 := by
  unfold refs at h
  rw [List.getElem?_map] at h
  obtain ⟨p, h1, h2⟩ := Option.map_eq_some_iff.mp h
  exact ⟨p, h1, h2.symm⟩
theorem refs_take (L : PL) (i : Nat) : (refs L).take i = refs (L.take i) := (List.map_take ..).symm
theorem refs_app (L M : PL) : refs (L ++ M) = refs L ++ refs M := List.map_append ..
/-- strictly ascending lists of the same places are the same -/
theorem asc_keys : ∀ {L M : PL}, Asc L → Asc M → Oks L → Oks M → (∀ k, k ∈ keys L ↔ k ∈ keys M) → keys L = keys M
  | [], [], _, _, _, _, _ => rfl
  | [], q :: M, _, _, _, _, h => absurd ((h q.2).mpr (List.mem_map.mpr ⟨q, .head _, rfl⟩)) (by simp [keys])
  | p :: L, [], _, _, _, _, h => absurd ((h p.2).mp (List.mem_map.mpr ⟨p, .head _, rfl⟩)) (by simp [keys])
  | p :: L, q :: M, hL, hM, oL, oM, h => by
    obtain ⟨l1, l2⟩ := List.pairwise_cons.mp hL
    obtain ⟨m1, m2⟩ := List.pairwise_cons.mp hM
    have low : ∀ {r : Addr × List Int} {N : PL}, (∀ a ∈ N, rk r.2 < rk a.2) → ∀ k, k ∈ keys (r :: N) → rk r.2 ≤ rk k := fun hn k hk => by
      obtain ⟨a, ha, rfl⟩ := List.mem_map.mp hk
      rcases List.mem_cons.mp ha with e | e
      · rw [e]; exact Int.le_refl _
      · exact Int.le_of_lt (hn a e)
    have hp : p.2 ∈ keys (p :: L) := List.mem_map.mpr ⟨p, .head _, rfl⟩
    have hq : q.2 ∈ keys (q :: M) := List.mem_map.mpr ⟨q, .head _, rfl⟩
    have e : p.2 = q.2 := (oL p (.head _)).inj (oM q (.head _)) (Int.le_antisymm (low l1 _ ((h _).mpr hq)) (low m1 _ ((h _).mp hp)))
    have no : ∀ {r : Addr × List Int} {N : PL}, (∀ a ∈ N, rk r.2 < rk a.2) → r.2 ∉ keys N := fun hn hk => by
      obtain ⟨a, ha, ea⟩ := List.mem_map.mp hk
      have z := hn a ha
      rw [ea] at z
      exact absurd z (Int.lt_irrefl _)
    show p.2 :: keys L = q.2 :: keys M
    rw [e, asc_keys l2 m2 (oL.sub fun a ha => .tail _ ha) (oM.sub fun a ha => .tail _ ha) fun k => ?_]
    have z := h k
    constructor
    · intro hk
      have w : k ∈ q.2 :: keys M := z.mp (.tail _ hk)
      rcases List.mem_cons.mp w with y | y
      · exact absurd hk (by rw [y, ← e]; exact no l1)
      · exact y
    · intro hk
      have w : k ∈ p.2 :: keys L := z.mpr (.tail _ hk)
      rcases List.mem_cons.mp w with y | y
      · exact absurd hk (by rw [y, e]; exact no m1)
      · exact y
/-! ### as_place -/
def spAsPlace : Sp := fun vs H Q _ => ∃ (b : Addr) (ns : List Int), vs = [.ref b] ∧ H b = some (.tup (ns.map V.int)) ∧ (∀ n ∈ ns, 0 ≤ n) ∧ ns.length ≤ 900 ∧ ∀ H', Same H H' → Q (.ref b) H'
section
variable {P : Program} {w : World} {K : PySem.W.Frag} {mg : Str → Option Value} {base : Heap}
theorem scAP : FnScope ["thing", "item"] ["thing"] (defScope pAsPlace) := ⟨rfl, rfl, rfl, by decide +kernel, rfl, by decide +kernel, by decide +kernel⟩
theorem ok_asPlace {f fL fI : Addr} {fd fdL fdI : FuncData} (F : Fun K "as_place" "as_place" pAsPlace f fd) (GL : FnOk P w K mg base CX0 1 fL fdL ["thing"] (spIsList K)) (gL : mg "is_list" = some (.ref fL)) (kL : PySem.W.keepIn K (.ref fL) = true) (bL : Binds K fdL ["thing"] [])
    (GI : FnOk P w K mg base CX0 1 fI fdI ["thing"] (spIsInteger K)) (gI : mg "is_integer" = some (.ref fI)) (kI : PySem.W.keepIn K (.ref fI) = true) (bI : Binds K fdI ["thing"] []) (ha : mg "all" = none) (ht : mg "tuple" = none) :
    FnOk P w K mg base CX0 2 f fd ["thing"] spAsPlace := by
  refine F.ok scAP (fun vs H Q E h => ?_) (fun cdv A outer s H vs Q E hr h => ?_)
  · obtain ⟨b, ns, rfl, _⟩ := h
    rfl
  · obtain ⟨b, ns, rfl, hb, h0, hl, k⟩ := h
    refine ⟨_, pss_cons (ps_if (pt_not (pt_val (pe_call GL hr (by rfl) gL kL bL .nil pass0 (pa_cons (pv 0) pa_nil)))) pss_never pss_nil)
      (pss_cons (ps_if (pt_not (pt_val (pe_callB (cr_all rfl) (by rfl) ha (by decide +kernel) (pa_cons (pe_lc (own := [("item", 1)]) (g := gName 1) (tt := tYes) rfl scAP.nd (pi_tup (pv 0)) (blkOk_by (N := ["thing", "item"]) (sc := defScope pAsPlace) (by decide +kernel))
          (fun _ _ _ _ _ => pg_name (i := 1) scAP.nd rfl (Or.inl rfl)) (fun _ _ _ _ _ => pts_nil) (fun _ _ _ _ _ => pe_and (pe_call GI hr (by rfl) gI kI bI .nil pass0 (pa_cons (pv 1) pa_nil)) (pe_one (pe_cmpR op_ge (pv 1) pe_int (nomark _))))) pa_nil)))) pss_never pss_nil)
      (pss_one (ps_ret (pe_callTy call_tuple_of (by rfl) ht (by decide +kernel) (pa_cons (pv 0) pa_nil))))), ?_⟩
    refine ⟨_, rfl, _, _, true, rfl, .base (.tup hb), kitAny_cons (kit_ty (r := false) (by decide +kernel)) (fun _ => kitAny_cons (kit_ty (r := true) (by decide +kernel)) (fun e => nomatch e) fun _ => rfl) (fun e => nomatch e), fun H1 s1 => ⟨_, rfl, iteF ?_⟩⟩
    refine ⟨_, rfl, b, rfl, ⟨_, SqT.of (s1 _ _ hb)⟩, fun D nD => ?_⟩
    refine lc_tup (xs := ns.map V.int) (fun i H9 => H9 D = some (.lst (List.replicate i (.bl true))) ∧ Same H1 H9) ⟨upd_same, same_new nD _⟩ (fun i H9 _ h9 => SqT.of ((s1.trans h9.2) _ _ hb)) ?_ ?_
    · rintro i x H9 hx ⟨h9, s9⟩
      rw [List.getElem?_map] at hx
      obtain ⟨n, hn, rfl⟩ := Option.map_eq_some_iff.mp hx
      have li : i < ns.length := (List.getElem?_eq_some_iff.mp hn).1
      have n0 := h0 n (List.mem_of_getElem? hn)
      refine ⟨rfl, _, rfl, _, _, true, false, rfl, .base (.int n), kit_ty (by decide +kernel), kit_ty (by decide +kernel), _, rfl, iteT ?_⟩
      refine ⟨_, rfl, _, _, rfl, rfl, _, h9, small1000 (by rw [List.length_replicate]; omega), ?_, ?_⟩
      · have z : (fun i j : Int => V.bl (decide (j ≤ i))) n 0 = V.bl true := congrArg V.bl (decide_eq_true n0)
        rw [z, upd_same, List.replicate_succ']
      · intro c o hc
        rw [upd_ne (ne_of_none hc nD)]
        exact s9 _ _ hc
    · rintro H9 ⟨h9, s9⟩
      refine ⟨D, List.replicate ns.length true, rfl, SqL.of (by rw [h9, List.map_replicate, List.length_map]), _, rfl, ?_⟩
      have e : (List.replicate ns.length true).all id = true := List.all_eq_true.mpr fun b hb => (List.mem_replicate.mp hb).2
      rw [e]
      refine iteF ⟨_, rfl, b, _, rfl, .inr ⟨SqT.of ((s1.trans s9) _ _ hb), k _ (s1.trans s9)⟩⟩
end
end K1
set_option maxRecDepth 100000
set_option maxHeartbeats 1000000
namespace K1
open PySem L2
def spAsc : Sp := fun vs H Q _ => ∃ (a : Addr) (L : PL), vs = [.ref a] ∧ H a = some (.lst (refs L)) ∧ Ats H L ∧ Oks L ∧ L.length < 60 ∧
  ∀ (t : Addr) (L' : PL) (H' : Hp), Same H H' → H' t = some (.tup (refs L')) → H t = none → Asc L' → L'.length ≤ L.length → (∀ p ∈ L', p ∈ L) → (∀ p ∈ L, p.2 ∈ keys L') → Q (.ref t) H'
/-- pigeons -/
theorem nodup_le {α : Type} [BEq α] [LawfulBEq α] : ∀ (l D : List α), l.Nodup → (∀ x ∈ l, x ∈ D) → l.length ≤ D.length
  | [], _, _, _ => Nat.zero_le _
  | x :: r, D, nd, h => by
    obtain ⟨n1, n2⟩ := List.nodup_cons.mp nd
    have mx := h x (.head _)
    have z := nodup_le r (D.erase x) n2 fun y hy => (List.mem_erase_of_ne (fun e => n1 (by rw [← e]; exact hy))).mpr (h y (.tail _ hy))
    rw [List.length_erase_of_mem mx] at z
    have p := List.length_pos_of_mem mx
    rw [List.length_cons]
    omega
structure TxtA (mg : Str → Option Value) : Prop where
  enum : mg "enumerate" = none
  set : mg "set" = none
  sorted : mg "sorted" = none
  tuple : mg "tuple" = none
section
variable {P : Program} {w : World} {K : PySem.W.Frag} {mg : Str → Option Value} {base : Heap}
abbrev NAs : List Str := ["things", "places", "thing", "index", "place"]
theorem scAs : FnScope NAs ["things"] (defScope pAscendingPlaces) := ⟨rfl, rfl, rfl, by decide +kernel, rfl, by decide +kernel, by decide +kernel⟩
theorem ok_asc {f fL fP : Addr} {fd fdL fdP : FuncData} (F : Fun K "ascending_places" "ascending_places" pAscendingPlaces f fd) (GL : FnOk P w K mg base CX0 1 fL fdL ["thing"] (spIsList K)) (gL : mg "is_list" = some (.ref fL)) (kL : PySem.W.keepIn K (.ref fL) = true) (bL : Binds K fdL ["thing"] [])
    (GP : FnOk P w K mg base CX0 2 fP fdP ["thing"] spAsPlace) (gP : mg "as_place" = some (.ref fP)) (kP : PySem.W.keepIn K (.ref fP) = true) (bP : Binds K fdP ["thing"] []) (T : TxtA mg) :
    FnOk P w K mg base CX0 3 f fd ["things"] spAsc := by
  refine F.ok scAs (fun vs H Q E h => ?_) (fun cdv A outer s H vs Q E hr h => ?_)
  · obtain ⟨a, L, rfl, _⟩ := h
    rfl
  · obtain ⟨a, L, rfl, ha, hL, oL, hl, k⟩ := h
    refine ⟨_, pss_cons (ps_if (pt_not (pt_val (pe_call GL (hr.mono (by decide)) (by rfl) gL kL bL .nil pass0 (pa_cons (pv 0) pa_nil)))) pss_never pss_nil)
      (pss_cons (ps_setLc (i := 1) (own := [("thing", 2)]) (g := gName 2) (tt := tYes) rfl scAs.nd rfl rfl (sw_true rfl rfl rfl rfl) (pi_list (pv 0)) (blkOk_by (N := NAs) (sc := defScope pAscendingPlaces) (by decide +kernel)) (fun _ _ _ _ _ => pg_name (i := 2) scAs.nd rfl (Or.inl rfl)) (fun _ _ _ _ _ => pts_nil)
        (fun _ _ _ _ _ => pe_call GP hr (by rfl) gP kP bP .nil pass0 (pa_cons (pv 2) pa_nil)))
      (pss_cons (ps_for PassesOwn.never rfl (pi_enum (by rfl) T.enum (pa_cons (pv 1) pa_nil)) (pg_tup rfl (pgs_cons (pg_name (i := 3) scAs.nd rfl (Or.inl rfl)) (pgs_cons (pg_name (i := 4) scAs.nd rfl (Or.inl rfl)) pgs_nil)))
        (pss_one (ps_if (pt_cmpR op_isN (pv 4) pe_non (nomark _)) pss_never pss_nil)))
      (pss_one (ps_ret (pe_callTy call_tuple_of (by rfl) T.tuple (by decide +kernel) (pa_cons (pe_callB (cr_sortedU rfl) (by rfl) T.sorted (by decide +kernel) (pa_cons (pe_callTy (cr_setOfT rfl hr.units) (by rfl) T.set (by decide +kernel) (pa_cons (pv 1) pa_nil)) pa_nil)) pa_nil)))))), ?_⟩
    have tyL : ∀ {H'}, Same H H' → TyX K H' (.ref a) (.type "list") := fun s => .base (.lst (s _ _ ha))
    refine ⟨_, rfl, _, _, true, rfl, tyL (Same.refl H), kitAny_cons (kit_ty (r := true) (by decide +kernel)) (fun e => nomatch e) (fun _ => rfl), fun H1 s1 => ⟨_, rfl, iteF ?_⟩⟩
    · refine ⟨_, rfl, a, rfl, ⟨_, SqL.of (s1 _ _ ha)⟩, fun D nD => ?_⟩
      have n0 : H D = none := s1.free nD
      refine lc_list (xs := refs L) (fun i H9 => H9 D = some (.lst (refs (L.take i))) ∧ Same H1 H9) ⟨upd_same, same_new nD _⟩ (fun i H9 _ h9 => SqL.of ((s1.trans h9.2) _ _ ha)) ?_ ?_
      · rintro i x H9 hx ⟨h9, s9⟩
        obtain ⟨p, hp, rfl⟩ := refs_get hx
        have mem := List.mem_of_getElem? hp
        have li : i < L.length := (List.getElem?_eq_some_iff.mp hp).1
        refine ⟨rfl, _, rfl, p.1, p.2, rfl, (s1.trans s9) _ _ (hL p mem), fun n hn => ((oL p mem).2.2 n hn).1, Nat.le_trans (oL p mem).2.1 (by decide), fun H10 s10 => ⟨_, s10 _ _ h9, ?_, ?_, ?_⟩⟩
        · rw [refs_len, List.length_take]
          exact small1000 (by omega)
        · rw [upd_same, List.take_add_one, hp]
          simp only [Option.toList_some, refs_app]
          rfl
        · intro c o hc
          rw [upd_ne (ne_of_none hc nD)]
          exact s10 _ _ (s9 _ _ hc)
      · rintro H9 ⟨h9, s9⟩
        rw [refs_len, List.take_of_length_le (Nat.le_refl _)] at h9
        have sH := s1.trans s9
        refine ⟨_, rfl, D, refs L, rfl, SqL.of h9, ?_⟩
        refine for_it (walk_enum (xs := refs L)) (fun i σ H2 => ∃ v u, σ = [some (.ref a), some (.ref D), none, v, u] ∧ Same H9 H2) ⟨_, _, rfl, Same.refl _⟩ (fun i σ H2 _ ⟨v, u, _, s2⟩ => SqL.of (s2 _ _ h9)) ?_ ?_
        · rintro i x σ H2 H3 hi ⟨v, u, rfl, s2⟩ ⟨tp, x1, x2, rfl, nt, rfl, e1, e2⟩
          obtain ⟨p, hp, rfl⟩ := refs_get e2
          refine ⟨tp, _, rfl, SqT.of upd_same, rfl, _, _, rfl, _, _, rfl, rfl, ?_⟩
          refine ⟨_, rfl, rfl, _, rfl, iteF ?_⟩
          exact ⟨_, _, rfl, s2.trans (same_new nt _)⟩
        · rintro σ H2 ⟨v, u, rfl, s2⟩
          have sA := sH.trans s2
          have h2 := s2 _ _ h9
          refine ⟨_, rfl, D, L, rfl, SqL.of h2, fun p hp => SqT.of (sA _ _ (hL p hp)), by omega, fun sa Ls nsa sub cov => ?_⟩
          have sB := sA.trans (same_new nsa (SetTO P w sa Ls))
          refine ⟨sa, Ls, rk, rfl, upd_same, fun p hp => SqT.of (sB _ _ (hL p (sub p hp))), fun p hp => (oL p (sub p hp)).1, fun p hp q hq => (oL p (sub p hp)).lt (oL q (sub q hq)), fun L' d pm nd few pw nd' => ?_⟩
          have sC := sB.trans (same_new nd' (.lst (refs L')))
          refine ⟨d, refs L', rfl, .inl ⟨SqL.of upd_same, fun t nt => ?_⟩⟩
          have oS : Oks L' := fun p hp => oL p (sub p (pm.mem_iff.mp hp))
          refine k t L' _ (sC.trans (same_new nt _)) upd_same (sC.free nt) ?_ ?_ (fun p hp => sub p (pm.mem_iff.mp hp)) fun p hp => (pm.map (·.2)).mem_iff.mpr (cov p hp)
          rotate_left
          · have z := nodup_le (L'.map (·.2)) (L.map (·.2)) nd fun x hx => by
              obtain ⟨p, hp, rfl⟩ := List.mem_map.mp hx
              exact List.mem_map.mpr ⟨p, sub p (pm.mem_iff.mp hp), rfl⟩
            rw [List.length_map, List.length_map] at z
            exact z
          have nk := List.pairwise_map.mp nd
          refine (List.Pairwise.and pw nk).imp_of_mem fun {p q} hp hq z => ?_
          rcases Int.lt_or_eq_of_le z.1 with y | y
          · exact y
          · exact absurd ((oS p hp).inj (oS q hq) y) z.2
end
end K1
set_option maxRecDepth 100000
set_option maxHeartbeats 1000000
namespace K1
open PySem L2
/-- the Lot with these places stands -/
def LotAt (C : Addr) (H : Hp) (a : Addr) (L : PL) : Prop := ∃ (dx t kn : Addr) (kvs : List (List Key × V)), H a = some (.ins C dx [("places", .ref t), ("_known", .ref kn)]) ∧ H t = some (.tup (refs L)) ∧ H kn = some (.dT kvs) ∧ Ats H L ∧ Oks L ∧ Asc L ∧ L.length < 60 ∧
  ∀ k : List Int, (valV kvs (k.map Sum.inl)).isSome = decide (k ∈ keys L)
theorem LotAt.mono {C : Addr} {H H' : Hp} {a : Addr} {L : PL} (h : LotAt C H a L) (s : Same H H') : LotAt C H' a L := by
  obtain ⟨dx, t, kn, kvs, h1, h2, h3, h4, r⟩ := h
  exact ⟨dx, t, kn, kvs, s _ _ h1, s _ _ h2, s _ _ h3, h4.mono s, r⟩
theorem LotAt.oks {C : Addr} {H : Hp} {a : Addr} {L : PL} (h : LotAt C H a L) : Oks L := by
  obtain ⟨_, _, _, _, _, _, _, _, r, _⟩ := h
  exact r
theorem LotAt.asc {C : Addr} {H : Hp} {a : Addr} {L : PL} (h : LotAt C H a L) : Asc L := by
  obtain ⟨_, _, _, _, _, _, _, _, _, r, _⟩ := h
  exact r
theorem LotAt.ats {C : Addr} {H : Hp} {a : Addr} {L : PL} (h : LotAt C H a L) : Ats H L := by
  obtain ⟨_, _, _, _, _, _, _, r, _⟩ := h
  exact r
theorem LotAt.few {C : Addr} {H : Hp} {a : Addr} {L : PL} (h : LotAt C H a L) : L.length < 60 := by
  obtain ⟨_, _, _, _, _, _, _, _, _, _, r, _⟩ := h
  exact r
theorem LotAt.ins {C : Addr} {H : Hp} {a : Addr} {L : PL} (h : LotAt C H a L) : Ins H a C := by
  obtain ⟨dx, t, kn, kvs, h1, _⟩ := h
  exact ⟨dx, _, h1⟩
/-- what the class Lot is -/
structure LotC (K : PySem.W.Frag) (mg : Str → Option Value) (C : Addr) : Prop where
  glob : mg "Lot" = some (.ref C)
  cls : Cls K C
  np : NoAttr K C "places"
  nk : NoAttr K C "_known"
  isC : C8.InsC K C
  sf : PySem.W.selfFirst K C = true
  nf : PySem.W.notFirst K C (.ref C) = true
def spInit (C : Addr) : Sp := fun vs H Q _ => ∃ (x a dx : Addr) (L : PL), vs = [.ref x, .ref a] ∧ H x = some (.ins C dx []) ∧ H a = some (.lst (refs L)) ∧ Ats H L ∧ Oks L ∧ L.length < 60 ∧
  ∀ (L' : PL) (H' : Hp), (∀ b o, b ≠ x → H b = some o → H' b = some o) → LotAt C H' x L' → L'.length ≤ L.length → (∀ p ∈ L', p ∈ L) → (∀ p ∈ L, p.2 ∈ keys L') → Q .non H'
def keyT (p : Addr × List Int) : List Key := p.2.map Sum.inl
theorem key_kV (ns : List Int) : (ns.map (Sum.inl : Int → Key)).map kV = ns.map V.int := by
  rw [List.map_map]
  rfl
theorem inl_inj {ns ms : List Int} (h : ns.map (Sum.inl : Int → Key) = ms.map Sum.inl) : ns = ms := by
  induction ns generalizing ms with
  | nil => cases ms with
    | nil => rfl
    | cons _ _ => cases h
  | cons n r ih => cases ms with
    | nil => cases h
    | cons m q =>
      rw [List.map_cons, List.map_cons] at h
      injection h with h1 h2
      injection h1 with h3
      rw [h3, ih h2]
section
variable {P : Program} {w : World} {K : PySem.W.Frag} {mg : Str → Option Value} {base : Heap} {C : Addr}
abbrev NIn : List Str := ["self", "places", "place"]
theorem scIn : FnScope NIn ["self", "places"] (defScope cLotInit) := ⟨rfl, rfl, rfl, by decide +kernel, rfl, by decide +kernel, by decide +kernel⟩
theorem ok_init {f fA : Addr} {fd fdA : FuncData} (F : Fun K "__init__" "Lot.__init__" cLotInit f fd) (c : LotC K mg C) (GA : FnOk P w K mg base CX0 3 fA fdA ["things"] spAsc) (gA : mg "ascending_places" = some (.ref fA)) (kA : PySem.W.keepIn K (.ref fA) = true) (bA : Binds K fdA ["things"] []) :
    FnOk P w K mg base CX0 4 f fd ["self", "places"] (spInit C) := by
  refine F.ok scIn (fun vs H Q E h => ?_) (fun cdv A outer s H vs Q E hr h => ?_)
  · obtain ⟨x, a, dx, L, rfl, _⟩ := h
    rfl
  · obtain ⟨x, a, dx, L, rfl, hx, ha, hL, oL, hl, k⟩ := h
    refine ⟨_, pss_cons (ps_fld (pv 0) (pe_call GA hr (by rfl) gA kA bA .nil pass0 (pa_cons (pv 1) pa_nil)) rfl)
      (pss_one (ps_fld (pv 0) (pe_dcT (own := [("place", 2)]) (g := gName 2) (tt := tYes) rfl hr.units0 scIn.nd (pi_tup (pe_fld (pv 0) rfl)) (blkOk_by (N := NIn) (sc := defScope cLotInit) (by decide +kernel)) (fun _ _ _ _ _ => pg_name (i := 2) scIn.nd rfl (Or.inl rfl)) (fun _ _ _ _ _ => pts_nil)
        (fun _ _ _ _ _ => pv 2) (fun _ _ _ _ _ => pe_bl)) rfl)), ?_⟩
    refine ⟨_, rfl, a, L, rfl, ha, hL, oL, hl, fun t L' H1 s1 ht nt asc few0 sub cov => ?_⟩
    refine ⟨_, rfl, x, C, dx, [], rfl, s1 _ _ hx, c.cls, c.np, by decide, ?_⟩
    have nxt : t ≠ x := fun e => by rw [e, hx] at nt; cases nt
    have b1 : But x H (upd H1 x (.ins C dx (putF "places" (.ref t) []))) := fun b o n hb => by rw [upd_ne n]; exact s1 _ _ hb
    have t1 : upd H1 x (.ins C dx (putF "places" (.ref t) [])) t = some (.tup (refs L')) := by rw [upd_ne nxt]; exact ht
    generalize hH2 : upd H1 x (.ins C dx (putF "places" (.ref t) [])) = H2 at b1 t1 ⊢
    have x2 : H2 x = some (.ins C dx (putF "places" (.ref t) [])) := by rw [← hH2]; exact upd_same
    have few : L'.length < 60 := Nat.lt_of_le_of_lt few0 hl
    refine ⟨_, rfl, x, C, dx, _, _, rfl, x2, c.cls, c.np, rfl, t, rfl, ⟨_, SqT.of t1⟩, fun D nD => ?_⟩
    have nxD : D ≠ x := fun e => by rw [e, x2] at nD; cases nD
    refine dcT_tup (xs := refs L') (fun i H9 => ∃ kvs, H9 D = some (.dT kvs) ∧ kvs.length ≤ i ∧ (∀ k : List Int, (valV kvs (k.map Sum.inl)).isSome = decide (k ∈ keys (L'.take i))) ∧ ∀ b o, b ≠ D → H2 b = some o → H9 b = some o)
      ⟨[], upd_same, Nat.zero_le _, fun k => by simp [keys, valV], fun b o n hb => by rw [upd_ne n]; exact hb⟩ (fun i H9 _ ⟨kvs, _, _, _, q⟩ => SqT.of (q t _ (fun e => by rw [e, nD] at t1; cases t1) t1)) ?_ ?_
    · rintro i y H9 hy ⟨kvs, h9, kl, kk, q⟩
      obtain ⟨p, hp, rfl⟩ := refs_get hy
      have mem := List.mem_of_getElem? hp
      have li : i < L'.length := (List.getElem?_eq_some_iff.mp hp).1
      have hpL := sub p mem
      have pa : H9 p.1 = some (.tup (p.2.map V.int)) := by
        have z := hL p hpL
        refine q p.1 _ (fun e => ?_) (b1 p.1 _ (fun e => by rw [e, hx] at z; cases z) z)
        have w := b1 p.1 _ (fun e => by rw [e, hx] at z; cases z) z
        rw [e, nD] at w
        cases w
      refine ⟨rfl, _, rfl, ?_⟩
      refine ⟨kvs, keyT p, p.1, rfl, by rw [pa]; unfold keyT; rw [key_kV], h9, small1000 (by omega), _, upd_same, ?_, fun k => ?_, fun b o n hb => by rw [upd_ne n]; exact q b o n hb⟩
      · exact Nat.le_trans (length_putK kvs _ _) (Nat.succ_le_succ kl)
      · rw [valV_put, List.take_add_one, hp]
        have e : keys (L'.take i ++ (some p).toList) = keys (L'.take i) ++ [p.2] := by
          unfold keys
          rw [List.map_append]
          rfl
        rw [e]
        by_cases z : k = p.2
        · rw [if_pos (by rw [z]; rfl)]
          simp [z]
        · have hne : ¬ (k.map (Sum.inl : Int → Key)) = keyT p := fun w => z (inl_inj w)
          rw [if_neg hne, kk k]
          simp [z]
    · rintro H9 ⟨kvs, h9, _, kk, q⟩
      rw [refs_len, List.take_of_length_le (Nat.le_refl _)] at kk
      have x9 := q x _ (Ne.symm nxD) x2
      refine ⟨_, rfl, x, C, dx, _, rfl, x9, c.cls, c.nk, (by show 1 < 1000; decide), ?_⟩
      have q2 : ∀ b o, b ≠ x → b ≠ D → H2 b = some o → upd H9 x (.ins C dx (putF "_known" (.ref D) (putF "places" (.ref t) []))) b = some o := fun b o n n' hb => by
        rw [upd_ne n]
        exact q b o n' hb
      have nD0 : ∀ b o, b ≠ x → H b = some o → b ≠ D := fun b o n hb e => by
        have z := b1 b o n hb
        rw [e, nD] at z
        cases z
      refine k L' _ (fun b o n hb => q2 b o n (nD0 b o n hb) (b1 b o n hb)) ⟨dx, t, D, kvs, upd_same, q2 t _ nxt (fun e => by rw [e, nD] at t1; cases t1) t1, by rw [upd_ne nxD]; exact h9, ?_, fun p hp => oL p (sub p hp), asc, few, kk⟩ few0 sub cov
      intro p hp
      have z := hL p (sub p hp)
      have nx : p.1 ≠ x := fun e => by rw [e, hx] at z; cases z
      exact q2 p.1 _ nx (nD0 _ _ nx z) (b1 _ _ nx z)
end
end K1
set_option maxRecDepth 100000
set_option maxHeartbeats 1000000
namespace K1
open PySem L2
/-! ### places as data -/
def dT (ns : List Int) : PyData := .tuple (ns.map .int)
theorem dp_ints {K : PySem.W.Frag} {H : Hp} : ∀ ns : List Int, DpAll K H (ns.map V.int) (ns.map PyData.int)
  | [] => .nil
  | n :: r => .cons (.int n) (dp_ints r)
theorem dp_T {K : PySem.W.Frag} {H : Hp} {b : Addr} {ns : List Int} (h : H b = some (.tup (ns.map V.int))) : Dp K H (.ref b) (dT ns) := .tup (SqT.of h) (dp_ints ns)
theorem dp_refs {K : PySem.W.Frag} {H : Hp} : ∀ {L : PL}, Ats H L → DpAll K H (refs L) ((keys L).map dT)
  | [], _ => .nil
  | _ :: _, h => .cons (dp_T (h _ (.head _))) (dp_refs fun q hq => h q (.tail _ hq))
theorem okd_int (n : Int) : Okd (.int n) := ⟨by simp only [PyData.canLay0], by simp only [PyData.depth]; omega⟩
theorem okd_T (ns : List Int) : PyData.canLay0 (dT ns) = true ∧ PyData.depth (dT ns) ≤ 3 := by
  have z : ∀ ns : List Int, PyData.canLayAll0 (ns.map PyData.int) = true ∧ PyData.depthAll (ns.map PyData.int) ≤ 2 := by
    intro ns
    induction ns with
    | nil => exact ⟨by simp only [List.map_nil, PyData.canLayAll0], by simp only [List.map_nil, PyData.depthAll]; omega⟩
    | cons n r ih => exact ⟨by simp only [List.map_cons, PyData.canLayAll0, PyData.canLay0, ih.1, Bool.and_true], by simp only [List.map_cons, PyData.depthAll, PyData.depth]; have := ih.2; omega⟩
  obtain ⟨z1, z2⟩ := z ns
  unfold dT
  exact ⟨by simp only [PyData.canLay0, z1], by simp only [PyData.depth]; omega⟩
theorem okd_dT (ns : List Int) : Okd (dT ns) := ⟨(okd_T ns).1, Nat.le_trans (okd_T ns).2 (by decide)⟩
theorem sh_dT (ns : List Int) : SeqAt.shaped (dT ns) = true := by
  unfold SeqAt.shaped
  rw [(okd_T ns).1, decide_eq_true (Nat.le_trans (okd_T ns).2 (by decide))]
  rfl
theorem sh_tup {ds : List PyData} (h : ∀ d ∈ ds, Okd d) : SeqAt.shaped (.tuple ds) = true := by
  obtain ⟨h1, h2⟩ := okd_all h
  unfold SeqAt.shaped
  rw [Bool.and_eq_true]
  refine ⟨by simp only [PyData.canLay0, h1], decide_eq_true ?_⟩
  simp only [PyData.depth]
  omega
theorem okd_keys (ks : List (List Int)) : ∀ d ∈ ks.map dT, Okd d := fun d hd => by
  obtain ⟨k, _, rfl⟩ := List.mem_map.mp hd
  exact okd_dT k
theorem eqv_ints : ∀ ns ms : List Int, PyData.eqvAll (ns.map PyData.int) (ms.map PyData.int) = decide (ns = ms)
  | [], [] => by simp [PyData.eqvAll]
  | [], _ :: _ => by simp [PyData.eqvAll]
  | _ :: _, [] => by simp [PyData.eqvAll]
  | n :: r, m :: q => by
    have ih := eqv_ints r q
    simp only [List.map_cons, PyData.eqvAll, PyData.eqv, ih]
    by_cases e : n = m <;> by_cases e2 : r = q <;> simp [e, e2]
theorem eqv_T (ns ms : List Int) : PyData.eqv (dT ns) (dT ms) = decide (ns = ms) := by
  unfold dT
  simp only [PyData.eqv]
  exact eqv_ints ns ms
theorem eqv_keys : ∀ ks ls : List (List Int), PyData.eqvAll (ks.map dT) (ls.map dT) = decide (ks = ls)
  | [], [] => by simp [PyData.eqvAll]
  | [], _ :: _ => by simp [PyData.eqvAll]
  | _ :: _, [] => by simp [PyData.eqvAll]
  | n :: r, m :: q => by
    have ih := eqv_keys r q
    simp only [List.map_cons, PyData.eqvAll, eqv_T, ih]
    by_cases e : n = m <;> by_cases e2 : r = q <;> simp [e, e2]
theorem any_keys (ks : List (List Int)) (k : List Int) : ((ks.map dT).any fun z => PyData.eqv z (dT k)) = decide (k ∈ ks) := by
  induction ks with
  | nil => simp
  | cons a r ih =>
    rw [List.map_cons, List.any_cons, ih, eqv_T]
    by_cases e : a = k
    · simp [e]
    · have e' : ¬ k = a := fun z => e z.symm
      simp [e, e']
/-! ### promises -/
def spHas (C : Addr) : Sp := fun vs H Q _ => ∃ (a b : Addr) (L : PL) (ns : List Int), vs = [.ref a, .ref b] ∧ LotAt C H a L ∧ H b = some (.tup (ns.map V.int)) ∧ Ok ns ∧ ∀ H', Same H H' → Q (.bl (decide (ns ∈ keys L))) H'
def spLen (C : Addr) : Sp := fun vs H Q _ => ∃ (a : Addr) (L : PL), vs = [.ref a] ∧ LotAt C H a L ∧ Q (.int (L.length : Nat)) H
def spCmp (C : Addr) (g : PL → PL → Bool) : Sp := fun vs H Q _ => ∃ (a b : Addr) (L M : PL), vs = [.ref a, .ref b] ∧ LotAt C H a L ∧ LotAt C H b M ∧ ∀ H', Same H H' → Q (.bl (g L M)) H'
def within (L M : PL) : Bool := L.all fun p => decide (p.2 ∈ keys M)
def spBin (C : Addr) (g : Bool → Bool → Bool) : Sp := fun vs H Q _ => ∃ (a b : Addr) (L M : PL), vs = [.ref a, .ref b] ∧ LotAt C H a L ∧ LotAt C H b M ∧ L.length + M.length < 60 ∧
  ∀ (c : Addr) (N : PL) (H' : Hp), Same H H' → LotAt C H' c N → N.length ≤ L.length + M.length → (∀ k, k ∈ keys N ↔ g (decide (k ∈ keys L)) (decide (k ∈ keys M)) = true) → Q (.ref c) H'
theorem make_to {C p : Addr} {R : PL} {H1 : Hp} {W : Addr → Hp → Prop} {E : XK} (hp : H1 p = some (.lst (refs R))) (hR : Ats H1 R) (oR : Oks R) (few : R.length < 60)
    (k : ∀ (x : Addr) (L' : PL) (H' : Hp), Same H1 H' → LotAt C H' x L' → L'.length ≤ R.length → (∀ q ∈ L', q ∈ R) → (∀ q ∈ R, q.2 ∈ keys L') → W x H') :
    ∀ x dx, H1 x = none → H1 dx = none → dx ≠ x → spInit C (.ref x :: ([.ref p] ++ [])) (upd (upd H1 dx (.own x)) x (.ins C dx [])) (fun v H2 => v = .non ∧ W x H2) E := by
  intro x dx nx nd ne
  have s : Same H1 (upd (upd H1 dx (.own x)) x (.ins C dx [])) := fun b o hb => by rw [upd_ne (ne_of_none hb nx), upd_ne (ne_of_none hb nd)]; exact hb
  exact ⟨x, p, dx, R, rfl, upd_same, s _ _ hp, hR.mono s, oR, few, fun L' H' b la l s1 c1 => ⟨rfl, k x L' H' (Same.made nx nd fun z o hz ne' => b z o ne' hz) la l s1 c1⟩⟩
theorem mem_keys {L : PL} {k : List Int} : k ∈ keys L ↔ ∃ p ∈ L, p.2 = k := List.mem_map
section
variable {P : Program} {w : World} {K : PySem.W.Frag} {mg : Str → Option Value} {base : Heap} {C : Addr}
theorem scHa : FnScope ["self", "thing"] ["self", "thing"] (defScope cLotContains) := ⟨rfl, rfl, rfl, by decide +kernel, rfl, by decide +kernel, by decide +kernel⟩
theorem scLe : FnScope ["self"] ["self"] (defScope cLotLen) := ⟨rfl, rfl, rfl, by decide +kernel, rfl, by decide +kernel, by decide +kernel⟩
theorem scEq : FnScope ["self", "other"] ["self", "other"] (defScope cLotEq) := ⟨rfl, rfl, rfl, by decide +kernel, rfl, by decide +kernel, by decide +kernel⟩
theorem ok_has {f fP : Addr} {fd fdP : FuncData} (F : Fun K "__contains__" "Lot.__contains__" cLotContains f fd) (c : LotC K mg C) (GP : FnOk P w K mg base CX0 2 fP fdP ["thing"] spAsPlace) (gP : mg "as_place" = some (.ref fP)) (kP : PySem.W.keepIn K (.ref fP) = true) (bP : Binds K fdP ["thing"] []) :
    FnOk P w K mg base CX0 3 f fd ["self", "thing"] (spHas C) := by
  refine F.ok scHa (fun vs H Q E h => ?_) (fun cdv A outer s H vs Q E hr h => ?_)
  · obtain ⟨a, b, L, ns, rfl, _⟩ := h
    rfl
  · obtain ⟨a, b, L, ns, rfl, la, hb, on, k⟩ := h
    refine ⟨_, pss_one (ps_ret (pe_cmp (pc_din (Nat.lt_of_le_of_lt (Nat.add_le_add_left (by decide) _) hr.units) (pe_call GP hr (by rfl) gP kP bP .nil pass0 (pa_cons (pv 1) pa_nil)) (pe_fld (pv 0) rfl)))), ?_⟩
    refine ⟨_, rfl, b, ns, rfl, hb, fun n hn => (on.2.2 n hn).1, Nat.le_trans on.2.1 (by decide), fun H1 s1 => ?_⟩
    obtain ⟨dx, t, kn, kvs, h1, h2, h3, h4, _, _, _, kk⟩ := la.mono s1
    refine ⟨_, rfl, a, C, dx, _, _, rfl, h1, c.cls, c.nk, rfl, kn, _, rfl, DGet.t (k := ns.map Sum.inl) h3 (by rw [key_kV]; exact s1 _ _ hb), ?_⟩
    rw [kk ns]
    exact k H1 s1
theorem ok_len {f : Addr} {fd : FuncData} (F : Fun K "__len__" "Lot.__len__" cLotLen f fd) (c : LotC K mg C) (hl : mg "len" = none) : FnOk P w K mg base CX0 1 f fd ["self"] (spLen C) := by
  refine F.ok scLe (fun vs H Q E h => ?_) (fun cdv A outer s H vs Q E hr h => ?_)
  · obtain ⟨a, L, rfl, _⟩ := h
    rfl
  · obtain ⟨a, L, rfl, la, k⟩ := h
    refine ⟨_, pss_one (ps_ret (pe_callB call_len_seq (by rfl) hl PySem.boot_len (pa_cons (pe_fld (pv 0) rfl) pa_nil))), ?_⟩
    obtain ⟨dx, t, kn, kvs, h1, h2, _⟩ := la
    refine ⟨_, rfl, a, C, dx, _, _, rfl, h1, c.cls, c.np, rfl, t, refs L, rfl, .inr (SqT.of h2), ?_⟩
    rw [refs_len]
    exact k
theorem ok_eq {f : Addr} {fd : FuncData} (F : Fun K "__eq__" "Lot.__eq__" cLotEq f fd) (c : LotC K mg C) (hi : mg "isinstance" = none) : FnOk P w K mg base CX0 1 f fd ["self", "other"] (spCmp C fun L M => decide (keys L = keys M)) := by
  refine F.ok scEq (fun vs H Q E h => ?_) (fun cdv A outer s H vs Q E hr h => ?_)
  · obtain ⟨a, b, L, M, rfl, _⟩ := h
    rfl
  · obtain ⟨a, b, L, M, rfl, la, lb, k⟩ := h
    refine ⟨_, pss_one (ps_ret (pe_and (pe_callB (C8.call_isC c.isC) (by rfl) hi (by decide +kernel) (pa_cons (pv 1) (pa_cons (pe_glob (v := .ref C) (by rfl) c.glob rfl) pa_nil))) (pe_one (pe_cmpR (op_eqD hr.units) (pe_fld (pv 0) rfl) (pe_fld (pv 1) rfl) (nomark _))))), ?_⟩
    obtain ⟨dx, t, kn, kvs, h1, h2, h3, h4, _⟩ := la
    obtain ⟨dx', t', kn', kvs', g1, g2, g3, g4, _⟩ := lb
    refine ⟨_, rfl, b, dx', _, rfl, g1, _, rfl, iteT ?_⟩
    refine ⟨_, rfl, a, C, dx, _, _, rfl, h1, c.cls, c.np, rfl, _, rfl, b, C, dx', _, _, rfl, g1, c.cls, c.np, rfl, .tuple ((keys L).map dT), .tuple ((keys M).map dT), .tup (SqT.of h2) (dp_refs h4), .tup (SqT.of g2) (dp_refs g4), sh_tup (okd_keys _), sh_tup (okd_keys _), ?_⟩
    have e : PyData.eqv (.tuple ((keys L).map dT)) (.tuple ((keys M).map dT)) = decide (keys L = keys M) := by
      simp only [PyData.eqv]
      exact eqv_keys _ _
    rw [e]
    exact k H (Same.refl H)
abbrev NLi : List Str := ["self", "other", "place"]
theorem scLi : FnScope NLi ["self", "other"] (defScope cLotLiesIn) := ⟨rfl, rfl, rfl, by decide +kernel, rfl, by decide +kernel, by decide +kernel⟩
theorem ok_lies {f g : Addr} {fd fdH : FuncData} (F : Fun K "_lies_in" "Lot._lies_in" cLotLiesIn f fd) (c : LotC K mg C) (M : Meth K C "__contains__" g) (GH : FnOk P w K mg base CX0 3 g fdH ["self", "thing"] (spHas C)) (bH : Binds K fdH ["self", "thing"] []) (ha : mg "all" = none) :
    FnOk P w K mg base CX0 4 f fd ["self", "other"] (spCmp C within) := by
  refine F.ok scLi (fun vs H Q E h => ?_) (fun cdv A outer s H vs Q E hr h => ?_)
  · obtain ⟨a, b, L, M, rfl, _⟩ := h
    rfl
  · obtain ⟨a, b, L, N, rfl, la, lb, k⟩ := h
    refine ⟨_, pss_one (ps_ret (pe_callB (cr_all rfl) (by rfl) ha (by decide +kernel) (pa_cons (pe_lc (own := [("place", 2)]) (g := gName 2) (tt := tYes) rfl scLi.nd (pi_tup (pe_fld (pv 0) rfl)) (blkOk_by (N := NLi) (sc := defScope cLotLiesIn) (by decide +kernel))
      (fun _ _ _ _ _ => pg_name (i := 2) scLi.nd rfl (Or.inl rfl)) (fun _ _ _ _ _ => pts_nil) (fun _ _ _ _ _ => pe_cmpR (op_has M GH hr bH pass0) (pv 2) (pv 1) rfl)) pa_nil))), ?_⟩
    obtain ⟨dx, t, kn, kvs, h1, h2, h3, h4, oL, _, few, _⟩ := id la
    refine ⟨_, rfl, a, C, dx, _, _, rfl, h1, c.cls, c.np, rfl, t, rfl, ⟨_, SqT.of h2⟩, fun D nD => ?_⟩
    refine lc_tup (xs := refs L) (fun i H9 => H9 D = some (.lst (((L.take i).map fun p => decide (p.2 ∈ keys N)).map V.bl)) ∧ Same H H9) ⟨upd_same, same_new nD _⟩ (fun i H9 _ h9 => SqT.of (h9.2 _ _ h2)) ?_ ?_
    · rintro i x H9 hx ⟨h9, s9⟩
      obtain ⟨p, hp, rfl⟩ := refs_get hx
      have mem := List.mem_of_getElem? hp
      have li : i < L.length := (List.getElem?_eq_some_iff.mp hp).1
      refine ⟨rfl, _, rfl, _, rfl, b, rfl, (lb.mono s9).ins, b, p.1, N, p.2, rfl, lb.mono s9, s9 _ _ (h4 p mem), oL p mem, fun H10 s10 => ⟨_, rfl, _, s10 _ _ h9, ?_, ?_, ?_⟩⟩
      · rw [List.length_map, List.length_map, List.length_take]
        exact small1000 (by omega)
      · rw [upd_same, List.take_add_one, hp]
        simp only [Option.toList_some, List.map_append, List.map_cons, List.map_nil]
      · intro z o hz
        rw [upd_ne (ne_of_none hz nD)]
        exact s10 _ _ (s9 _ _ hz)
    · rintro H9 ⟨h9, s9⟩
      rw [refs_len, List.take_of_length_le (Nat.le_refl _)] at h9
      refine ⟨D, _, rfl, SqL.of h9, ?_⟩
      have e : (L.map fun p => decide (p.2 ∈ keys N)).all id = within L N := by
        unfold within
        rw [List.all_map]
        rfl
      rw [e]
      exact k H9 s9
end
end K1
set_option maxRecDepth 100000
set_option maxHeartbeats 1000000
namespace K1
open PySem L2
/-- what the methods of Lot call -/
structure LotF (P : Program) (w : World) (K : PySem.W.Frag) (mg : Str → Option Value) (base : Heap) (C : Addr) : Prop where
  c : LotC K mg C
  isi : mg "isinstance" = none
  len : mg "len" = none
  lies : ∃ g fd, Meth K C "_lies_in" g ∧ Binds K fd ["self", "other"] [] ∧ FnOk P w K mg base CX0 4 g fd ["self", "other"] (spCmp C within)
  lenF : ∃ g fd, Meth K C "__len__" g ∧ Binds K fd ["self"] [] ∧ FnOk P w K mg base CX0 1 g fd ["self"] (spLen C)
  has : ∃ g fd, Meth K C "__contains__" g ∧ Binds K fd ["self", "thing"] [] ∧ FnOk P w K mg base CX0 3 g fd ["self", "thing"] (spHas C)
  make : ∃ g fd, Mk K C g ∧ Binds K fd ["self", "places"] [] ∧ FnOk P w K mg base CX0 4 g fd ["self", "places"] (spInit C)
def lessT (L M : PL) : Bool := within L M && decide (((L.length : Nat) : Int) < (M.length : Nat))
section
variable {P : Program} {w : World} {K : PySem.W.Frag} {mg : Str → Option Value} {base : Heap} {C : Addr}
theorem scLe' : FnScope ["self", "other"] ["self", "other"] (defScope cLotLe) := ⟨rfl, rfl, rfl, by decide +kernel, rfl, by decide +kernel, by decide +kernel⟩
theorem ok_Le {f : Addr} {fd : FuncData} (F : Fun K "__le__" "Lot.__le__" cLotLe f fd) (T : LotF P w K mg base C) : FnOk P w K mg base CX0 6 f fd ["self", "other"] (spCmp C (within)) := by
  obtain ⟨gL, fdL, ML, bL, GL⟩ := T.lies
  obtain ⟨gN, fdN, MN, bN, GN⟩ := T.lenF
  refine F.ok scLe' (fun vs H Q E h => ?_) (fun cdv A outer s H vs Q E hr h => ?_)
  · obtain ⟨a, b, L, M, rfl, _⟩ := h
    rfl
  · obtain ⟨a, b, L, M, rfl, la, lb, k⟩ := h
    refine ⟨_, pss_cons (ps_if (pt_not (pt_val (pe_callB (C8.call_isC T.c.isC) (by rfl) T.isi (by decide +kernel) (pa_cons (pv 1) (pa_cons (pe_glob (v := .ref C) (by rfl) T.c.glob rfl) pa_nil))))) pss_never pss_nil)
      (pss_one (ps_ret (pe_meth (pv 0) T.c.cls ML GL (hr.mono (by decide)) bL .nil pass0 (pa_cons (pv 1) pa_nil)))), ?_⟩
    obtain ⟨dxa, _, _, _, ha, _⟩ := id la
    obtain ⟨dxb, _, _, _, hb, _⟩ := id lb
    refine ⟨_, rfl, b, dxb, _, rfl, hb, _, rfl, iteF ?_⟩
    refine ⟨_, rfl, a, dxa, _, rfl, ha, rfl, _, rfl, a, b, L, M, rfl, la, lb, fun H1 s1 => ?_⟩
    exact k H1 s1
theorem scGe' : FnScope ["self", "other"] ["self", "other"] (defScope cLotGe) := ⟨rfl, rfl, rfl, by decide +kernel, rfl, by decide +kernel, by decide +kernel⟩
theorem ok_Ge {f : Addr} {fd : FuncData} (F : Fun K "__ge__" "Lot.__ge__" cLotGe f fd) (T : LotF P w K mg base C) : FnOk P w K mg base CX0 6 f fd ["self", "other"] (spCmp C (fun L M => within M L)) := by
  obtain ⟨gL, fdL, ML, bL, GL⟩ := T.lies
  obtain ⟨gN, fdN, MN, bN, GN⟩ := T.lenF
  refine F.ok scGe' (fun vs H Q E h => ?_) (fun cdv A outer s H vs Q E hr h => ?_)
  · obtain ⟨a, b, L, M, rfl, _⟩ := h
    rfl
  · obtain ⟨a, b, L, M, rfl, la, lb, k⟩ := h
    refine ⟨_, pss_cons (ps_if (pt_not (pt_val (pe_callB (C8.call_isC T.c.isC) (by rfl) T.isi (by decide +kernel) (pa_cons (pv 1) (pa_cons (pe_glob (v := .ref C) (by rfl) T.c.glob rfl) pa_nil))))) pss_never pss_nil)
      (pss_one (ps_ret (pe_meth (pv 1) T.c.cls ML GL (hr.mono (by decide)) bL .nil pass0 (pa_cons (pv 0) pa_nil)))), ?_⟩
    obtain ⟨dxa, _, _, _, ha, _⟩ := id la
    obtain ⟨dxb, _, _, _, hb, _⟩ := id lb
    refine ⟨_, rfl, b, dxb, _, rfl, hb, _, rfl, iteF ?_⟩
    refine ⟨_, rfl, b, dxb, _, rfl, hb, rfl, _, rfl, b, a, M, L, rfl, lb, la, fun H1 s1 => ?_⟩
    exact k H1 s1
theorem scLt' : FnScope ["self", "other"] ["self", "other"] (defScope cLotLt) := ⟨rfl, rfl, rfl, by decide +kernel, rfl, by decide +kernel, by decide +kernel⟩
theorem ok_Lt {f : Addr} {fd : FuncData} (F : Fun K "__lt__" "Lot.__lt__" cLotLt f fd) (T : LotF P w K mg base C) : FnOk P w K mg base CX0 6 f fd ["self", "other"] (spCmp C (lessT)) := by
  obtain ⟨gL, fdL, ML, bL, GL⟩ := T.lies
  obtain ⟨gN, fdN, MN, bN, GN⟩ := T.lenF
  refine F.ok scLt' (fun vs H Q E h => ?_) (fun cdv A outer s H vs Q E hr h => ?_)
  · obtain ⟨a, b, L, M, rfl, _⟩ := h
    rfl
  · obtain ⟨a, b, L, M, rfl, la, lb, k⟩ := h
    refine ⟨_, pss_cons (ps_if (pt_not (pt_val (pe_callB (C8.call_isC T.c.isC) (by rfl) T.isi (by decide +kernel) (pa_cons (pv 1) (pa_cons (pe_glob (v := .ref C) (by rfl) T.c.glob rfl) pa_nil))))) pss_never pss_nil)
      (pss_one (ps_ret (pe_and (pe_meth (pv 0) T.c.cls ML GL (hr.mono (by decide)) bL .nil pass0 (pa_cons (pv 1) pa_nil)) (pe_one (pe_cmpR op_lt (pe_callB (call_lenOwn MN GN (hr.mono (by decide)) bN pass0) (by rfl) T.len PySem.boot_len (pa_cons (pv 0) pa_nil)) (pe_callB (call_lenOwn MN GN (hr.mono (by decide)) bN pass0) (by rfl) T.len PySem.boot_len (pa_cons (pv 1) pa_nil)) (nomark _)))))), ?_⟩
    obtain ⟨dxa, _, _, _, ha, _⟩ := id la
    obtain ⟨dxb, _, _, _, hb, _⟩ := id lb
    refine ⟨_, rfl, b, dxb, _, rfl, hb, _, rfl, iteF ?_⟩
    refine ⟨_, rfl, a, dxa, _, rfl, ha, rfl, _, rfl, a, b, L, M, rfl, la, lb, fun H1 s1 => ?_⟩
    refine ⟨_, rfl, ?_⟩
    cases e : within L M with
    | false =>
      have z : lessT L M = false := by unfold lessT; rw [e]; rfl
      have q : Q (.bl (lessT L M)) H1 := k H1 s1
      rw [z] at q
      exact iteF q
    | true =>
      refine iteT ⟨_, rfl, a, rfl, (la.mono s1).ins, a, L, rfl, la.mono s1, _, rfl, ?_, _, rfl, b, rfl, (lb.mono s1).ins, b, M, rfl, lb.mono s1, _, rfl, ?_, _, _, rfl, rfl, ?_⟩
      · exact Nat.lt_of_lt_of_le la.few (by decide)
      · exact Nat.lt_of_lt_of_le lb.few (by decide)
      · have z : lessT L M = decide (((L.length : Nat) : Int) < (M.length : Nat)) := by unfold lessT; rw [e]; rfl
        have q : Q (.bl (lessT L M)) H1 := k H1 s1
        rw [z] at q
        exact q
theorem scGt' : FnScope ["self", "other"] ["self", "other"] (defScope cLotGt) := ⟨rfl, rfl, rfl, by decide +kernel, rfl, by decide +kernel, by decide +kernel⟩
theorem ok_Gt {f : Addr} {fd : FuncData} (F : Fun K "__gt__" "Lot.__gt__" cLotGt f fd) (T : LotF P w K mg base C) : FnOk P w K mg base CX0 6 f fd ["self", "other"] (spCmp C (fun L M => lessT M L)) := by
  obtain ⟨gL, fdL, ML, bL, GL⟩ := T.lies
  obtain ⟨gN, fdN, MN, bN, GN⟩ := T.lenF
  refine F.ok scGt' (fun vs H Q E h => ?_) (fun cdv A outer s H vs Q E hr h => ?_)
  · obtain ⟨a, b, L, M, rfl, _⟩ := h
    rfl
  · obtain ⟨a, b, L, M, rfl, la, lb, k⟩ := h
    refine ⟨_, pss_cons (ps_if (pt_not (pt_val (pe_callB (C8.call_isC T.c.isC) (by rfl) T.isi (by decide +kernel) (pa_cons (pv 1) (pa_cons (pe_glob (v := .ref C) (by rfl) T.c.glob rfl) pa_nil))))) pss_never pss_nil)
      (pss_one (ps_ret (pe_and (pe_meth (pv 1) T.c.cls ML GL (hr.mono (by decide)) bL .nil pass0 (pa_cons (pv 0) pa_nil)) (pe_one (pe_cmpR op_lt (pe_callB (call_lenOwn MN GN (hr.mono (by decide)) bN pass0) (by rfl) T.len PySem.boot_len (pa_cons (pv 1) pa_nil)) (pe_callB (call_lenOwn MN GN (hr.mono (by decide)) bN pass0) (by rfl) T.len PySem.boot_len (pa_cons (pv 0) pa_nil)) (nomark _)))))), ?_⟩
    obtain ⟨dxa, _, _, _, ha, _⟩ := id la
    obtain ⟨dxb, _, _, _, hb, _⟩ := id lb
    refine ⟨_, rfl, b, dxb, _, rfl, hb, _, rfl, iteF ?_⟩
    refine ⟨_, rfl, b, dxb, _, rfl, hb, rfl, _, rfl, b, a, M, L, rfl, lb, la, fun H1 s1 => ?_⟩
    refine ⟨_, rfl, ?_⟩
    cases e : within M L with
    | false =>
      have z : lessT M L = false := by unfold lessT; rw [e]; rfl
      have q : Q (.bl (lessT M L)) H1 := k H1 s1
      rw [z] at q
      exact iteF q
    | true =>
      refine iteT ⟨_, rfl, b, rfl, (lb.mono s1).ins, b, M, rfl, lb.mono s1, _, rfl, ?_, _, rfl, a, rfl, (la.mono s1).ins, a, L, rfl, la.mono s1, _, rfl, ?_, _, _, rfl, rfl, ?_⟩
      · exact Nat.lt_of_lt_of_le lb.few (by decide)
      · exact Nat.lt_of_lt_of_le la.few (by decide)
      · have z : lessT M L = decide (((M.length : Nat) : Int) < (L.length : Nat)) := by unfold lessT; rw [e]; rfl
        have q : Q (.bl (lessT M L)) H1 := k H1 s1
        rw [z] at q
        exact q
end
end K1
set_option maxRecDepth 100000
set_option maxHeartbeats 1000000
namespace K1
open PySem L2
/-- those of L whose key is in M, or is not -/
def pick (b : Bool) (M L : PL) : PL := L.filter fun p => decide (p.2 ∈ keys M) == b
theorem pick_sub {b : Bool} {M L : PL} {p : Addr × List Int} (h : p ∈ pick b M L) : p ∈ L := (List.mem_filter.mp h).1
theorem pick_len (b : Bool) (M L : PL) : (pick b M L).length ≤ L.length := List.length_filter_le ..
theorem pick_key {b : Bool} {M L : PL} {k : List Int} : k ∈ keys (pick b M L) ↔ k ∈ keys L ∧ decide (k ∈ keys M) = b := by
  constructor
  · intro h
    obtain ⟨p, hp, rfl⟩ := mem_keys.mp h
    obtain ⟨h1, h2⟩ := List.mem_filter.mp hp
    exact ⟨mem_keys.mpr ⟨p, h1, rfl⟩, by simpa using h2⟩
  · rintro ⟨h, e⟩
    obtain ⟨p, hp, rfl⟩ := mem_keys.mp h
    exact mem_keys.mpr ⟨p, List.mem_filter.mpr ⟨hp, by simpa using e⟩, rfl⟩
theorem pick_take (b : Bool) (M L : PL) (i : Nat) (p : Addr × List Int) (h : L[i]? = some p) : pick b M (L.take (i + 1)) = if decide (p.2 ∈ keys M) = b then pick b M (L.take i) ++ [p] else pick b M (L.take i) := by
  unfold pick
  rw [List.take_add_one, h, Option.toList_some, List.filter_append]
  by_cases e : decide (p.2 ∈ keys M) = b
  · rw [if_pos e, List.filter_cons, if_pos (by simpa using e)]
    rfl
  · rw [if_neg e, List.filter_cons, if_neg (by simpa using e), List.filter_nil, List.append_nil]
theorem key_iff {N R : PL} (s : ∀ q ∈ N, q ∈ R) (c : ∀ q ∈ R, q.2 ∈ keys N) (k : List Int) : k ∈ keys N ↔ k ∈ keys R := by
  constructor
  · intro h
    obtain ⟨p, hp, rfl⟩ := mem_keys.mp h
    exact mem_keys.mpr ⟨p, s p hp, rfl⟩
  · intro h
    obtain ⟨p, hp, rfl⟩ := mem_keys.mp h
    exact c p hp
theorem keys_app (L M : PL) : keys (L ++ M) = keys L ++ keys M := List.map_append ..
section
variable {P : Program} {w : World} {K : PySem.W.Frag} {mg : Str → Option Value} {base : Heap} {C : Addr}
theorem scOr' : FnScope ["self", "other"] ["self", "other"] (defScope cLotOr) := ⟨rfl, rfl, rfl, by decide +kernel, rfl, by decide +kernel, by decide +kernel⟩
theorem ok_Or {f : Addr} {fd : FuncData} (F : Fun K "__or__" "Lot.__or__" cLotOr f fd) (T : LotF P w K mg base C) : FnOk P w K mg base CX0 6 f fd ["self", "other"] (spBin C (· || ·)) := by
  obtain ⟨gM, fdM, MM, bM, GM⟩ := T.make
  refine F.ok scOr' (fun vs H Q E h => ?_) (fun cdv A outer s H vs Q E hr h => ?_)
  · obtain ⟨a, b, L, M, rfl, _⟩ := h
    rfl
  · obtain ⟨a, b, L, M, rfl, la, lb, few, k⟩ := h
    refine ⟨_, pss_cons (ps_if (pt_not (pt_val (pe_callB (C8.call_isC T.c.isC) (by rfl) T.isi (by decide +kernel) (pa_cons (pv 1) (pa_cons (pe_glob (v := .ref C) (by rfl) T.c.glob rfl) pa_nil))))) pss_never pss_nil)
      (pss_one (ps_ret (pe_make MM GM hr (by rfl) T.c.glob bM .nil pass0 (pa_cons (pe_lst (StX.pa_star (pe_fld (pv 0) rfl) (StX.pa_star (pe_fld (pv 1) rfl) pa_nil))) pa_nil)))), ?_⟩
    obtain ⟨dxa, ta, _, _, ha, hta, _, aa, oa, _⟩ := id la
    obtain ⟨dxb, tb, _, _, hb, htb, _, ab, ob, _⟩ := id lb
    refine ⟨_, rfl, b, dxb, _, rfl, hb, _, rfl, iteF ?_⟩
    refine ⟨_, rfl, a, C, dxa, _, _, rfl, ha, T.c.cls, T.c.np, rfl, ta, refs L, rfl, .inl (SqT.of hta), _, rfl, b, C, dxb, _, _, rfl, hb, T.c.cls, T.c.np, rfl, tb, refs M, rfl, .inl (SqT.of htb), ?_⟩
    have sp : refs L ++ (refs M ++ []) = refs (L ++ M) := by rw [List.append_nil, refs_app]
    have zl : (L ++ M).length < 60 := by rw [List.length_append]; exact few
    dsimp only [tNil]
    rw [sp]
    refine ⟨sz (by rw [refs_len]; omega), fun p np => ?_⟩
    have s1 := same_new np (.lst (refs (L ++ M)))
    have at_ : Ats H (L ++ M) := fun q hq => (List.mem_append.mp hq).elim (aa q) (ab q)
    have ok_ : Oks (L ++ M) := fun q hq => (List.mem_append.mp hq).elim (oa q) (ob q)
    refine make_to upd_same (at_.mono s1) ok_ zl fun x N H' s2 ln le sub cov => ?_
    refine k x N H' (s1.trans s2) ln (by rw [List.length_append] at le; exact le) fun q => ?_
    rw [key_iff sub cov, keys_app]
    simp
theorem scAnd' : FnScope NLi ["self", "other"] (defScope cLotAnd) := ⟨rfl, rfl, rfl, by decide +kernel, rfl, by decide +kernel, by decide +kernel⟩
theorem scSub' : FnScope NLi ["self", "other"] (defScope cLotSub) := ⟨rfl, rfl, rfl, by decide +kernel, rfl, by decide +kernel, by decide +kernel⟩
/-- one turn of the comprehension over the places of a Lot, those that another one has, or has not -/
theorem pick_turn {b : Bool} {M L : PL} {H H9 H10 : Hp} {D : Addr} {i : Nat} {p : Addr × List Int} (hp : L[i]? = some p) (nD : H D = none) (h9 : H9 D = some (.lst (refs (pick b M (L.take i))))) (s9 : Same H H9) (s10 : Same H9 H10) (few : L.length < 60) :
    (decide (p.2 ∈ keys M) = b → ∃ acc, H10 D = some (.lst acc) ∧ acc.length < sizeLine ∧ (upd H10 D (.lst (acc ++ [.ref p.1])) D = some (.lst (refs (pick b M (L.take (i + 1))))) ∧ Same H (upd H10 D (.lst (acc ++ [.ref p.1]))))) ∧
    (¬ decide (p.2 ∈ keys M) = b → H10 D = some (.lst (refs (pick b M (L.take (i + 1))))) ∧ Same H H10) := by
  have h10 := s10 _ _ h9
  refine ⟨fun e => ⟨_, h10, ?_, ?_, fun z o hz => ?_⟩, fun e => ⟨?_, s9.trans s10⟩⟩
  · rw [refs_len]
    have := pick_len b M (L.take i)
    rw [List.length_take] at this
    exact small1000 (by omega)
  · rw [upd_same, pick_take b M L i p hp, if_pos e, refs_app]
    rfl
  · rw [upd_ne (ne_of_none hz nD)]
    exact s10 _ _ (s9 _ _ hz)
  · rw [h10, pick_take b M L i p hp, if_neg e]
theorem ok_And {f : Addr} {fd : FuncData} (F : Fun K "__and__" "Lot.__and__" cLotAnd f fd) (T : LotF P w K mg base C) : FnOk P w K mg base CX0 6 f fd ["self", "other"] (spBin C (· && ·)) := by
  obtain ⟨gM, fdM, MM, bM, GM⟩ := T.make
  obtain ⟨gH, fdH, MH, bH, GH⟩ := T.has
  refine F.ok scAnd' (fun vs H Q E h => ?_) (fun cdv A outer s H vs Q E hr h => ?_)
  · obtain ⟨a, b, L, M, rfl, _⟩ := h
    rfl
  · obtain ⟨a, b, L, M, rfl, la, lb, few, k⟩ := h
    refine ⟨_, pss_cons (ps_if (pt_not (pt_val (pe_callB (C8.call_isC T.c.isC) (by rfl) T.isi (by decide +kernel) (pa_cons (pv 1) (pa_cons (pe_glob (v := .ref C) (by rfl) T.c.glob rfl) pa_nil))))) pss_never pss_nil)
      (pss_one (ps_ret (pe_make MM GM hr (by rfl) T.c.glob bM .nil pass0 (pa_cons (pe_lc (own := [("place", 2)]) (g := gName 2) rfl scAnd'.nd (pi_tup (pe_fld (pv 0) rfl)) (blkOk_by (N := NLi) (sc := defScope cLotAnd) (by decide +kernel))
        (fun _ _ _ _ _ => pg_name (i := 2) scAnd'.nd rfl (Or.inl rfl)) (fun _ _ _ _ _ => pts_one (pt_cmpR (op_has MH GH (hr.mono (by decide)) bH pass0) (pv 2) (pv 1) rfl)) (fun _ _ _ _ _ => pv 2)) pa_nil)))), ?_⟩
    obtain ⟨dxa, ta, _, _, ha, hta, _, aa, oa, _, fa, _⟩ := id la
    obtain ⟨dxb, tb, _, _, hb, _⟩ := id lb
    refine ⟨_, rfl, b, dxb, _, rfl, hb, _, rfl, iteF ?_⟩
    refine ⟨_, rfl, a, C, dxa, _, _, rfl, ha, T.c.cls, T.c.np, rfl, ta, rfl, ⟨_, SqT.of hta⟩, fun D nD => ?_⟩
    refine lc_tup (xs := refs L) (fun i H9 => H9 D = some (.lst (refs (pick true M (L.take i)))) ∧ Same H H9) ⟨upd_same, same_new nD _⟩ (fun i H9 _ h9 => SqT.of (h9.2 _ _ hta)) ?_ ?_
    · rintro i x H9 hx ⟨h9, s9⟩
      obtain ⟨p, hp, rfl⟩ := refs_get hx
      have mem := List.mem_of_getElem? hp
      refine ⟨rfl, _, rfl, _, rfl, b, rfl, (lb.mono s9).ins, b, p.1, M, p.2, rfl, lb.mono s9, s9 _ _ (aa p mem), oa p mem, fun H10 s10 => ⟨_, rfl, _, rfl, ?_⟩⟩
      obtain ⟨z1, z2⟩ := pick_turn (b := true) (M := M) hp nD h9 s9 s10 fa
      refine ite2 (fun e => ?_) fun e => ?_
      · exact ⟨_, rfl, z1 e⟩
      · exact z2 (by simpa using e)
    · rintro H9 ⟨h9, s9⟩
      rw [refs_len, List.take_of_length_le (Nat.le_refl _)] at h9
      have zl := pick_len true M L
      refine make_to h9 ((aa.mono s9).sub fun q hq => pick_sub hq) (oa.sub fun q hq => pick_sub hq) (by omega) fun x N H' s2 ln le sub cov => ?_
      refine k x N H' (s9.trans s2) ln (by omega) fun q => ?_
      rw [key_iff sub cov, pick_key]
      simp
theorem ok_Sub {f : Addr} {fd : FuncData} (F : Fun K "__sub__" "Lot.__sub__" cLotSub f fd) (T : LotF P w K mg base C) : FnOk P w K mg base CX0 6 f fd ["self", "other"] (spBin C fun x y => x && !y) := by
  obtain ⟨gM, fdM, MM, bM, GM⟩ := T.make
  obtain ⟨gH, fdH, MH, bH, GH⟩ := T.has
  refine F.ok scSub' (fun vs H Q E h => ?_) (fun cdv A outer s H vs Q E hr h => ?_)
  · obtain ⟨a, b, L, M, rfl, _⟩ := h
    rfl
  · obtain ⟨a, b, L, M, rfl, la, lb, few, k⟩ := h
    refine ⟨_, pss_cons (ps_if (pt_not (pt_val (pe_callB (C8.call_isC T.c.isC) (by rfl) T.isi (by decide +kernel) (pa_cons (pv 1) (pa_cons (pe_glob (v := .ref C) (by rfl) T.c.glob rfl) pa_nil))))) pss_never pss_nil)
      (pss_one (ps_ret (pe_make MM GM hr (by rfl) T.c.glob bM .nil pass0 (pa_cons (pe_lc (own := [("place", 2)]) (g := gName 2) rfl scSub'.nd (pi_tup (pe_fld (pv 0) rfl)) (blkOk_by (N := NLi) (sc := defScope cLotSub) (by decide +kernel))
        (fun _ _ _ _ _ => pg_name (i := 2) scSub'.nd rfl (Or.inl rfl)) (fun _ _ _ _ _ => pts_one (pt_cmpR (op_hasnt MH GH (hr.mono (by decide)) bH pass0) (pv 2) (pv 1) rfl)) (fun _ _ _ _ _ => pv 2)) pa_nil)))), ?_⟩
    obtain ⟨dxa, ta, _, _, ha, hta, _, aa, oa, _, fa, _⟩ := id la
    obtain ⟨dxb, tb, _, _, hb, _⟩ := id lb
    refine ⟨_, rfl, b, dxb, _, rfl, hb, _, rfl, iteF ?_⟩
    refine ⟨_, rfl, a, C, dxa, _, _, rfl, ha, T.c.cls, T.c.np, rfl, ta, rfl, ⟨_, SqT.of hta⟩, fun D nD => ?_⟩
    refine lc_tup (xs := refs L) (fun i H9 => H9 D = some (.lst (refs (pick false M (L.take i)))) ∧ Same H H9) ⟨upd_same, same_new nD _⟩ (fun i H9 _ h9 => SqT.of (h9.2 _ _ hta)) ?_ ?_
    · rintro i x H9 hx ⟨h9, s9⟩
      obtain ⟨p, hp, rfl⟩ := refs_get hx
      have mem := List.mem_of_getElem? hp
      refine ⟨rfl, _, rfl, _, rfl, b, rfl, (lb.mono s9).ins, b, p.1, M, p.2, rfl, lb.mono s9, s9 _ _ (aa p mem), oa p mem, fun H10 s10 => ⟨_, rfl, _, rfl, ?_⟩⟩
      obtain ⟨z1, z2⟩ := pick_turn (b := false) (M := M) hp nD h9 s9 s10 fa
      refine ite2 (fun e => ?_) fun e => ?_
      · exact ⟨_, rfl, z1 (by simpa using e)⟩
      · exact z2 (by simpa using e)
    · rintro H9 ⟨h9, s9⟩
      rw [refs_len, List.take_of_length_le (Nat.le_refl _)] at h9
      have zl := pick_len false M L
      refine make_to h9 ((aa.mono s9).sub fun q hq => pick_sub hq) (oa.sub fun q hq => pick_sub hq) (by omega) fun x N H' s2 ln le sub cov => ?_
      refine k x N H' (s9.trans s2) ln (by omega) fun q => ?_
      rw [key_iff sub cov, pick_key]
      simp
abbrev NXo : List Str := ["self", "other", "alone", "place"]
theorem scXo' : FnScope NXo ["self", "other"] (defScope cLotXor) := ⟨rfl, rfl, rfl, by decide +kernel, rfl, by decide +kernel, by decide +kernel⟩
theorem ok_Xor {f : Addr} {fd : FuncData} (F : Fun K "__xor__" "Lot.__xor__" cLotXor f fd) (T : LotF P w K mg base C) : FnOk P w K mg base CX0 6 f fd ["self", "other"] (spBin C fun x y => x != y) := by
  obtain ⟨gM, fdM, MM, bM, GM⟩ := T.make
  obtain ⟨gH, fdH, MH, bH, GH⟩ := T.has
  refine F.ok scXo' (fun vs H Q E h => ?_) (fun cdv A outer s H vs Q E hr h => ?_)
  · obtain ⟨a, b, L, M, rfl, _⟩ := h
    rfl
  · obtain ⟨a, b, L, M, rfl, la, lb, few, k⟩ := h
    refine ⟨_, pss_cons (ps_if (pt_not (pt_val (pe_callB (C8.call_isC T.c.isC) (by rfl) T.isi (by decide +kernel) (pa_cons (pv 1) (pa_cons (pe_glob (v := .ref C) (by rfl) T.c.glob rfl) pa_nil))))) pss_never pss_nil)
      (pss_cons (ps_setLc (i := 2) (own := [("place", 3)]) (g := gName 3) rfl scXo'.nd rfl rfl (sw_true rfl rfl rfl rfl) (pi_tup (pe_fld (pv 0) rfl)) (blkOk_by (N := NXo) (sc := defScope cLotXor) (by decide +kernel))
        (fun _ _ _ _ _ => pg_name (i := 3) scXo'.nd rfl (Or.inl rfl)) (fun _ _ _ _ _ => pts_one (pt_cmpR (op_hasnt MH GH (hr.mono (by decide)) bH pass0) (pv 3) (pv 1) rfl)) (fun _ _ _ _ _ => pv 3))
      (pss_one (ps_ret (pe_make MM GM hr (by rfl) T.c.glob bM .nil pass0 (pa_cons (pe_op op_cat (pv 2) (pe_lc (own := [("place", 3)]) (g := gName 3) rfl scXo'.nd (pi_tup (pe_fld (pv 1) rfl)) (blkOk_by (N := NXo) (sc := defScope cLotXor) (by decide +kernel))
        (fun _ _ _ _ _ => pg_name (i := 3) scXo'.nd rfl (Or.inl rfl)) (fun _ _ _ _ _ => pts_one (pt_cmpR (op_hasnt MH GH (hr.mono (by decide)) bH pass0) (pv 3) (pv 0) rfl)) (fun _ _ _ _ _ => pv 3))) pa_nil))))), ?_⟩
    obtain ⟨dxa, ta, _, _, ha, hta, _, aa, oa, _, fa, _⟩ := id la
    obtain ⟨dxb, tb, _, _, hb, htb, _, ab, ob, _, fb, _⟩ := id lb
    refine ⟨_, rfl, b, dxb, _, rfl, hb, _, rfl, iteF ?_⟩
    refine ⟨_, rfl, a, C, dxa, _, _, rfl, ha, T.c.cls, T.c.np, rfl, ta, rfl, ⟨_, SqT.of hta⟩, fun D nD => ?_⟩
    refine lc_tup (xs := refs L) (fun i H9 => H9 D = some (.lst (refs (pick false M (L.take i)))) ∧ Same H H9) ⟨upd_same, same_new nD _⟩ (fun i H9 _ h9 => SqT.of (h9.2 _ _ hta)) ?_ ?_
    · rintro i x H9 hx ⟨h9, s9⟩
      obtain ⟨p, hp, rfl⟩ := refs_get hx
      have mem := List.mem_of_getElem? hp
      refine ⟨rfl, _, rfl, _, rfl, b, rfl, (lb.mono s9).ins, b, p.1, M, p.2, rfl, lb.mono s9, s9 _ _ (aa p mem), oa p mem, fun H10 s10 => ⟨_, rfl, _, rfl, ?_⟩⟩
      obtain ⟨z1, z2⟩ := pick_turn (b := false) (M := M) hp nD h9 s9 s10 fa
      refine ite2 (fun e => ?_) fun e => ?_
      · exact ⟨_, rfl, z1 (by simpa using e)⟩
      · exact z2 (by simpa using e)
    · rintro H9 ⟨h9, s9⟩
      rw [refs_len, List.take_of_length_le (Nat.le_refl _)] at h9
      refine ⟨_, rfl, _, rfl, b, C, dxb, _, _, rfl, s9 _ _ hb, T.c.cls, T.c.np, rfl, tb, rfl, ⟨_, SqT.of (s9 _ _ htb)⟩, fun D2 nD2 => ?_⟩
      refine lc_tup (xs := refs M) (fun i H11 => H11 D2 = some (.lst (refs (pick false L (M.take i)))) ∧ Same H9 H11) ⟨upd_same, same_new nD2 _⟩ (fun i H11 _ h11 => SqT.of (h11.2 _ _ (s9 _ _ htb))) ?_ ?_
      · rintro i x H11 hx ⟨h11, s11⟩
        obtain ⟨p, hp, rfl⟩ := refs_get hx
        have mem := List.mem_of_getElem? hp
        have sA := s9.trans s11
        refine ⟨rfl, _, rfl, _, rfl, a, rfl, (la.mono sA).ins, a, p.1, L, p.2, rfl, la.mono sA, sA _ _ (ab p mem), ob p mem, fun H10 s10 => ⟨_, rfl, _, rfl, ?_⟩⟩
        obtain ⟨z1, z2⟩ := pick_turn (b := false) (M := L) hp nD2 h11 s11 s10 fb
        refine ite2 (fun e => ?_) fun e => ?_
        · exact ⟨_, rfl, z1 (by simpa using e)⟩
        · exact z2 (by simpa using e)
      · rintro H11 ⟨h11, s11⟩
        rw [refs_len, List.take_of_length_le (Nat.le_refl _)] at h11
        have sA := s9.trans s11
        have zl := pick_len false M L
        have zm := pick_len false L M
        refine ⟨D, D2, _, _, rfl, rfl, s11 _ _ h9, h11, sz (by rw [refs_len, refs_len]; omega), fun p np => ?_⟩
        rw [← refs_app]
        have sB := sA.trans (same_new np (.lst (refs (pick false M L ++ pick false L M))))
        refine make_to upd_same (fun q hq => ?_) (fun q hq => ?_) (by rw [List.length_append]; omega) fun x N H' s2 ln le sub cov => ?_
        · rcases List.mem_append.mp hq with z | z
          · exact sB _ _ (aa q (pick_sub z))
          · exact sB _ _ (ab q (pick_sub z))
        · rcases List.mem_append.mp hq with z | z
          · exact oa q (pick_sub z)
          · exact ob q (pick_sub z)
        · refine k x N H' (sB.trans s2) ln (by rw [List.length_append] at le; omega) fun q => ?_
          rw [key_iff sub cov, keys_app, List.mem_append, pick_key, pick_key]
          by_cases c1 : q ∈ keys L <;> by_cases c2 : q ∈ keys M <;> simp [c1, c2]
end
end K1
set_option maxRecDepth 100000
set_option maxHeartbeats 4000000
namespace K1
open PySem L2
/-- a flat value, or a flat dict, beside itself -/
inductive Sc (K : PySem.W.Frag) (H : Hp) : V → String → Prop where
  | non : Sc K H .non "NoneType"
  | str (z : Str) : Sc K H (.str z) "str"
  | dic {a : Addr} {kvs : List (Key × V)} : H a = some (.dK kvs) → (kvs.map (·.1)).Nodup → (∀ p ∈ kvs, flatB p.2 = true) → Sc K H (.ref a) "dict"
def SameV (K : PySem.W.Frag) (H : Hp) : Nat → V → V → Prop
  | 0, _, _ => False
  | n + 1, x, y => (∃ i, x = .int i ∧ y = .int i) ∨ (∃ b, x = .bl b ∧ y = .bl b) ∨ (x = y ∧ ∃ nm, Sc K H x nm) ∨
    ∃ (a b : Addr) (xs ys : List V), x = .ref a ∧ y = .ref b ∧ ((H a = some (.lst xs) ∧ H b = some (.lst ys)) ∨ (H a = some (.tup xs) ∧ H b = some (.tup ys))) ∧ xs.length = ys.length ∧ xs.length ≤ 1000 ∧
      ∀ (i : Nat) (u v : V), xs[i]? = some u → ys[i]? = some v → SameV K H n u v
theorem Sc.mono {K : PySem.W.Frag} {H H' : Hp} {x : V} {nm : String} (h : Sc K H x nm) (s : Same H H') : Sc K H' x nm := by
  cases h with
  | non => exact .non
  | str z => exact .str z
  | dic h1 h2 h3 => exact .dic (s _ _ h1) h2 h3
theorem SameV.mono {K : PySem.W.Frag} {H H' : Hp} (s : Same H H') : ∀ {n : Nat} {x y : V}, SameV K H n x y → SameV K H' n x y
  | 0, _, _, h => (show False from h).elim
  | _ + 1, _, _, h => h.imp_right fun h => h.imp_right fun h => Or.imp (fun ⟨e, nm, h⟩ => ⟨e, nm, h.mono s⟩) (fun ⟨a, b, xs, ys, e1, e2, h, l1, l2, k⟩ =>
    ⟨a, b, xs, ys, e1, e2, Or.imp (fun q => ⟨s _ _ q.1, s _ _ q.2⟩) (fun q => ⟨s _ _ q.1, s _ _ q.2⟩) h, l1, l2, fun i u v h1 h2 => SameV.mono s (k i u v h1 h2)⟩) h
def spSame (K : PySem.W.Frag) (n : Nat) : Sp := fun vs H Q _ => ∃ (x y : V), vs = [x, y] ∧ SameV K H n x y ∧ ∀ H', Same H H' → Q (.bl true) H'
theorem iteD {c A B : Prop} [Decidable c] (hc : c) (h : A) : if decide c = true then A else B := by
  rw [decide_eq_true hc]
  exact iteT h
theorem kitA2 {K : PySem.W.Frag} {a b c : String} {r s : Bool} (h1 : kitB a b = some r) (h2 : kitB a c = some s) : PySem.W.kitAny K (.type a) [.type b, .type c] = some (r || s) := by
  refine kitAny_cons (kit_ty h1) (fun e => ?_) (fun e => by rw [e]; rfl)
  subst e
  rw [Bool.false_or]
  exact kitAny_cons (kit_ty h2) (fun e => by subst e; exact kitAny_nil) (fun e => by rw [e])
theorem kitA3 {K : PySem.W.Frag} {a b c d : String} {r s t : Bool} (h1 : kitB a b = some r) (h2 : kitB a c = some s) (h3 : kitB a d = some t) : PySem.W.kitAny K (.type a) [.type b, .type c, .type d] = some (r || (s || t)) := by
  refine kitAny_cons (kit_ty h1) (fun e => ?_) (fun e => by rw [e]; rfl)
  subst e
  rw [Bool.false_or]
  exact kitA2 h2 h3
theorem same_cases {K : PySem.W.Frag} {H : Hp} {n : Nat} {x y : V} (S : SameV K H (n + 1) x y) {R : Prop}
    (num : ∀ (v : V) (nm : String) (bb : Bool), x = v → y = v → (∀ H, TyX K H v (.type nm)) → kitB nm "list" = some false → kitB nm "tuple" = some false → kitB nm "int" = some true → kitB nm "bool" = some bb → scal v v = true → R)
    (flat : ∀ (nm : String), x = y → Sc K H x nm → R)
    (seq : ∀ (nm : String) (a b : Addr) (xs ys : List V), x = .ref a → y = .ref b → kitB nm "list" = some (nm == "list") → kitB nm "tuple" = some (nm == "tuple") → (nm == "list" || nm == "tuple") = true →
      (∀ H', Same H H' → TyX K H' x (.type nm)) → (∀ H', Same H H' → TyX K H' y (.type nm)) → ((H a = some (.lst xs) ∧ H b = some (.lst ys)) ∨ (H a = some (.tup xs) ∧ H b = some (.tup ys))) →
      xs.length = ys.length → xs.length ≤ 1000 → (∀ (i : Nat) (u v : V), xs[i]? = some u → ys[i]? = some v → SameV K H n u v) → R) : R := by
  rcases S with ⟨i, e1, e2⟩ | ⟨b, e1, e2⟩ | ⟨e, nm, h⟩ | ⟨a, b, xs, ys, e1, e2, h, l1, l2, q⟩
  · exact num _ "int" false e1 e2 (fun _ => .base (.int i)) (by decide +kernel) (by decide +kernel) (by decide +kernel) (by decide +kernel) rfl
  · exact num _ "bool" true e1 e2 (fun _ => .base (.bl b)) (by decide +kernel) (by decide +kernel) (by decide +kernel) (by decide +kernel) rfl
  · exact flat nm e h
  · rcases h with h | h
    · exact seq "list" a b xs ys e1 e2 (by decide +kernel) (by decide +kernel) rfl (fun H' s => by rw [e1]; exact .base (.lst (s _ _ h.1))) (fun H' s => by rw [e2]; exact .base (.lst (s _ _ h.2))) (.inl h) l1 l2 q
    · exact seq "tuple" a b xs ys e1 e2 (by decide +kernel) (by decide +kernel) rfl (fun H' s => by rw [e1]; exact .base (.tup (s _ _ h.1))) (fun H' s => by rw [e2]; exact .base (.tup (s _ _ h.2))) (.inr h) l1 l2 q
theorem Sc.ty {K : PySem.W.Frag} {H : Hp} {x : V} {nm : String} (h : Sc K H x nm) : TyX K H x (.type nm) := by
  cases h with
  | non => exact .base .non
  | str z => exact .base (.str z)
  | dic h _ _ => exact .base (.dK h)
theorem Sc.kit {K : PySem.W.Frag} {H : Hp} {x : V} {nm : String} (h : Sc K H x nm) : kitB nm "list" = some false ∧ kitB nm "tuple" = some false ∧ kitB nm "int" = some false := by
  cases h <;> exact ⟨by decide +kernel, by decide +kernel, by decide +kernel⟩
/-- both in step: the pairs of a zip of two lists, of two tuples -/
theorem walk_zipT {K : PySem.W.Frag} {a b : Addr} {xs ys : List V} {n : Nat} (h1 : n = xs.length) (h2 : n = ys.length) : Walk (RZ.ItzT K a b) n (fun H => SqT K H a xs ∧ SqT K H b ys) (YPair (fun i => xs[i]?) (fun i => ys[i]?)) := by
  refine ⟨fun i _ hi q => ?_, fun _ q => ⟨xs, ys, q.1, q.2, .inl (by omega)⟩, fun i H v H' _ q y => ?_⟩
  · have l1 : i < xs.length := by omega
    have l2 : i < ys.length := by omega
    exact ⟨xs, ys, xs[i], ys[i], q.1, q.2, by simp [l1], by simp [l2]⟩
  · obtain ⟨t, u, v, e1, e2, e3, e4, e5⟩ := y
    exact ⟨t, u, v, e1, e2, e3, e4 xs q.1, e5 ys q.2⟩
structure TxtS (mg : Str → Option Value) : Prop where
  isi : mg "isinstance" = none
  list : mg "list" = none
  tuple : mg "tuple" = none
  len : mg "len" = none
  all : mg "all" = none
  zip : mg "zip" = none
  int : mg "int" = none
  bool : mg "bool" = none
section
variable {P : Program} {w : World} {K : PySem.W.Frag} {mg : Str → Option Value} {base : Heap}
abbrev NS : List Str := ["_law_found", "_law_due", "_law_x", "_law_y"]
theorem scS : FnScope NS ["_law_found", "_law_due"] (defScope sSame) := ⟨rfl, rfl, rfl, by decide +kernel, rfl, by decide +kernel, by decide +kernel⟩
theorem ok_same {n : Nat} {f : Addr} {fd : FuncData} (F : Fun K "_law_same" "_law_same" sSame f fd) (T : TxtS mg) (G : FnOk P w K mg base CX0 n f fd ["_law_found", "_law_due"] (spSame K n)) (bG : Binds K fd ["_law_found", "_law_due"] []) (gG : mg "_law_same" = some (.ref f)) :
    FnOk P w K mg base CX0 (n + 1) f fd ["_law_found", "_law_due"] (spSame K (n + 1)) := by
  refine F.ok scS (fun vs H Q E h => ?_) (fun cdv A outer s H vs Q E hr h => ?_)
  · obtain ⟨x, y, rfl, _⟩ := h
    rfl
  · obtain ⟨x, y, rfl, S, k⟩ := h
    refine ⟨_, pss_cons (ps_if (pt_val (pe_callB call_isiT (by rfl) T.isi (by decide +kernel) (pa_cons (pv 1) (pa_cons (pe_tup (pa_cons (pe_bltn (v := .ty "list") (by rfl) T.list (by decide +kernel) rfl) (pa_cons (pe_bltn (v := .ty "tuple") (by rfl) T.tuple (by decide +kernel) rfl) pa_nil))) pa_nil))))
        (pss_cons (ps_if (pw_or (pt_cmpR op_ne (pe_callB call_isi (by rfl) T.isi (by decide +kernel) (pa_cons (pv 0) (pa_cons (pe_bltn (v := .ty "list") (by rfl) T.list (by decide +kernel) rfl) pa_nil)))
                (pe_callB call_isi (by rfl) T.isi (by decide +kernel) (pa_cons (pv 1) (pa_cons (pe_bltn (v := .ty "list") (by rfl) T.list (by decide +kernel) rfl) pa_nil))) (nomark _))
              (pw_or1 (pt_cmpR op_ne (pe_callB call_isi (by rfl) T.isi (by decide +kernel) (pa_cons (pv 0) (pa_cons (pe_bltn (v := .ty "tuple") (by rfl) T.tuple (by decide +kernel) rfl) pa_nil)))
                (pe_callB call_isi (by rfl) T.isi (by decide +kernel) (pa_cons (pv 1) (pa_cons (pe_bltn (v := .ty "tuple") (by rfl) T.tuple (by decide +kernel) rfl) pa_nil))) (nomark _)))).pt (pss_one (ps_ret pe_bl)) pss_nil)
          (pss_one (ps_ret (pe_and (pe_cmpR op_eq (pe_callB call_len_seq (by rfl) T.len PySem.boot_len (pa_cons (pv 0) pa_nil)) (pe_callB call_len_seq (by rfl) T.len PySem.boot_len (pa_cons (pv 1) pa_nil)) (nomark _))
            (pe_one (pe_callB (cr_all rfl) (by rfl) T.all (by decide +kernel) (pa_cons (pe_lc (own := [("_law_x", 2), ("_law_y", 3)]) (g := gTup K 2 (gCons (gName 2) (gCons (gName 3) gNil))) (tt := tYes) rfl scS.nd (RZ.pi_zipA (by rfl) T.zip (pa_cons (pv 0) (pa_cons (pv 1) pa_nil))) (blkOk_by (N := NS) (sc := defScope sSame) (by decide +kernel))
              (fun _ _ _ _ _ => pg_tup rfl (pgs_cons (pg_name (i := 2) scS.nd rfl (Or.inl rfl)) (pgs_cons (pg_name (i := 3) scS.nd rfl (Or.inl rfl)) pgs_nil))) (fun _ _ _ _ _ => pts_nil)
              (fun _ _ _ _ _ => pe_call G hr rfl gG F.kp bG .nil pass0 (pa_cons (pv 2) (pa_cons (pv 3) pa_nil)))) pa_nil)))))))
        pss_nil)
      (pss_cons (ps_if (pt_val (pe_callB call_isi (by rfl) T.isi (by decide +kernel) (pa_cons (pv 1) (pa_cons (pe_bltn (v := .ty "int") (by rfl) T.int (by decide +kernel) rfl) pa_nil))))
        (pss_one (ps_ret (pe_and (pe_callB call_isi (by rfl) T.isi (by decide +kernel) (pa_cons (pv 0) (pa_cons (pe_bltn (v := .ty "int") (by rfl) T.int (by decide +kernel) rfl) pa_nil)))
          (pe_and (pe_cmpR op_eq (pe_callB call_isi (by rfl) T.isi (by decide +kernel) (pa_cons (pv 0) (pa_cons (pe_bltn (v := .ty "bool") (by rfl) T.bool (by decide +kernel) rfl) pa_nil))) (pe_callB call_isi (by rfl) T.isi (by decide +kernel) (pa_cons (pv 1) (pa_cons (pe_bltn (v := .ty "bool") (by rfl) T.bool (by decide +kernel) rfl) pa_nil))) (nomark _))
            (pe_one (pe_cmpR op_eq (pv 0) (pv 1) (nomark _)))))))
        pss_nil)
      (pss_one (ps_ret (pe_and (pe_cmpR op_isBl (pe_callB call_isiT (by rfl) T.isi (by decide +kernel) (pa_cons (pv 0) (pa_cons (pe_tup (pa_cons (pe_bltn (v := .ty "int") (by rfl) T.int (by decide +kernel) rfl) (pa_cons (pe_bltn (v := .ty "list") (by rfl) T.list (by decide +kernel) rfl) (pa_cons (pe_bltn (v := .ty "tuple") (by rfl) T.tuple (by decide +kernel) rfl) pa_nil)))) pa_nil))) pe_bl (nomark _))
        (pe_one (pe_cmpR (OpR.or op_eq (op_eq_dict (Nat.lt_of_le_of_lt (Nat.le_add_right _ 64) hr.units))) (pv 0) (pv 1) (nomark _))))))), ?_⟩
    refine same_cases S ?num ?flat ?seq
    case num =>
      intro v nm bb e1 e2 ty k1 k2 k3 k4 sc
      subst e1 e2
      refine ⟨_, rfl, sz (Nat.le_of_ble_eq_true rfl), fun tp ntp => ⟨_, tp, [.ty "list", .ty "tuple"], .type nm, [.type "list", .type "tuple"], _, rfl, upd_same, .cons (.ty _) (.cons (.ty _) .nil), ty _, kitA2 k1 k2, _, rfl, iteF ?_⟩⟩
      refine ⟨_, rfl, _, .ty "int", .type nm, .type "int", _, rfl, .ty _, ty _, kit_ty k3, _, rfl, iteT ?_⟩
      refine ⟨_, rfl, _, .ty "int", .type nm, .type "int", _, rfl, .ty _, ty _, kit_ty k3, _, rfl, iteT ?_⟩
      refine ⟨_, rfl, _, .ty "bool", .type nm, .type "bool", _, rfl, .ty _, ty _, kit_ty k4, _, rfl, _, .ty "bool", .type nm, .type "bool", _, rfl, .ty _, ty _, kit_ty k4, rfl, _, rfl, iteD rfl ?_⟩
      refine ⟨_, rfl, _, rfl, sc, ?_⟩
      rw [decide_eq_true rfl]
      exact k _ (same_new ntp _)
    case flat =>
      intro nm e h
      subst e
      obtain ⟨k1, k2, k3⟩ := h.kit
      refine ⟨_, rfl, sz (Nat.le_of_ble_eq_true rfl), fun tp ntp => ⟨_, tp, [.ty "list", .ty "tuple"], .type nm, [.type "list", .type "tuple"], _, rfl, upd_same, .cons (.ty _) (.cons (.ty _) .nil), (h.mono (same_new ntp _)).ty, kitA2 k1 k2, _, rfl, iteF ?_⟩⟩
      refine ⟨_, rfl, _, .ty "int", .type nm, .type "int", _, rfl, .ty _, (h.mono (same_new ntp _)).ty, kit_ty k3, _, rfl, iteF ?_⟩
      refine ⟨_, rfl, sz (Nat.le_of_ble_eq_true rfl), fun t2 n2 => ?_⟩
      have s2 : Same H (upd _ t2 (.tup [.ty "int", .ty "list", .ty "tuple"])) := (same_new ntp _).trans (same_new n2 _)
      refine ⟨_, t2, [.ty "int", .ty "list", .ty "tuple"], .type nm, [.type "int", .type "list", .type "tuple"], _, rfl, upd_same, .cons (.ty _) (.cons (.ty _) (.cons (.ty _) .nil)), (h.mono s2).ty, kitA3 k3 k1 k2, _, _, rfl, rfl, _, rfl, iteD rfl ?_⟩
      refine ⟨_, rfl, _, rfl, ?_⟩
      cases h with
      | non => exact .inl ⟨rfl, by rw [decide_eq_true rfl]; exact k _ s2⟩
      | str z => exact .inl ⟨rfl, by rw [decide_eq_true rfl]; exact k _ s2⟩
      | dic h1 h2 h3 => exact .inr ⟨_, _, _, rfl, rfl, s2 _ _ h1, s2 _ _ h1, h2, h3, k _ s2⟩
    case seq => 
      intro nm a b xs ys e1 e2 k1 k2 k3 tx ty hb l1 l2 q
      refine ⟨_, rfl, sz (Nat.le_of_ble_eq_true rfl), fun tp ntp => ⟨_, tp, [.ty "list", .ty "tuple"], .type nm, [.type "list", .type "tuple"], _, rfl, upd_same, .cons (.ty _) (.cons (.ty _) .nil), ty _ (same_new ntp _), kitA2 k1 k2, _, rfl, ?_⟩⟩
      rw [k3]
      refine iteT ?_
      refine ⟨_, rfl, _, .ty "list", .type nm, .type "list", _, rfl, .ty _, tx _ (same_new ntp _), kit_ty k1, _, rfl, _, .ty "list", .type nm, .type "list", _, rfl, .ty _, ty _ (same_new ntp _), kit_ty k1, rfl, _, rfl, iteNS rfl ?_⟩
      refine ⟨_, rfl, _, .ty "tuple", .type nm, .type "tuple", _, rfl, .ty _, tx _ (same_new ntp _), kit_ty k2, _, rfl, _, .ty "tuple", .type nm, .type "tuple", _, rfl, .ty _, ty _ (same_new ntp _), kit_ty k2, rfl, _, rfl, iteNS rfl ?_⟩
      subst e1 e2
      have sq : ∀ H', Same H H' → (SqL K H' a xs ∨ SqT K H' a xs) ∧ (SqL K H' b ys ∨ SqT K H' b ys) := fun H' s => by
        rcases hb with ⟨h1, h2⟩ | ⟨h1, h2⟩
        · exact ⟨.inl (SqL.of (s _ _ h1)), .inl (SqL.of (s _ _ h2))⟩
        · exact ⟨.inr (SqT.of (s _ _ h1)), .inr (SqT.of (s _ _ h2))⟩
      refine ⟨_, rfl, a, xs, rfl, (sq _ (same_new ntp _)).1, _, rfl, b, ys, rfl, (sq _ (same_new ntp _)).2, rfl, _, rfl, iteD (by rw [l1]) ?_⟩
      have turn : ∀ (D : Addr) (i : Nat) (H2 H3 : Hp) (T : Addr) (u v : V), H2 T = none → H3 = upd H2 T (.tup [u, v]) → Same H H2 → H2 D = some (.lst (List.replicate i (.bl true))) → i < xs.length → SameV K H n u v →
          Same H H3 ∧ H3 D = some (.lst (List.replicate i (.bl true))) ∧ H3 T = some (.tup [u, v]) ∧ SameV K H3 n u v := fun D i H2 H3 T u v nT e s hD hi h => by
        subst e
        have s3 := s.trans (same_new nT (.tup [u, v]))
        exact ⟨s3, by rw [upd_ne (ne_of_none hD nT)]; exact hD, upd_same, h.mono s3⟩
      have fin : ∀ (D : Addr) (H2 : Hp), H2 D = some (.lst (List.replicate xs.length (.bl true))) → SqL K H2 D ((List.replicate xs.length true).map V.bl) := fun D H2 h => SqL.of (by rw [List.map_replicate]; exact h)
      have eall : (List.replicate xs.length true).all id = true := by rw [List.all_eq_true]; intro b hb; exact (List.mem_replicate.mp hb).2
      refine ⟨_, rfl, _, rfl, a, b, xs, ys, rfl, ?_⟩
      rcases hb with ⟨h1, h2⟩ | ⟨h1, h2⟩
      · refine .inl ⟨SqL.of ((same_new ntp _) _ _ h1), SqL.of ((same_new ntp _) _ _ h2), fun D nD => ?_⟩
        refine lc_it (walk_zip (n := xs.length) (by omega)) (fun i H2 => Same H H2 ∧ H2 D = some (.lst (List.replicate i (.bl true)))) ⟨(same_new ntp _).trans (same_new nD _), upd_same⟩ (fun i H2 _ p => ⟨SqL.of (p.1 _ _ h1), SqL.of (p.1 _ _ h2)⟩) ?_ ?_
        · rintro i x H2 H3 hi ⟨s, hD⟩ ⟨t, u, v, rfl, nt, e, eu, ev⟩
          obtain ⟨s3, d3, t3, q3⟩ := turn D i H2 H3 t u v nt e s hD hi (q i u v eu ev)
          refine ⟨t, [u, v], rfl, SqT.of t3, rfl, u, [v], rfl, v, [], rfl, rfl, rfl, ?_⟩
          refine ⟨_, rfl, _, rfl, u, v, rfl, q3, fun H4 s4 => ⟨_, s4 _ _ d3, ?_, ?_⟩⟩
          · rw [List.length_replicate]
            exact small1000 (by omega)
          · have n0 : H D = none := (same_new ntp _).free nD
            refine ⟨fun z o hz => ?_, by rw [upd_same, List.replicate_succ']⟩
            rw [upd_ne (ne_of_none hz n0)]
            exact s4 _ _ (s3 _ _ hz)
        · rintro H2 ⟨s, hD⟩
          refine ⟨D, List.replicate xs.length true, rfl, fin D H2 hD, ?_⟩
          rw [eall]
          exact k _ s
      · refine .inr ⟨SqT.of ((same_new ntp _) _ _ h1), SqT.of ((same_new ntp _) _ _ h2), fun D nD => ?_⟩
        refine lc_it (walk_zipT (n := xs.length) rfl l1) (fun i H2 => Same H H2 ∧ H2 D = some (.lst (List.replicate i (.bl true)))) ⟨(same_new ntp _).trans (same_new nD _), upd_same⟩ (fun i H2 _ p => ⟨SqT.of (p.1 _ _ h1), SqT.of (p.1 _ _ h2)⟩) ?_ ?_
        · rintro i x H2 H3 hi ⟨s, hD⟩ ⟨t, u, v, rfl, nt, e, eu, ev⟩
          obtain ⟨s3, d3, t3, q3⟩ := turn D i H2 H3 t u v nt e s hD hi (q i u v eu ev)
          refine ⟨t, [u, v], rfl, SqT.of t3, rfl, u, [v], rfl, v, [], rfl, rfl, rfl, ?_⟩
          refine ⟨_, rfl, _, rfl, u, v, rfl, q3, fun H4 s4 => ⟨_, s4 _ _ d3, ?_, ?_⟩⟩
          · rw [List.length_replicate]
            exact small1000 (by omega)
          · have n0 : H D = none := (same_new ntp _).free nD
            refine ⟨fun z o hz => ?_, by rw [upd_same, List.replicate_succ']⟩
            rw [upd_ne (ne_of_none hz n0)]
            exact s4 _ _ (s3 _ _ hz)
        · rintro H2 ⟨s, hD⟩
          refine ⟨D, List.replicate xs.length true, rfl, fin D H2 hD, ?_⟩
          rw [eall]
          exact k _ s
theorem same_none {f : Addr} {fd : FuncData} : FnOk P w K mg base CX0 0 f fd ["_law_found", "_law_due"] (spSame K 0) := by
  have no : ∀ vs H Q E, ¬ spSame K 0 vs H Q E := fun vs H Q E h => by
    obtain ⟨x, y, _, S, _⟩ := h
    exact S
  exact ⟨fun vs H Q E h => absurd h (no vs H Q E), fun A outer s H args us vs Q E _ _ _ _ h => absurd h (no vs H Q E)⟩
theorem same_all {f : Addr} {fd : FuncData} (F : Fun K "_law_same" "_law_same" sSame f fd) (T : TxtS mg) (bG : Binds K fd ["_law_found", "_law_due"] []) (gG : mg "_law_same" = some (.ref f)) :
    ∀ n : Nat, FnOk P w K mg base CX0 n f fd ["_law_found", "_law_due"] (spSame K n)
  | 0 => same_none
  | n + 1 => ok_same F T (same_all F T bG gG n) bG gG
end
end K1
set_option maxRecDepth 100000
set_option maxHeartbeats 1000000
namespace K1
open PySem L2
theorem units65 {k : Nat} {A : Around} (r : Room (k + 1) A) : A.units + 65 < cLine := by
  have := r.un
  omega
/-! ### _law_rising -/
def low (t : List Int) (R : PL) : PL := R.filter fun p => decide (rk p.2 ≤ rk t)
theorem low_cut {t : List Int} : ∀ {R : PL}, Asc R → R.take (low t R).length = low t R ∧ (∀ p ∈ R.drop (low t R).length, rk t < rk p.2) ∧ ∀ p ∈ R.take (low t R).length, rk p.2 ≤ rk t
  | [], _ => ⟨rfl, fun _ h => by simp at h, fun _ h => by simp at h⟩
  | a :: R, h => by
    obtain ⟨h1, h2⟩ := List.pairwise_cons.mp h
    obtain ⟨i1, i2, i3⟩ := low_cut (t := t) h2
    by_cases c : rk a.2 ≤ rk t
    · have e : low t (a :: R) = a :: low t R := by
        unfold low
        rw [List.filter_cons, if_pos (decide_eq_true c)]
      rw [e, List.length_cons, List.take_succ_cons, List.drop_succ_cons, i1]
      refine ⟨rfl, i2, fun p hp => ?_⟩
      rcases List.mem_cons.mp hp with z | z
      · rw [z]; exact c
      · exact i3 p (by rw [i1]; exact z)
    · have e : low t (a :: R) = [] := by
        unfold low
        refine List.filter_eq_nil_iff.mpr fun p hp => ?_
        rcases List.mem_cons.mp hp with z | z
        · rw [z]; simpa using c
        · have := h1 p z
          simp only [decide_eq_true_eq]
          omega
      rw [e]
      refine ⟨rfl, fun p hp => ?_, fun p hp => by simp at hp⟩
      rcases List.mem_cons.mp hp with z | z
      · rw [z]; omega
      · have := h1 p z
        omega
theorem op_leTK {X : Cx} {K : PySem.W.Frag} (hu : X.A.units < cLine) (h : X.K = K := by rfl) : OpR X (compareOp .LtE) (rLeT K) := by
  subst h
  exact op_leT hu
def spRising : Sp := fun vs H Q _ => ∃ (a : Addr) (L : PL), vs = [.ref a] ∧ H a = some (.lst (refs L)) ∧ Ats H L ∧ Oks L ∧ (keys L).Nodup ∧ L.length ≤ 50 ∧
  ∀ (f : Addr) (R : PL) (H' : Hp), Same H H' → H f = none → H' f = some (.lst (refs R)) → R.Perm L → Asc R → Q (.ref f) H'
section
variable {P : Program} {w : World} {K : PySem.W.Frag} {mg : Str → Option Value} {base : Heap}
abbrev NRi : List Str := ["_law_things", "_law_found", "_law_thing", "_law_x"]
theorem scRi : FnScope NRi ["_law_things"] (defScope sRising) := ⟨rfl, rfl, rfl, by decide +kernel, rfl, by decide +kernel, by decide +kernel⟩
theorem ok_rising {f : Addr} {fd : FuncData} (F : Fun K "_law_rising" "_law_rising" sRising f fd) (hl : mg "len" = none) : FnOk P w K mg base CX0 1 f fd ["_law_things"] spRising := by
  refine F.ok scRi (fun vs H Q E h => ?_) (fun cdv A outer s H vs Q E hr h => ?_)
  · obtain ⟨a, L, rfl, _⟩ := h
    rfl
  · obtain ⟨a, L, rfl, ha, aL, oL, nd, few, k⟩ := h
    refine ⟨_, pss_cons (ps_set (i := 1) scRi.nd rfl (.inl rfl) (pe_lst pa_nil))
      (pss_cons (ps_for PassesOwn.never rfl (pi_list (pv 0)) (pg_name (i := 2) scRi.nd rfl (Or.inr rfl))
        (pss_one (ps_expr (pe_bm PySem.F.plainAttrs_list PySem.F.slot_list_insert PySem.F.type_list_insert mt_insert (pv 1)
          (pa_cons (pe_callB call_len_seq (by rfl) hl PySem.boot_len (pa_cons (pe_lc (own := [("_law_x", 3)]) (g := gName 3) rfl scRi.nd (pi_list (pv 1)) (blkOk_by (N := NRi) (sc := defScope sRising) (by decide +kernel))
            (fun _ _ _ _ _ => pg_name (i := 3) scRi.nd rfl (Or.inl rfl)) (fun _ _ _ _ _ => pts_one (pt_cmpR (op_leTK (K := K) hr.units0) (pv 3) (pv 2) (nomark _))) (fun _ _ _ _ _ => pv 3)) pa_nil)) (pa_cons (pv 2) pa_nil))))))
      (pss_one (ps_ret (pv 1)))), ?_⟩
    refine ⟨sz (Nat.le_of_ble_eq_true rfl), fun fo nf => ⟨_, rfl, a, rfl, ⟨_, SqL.of (same_new nf _ _ _ ha)⟩, ?_⟩⟩
    have s0 := same_new nf (.lst [])
    refine for_list (xs := refs L) (fun i σ H2 => ∃ (R : PL) (v : Option V), σ = [some (.ref a), some (.ref fo), v, none] ∧ H2 fo = some (.lst (refs R)) ∧ R.Perm (L.take i) ∧ Asc R ∧ Same H H2) ⟨[], _, rfl, upd_same, List.Perm.refl _, .nil, s0⟩
      (fun i σ H2 _ ⟨_, _, _, _, _, _, s2⟩ => SqL.of (s2 _ _ ha)) ?_ ?_
    · rintro i x σ H2 hx ⟨R, v, rfl, hf, pm, asc, s2⟩
      obtain ⟨p, hp, rfl⟩ := refs_get hx
      have mem := List.mem_of_getElem? hp
      have li : i < L.length := (List.getElem?_eq_some_iff.mp hp).1
      have lR : R.length = i := by rw [pm.length_eq, List.length_take]; omega
      have subR : ∀ q ∈ R, q ∈ L := fun q hq => List.mem_of_mem_take (pm.mem_iff.mp hq)
      refine ⟨_, rfl, .inl ⟨rfl, _, SqL.of hf⟩, _, rfl, fo, rfl, ⟨_, SqL.of hf⟩, fun D nD => ?_⟩
      have nDf : D ≠ fo := fun e => by rw [e, hf] at nD; cases nD
      refine lc_list (xs := refs R) (fun j H9 => H9 D = some (.lst (refs (low p.2 (R.take j)))) ∧ Same H2 H9) ⟨upd_same, same_new nD _⟩ (fun j H9 _ h9 => SqL.of (h9.2 _ _ hf)) ?_ ?_
      · rintro j y H9 hy ⟨h9, s9⟩
        obtain ⟨q, hq, rfl⟩ := refs_get hy
        have mq := subR q (List.mem_of_getElem? hq)
        have lj : j < R.length := (List.getElem?_eq_some_iff.mp hq).1
        have sA := s2.trans s9
        refine ⟨rfl, _, rfl, _, rfl, q.1, p.1, q.2, p.2, rfl, rfl, SqT.of (sA _ _ (aL q mq)), SqT.of (sA _ _ (aL p mem)), ?_⟩
        have step : low p.2 (R.take (j + 1)) = if decide (rk q.2 ≤ rk p.2) = true then low p.2 (R.take j) ++ [q] else low p.2 (R.take j) := by
          unfold low
          rw [List.take_add_one, hq, Option.toList_some, List.filter_append]
          by_cases e : decide (rk q.2 ≤ rk p.2) = true
          · rw [if_pos e, List.filter_cons, if_pos e]; rfl
          · rw [if_neg e, List.filter_cons, if_neg e, List.filter_nil, List.append_nil]
        rw [lex_le, (oL p mem).lt (oL q mq)]
        refine ⟨_, rfl, ite2 (fun e => ?_) fun e => ?_⟩
        · have e' : decide (rk q.2 ≤ rk p.2) = true := by
            simp only [Bool.not_eq_true', decide_eq_false_iff_not] at e
            exact decide_eq_true (by omega)
          refine ⟨_, rfl, _, h9, ?_, ?_, ?_⟩
          · rw [refs_len]
            have z : (low p.2 (R.take j)).length ≤ (R.take j).length := List.length_filter_le ..
            rw [List.length_take] at z
            exact small1000 (by omega)
          · rw [upd_same, step, if_pos e', refs_app]
            rfl
          · intro b o hb
            rw [upd_ne (ne_of_none hb nD)]
            exact s9 _ _ hb
        · have e' : ¬ decide (rk q.2 ≤ rk p.2) = true := by
            intro z
            have z' := of_decide_eq_true z
            have w : decide (rk p.2 < rk q.2) = false := decide_eq_false (by omega)
            rw [w] at e
            first
              | exact absurd e (by decide)
              | exact e rfl
          exact ⟨by rw [h9, step, if_neg e'], s9⟩
      · rintro H9 ⟨h9, s9⟩
        rw [refs_len, List.take_of_length_le (Nat.le_refl _)] at h9
        obtain ⟨c1, c2, c3⟩ := low_cut (t := p.2) asc
        have ll : (low p.2 R).length ≤ R.length := List.length_filter_le ..
        refine ⟨D, _, rfl, .inl (SqL.of h9), _, rfl, fo, refs R, _, _, rfl, rfl, s9 _ _ hf, small1000 (by rw [refs_len]; omega), ?_, ?_, ?_⟩
        · exact Int.natCast_nonneg _
        · rw [refs_len]
          have z : (2 : Int) ^ 63 = 9223372036854775808 := by decide
          omega
        · refine ⟨R.take (low p.2 R).length ++ [p] ++ R.drop (low p.2 R).length, _, rfl, ?_, ?_, ?_, ?_⟩
          · rw [upd_same, refs_len]
            show some (HO.lst ((refs R).take (low p.2 R).length ++ [V.ref p.1] ++ (refs R).drop (low p.2 R).length)) = _
            rw [refs_app, refs_app, refs_take]
            unfold refs
            rw [List.map_drop]
            rfl
          · rw [List.take_add_one, hp, Option.toList_some, List.append_assoc]
            have z : ([p] ++ R.drop (low p.2 R).length).Perm (R.drop (low p.2 R).length ++ [p]) := List.perm_append_comm
            refine (List.Perm.append_left _ z).trans ?_
            rw [← List.append_assoc, List.take_append_drop]
            exact List.Perm.append_right _ pm
          · have ne : ∀ q ∈ R, rk q.2 ≠ rk p.2 := fun q hq e => by
              have hk := (oL q (subR q hq)).inj (oL p mem) e
              have hq' := pm.mem_iff.mp hq
              obtain ⟨j, hj⟩ := List.mem_iff_getElem?.mp hq'
              rw [List.getElem?_take] at hj
              split at hj
              · rename_i lt
                have a1 : (keys L)[j]? = some q.2 := by unfold keys; rw [List.getElem?_map, hj]; rfl
                have a2 : (keys L)[i]? = some p.2 := by unfold keys; rw [List.getElem?_map, hp]; rfl
                rw [hk] at a1
                have lk : (keys L).length = L.length := List.length_map _
                exact absurd ((List.getElem?_inj (i := j) (j := i) (by omega) nd).mp (a1.trans a2.symm)) (by omega)
              · cases hj
            rw [List.append_assoc]
            refine List.pairwise_append.mpr ⟨List.Pairwise.sublist (List.take_sublist _ _) asc, List.pairwise_cons.mpr ⟨fun q hq => c2 q hq, List.Pairwise.sublist (List.drop_sublist _ _) asc⟩, fun q hq r hr => ?_⟩
            have h3 := c3 q hq
            have h4 := ne q (List.mem_of_mem_take hq)
            rcases List.mem_cons.mp hr with z | z
            · rw [z]; omega
            · have := c2 r z
              omega
          · have nf' : ∀ b o, H b = some o → b ≠ fo := fun b o hb => ne_of_none hb nf
            intro b o hb
            rw [upd_ne (nf' b o hb)]
            exact s9 _ _ (s2 _ _ hb)
    · rintro σ H2 ⟨R, v, rfl, hf, pm, asc, s2⟩
      rw [refs_len, List.take_of_length_le (Nat.le_refl _)] at pm
      exact ⟨_, rfl, k fo R H2 s2 nf hf pm asc⟩
end
end K1
set_option maxRecDepth 100000
set_option maxHeartbeats 1000000
namespace K1
open PySem L2
theorem Spr.up {H : Hp} {st l : Addr} {cs : List Int} {n m : Nat} (S : Spr H st l cs n) (h : n ≤ m) : Spr H st l cs m := by
  obtain ⟨⟨i, k, c, g, e, q1, q2, q3, q4, q5⟩, r1, r2, r3⟩ := S
  exact ⟨⟨i, k, c, g, e, q1, q2, q3, q4, Nat.le_trans q5 h⟩, r1, r2, r3⟩
theorem Spr.no {H : Hp} {st l : Addr} {cs : List Int} {n : Nat} {b : Addr} {o : HO} (S : Spr H st l cs n) (h : H b = some o) (ho : ∀ xs, o ≠ .lst xs) : b ≠ st := by
  obtain ⟨⟨i, k, c, g, e, _⟩, _⟩ := S
  intro z
  rw [z, e] at h
  exact ho _ (Option.some.inj h).symm
theorem Ats.but {H H' : Hp} {L : PL} {st l : Addr} {cs : List Int} {n : Nat} (h : Ats H L) (S : Spr H st l cs n) (b : But st H H') : Ats H' L := fun p hp => b p.1 _ (S.no (h p hp) fun _ z => by cases z) (h p hp)
theorem LotAt.but {C : Addr} {H H' : Hp} {a : Addr} {L : PL} {st l : Addr} {cs : List Int} {n : Nat} (h : LotAt C H a L) (S : Spr H st l cs n) (b : But st H H') : LotAt C H' a L := by
  obtain ⟨dx, t, kn, kvs, h1, h2, h3, h4, r⟩ := h
  exact ⟨dx, t, kn, kvs, b _ _ (S.no h1 fun _ z => by cases z) h1, b _ _ (S.no h2 fun _ z => by cases z) h2, b _ _ (S.no h3 fun _ z => by cases z) h3, h4.but S b, r⟩
/-- a place is drawn -/
theorem ok2 {a b : Int} (a0 : 0 ≤ a) (a1 : a < 4) (b0 : 0 ≤ b) (b1 : b < 4) : Ok [a, b] := by
  refine ⟨by simp, by show 2 ≤ 4; decide, fun n hn => ?_⟩
  simp only [List.mem_cons, List.not_mem_nil, or_false] at hn
  rcases hn with rfl | rfl
  · exact ⟨a0, a1⟩
  · exact ⟨b0, b1⟩
theorem ok4 {a b c d : Int} (a0 : 0 ≤ a) (a1 : a < 4) (b0 : 0 ≤ b) (b1 : b < 4) (c0 : 0 ≤ c) (c1 : c < 4) (d0 : 0 ≤ d) (d1 : d < 4) : Ok [a, b, c, d] := by
  refine ⟨by simp, by show 4 ≤ 4; decide, fun n hn => ?_⟩
  simp only [List.mem_cons, List.not_mem_nil, or_false] at hn
  rcases hn with rfl | rfl | rfl | rfl
  · exact ⟨a0, a1⟩
  · exact ⟨b0, b1⟩
  · exact ⟨c0, c1⟩
  · exact ⟨d0, d1⟩
def spDrawn : Sp := fun vs H Q _ => ∃ (st l : Addr) (cs : List Int) (n : Nat), vs = [.ref st] ∧ Spr H st l cs n ∧ n + 40 < 1000000 ∧
  ∀ (f : Addr) (L : PL) (H' : Hp), But st H H' → H f = none → H' f = some (.lst (refs L)) → Ats H' L → Oks L → (keys L).Nodup → L.length ≤ 8 → Spr H' st l cs (n + 40) → Q (.ref f) H'
structure LawF (P : Program) (w : World) (K : PySem.W.Frag) (mg : Str → Option Value) (base : Heap) : Prop where
  range : mg "range" = none
  take : ∃ f fd, mg "_law_take" = some (.ref f) ∧ PySem.W.keepIn K (.ref f) = true ∧ Binds K fd ["_law_state", "_law_many"] [] ∧ FnOk P w K mg base CX0 1 f fd ["_law_state", "_law_many"] spTake
theorem op_notInDK {X : Cx} {K : PySem.W.Frag} (hu : X.A.units + 65 < cLine) (h : X.K = K := by rfl) : OpR X (compareOp .NotIn) (rNotInD K) := by
  subst h
  exact op_notInD hu
theorem op_inDK {X : Cx} {K : PySem.W.Frag} (hu : X.A.units + 65 < cLine) (h : X.K = K := by rfl) : OpR X (compareOp .In) (rInD K) := by
  subst h
  exact op_inD hu
/-- what stands behind i turns -/
def Dr (H : Hp) (st l fo : Addr) (cs : List Int) (n i : Nat) (H2 : Hp) : Prop := ∃ L : PL, H2 fo = some (.lst (refs L)) ∧ Ats H2 L ∧ Oks L ∧ (keys L).Nodup ∧ L.length ≤ i ∧ Spr H2 st l cs (n + 5 * i) ∧ But st H H2
section
variable {P : Program} {w : World} {K : PySem.W.Frag} {mg : Str → Option Value} {base : Heap}
theorem dr_turn {H H2 H6 : Hp} {st l fo pa : Addr} {cs : List Int} {n i m : Nat} {L : PL} {ns : List Int} (nf : H fo = none) (nst : fo ≠ st) (lst : l ≠ fo) (hi : i < 8) (hf : H2 fo = some (.lst (refs L))) (aL : Ats H2 L) (oL : Oks L) (nd : (keys L).Nodup) (le : L.length ≤ i) (S2 : Spr H2 st l cs (n + 5 * i)) (bt : But st H H2)
    (hm : m ≤ n + 5 * i + 5) (S6 : Spr H6 st l cs m) (b : But st H2 H6) (hp : H6 pa = some (.tup (ns.map V.int))) (on : Ok ns) (npa : H2 pa = none) :
    (Dp K H6 (.ref fo) (.list ((keys L).map dT)) ∧ Dp K H6 (.ref pa) (dT ns)) ∧ H6 fo = some (.lst (refs L)) ∧ (ns ∉ keys L → Dr H st l fo cs n (i + 1) (upd H6 fo (.lst (refs L ++ [.ref pa])))) ∧ Dr H st l fo cs n (i + 1) H6 := by
  have h6 := b fo _ nst hf
  have a6 := aL.but S2 b
  have S7 := S6.up (m := n + 5 * (i + 1)) (by omega)
  refine ⟨⟨.lst (SqL.of h6) (dp_refs a6), dp_T hp⟩, h6, fun no => ?_, L, h6, a6, oL, nd, by omega, S7, bt.trans b⟩
  have tupne : ∀ {c : Addr} {xs : List V}, H6 c = some (.tup xs) → c ≠ fo := fun hc e => by rw [e, h6] at hc; cases hc
  refine ⟨L ++ [(pa, ns)], by rw [upd_same, refs_app]; rfl, fun q hq => ?_, fun q hq => ?_, ?_, ?_, ?_, fun z o nz hz => ?_⟩
  · rcases List.mem_append.mp hq with w | w
    · rw [upd_ne (tupne (a6 q w))]
      exact a6 q w
    · rw [List.mem_singleton.mp w, upd_ne (tupne hp)]
      exact hp
  · rcases List.mem_append.mp hq with w | w
    · exact oL q w
    · rw [List.mem_singleton.mp w]
      exact on
  · rw [keys_app]
    refine List.nodup_append.mpr ⟨nd, List.nodup_cons.mpr ⟨List.not_mem_nil, List.nodup_nil⟩, fun x hx y hy e => ?_⟩
    rw [List.mem_singleton.mp hy] at e
    have e' : x = ns := e
    exact no (e' ▸ hx)
  · rw [List.length_append, List.length_singleton]
    omega
  · obtain ⟨⟨i', k, c, g, e, q⟩, r1, r2, r3⟩ := S7
    refine ⟨⟨i', k, c, g, by rw [upd_ne nst.symm]; exact e, q⟩, ?_, r2, r3⟩
    rw [upd_ne lst]
    exact r1
  · rw [upd_ne (ne_of_none hz nf)]
    exact (bt.trans b) z o nz hz
abbrev NDr : List Str := ["_law_state", "_law_found", "_law_k", "_law_place"]
theorem scDr : FnScope NDr ["_law_state"] (defScope sDrawn) := ⟨rfl, rfl, rfl, by decide +kernel, rfl, by decide +kernel, by decide +kernel⟩
theorem ok_drawn {f : Addr} {fd : FuncData} (F : Fun K "_law_drawn" "_law_drawn" sDrawn f fd) (T : LawF P w K mg base) : FnOk P w K mg base CX0 2 f fd ["_law_state"] spDrawn := by
  obtain ⟨f1, fd1, g1, k1, b1, G1⟩ := T.take
  refine F.ok scDr (fun vs H Q E h => ?_) (fun cdv A outer s H vs Q E hr h => ?_)
  · obtain ⟨st, l, cs, n, rfl, _⟩ := h
    rfl
  · obtain ⟨st, l, cs, n, rfl, S, hn, k⟩ := h
    refine ⟨_, pss_cons (ps_set (i := 1) scDr.nd rfl (.inl rfl) (pe_lst pa_nil))
      (pss_cons (ps_for PassesOwn.never rfl (pi_range1 (by rfl) T.range (pa_cons pe_int pa_nil)) (pg_name (i := 2) scDr.nd rfl (Or.inl rfl))
        (pss_cons (ps_set (i := 3) scDr.nd rfl (.inl rfl) (pe_tup (pa_cons (pe_call G1 hr (by rfl) g1 k1 b1 .nil pass0 (pa_cons (pv 0) (pa_cons pe_int pa_nil))) (pa_cons (pe_call G1 hr (by rfl) g1 k1 b1 .nil pass0 (pa_cons (pv 0) (pa_cons pe_int pa_nil))) pa_nil))))
        (pss_cons (ps_if (pt_cmpR op_eq (pe_call G1 hr (by rfl) g1 k1 b1 .nil pass0 (pa_cons (pv 0) (pa_cons pe_int pa_nil))) pe_int (nomark _))
          (pss_one (ps_set (i := 3) scDr.nd rfl (.inl rfl) (pe_op op_catT (pv 3) (pe_tup (pa_cons (pe_call G1 hr (by rfl) g1 k1 b1 .nil pass0 (pa_cons (pv 0) (pa_cons pe_int pa_nil))) (pa_cons (pe_call G1 hr (by rfl) g1 k1 b1 .nil pass0 (pa_cons (pv 0) (pa_cons pe_int pa_nil))) pa_nil)))))) pss_nil)
        (pss_one (ps_if (pt_cmpR (op_notInDK (K := K) (units65 hr)) (pv 3) (pv 1) rfl) (pss_one (ps_expr (pe_bm PySem.F.plainAttrs_list PySem.F.slot_list_append PySem.F.type_list_append mt_append (pv 1) (pa_cons (pv 3) pa_nil)))) pss_nil)))))
      (pss_one (ps_ret (pv 1)))), ?_⟩
    refine ⟨sz (Nat.le_of_ble_eq_true rfl), fun fo nf => ⟨8, rfl, by decide, by decide, ?_⟩⟩
    have nst := S.not nf
    have s0 := same_new nf (.lst [])
    have lst : l ≠ fo := ne_of_none S.ls nf
    refine for_range (n := 8) (fun i σ H2 => (∃ v2 v3 : Option V, σ = [some (.ref st), some (.ref fo), v2, v3]) ∧ Dr H st l fo cs n i H2)
      ⟨⟨_, _, rfl⟩, [], upd_same, (fun _ h => nomatch h), (fun _ h => nomatch h), List.nodup_nil, Nat.le_refl _, S.mono s0, But.of s0⟩ ?_ ?_
    · rintro i σ H2 hi ⟨⟨v2, v3, rfl⟩, L, hf, aL, oL, nd, le, S2, bt⟩
      refine ⟨_, rfl, st, l, cs, _, 3, rfl, by decide, by decide, by omega, S2, fun r1 H3 r10 r11 S3 hk3 => ?_⟩
      refine ⟨_, rfl, st, l, cs, _, 4, rfl, by decide, by decide, by omega, S3, fun r2 H4 r20 r21 S4 hk4 => ?_⟩
      have b24 : But st H2 H4 := (But.eq hk3).trans (But.eq hk4)
      refine ⟨sz (Nat.le_of_ble_eq_true rfl), fun p1 n1 => ?_⟩
      have s4 := same_new n1 (.tup [.int r1, .int r2])
      refine ⟨_, rfl, st, l, cs, _, 2, rfl, by decide, by decide, by omega, S4.mono s4, fun r3 H5 r30 r31 S5 hk5 => ?_⟩
      have b25 : But st H2 H5 := (b24.trans (But.of s4)).trans (But.eq hk5)
      have p1st : p1 ≠ st := S4.not n1
      have p1v : H5 p1 = some (.tup [.int r1, .int r2]) := by rw [hk5 p1 p1st]; exact upd_same
      have n1' : H2 p1 = none := b24.free n1 p1st
      refine ⟨rfl, _, rfl, ite2 (fun _ => ?_) fun _ => ?_⟩
      · refine ⟨_, rfl, _, rfl, st, l, cs, _, 2, rfl, by decide, by decide, by omega, S5, fun r4 H6 r40 r41 S6 hk6 => ?_⟩
        refine ⟨_, rfl, st, l, cs, _, 4, rfl, by decide, by decide, by omega, S6, fun r5 H7 r50 r51 S7 hk7 => ?_⟩
        have b57 : But st H5 H7 := (But.eq hk6).trans (But.eq hk7)
        have p1w : H7 p1 = some (.tup [.int r1, .int r2]) := b57 _ _ p1st p1v
        refine ⟨sz (Nat.le_of_ble_eq_true rfl), fun p2 n2 => ?_⟩
        have s7 := same_new n2 (.tup [.int r4, .int r5])
        refine ⟨p1, p2, [.int r1, .int r2], [.int r4, .int r5], rfl, rfl, SqT.of (s7 _ _ p1w), SqT.of upd_same, (fun e => nomatch e), sz (Nat.le_of_ble_eq_true rfl), (fun e => nomatch e), fun _ p3 n3 => ?_⟩
        have s8 := same_new n3 (.tup ([.int r1, .int r2] ++ [.int r4, .int r5]))
        have b28 : But st H2 _ := (b25.trans b57).trans (But.of (s7.trans s8))
        have n3' : H2 p3 = none := (b25.trans b57).free (s7.free n3) (S7.not (s7.free n3))
        obtain ⟨⟨d1, d2⟩, h9, t1, t2⟩ := dr_turn (K := K) nf nst lst hi hf aL oL nd le S2 bt (m := _) (ns := [r1, r2, r4, r5]) (by omega) (S7.mono (s7.trans s8)) b28 upd_same (ok4 r10 (by omega) r20 (by omega) r40 (by omega) r50 (by omega)) n3'
        refine ⟨_, rfl, _, rfl, _, _, d2, d1, sh_dT _, okd_list (okd_keys _), _, rfl, ?_⟩
        rw [any_keys]
        refine ite2 (fun e => ?_) fun e => ?_
        · refine ⟨_, rfl, .inl ⟨rfl, _, SqL.of h9⟩, _, rfl, fo, refs L, _, rfl, rfl, h9, small1000 (by rw [refs_len]; omega), ⟨_, _, rfl⟩, t1 (by simpa using e)⟩
        · exact ⟨⟨_, _, rfl⟩, t2⟩
      · obtain ⟨⟨d1, d2⟩, h9, t1, t2⟩ := dr_turn (K := K) nf nst lst hi hf aL oL nd le S2 bt (m := _) (ns := [r1, r2]) (by omega) S5 b25 p1v (ok2 r10 (by omega) r20 (by omega)) n1'
        refine ⟨_, rfl, _, rfl, _, _, d2, d1, sh_dT _, okd_list (okd_keys _), _, rfl, ?_⟩
        rw [any_keys]
        refine ite2 (fun e => ?_) fun e => ?_
        · refine ⟨_, rfl, .inl ⟨rfl, _, SqL.of h9⟩, _, rfl, fo, refs L, _, rfl, rfl, h9, small1000 (by rw [refs_len]; omega), ⟨_, _, rfl⟩, t1 (by simpa using e)⟩
        · exact ⟨⟨_, _, rfl⟩, t2⟩
    · rintro σ H2 ⟨⟨v2, v3, rfl⟩, L, hf, aL, oL, nd, le, S2, bt⟩
      exact ⟨_, rfl, k fo L H2 bt nf hf aL oL nd le S2⟩
end
end K1
set_option maxRecDepth 100000
set_option maxHeartbeats 2000000
namespace K1
open PySem L2
/-! ### counting places -/
theorem asc_nodup {L : PL} (h : Asc L) : (keys L).Nodup := by
  refine List.pairwise_map.mpr (List.Pairwise.imp (fun {p q} z e => ?_) h)
  rw [e] at z
  exact absurd z (Int.lt_irrefl _)
theorem nodup_lt {l D : List (List Int)} {x : List Int} (nd : l.Nodup) (h : ∀ y ∈ l, y ∈ D) (hx : x ∈ D) (no : x ∉ l) : l.length < D.length := by
  have z := nodup_le (x :: l) D (List.nodup_cons.mpr ⟨no, nd⟩) fun y hy => by
    rcases List.mem_cons.mp hy with e | e
    · rw [e]; exact hx
    · exact h y e
  exact z
theorem keys_len (L : PL) : (keys L).length = L.length := List.length_map _
theorem same_len {L A : PL} (nL : (keys L).Nodup) (nA : (keys A).Nodup) (h : ∀ k, k ∈ keys L ↔ k ∈ keys A) : L.length = A.length := by
  have a := nodup_le _ _ nL fun k hk => (h k).mp hk
  have b := nodup_le _ _ nA fun k hk => (h k).mpr hk
  rw [keys_len, keys_len] at a b
  omega
def loB (A B : PL) : Bool := decide ((pick true B A).length = A.length)
def hiB (A B : PL) : Bool := decide ((pick true B A).length = B.length)
theorem lo_iff {A B : PL} : loB A B = true ↔ ∀ k ∈ keys A, k ∈ keys B := by
  unfold loB pick
  rw [decide_eq_true_eq, List.length_filter_eq_length_iff]
  constructor
  · intro h k hk
    obtain ⟨p, hp, rfl⟩ := mem_keys.mp hk
    simpa using h p hp
  · intro h p hp
    simpa using h p.2 (mem_keys.mpr ⟨p, hp, rfl⟩)
theorem hi_iff {A B : PL} (nA : (keys A).Nodup) (nB : (keys B).Nodup) : hiB A B = true ↔ ∀ k ∈ keys B, k ∈ keys A := by
  have nd : (keys (pick true B A)).Nodup := List.Nodup.sublist (List.Sublist.map _ List.filter_sublist) nA
  have sub : ∀ k ∈ keys (pick true B A), k ∈ keys B := fun k hk => by simpa using (pick_key.mp hk).2
  have e : (keys (pick true B A)).length = (pick true B A).length := keys_len _
  unfold hiB
  rw [decide_eq_true_eq]
  constructor
  · intro h k hk
    apply Classical.byContradiction
    intro no
    have z := nodup_lt nd sub hk fun w => no (pick_key.mp w).1
    rw [keys_len, keys_len] at z
    omega
  · intro h
    have a := nodup_le _ _ nd sub
    have b := nodup_le _ (keys (pick true B A)) nB fun k hk => pick_key.mpr ⟨h k hk, by simpa using hk⟩
    rw [keys_len, keys_len] at a b
    omega
theorem within_iff {L M : PL} : within L M = true ↔ ∀ k ∈ keys L, k ∈ keys M := by
  unfold within
  rw [List.all_eq_true]
  constructor
  · intro h k hk
    obtain ⟨p, hp, rfl⟩ := mem_keys.mp hk
    simpa using h p hp
  · intro h p hp
    simpa using h p.2 (mem_keys.mpr ⟨p, hp, rfl⟩)
theorem less_iff {L M : PL} (nL : (keys L).Nodup) (nM : (keys M).Nodup) : lessT L M = true ↔ (∀ k ∈ keys L, k ∈ keys M) ∧ ¬ ∀ k ∈ keys M, k ∈ keys L := by
  unfold lessT
  rw [Bool.and_eq_true, within_iff, decide_eq_true_eq]
  constructor
  · rintro ⟨h, lt⟩
    refine ⟨h, fun h2 => ?_⟩
    have z := nodup_le _ _ nM h2
    rw [keys_len, keys_len] at z
    omega
  · rintro ⟨h, no⟩
    refine ⟨h, ?_⟩
    have ⟨k, hk⟩ : ∃ k, ¬ (k ∈ keys M → k ∈ keys L) := Classical.byContradiction fun z => no fun k => Classical.byContradiction fun w => z ⟨k, w⟩
    have hk2 := Classical.not_imp.mp hk
    have z := nodup_lt nL h hk2.1 hk2.2
    rw [keys_len, keys_len] at z
    omega
theorem b_eq {a b : Bool} (h : a = true ↔ b = true) : a = b := by
  cases a <;> cases b
  · rfl
  · exact absurd (h.mpr rfl) (by decide)
  · exact absurd (h.mp rfl) (by decide)
  · rfl
structure CmpF (L M A B : PL) : Prop where
  le : within L M = loB A B
  lt : lessT L M = (loB A B && !hiB A B)
  ge : within M L = hiB A B
  gt : lessT M L = (hiB A B && !loB A B)
  eq : decide (keys L = keys M) = (loB A B && hiB A B)
  eq' : decide (keys M = keys L) = (loB A B && hiB A B)
theorem cmp_facts {L M A B : PL} (aL : Asc L) (aM : Asc M) (oL : Oks L) (oM : Oks M) (nA : (keys A).Nodup) (nB : (keys B).Nodup) (hL : ∀ k, k ∈ keys L ↔ k ∈ keys A) (hM : ∀ k, k ∈ keys M ↔ k ∈ keys B) : CmpF L M A B := by
  have w1 : (∀ k ∈ keys L, k ∈ keys M) ↔ loB A B = true := by
    rw [lo_iff]
    exact ⟨fun h k hk => (hM k).mp (h k ((hL k).mpr hk)), fun h k hk => (hM k).mpr (h k ((hL k).mp hk))⟩
  have w2 : (∀ k ∈ keys M, k ∈ keys L) ↔ hiB A B = true := by
    rw [hi_iff nA nB]
    exact ⟨fun h k hk => (hL k).mp (h k ((hM k).mpr hk)), fun h k hk => (hL k).mpr (h k ((hM k).mp hk))⟩
  have ke : (keys L = keys M) ↔ (loB A B = true ∧ hiB A B = true) := by
    rw [← w1, ← w2]
    constructor
    · intro e
      rw [e]
      exact ⟨fun k hk => hk, fun k hk => hk⟩
    · rintro ⟨h1, h2⟩
      exact asc_keys aL aM oL oM fun k => ⟨h1 k, h2 k⟩
  refine ⟨b_eq (within_iff.trans w1), b_eq ?_, b_eq (within_iff.trans w2), b_eq ?_, b_eq ?_, b_eq ?_⟩
  · rw [less_iff (asc_nodup aL) (asc_nodup aM), w1, w2]
    simp
  · rw [less_iff (asc_nodup aM) (asc_nodup aL), w1, w2]
    simp
  · rw [decide_eq_true_eq, ke, Bool.and_eq_true]
  · rw [decide_eq_true_eq, eq_comm, ke, Bool.and_eq_true]
theorem same_bls {K : PySem.W.Frag} {H : Hp} {a b : Addr} {xs ys : List V} (bs : List Bool) {n : Nat} (ha : H a = some (.lst xs)) (hb : H b = some (.lst ys)) (ex : xs = bs.map V.bl) (ey : ys = bs.map V.bl) (few : bs.length ≤ 1000) : SameV K H (n + 2) (.ref a) (.ref b) := by
  subst ex ey
  refine .inr (.inr (.inr ⟨a, b, _, _, rfl, rfl, .inl ⟨ha, hb⟩, rfl, by rw [List.length_map]; exact few, fun i u v hu hv => ?_⟩))
  rw [hu] at hv
  cases hv
  rw [List.getElem?_map] at hu
  obtain ⟨c, _, rfl⟩ := Option.map_eq_some_iff.mp hu
  exact .inr (.inl ⟨c, rfl, rfl⟩)
/-! ### _law_compared -/
def spCompared (C : Addr) : Sp := fun vs H Q _ => ∃ (o1 o2 s1 s2 : Addr) (L M A B : PL), vs = [.ref o1, .ref o2, .ref s1, .ref s2] ∧ LotAt C H o1 L ∧ LotAt C H o2 M ∧ H s1 = some (.lst (refs A)) ∧ H s2 = some (.lst (refs B)) ∧ Ats H A ∧ Ats H B ∧ (keys A).Nodup ∧ (keys B).Nodup ∧
  A.length ≤ 50 ∧ B.length ≤ 50 ∧ (∀ k, k ∈ keys L ↔ k ∈ keys A) ∧ (∀ k, k ∈ keys M ↔ k ∈ keys B) ∧ ∀ H', Same H H' → Q (.bl true) H'
/-- the comparisons of Lots -/
structure CmpO (P : Program) (w : World) (K : PySem.W.Frag) (mg : Str → Option Value) (base : Heap) (C : Addr) : Prop where
  le : ∃ g fd, Meth K C "__le__" g ∧ Binds K fd ["self", "other"] [] ∧ FnOk P w K mg base CX0 6 g fd ["self", "other"] (spCmp C within)
  lt : ∃ g fd, Meth K C "__lt__" g ∧ Binds K fd ["self", "other"] [] ∧ FnOk P w K mg base CX0 6 g fd ["self", "other"] (spCmp C lessT)
  ge : ∃ g fd, Meth K C "__ge__" g ∧ Binds K fd ["self", "other"] [] ∧ FnOk P w K mg base CX0 6 g fd ["self", "other"] (spCmp C fun L M => within M L)
  gt : ∃ g fd, Meth K C "__gt__" g ∧ Binds K fd ["self", "other"] [] ∧ FnOk P w K mg base CX0 6 g fd ["self", "other"] (spCmp C fun L M => lessT M L)
  eq : ∃ g fd, Meth K C "__eq__" g ∧ NeC K C g ∧ Binds K fd ["self", "other"] [] ∧ FnOk P w K mg base CX0 1 g fd ["self", "other"] (spCmp C fun L M => decide (keys L = keys M))
section
variable {P : Program} {w : World} {K : PySem.W.Frag} {mg : Str → Option Value} {base : Heap} {C : Addr}
abbrev NCo : List Str := ["_law_one", "_law_other", "_law_some", "_law_more", "_law_both", "_law_x", "_law_low", "_law_high", "_law_due", "_law_told", "_law_back"]
theorem scCo : FnScope NCo ["_law_one", "_law_other", "_law_some", "_law_more"] (defScope sCompared) := ⟨rfl, rfl, rfl, by decide +kernel, rfl, by decide +kernel, by decide +kernel⟩
theorem ok_compared {f fS : Addr} {fd fdS : FuncData} {m : Nat} (F : Fun K "_law_compared" "_law_compared" sCompared f fd) (c : LotC K mg C) (T : CmpO P w K mg base C) (hl : mg "len" = none)
    (GS : FnOk P w K mg base CX0 (m + 2) fS fdS ["_law_found", "_law_due"] (spSame K (m + 2))) (gS : mg "_law_same" = some (.ref fS)) (kS : PySem.W.keepIn K (.ref fS) = true) (bS : Binds K fdS ["_law_found", "_law_due"] []) (hm : m + 2 ≤ 7) :
    FnOk P w K mg base CX0 8 f fd ["_law_one", "_law_other", "_law_some", "_law_more"] (spCompared C) := by
  obtain ⟨gle, fdle, Mle, ble, Gle⟩ := T.le
  obtain ⟨glt, fdlt, Mlt, blt, Glt⟩ := T.lt
  obtain ⟨gge, fdge, Mge, bge, Gge⟩ := T.ge
  obtain ⟨ggt, fdgt, Mgt, bgt, Ggt⟩ := T.gt
  obtain ⟨geq, fdeq, Meq, Neq, beq, Geq⟩ := T.eq
  refine F.ok scCo (fun vs H Q E h => ?_) (fun cdv A outer s H vs Q E hr h => ?_)
  · obtain ⟨o1, o2, s1, s2, L, M, A, B, rfl, _⟩ := h
    rfl
  · obtain ⟨o1, o2, s1, s2, L, M, A', B, rfl, l1, l2, h1, h2, aA, aB, nA, nB, zA, zB, hL, hM, k⟩ := h
    have r6 : Room 6 _ := hr.mono (by decide)
    have r1 : Room 1 _ := hr.mono (by decide)
    have r2 : Room 2 _ := hr.mono (by decide)
    have rS : Room (m + 2) _ := hr.mono hm
    have cf := cmp_facts l1.asc l2.asc l1.oks l2.oks nA nB hL hM
    refine ⟨_, pss_cons (ps_setLc (i := 4) (own := [("_law_x", 5)]) (g := gName 5) rfl scCo.nd rfl rfl (sw_true rfl rfl rfl rfl) (pi_list (pv 2)) (blkOk_by (N := NCo) (sc := defScope sCompared) (by decide +kernel))
        (fun _ _ _ _ _ => pg_name (i := 5) scCo.nd rfl (Or.inl rfl)) (fun _ _ _ _ _ => pts_one (pt_cmpR (op_inDK (K := K) (units65 hr)) (pv 5) (pv 3) rfl)) (fun _ _ _ _ _ => pv 5))
      (pss_cons (ps_par (i := 6) (j := 7) rfl scCo.nd rfl rfl (by decide) rfl rfl (pa_cons (pe_cmpR op_eq (pe_callB call_len_seq (by rfl) hl PySem.boot_len (pa_cons (pv 4) pa_nil)) (pe_callB call_len_seq (by rfl) hl PySem.boot_len (pa_cons (pv 2) pa_nil)) (nomark _)) (pa_cons (pe_cmpR op_eq (pe_callB call_len_seq (by rfl) hl PySem.boot_len (pa_cons (pv 4) pa_nil)) (pe_callB call_len_seq (by rfl) hl PySem.boot_len (pa_cons (pv 3) pa_nil)) (nomark _)) pa_nil)) (by rfl))
      (pss_cons (ps_set (i := 8) scCo.nd rfl (.inl rfl) (pe_lst (pa_cons (pv 6) (pa_cons (pe_and (pv 6) (pe_one (pe_not (pv 7)))) (pa_cons (pv 7) (pa_cons (pe_and (pv 7) (pe_one (pe_not (pv 6)))) (pa_cons (pe_and (pv 6) (pe_one (pv 7))) (pa_cons (pe_not (pe_and (pv 6) (pe_one (pv 7)))) pa_nil))))))))
      (pss_cons (ps_set (i := 9) scCo.nd rfl (.inl rfl) (pe_lst (pa_cons (pe_cmpR (op_cmp (op := .LtE) (fun _ _ => rfl) Mle c.nf Gle r6 ble pass0) (pv 0) (pv 1) (nomark _)) (pa_cons (pe_cmpR (op_cmp (op := .Lt) (fun _ _ => rfl) Mlt c.nf Glt r6 blt pass0) (pv 0) (pv 1) (nomark _)) (pa_cons (pe_cmpR (op_cmp (op := .GtE) (fun _ _ => rfl) Mge c.nf Gge r6 bge pass0) (pv 0) (pv 1) (nomark _)) (pa_cons (pe_cmpR (op_cmp (op := .Gt) (fun _ _ => rfl) Mgt c.nf Ggt r6 bgt pass0) (pv 0) (pv 1) (nomark _)) (pa_cons (pe_cmpR (op_cmp (op := .Eq) (fun _ _ => rfl) Meq c.nf Geq r1 beq pass0) (pv 0) (pv 1) (nomark _)) (pa_cons (pe_cmpR (op_unlike Neq Geq r2 beq pass0) (pv 0) (pv 1) (nomark _)) pa_nil))))))))
      (pss_cons (ps_set (i := 10) scCo.nd rfl (.inl rfl) (pe_lst (pa_cons (pe_cmpR (op_cmp (op := .GtE) (fun _ _ => rfl) Mge c.nf Gge r6 bge pass0) (pv 1) (pv 0) (nomark _)) (pa_cons (pe_cmpR (op_cmp (op := .Gt) (fun _ _ => rfl) Mgt c.nf Ggt r6 bgt pass0) (pv 1) (pv 0) (nomark _)) (pa_cons (pe_cmpR (op_cmp (op := .LtE) (fun _ _ => rfl) Mle c.nf Gle r6 ble pass0) (pv 1) (pv 0) (nomark _)) (pa_cons (pe_cmpR (op_cmp (op := .Lt) (fun _ _ => rfl) Mlt c.nf Glt r6 blt pass0) (pv 1) (pv 0) (nomark _)) (pa_cons (pe_cmpR (op_cmp (op := .Eq) (fun _ _ => rfl) Meq c.nf Geq r1 beq pass0) (pv 1) (pv 0) (nomark _)) (pa_cons (pe_cmpR (op_unlike Neq Geq r2 beq pass0) (pv 1) (pv 0) (nomark _)) pa_nil))))))))
      (pss_one (ps_ret (pe_and (pe_call GS rS (by rfl) gS kS bS .nil pass0 (pa_cons (pv 9) (pa_cons (pv 8) pa_nil))) (pe_one (pe_call GS rS (by rfl) gS kS bS .nil pass0 (pa_cons (pv 10) (pa_cons (pv 8) pa_nil))))))))))), ?_⟩
    refine ⟨_, rfl, s1, rfl, ⟨_, SqL.of h1⟩, fun D nD => ?_⟩
    refine lc_list (xs := refs A') (fun i H9 => H9 D = some (.lst (refs (pick true B (A'.take i)))) ∧ Same H H9) ⟨upd_same, same_new nD _⟩ (fun i H9 _ h9 => SqL.of (h9.2 _ _ h1)) ?_ ?_
    · rintro i x H9 hx ⟨h9, s9⟩
      obtain ⟨p, hp, rfl⟩ := refs_get hx
      have mem := List.mem_of_getElem? hp
      refine ⟨rfl, _, rfl, _, rfl, dT p.2, (keys B).map dT, dp_T (s9 _ _ (aA p mem)), .lst (SqL.of (s9 _ _ h2)) (dp_refs (aB.mono s9)), sh_dT _, okd_list (okd_keys _), _, rfl, ?_⟩
      rw [any_keys]
      obtain ⟨z1, z2⟩ := pick_turn (b := true) (M := B) hp nD h9 s9 (Same.refl H9) (Nat.lt_of_le_of_lt zA (by decide))
      refine ite2 (fun e => ?_) fun e => ?_
      · exact ⟨_, rfl, z1 e⟩
      · exact z2 (by simpa using e)
    · rintro H9 ⟨h9, s9⟩
      rw [refs_len, List.take_of_length_le (Nat.le_refl _)] at h9
      refine ⟨_, rfl, D, _, rfl, .inl (SqL.of h9), _, rfl, s1, _, rfl, .inl (SqL.of (s9 _ _ h1)), rfl, _, rfl, D, _, rfl, .inl (SqL.of h9), _, rfl, s2, _, rfl, .inl (SqL.of (s9 _ _ h2)), rfl, _, _, rfl, ?_⟩
      have el : V.bl (decide (V.int ((refs (pick true B A')).length : Nat) = V.int ((refs A').length : Nat))) = V.bl (loB A' B) := by
        rw [refs_len, refs_len]
        exact congrArg V.bl (decide_eq_decide.mpr ⟨fun z => by injection z with z; omega, fun z => by rw [z]⟩)
      have eh : V.bl (decide (V.int ((refs (pick true B A')).length : Nat) = V.int ((refs B).length : Nat))) = V.bl (hiB A' B) := by
        rw [refs_len, refs_len]
        exact congrArg V.bl (decide_eq_decide.mpr ⟨fun z => by injection z with z; omega, fun z => by rw [z]⟩)
      rw [el, eh]
      obtain ⟨c1, c2, c3, c4, c5, c6⟩ := cf
      generalize loB A' B = lo at c1 c2 c3 c4 c5 c6 ⊢
      generalize hiB A' B = hi at c1 c2 c3 c4 c5 c6 ⊢
      cases lo <;> cases hi
      · refine ⟨_, rfl, _, rfl, _, rfl, iteF ⟨_, rfl, _, rfl, _, rfl, iteF ⟨_, rfl, _, rfl, iteF ⟨_, rfl, _, rfl, iteF ⟨_, rfl, sz (Nat.le_of_ble_eq_true rfl), fun d nd => ?_⟩⟩⟩⟩⟩
        have a0 : ∀ o, Same H (upd H9 d o) := fun o => s9.trans (same_new nd o)
        refine ⟨_, rfl, _, rfl, o1, o2, rfl, rfl, (l1.mono (a0 _)).ins, (l2.mono (a0 _)).ins, o1, o2, L, M, rfl, l1.mono (a0 _), l2.mono (a0 _), fun th1 ts1 => ?_⟩
        have ta1 : Same H th1 := (a0 _).trans ts1
        refine ⟨_, rfl, _, rfl, o1, o2, rfl, rfl, (l1.mono ta1).ins, (l2.mono ta1).ins, o1, o2, L, M, rfl, l1.mono ta1, l2.mono ta1, fun th2 ts2 => ?_⟩
        have ta2 : Same H th2 := ta1.trans ts2
        refine ⟨_, rfl, _, rfl, o1, o2, rfl, rfl, (l1.mono ta2).ins, (l2.mono ta2).ins, o1, o2, L, M, rfl, l1.mono ta2, l2.mono ta2, fun th3 ts3 => ?_⟩
        have ta3 : Same H th3 := ta2.trans ts3
        refine ⟨_, rfl, _, rfl, o1, o2, rfl, rfl, (l1.mono ta3).ins, (l2.mono ta3).ins, o1, o2, L, M, rfl, l1.mono ta3, l2.mono ta3, fun th4 ts4 => ?_⟩
        have ta4 : Same H th4 := ta3.trans ts4
        refine ⟨_, rfl, _, rfl, o1, o2, rfl, rfl, (l1.mono ta4).ins, (l2.mono ta4).ins, o1, o2, L, M, rfl, l1.mono ta4, l2.mono ta4, fun th5 ts5 => ?_⟩
        have ta5 : Same H th5 := ta4.trans ts5
        refine ⟨_, rfl, _, rfl, o1, o2, rfl, rfl, (l1.mono ta5).ins, (l2.mono ta5).ins, o1, o2, L, M, rfl, l1.mono ta5, l2.mono ta5, fun th6 ts6 => ⟨_, rfl, ?_⟩⟩
        have ta6 : Same H th6 := ta5.trans ts6
        refine ⟨sz (Nat.le_of_ble_eq_true rfl), fun t nt => ?_⟩
        have b0 : ∀ o, Same H (upd th6 t o) := fun o => ta6.trans (same_new nt o)
        refine ⟨_, rfl, _, rfl, o2, o1, rfl, rfl, (l2.mono (b0 _)).ins, (l1.mono (b0 _)).ins, o2, o1, M, L, rfl, l2.mono (b0 _), l1.mono (b0 _), fun bh1 bs1 => ?_⟩
        have ba1 : Same H bh1 := (b0 _).trans bs1
        refine ⟨_, rfl, _, rfl, o2, o1, rfl, rfl, (l2.mono ba1).ins, (l1.mono ba1).ins, o2, o1, M, L, rfl, l2.mono ba1, l1.mono ba1, fun bh2 bs2 => ?_⟩
        have ba2 : Same H bh2 := ba1.trans bs2
        refine ⟨_, rfl, _, rfl, o2, o1, rfl, rfl, (l2.mono ba2).ins, (l1.mono ba2).ins, o2, o1, M, L, rfl, l2.mono ba2, l1.mono ba2, fun bh3 bs3 => ?_⟩
        have ba3 : Same H bh3 := ba2.trans bs3
        refine ⟨_, rfl, _, rfl, o2, o1, rfl, rfl, (l2.mono ba3).ins, (l1.mono ba3).ins, o2, o1, M, L, rfl, l2.mono ba3, l1.mono ba3, fun bh4 bs4 => ?_⟩
        have ba4 : Same H bh4 := ba3.trans bs4
        refine ⟨_, rfl, _, rfl, o2, o1, rfl, rfl, (l2.mono ba4).ins, (l1.mono ba4).ins, o2, o1, M, L, rfl, l2.mono ba4, l1.mono ba4, fun bh5 bs5 => ?_⟩
        have ba5 : Same H bh5 := ba4.trans bs5
        refine ⟨_, rfl, _, rfl, o2, o1, rfl, rfl, (l2.mono ba5).ins, (l1.mono ba5).ins, o2, o1, M, L, rfl, l2.mono ba5, l1.mono ba5, fun bh6 bs6 => ⟨_, rfl, ?_⟩⟩
        have ba6 : Same H bh6 := ba5.trans bs6
        refine ⟨sz (Nat.le_of_ble_eq_true rfl), fun u nu => ?_⟩
        have e0 : ∀ o, Same H (upd bh6 u o) := fun o => ba6.trans (same_new nu o)
        have d1 := ts6 _ _ (ts5 _ _ (ts4 _ _ (ts3 _ _ (ts2 _ _ (ts1 d _ upd_same)))))
        have d2 := bs6 _ _ (bs5 _ _ (bs4 _ _ (bs3 _ _ (bs2 _ _ (bs1 _ _ (same_new nt _ _ _ d1))))))
        have t2 := bs6 _ _ (bs5 _ _ (bs4 _ _ (bs3 _ _ (bs2 _ _ (bs1 t _ upd_same)))))
        refine ⟨_, rfl, _, rfl, _, _, rfl, same_bls [false, false, false, false, false, true] (same_new nu _ _ _ t2) (same_new nu _ _ _ d2) (by dsimp only; rw [c1, c2, c3, c4, c5]; rfl) rfl (by decide), fun G3 g3 => ⟨_, rfl, iteT ?_⟩⟩
        exact ⟨_, rfl, _, rfl, _, _, rfl, same_bls [false, false, false, false, false, true] (g3 _ _ upd_same) (g3 _ _ (same_new nu _ _ _ d2)) (by dsimp only; rw [c1, c2, c3, c4, c6]; rfl) rfl (by decide), fun G4 g4 => k _ (((e0 _).trans g3).trans g4)⟩
      · refine ⟨_, rfl, _, rfl, _, rfl, iteF ⟨_, rfl, _, rfl, _, rfl, iteT ⟨_, rfl, _, rfl, _, rfl, _, rfl, iteF ⟨_, rfl, _, rfl, iteF ⟨_, rfl, sz (Nat.le_of_ble_eq_true rfl), fun d nd => ?_⟩⟩⟩⟩⟩
        have a0 : ∀ o, Same H (upd H9 d o) := fun o => s9.trans (same_new nd o)
        refine ⟨_, rfl, _, rfl, o1, o2, rfl, rfl, (l1.mono (a0 _)).ins, (l2.mono (a0 _)).ins, o1, o2, L, M, rfl, l1.mono (a0 _), l2.mono (a0 _), fun th1 ts1 => ?_⟩
        have ta1 : Same H th1 := (a0 _).trans ts1
        refine ⟨_, rfl, _, rfl, o1, o2, rfl, rfl, (l1.mono ta1).ins, (l2.mono ta1).ins, o1, o2, L, M, rfl, l1.mono ta1, l2.mono ta1, fun th2 ts2 => ?_⟩
        have ta2 : Same H th2 := ta1.trans ts2
        refine ⟨_, rfl, _, rfl, o1, o2, rfl, rfl, (l1.mono ta2).ins, (l2.mono ta2).ins, o1, o2, L, M, rfl, l1.mono ta2, l2.mono ta2, fun th3 ts3 => ?_⟩
        have ta3 : Same H th3 := ta2.trans ts3
        refine ⟨_, rfl, _, rfl, o1, o2, rfl, rfl, (l1.mono ta3).ins, (l2.mono ta3).ins, o1, o2, L, M, rfl, l1.mono ta3, l2.mono ta3, fun th4 ts4 => ?_⟩
        have ta4 : Same H th4 := ta3.trans ts4
        refine ⟨_, rfl, _, rfl, o1, o2, rfl, rfl, (l1.mono ta4).ins, (l2.mono ta4).ins, o1, o2, L, M, rfl, l1.mono ta4, l2.mono ta4, fun th5 ts5 => ?_⟩
        have ta5 : Same H th5 := ta4.trans ts5
        refine ⟨_, rfl, _, rfl, o1, o2, rfl, rfl, (l1.mono ta5).ins, (l2.mono ta5).ins, o1, o2, L, M, rfl, l1.mono ta5, l2.mono ta5, fun th6 ts6 => ⟨_, rfl, ?_⟩⟩
        have ta6 : Same H th6 := ta5.trans ts6
        refine ⟨sz (Nat.le_of_ble_eq_true rfl), fun t nt => ?_⟩
        have b0 : ∀ o, Same H (upd th6 t o) := fun o => ta6.trans (same_new nt o)
        refine ⟨_, rfl, _, rfl, o2, o1, rfl, rfl, (l2.mono (b0 _)).ins, (l1.mono (b0 _)).ins, o2, o1, M, L, rfl, l2.mono (b0 _), l1.mono (b0 _), fun bh1 bs1 => ?_⟩
        have ba1 : Same H bh1 := (b0 _).trans bs1
        refine ⟨_, rfl, _, rfl, o2, o1, rfl, rfl, (l2.mono ba1).ins, (l1.mono ba1).ins, o2, o1, M, L, rfl, l2.mono ba1, l1.mono ba1, fun bh2 bs2 => ?_⟩
        have ba2 : Same H bh2 := ba1.trans bs2
        refine ⟨_, rfl, _, rfl, o2, o1, rfl, rfl, (l2.mono ba2).ins, (l1.mono ba2).ins, o2, o1, M, L, rfl, l2.mono ba2, l1.mono ba2, fun bh3 bs3 => ?_⟩
        have ba3 : Same H bh3 := ba2.trans bs3
        refine ⟨_, rfl, _, rfl, o2, o1, rfl, rfl, (l2.mono ba3).ins, (l1.mono ba3).ins, o2, o1, M, L, rfl, l2.mono ba3, l1.mono ba3, fun bh4 bs4 => ?_⟩
        have ba4 : Same H bh4 := ba3.trans bs4
        refine ⟨_, rfl, _, rfl, o2, o1, rfl, rfl, (l2.mono ba4).ins, (l1.mono ba4).ins, o2, o1, M, L, rfl, l2.mono ba4, l1.mono ba4, fun bh5 bs5 => ?_⟩
        have ba5 : Same H bh5 := ba4.trans bs5
        refine ⟨_, rfl, _, rfl, o2, o1, rfl, rfl, (l2.mono ba5).ins, (l1.mono ba5).ins, o2, o1, M, L, rfl, l2.mono ba5, l1.mono ba5, fun bh6 bs6 => ⟨_, rfl, ?_⟩⟩
        have ba6 : Same H bh6 := ba5.trans bs6
        refine ⟨sz (Nat.le_of_ble_eq_true rfl), fun u nu => ?_⟩
        have e0 : ∀ o, Same H (upd bh6 u o) := fun o => ba6.trans (same_new nu o)
        have d1 := ts6 _ _ (ts5 _ _ (ts4 _ _ (ts3 _ _ (ts2 _ _ (ts1 d _ upd_same)))))
        have d2 := bs6 _ _ (bs5 _ _ (bs4 _ _ (bs3 _ _ (bs2 _ _ (bs1 _ _ (same_new nt _ _ _ d1))))))
        have t2 := bs6 _ _ (bs5 _ _ (bs4 _ _ (bs3 _ _ (bs2 _ _ (bs1 t _ upd_same)))))
        refine ⟨_, rfl, _, rfl, _, _, rfl, same_bls [false, false, true, true, false, true] (same_new nu _ _ _ t2) (same_new nu _ _ _ d2) (by dsimp only; rw [c1, c2, c3, c4, c5]; rfl) rfl (by decide), fun G3 g3 => ⟨_, rfl, iteT ?_⟩⟩
        exact ⟨_, rfl, _, rfl, _, _, rfl, same_bls [false, false, true, true, false, true] (g3 _ _ upd_same) (g3 _ _ (same_new nu _ _ _ d2)) (by dsimp only; rw [c1, c2, c3, c4, c6]; rfl) rfl (by decide), fun G4 g4 => k _ (((e0 _).trans g3).trans g4)⟩
      · refine ⟨_, rfl, _, rfl, _, rfl, iteT ⟨_, rfl, _, rfl, _, rfl, _, rfl, _, rfl, iteF ⟨_, rfl, _, rfl, iteT ⟨_, rfl, _, rfl, _, rfl, iteT ⟨_, rfl, _, rfl, sz (Nat.le_of_ble_eq_true rfl), fun d nd => ?_⟩⟩⟩⟩⟩
        have a0 : ∀ o, Same H (upd H9 d o) := fun o => s9.trans (same_new nd o)
        refine ⟨_, rfl, _, rfl, o1, o2, rfl, rfl, (l1.mono (a0 _)).ins, (l2.mono (a0 _)).ins, o1, o2, L, M, rfl, l1.mono (a0 _), l2.mono (a0 _), fun th1 ts1 => ?_⟩
        have ta1 : Same H th1 := (a0 _).trans ts1
        refine ⟨_, rfl, _, rfl, o1, o2, rfl, rfl, (l1.mono ta1).ins, (l2.mono ta1).ins, o1, o2, L, M, rfl, l1.mono ta1, l2.mono ta1, fun th2 ts2 => ?_⟩
        have ta2 : Same H th2 := ta1.trans ts2
        refine ⟨_, rfl, _, rfl, o1, o2, rfl, rfl, (l1.mono ta2).ins, (l2.mono ta2).ins, o1, o2, L, M, rfl, l1.mono ta2, l2.mono ta2, fun th3 ts3 => ?_⟩
        have ta3 : Same H th3 := ta2.trans ts3
        refine ⟨_, rfl, _, rfl, o1, o2, rfl, rfl, (l1.mono ta3).ins, (l2.mono ta3).ins, o1, o2, L, M, rfl, l1.mono ta3, l2.mono ta3, fun th4 ts4 => ?_⟩
        have ta4 : Same H th4 := ta3.trans ts4
        refine ⟨_, rfl, _, rfl, o1, o2, rfl, rfl, (l1.mono ta4).ins, (l2.mono ta4).ins, o1, o2, L, M, rfl, l1.mono ta4, l2.mono ta4, fun th5 ts5 => ?_⟩
        have ta5 : Same H th5 := ta4.trans ts5
        refine ⟨_, rfl, _, rfl, o1, o2, rfl, rfl, (l1.mono ta5).ins, (l2.mono ta5).ins, o1, o2, L, M, rfl, l1.mono ta5, l2.mono ta5, fun th6 ts6 => ⟨_, rfl, ?_⟩⟩
        have ta6 : Same H th6 := ta5.trans ts6
        refine ⟨sz (Nat.le_of_ble_eq_true rfl), fun t nt => ?_⟩
        have b0 : ∀ o, Same H (upd th6 t o) := fun o => ta6.trans (same_new nt o)
        refine ⟨_, rfl, _, rfl, o2, o1, rfl, rfl, (l2.mono (b0 _)).ins, (l1.mono (b0 _)).ins, o2, o1, M, L, rfl, l2.mono (b0 _), l1.mono (b0 _), fun bh1 bs1 => ?_⟩
        have ba1 : Same H bh1 := (b0 _).trans bs1
        refine ⟨_, rfl, _, rfl, o2, o1, rfl, rfl, (l2.mono ba1).ins, (l1.mono ba1).ins, o2, o1, M, L, rfl, l2.mono ba1, l1.mono ba1, fun bh2 bs2 => ?_⟩
        have ba2 : Same H bh2 := ba1.trans bs2
        refine ⟨_, rfl, _, rfl, o2, o1, rfl, rfl, (l2.mono ba2).ins, (l1.mono ba2).ins, o2, o1, M, L, rfl, l2.mono ba2, l1.mono ba2, fun bh3 bs3 => ?_⟩
        have ba3 : Same H bh3 := ba2.trans bs3
        refine ⟨_, rfl, _, rfl, o2, o1, rfl, rfl, (l2.mono ba3).ins, (l1.mono ba3).ins, o2, o1, M, L, rfl, l2.mono ba3, l1.mono ba3, fun bh4 bs4 => ?_⟩
        have ba4 : Same H bh4 := ba3.trans bs4
        refine ⟨_, rfl, _, rfl, o2, o1, rfl, rfl, (l2.mono ba4).ins, (l1.mono ba4).ins, o2, o1, M, L, rfl, l2.mono ba4, l1.mono ba4, fun bh5 bs5 => ?_⟩
        have ba5 : Same H bh5 := ba4.trans bs5
        refine ⟨_, rfl, _, rfl, o2, o1, rfl, rfl, (l2.mono ba5).ins, (l1.mono ba5).ins, o2, o1, M, L, rfl, l2.mono ba5, l1.mono ba5, fun bh6 bs6 => ⟨_, rfl, ?_⟩⟩
        have ba6 : Same H bh6 := ba5.trans bs6
        refine ⟨sz (Nat.le_of_ble_eq_true rfl), fun u nu => ?_⟩
        have e0 : ∀ o, Same H (upd bh6 u o) := fun o => ba6.trans (same_new nu o)
        have d1 := ts6 _ _ (ts5 _ _ (ts4 _ _ (ts3 _ _ (ts2 _ _ (ts1 d _ upd_same)))))
        have d2 := bs6 _ _ (bs5 _ _ (bs4 _ _ (bs3 _ _ (bs2 _ _ (bs1 _ _ (same_new nt _ _ _ d1))))))
        have t2 := bs6 _ _ (bs5 _ _ (bs4 _ _ (bs3 _ _ (bs2 _ _ (bs1 t _ upd_same)))))
        refine ⟨_, rfl, _, rfl, _, _, rfl, same_bls [true, true, false, false, false, true] (same_new nu _ _ _ t2) (same_new nu _ _ _ d2) (by dsimp only; rw [c1, c2, c3, c4, c5]; rfl) rfl (by decide), fun G3 g3 => ⟨_, rfl, iteT ?_⟩⟩
        exact ⟨_, rfl, _, rfl, _, _, rfl, same_bls [true, true, false, false, false, true] (g3 _ _ upd_same) (g3 _ _ (same_new nu _ _ _ d2)) (by dsimp only; rw [c1, c2, c3, c4, c6]; rfl) rfl (by decide), fun G4 g4 => k _ (((e0 _).trans g3).trans g4)⟩
      · refine ⟨_, rfl, _, rfl, _, rfl, iteT ⟨_, rfl, _, rfl, _, rfl, _, rfl, _, rfl, iteT ⟨_, rfl, _, rfl, _, rfl, _, rfl, iteT ⟨_, rfl, _, rfl, _, rfl, iteT ⟨_, rfl, _, rfl, sz (Nat.le_of_ble_eq_true rfl), fun d nd => ?_⟩⟩⟩⟩⟩
        have a0 : ∀ o, Same H (upd H9 d o) := fun o => s9.trans (same_new nd o)
        refine ⟨_, rfl, _, rfl, o1, o2, rfl, rfl, (l1.mono (a0 _)).ins, (l2.mono (a0 _)).ins, o1, o2, L, M, rfl, l1.mono (a0 _), l2.mono (a0 _), fun th1 ts1 => ?_⟩
        have ta1 : Same H th1 := (a0 _).trans ts1
        refine ⟨_, rfl, _, rfl, o1, o2, rfl, rfl, (l1.mono ta1).ins, (l2.mono ta1).ins, o1, o2, L, M, rfl, l1.mono ta1, l2.mono ta1, fun th2 ts2 => ?_⟩
        have ta2 : Same H th2 := ta1.trans ts2
        refine ⟨_, rfl, _, rfl, o1, o2, rfl, rfl, (l1.mono ta2).ins, (l2.mono ta2).ins, o1, o2, L, M, rfl, l1.mono ta2, l2.mono ta2, fun th3 ts3 => ?_⟩
        have ta3 : Same H th3 := ta2.trans ts3
        refine ⟨_, rfl, _, rfl, o1, o2, rfl, rfl, (l1.mono ta3).ins, (l2.mono ta3).ins, o1, o2, L, M, rfl, l1.mono ta3, l2.mono ta3, fun th4 ts4 => ?_⟩
        have ta4 : Same H th4 := ta3.trans ts4
        refine ⟨_, rfl, _, rfl, o1, o2, rfl, rfl, (l1.mono ta4).ins, (l2.mono ta4).ins, o1, o2, L, M, rfl, l1.mono ta4, l2.mono ta4, fun th5 ts5 => ?_⟩
        have ta5 : Same H th5 := ta4.trans ts5
        refine ⟨_, rfl, _, rfl, o1, o2, rfl, rfl, (l1.mono ta5).ins, (l2.mono ta5).ins, o1, o2, L, M, rfl, l1.mono ta5, l2.mono ta5, fun th6 ts6 => ⟨_, rfl, ?_⟩⟩
        have ta6 : Same H th6 := ta5.trans ts6
        refine ⟨sz (Nat.le_of_ble_eq_true rfl), fun t nt => ?_⟩
        have b0 : ∀ o, Same H (upd th6 t o) := fun o => ta6.trans (same_new nt o)
        refine ⟨_, rfl, _, rfl, o2, o1, rfl, rfl, (l2.mono (b0 _)).ins, (l1.mono (b0 _)).ins, o2, o1, M, L, rfl, l2.mono (b0 _), l1.mono (b0 _), fun bh1 bs1 => ?_⟩
        have ba1 : Same H bh1 := (b0 _).trans bs1
        refine ⟨_, rfl, _, rfl, o2, o1, rfl, rfl, (l2.mono ba1).ins, (l1.mono ba1).ins, o2, o1, M, L, rfl, l2.mono ba1, l1.mono ba1, fun bh2 bs2 => ?_⟩
        have ba2 : Same H bh2 := ba1.trans bs2
        refine ⟨_, rfl, _, rfl, o2, o1, rfl, rfl, (l2.mono ba2).ins, (l1.mono ba2).ins, o2, o1, M, L, rfl, l2.mono ba2, l1.mono ba2, fun bh3 bs3 => ?_⟩
        have ba3 : Same H bh3 := ba2.trans bs3
        refine ⟨_, rfl, _, rfl, o2, o1, rfl, rfl, (l2.mono ba3).ins, (l1.mono ba3).ins, o2, o1, M, L, rfl, l2.mono ba3, l1.mono ba3, fun bh4 bs4 => ?_⟩
        have ba4 : Same H bh4 := ba3.trans bs4
        refine ⟨_, rfl, _, rfl, o2, o1, rfl, rfl, (l2.mono ba4).ins, (l1.mono ba4).ins, o2, o1, M, L, rfl, l2.mono ba4, l1.mono ba4, fun bh5 bs5 => ?_⟩
        have ba5 : Same H bh5 := ba4.trans bs5
        refine ⟨_, rfl, _, rfl, o2, o1, rfl, rfl, (l2.mono ba5).ins, (l1.mono ba5).ins, o2, o1, M, L, rfl, l2.mono ba5, l1.mono ba5, fun bh6 bs6 => ⟨_, rfl, ?_⟩⟩
        have ba6 : Same H bh6 := ba5.trans bs6
        refine ⟨sz (Nat.le_of_ble_eq_true rfl), fun u nu => ?_⟩
        have e0 : ∀ o, Same H (upd bh6 u o) := fun o => ba6.trans (same_new nu o)
        have d1 := ts6 _ _ (ts5 _ _ (ts4 _ _ (ts3 _ _ (ts2 _ _ (ts1 d _ upd_same)))))
        have d2 := bs6 _ _ (bs5 _ _ (bs4 _ _ (bs3 _ _ (bs2 _ _ (bs1 _ _ (same_new nt _ _ _ d1))))))
        have t2 := bs6 _ _ (bs5 _ _ (bs4 _ _ (bs3 _ _ (bs2 _ _ (bs1 t _ upd_same)))))
        refine ⟨_, rfl, _, rfl, _, _, rfl, same_bls [true, false, true, false, true, false] (same_new nu _ _ _ t2) (same_new nu _ _ _ d2) (by dsimp only; rw [c1, c2, c3, c4, c5]; rfl) rfl (by decide), fun G3 g3 => ⟨_, rfl, iteT ?_⟩⟩
        exact ⟨_, rfl, _, rfl, _, _, rfl, same_bls [true, false, true, false, true, false] (g3 _ _ upd_same) (g3 _ _ (same_new nu _ _ _ d2)) (by dsimp only; rw [c1, c2, c3, c4, c6]; rfl) rfl (by decide), fun G4 g4 => k _ (((e0 _).trans g3).trans g4)⟩
end
end K1
set_option maxRecDepth 100000
set_option maxHeartbeats 1000000
namespace K1
open PySem L2
/-- in step -/
def Pw {α : Type} (R : Addr → α → Prop) (ts : List Addr) (Z : List α) : Prop := ts.length = Z.length ∧ ∀ (i : Nat) (t : Addr) (z : α), ts[i]? = some t → Z[i]? = some z → R t z
theorem Pw.nil {α : Type} {R : Addr → α → Prop} : Pw R [] ([] : List α) := ⟨rfl, fun i t z h => by simp at h⟩
theorem Pw.snoc {α : Type} {R : Addr → α → Prop} {ts : List Addr} {Z : List α} {j : Nat} {t : Addr} {z : α} (h : Pw R ts (Z.take j)) (hz : Z[j]? = some z) (r : R t z) : Pw R (ts ++ [t]) (Z.take (j + 1)) := by
  have et : Z.take (j + 1) = Z.take j ++ [z] := by rw [List.take_add_one, hz]; rfl
  rw [et]
  refine ⟨by rw [List.length_append, List.length_append, h.1]; rfl, fun i t' z' h1 h2 => ?_⟩
  rcases Nat.lt_or_ge i ts.length with c | c
  · rw [List.getElem?_append_left c] at h1
    rw [List.getElem?_append_left (by rw [← h.1]; exact c)] at h2
    exact h.2 i t' z' h1 h2
  · rw [List.getElem?_append_right c] at h1
    rw [List.getElem?_append_right (by rw [← h.1]; exact c), ← h.1] at h2
    cases e : i - ts.length with
    | zero =>
      rw [e] at h1 h2
      cases h1
      cases h2
      exact r
    | succ k =>
      rw [e] at h1
      cases h1
theorem Pw.imp {α : Type} {R R' : Addr → α → Prop} {ts : List Addr} {Z : List α} (h : Pw R ts Z) (k : ∀ t z, R t z → R' t z) : Pw R' ts Z := ⟨h.1, fun i t z h1 h2 => k t z (h.2 i t z h1 h2)⟩
theorem same_ints {K : PySem.W.Frag} {H : Hp} {a b : Addr} {ns : List Int} {n : Nat} (ha : H a = some (.tup (ns.map V.int))) (hb : H b = some (.tup (ns.map V.int))) (few : ns.length ≤ 1000) : SameV K H (n + 2) (.ref a) (.ref b) := by
  refine .inr (.inr (.inr ⟨a, b, _, _, rfl, rfl, .inr ⟨ha, hb⟩, rfl, by rw [List.length_map]; exact few, fun i u v hu hv => ?_⟩))
  rw [hu] at hv
  cases hv
  rw [List.getElem?_map] at hu
  obtain ⟨c, _, rfl⟩ := Option.map_eq_some_iff.mp hu
  exact .inl ⟨c, rfl, rfl⟩
theorem same_places {K : PySem.W.Frag} {H : Hp} {t u : Addr} {L R : PL} {n : Nat} (ht : H t = some (.tup (refs L))) (hu : H u = some (.tup (refs R))) (aL : Ats H L) (aR : Ats H R) (oL : Oks L) (e : keys L = keys R) (few : L.length ≤ 900) : SameV K H (n + 3) (.ref t) (.ref u) := by
  have el : L.length = R.length := by
    have z := congrArg List.length e
    rw [keys_len, keys_len] at z
    exact z
  refine .inr (.inr (.inr ⟨t, u, _, _, rfl, rfl, .inr ⟨ht, hu⟩, by rw [refs_len, refs_len, el], by rw [refs_len]; omega, fun i x y hx hy => ?_⟩))
  obtain ⟨p, hp, rfl⟩ := refs_get hx
  obtain ⟨q, hq, rfl⟩ := refs_get hy
  have e1 : (keys L)[i]? = some p.2 := by unfold keys; rw [List.getElem?_map, hp]; rfl
  have e2 : (keys R)[i]? = some q.2 := by unfold keys; rw [List.getElem?_map, hq]; rfl
  rw [e, e2] at e1
  have e3 : q.2 = p.2 := Option.some.inj e1
  have mp := List.mem_of_getElem? hp
  refine same_ints (aL p mp) (by rw [← e3]; exact aR q (List.mem_of_getElem? hq)) (Nat.le_trans (oL p mp).2.1 (by decide))
theorem same_list {K : PySem.W.Frag} {H : Hp} {a b : Addr} {ts us : List Addr} {n : Nat} (ha : H a = some (.lst (ts.map V.ref))) (hb : H b = some (.lst (us.map V.ref))) (el : ts.length = us.length) (few : ts.length ≤ 900)
    (h : ∀ (i : Nat) (t u : Addr), ts[i]? = some t → us[i]? = some u → SameV K H n (.ref t) (.ref u)) : SameV K H (n + 1) (.ref a) (.ref b) := by
  refine .inr (.inr (.inr ⟨a, b, _, _, rfl, rfl, .inl ⟨ha, hb⟩, by rw [List.length_map, List.length_map, el], by rw [List.length_map]; omega, fun i x y hx hy => ?_⟩))
  rw [List.getElem?_map] at hx hy
  obtain ⟨t, h1, rfl⟩ := Option.map_eq_some_iff.mp hx
  obtain ⟨u, h2, rfl⟩ := Option.map_eq_some_iff.mp hy
  exact h i t u h1 h2
theorem same_pair {K : PySem.W.Frag} {H : Hp} {a b t1 t2 u1 u2 : Addr} {n : Nat} (ha : H a = some (.tup [.ref t1, .ref t2])) (hb : H b = some (.tup [.ref u1, .ref u2])) (h1 : SameV K H n (.ref t1) (.ref u1)) (h2 : SameV K H n (.ref t2) (.ref u2)) : SameV K H (n + 1) (.ref a) (.ref b) := by
  refine .inr (.inr (.inr ⟨a, b, _, _, rfl, rfl, .inr ⟨ha, hb⟩, rfl, by show 2 ≤ 1000; decide, fun i x y hx hy => ?_⟩))
  match i, hx, hy with
  | 0, hx, hy => cases hx; cases hy; exact h1
  | 1, hx, hy => cases hx; cases hy; exact h2
/-- a Lot, and the list of its places as the law tells them -/
structure Row (C : Addr) (H : Hp) (z : Addr × PL × Addr × PL) : Prop where
  lot : LotAt C H z.1 z.2.1
  row : H z.2.2.1 = some (.lst (refs z.2.2.2))
  ats : Ats H z.2.2.2
  oks : Oks z.2.2.2
  nd : (keys z.2.2.2).Nodup
  few : z.2.2.2.length ≤ 50
  iff : ∀ k, k ∈ keys z.2.1 ↔ k ∈ keys z.2.2.2
theorem Row.mono {C : Addr} {H H' : Hp} {z : Addr × PL × Addr × PL} (h : Row C H z) (s : Same H H') : Row C H' z := ⟨h.lot.mono s, s _ _ h.row, h.ats.mono s, h.oks, h.nd, h.few, h.iff⟩
/-- the four rows -/
theorem keys_pick_nd {b : Bool} {M L : PL} (h : (keys L).Nodup) : (keys (pick b M L)).Nodup := List.Nodup.sublist (List.Sublist.map _ List.filter_sublist) h
theorem pick_app (b : Bool) (M L L' : PL) : pick b M (L ++ L') = pick b M L ++ pick b M L' := List.filter_append ..
theorem row0_nd {A B : PL} (nA : (keys A).Nodup) (nB : (keys B).Nodup) : (keys (A ++ pick false A B)).Nodup := by
  rw [keys_app]
  refine List.nodup_append.mpr ⟨nA, keys_pick_nd nB, fun x hx y hy e => ?_⟩
  rw [← e] at hy
  have z := (pick_key.mp hy).2
  rw [decide_eq_true hx] at z
  cases z
theorem row3_nd {A B : PL} (nA : (keys A).Nodup) (nB : (keys B).Nodup) : (keys (pick false (pick true B A) (A ++ B))).Nodup := by
  rw [pick_app, keys_app]
  refine List.nodup_append.mpr ⟨keys_pick_nd nA, keys_pick_nd nB, fun x hx y hy e => ?_⟩
  rw [← e] at hy
  obtain ⟨a1, a2⟩ := pick_key.mp hx
  obtain ⟨b1, b2⟩ := pick_key.mp hy
  have z : x ∈ keys (pick true B A) := pick_key.mpr ⟨a1, decide_eq_true b1⟩
  rw [decide_eq_true z] at a2
  cases a2
theorem row0_iff {A B : PL} (k : List Int) : k ∈ keys (A ++ pick false A B) ↔ (decide (k ∈ keys A) || decide (k ∈ keys B)) = true := by
  rw [keys_app, List.mem_append, pick_key]
  by_cases c1 : k ∈ keys A <;> by_cases c2 : k ∈ keys B <;> simp [c1, c2]
theorem row1_iff {A B : PL} (k : List Int) : k ∈ keys (pick true B A) ↔ (decide (k ∈ keys A) && decide (k ∈ keys B)) = true := by
  rw [pick_key]
  by_cases c1 : k ∈ keys A <;> by_cases c2 : k ∈ keys B <;> simp [c1, c2]
theorem row2_iff {A B : PL} (k : List Int) : k ∈ keys (pick false B A) ↔ (decide (k ∈ keys A) && !decide (k ∈ keys B)) = true := by
  rw [pick_key]
  by_cases c1 : k ∈ keys A <;> by_cases c2 : k ∈ keys B <;> simp [c1, c2]
theorem row3_iff {A B : PL} (k : List Int) : k ∈ keys (pick false (pick true B A) (A ++ B)) ↔ (decide (k ∈ keys A) != decide (k ∈ keys B)) = true := by
  rw [pick_key, keys_app, List.mem_append, decide_eq_false_iff_not, row1_iff]
  by_cases c1 : k ∈ keys A <;> by_cases c2 : k ∈ keys B <;> simp [c1, c2]
theorem lot_keys {C : Addr} {H H' : Hp} {a b : Addr} {L M : PL} (h : LotAt C H a L) (h' : LotAt C H' b M) (e : ∀ k, k ∈ keys L ↔ k ∈ keys M) : keys L = keys M := asc_keys h.asc h'.asc h.oks h'.oks e
theorem lot_asc {C : Addr} {H : Hp} {a : Addr} {L R R' : PL} (h : LotAt C H a L) (pm : R'.Perm R) (asc : Asc R') (oR : Oks R) (e : ∀ k, k ∈ keys L ↔ k ∈ keys R) : keys L = keys R' :=
  asc_keys h.asc asc h.oks (fun p hp => oR p (pm.mem_iff.mp hp)) fun k => (e k).trans (pm.map (·.2)).mem_iff.symm
end K1
set_option maxRecDepth 100000
set_option maxHeartbeats 2000000
set_option pp.maxSteps 400
namespace K1
open PySem L2
theorem sl_listK {X : Cx} {K : PySem.W.Frag} (h : X.K = K := by rfl) : SlR X (rSlL K) := by
  subst h
  exact sl_list
theorem op_eqDK {X : Cx} {K : PySem.W.Frag} (hu : X.A.units + 64 < cLine) (h : X.K = K := by rfl) : OpR X (compareOp .Eq) (rEqD K) := by
  subst h
  exact op_eqD hu
theorem call_tuple_ofK {X : Cx} {K : PySem.W.Frag} (h : X.K = K := by rfl) : CallR X (.type "tuple") (fun xs H Q => ∃ p ys, xs = [.ref p] ∧ ((SqL K H p ys ∧ ∀ l, H l = none → Q (.ref l) (upd H l (.tup ys))) ∨ (SqT K H p ys ∧ Q (.ref p) H))) := by
  subst h
  exact call_tuple_of
theorem pe_fldK {X : Cx} {K : PySem.W.Frag} {e : Expr} {f : Str} {pos : Pos} {ta : TE} (he : PE X e ta) (hb : attributeBase e f X.env (eval e X.env) = eval e X.env) (h : X.K = K := by rfl) : PE X (.Attribute e f pos) (tFld K ta f) := by
  subst h
  exact pe_fld he hb
def spLaw (K : PySem.W.Frag) : Sp := fun vs H Q _ => ∃ (a : Addr) (ns : List Int), vs = [.ref a] ∧ SqL K H a (ns.map V.int) ∧ ns.length ≤ 63 ∧ ∀ H', Q (.bl true) H'
/-- a list of places, none of it the spring's -/
structure Ls (H : Hp) (st a : Addr) (A : PL) : Prop where
  at_ : H a = some (.lst (refs A))
  ne : a ≠ st
  ats : Ats H A
  oks : Oks A
theorem Ls.but {H H' : Hp} {st a l : Addr} {A : PL} {cs : List Int} {n : Nat} (h : Ls H st a A) (S : Spr H st l cs n) (b : But st H H') : Ls H' st a A := ⟨b _ _ h.ne h.at_, h.ne, h.ats.but S b, h.oks⟩
theorem Ls.mono {H H' : Hp} {st a : Addr} {A : PL} (h : Ls H st a A) (s : Same H H') : Ls H' st a A := ⟨s _ _ h.at_, h.ne, h.ats.mono s, h.oks⟩
theorem Ls.data {K : PySem.W.Frag} {H : Hp} {st a l : Addr} {A : PL} {cs : List Int} {n : Nat} (h : Ls H st a A) (S : Spr H st l cs n) : DataL K (off st H) (refs A) := by
  have o : Ats (off st H) A := fun p hp => by
    rw [off_ne (S.no (h.ats p hp) fun _ z => by cases z)]
    exact h.ats p hp
  exact ⟨_, dp_refs o, okd_keys _⟩
theorem perm_refs {ys : List V} {A : PL} (h : ys.Perm (refs A)) : ∃ B : PL, ys = refs B ∧ B.Perm A := by
  obtain ⟨B, h1, h2⟩ := perm_lift (fun p : Addr × List Int => V.ref p.1) h A rfl
  exact ⟨B, h2.symm, h1⟩
theorem keys_sub {A B : PL} (h : ∀ p ∈ A, p ∈ B) {k : List Int} (hk : k ∈ keys A) : k ∈ keys B := by
  obtain ⟨p, hp, rfl⟩ := mem_keys.mp hk
  exact mem_keys.mpr ⟨p, h p hp, rfl⟩
theorem Spr.upd {H : Hp} {st l D : Addr} {cs : List Int} {n : Nat} {o : HO} (S : Spr H st l cs n) (h1 : D ≠ st) (h2 : D ≠ l) : Spr (upd H D o) st l cs n := by
  obtain ⟨⟨i, k, c, g, e, q⟩, r1, r2, r3⟩ := S
  exact ⟨⟨i, k, c, g, by rw [upd_ne h1.symm]; exact e, q⟩, by rw [upd_ne h2.symm]; exact r1, r2, r3⟩
/-- what is drawn of the places, so far -/
def Some_ (H1 : Hp) (st l D : Addr) (cs : List Int) (n : Nat) (E : PL) (i : Nat) (H9 : Hp) : Prop := ∃ A : PL, H9 D = some (.lst (refs A)) ∧ A.Sublist (E.take i) ∧ Spr H9 st l cs (n + i) ∧ But st H1 H9
/-- the first of each place, so far -/
def First_ (H1 : Hp) (D : Addr) (E : PL) (i : Nat) (H9 : Hp) : Prop := ∃ A : PL, H9 D = some (.lst (refs A)) ∧ A.Sublist (E.take i) ∧ (keys A).Nodup ∧ Same H1 H9
theorem first_turn {H1 H9 H10 : Hp} {D : Addr} {E : PL} {i : Nat} {p : Addr × List Int} (nD : H1 D = none) (h : First_ H1 D E i H9) (s : Same H9 H10) (hp : E[i]? = some p) (few : E.length ≤ 50) :
    (p.2 ∉ keys (E.take i) → ∃ acc, H10 D = some (.lst acc) ∧ acc.length < sizeLine ∧ First_ H1 D E (i + 1) (upd H10 D (.lst (acc ++ [.ref p.1])))) ∧ First_ H1 D E (i + 1) H10 := by
  obtain ⟨A, h9, sub, nd, s9⟩ := h
  have et : E.take (i + 1) = E.take i ++ [p] := by rw [List.take_add_one, hp]; rfl
  have lA : A.length ≤ 50 := by
    have := sub.length_le
    rw [List.length_take] at this
    omega
  refine ⟨fun no => ⟨_, s _ _ h9, small1000 (by rw [refs_len]; omega), A ++ [p], ?_, ?_, ?_, fun b o hb => ?_⟩, A, s _ _ h9, ?_, nd, s9.trans s⟩
  · rw [upd_same, refs_app]
    rfl
  · rw [et]
    exact sub.append (List.Sublist.refl _)
  · rw [keys_app]
    refine List.nodup_append.mpr ⟨nd, List.nodup_cons.mpr ⟨List.not_mem_nil, List.nodup_nil⟩, fun x hx y hy e => ?_⟩
    have e' : y = p.2 := List.mem_singleton.mp hy
    rw [e, e'] at hx
    exact no (keys_sub (fun q hq => sub.subset hq) hx)
  · rw [upd_ne (ne_of_none hb nD)]
    exact s _ _ (s9 _ _ hb)
  · rw [et]
    exact sub.trans (List.sublist_append_left _ _)
theorem some_turn {H1 H9 H10 : Hp} {st l D : Addr} {cs : List Int} {n i : Nat} {E : PL} {p : Addr × List Int} (nD : H1 D = none) (S1 : Spr H1 st l cs n) (h : ∃ A : PL, H9 D = some (.lst (refs A)) ∧ A.Sublist (E.take i) ∧ But st H1 H9) (S : Spr H10 st l cs (n + i + 1)) (hk : ∀ b, b ≠ st → H10 b = H9 b) (hp : E[i]? = some p) (few : E.length ≤ 50) :
    (∃ acc, H10 D = some (.lst acc) ∧ acc.length < sizeLine ∧ Some_ H1 st l D cs n E (i + 1) (upd H10 D (.lst (acc ++ [.ref p.1])))) ∧ Some_ H1 st l D cs n E (i + 1) H10 := by
  obtain ⟨A, h9, sub, b9⟩ := h
  have ne := S1.not nD
  have nl : D ≠ l := (ne_of_none S1.ls nD).symm
  have et : E.take (i + 1) = E.take i ++ [p] := by rw [List.take_add_one, hp]; rfl
  have lA : A.length ≤ 50 := by
    have := sub.length_le
    rw [List.length_take] at this
    omega
  have h10 : H10 D = some (.lst (refs A)) := by rw [hk D ne]; exact h9
  have b10 : But st H1 H10 := b9.trans (But.eq hk)
  refine ⟨⟨_, h10, small1000 (by rw [refs_len]; omega), A ++ [p], ?_, ?_, S.upd ne nl, fun b o nb hb => ?_⟩, A, h10, ?_, S, b10⟩
  · rw [upd_same, refs_app]
    rfl
  · rw [et]
    exact sub.append (List.Sublist.refl _)
  · rw [upd_ne (ne_of_none hb nD)]
    exact b10 b o nb hb
  · rw [et]
    exact sub.trans (List.sublist_append_left _ _)
theorem cut_take (xs : List V) (j : Nat) : cutV xs none (some ((j : Nat) : Int)) = xs.take j := by
  unfold cutV
  rw [HT.sIx_none, HT.sIx_nat, List.drop_zero, Nat.sub_zero]
  rcases Nat.le_total j xs.length with h | h
  · rw [Nat.min_eq_left h]
  · rw [Nat.min_eq_right h, List.take_of_length_le (Nat.le_refl _), List.take_of_length_le h]
/-- what the law calls -/
structure LawG (P : Program) (w : World) (K : PySem.W.Frag) (mg : Str → Option Value) (base : Heap) (C : Addr) : Prop where
  t : LawF P w K mg base
  lot : LotF P w K mg base C
  cmp : CmpO P w K mg base C
  list : mg "list" = none
  tuple : mg "tuple" = none
  all : mg "all" = none
  enum : mg "enumerate" = none
  fresh : ∃ f fd, mg "_law_fresh" = some (.ref f) ∧ PySem.W.keepIn K (.ref f) = true ∧ Binds K fd ["_law_script"] [] ∧ FnOk P w K mg base CX0 1 f fd ["_law_script"] (spFresh K)
  mix : ∃ f fd, mg "_law_mix" = some (.ref f) ∧ PySem.W.keepIn K (.ref f) = true ∧ Binds K fd ["_law_state", "_law_things"] [] ∧ FnOk P w K mg base CX0 2 f fd ["_law_state", "_law_things"] (spMix K)
  same : ∃ f fd, mg "_law_same" = some (.ref f) ∧ PySem.W.keepIn K (.ref f) = true ∧ Binds K fd ["_law_found", "_law_due"] [] ∧ FnOk P w K mg base CX0 5 f fd ["_law_found", "_law_due"] (spSame K 5)
  rising : ∃ f fd, mg "_law_rising" = some (.ref f) ∧ PySem.W.keepIn K (.ref f) = true ∧ Binds K fd ["_law_things"] [] ∧ FnOk P w K mg base CX0 1 f fd ["_law_things"] spRising
  drawn : ∃ f fd, mg "_law_drawn" = some (.ref f) ∧ PySem.W.keepIn K (.ref f) = true ∧ Binds K fd ["_law_state"] [] ∧ FnOk P w K mg base CX0 2 f fd ["_law_state"] spDrawn
  compared : ∃ f fd, mg "_law_compared" = some (.ref f) ∧ PySem.W.keepIn K (.ref f) = true ∧ Binds K fd ["_law_one", "_law_other", "_law_some", "_law_more"] [] ∧ FnOk P w K mg base CX0 8 f fd ["_law_one", "_law_other", "_law_some", "_law_more"] (spCompared C)
  or : ∃ g fd, Meth K C "__or__" g ∧ Binds K fd ["self", "other"] [] ∧ FnOk P w K mg base CX0 6 g fd ["self", "other"] (spBin C (· || ·))
  and : ∃ g fd, Meth K C "__and__" g ∧ Binds K fd ["self", "other"] [] ∧ FnOk P w K mg base CX0 6 g fd ["self", "other"] (spBin C (· && ·))
  sub : ∃ g fd, Meth K C "__sub__" g ∧ Binds K fd ["self", "other"] [] ∧ FnOk P w K mg base CX0 6 g fd ["self", "other"] (spBin C fun x y => x && !y)
  xor : ∃ g fd, Meth K C "__xor__" g ∧ Binds K fd ["self", "other"] [] ∧ FnOk P w K mg base CX0 6 g fd ["self", "other"] (spBin C fun x y => x != y)
section
variable {P : Program} {w : World} {K : PySem.W.Frag} {mg : Str → Option Value} {base : Heap} {C : Addr}
abbrev NLa : List Str := ["_law_script", "_law_state", "_law_turn", "_law_every", "_law_some", "_law_more", "_law_way", "_law_place", "_law_k", "_law_one", "_law_other", "_law_both", "_law_x", "_law_rows", "_law_found", "_law_row"]
theorem scLa : FnScope NLa ["_law_script"] (defScope sLaw) := ⟨rfl, rfl, rfl, by decide +kernel, rfl, by decide +kernel, by decide +kernel⟩
theorem ok_law {f : Addr} {fd : FuncData} (F : Fun K "law" "law" sLaw f fd) (T : LawG P w K mg base C) : FnOk P w K mg base CX0 10 f fd ["_law_script"] (spLaw K) := by
  obtain ⟨fT, fdT, gT, kT, bT, GT⟩ := T.t.take
  obtain ⟨fF, fdF, gF, kF, bF, GF⟩ := T.fresh
  obtain ⟨fX, fdX, gX, kX, bX, GX⟩ := T.mix
  obtain ⟨fS, fdS, gS, kS, bS, GS⟩ := T.same
  obtain ⟨fR, fdR, gR, kR, bR, GR⟩ := T.rising
  obtain ⟨fD, fdD, gD, kD, bD, GD⟩ := T.drawn
  obtain ⟨fC, fdC, gC, kC, bC, GC⟩ := T.compared
  obtain ⟨fM, fdM, MM, bM, GM⟩ := T.lot.make
  obtain ⟨fOr, fdOr, MOr, bOr, GOr⟩ := T.or
  obtain ⟨fAnd, fdAnd, MAnd, bAnd, GAnd⟩ := T.and
  obtain ⟨fSub, fdSub, MSub, bSub, GSub⟩ := T.sub
  obtain ⟨fXor, fdXor, MXor, bXor, GXor⟩ := T.xor
  obtain ⟨geq, fdeq, Meq, Neq, beq, Geq⟩ := T.cmp.eq
  refine F.ok scLa (fun vs H Q E h => ?_) (fun cdv A outer s H vs Q E hr h => ?_)
  · obtain ⟨a, ns, rfl, _⟩ := h
    rfl
  · obtain ⟨a, ns, rfl, hS, hn, k⟩ := h
    have r1 : Room 1 _ := hr.mono (by decide)
    have r2 : Room 2 _ := hr.mono (by decide)
    have rT := r1
    have rR := r1
    have rX := r2
    have r5 : Room 5 _ := hr.mono (by decide)
    have rS := r5
    have r6 : Room 6 _ := hr.mono (by decide)
    have rC : Room 8 _ := hr.mono (by decide)
    have u65 := units65 hr
    refine ⟨_, pss_cons (ps_set (i := 1) scLa.nd rfl (.inr rfl) (pe_call GF r1 (by rfl) gF kF bF .nil pass0 (pa_cons (pv 0) pa_nil)))
      (pss_cons (ps_for PassesOwn.never rfl (pi_range1 (by rfl) T.t.range (pa_cons pe_int pa_nil)) (pg_name (i := 2) scLa.nd rfl (Or.inl rfl))
        (pss_cons (ps_set (i := 3) scLa.nd rfl (.inl rfl) (pe_call GD rX (by rfl) gD kD bD .nil pass0 (pa_cons (pv 1) pa_nil)))
        (pss_cons (ps_set (i := 4) scLa.nd rfl (.inr rfl) (pe_lc (own := [("_law_place", 7)]) (g := gName 7) rfl scLa.nd (pi_list (pv 3)) (blkOk_by (N := NLa) (sc := defScope sLaw) (by decide +kernel)) (fun _ _ _ _ _ => pg_name (i := 7) scLa.nd rfl (Or.inl rfl)) (fun _ _ _ _ _ => pts_one (pt_cmpR op_eq (pe_call GT rT (by rfl) gT kT bT .nil pass0 (pa_cons (pv 1) (pa_cons pe_int pa_nil))) pe_int (nomark _))) (fun _ _ _ _ _ => (pv 7))))
        (pss_cons (ps_set (i := 5) scLa.nd rfl (.inr rfl) (pe_lc (own := [("_law_place", 7)]) (g := gName 7) rfl scLa.nd (pi_list (pv 3)) (blkOk_by (N := NLa) (sc := defScope sLaw) (by decide +kernel)) (fun _ _ _ _ _ => pg_name (i := 7) scLa.nd rfl (Or.inl rfl)) (fun _ _ _ _ _ => pts_one (pt_cmpR op_eq (pe_call GT rT (by rfl) gT kT bT .nil pass0 (pa_cons (pv 1) (pa_cons pe_int pa_nil))) pe_int (nomark _))) (fun _ _ _ _ _ => (pv 7))))
        (pss_cons (ps_set (i := 6) scLa.nd rfl (.inl rfl) (pe_call GT rT (by rfl) gT kT bT .nil pass0 (pa_cons (pv 1) (pa_cons pe_int pa_nil))))
        (C8.pss_cut (ps_if (pt_cmpR op_lt (pv 6) pe_int (nomark _)) (C8.pss_cut (ps_set (i := 5) scLa.nd rfl (.inr rfl) (pe_ix ix_list (pe_lst (pa_cons (pe_op op_cat (pv 4) (pv 5)) (pa_cons (pe_lst pa_nil) (pa_cons (pe_callTy call_list_of (by rfl) T.list (by decide +kernel) (pa_cons (pv 4) pa_nil)) pa_nil)))) (pv 6) (fun _ _ => rfl))) (pss_one (ps_set (i := 5) scLa.nd rfl (.inr rfl) (pe_lc (own := [("_law_k", 8), ("_law_place", 7)]) (g := gTup K 2 (gCons (gName 8) (gCons (gName 7) gNil))) rfl scLa.nd (pi_enum (by rfl) T.enum (pa_cons (pv 5) pa_nil)) (blkOk_by (N := NLa) (sc := defScope sLaw) (by decide +kernel)) (fun _ _ _ _ _ => pg_tup rfl (pgs_cons (pg_name (i := 8) scLa.nd rfl (Or.inl rfl)) (pgs_cons (pg_name (i := 7) scLa.nd rfl (Or.inl rfl)) pgs_nil))) (fun _ _ _ _ _ => pts_one (pt_cmpR (op_notInDK (K := K) u65) (pv 7) (pe_slice (sl_listK (K := K)) (pv 5) po_none (po_some (pv 8))) rfl)) (fun _ _ _ _ _ => pv 7))))) pss_nil)
        (pss_cons (ps_par (i := 9) (j := 10) rfl scLa.nd rfl rfl (by decide) rfl rfl (pa_cons (pe_make MM GM r5 (by rfl) T.lot.c.glob bM .nil pass0 (pa_cons (pe_call GX rX (by rfl) gX kX bX .nil pass0 (pa_cons (pv 1) (pa_cons (pv 4) pa_nil))) pa_nil)) (pa_cons (pe_make MM GM r5 (by rfl) T.lot.c.glob bM .nil pass0 (pa_cons (pe_call GX rX (by rfl) gX kX bX .nil pass0 (pa_cons (pv 1) (pa_cons (pv 5) pa_nil))) pa_nil)) pa_nil)) (by rfl))
        (pss_cons (ps_set (i := 11) scLa.nd rfl (.inr rfl) (pe_lc (own := [("_law_x", 12)]) (g := gName 12) rfl scLa.nd (pi_list (pv 4)) (blkOk_by (N := NLa) (sc := defScope sLaw) (by decide +kernel)) (fun _ _ _ _ _ => pg_name (i := 12) scLa.nd rfl (Or.inl rfl)) (fun _ _ _ _ _ => pts_one (pt_cmpR (op_inDK (K := K) u65) (pv 12) (pv 5) rfl)) (fun _ _ _ _ _ => (pv 12))))
        (pss_cons (ps_set (i := 13) scLa.nd rfl (.inl rfl) (pe_lst (pa_cons (pe_op op_cat (pv 4) (pe_lc (own := [("_law_x", 12)]) (g := gName 12) rfl scLa.nd (pi_list (pv 5)) (blkOk_by (N := NLa) (sc := defScope sLaw) (by decide +kernel)) (fun _ _ _ _ _ => pg_name (i := 12) scLa.nd rfl (Or.inl rfl)) (fun _ _ _ _ _ => pts_one (pt_cmpR (op_notInDK (K := K) u65) (pv 12) (pv 4) rfl)) (fun _ _ _ _ _ => (pv 12)))) (pa_cons (pv 11) (pa_cons (pe_lc (own := [("_law_x", 12)]) (g := gName 12) rfl scLa.nd (pi_list (pv 4)) (blkOk_by (N := NLa) (sc := defScope sLaw) (by decide +kernel)) (fun _ _ _ _ _ => pg_name (i := 12) scLa.nd rfl (Or.inl rfl)) (fun _ _ _ _ _ => pts_one (pt_cmpR (op_notInDK (K := K) u65) (pv 12) (pv 5) rfl)) (fun _ _ _ _ _ => (pv 12))) pa_nil)))))
        (pss_cons (ps_expr (pe_bm PySem.F.plainAttrs_list PySem.F.slot_list_append PySem.F.type_list_append mt_append (pv 13) (pa_cons (pe_lc (own := [("_law_x", 12)]) (g := gName 12) rfl scLa.nd (pi_list (pe_op op_cat (pv 4) (pv 5))) (blkOk_by (N := NLa) (sc := defScope sLaw) (by decide +kernel)) (fun _ _ _ _ _ => pg_name (i := 12) scLa.nd rfl (Or.inl rfl)) (fun _ _ _ _ _ => pts_one (pt_cmpR (op_notInDK (K := K) u65) (pv 12) (pv 11) rfl)) (fun _ _ _ _ _ => (pv 12))) pa_nil)))
        (pss_cons (ps_set (i := 14) scLa.nd rfl (.inl rfl) (pe_lst (pa_cons (pe_op (op_two (op := .BitOr) MOr T.lot.c.sf GOr r6 bOr pass0) (pv 9) (pv 10)) (pa_cons (pe_op (op_two (op := .BitAnd) MAnd T.lot.c.sf GAnd r6 bAnd pass0) (pv 9) (pv 10)) (pa_cons (pe_op (op_two (op := .Sub) MSub T.lot.c.sf GSub r6 bSub pass0) (pv 9) (pv 10)) (pa_cons (pe_op (op_two (op := .BitXor) MXor T.lot.c.sf GXor r6 bXor pass0) (pv 9) (pv 10)) pa_nil))))))
        (pss_cons (ps_if (pt_not (pt_val (pe_callB (cr_all rfl) (by rfl) T.all (by decide +kernel) (pa_cons (pe_lc (own := [("_law_x", 12)]) (g := gName 12) (tt := tYes) rfl scLa.nd (pi_list (pv 14)) (blkOk_by (N := NLa) (sc := defScope sLaw) (by decide +kernel)) (fun _ _ _ _ _ => pg_name (i := 12) scLa.nd rfl (Or.inl rfl)) (fun _ _ _ _ _ => pts_nil) (fun _ _ _ _ _ => (pe_callB (C8.call_isC T.lot.c.isC) (by rfl) T.lot.isi (by decide +kernel) (pa_cons (pv 12) (pa_cons (pe_glob (v := .ref C) (by rfl) T.lot.c.glob rfl) pa_nil))))) pa_nil)))) (pss_one (ps_ret pe_bl)) pss_nil)
        (pss_cons (ps_if (pt_not (pt_val (pe_call GS rS (by rfl) gS kS bS .nil pass0 (pa_cons (pe_lc (own := [("_law_x", 12)]) (g := gName 12) (tt := tYes) rfl scLa.nd (pi_list (pv 14)) (blkOk_by (N := NLa) (sc := defScope sLaw) (by decide +kernel)) (fun _ _ _ _ _ => pg_name (i := 12) scLa.nd rfl (Or.inl rfl)) (fun _ _ _ _ _ => pts_nil) (fun _ _ _ _ _ => (pe_fldK (K := K) (pv 12) rfl))) (pa_cons (pe_lc (own := [("_law_row", 15)]) (g := gName 15) (tt := tYes) rfl scLa.nd (pi_list (pv 13)) (blkOk_by (N := NLa) (sc := defScope sLaw) (by decide +kernel)) (fun _ _ _ _ _ => pg_name (i := 15) scLa.nd rfl (Or.inl rfl)) (fun _ _ _ _ _ => pts_nil) (fun _ _ _ _ _ => (pe_callTy (call_tuple_ofK (K := K)) (by rfl) T.tuple (by decide +kernel) (pa_cons (pe_call GR rR (by rfl) gR kR bR .nil pass0 (pa_cons (pv 15) pa_nil)) pa_nil)))) pa_nil))))) (pss_one (ps_ret pe_bl)) pss_nil)
        (pss_cons (ps_if (pt_not (pt_val (pe_call GC rC (by rfl) gC kC bC .nil pass0 (pa_cons (pv 9) (pa_cons (pv 10) (pa_cons (pv 4) (pa_cons (pv 5) pa_nil))))))) (pss_one (ps_ret pe_bl)) pss_nil)
        (pss_cons (ps_if (pw_or (pt_cmpR (op_unlike Neq Geq r2 beq pass0) (pe_op (op_two (op := .Sub) MSub T.lot.c.sf GSub r6 bSub pass0) (pe_op (op_two (op := .BitOr) MOr T.lot.c.sf GOr r6 bOr pass0) (pv 9) (pv 10)) (pe_op (op_two (op := .BitXor) MXor T.lot.c.sf GXor r6 bXor pass0) (pv 9) (pv 10))) (pe_op (op_two (op := .BitAnd) MAnd T.lot.c.sf GAnd r6 bAnd pass0) (pv 9) (pv 10)) (nomark _)) (pw_or1 (pt_not (pt_cmpR (op_cmp (op := .Eq) (fun _ _ => rfl) Meq T.lot.c.nf Geq r1 beq pass0) (pe_op (op_two (op := .BitAnd) MAnd T.lot.c.sf GAnd r6 bAnd pass0) (pe_op (op_two (op := .Sub) MSub T.lot.c.sf GSub r6 bSub pass0) (pv 9) (pv 10)) (pv 10)) (pe_make MM GM r5 (by rfl) T.lot.c.glob bM .nil pass0 (pa_cons (pe_lst pa_nil) pa_nil)) (nomark _))))).pt (pss_one (ps_ret pe_bl)) pss_nil)
        (pss_one (ps_if (pt_not (pt_val (pe_call GS rS (by rfl) gS kS bS .nil pass0 (pa_cons (pe_tup (pa_cons (pe_fld (pv 9) rfl) (pa_cons (pe_fld (pv 10) rfl) pa_nil))) (pa_cons (pe_tup (pa_cons (pe_callTy call_tuple_of (by rfl) T.tuple (by decide +kernel) (pa_cons (pe_call GR rR (by rfl) gR kR bR .nil pass0 (pa_cons (pv 4) pa_nil)) pa_nil)) (pa_cons (pe_callTy call_tuple_of (by rfl) T.tuple (by decide +kernel) (pa_cons (pe_call GR rR (by rfl) gR kR bR .nil pass0 (pa_cons (pv 5) pa_nil)) pa_nil)) pa_nil))) pa_nil))))) (pss_one (ps_ret pe_bl)) pss_nil)))))))))))))))))
      (pss_one (ps_ret pe_bl))), ?_⟩
    refine ⟨_, rfl, a, ns, rfl, hS, hn, fun st l cs H0 s0 S0 nst => ?_⟩
    refine ⟨10, rfl, by decide, by decide, ?_⟩
    refine for_range (n := 10) (fun i σ H2 => (∃ v2 v3 v4 v5 v6 v9 v10 v11 v13 v14 : Option V, σ = [some (.ref a), some (.ref st), v2, v3, v4, v5, v6, none, none, v9, v10, v11, none, v13, v14, none]) ∧ Spr H2 st l cs (200 * i)) ⟨⟨_, _, _, _, _, _, _, _, _, _, rfl⟩, S0⟩ ?_ ?_
    · rintro i σ H2 hi ⟨⟨v2, v3, v4, v5, v6, v9, v10, v11, v13, v14, rfl⟩, S2⟩
      refine ⟨_, rfl, st, l, cs, _, rfl, S2, by omega, fun ev E H3 b3 nev hev aE oE nE lE S3 => ?_⟩
      have LE : Ls H3 st ev E := ⟨hev, S2.not nev, aE, oE⟩
      -- some
      refine ⟨_, rfl, ev, rfl, ⟨_, SqL.of hev⟩, fun D4 n4 => ?_⟩
      refine lc_list (xs := refs E) (Some_ H3 st l D4 cs (200 * i + 40) E) ⟨[], upd_same, List.nil_sublist _, S3.mono (same_new n4 _), But.of (same_new n4 _)⟩ (fun j H9 _ ⟨A, _, _, _, b9⟩ => SqL.of (b9 ev _ LE.ne hev)) ?_ ?_
      · rintro j x H9 hx ⟨A, h9, sub, S9, b9⟩
        obtain ⟨p, hp, rfl⟩ := refs_get hx
        have lj := (List.getElem?_eq_some_iff.mp hp).1
        refine ⟨rfl, _, rfl, st, l, cs, _, 2, rfl, by decide, by decide, by omega, S9, fun r H10 r0 r1' S10 hk => ?_⟩
        obtain ⟨z1, z2⟩ := some_turn n4 S3 ⟨A, h9, sub, b9⟩ S10 hk hp (by omega)
        exact ⟨rfl, _, rfl, ite2 (fun _ => ⟨_, rfl, z1⟩) fun _ => z2⟩
      rintro H4 ⟨A, h4, sub4, S4, b4⟩
      rw [refs_len] at S4 sub4
      rw [List.take_of_length_le (Nat.le_refl _)] at sub4
      have LE4 := LE.but S3 b4
      have LA : Ls H4 st D4 A := ⟨h4, S3.not n4, LE4.ats.sub fun q hq => sub4.subset hq, oE.sub fun q hq => sub4.subset hq⟩
      have nA : (keys A).Nodup := List.Nodup.sublist (sub4.map _) nE
      have lA : A.length ≤ 8 := Nat.le_trans sub4.length_le lE
      -- more
      refine ⟨_, rfl, ev, rfl, ⟨_, SqL.of LE4.at_⟩, fun D5 n5 => ?_⟩
      refine lc_list (xs := refs E) (Some_ H4 st l D5 cs (200 * i + 48) E) ⟨[], upd_same, List.nil_sublist _, (S4.up (by omega)).mono (same_new n5 _), But.of (same_new n5 _)⟩ (fun j H9 _ ⟨A, _, _, _, b9⟩ => SqL.of (b9 ev _ LE.ne LE4.at_)) ?_ ?_
      · rintro j x H9 hx ⟨A, h9, sub, S9, b9⟩
        obtain ⟨p, hp, rfl⟩ := refs_get hx
        have lj := (List.getElem?_eq_some_iff.mp hp).1
        refine ⟨rfl, _, rfl, st, l, cs, _, 2, rfl, by decide, by decide, by omega, S9, fun r H10 r0 r1' S10 hk => ?_⟩
        obtain ⟨z1, z2⟩ := some_turn n5 (S4.up (by omega)) ⟨A, h9, sub, b9⟩ S10 hk hp (by omega)
        exact ⟨rfl, _, rfl, ite2 (fun _ => ⟨_, rfl, z1⟩) fun _ => z2⟩
      rintro H5 ⟨B0, h5, sub5, S5, b5⟩
      rw [refs_len] at S5 sub5
      rw [List.take_of_length_le (Nat.le_refl _)] at sub5
      have LB0 : Ls H5 st D5 B0 := ⟨h5, S4.not n5, (LE4.but S4 b5).ats.sub fun q hq => sub5.subset hq, oE.sub fun q hq => sub5.subset hq⟩
      have nB0 : (keys B0).Nodup := List.Nodup.sublist (sub5.map _) nE
      have lB0 : B0.length ≤ 8 := Nat.le_trans sub5.length_le lE
      have LA5 := LA.but S4 b5
      -- way
      refine ⟨_, rfl, st, l, cs, _, 8, rfl, by decide, by decide, by omega, S5, fun way H6 w0 w1 S6 hk6 => ?_⟩
      have LA6 := LA5.but S5 (But.eq hk6)
      have LB6 := LB0.but S5 (But.eq hk6)
      refine ⟨fun σ' H' => ∃ (mo : Addr) (B : PL), σ' = [some (.ref a), some (.ref st), some (.int (0 + i)), some (.ref ev), some (.ref D4), some (.ref mo), some (.int way), none, none, v9, v10, v11, none, v13, v14, none] ∧ Ls H' st D4 A ∧ Ls H' st mo B ∧ (keys B).Nodup ∧ B.length ≤ 16 ∧ Spr H' st l cs (200 * i + 60), ?_, ?_⟩
      · refine ⟨_, rfl, _, _, rfl, rfl, _, rfl, ite2 (fun e => ?_) fun e => ?_⟩
        · refine ⟨fun σ' H' => ∃ (x0 : Addr) (X : PL), σ' = [some (.ref a), some (.ref st), some (.int (0 + i)), some (.ref ev), some (.ref D4), some (.ref x0), some (.int way), none, none, v9, v10, v11, none, v13, v14, none] ∧ Ls H' st D4 A ∧ Ls H' st x0 X ∧ X.length ≤ 16 ∧ Spr H' st l cs (200 * i + 60), ?_, ?_⟩
          · refine ⟨_, rfl, _, rfl, D4, D5, refs A, refs B0, rfl, rfl, LA6.at_, LB6.at_, sz (by rw [refs_len, refs_len]; omega), fun p np => ?_⟩
            have sp1 := same_new np (.lst (refs A ++ refs B0))
            refine ⟨sz (Nat.le_of_ble_eq_true rfl), fun q nq => ?_⟩
            have sp2 := sp1.trans (same_new nq (.lst []))
            refine ⟨_, rfl, D4, _, rfl, .inl (SqL.of (LA6.mono sp2).at_), fun r nr => ?_⟩
            have sp3 := sp2.trans (same_new nr (.lst (refs A)))
            refine ⟨sz (Nat.le_of_ble_eq_true rfl), fun d nd => ?_⟩
            have sp4 := sp3.trans (same_new nd (.lst [.ref p, .ref q, .ref r]))
            have e3 := of_decide_eq_true e
            have S7 := (S6.up (m := 200 * i + 60) (by omega)).mono sp4
            have w3 : way = 0 ∨ way = 1 ∨ way = 2 := by omega
            rcases w3 with rfl | rfl | rfl
            · refine ⟨_, rfl, d, _, _, .ref p, rfl, rfl, SqL.of upd_same, at_of (j := 0) rfl rfl, p, A ++ B0, rfl, LA6.mono sp4, ⟨?_, S6.not np, ?_, ?_⟩, by rw [List.length_append]; omega, S7⟩
              · rw [refs_app]
                exact (((same_new nq _).trans (same_new nr _)).trans (same_new nd _)) _ _ upd_same
              · intro z hz
                rcases List.mem_append.mp hz with y | y
                · exact (LA6.mono sp4).ats z y
                · exact (LB6.mono sp4).ats z y
              · intro z hz
                rcases List.mem_append.mp hz with y | y
                · exact LA6.oks z y
                · exact LB6.oks z y
            · refine ⟨_, rfl, d, _, _, .ref q, rfl, rfl, SqL.of upd_same, at_of (j := 1) rfl rfl, q, [], rfl, LA6.mono sp4, ⟨?_, S6.not (sp1.free nq), (fun _ h => nomatch h), (fun _ h => nomatch h)⟩, Nat.zero_le _, S7⟩
              exact ((same_new nr _).trans (same_new nd _)) _ _ upd_same
            · refine ⟨_, rfl, d, _, _, .ref r, rfl, rfl, SqL.of upd_same, at_of (j := 2) rfl rfl, r, A, rfl, LA6.mono sp4, ⟨?_, S6.not (sp2.free nr), (LA6.mono sp4).ats, LA6.oks⟩, by omega, S7⟩
              exact (same_new nd _) _ _ upd_same
          · rintro σ' H7 ⟨x0, X, rfl, LA7, LX, lX, S7⟩
            refine ⟨_, rfl, x0, refs X, rfl, SqL.of LX.at_, fun D8 n8 => ?_⟩
            refine lc_it (walk_enum (xs := refs X)) (First_ H7 D8 X) ⟨[], upd_same, List.nil_sublist _, List.nodup_nil, same_new n8 _⟩ (fun j H9 _ ⟨_, _, _, _, s9⟩ => SqL.of (s9 _ _ LX.at_)) ?_ ?_
            · rintro j x H9 H10 hj F9 ⟨T8, u, v, rfl, nT, rfl, hu, hv⟩
              obtain ⟨p, hp, rfl⟩ := refs_get hv
              obtain rfl := Option.some.inj hu
              have s9 : Same H7 H9 := by
                obtain ⟨_, _, _, _, s⟩ := F9
                exact s
              have sT := same_new nT (.tup [.int (j : Nat), .ref p.1])
              refine ⟨T8, _, rfl, SqT.of upd_same, rfl, _, _, rfl, _, _, rfl, rfl, rfl, ?_⟩
              refine ⟨_, rfl, _, rfl, _, rfl, _, rfl, x0, _, rfl, SqL.of ((s9.trans sT) _ _ LX.at_), fun y ny => ?_⟩
              rw [cut_take, refs_take]
              have sy := same_new ny (.lst (refs (X.take j)))
              have sA := s9.trans (sT.trans sy)
              refine ⟨dT p.2, (keys (X.take j)).map dT, dp_T (sA _ _ (LX.ats p (List.mem_of_getElem? hp))), .lst (SqL.of upd_same) (dp_refs ((LX.ats.mono sA).sub fun q hq => List.mem_of_mem_take hq)), sh_dT _, okd_list (okd_keys _), _, rfl, ?_⟩
              rw [any_keys]
              obtain ⟨z1, z2⟩ := first_turn n8 F9 (sT.trans sy) hp (by omega)
              refine ite2 (fun e => ?_) fun e => ?_
              · exact ⟨_, rfl, z1 (by simpa using e)⟩
              · exact z2
            · rintro H9 ⟨B, h9, sub, nd, s9⟩
              rw [refs_len, List.take_of_length_le (Nat.le_refl _)] at sub
              refine ⟨D8, B, rfl, LA7.mono s9, ⟨h9, S7.not n8, (LX.ats.mono s9).sub fun q hq => sub.subset hq, LX.oks.sub fun q hq => sub.subset hq⟩, nd, Nat.le_trans sub.length_le lX, S7.mono s9⟩
        · exact ⟨D5, B0, rfl, LA6, LB6, nB0, by omega, S6.up (by omega)⟩
      · rintro σ' H7 ⟨mo, B, rfl, LA7, LB7, nB, lB, S7⟩
        refine ⟨_, rfl, _, rfl, st, l, D4, cs, _, refs A, rfl, .inl (SqL.of LA7.at_), by rw [refs_len]; omega, by rw [refs_len]; omega, S7, LA7.data S7, fun pa ya G0 pm0 hp0 T0 c0 np0 => ?_⟩
        obtain ⟨A', rfl, pA⟩ := perm_refs pm0
        have LA0 := LA7.but S7 c0
        have LB0 := LB7.but S7 c0
        rw [refs_len] at T0
        have lA' : A'.length = A.length := pA.length_eq
        dsimp only [tNil]
        refine make_to hp0 (LA0.ats.sub fun q hq => pA.mem_iff.mp hq) (LA0.oks.sub fun q hq => pA.mem_iff.mp hq) (by omega) fun o1 L1 G1 t1 l1 le1 sub1 cov1 => ?_
        have T1 := T0.mono t1
        have LB1 := LB0.mono t1
        refine ⟨_, rfl, _, rfl, st, l, mo, cs, _, refs B, rfl, .inl (SqL.of LB1.at_), by rw [refs_len]; omega, by rw [refs_len]; omega, T1, LB1.data T1, fun pb yb G2 pm2 hp2 T2 c2 np2 => ?_⟩
        obtain ⟨B', rfl, pB⟩ := perm_refs pm2
        have LB2 := LB1.but T1 c2
        have LA2 := (LA0.mono t1).but T1 c2
        have l1' := l1.but T1 c2
        rw [refs_len] at T2
        have lB' : B'.length = B.length := pB.length_eq
        dsimp only [tNil]
        refine make_to hp2 (LB2.ats.sub fun q hq => pB.mem_iff.mp hq) (LB2.oks.sub fun q hq => pB.mem_iff.mp hq) (by omega) fun o2 L2' G3 t3 l2 le2 sub2 cov2 => ?_
        have LAg := LA2.mono t3
        have LBg := LB2.mono t3
        have l1g := l1'.mono t3
        have Sg : Spr G3 st l cs (200 * i + 100) := (T2.mono t3).up (by omega)
        have kL : ∀ k, k ∈ keys L1 ↔ k ∈ keys A := fun k => (key_iff sub1 cov1 k).trans (pA.map (·.2)).mem_iff
        have kM : ∀ k, k ∈ keys L2' ↔ k ∈ keys B := fun k => (key_iff sub2 cov2 k).trans (pB.map (·.2)).mem_iff
        have zL : L1.length ≤ 8 := by omega
        have zM : L2'.length ≤ 16 := by omega
        clear T0 T1 T2 LA0 LB0 LB1 LB2 LA2 l1' l1 t3 t1 c0 c2 hp0 hp2 S7 LA7 LB7
        refine ⟨_, _, rfl, ?_⟩
        -- both
        refine ⟨_, rfl, D4, rfl, ⟨_, SqL.of LAg.at_⟩, fun D12 nD12 => ?_⟩
        refine lc_list (xs := refs A) (fun i H9 => H9 D12 = some (.lst (refs (pick true B (A.take i)))) ∧ Same G3 H9) ⟨upd_same, same_new nD12 _⟩ (fun i H9 _ h9 => SqL.of (h9.2 _ _ LAg.at_)) ?_ ?_
        · rintro j x H9 hx ⟨h9, s9⟩
          obtain ⟨p, hp, rfl⟩ := refs_get hx
          refine ⟨rfl, _, rfl, _, rfl, dT p.2, (keys B).map dT, dp_T (s9 _ _ (LAg.ats p (List.mem_of_getElem? hp))), .lst (SqL.of (s9 _ _ LBg.at_)) (dp_refs (LBg.ats.mono s9)), sh_dT _, okd_list (okd_keys _), _, rfl, ?_⟩
          rw [any_keys]
          obtain ⟨z1, z2⟩ := pick_turn (b := true) (M := B) hp nD12 h9 s9 (Same.refl H9) (by omega)
          refine ite2 (fun e => ?_) fun e => ?_
          · exact ⟨_, rfl, z1 (by simpa using e)⟩
          · exact z2 (by simpa using e)
        rintro G4 ⟨hD12, tD12⟩
        rw [refs_len, List.take_of_length_le (Nat.le_refl _)] at hD12
        -- the rows
        refine ⟨_, rfl, ?_⟩
        refine ⟨_, rfl, mo, rfl, ⟨_, SqL.of (tD12 _ _ LBg.at_)⟩, fun D13 nD13 => ?_⟩
        refine lc_list (xs := refs B) (fun i H9 => H9 D13 = some (.lst (refs (pick false A (B.take i)))) ∧ Same G4 H9) ⟨upd_same, same_new nD13 _⟩ (fun i H9 _ h9 => SqL.of (h9.2 _ _ (tD12 _ _ LBg.at_))) ?_ ?_
        · rintro j x H9 hx ⟨h9, s9⟩
          obtain ⟨p, hp, rfl⟩ := refs_get hx
          refine ⟨rfl, _, rfl, _, rfl, dT p.2, (keys A).map dT, dp_T (s9 _ _ ((LBg.ats.mono tD12) p (List.mem_of_getElem? hp))), .lst (SqL.of (s9 _ _ (tD12 _ _ LAg.at_))) (dp_refs ((LAg.ats.mono tD12).mono s9)), sh_dT _, okd_list (okd_keys _), _, rfl, ?_⟩
          rw [any_keys]
          obtain ⟨z1, z2⟩ := pick_turn (b := false) (M := A) hp nD13 h9 s9 (Same.refl H9) (by omega)
          refine ite2 (fun e => ?_) fun e => ?_
          · exact ⟨_, rfl, z1 (by simpa using e)⟩
          · exact z2 (by simpa using e)
        rintro G5 ⟨hD13, tD13⟩
        rw [refs_len, List.take_of_length_le (Nat.le_refl _)] at hD13
        have u5 := tD12.trans tD13
        have zp := pick_len false A B
        refine ⟨D4, D13, _, _, rfl, rfl, u5 _ _ LAg.at_, hD13, sz (by rw [refs_len, refs_len]; omega), fun q nq => ?_⟩
        rw [← refs_app]
        have tq := same_new nq (.lst (refs (A ++ pick false A B)))
        have hq := @upd_same G5 q (.lst (refs (A ++ pick false A B)))
        generalize upd G5 q (.lst (refs (A ++ pick false A B))) = G6 at tq hq ⊢
        have u6 := u5.trans tq
        refine ⟨_, rfl, ?_⟩
        refine ⟨_, rfl, D4, rfl, ⟨_, SqL.of (u6 _ _ LAg.at_)⟩, fun D14 nD14 => ?_⟩
        refine lc_list (xs := refs A) (fun i H9 => H9 D14 = some (.lst (refs (pick false B (A.take i)))) ∧ Same G6 H9) ⟨upd_same, same_new nD14 _⟩ (fun i H9 _ h9 => SqL.of (h9.2 _ _ (u6 _ _ LAg.at_))) ?_ ?_
        · rintro j x H9 hx ⟨h9, s9⟩
          obtain ⟨p, hp, rfl⟩ := refs_get hx
          refine ⟨rfl, _, rfl, _, rfl, dT p.2, (keys B).map dT, dp_T (s9 _ _ ((LAg.ats.mono u6) p (List.mem_of_getElem? hp))), .lst (SqL.of (s9 _ _ (u6 _ _ LBg.at_))) (dp_refs ((LBg.ats.mono u6).mono s9)), sh_dT _, okd_list (okd_keys _), _, rfl, ?_⟩
          rw [any_keys]
          obtain ⟨z1, z2⟩ := pick_turn (b := false) (M := B) hp nD14 h9 s9 (Same.refl H9) (by omega)
          refine ite2 (fun e => ?_) fun e => ?_
          · exact ⟨_, rfl, z1 (by simpa using e)⟩
          · exact z2 (by simpa using e)
        rintro G7 ⟨hD14, tD14⟩
        rw [refs_len, List.take_of_length_le (Nat.le_refl _)] at hD14
        have u7 := u6.trans tD14
        refine ⟨sz (Nat.le_of_ble_eq_true rfl), fun ro nro => ?_⟩
        have tro := same_new nro (.lst [.ref q, .ref D12, .ref D14])
        have hro := @upd_same G7 ro (.lst [.ref q, .ref D12, .ref D14])
        generalize upd G7 ro (.lst [.ref q, .ref D12, .ref D14]) = G8 at tro hro ⊢
        have u8 := u7.trans tro
        have hq8 := tro _ _ (tD14 _ _ hq)
        have h12 := tro _ _ (tD14 _ _ (tq _ _ (tD13 _ _ hD12)))
        have h14 := tro _ _ hD14
        -- rows.append
        refine ⟨_, rfl, .inl ⟨rfl, _, SqL.of hro⟩, _, rfl, _, rfl, D4, mo, _, _, rfl, rfl, u8 _ _ LAg.at_, u8 _ _ LBg.at_, sz (by rw [refs_len, refs_len]; omega), fun q2 nq2 => ?_⟩
        rw [← refs_app]
        have tq2 := same_new nq2 (.lst (refs (A ++ B)))
        have hq2 := @upd_same G8 q2 (.lst (refs (A ++ B)))
        generalize upd G8 q2 (.lst (refs (A ++ B))) = G9 at tq2 hq2 ⊢
        have u9 := u8.trans tq2
        have aAB : Ats G9 (A ++ B) := fun z hz => (List.mem_append.mp hz).elim ((LAg.ats.mono u9) z) ((LBg.ats.mono u9) z)
        have oAB : Oks (A ++ B) := fun z hz => (List.mem_append.mp hz).elim (LAg.oks z) (LBg.oks z)
        have a1 : Ats G9 (pick true B A) := (LAg.ats.mono u9).sub fun z hz => pick_sub hz
        refine ⟨q2, rfl, ⟨_, SqL.of hq2⟩, fun D15 nD15 => ?_⟩
        refine lc_list (xs := refs (A ++ B)) (fun i H9 => H9 D15 = some (.lst (refs (pick false (pick true B A) ((A ++ B).take i)))) ∧ Same G9 H9) ⟨upd_same, same_new nD15 _⟩ (fun i H9 _ h9 => SqL.of (h9.2 _ _ hq2)) ?_ ?_
        · rintro j x H9 hx ⟨h9, s9⟩
          obtain ⟨p, hp, rfl⟩ := refs_get hx
          refine ⟨rfl, _, rfl, _, rfl, dT p.2, (keys (pick true B A)).map dT, dp_T (s9 _ _ (aAB p (List.mem_of_getElem? hp))), .lst (SqL.of (s9 _ _ (tq2 _ _ h12))) (dp_refs (a1.mono s9)), sh_dT _, okd_list (okd_keys _), _, rfl, ?_⟩
          rw [any_keys]
          obtain ⟨z1, z2⟩ := pick_turn (b := false) (M := (pick true B A)) hp nD15 h9 s9 (Same.refl H9) (by rw [List.length_append]; omega)
          refine ite2 (fun e => ?_) fun e => ?_
          · exact ⟨_, rfl, z1 (by simpa using e)⟩
          · exact z2 (by simpa using e)
        rintro G10 ⟨hD15, tD15⟩
        rw [refs_len, List.take_of_length_le (Nat.le_refl _)] at hD15
        have u10 := u9.trans tD15
        have ro10 := tD15 _ _ (tq2 _ _ hro)
        refine ⟨ro, _, _, rfl, rfl, ro10, small1000 (Nat.le_of_ble_eq_true rfl), ?_⟩
        have nroG : G3 ro = none := u7.free nro
        have e12 := (tq2.trans tD15) _ _ h12
        have e14 := (tq2.trans tD15) _ _ h14
        have eq8 := (tq2.trans tD15) _ _ hq8
        have ne : ∀ {b : Addr} {o : HO}, G7 b = some o → b ≠ ro := fun hb => ne_of_none hb nro
        have nb12 : D12 ≠ ro := ne (tD14 _ _ (tq _ _ (tD13 _ _ hD12)))
        have nb14 : D14 ≠ ro := ne hD14
        have nbq : q ≠ ro := ne (tD14 _ _ hq)
        have nb15 : ro ≠ D15 := ne_of_none (tq2 _ _ hro) nD15
        have u11 : Same G3 (upd G10 ro (.lst ([.ref q, .ref D12, .ref D14] ++ [.ref D15]))) := fun b o hb => by
          rw [upd_ne (ne_of_none hb nroG)]
          exact u10 b o hb
        have hro11 : upd G10 ro (.lst ([.ref q, .ref D12, .ref D14] ++ [.ref D15])) ro = some (.lst [.ref q, .ref D12, .ref D14, .ref D15]) := upd_same
        have f12 : upd G10 ro (.lst ([.ref q, .ref D12, .ref D14] ++ [.ref D15])) D12 = some (.lst (refs (pick true B A))) := by rw [upd_ne nb12]; exact e12
        have f14 : upd G10 ro (.lst ([.ref q, .ref D12, .ref D14] ++ [.ref D15])) D14 = some (.lst (refs (pick false B A))) := by rw [upd_ne nb14]; exact e14
        have fq : upd G10 ro (.lst ([.ref q, .ref D12, .ref D14] ++ [.ref D15])) q = some (.lst (refs (A ++ pick false A B))) := by rw [upd_ne nbq]; exact eq8
        have f15 : upd G10 ro (.lst ([.ref q, .ref D12, .ref D14] ++ [.ref D15])) D15 = some (.lst (refs (pick false (pick true B A) (A ++ B)))) := by rw [upd_ne nb15.symm]; exact hD15
        generalize upd G10 ro (.lst ([.ref q, .ref D12, .ref D14] ++ [.ref D15])) = G11 at u11 hro11 f12 f14 fq f15 ⊢
        clear hD12 hD13 hD14 hD15 tD12 tD13 tD14 tD15 u5 u6 u7 u8 u9 u10 tq tq2 tro h12 h14 hq8 e12 e14 eq8 ro10 hro aAB a1 hq hq2
        have LA := LAg.mono u11
        have LB := LBg.mono u11
        have k1 := l1g.mono u11
        have k2 := l2.mono u11
        -- the four joins
        refine ⟨_, rfl, _, rfl, o1, o2, rfl, rfl, k1.ins, k2.ins, o1, o2, L1, L2', rfl, k1, k2, by omega, fun m0 N0 J0 j0 x0 y0 e0 => ?_⟩
        refine ⟨_, rfl, _, rfl, o1, o2, rfl, rfl, (k1.mono j0).ins, (k2.mono j0).ins, o1, o2, L1, L2', rfl, k1.mono j0, k2.mono j0, by omega, fun m1 N1 J1 j1 x1 y1 e1 => ?_⟩
        have i1 := j0.trans j1
        refine ⟨_, rfl, _, rfl, o1, o2, rfl, rfl, (k1.mono i1).ins, (k2.mono i1).ins, o1, o2, L1, L2', rfl, k1.mono i1, k2.mono i1, by omega, fun m2 N2 J2 j2 x2 y2 e2 => ?_⟩
        have i2 := i1.trans j2
        refine ⟨_, rfl, _, rfl, o1, o2, rfl, rfl, (k1.mono i2).ins, (k2.mono i2).ins, o1, o2, L1, L2', rfl, k1.mono i2, k2.mono i2, by omega, fun m3 N3 J3 j3 x3 y3 e3 => ?_⟩
        have i3 := i2.trans j3
        refine ⟨sz (Nat.le_of_ble_eq_true rfl), fun fo nfo => ?_⟩
        have jf := same_new nfo (.lst [.ref m0, .ref m1, .ref m2, .ref m3])
        have hfo := @upd_same J3 fo (.lst [.ref m0, .ref m1, .ref m2, .ref m3])
        generalize upd J3 fo (.lst [.ref m0, .ref m1, .ref m2, .ref m3]) = F0 at jf hfo ⊢
        have i4 := i3.trans jf
        obtain ⟨Z, eZ⟩ : ∃ Z : List (Addr × PL × Addr × PL), Z = [(m0, N0, q, A ++ pick false A B), (m1, N1, D12, pick true B A), (m2, N2, D14, pick false B A), (m3, N3, D15, pick false (pick true B A) (A ++ B))] := ⟨_, rfl⟩
        have dL : ∀ k : List Int, decide (k ∈ keys L1) = decide (k ∈ keys A) := fun k => decide_eq_decide.mpr (kL k)
        have dM : ∀ k : List Int, decide (k ∈ keys L2') = decide (k ∈ keys B) := fun k => decide_eq_decide.mpr (kM k)
        have RW : ∀ z ∈ Z, Row C F0 z := by
          have sAA : ∀ {b : Bool} {M : PL}, ∀ z ∈ pick b M A, z ∈ A := fun z hz => pick_sub hz
          intro z hz
          rw [eZ] at hz
          simp only [List.mem_cons, List.not_mem_nil, or_false] at hz
          have sP := pick_len true B A
          have sP2 := pick_len false B A
          have sP3 := pick_len false (pick true B A) (A ++ B)
          rw [List.length_append] at sP3
          rcases hz with rfl | rfl | rfl | rfl
          · exact ⟨x0.mono ((j1.trans (j2.trans j3)).trans jf), i4 _ _ fq, fun z hz => (List.mem_append.mp hz).elim (fun y => (LA.ats.mono i4) z y) fun y => (LB.ats.mono i4) z (pick_sub y), fun z hz => (List.mem_append.mp hz).elim (fun y => LA.oks z y) fun y => LB.oks z (pick_sub y), row0_nd nA nB, (by show (A ++ pick false A B).length ≤ 50; rw [List.length_append]; omega), fun k => by
              have w := e0 k
              dsimp only at w
              rw [dL, dM] at w
              exact w.trans (row0_iff k).symm⟩
          · exact ⟨x1.mono ((j2.trans j3).trans jf), i4 _ _ f12, (LA.ats.mono i4).sub sAA, LA.oks.sub sAA, keys_pick_nd nA, Nat.le_trans sP (by omega), fun k => by
              have w := e1 k
              dsimp only at w
              rw [dL, dM] at w
              exact w.trans (row1_iff k).symm⟩
          · exact ⟨x2.mono (j3.trans jf), i4 _ _ f14, (LA.ats.mono i4).sub sAA, LA.oks.sub sAA, keys_pick_nd nA, Nat.le_trans sP2 (by omega), fun k => by
              have w := e2 k
              dsimp only at w
              rw [dL, dM] at w
              exact w.trans (row2_iff k).symm⟩
          · exact ⟨x3.mono jf, i4 _ _ f15, fun z hz => (List.mem_append.mp (pick_sub hz)).elim (fun y => (LA.ats.mono i4) z y) fun y => (LB.ats.mono i4) z y, fun z hz => (List.mem_append.mp (pick_sub hz)).elim (fun y => LA.oks z y) fun y => LB.oks z y, row3_nd nA nB, Nat.le_trans sP3 (by omega), fun k => by
              have w := e3 k
              dsimp only at w
              rw [dL, dM] at w
              exact w.trans (row3_iff k).symm⟩
        have hfZ : F0 fo = some (.lst (Z.map fun z => V.ref z.1)) := by rw [hfo, eZ]; rfl
        have hrZ : F0 ro = some (.lst (Z.map fun z => V.ref z.2.2.1)) := by rw [i4 _ _ hro11, eZ]; rfl
        have lZ : Z.length = 4 := by rw [eZ]; rfl
        have ua := u11.trans i4
        have K1' := k1.mono i4
        have K2' := k2.mono i4
        have LA' := LA.mono i4
        have LB' := LB.mono i4
        clear hfo hro11 f12 f14 fq f15 x0 x1 x2 x3 e0 e1 e2 e3 y0 y1 y2 y3 j0 j1 j2 j3 jf i1 i2 i3 i4 k1 k2 LA LB
        have getZ : ∀ {g : Addr × PL × Addr × PL → Addr} {j : Nat} {x : V}, (Z.map fun z => V.ref (g z))[j]? = some x → ∃ z, Z[j]? = some z ∧ x = .ref (g z) := fun {g j x} hx => by
          rw [List.getElem?_map] at hx
          obtain ⟨z, h1, h2⟩ := Option.map_eq_some_iff.mp hx
          exact ⟨z, h1, h2.symm⟩
        -- all are Lots
        refine ⟨_, rfl, fo, rfl, ⟨_, SqL.of hfZ⟩, fun D16 n16 => ?_⟩
        refine lc_list (xs := Z.map fun z => V.ref z.1) (fun j H9 => H9 D16 = some (.lst (List.replicate j (.bl true))) ∧ Same F0 H9) ⟨upd_same, same_new n16 _⟩ (fun j H9 _ h9 => SqL.of (h9.2 _ _ hfZ)) ?_ ?_
        · rintro j x H9 hx ⟨h9, s9⟩
          have lj := (List.getElem?_eq_some_iff.mp hx).1
          rw [List.length_map, lZ] at lj
          obtain ⟨z, hz, rfl⟩ := getZ hx
          obtain ⟨dx, fs, hin⟩ := ((RW z (List.mem_of_getElem? hz)).lot.mono s9).ins
          refine ⟨rfl, _, rfl, z.1, dx, fs, rfl, hin, _, h9, small1000 (by rw [List.length_replicate]; omega), by rw [upd_same, List.replicate_succ'], fun b o hb => ?_⟩
          rw [upd_ne (ne_of_none hb n16)]
          exact s9 _ _ hb
        rintro F1 ⟨hb1, v1⟩
        refine ⟨D16, List.replicate Z.length true, rfl, SqL.of (by rw [hb1, List.map_replicate, List.length_map]), _, rfl, ?_⟩
        have eall : (List.replicate Z.length true).all id = true := List.all_eq_true.mpr fun b hb => (List.mem_replicate.mp hb).2
        rw [eall]
        refine iteF ?_
        -- the places of the joins, beside the law's rows
        refine ⟨_, rfl, fo, rfl, ⟨_, SqL.of (v1 _ _ hfZ)⟩, fun D17 n17 => ?_⟩
        refine lc_list (xs := Z.map fun z => V.ref z.1) (fun j H9 => ∃ ts : List Addr, H9 D17 = some (.lst (ts.map V.ref)) ∧ Pw (fun t z => H9 t = some (.tup (refs z.2.1))) ts (Z.take j) ∧ Same F1 H9) ⟨[], upd_same, Pw.nil, same_new n17 _⟩ (fun j H9 _ ⟨_, _, _, s9⟩ => SqL.of ((v1.trans s9) _ _ hfZ)) ?_ ?_
        · rintro j x H9 hx ⟨ts, h9, pw, s9⟩
          have lj := (List.getElem?_eq_some_iff.mp hx).1
          rw [List.length_map, lZ] at lj
          obtain ⟨z, hz, rfl⟩ := getZ hx
          obtain ⟨dx, t, kn, kvs, y1, y2, _⟩ := ((RW z (List.mem_of_getElem? hz)).lot.mono (v1.trans s9))
          have lt := pw.1
          rw [List.length_take] at lt
          refine ⟨rfl, _, rfl, z.1, C, dx, _, _, rfl, y1, T.lot.c.cls, T.lot.c.np, rfl, _, h9, small1000 (by rw [List.length_map]; omega), ts ++ [t], by rw [upd_same, List.map_append]; rfl, ?_, fun b o hb => ?_⟩
          · refine (pw.imp fun t' z' h => ?_).snoc hz ?_
            · rw [upd_ne (fun e => by rw [e, h9] at h; cases h)]
              exact h
            · rw [upd_ne (fun e => by rw [e, h9] at y2; cases y2)]
              exact y2
          · rw [upd_ne (ne_of_none hb n17)]
            exact s9 _ _ hb
        rintro F2 ⟨ts, hts, pts, v2'⟩
        rw [List.length_map, List.take_of_length_le (Nat.le_refl _)] at pts
        have v12 := v1.trans v2'
        refine ⟨_, rfl, ro, rfl, ⟨_, SqL.of (v12 _ _ hrZ)⟩, fun D18 n18 => ?_⟩
        refine lc_list (xs := Z.map fun z => V.ref z.2.2.1) (fun j H9 => ∃ us : List Addr, H9 D18 = some (.lst (us.map V.ref)) ∧ Pw (fun u z => ∃ R', H9 u = some (.tup (refs R')) ∧ R'.Perm z.2.2.2 ∧ Asc R') us (Z.take j) ∧ Same F2 H9) ⟨[], upd_same, Pw.nil, same_new n18 _⟩ (fun j H9 _ ⟨_, _, _, s9⟩ => SqL.of ((v12.trans s9) _ _ hrZ)) ?_ ?_
        · rintro j x H9 hx ⟨us, h9, pw, s9⟩
          have lj := (List.getElem?_eq_some_iff.mp hx).1
          rw [List.length_map, lZ] at lj
          obtain ⟨z, hz, rfl⟩ := getZ hx
          have rz := (RW z (List.mem_of_getElem? hz)).mono (v12.trans s9)
          have lt := pw.1
          rw [List.length_take] at lt
          refine ⟨rfl, _, rfl, z.2.2.1, z.2.2.2, rfl, rz.row, rz.ats, rz.oks, rz.nd, rz.few, fun f' R' H10 s10 nf' hf' pm asc => ?_⟩
          refine ⟨f', refs R', rfl, .inl ⟨SqL.of hf', fun t nt => ?_⟩⟩
          have sT := same_new nt (.tup (refs R'))
          have s11 := s10.trans sT
          refine ⟨_, s11 _ _ h9, small1000 (by rw [List.length_map]; omega), us ++ [t], by rw [upd_same, List.map_append]; rfl, ?_, fun b o hb => ?_⟩
          · exact (pw.imp fun t' z' h0 => by
              obtain ⟨R0, h, q0⟩ := h0
              exact ⟨R0, by rw [upd_ne (fun e => by rw [e, h9] at h; cases h)]; exact s11 _ _ h, q0⟩).snoc hz ⟨R', by rw [upd_ne (fun e => by have w := s11 _ _ h9; rw [← e, upd_same] at w; cases w)]; exact upd_same, pm, asc⟩
          · rw [upd_ne (ne_of_none hb n18)]
            exact s11 _ _ (s9 _ _ hb)
        rintro F3 ⟨us, hus, pus, v3'⟩
        rw [List.length_map, List.take_of_length_le (Nat.le_refl _)] at pus
        have v13 := v12.trans v3'
        refine ⟨_, _, rfl, same_list (v3' _ _ hts) hus (pts.1.trans pus.1.symm) (by rw [pts.1, lZ]; decide) fun j t u h1 h2 => ?_, fun F4 v4' => ⟨_, rfl, iteF ?_⟩⟩
        · have lj := (List.getElem?_eq_some_iff.mp h1).1
          rw [pts.1] at lj
          have hz : Z[j]? = some Z[j] := List.getElem?_eq_getElem lj
          have rz := (RW Z[j] (List.getElem_mem lj)).mono v13
          obtain ⟨R', hu, pm, asc⟩ := pus.2 j u _ h2 hz
          exact same_places (v3' _ _ (pts.2 j t _ h1 hz)) hu rz.lot.ats (rz.ats.sub fun p hp => pm.mem_iff.mp hp) rz.lot.oks (lot_asc rz.lot pm asc rz.oks rz.iff) (Nat.le_trans (Nat.le_of_lt rz.lot.few) (by decide))
        have v14 := v13.trans v4'
        -- compared
        refine ⟨_, rfl, _, rfl, _, rfl, _, rfl, o1, o2, D4, mo, L1, L2', A, B, rfl, K1'.mono v14, K2'.mono v14, (LA'.mono v14).at_, (LB'.mono v14).at_, (LA'.mono v14).ats, (LB'.mono v14).ats, nA, nB, by omega, by omega, kL, kM, fun F5 v5' => ⟨_, rfl, iteF ?_⟩⟩
        have v15 := v14.trans v5'
        have M1 := K1'.mono v15
        have M2 := K2'.mono v15
        have LA2 := LA'.mono v15
        have LB2 := LB'.mono v15
        clear hts pts hus pus v1 v2' v12 v3' v13 v4' v14 v5' hb1
        -- what is joined again
        refine ⟨_, rfl, _, rfl, o1, o2, rfl, rfl, M1.ins, M2.ins, o1, o2, L1, L2', rfl, M1, M2, by omega, fun m4 N4 J4 j4 x4 y4 e4 => ?_⟩
        refine ⟨_, rfl, _, rfl, o1, o2, rfl, rfl, (M1.mono j4).ins, (M2.mono j4).ins, o1, o2, L1, L2', rfl, M1.mono j4, M2.mono j4, by omega, fun m5 N5 J5 j5 x5 y5 e5 => ?_⟩
        have i5 := j4.trans j5
        refine ⟨m4, m5, rfl, rfl, (x4.mono j5).ins, x5.ins, m4, m5, N4, N5, rfl, x4.mono j5, x5, by omega, fun m6 N6 J6 j6 x6 y6 e6 => ?_⟩
        have i6 := i5.trans j6
        refine ⟨_, rfl, _, rfl, o1, o2, rfl, rfl, (M1.mono i6).ins, (M2.mono i6).ins, o1, o2, L1, L2', rfl, M1.mono i6, M2.mono i6, by omega, fun m7 N7 J7 j7 x7 y7 e7 => ?_⟩
        have i7 := i6.trans j7
        refine ⟨m6, m7, rfl, rfl, (x6.mono j7).ins, x7.ins, m6, m7, N6, N7, rfl, x6.mono j7, x7, fun J8 j8 => ⟨_, rfl, _, rfl, ?_⟩⟩
        have i8 := i7.trans j8
        have eqk : keys N6 = keys N7 := lot_keys x6 x7 fun k => by
          have w4 := e4 k
          have w5 := e5 k
          have w6 := e6 k
          have w7 := e7 k
          dsimp only at w4 w5 w6 w7
          have d4 : decide (k ∈ keys N4) = (decide (k ∈ keys L1) || decide (k ∈ keys L2')) := b_eq (by rw [decide_eq_true_eq]; exact w4)
          have d5 : decide (k ∈ keys N5) = (decide (k ∈ keys L1) != decide (k ∈ keys L2')) := b_eq (by rw [decide_eq_true_eq]; exact w5)
          rw [d4, d5] at w6
          refine w6.trans (Iff.trans ?_ w7.symm)
          by_cases c1 : k ∈ keys L1 <;> by_cases c2 : k ∈ keys L2' <;> simp [c1, c2]
        have e8 : (fun L M : PL => decide (keys L = keys M)) N6 N7 = true := decide_eq_true eqk
        rw [e8]
        refine iteF ?_
        refine ⟨_, rfl, _, rfl, o1, o2, rfl, rfl, (M1.mono i8).ins, (M2.mono i8).ins, o1, o2, L1, L2', rfl, M1.mono i8, M2.mono i8, by omega, fun m8 N8 J9 j9 x8 y8 e8' => ?_⟩
        have i9 := i8.trans j9
        refine ⟨_, rfl, m8, o2, rfl, rfl, x8.ins, (M2.mono i9).ins, m8, o2, N8, L2', rfl, x8, M2.mono i9, by omega, fun m9 N9 K0 j10 x9 y9 e9 => ?_⟩
        have i10 := i9.trans j10
        refine ⟨sz (Nat.le_of_ble_eq_true rfl), fun pe npe => ?_⟩
        have sE := same_new npe (.lst [])
        dsimp only [tNil]
        refine make_to (R := []) upd_same (fun _ h => nomatch h) (fun _ h => nomatch h) (by decide) fun oE NE K1 j11 x10 _ subE covE => ?_
        have i11 := i10.trans (sE.trans j11)
        refine ⟨m9, oE, rfl, rfl, (x9.mono (sE.trans j11)).ins, x10.ins, m9, oE, N9, NE, rfl, x9.mono (sE.trans j11), x10, fun K2 j12 => ⟨_, rfl, ?_⟩⟩
        have i12 := i11.trans j12
        have eqe : keys N9 = keys NE := lot_keys x9 x10 fun k => by
          have w8 := e8' k
          have w9 := e9 k
          dsimp only at w8 w9
          have d8 : decide (k ∈ keys N8) = (decide (k ∈ keys L1) && !decide (k ∈ keys L2')) := b_eq (by rw [decide_eq_true_eq]; exact w8)
          rw [d8] at w9
          refine w9.trans (Iff.trans ?_ (key_iff subE covE k).symm)
          by_cases c1 : k ∈ keys L1 <;> by_cases c2 : k ∈ keys L2' <;> simp [c1, c2, keys]
        have e10 : (fun L M : PL => decide (keys L = keys M)) N9 NE = true := decide_eq_true eqe
        rw [e10]
        refine iteF ?_
        -- the places themselves
        obtain ⟨dxa, ta, _, _, ha, hta, _⟩ := M1.mono i12
        obtain ⟨dxb, tb, _, _, hb', htb, _⟩ := M2.mono i12
        refine ⟨_, rfl, o1, C, dxa, _, _, rfl, ha, T.lot.c.cls, T.lot.c.np, rfl, _, rfl, o2, C, dxb, _, _, rfl, hb', T.lot.c.cls, T.lot.c.np, rfl, sz (Nat.le_of_ble_eq_true rfl), fun tp ntp => ?_⟩
        have sp1 := same_new ntp (.tup [.ref ta, .ref tb])
        have LA3 := LA2.mono (i12.trans sp1)
        have LB3 := LB2.mono (i12.trans sp1)
        refine ⟨_, rfl, D4, A, rfl, LA3.at_, LA3.ats, LA3.oks, nA, by omega, fun g1 R1 G12 z1 ng1 hg1 pm1 as1 => ?_⟩
        refine ⟨g1, refs R1, rfl, .inl ⟨SqL.of hg1, fun t1' nt1 => ?_⟩⟩
        have q1 := z1.trans (same_new nt1 (.tup (refs R1)))
        refine ⟨_, rfl, mo, B, rfl, (LB3.mono q1).at_, (LB3.mono q1).ats, LB3.oks, nB, by omega, fun g2 R2 G13 z2 ng2 hg2 pm2' as2 => ?_⟩
        refine ⟨g2, refs R2, rfl, .inl ⟨SqL.of hg2, fun t2' nt2 => ?_⟩⟩
        have q2' := z2.trans (same_new nt2 (.tup (refs R2)))
        refine ⟨sz (Nat.le_of_ble_eq_true rfl), fun tq ntq => ?_⟩
        have sq := same_new ntq (.tup [.ref t1', .ref t2'])
        have q3 := q2'.trans sq
        have fin := sp1.trans (q1.trans q3)
        have MM1 := (M1.mono i12).mono fin
        have MM2 := (M2.mono i12).mono fin
        have LAf := LA3.mono (q1.trans q3)
        have LBf := LB3.mono (q1.trans q3)
        refine ⟨_, _, rfl, same_pair ((q1.trans q3) _ _ upd_same) upd_same (same_places (fin _ _ hta) (q3 _ _ upd_same) MM1.ats (LAf.ats.sub fun p hp => pm1.mem_iff.mp hp) MM1.oks (lot_asc MM1 pm1 as1 LAf.oks kL) (Nat.le_trans (Nat.le_of_lt MM1.few) (by decide))) (same_places (fin _ _ htb) (sq _ _ upd_same) MM2.ats (LBf.ats.sub fun p hp => pm2'.mem_iff.mp hp) MM2.oks (lot_asc MM2 pm2' as2 LBf.oks kM) (Nat.le_trans (Nat.le_of_lt MM2.few) (by decide))), fun K9 k9 => ⟨_, rfl, iteF ?_⟩⟩
        exact ⟨⟨_, _, _, _, _, _, _, _, _, _, rfl⟩, (Sg.mono ((((ua.trans v15).trans i12).trans fin).trans k9)).up (by omega)⟩
    · rintro σ H2 ⟨⟨v2, v3, v4, v5, v6, v9, v10, v11, v13, v14, rfl⟩, S2⟩
      exact k _
end
end K1
set_option maxRecDepth 100000
set_option maxHeartbeats 8000000
namespace K1
open PySem L2
/-! what the top has written -/
def fas : List He.Fa := [.glo "is_integer", .glo "is_list", .glo "as_place", .glo "ascending_places", .glo "_law_fresh", .glo "_law_take", .glo "_law_mix", .glo "_law_same", .glo "_law_rising", .glo "_law_drawn", .glo "_law_compared", .glo "law", .glo "Lot", .free "isinstance", .free "list", .free "tuple", .free "len", .free "all", .free "zip", .free "int", .free "bool", .free "abs", .free "range", .free "enumerate", .free "set", .free "sorted", .keep "is_integer", .keep "is_list", .keep "as_place", .keep "ascending_places", .keep "_law_fresh", .keep "_law_take", .keep "_law_mix", .keep "_law_same", .keep "_law_rising", .keep "_law_drawn", .keep "_law_compared", .keep "law", .cls "Lot", .mkr "Lot", .noat "Lot" "places", .noat "Lot" "_known", .meth "Lot" "__init__", .meth "Lot" "__len__", .meth "Lot" "__contains__", .meth "Lot" "__eq__", .meth "Lot" "__or__", .meth "Lot" "__and__", .meth "Lot" "__sub__", .meth "Lot" "__xor__", .meth "Lot" "__le__", .meth "Lot" "__lt__", .meth "Lot" "__ge__", .meth "Lot" "__gt__", .meth "Lot" "_lies_in"]
def fns : List He.FnD := [⟨("is_integer", none), "is_integer", "is_integer", defArgs pIsInteger, defBody pIsInteger, defScope pIsInteger⟩, ⟨("is_list", none), "is_list", "is_list", defArgs pIsList, defBody pIsList, defScope pIsList⟩, ⟨("as_place", none), "as_place", "as_place", defArgs pAsPlace, defBody pAsPlace, defScope pAsPlace⟩, ⟨("ascending_places", none), "ascending_places", "ascending_places", defArgs pAscendingPlaces, defBody pAscendingPlaces, defScope pAscendingPlaces⟩, ⟨("_law_fresh", none), "_law_fresh", "_law_fresh", defArgs sFresh, defBody sFresh, defScope sFresh⟩, ⟨("_law_take", none), "_law_take", "_law_take", defArgs sTake, defBody sTake, defScope sTake⟩, ⟨("_law_mix", none), "_law_mix", "_law_mix", defArgs sMix, defBody sMix, defScope sMix⟩, ⟨("_law_same", none), "_law_same", "_law_same", defArgs sSame, defBody sSame, defScope sSame⟩, ⟨("_law_rising", none), "_law_rising", "_law_rising", defArgs sRising, defBody sRising, defScope sRising⟩, ⟨("_law_drawn", none), "_law_drawn", "_law_drawn", defArgs sDrawn, defBody sDrawn, defScope sDrawn⟩, ⟨("_law_compared", none), "_law_compared", "_law_compared", defArgs sCompared, defBody sCompared, defScope sCompared⟩, ⟨("law", none), "law", "law", defArgs sLaw, defBody sLaw, defScope sLaw⟩, ⟨("Lot", some "__init__"), "__init__", "Lot.__init__", defArgs cLotInit, defBody cLotInit, defScope cLotInit⟩, ⟨("Lot", some "__len__"), "__len__", "Lot.__len__", defArgs cLotLen, defBody cLotLen, defScope cLotLen⟩, ⟨("Lot", some "__contains__"), "__contains__", "Lot.__contains__", defArgs cLotContains, defBody cLotContains, defScope cLotContains⟩, ⟨("Lot", some "__eq__"), "__eq__", "Lot.__eq__", defArgs cLotEq, defBody cLotEq, defScope cLotEq⟩, ⟨("Lot", some "__or__"), "__or__", "Lot.__or__", defArgs cLotOr, defBody cLotOr, defScope cLotOr⟩, ⟨("Lot", some "__and__"), "__and__", "Lot.__and__", defArgs cLotAnd, defBody cLotAnd, defScope cLotAnd⟩, ⟨("Lot", some "__sub__"), "__sub__", "Lot.__sub__", defArgs cLotSub, defBody cLotSub, defScope cLotSub⟩, ⟨("Lot", some "__xor__"), "__xor__", "Lot.__xor__", defArgs cLotXor, defBody cLotXor, defScope cLotXor⟩, ⟨("Lot", some "__le__"), "__le__", "Lot.__le__", defArgs cLotLe, defBody cLotLe, defScope cLotLe⟩, ⟨("Lot", some "__lt__"), "__lt__", "Lot.__lt__", defArgs cLotLt, defBody cLotLt, defScope cLotLt⟩, ⟨("Lot", some "__ge__"), "__ge__", "Lot.__ge__", defArgs cLotGe, defBody cLotGe, defScope cLotGe⟩, ⟨("Lot", some "__gt__"), "__gt__", "Lot.__gt__", defArgs cLotGt, defBody cLotGt, defScope cLotGt⟩, ⟨("Lot", some "_lies_in"), "_lies_in", "Lot._lies_in", defArgs cLotLiesIn, defBody cLotLiesIn, defScope cLotLiesIn⟩]
abbrev LC (K : PySem.W.Frag) : Addr := He.ga K "Lot"
def exB (K : PySem.W.Frag) : Bool := decide (PySem.W.findIn K (.ref (LC K)) "__class__" = some (some (.builtin "object.__class__"))) && (decide (PySem.W.specialIn K (.builtin "object.__class__") "__get__" = some (some (.builtin "getset_descriptor.__get__"))) &&
  (decide (PySem.W.takesIn K (.builtin "object.__class__") = some true) && (decide (PySem.W.mroIn K (LC K) (.type "object") = some true) && (decide (PySem.W.kitOne K (.ref (LC K)) (.ref (LC K)) = some true) && (PySem.W.selfFirst K (LC K) && (PySem.W.notFirst K (LC K) (.ref (LC K)) && neB K (LC K) (He.ma K (LC K) "__eq__")))))))
section
variable {P : Program} {w : World} {K : PySem.W.Frag} {mg : Str → Option Value} {h : Heap}
theorem lot_of (X : K.In h) (G : h.Ns mainGlobals mg) (c : He.SaysE fas fns K) (e : exB K = true) : LotC K mg (LC K) ∧ NeC K (LC K) (He.ma K (LC K) "__eq__") := by
  obtain ⟨e1, e⟩ := He.ba e
  obtain ⟨e2, e⟩ := He.ba e
  obtain ⟨e3, e⟩ := He.ba e
  obtain ⟨e4, e⟩ := He.ba e
  obtain ⟨e5, e⟩ := He.ba e
  obtain ⟨e6, e⟩ := He.ba e
  obtain ⟨e7, e8⟩ := He.ba e
  have cl := He.cls_ok (c.fact 38 rfl)
  exact ⟨⟨(He.glo_ok X G (c.fact 12 rfl)), cl, He.noat_ok (c.fact 40 rfl), He.noat_ok (c.fact 41 rfl), ⟨cl, of_decide_eq_true e1, of_decide_eq_true e2, of_decide_eq_true e3, of_decide_eq_true e4, of_decide_eq_true e5⟩, e6, e7⟩, neB_ok e8⟩
theorem facts {fa : Addr} (X : K.In h) (G : h.Ns mainGlobals mg) (hfa : mg ("law" : Str) = some (.ref fa)) (c : He.SaysE fas fns K) (e : exB K = true) :
    ∃ fd : FuncData, (∀ (s : Shared) (v : Value), BindsTo s fd ⟨[v], []⟩ [("_law_script", v)]) ∧ ∀ base : Heap, K.In base → base.Ns mainGlobals mg → FnOk P w K mg base CX0 10 fa fd ["_law_script"] (spLaw K) := by
  obtain ⟨oc0, od0, osl0, kV0, doc0, pm0, an0, cdv0, ct0, lk0, cd0⟩ := c.def_ 0 rfl
  have F0 := fun_mk (st := pIsInteger) lk0 cd0 (He.keep_ok (c.fact 26 rfl))
  have b0 := F0.binds (ps := ["thing"]) fun _ _ _ _ _ _ us hl => match us, hl with | [_], _ => rfl
  obtain ⟨oc1, od1, osl1, kV1, doc1, pm1, an1, cdv1, ct1, lk1, cd1⟩ := c.def_ 1 rfl
  have F1 := fun_mk (st := pIsList) lk1 cd1 (He.keep_ok (c.fact 27 rfl))
  have b1 := F1.binds (ps := ["thing"]) fun _ _ _ _ _ _ us hl => match us, hl with | [_], _ => rfl
  obtain ⟨oc2, od2, osl2, kV2, doc2, pm2, an2, cdv2, ct2, lk2, cd2⟩ := c.def_ 2 rfl
  have F2 := fun_mk (st := pAsPlace) lk2 cd2 (He.keep_ok (c.fact 28 rfl))
  have b2 := F2.binds (ps := ["thing"]) fun _ _ _ _ _ _ us hl => match us, hl with | [_], _ => rfl
  obtain ⟨oc3, od3, osl3, kV3, doc3, pm3, an3, cdv3, ct3, lk3, cd3⟩ := c.def_ 3 rfl
  have F3 := fun_mk (st := pAscendingPlaces) lk3 cd3 (He.keep_ok (c.fact 29 rfl))
  have b3 := F3.binds (ps := ["things"]) fun _ _ _ _ _ _ us hl => match us, hl with | [_], _ => rfl
  obtain ⟨oc4, od4, osl4, kV4, doc4, pm4, an4, cdv4, ct4, lk4, cd4⟩ := c.def_ 4 rfl
  have F4 := fun_mk (st := sFresh) lk4 cd4 (He.keep_ok (c.fact 30 rfl))
  have b4 := F4.binds (ps := ["_law_script"]) fun _ _ _ _ _ _ us hl => match us, hl with | [_], _ => rfl
  obtain ⟨oc5, od5, osl5, kV5, doc5, pm5, an5, cdv5, ct5, lk5, cd5⟩ := c.def_ 5 rfl
  have F5 := fun_mk (st := sTake) lk5 cd5 (He.keep_ok (c.fact 31 rfl))
  have b5 := F5.binds (ps := ["_law_state", "_law_many"]) fun _ _ _ _ _ _ us hl => match us, hl with | [_, _], _ => rfl
  obtain ⟨oc6, od6, osl6, kV6, doc6, pm6, an6, cdv6, ct6, lk6, cd6⟩ := c.def_ 6 rfl
  have F6 := fun_mk (st := sMix) lk6 cd6 (He.keep_ok (c.fact 32 rfl))
  have b6 := F6.binds (ps := ["_law_state", "_law_things"]) fun _ _ _ _ _ _ us hl => match us, hl with | [_, _], _ => rfl
  obtain ⟨oc7, od7, osl7, kV7, doc7, pm7, an7, cdv7, ct7, lk7, cd7⟩ := c.def_ 7 rfl
  have F7 := fun_mk (st := sSame) lk7 cd7 (He.keep_ok (c.fact 33 rfl))
  have b7 := F7.binds (ps := ["_law_found", "_law_due"]) fun _ _ _ _ _ _ us hl => match us, hl with | [_, _], _ => rfl
  obtain ⟨oc8, od8, osl8, kV8, doc8, pm8, an8, cdv8, ct8, lk8, cd8⟩ := c.def_ 8 rfl
  have F8 := fun_mk (st := sRising) lk8 cd8 (He.keep_ok (c.fact 34 rfl))
  have b8 := F8.binds (ps := ["_law_things"]) fun _ _ _ _ _ _ us hl => match us, hl with | [_], _ => rfl
  obtain ⟨oc9, od9, osl9, kV9, doc9, pm9, an9, cdv9, ct9, lk9, cd9⟩ := c.def_ 9 rfl
  have F9 := fun_mk (st := sDrawn) lk9 cd9 (He.keep_ok (c.fact 35 rfl))
  have b9 := F9.binds (ps := ["_law_state"]) fun _ _ _ _ _ _ us hl => match us, hl with | [_], _ => rfl
  obtain ⟨oc10, od10, osl10, kV10, doc10, pm10, an10, cdv10, ct10, lk10, cd10⟩ := c.def_ 10 rfl
  have F10 := fun_mk (st := sCompared) lk10 cd10 (He.keep_ok (c.fact 36 rfl))
  have b10 := F10.binds (ps := ["_law_one", "_law_other", "_law_some", "_law_more"]) fun _ _ _ _ _ _ us hl => match us, hl with | [_, _, _, _], _ => rfl
  obtain ⟨oc11, od11, osl11, kV11, doc11, pm11, an11, cdv11, ct11, lk11, cd11⟩ := c.def_ 11 rfl
  have F11 := fun_mk (st := sLaw) lk11 cd11 (He.keep_ok (c.fact 37 rfl))
  have b11 := F11.binds (ps := ["_law_script"]) fun _ _ _ _ _ _ us hl => match us, hl with | [_], _ => rfl
  obtain ⟨oc12, od12, osl12, kV12, doc12, pm12, an12, cdv12, ct12, lk12, cd12⟩ := c.def_ 12 rfl
  have F12 := fun_mk (st := cLotInit) lk12 cd12 (He.meth_ok (c.fact 42 rfl)).kp
  have b12 := F12.binds (ps := ["self", "places"]) fun _ _ _ _ _ _ us hl => match us, hl with | [_, _], _ => rfl
  obtain ⟨oc13, od13, osl13, kV13, doc13, pm13, an13, cdv13, ct13, lk13, cd13⟩ := c.def_ 13 rfl
  have F13 := fun_mk (st := cLotLen) lk13 cd13 (He.meth_ok (c.fact 43 rfl)).kp
  have b13 := F13.binds (ps := ["self"]) fun _ _ _ _ _ _ us hl => match us, hl with | [_], _ => rfl
  obtain ⟨oc14, od14, osl14, kV14, doc14, pm14, an14, cdv14, ct14, lk14, cd14⟩ := c.def_ 14 rfl
  have F14 := fun_mk (st := cLotContains) lk14 cd14 (He.meth_ok (c.fact 44 rfl)).kp
  have b14 := F14.binds (ps := ["self", "thing"]) fun _ _ _ _ _ _ us hl => match us, hl with | [_, _], _ => rfl
  obtain ⟨oc15, od15, osl15, kV15, doc15, pm15, an15, cdv15, ct15, lk15, cd15⟩ := c.def_ 15 rfl
  have F15 := fun_mk (st := cLotEq) lk15 cd15 (He.meth_ok (c.fact 45 rfl)).kp
  have b15 := F15.binds (ps := ["self", "other"]) fun _ _ _ _ _ _ us hl => match us, hl with | [_, _], _ => rfl
  obtain ⟨oc16, od16, osl16, kV16, doc16, pm16, an16, cdv16, ct16, lk16, cd16⟩ := c.def_ 16 rfl
  have F16 := fun_mk (st := cLotOr) lk16 cd16 (He.meth_ok (c.fact 46 rfl)).kp
  have b16 := F16.binds (ps := ["self", "other"]) fun _ _ _ _ _ _ us hl => match us, hl with | [_, _], _ => rfl
  obtain ⟨oc17, od17, osl17, kV17, doc17, pm17, an17, cdv17, ct17, lk17, cd17⟩ := c.def_ 17 rfl
  have F17 := fun_mk (st := cLotAnd) lk17 cd17 (He.meth_ok (c.fact 47 rfl)).kp
  have b17 := F17.binds (ps := ["self", "other"]) fun _ _ _ _ _ _ us hl => match us, hl with | [_, _], _ => rfl
  obtain ⟨oc18, od18, osl18, kV18, doc18, pm18, an18, cdv18, ct18, lk18, cd18⟩ := c.def_ 18 rfl
  have F18 := fun_mk (st := cLotSub) lk18 cd18 (He.meth_ok (c.fact 48 rfl)).kp
  have b18 := F18.binds (ps := ["self", "other"]) fun _ _ _ _ _ _ us hl => match us, hl with | [_, _], _ => rfl
  obtain ⟨oc19, od19, osl19, kV19, doc19, pm19, an19, cdv19, ct19, lk19, cd19⟩ := c.def_ 19 rfl
  have F19 := fun_mk (st := cLotXor) lk19 cd19 (He.meth_ok (c.fact 49 rfl)).kp
  have b19 := F19.binds (ps := ["self", "other"]) fun _ _ _ _ _ _ us hl => match us, hl with | [_, _], _ => rfl
  obtain ⟨oc20, od20, osl20, kV20, doc20, pm20, an20, cdv20, ct20, lk20, cd20⟩ := c.def_ 20 rfl
  have F20 := fun_mk (st := cLotLe) lk20 cd20 (He.meth_ok (c.fact 50 rfl)).kp
  have b20 := F20.binds (ps := ["self", "other"]) fun _ _ _ _ _ _ us hl => match us, hl with | [_, _], _ => rfl
  obtain ⟨oc21, od21, osl21, kV21, doc21, pm21, an21, cdv21, ct21, lk21, cd21⟩ := c.def_ 21 rfl
  have F21 := fun_mk (st := cLotLt) lk21 cd21 (He.meth_ok (c.fact 51 rfl)).kp
  have b21 := F21.binds (ps := ["self", "other"]) fun _ _ _ _ _ _ us hl => match us, hl with | [_, _], _ => rfl
  obtain ⟨oc22, od22, osl22, kV22, doc22, pm22, an22, cdv22, ct22, lk22, cd22⟩ := c.def_ 22 rfl
  have F22 := fun_mk (st := cLotGe) lk22 cd22 (He.meth_ok (c.fact 52 rfl)).kp
  have b22 := F22.binds (ps := ["self", "other"]) fun _ _ _ _ _ _ us hl => match us, hl with | [_, _], _ => rfl
  obtain ⟨oc23, od23, osl23, kV23, doc23, pm23, an23, cdv23, ct23, lk23, cd23⟩ := c.def_ 23 rfl
  have F23 := fun_mk (st := cLotGt) lk23 cd23 (He.meth_ok (c.fact 53 rfl)).kp
  have b23 := F23.binds (ps := ["self", "other"]) fun _ _ _ _ _ _ us hl => match us, hl with | [_, _], _ => rfl
  obtain ⟨oc24, od24, osl24, kV24, doc24, pm24, an24, cdv24, ct24, lk24, cd24⟩ := c.def_ 24 rfl
  have F24 := fun_mk (st := cLotLiesIn) lk24 cd24 (He.meth_ok (c.fact 54 rfl)).kp
  have b24 := F24.binds (ps := ["self", "other"]) fun _ _ _ _ _ _ us hl => match us, hl with | [_, _], _ => rfl
  have z := hfa.symm.trans (He.glo_ok X G (c.fact 11 rfl))
  cases z
  refine ⟨PySem.W.fnOf "law" "law" (defArgs sLaw) (defBody sLaw) (defScope sLaw) .none kV11 doc11 pm11 an11 cdv11 ct11, fun s v => .of_eq rfl, fun base _ _ => ?_⟩
  obtain ⟨lc, ne⟩ := lot_of X G c e
  have tt : TxtT mg := ⟨(He.free_ok X G (c.fact 16 rfl)), (He.free_ok X G (c.fact 21 rfl)), (He.free_ok X G (c.fact 19 rfl))⟩
  have ts : TxtS mg := ⟨(He.free_ok X G (c.fact 13 rfl)), (He.free_ok X G (c.fact 14 rfl)), (He.free_ok X G (c.fact 15 rfl)), (He.free_ok X G (c.fact 16 rfl)), (He.free_ok X G (c.fact 17 rfl)), (He.free_ok X G (c.fact 18 rfl)), (He.free_ok X G (c.fact 19 rfl)), (He.free_ok X G (c.fact 20 rfl))⟩
  have gIL := ok_isList (P := P) (w := w) (base := base) F1 (He.free_ok X G (c.fact 14 rfl)) (He.free_ok X G (c.fact 15 rfl)) (He.free_ok X G (c.fact 13 rfl))
  have gII := ok_isInteger (P := P) (w := w) (base := base) F0 (He.free_ok X G (c.fact 19 rfl)) (He.free_ok X G (c.fact 20 rfl)) (He.free_ok X G (c.fact 13 rfl))
  have gAP := ok_asPlace F2 gIL (He.glo_ok X G (c.fact 1 rfl)) F1.kp b1 gII (He.glo_ok X G (c.fact 0 rfl)) F0.kp b0 (He.free_ok X G (c.fact 17 rfl)) (He.free_ok X G (c.fact 15 rfl))
  have gAs := ok_asc F3 gIL (He.glo_ok X G (c.fact 1 rfl)) F1.kp b1 gAP (He.glo_ok X G (c.fact 2 rfl)) F2.kp b2 ⟨(He.free_ok X G (c.fact 23 rfl)), (He.free_ok X G (c.fact 24 rfl)), (He.free_ok X G (c.fact 25 rfl)), (He.free_ok X G (c.fact 15 rfl))⟩
  have gIn := ok_init F12 lc gAs (He.glo_ok X G (c.fact 3 rfl)) F3.kp b3
  have gHa := ok_has F14 lc gAP (He.glo_ok X G (c.fact 2 rfl)) F2.kp b2
  have gLn := ok_len (P := P) (w := w) (base := base) F13 lc (He.free_ok X G (c.fact 16 rfl))
  have gEq := ok_eq (P := P) (w := w) (base := base) F15 lc (He.free_ok X G (c.fact 13 rfl))
  have gLi := ok_lies F24 lc (He.meth_ok (c.fact 44 rfl)) gHa b14 (He.free_ok X G (c.fact 17 rfl))
  have T : LotF P w K mg base (LC K) := ⟨lc, (He.free_ok X G (c.fact 13 rfl)), (He.free_ok X G (c.fact 16 rfl)), ⟨_, _, (He.meth_ok (c.fact 54 rfl)), b24, gLi⟩, ⟨_, _, (He.meth_ok (c.fact 43 rfl)), b13, gLn⟩, ⟨_, _, (He.meth_ok (c.fact 44 rfl)), b14, gHa⟩, ⟨_, _, He.mkr_ok (c.fact 39 rfl), b12, gIn⟩⟩
  have C : CmpO P w K mg base (LC K) := ⟨⟨_, _, (He.meth_ok (c.fact 50 rfl)), b20, ok_Le F20 T⟩, ⟨_, _, (He.meth_ok (c.fact 51 rfl)), b21, ok_Lt F21 T⟩, ⟨_, _, (He.meth_ok (c.fact 52 rfl)), b22, ok_Ge F22 T⟩, ⟨_, _, (He.meth_ok (c.fact 53 rfl)), b23, ok_Gt F23 T⟩, ⟨_, _, (He.meth_ok (c.fact 45 rfl)), ne, b15, gEq⟩⟩
  have gTk := ok_take (P := P) (w := w) (base := base) F5 tt
  have LF : LawF P w K mg base := ⟨(He.free_ok X G (c.fact 22 rfl)), ⟨_, _, (He.glo_ok X G (c.fact 5 rfl)), F5.kp, b5, gTk⟩⟩
  have gSm := same_all (P := P) (w := w) (base := base) F7 ts b7 (He.glo_ok X G (c.fact 7 rfl))
  exact ok_law F11 ⟨LF, T, C, (He.free_ok X G (c.fact 14 rfl)), (He.free_ok X G (c.fact 15 rfl)), (He.free_ok X G (c.fact 17 rfl)), (He.free_ok X G (c.fact 23 rfl)), ⟨_, _, (He.glo_ok X G (c.fact 4 rfl)), F4.kp, b4, ok_fresh F4 (He.free_ok X G (c.fact 14 rfl))⟩,
    ⟨_, _, (He.glo_ok X G (c.fact 6 rfl)), F6.kp, b6, ok_mix F6 F5 tt (He.free_ok X G (c.fact 14 rfl)) (He.glo_ok X G (c.fact 5 rfl)) b5⟩,
    ⟨_, _, (He.glo_ok X G (c.fact 7 rfl)), F7.kp, b7, gSm 5⟩, ⟨_, _, (He.glo_ok X G (c.fact 8 rfl)), F8.kp, b8, ok_rising F8 (He.free_ok X G (c.fact 16 rfl))⟩,
    ⟨_, _, (He.glo_ok X G (c.fact 9 rfl)), F9.kp, b9, ok_drawn F9 LF⟩,
    ⟨_, _, (He.glo_ok X G (c.fact 10 rfl)), F10.kp, b10, ok_compared (m := 0) F10 lc C (He.free_ok X G (c.fact 16 rfl)) (gSm 2) (He.glo_ok X G (c.fact 7 rfl)) F7.kp b7 (by decide)⟩,
    ⟨_, _, (He.meth_ok (c.fact 46 rfl)), b16, ok_Or F16 T⟩, ⟨_, _, (He.meth_ok (c.fact 47 rfl)), b17, ok_And F17 T⟩, ⟨_, _, (He.meth_ok (c.fact 48 rfl)), b18, ok_Sub F18 T⟩, ⟨_, _, (He.meth_ok (c.fact 49 rfl)), b19, ok_Xor F19 T⟩⟩
end
end K1
set_option maxRecDepth 100000
namespace K1
open PySem L2
theorem walk {l : PySem.W.OpenLaw} {q : Program} {loose : List Str} {XP : (Str → Option Value) → Heap → Prop} {YP : World → Heap → Prop} {d : DefRec} {K : Params → PySem.W.Frag} (hn : l.most = some 63) (hdf : d.params.defaults = [])
    (hY : ∀ (w : World) (h : Heap), YP w h → (K w.params).In h)
    (F : ∀ (w : World) (mg : Str → Option Value) (fa : Addr) (h : Heap), (K w.params).In h → h.Ns mainGlobals mg → mg d.name = some (.ref fa) →
      ∃ fd : FuncData, (∀ (s : Shared) (u : Value), BindsTo s fd ⟨[u], []⟩ [("_law_script", u)]) ∧ ∀ base : Heap, (K w.params).In base → base.Ns mainGlobals mg → FnOk l.prog w (K w.params) mg base CX0 10 fa fd ["_law_script"] (spLaw (K w.params))) :
    PySem.W.WalkO q loose XP YP l.row.toRowW d [] (fun f vs => PySem.call f vs) :=
  L2.walk_of (n := 63) (k := 10) (x := "_law_script") (CX := fun _ => CX0) (sp := fun w => spLaw (K w.params)) hn (by decide) hdf ⟨rfl, by decide, by decide⟩ hY F (fun _ _ a ns hl _ hS => ⟨a, ns, rfl, hS, hl, fun _ => rfl⟩) fun _ _ _ _ _ z => z
end K1
open PySem PySem.W PyProof.Rows
set_option maxRecDepth 100000 in
set_option maxHeartbeats 0 in
theorem PySem.Challenge.cw_idlewrites_k17_lots_as_sets_holds : PySem.Challenge.rw_idlewrites_k17_lots_as_sets.Holds := by
  w_on; o_law; k_head; (case hw => w_witness2)
  k_fill
  refine K1.walk (l := PySem.Challenge.rw_idlewrites_k17_lots_as_sets) rfl rfl (fun w h Y => PySem.W.kIn_of Y) ?F
  case F =>
    intro w mg fa h KX G hmg
    refine' K1.facts KX G hmg ?c ?e
    case c =>
      refine (?_ : He.obsE K1.fas K1.fns _ = He.valE K1.fns)
      kernel_rfl
    case e => kernel_rfl
