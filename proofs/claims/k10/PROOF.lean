import PyProof.Rows.All
import Wide.All
import OpenK.AllK
import Wide.FinOn
import HandS.ForExc
import HandS.Wide
import HandS.Comp
import HandS.Iter
import HandS.More
import HandS.Dict
import HandS.Walk
import HandS.IsInst
import HandS.Small
import HandS.Text
import HandS.Steps
import HandS.TupSets
import HandS.SetKeys
import HandS.SetFor
import HandS.Strs
import PyProof.Rows.SetFrom
import PyProof.Rows.SortStr
import HandS.Sort
import HandS.Keys
import HandS.TupLe
import HandS.DictTup
import HandS.DictComp
import HandS.Zip
import KE.GoesMore
import KE.GoesZip
import HandS.ForList
import HandS.SlotsOwn
import PyProof.InstNe
import HandS.ForMost
import HandS.Codes
import HandS.NoneIn
import HandS.TupAny
import PyProof.ReprRoads
import PyProof.CallFns
import HandS.ExcInit
import HandS.ExcField
import HandS.Deep
import HandS.Style
import HandS.Flow
import HandS.HeadHook1
import PySem.Challenge.RW_idlewrites_k10_meetings_made
set_option Elab.async false
set_option maxRecDepth 100000
namespace K1
open PySem L2
/-- the top's statements by their places -/
def top (i : Nat) : Stmt := PySem.Challenge.pw_idlewrites_k10_meetings_made.main.body.getD i (.Pass ⟨0, 0, 0, 0⟩)
abbrev cBadMeetingInit : Stmt := inClass (top 2) 0
abbrev cNoNameInit : Stmt := inClass (top 3) 0
abbrev pIsName : Stmt := top 8
abbrev pIsList : Stmt := top 9
abbrev pAreNames : Stmt := top 10
abbrev cMeetingInit : Stmt := inClass (top 12) 0
abbrev cMeetingOne : Stmt := inClass (top 12) 1
abbrev cMeetingLen : Stmt := inClass (top 12) 2
abbrev cMeetingEq : Stmt := inClass (top 12) 3
abbrev cMeetingAnd : Stmt := inClass (top 12) 4
abbrev cMeetingOr : Stmt := inClass (top 12) 5
abbrev cMeetingLe : Stmt := inClass (top 12) 6
abbrev cMeetingLt : Stmt := inClass (top 12) 7
abbrev cMeetingGe : Stmt := inClass (top 12) 8
abbrev cMeetingGt : Stmt := inClass (top 12) 9
abbrev cMeetingCheckNames : Stmt := inClass (top 12) 10
abbrev cMeetingPartsFiner : Stmt := inClass (top 12) 11
abbrev pAscendingBlocks : Stmt := top 13
abbrev pIsBlock : Stmt := top 14
abbrev pGrouped : Stmt := top 15
abbrev pUnited : Stmt := top 16
abbrev sFresh : Stmt := top 18
abbrev sTake : Stmt := top 19
abbrev sOne : Stmt := top 20
abbrev sMix : Stmt := top 21
abbrev sSame : Stmt := top 22
abbrev sNames : Stmt := top 23
abbrev sLoose : Stmt := top 24
abbrev sBlocks : Stmt := top 25
abbrev sRising : Stmt := top 26
abbrev sIsName : Stmt := top 27
abbrev sDrawnCode : Stmt := top 28
abbrev sFits : Stmt := top 29
abbrev sDue : Stmt := top 30
abbrev sTried : Stmt := top 31
abbrev sSpoilt : Stmt := top 32
abbrev sLaw : Stmt := top 33
end K1
set_option maxRecDepth 100000
namespace K1
open PySem L2
/-- while, by a word, a measure, and what stands behind it -/
theorem while_to {c : TT} {tb : TS} {D : Ends} {σ : L2.St} {H : Hp} (Pv Pe : L2.St → Hp → Prop) (μ : L2.St → Hp → Nat) (h0 : Pv σ H)
    (hs : (∀ σ H, Pe σ H → D.nx σ H) → ∀ σ H, Pv σ H → c σ H fun b H1 => if b = true then
      ∃ N : L2.St → Hp → Prop, (∀ σ' H', N σ' H' → ∃ m', m' < μ σ H ∧ (m' = μ σ' H' ∧ Pv σ' H')) ∧ tb { D with nx := N, ct := N, bk := D.nx } σ H1 else D.nx σ H1)
    (hd : ∀ σ H, Pe σ H → D.nx σ H) : tWhile c tb D σ H := by
  refine ⟨fun m σ H => m = μ σ H ∧ Pv σ H, ⟨_, rfl, h0⟩, ?_⟩
  rintro m σ H ⟨rfl, p⟩
  exact hs hd σ H p
/-- the spring: its cells, how many are read, the great one at hand, the mix of the small ones, the turns -/
structure Spr (H : Hp) (st l : Addr) (cs : List Int) (n : Nat) : Prop where
  ex : ∃ (i k : Nat) (c h : Int), H st = some (.lst [.ref l, .int i, .int c, .int h, .int k]) ∧ i ≤ cs.length ∧ 0 ≤ c ∧ 0 ≤ h ∧ h < 2147483647 ∧ k ≤ n
  ls : H l = some (.lst (cs.map V.int))
  ln : cs.length ≤ 63
  ne : st ≠ l
def spTake : Sp := fun vs H Q _ => ∃ (st l : Addr) (cs : List Int) (n : Nat) (m : Int), vs = [.ref st, .int m] ∧ 0 < m ∧ m < 1000000 ∧ n < 1000000 ∧ Spr H st l cs n ∧
  ∀ (r : Int) (H' : Hp), 0 ≤ r → r < m → Spr H' st l cs (n + 1) → (∀ b, b ≠ st → H' b = H b) → Q (.int r) H'
theorem mixB {a b : Int} (h0 : 0 ≤ a) (h1 : a < 1000000007) (h2 : 0 ≤ b) (h3 : b ≤ 1000000) : (a + 31 * b).natAbs < 2 ^ 64 := by omega
structure TxtT (mg : Str → Option Value) : Prop where
  len : mg "len" = none
  abs : mg "abs" = none
  int : mg "int" = none
/-- between two turns of the loop -/
def WT (H : Hp) (st l : Addr) (cs : List Int) (m : Int) (t : Nat) (σ : L2.St) (H2 : Hp) : Prop := ∃ (i : Nat) (c h : Int) (v : Option V), σ = [some (.ref st), some (.int m), v, none, none, none] ∧
  H2 st = some (.lst [.ref l, .int i, .int c, .int h, .int (t + 1)]) ∧ i ≤ cs.length ∧ 0 ≤ c ∧ 0 ≤ h ∧ h < 2147483647 ∧ (∀ b, b ≠ st → H2 b = H b)
def left (n : Nat) : Option HO → Nat
  | some (.lst [_, .int i, _, _, _]) => n - i.toNat
  | _ => 0
theorem left_at {n i : Nat} {a c d e : V} {o : Option HO} (h : o = some (.lst [a, .int i, c, d, e])) : left n o = n - i := by
  rw [h]
  rfl
section
variable {P : Program} {w : World} {K : PySem.W.Frag} {mg : Str → Option Value} {base : Heap}
theorem scT : FnScope ["_law_state", "_law_many", "_law_cell", "_law_digit", "_law_one_here", "_law_two"] ["_law_state", "_law_many"] (defScope sTake) := ⟨rfl, rfl, rfl, by decide +kernel, rfl, by decide +kernel, by decide +kernel⟩
theorem ok_take {f : Addr} {fd : FuncData} (F : Fun K "_law_take" "_law_take" sTake f fd) (T : TxtT mg) : FnOk P w K mg base CX0 1 f fd ["_law_state", "_law_many"] spTake := by
  refine F.ok scT (fun vs H Q E h => ?_) (fun cdv A outer s H vs Q E hr h => ?_)
  · obtain ⟨st, l, cs, n, m, rfl, _⟩ := h
    rfl
  · obtain ⟨st, l, cs, n, m, rfl, hm0, hm1, hn, S, k⟩ := h
    obtain ⟨⟨i, t, c, h, hs, hi, hc, h0, h1, ht⟩, hl, hln, hne⟩ := S
    refine ⟨_, pss_cons (ps_asg (pe_op op_add (pe_ix ix_list (pv 0) pe_int (fun _ _ => rfl)) pe_int) (pg_sub (pv 0) pe_int set_list))
      (pss_cons (ps_while PassesOwn.never
          (pw_and (pt_cmpR op_eq (pe_ix ix_list (pv 0) pe_int (fun _ _ => rfl)) pe_int (nomark _))
            (pw_and1 (pt_cmpR op_lt (pe_ix ix_list (pv 0) pe_int (fun _ _ => rfl)) (pe_callB call_len_seq (by rfl) T.len PySem.boot_len (pa_cons (pe_ix ix_list (pv 0) pe_int (fun _ _ => rfl)) pa_nil)) (nomark _)))).pt
          (pss_cons (ps_set (i := 2) scT.nd rfl (.inl rfl) (pe_callB call_abs (by rfl) T.abs (by decide +kernel) (pa_cons (pe_ix ix_list (pe_ix ix_list (pv 0) pe_int (fun _ _ => rfl)) (pe_ix ix_list (pv 0) pe_int (fun _ _ => rfl)) (fun _ _ => rfl)) pa_nil)))
          (pss_cons (ps_asg (pe_op op_add (pe_ix ix_list (pv 0) pe_int (fun _ _ => rfl)) pe_int) (pg_sub (pv 0) pe_int set_list))
          (pss_one (ps_if (pt_cmpR op_ge (pv 2) (pe_op op_pow pe_int pe_int) (nomark _))
            (pss_one (ps_asg (pv 2) (pg_sub (pv 0) pe_int set_list)))
            (pss_one (ps_asg (pe_op op_mod (pe_callTy call_int1 (by rfl) T.int (by decide +kernel) (pa_cons (pe_op op_add (pe_op op_add (pe_op op_mul (pe_ix ix_list (pv 0) pe_int (fun _ _ => rfl)) pe_int) (pv 2)) pe_int) pa_nil)) pe_int) (pg_sub (pv 0) pe_int set_list))))))))
      (pss_cons (ps_if (pt_cmpR op_gt (pe_ix ix_list (pv 0) pe_int (fun _ _ => rfl)) pe_int (nomark _))
          (pss_cons (ps_set (i := 3) scT.nd rfl (.inl rfl) (pe_op op_mod (pe_callTy call_int1 (by rfl) T.int (by decide +kernel) (pa_cons (pe_ix ix_list (pv 0) pe_int (fun _ _ => rfl)) pa_nil)) (pv 1)))
          (pss_cons (ps_asg (pe_op op_fdivW (pe_ix ix_list (pv 0) pe_int (fun _ _ => rfl)) (pv 1)) (pg_sub (pv 0) pe_int set_list))
          (pss_one (ps_ret (pv 3)))))
          pss_nil)
      (pss_cons (ps_set (i := 4) scT.nd rfl (.inl rfl) (pe_op op_mod (pe_callTy call_int1 (by rfl) T.int (by decide +kernel) (pa_cons (pe_op op_pow (pe_op op_add (pe_op op_add (pe_ix ix_list (pv 0) pe_int (fun _ _ => rfl)) (pe_op op_mul pe_int (pe_ix ix_list (pv 0) pe_int (fun _ _ => rfl)))) pe_int) pe_int) pa_nil)) pe_int))
      (pss_cons (ps_set (i := 5) scT.nd rfl (.inl rfl) (pe_op op_mod (pe_callTy call_int1 (by rfl) T.int (by decide +kernel) (pa_cons (pe_op op_pow (pe_op op_add (pv 4) (pe_op op_mul pe_int (pe_ix ix_list (pv 0) pe_int (fun _ _ => rfl)))) pe_int) pa_nil)) pe_int))
      (pss_one (ps_ret (pe_op op_mod (pe_callTy call_int1 (by rfl) T.int (by decide +kernel) (pa_cons (pe_op op_fdiv (pv 5) pe_int) pa_nil)) (pv 1)))))))), ?_⟩
    -- state[4] = state[4] + 1
    refine ⟨_, rfl, _, _, _, _, rfl, rfl, SqL.of hs, rfl, _, _, rfl, rfl, _, rfl, _, _, _, _, rfl, rfl, hs, rfl, ?_⟩
    -- the while
    refine while_to (WT H st l cs m t) (WT H st l cs m t) (fun _ H2 => left cs.length (H2 st)) ⟨i, c, h, _, rfl, upd_same, hi, hc, h0, h1, fun b hb => upd_ne hb⟩ ?_ ?_
    · intro hd
      rintro σ H2 ⟨i, c, h, v, rfl, hs2, hi, hc, h0, h1, hk⟩
      have hl2 : H2 l = some (.lst (cs.map V.int)) := by rw [hk l hne.symm]; exact hl
      refine ⟨_, rfl, _, _, _, _, rfl, rfl, SqL.of hs2, rfl, rfl, _, rfl, ite2 (fun e => ?_) fun e => ?_⟩
      · have ec : c = 0 := by simpa using e
        subst ec
        refine ⟨_, rfl, _, _, _, _, rfl, rfl, SqL.of hs2, rfl, _, rfl, _, _, _, _, rfl, rfl, SqL.of hs2, rfl, _, _, rfl, .inl (SqL.of hl2), _, _, rfl, rfl, _, rfl, ite2 (fun e2 => ?_) fun e2 => ?_⟩
        · have hlt : i < cs.length := by
            have := of_decide_eq_true e2
            rw [List.length_map] at this
            omega
          have hz : (cs.map V.int)[i]? = some (.int cs[i]) := by rw [List.getElem?_map, List.getElem?_eq_getElem hlt]; rfl
          have eL : left cs.length (H2 st) = cs.length - i := left_at hs2
          refine ⟨fun σ' H' => WT H st l cs m t σ' H' ∧ left cs.length (H' st) < left cs.length (H2 st), fun σ' H' n => ⟨_, n.2, rfl, n.1⟩, ?_⟩
          -- cell = abs(state[0][state[1]])
          refine ⟨_, rfl, _, _, _, _, rfl, rfl, SqL.of hs2, rfl, _, rfl, _, _, _, _, rfl, rfl, SqL.of hs2, rfl, _, _, _, _, rfl, rfl, SqL.of hl2, atI_nat hz, _, rfl, ?_⟩
          -- state[1] = state[1] + 1
          refine ⟨_, rfl, _, _, _, _, rfl, rfl, SqL.of hs2, rfl, _, _, rfl, rfl, _, rfl, _, _, _, _, rfl, rfl, hs2, rfl, ?_⟩
          have hup : ∀ o b, b ≠ st → upd H2 st o b = H b := fun o b hb => by rw [upd_ne hb]; exact hk b hb
          have ha : 0 ≤ (if cs[i] < 0 then -cs[i] else cs[i]) := by split <;> omega
          -- if cell >= 10 ** 18
          refine ⟨_, rfl, _, _, rfl, rfl, ⟨by decide, by decide, by decide⟩, _, _, rfl, rfl, _, rfl, ite2 (fun e3 => ?_) fun e3 => ?_⟩
          · refine ⟨_, rfl, _, rfl, _, _, _, _, rfl, rfl, upd_same, rfl, ⟨⟨i + 1, _, h, _, rfl, upd_same, hlt, ha, h0, h1, fun b hb => by rw [upd_ne hb]; exact hup _ b hb⟩, ?_⟩⟩
            rw [eL]
            exact Nat.lt_of_le_of_lt (Nat.le_of_eq (left_at (i := i + 1) upd_same)) (by omega)
          · refine ⟨_, rfl, _, _, _, _, rfl, rfl, SqL.of upd_same, rfl, _, _, rfl, rfl, .inr (by decide), _, rfl, _, _, rfl, rfl, _, _, rfl, rfl, .inl ⟨_, rfl, _, _, rfl, rfl, (by show (0 : Int) < 2147483647; decide), _, rfl, _, _, _, _, rfl, rfl, upd_same, rfl, ?_⟩⟩
            refine ⟨⟨i + 1, 0, _, _, rfl, upd_same, hlt, Int.le_refl _, Int.emod_nonneg _ (by decide), Int.emod_lt_of_pos _ (by decide), fun b hb => by rw [upd_ne hb]; exact hup _ b hb⟩, ?_⟩
            rw [eL]
            exact Nat.lt_of_le_of_lt (Nat.le_of_eq (left_at (i := i + 1) upd_same)) (by omega)
        · exact hd _ _ ⟨i, 0, h, v, rfl, hs2, hi, hc, h0, h1, hk⟩
      · exact hd _ _ ⟨i, c, h, v, rfl, hs2, hi, hc, h0, h1, hk⟩
    · rintro σ H2 ⟨i, c, h, v, rfl, hs2, hi, hc, h0, h1, hk⟩
      have mk : ∀ (c' : Int) H', 0 ≤ c' → H' st = some (.lst [.ref l, .int i, .int c', .int h, .int (t + 1)]) → (∀ b, b ≠ st → H' b = H b) → Spr H' st l cs (n + 1) := fun c' H' hc' e1 e2 =>
        ⟨⟨i, t + 1, c', h, e1, hi, hc', h0, h1, by omega⟩, by rw [e2 l hne.symm]; exact hl, hln, hne⟩
      -- if state[2] > 0
      refine ⟨_, rfl, _, _, _, _, rfl, rfl, SqL.of hs2, rfl, _, _, rfl, rfl, _, rfl, ite2 (fun e => ?_) fun e => ?_⟩
      · have hw : CDivW c m := wide_div (b := 64) hm0 (by omega) (by decide) (by decide)
        refine ⟨_, rfl, _, _, _, _, rfl, rfl, SqL.of hs2, rfl, .inl ⟨_, rfl, _, rfl, _, _, rfl, rfl, hm0, ?_⟩⟩
        refine ⟨_, rfl, _, _, _, _, rfl, rfl, SqL.of hs2, rfl, _, rfl, _, _, rfl, rfl, hw, _, rfl, _, _, _, _, rfl, rfl, hs2, rfl, _, rfl, ?_⟩
        exact k _ _ (Int.emod_nonneg _ (by omega)) (Int.emod_lt_of_pos _ hm0) (mk _ _ (Int.ediv_nonneg hc (by omega)) upd_same fun b hb => by rw [upd_ne hb]; exact hk b hb) fun b hb => by rw [upd_ne hb]; exact hk b hb
      · -- the mix
        refine ⟨_, rfl, _, _, _, _, rfl, rfl, SqL.of hs2, rfl, _, rfl, _, _, _, _, rfl, rfl, SqL.of hs2, rfl, _, _, rfl, rfl, .inl (by decide), _, _, rfl, rfl, _, _, rfl, rfl, _, _, rfl, rfl, ⟨by decide, by decide, by omega⟩, .inl ⟨_, rfl, _, _, rfl, rfl, (by show (0 : Int) < 1000000007; decide), ?_⟩⟩
        refine ⟨_, rfl, _, rfl, _, _, _, _, rfl, rfl, SqL.of hs2, rfl, _, _, rfl, rfl, .inl (by decide), _, _, rfl, rfl, _, _, rfl, rfl, ⟨by decide, by decide, ?_⟩, .inl ⟨_, rfl, _, _, rfl, rfl, (by show (0 : Int) < 998244353; decide), ?_⟩⟩
        · exact mixB (Int.emod_nonneg _ (by decide)) (Int.emod_lt_of_pos _ (by decide)) (by omega) (by omega)
        refine ⟨_, rfl, _, _, rfl, rfl, ⟨by decide, by decide⟩, .inl ⟨_, rfl, _, rfl, _, _, rfl, rfl, hm0, ?_⟩⟩
        exact k _ _ (Int.emod_nonneg _ (by omega)) (Int.emod_lt_of_pos _ hm0) (mk _ _ hc hs2 hk) hk
end
def spFresh (K : PySem.W.Frag) : Sp := fun vs H Q _ => ∃ (a : Addr) (ns : List Int), vs = [.ref a] ∧ SqL K H a (ns.map V.int) ∧ ns.length ≤ 63 ∧ ∀ (st l : Addr) (cs : List Int) (H' : Hp), Same H H' → Spr H' st l cs 0 → H st = none → Q (.ref st) H'
def spOne : Sp := fun vs H Q _ => ∃ (st l a : Addr) (cs : List Int) (n : Nat) (xs : List V), vs = [.ref st, .ref a] ∧ H a = some (.lst xs) ∧ a ≠ st ∧ 0 < xs.length ∧ xs.length < 1000 ∧ n < 1000000 ∧ Spr H st l cs n ∧
  ∀ (x : V) (H' : Hp), x ∈ xs → Spr H' st l cs (n + 1) → (∀ b, b ≠ st → H' b = H b) → Q x H'
theorem same_new {H : Hp} {p : Addr} (h : H p = none) (o : HO) : Same H (upd H p o) := fun b u q => by rw [upd_ne (ne_of_none q h)]; exact q
theorem sz {n : Nat} (h : n ≤ 1000) : n ≤ sizeLine := Nat.le_of_lt (small1000 h)
theorem Spr.mono {H H' : Hp} {st l : Addr} {cs : List Int} {n : Nat} (S : Spr H st l cs n) (s : Same H H') : Spr H' st l cs n := by
  obtain ⟨⟨i, k, c, h, e, q⟩, h2, h3, h4⟩ := S
  exact ⟨⟨i, k, c, h, s _ _ e, q⟩, s _ _ h2, h3, h4⟩
theorem Spr.not {H : Hp} {st l b : Addr} {cs : List Int} {n : Nat} (S : Spr H st l cs n) (h : H b = none) : b ≠ st := by
  obtain ⟨⟨i, k, c, m, e, q⟩, _⟩ := S
  exact (ne_of_none e h).symm
theorem same_new2 {H : Hp} {p : Addr} (h : H p = none) (o o' : HO) : Same H (upd (upd H p o) p o') := fun b u q => by
  rw [upd_ne (ne_of_none q h), upd_ne (ne_of_none q h)]
  exact q
section
variable {P : Program} {w : World} {K : PySem.W.Frag} {mg : Str → Option Value} {base : Heap}
theorem scF : FnScope ["_law_script"] ["_law_script"] (defScope sFresh) := ⟨rfl, rfl, rfl, by decide +kernel, rfl, by decide +kernel, by decide +kernel⟩
theorem scO : FnScope ["_law_state", "_law_things"] ["_law_state", "_law_things"] (defScope sOne) := ⟨rfl, rfl, rfl, by decide +kernel, rfl, by decide +kernel, by decide +kernel⟩
theorem cut_ints (ns : List Int) (lo hi : Option Int) : ∃ cs : List Int, cutV (ns.map V.int) lo hi = cs.map V.int ∧ cs.length ≤ ns.length := by
  refine ⟨(ns.drop (HT.sIx (ns.map V.int).length 0 lo)).take (HT.sIx (ns.map V.int).length (ns.map V.int).length hi - HT.sIx (ns.map V.int).length 0 lo), ?_, ?_⟩
  · rw [List.map_take, List.map_drop]
    rfl
  · rw [List.length_take, List.length_drop]
    omega
theorem ok_fresh {f : Addr} {fd : FuncData} (F : Fun K "_law_fresh" "_law_fresh" sFresh f fd) (hl : mg "list" = none) : FnOk P w K mg base CX0 1 f fd ["_law_script"] (spFresh K) := by
  refine F.ok scF (fun vs H Q E h => ?_) (fun cdv A outer s H vs Q E hr h => ?_)
  · obtain ⟨a, ns, rfl, _⟩ := h
    rfl
  · obtain ⟨a, ns, rfl, hS, hn, k⟩ := h
    refine ⟨_, pss_one (ps_ret (pe_lst (pa_cons (pe_callTy call_list_of (by rfl) hl (by decide +kernel) (pa_cons (pe_slice sl_list (pv 0) po_none (po_some pe_int)) pa_nil)) (pa_cons pe_int (pa_cons pe_int (pa_cons pe_int (pa_cons pe_int pa_nil))))))), ?_⟩
    obtain ⟨cs, e1, e2⟩ := cut_ints ns none (some 40)
    refine ⟨_, rfl, _, rfl, a, _, rfl, hS, fun p np => ?_⟩
    refine ⟨p, _, rfl, .inl (SqL.of upd_same), fun l nl => ⟨sz (Nat.le_of_ble_eq_true rfl), fun st nst => ?_⟩⟩
    have s1 : Same H (upd H p (.lst (cutV (ns.map V.int) none (some 40)))) := same_new np _
    have ne : l ≠ st := ne_of_none upd_same nst
    refine k st l cs _ ((s1.trans (same_new nl _)).trans (same_new nst _)) ⟨⟨0, 0, 0, 0, upd_same, Nat.zero_le _, Int.le_refl _, Int.le_refl _, by decide, Nat.le_refl _⟩, ?_, Nat.le_trans e2 hn, ne.symm⟩ ((s1.trans (same_new nl _)).free nst)
    rw [upd_ne ne, upd_same, e1]
theorem ok_one {f fT : Addr} {fd fdT : FuncData} (F : Fun K "_law_one" "_law_one" sOne f fd) (FT : Fun K "_law_take" "_law_take" sTake fT fdT) (T : TxtT mg) (gT : mg "_law_take" = some (.ref fT)) (bT : Binds K fdT ["_law_state", "_law_many"] []) :
    FnOk P w K mg base CX0 2 f fd ["_law_state", "_law_things"] spOne := by
  have GT : FnOk P w K mg base CX0 1 fT fdT ["_law_state", "_law_many"] spTake := ok_take FT T
  refine F.ok scO (fun vs H Q E h => ?_) (fun cdv A outer s H vs Q E hr h => ?_)
  · obtain ⟨st, l, a, cs, n, xs, rfl, _⟩ := h
    rfl
  · obtain ⟨st, l, a, cs, n, xs, rfl, ha, nal, h0, h1, hn, S, k⟩ := h
    refine ⟨_, pss_one (ps_ret (pe_ix ix_list (pv 1) (pe_call GT hr rfl gT FT.kp bT .nil pass0 (pa_cons (pv 0) (pa_cons (pe_callB call_len_seq (by rfl) T.len PySem.boot_len (pa_cons (pv 1) pa_nil)) pa_nil))) (fun _ _ => rfl))), ?_⟩
    obtain ⟨i, t, c, h, hs, _⟩ := S.ex
    refine ⟨_, rfl, _, rfl, _, rfl, _, _, rfl, .inl (SqL.of ha), st, l, cs, n, _, rfl, by omega, by omega, hn, S, fun r H' r0 r1 S' hk => ?_⟩
    have hr' : r.toNat < xs.length := by omega
    have e : xs[r.toNat]? = some xs[r.toNat] := List.getElem?_eq_getElem hr'
    refine ⟨a, xs, r, _, rfl, rfl, SqL.of (by rw [hk a nal]; exact ha), at_of (by omega) e, ?_⟩
    exact k _ H' (List.getElem_mem hr') S' hk
end
/-- all but the state stands as it stood -/
def But (st : Addr) (H H' : Hp) : Prop := ∀ b o, b ≠ st → H b = some o → H' b = some o
theorem But.refl (st : Addr) (H : Hp) : But st H H := fun _ _ _ h => h
theorem But.trans {st : Addr} {H H1 H2 : Hp} (a : But st H H1) (b : But st H1 H2) : But st H H2 := fun c o n h => b c o n (a c o n h)
theorem But.of {st : Addr} {H H' : Hp} (s : Same H H') : But st H H' := fun b o _ h => s b o h
theorem But.eq {st : Addr} {H H' : Hp} (k : ∀ b, b ≠ st → H' b = H b) : But st H H' := fun b o n h => by
  rw [k b n]
  exact h
theorem But.free {st : Addr} {H H' : Hp} (k : But st H H') {p : Addr} (hp : H' p = none) (n : p ≠ st) : H p = none := by
  cases q : H p with
  | none => rfl
  | some o =>
    rw [k p o n q] at hp
    cases hp
end K1
set_option maxRecDepth 100000
set_option maxHeartbeats 1000000
namespace K1
open PySem L2
/-! ### data that is compared -/
def off (st : Addr) (H : Hp) : Hp := fun b => if b = st then none else H b
theorem off_ne {st b : Addr} {H : Hp} (h : b ≠ st) : off st H b = H b := if_neg h
theorem off_some {st b : Addr} {H : Hp} {o : HO} (h : off st H b = some o) : b ≠ st ∧ H b = some o := by
  by_cases e : b = st
  · rw [e, off, if_pos rfl] at h
    cases h
  · exact ⟨e, by rw [off_ne e] at h; exact h⟩
theorem But.off {st : Addr} {H H' : Hp} (k : But st H H') : Same (off st H) (off st H') := fun b o h => by
  obtain ⟨n, e⟩ := off_some h
  rw [off_ne n]
  exact k b o n e
theorem off_same {st : Addr} {H : Hp} : Same (off st H) H := fun b o h => (off_some h).2
theorem tup_mono {K : PySem.W.Frag} {H H' : Hp} {a : Addr} {xs : List V} (e : Same H H') (h : SqT K H a xs) : SqT K H' a xs := by
  rcases h with (h | ⟨o, h⟩) | h
  · exact .inl (.inl (e _ _ h))
  · exact .inl (.inr ⟨o, e _ _ h⟩)
  · exact .inr h
mutual
theorem dp_mono {K : PySem.W.Frag} {H H' : Hp} (s : Same H H') : ∀ {d : PyData} {v : V}, Dp K H v d → Dp K H' v d
  | _, _, .non => .non
  | _, _, .bl b => .bl b
  | _, _, .int i => .int i
  | _, _, .str x => .str x
  | _, _, .lst h k => .lst (s.seq h) (dpAll_mono s k)
  | _, _, .tup h k => .tup (tup_mono s h) (dpAll_mono s k)
theorem dpAll_mono {K : PySem.W.Frag} {H H' : Hp} (s : Same H H') : ∀ {ds : List PyData} {vs : List V}, DpAll K H vs ds → DpAll K H' vs ds
  | _, _, .nil => .nil
  | _, _, .cons h k => .cons (dp_mono s h) (dpAll_mono s k)
end
/-- data of small depth, as == asks it -/
def Okd (d : PyData) : Prop := d.canLay0 = true ∧ d.depth ≤ 40
theorem okd_all : ∀ {ds : List PyData}, (∀ d ∈ ds, Okd d) → PyData.canLayAll0 ds = true ∧ PyData.depthAll ds ≤ 40
  | [], _ => ⟨by simp only [PyData.canLayAll0], by simp only [PyData.depthAll]; omega⟩
  | d :: r, h => by
    obtain ⟨h1, h2⟩ := h d (List.mem_cons_self ..)
    obtain ⟨h3, h4⟩ := okd_all (ds := r) fun e he => h e (List.mem_cons_of_mem _ he)
    refine ⟨by simp only [PyData.canLayAll0, h1, h3, Bool.and_true], ?_⟩
    simp only [PyData.depthAll]
    omega
theorem okd_list {ds : List PyData} (h : ∀ d ∈ ds, Okd d) : SeqAt.shaped (.list ds) = true := by
  obtain ⟨h1, h2⟩ := okd_all h
  unfold SeqAt.shaped
  rw [Bool.and_eq_true]
  refine ⟨by simp only [PyData.canLay0, h1], decide_eq_true ?_⟩
  simp only [PyData.depth]
  omega
theorem dpAll_len {K : PySem.W.Frag} {H : Hp} : ∀ {vs : List V} {ds : List PyData}, DpAll K H vs ds → vs.length = ds.length
  | _, _, .nil => rfl
  | _, _, .cons _ k => congrArg Nat.succ (dpAll_len k)
theorem dpAll_erase {K : PySem.W.Frag} {H : Hp} : ∀ {vs : List V} {ds : List PyData} (k : Nat), DpAll K H vs ds → DpAll K H (vs.eraseIdx k) (ds.eraseIdx k)
  | _, _, _, .nil => .nil
  | _, _, 0, .cons _ t => t
  | _, _, k + 1, .cons h t => .cons h (dpAll_erase k t)
theorem eqv_nil (ds : List PyData) : PyData.eqv (.list ds) (.list []) = decide (ds.length = 0) := by
  cases ds with
  | nil => decide +kernel
  | cons d r => simp [PyData.eqv, PyData.eqvAll]
/-- the lists that == asks, each item of small depth -/
def DataL (K : PySem.W.Frag) (H : Hp) (xs : List V) : Prop := ∃ ds, DpAll K H xs ds ∧ ∀ d ∈ ds, Okd d
theorem DataL.mono {K : PySem.W.Frag} {H H' : Hp} {xs : List V} (h : DataL K H xs) (s : Same H H') : DataL K H' xs := by
  obtain ⟨ds, h1, h2⟩ := h
  exact ⟨ds, dpAll_mono s h1, h2⟩
theorem DataL.erase {K : PySem.W.Frag} {H : Hp} {xs : List V} (h : DataL K H xs) (k : Nat) : DataL K H (xs.eraseIdx k) := by
  obtain ⟨ds, h1, h2⟩ := h
  exact ⟨ds.eraseIdx k, dpAll_erase k h1, fun d hd => h2 d (List.mem_of_mem_eraseIdx hd)⟩
/-- the same things in another order, in a new list -/
def spMix (K : PySem.W.Frag) : Sp := fun vs H Q _ => ∃ (st l a : Addr) (cs : List Int) (n : Nat) (xs : List V), vs = [.ref st, .ref a] ∧ (SqL K H a xs ∨ SqT K H a xs) ∧ xs.length ≤ 900 ∧ n + xs.length < 1000000 ∧ Spr H st l cs n ∧ DataL K (off st H) xs ∧
  ∀ (p : Addr) (ys : List V) (H' : Hp), ys.Perm xs → H' p = some (.lst ys) → Spr H' st l cs (n + xs.length) → But st H H' → H p = none → Q (.ref p) H'
def lenAt : Option HO → Nat
  | some (.lst xs) => xs.length
  | _ => 0
theorem seq_nat {n : Nat} {r : Int} (h0 : 0 ≤ r) (h1 : r < n) : seqIndex? r n = some r.toNat := (ixN_seq (n := n) (i := r) (j := r.toNat) (by unfold ixN; rw [if_pos h0, if_pos h1])).1
theorem erase_perm {α : Type} : ∀ {l : List α} {k : Nat} {y : α}, l[k]? = some y → (y :: l.eraseIdx k).Perm l
  | a :: r, 0, y, h => by
    have e : a = y := Option.some.inj h
    subst e
    exact List.Perm.refl _
  | a :: r, k + 1, y, h => (List.Perm.swap a y _).trans (List.Perm.cons a (erase_perm (l := r) (k := k) (by simpa using h)))
theorem perm_one {xs ys zs : List V} {k : Nat} {y : V} (h : (zs ++ ys).Perm xs) (e : ys[k]? = some y) : ((zs ++ [y]) ++ ys.eraseIdx k).Perm xs := by
  rw [List.append_assoc]
  exact (List.Perm.append_left zs (erase_perm e)).trans h
section
variable {P : Program} {w : World} {K : PySem.W.Frag} {mg : Str → Option Value} {base : Heap}
abbrev NMix : List Str := ["_law_state", "_law_things", "_law_left", "_law_found"]
theorem scMix : FnScope NMix ["_law_state", "_law_things"] (defScope sMix) := ⟨rfl, rfl, rfl, by decide +kernel, rfl, by decide +kernel, by decide +kernel⟩
theorem ok_mix {f fT : Addr} {fd fdT : FuncData} (F : Fun K "_law_mix" "_law_mix" sMix f fd) (FT : Fun K "_law_take" "_law_take" sTake fT fdT) (T : TxtT mg) (hl : mg "list" = none) (gT : mg "_law_take" = some (.ref fT)) (bT : Binds K fdT ["_law_state", "_law_many"] []) :
    FnOk P w K mg base CX0 2 f fd ["_law_state", "_law_things"] (spMix K) := by
  have GT : FnOk P w K mg base CX0 1 fT fdT ["_law_state", "_law_many"] spTake := ok_take FT T
  refine F.ok scMix (fun vs H Q E h => ?_) (fun cdv A outer s H vs Q E hr h => ?_)
  · obtain ⟨st, l, a, cs, n, xs, rfl, _⟩ := h
    rfl
  · obtain ⟨st, l, a, cs, n, xs, rfl, ha, hz, hn, S, D, k⟩ := h
    refine ⟨_, pss_cons (ps_par (i := 2) (j := 3) rfl scMix.nd rfl rfl (by decide) rfl rfl (pa_cons (pe_callTy call_list_of (by rfl) hl (by decide +kernel) (pa_cons (pv 1) pa_nil)) (pa_cons (pe_lst pa_nil) pa_nil)) (by rfl))
      (pss_cons (ps_while PassesOwn.never (pt_cmpR (op_neD hr.units) (pv 2) (pe_lst pa_nil) (nomark _))
        (pss_one (ps_expr (pe_bm PySem.F.plainAttrs_list PySem.F.slot_list_append PySem.F.type_list_append mt_append (pv 3)
          (pa_cons (pe_bm PySem.F.plainAttrs_list PySem.F.slot_list_pop PySem.F.type_list_pop mt_popAt (pv 2) (pa_cons (pe_call GT hr (by rfl) gT FT.kp bT .nil pass0 (pa_cons (pv 0) (pa_cons (pe_callB call_len_seq (by rfl) T.len PySem.boot_len (pa_cons (pv 2) pa_nil)) pa_nil))) pa_nil)) pa_nil)))))
      (pss_one (ps_ret (pv 3)))), ?_⟩
    refine ⟨_, rfl, a, xs, rfl, ha, fun l2 m2 => ⟨sz (Nat.le_of_ble_eq_true rfl), fun f m3 => ⟨_, _, rfl, ?_⟩⟩⟩
    have e2 := S.not m2
    have s2 := same_new m2 (.lst xs)
    have e3 := (S.mono s2).not m3
    have n3 := s2.free m3
    have e23 : l2 ≠ f := ne_of_none upd_same m3
    have s3 := s2.trans (same_new m3 (.lst []))
    refine while_to (fun σ H2 => ∃ ys zs, σ = [some (.ref st), some (.ref a), some (.ref l2), some (.ref f)] ∧ H2 l2 = some (.lst ys) ∧ H2 f = some (.lst zs) ∧ (zs ++ ys).Perm xs ∧ Spr H2 st l cs (n + zs.length) ∧ But st H H2 ∧ DataL K (off st H) ys)
      (fun σ H2 => ∃ zs, σ = [some (.ref st), some (.ref a), some (.ref l2), some (.ref f)] ∧ H2 f = some (.lst zs) ∧ zs.Perm xs ∧ Spr H2 st l cs (n + zs.length) ∧ But st H H2) (fun _ H2 => lenAt (H2 l2))
      ⟨xs, [], rfl, by rw [upd_ne e23]; exact upd_same, upd_same, List.Perm.refl _, S.mono s3, But.of s3, D⟩ ?_ ?_
    · intro hd
      rintro σ H2 ⟨ys, zs, rfl, h2, h3, pm, S2, bt, D2⟩
      have hlen : zs.length + ys.length = xs.length := by
        have q := pm.length_eq
        rw [List.length_append] at q
        exact q
      obtain ⟨ds, dp, dk⟩ := id D2
      have hdl := dpAll_len dp
      refine ⟨_, rfl, sz (Nat.le_of_ble_eq_true rfl), fun q nq => ?_⟩
      have sq := same_new nq (.lst [])
      refine ⟨.list ds, .list [], .lst (SqL.of (sq _ _ h2)) (dpAll_mono ((bt.off.trans off_same).trans sq) dp), .lst (SqL.of upd_same) .nil, okd_list dk, okd_list (ds := []) (fun _ h => nomatch h), _, rfl, ite2 (fun c => ?_) fun c => ?_⟩
      · have hy : ys.length ≠ 0 := by
          rw [eqv_nil] at c
          rw [hdl]
          simpa using c
        refine ⟨fun σ' H' => (∃ ys zs, σ' = [some (.ref st), some (.ref a), some (.ref l2), some (.ref f)] ∧ H' l2 = some (.lst ys) ∧ H' f = some (.lst zs) ∧ (zs ++ ys).Perm xs ∧ Spr H' st l cs (n + zs.length) ∧ But st H H' ∧ DataL K (off st H) ys) ∧ lenAt (H' l2) < lenAt (H2 l2), fun σ' H' q => ⟨_, q.2, rfl, q.1⟩, ?_⟩
        refine ⟨_, rfl, .inl ⟨rfl, _, SqL.of (sq _ _ h3)⟩, _, rfl, .inl ⟨rfl, _, SqL.of (sq _ _ h2)⟩, _, rfl, _, rfl, l2, ys, rfl, .inl (SqL.of (sq _ _ h2)), st, l, cs, n + zs.length, _, rfl, by omega, by omega, by omega, S2.mono sq, fun r H4 r0 r1 S4 hk => ?_⟩
        have g2 : H4 l2 = some (.lst ys) := by
          rw [hk l2 e2]
          exact sq _ _ h2
        have g3 : H4 f = some (.lst zs) := by
          rw [hk f e3]
          exact sq _ _ h3
        have rk : r.toNat < ys.length := by omega
        have ey : ys[r.toNat]? = some ys[r.toNat] := List.getElem?_eq_getElem rk
        refine ⟨l2, ys, r, r.toNat, _, rfl, rfl, g2, by omega, by omega, seq_nat r0 r1, ey, f, zs, _, rfl, rfl, by rw [upd_ne e23.symm]; exact g3, small1000 (by omega), ?_⟩
        have b4 : But st H2 H4 := (But.of sq).trans (But.eq hk)
        have b5 : ∀ o o', But st H (upd (upd H4 l2 o) f o') := fun o o' b u nb hb => by
          rw [upd_ne (ne_of_none hb n3), upd_ne (ne_of_none hb m2)]
          exact (bt.trans b4) b u nb hb
        refine ⟨⟨_, _, rfl, by rw [upd_ne e23]; exact upd_same, upd_same, perm_one pm ey, ?_, b5 _ _, ?_⟩, ?_⟩
        · rw [List.length_append]
          obtain ⟨⟨i, t, c, m, es, q1, q2, q3, q4, q5⟩, ls, ln, ne⟩ := S4
          refine ⟨⟨i, t, c, m, by rw [upd_ne e3.symm, upd_ne e2.symm]; exact es, q1, q2, q3, q4, ?_⟩, ?_, ln, ne⟩
          · show t ≤ n + (zs.length + 1)
            omega
          · rw [upd_ne (ne_of_none S.ls n3), upd_ne (ne_of_none S.ls m2)]
            exact ls
        · exact D2.erase r.toNat
        · show lenAt (upd (upd H4 l2 _) f _ l2) < lenAt (H2 l2)
          rw [upd_ne e23, upd_same, h2]
          show (ys.eraseIdx r.toNat).length < ys.length
          rw [List.length_eraseIdx_of_lt rk]
          omega
      · have hy : ys = [] := by
          rw [eqv_nil] at c
          have z : ds.length = 0 := by simpa using c
          exact List.eq_nil_of_length_eq_zero (by rw [hdl]; exact z)
        subst hy
        rw [List.append_nil] at pm
        exact hd _ _ ⟨zs, rfl, sq _ _ h3, pm, S2.mono sq, bt.trans (But.of sq)⟩
    · rintro σ H2 ⟨zs, rfl, h3, pm, S2, bt⟩
      refine ⟨_, rfl, k f zs H2 pm h3 ?_ bt n3⟩
      rw [pm.length_eq] at S2
      exact S2
end
end K1
set_option maxRecDepth 100000
set_option maxHeartbeats 1000000
namespace K1
open PySem L2
def nm16 : List Str := ["a", "b", "c", "x", "y", "zz", "part", "put", "else", "abcdefgh", "main", "copy", "catch", "t", "rest", "if"]
def unS : V → Str
  | .str z => z
  | _ => ""
theorem un_map : ∀ zs : List Str, (zs.map V.str).map unS = zs
  | [] => rfl
  | _ :: r => congrArg _ (un_map r)
theorem perm_strs {ys : List V} {zs : List Str} (h : ys.Perm (zs.map V.str)) : ∃ ws : List Str, ys = ws.map V.str ∧ ws.Perm zs := by
  refine ⟨ys.map unS, ?_, ?_⟩
  · have all : ∀ y ∈ ys, ∃ z, y = V.str z := fun y hy => by
      obtain ⟨z, _, e⟩ := List.mem_map.mp (h.mem_iff.mp hy)
      exact ⟨z, e.symm⟩
    clear h
    induction ys with
    | nil => rfl
    | cons y r ih =>
      obtain ⟨z, rfl⟩ := all y (List.mem_cons_self ..)
      have q := ih fun y hy => all y (List.mem_cons_of_mem _ hy)
      show V.str z :: r = V.str z :: (r.map unS).map V.str
      rw [← q]
  · have q := h.map unS
    rw [un_map] at q
    exact q
theorem strs_data {K : PySem.W.Frag} {H : Hp} : ∀ zs : List Str, (∀ z ∈ zs, PyData.strOk z = true) → DataL K H (zs.map V.str)
  | [], _ => ⟨[], .nil, fun _ h => nomatch h⟩
  | z :: r, h => by
    obtain ⟨ds, h1, h2⟩ := strs_data (K := K) (H := H) r fun y hy => h y (List.mem_cons_of_mem _ hy)
    refine ⟨.str z :: ds, .cons (.str z) h1, fun d hd => ?_⟩
    rcases List.mem_cons.mp hd with e | e
    · subst e
      exact ⟨by simp only [PyData.canLay0]; exact h z (List.mem_cons_self ..), by simp only [PyData.depth]; omega⟩
    · exact h2 d e
theorem nm16_ok : ∀ z ∈ nm16, PyData.strOk z = true := by
  have q : nm16.all PyData.strOk = true := by decide +kernel
  exact List.all_eq_true.mp q
theorem nm16_nd : nm16.Nodup := by decide +kernel
theorem cut_to {α : Type} (f : α → V) (zs : List α) {m : Int} (h : 0 ≤ m) : cutV (zs.map f) none (some m) = (zs.take m.toNat).map f := by
  have e : m = (m.toNat : Int) := by omega
  rw [e]
  unfold cutV
  rw [HT.sIx_none, HT.sIx_nat, List.drop_zero, List.length_map, Nat.sub_zero, ← List.map_take, Int.toNat_natCast]
  congr 1
  rcases Nat.le_total m.toNat zs.length with q | q
  · rw [Nat.min_eq_left q]
  · rw [Nat.min_eq_right q, List.take_of_length_le (Nat.le_refl _), List.take_of_length_le q]
theorem cut_mid {α : Type} (f : α → V) (zs : List α) {i j : Int} (h0 : 0 ≤ i) (h1 : i ≤ j) : cutV (zs.map f) (some i) (some j) = ((zs.drop i.toNat).take (j.toNat - i.toNat)).map f := by
  have ei : i = (i.toNat : Int) := by omega
  have ej : j = (j.toNat : Int) := by omega
  rw [ei, ej]
  unfold cutV
  rw [HT.sIx_nat, HT.sIx_nat, List.length_map, ← List.map_drop, ← List.map_take, Int.toNat_natCast, Int.toNat_natCast]
  congr 1
  rcases Nat.le_total i.toNat zs.length with p | p
  · rw [Nat.min_eq_left p]
    rcases Nat.le_total j.toNat zs.length with q | q
    · rw [Nat.min_eq_left q]
    · rw [Nat.min_eq_right q, List.take_of_length_le (by rw [List.length_drop]; omega), List.take_of_length_le (by rw [List.length_drop]; omega)]
  · rw [Nat.min_eq_right p, List.drop_eq_nil_of_le (Nat.le_refl _), List.drop_eq_nil_of_le p, List.take_nil, List.take_nil]
/-- m of the sixteen names, in some order -/
def spNames : Sp := fun vs H Q _ => ∃ (st l : Addr) (cs : List Int) (n : Nat) (m : Int), vs = [.ref st, .int m] ∧ 0 ≤ m ∧ m ≤ 16 ∧ n < 900000 ∧ Spr H st l cs n ∧
  ∀ (p : Addr) (zs : List Str) (H' : Hp), zs.Nodup → (∀ z ∈ zs, z ∈ nm16) → zs.length = m.toNat → H' p = some (.lst (zs.map V.str)) → Spr H' st l cs (n + 16) → But st H H' → H p = none → Q (.ref p) H'
section
variable {P : Program} {w : World} {K : PySem.W.Frag} {mg : Str → Option Value} {base : Heap}
theorem scNames : FnScope ["_law_state", "_law_many", "_law_some"] ["_law_state", "_law_many"] (defScope sNames) := ⟨rfl, rfl, rfl, by decide +kernel, rfl, by decide +kernel, by decide +kernel⟩
theorem ok_names {f fM : Addr} {fd fdM : FuncData} (F : Fun K "_law_names" "_law_names" sNames f fd) (GM : FnOk P w K mg base CX0 2 fM fdM ["_law_state", "_law_things"] (spMix K)) (gM : mg "_law_mix" = some (.ref fM)) (kM : PySem.W.keepIn K (.ref fM) = true) (bM : Binds K fdM ["_law_state", "_law_things"] []) :
    FnOk P w K mg base CX0 3 f fd ["_law_state", "_law_many"] spNames := by
  refine F.ok scNames (fun vs H Q E h => ?_) (fun cdv A outer s H vs Q E hr h => ?_)
  · obtain ⟨st, l, cs, n, m, rfl, _⟩ := h
    rfl
  · obtain ⟨st, l, cs, n, m, rfl, h0, h16, hn, S, k⟩ := h
    refine ⟨_, pss_cons (ps_set (i := 2) scNames.nd rfl (.inl rfl) (pe_lst (pa_cons pe_str (pa_cons pe_str (pa_cons pe_str (pa_cons pe_str (pa_cons pe_str (pa_cons pe_str (pa_cons pe_str (pa_cons pe_str (pa_cons pe_str (pa_cons pe_str pa_nil))))))))))))
      (pss_one (ps_ret (pe_slice sl_list (pe_call GM hr (by rfl) gM kM bM .nil pass0 (pa_cons (pv 0) (pa_cons (pe_op op_cat (pv 2) (pe_lst (pa_cons pe_str (pa_cons pe_str (pa_cons pe_str (pa_cons pe_str (pa_cons pe_str (pa_cons pe_str pa_nil)))))))) pa_nil))) po_none (po_some (pv 1))))), ?_⟩
    refine ⟨sz (Nat.le_of_ble_eq_true rfl), fun p1 m1 => ⟨_, rfl, _, rfl, sz (Nat.le_of_ble_eq_true rfl), fun p2 m2 => ⟨p1, p2, _, _, rfl, rfl, by rw [upd_ne (ne_of_none upd_same m2)]; exact upd_same, upd_same, sz (Nat.le_of_ble_eq_true rfl), fun p3 m3 => ?_⟩⟩⟩
    have s3 := ((same_new m1 (.lst [.str "a", .str "b", .str "c", .str "x", .str "y", .str "zz", .str "part", .str "put", .str "else", .str "abcdefgh"])).trans (same_new m2 (.lst [.str "main", .str "copy", .str "catch", .str "t", .str "rest", .str "if"]))).trans (same_new m3 (.lst (nm16.map V.str)))
    refine ⟨st, l, p3, cs, n, nm16.map V.str, rfl, .inl (SqL.of upd_same), Nat.le_of_ble_eq_true rfl, by show n + 16 < 1000000; omega, S.mono s3, strs_data _ nm16_ok, fun p ys H4 pm hp S4 bt np => ?_⟩
    obtain ⟨zs, rfl, pz⟩ := perm_strs pm
    refine ⟨_, rfl, m, rfl, p, _, rfl, SqL.of hp, fun q nq => ?_⟩
    have hm : ∀ z ∈ zs.take m.toNat, z ∈ nm16 := fun z hz => pz.mem_iff.mp (List.mem_of_mem_take hz)
    have hl : zs.length = 16 := pz.length_eq
    refine k q (zs.take m.toNat) _ ((pz.nodup_iff.mpr nm16_nd).sublist (List.take_sublist _ _)) hm (by rw [List.length_take]; omega) (by rw [upd_same, cut_to _ _ h0]) (S4.mono (same_new nq _)) ((But.of s3).trans (bt.trans (But.of (same_new nq _)))) ?_
    exact ((But.of s3).trans bt).free nq (S4.not nq)
end
end K1
set_option maxRecDepth 100000
set_option maxHeartbeats 1000000
namespace K1
open PySem L2
/-! ### the program's kinds -/
def abc : Str := "abcdefghijklmnopqrstuvwxyz"
/-- spelled as a name -/
def nameOk (z : Str) : Bool := decide (1 ≤ (z.length : Int)) && decide ((z.length : Int) ≤ 8) && z.cps.toList.all fun c => decide (c ∈ abc.cps.toList)
theorem nm16_name : ∀ z ∈ nm16, nameOk z = true := by
  have q : nm16.all nameOk = true := by decide +kernel
  exact List.all_eq_true.mp q
theorem TyX.mono {K : PySem.W.Frag} {H H' : Hp} {x : V} {t : Value} (s : Same H H') (h : TyX K H x t) : TyX K H' x t := by
  cases h with
  | base b =>
    refine .base ?_
    cases b with
    | non => exact .non
    | bl y => exact .bl y
    | int i => exact .int i
    | str y => exact .str y
    | flt y => exact .flt y
    | lst e => exact .lst (s _ _ e)
    | frz e => exact .frz (s _ _ e)
    | tup e => exact .tup (s _ _ e)
    | dK e => exact .dK (s _ _ e)
    | dT e => exact .dT (s _ _ e)
    | ins e a b c d f => exact .ins (s _ _ e) a b c d f
  | byt b => exact .byt b
  | set e => exact .set (s _ _ e)
  | kList e c => exact .kList e c
  | kTuple e c => exact .kTuple e c
  | kDict e c => exact .kDict e c
  | fTuple e => exact .fTuple (s _ _ e)
  | fDict e => exact .fDict (s _ _ e)
def spIsList (K : PySem.W.Frag) : Sp := fun vs H Q _ => ∃ (x : V) (t : Value) (b : Bool), vs = [x] ∧ TyX K H x t ∧ PySem.W.kitAny K t [.type "list", .type "tuple"] = some b ∧ ∀ H', Same H H' → Q (.bl b) H'
def spIsName (K : PySem.W.Frag) : Sp := fun vs H Q _ => ∃ (x : V) (t : Value), vs = [x] ∧ TyX K H x t ∧ ((∃ z, x = .str z ∧ z.length ≤ 900 ∧ ∀ H', Same H H' → Q (.bl (nameOk z)) H') ∨ (PySem.W.kitOne K t (.type "str") = some false ∧ Q (.bl false) H))
section
variable {P : Program} {w : World} {K : PySem.W.Frag} {mg : Str → Option Value} {base : Heap}
theorem scIL : FnScope ["thing"] ["thing"] (defScope pIsList) := ⟨rfl, rfl, rfl, by decide +kernel, rfl, by decide +kernel, by decide +kernel⟩
theorem scIN : FnScope ["thing", "letter"] ["thing"] (defScope pIsName) := ⟨rfl, rfl, rfl, by decide +kernel, rfl, by decide +kernel, by decide +kernel⟩
theorem ok_isList {f : Addr} {fd : FuncData} (F : Fun K "is_list" "is_list" pIsList f fd) (hl : mg "list" = none) (ht : mg "tuple" = none) (hi : mg "isinstance" = none) : FnOk P w K mg base CX0 1 f fd ["thing"] (spIsList K) := by
  refine F.ok scIL (fun vs H Q E h => ?_) (fun cdv A outer s H vs Q E hr h => ?_)
  · obtain ⟨x, t, b, rfl, _⟩ := h
    rfl
  · obtain ⟨x, t, b, rfl, ty, kb, k⟩ := h
    refine ⟨_, pss_one (ps_ret (pe_callB call_isiT (by rfl) hi (by decide +kernel) (pa_cons (pv 0) (pa_cons (pe_tup (pa_cons (pe_bltn (v := .ty "list") (by rfl) hl (by decide +kernel) rfl) (pa_cons (pe_bltn (v := .ty "tuple") (by rfl) ht (by decide +kernel) rfl) pa_nil))) pa_nil)))), ?_⟩
    refine ⟨_, rfl, sz (Nat.le_of_ble_eq_true rfl), fun t m => ⟨_, t, _, _, _, b, rfl, upd_same, .cons (.ty _) (.cons (.ty _) .nil), TyX.mono (same_new m _) ty, kb, k _ (same_new m _)⟩⟩
theorem ok_isName {f : Addr} {fd : FuncData} (F : Fun K "is_name" "is_name" pIsName f fd) (hs : mg "str" = none) (hl : mg "len" = none) (ha : mg "all" = none) (hi : mg "isinstance" = none) (gL : ∃ u, mg "LETTERS" = some u ∧ RelV (.str abc) u) (gN : ∃ u, mg "LONGEST_NAME" = some u ∧ RelV (.int 8) u) : FnOk P w K mg base CX0 1 f fd ["thing"] (spIsName K) := by
  obtain ⟨uL, hL, rL⟩ := gL
  obtain ⟨uN, hN, rN⟩ := gN
  refine F.ok scIN (fun vs H Q E h => ?_) (fun cdv A outer s H vs Q E hr h => ?_)
  · obtain ⟨x, t, rfl, _⟩ := h
    rfl
  · obtain ⟨x, t, rfl, ty, h⟩ := h
    refine ⟨_, pss_cons (ps_if (pw_or (pt_not (pt_val (pe_callB call_isi (by rfl) hi (by decide +kernel) (pa_cons (pv 0) (pa_cons (pe_bltn (v := .ty "str") (by rfl) hs (by decide +kernel) rfl) pa_nil)))))
        (pw_or1 (pt_not (pt_chain op_le op_le pe_int (pe_callB call_len_str (by rfl) hl PySem.boot_len (pa_cons (pv 0) pa_nil)) (pe_glob (by rfl) hN rN))))).pt (pss_one (ps_ret pe_bl)) pss_nil)
      (pss_one (ps_ret (pe_callB (cr_all rfl) (by rfl) ha (by decide +kernel) (pa_cons (pe_lc (own := [("letter", 1)]) (g := gName 1) (tt := tYes) rfl scIN.nd (pi_str (pv 0)) (blkOk_by (N := ["thing", "letter"]) (sc := defScope pIsName) (by decide +kernel)) (fun _ _ _ _ _ => pg_name (i := 1) scIN.nd rfl (Or.inl rfl)) (fun _ _ _ _ _ => pts_nil)
        (fun _ _ _ _ _ => pe_cmpR op_inS (pv 1) (pe_glob (by rfl) hL rL) rfl)) pa_nil)))), ?_⟩
    rcases h with ⟨z, rfl, hz, k⟩ | ⟨kf, k⟩
    · obtain rfl : t = .type "str" := by
        cases ty with
        | base b =>
          cases b
          rfl
      refine ⟨_, rfl, _, _, _, _, true, rfl, .ty _, ty, kit_ty (by decide +kernel), _, rfl, iteF ?_⟩
      refine ⟨_, rfl, z, rfl, Nat.le_of_lt (small1000 (by omega)), _, _, rfl, rfl, _, rfl, ?_⟩
      refine ite2 (fun c1 => ⟨_, _, rfl, rfl, _, rfl, ?_⟩) fun c1 => ⟨_, rfl, iteT ?_⟩
      · by_cases c2 : (z.length : Int) ≤ 8
        · rw [decide_eq_true c2]
          refine iteF ?_
          refine ⟨_, rfl, z, rfl, fun D nD => ?_⟩
          refine lc_it walk_str (fun i H9 => H9 D = some (.lst (((z.cps.toList.take i).map fun c => decide (c ∈ abc.cps.toList)).map V.bl)) ∧ Same H H9) ⟨upd_same, same_new nD _⟩ (fun _ _ _ _ => trivial) ?_ ?_
          · rintro i x H9 H10 hi ⟨h9, s9⟩ ⟨rfl, c, hc, rfl⟩
            refine ⟨rfl, _, rfl, c, abc, rfl, rfl, _, h9, ?_, ?_, ?_⟩
            · rw [List.length_map, List.length_map, List.length_take]
              have hz2 : z.cps.size ≤ 900 := hz
              exact small1000 (by omega)
            · have e : z.cps.toList[i]? = some c := by simpa using hc
              rw [upd_same, List.take_add_one, e]
              simp only [Option.toList_some, List.map_append, List.map_cons, List.map_nil]
            · intro b o hb
              rw [upd_ne (ne_of_none hb nD)]
              exact s9 b o hb
          · rintro H9 ⟨h9, s9⟩
            refine ⟨D, _, rfl, SqL.of h9, ?_⟩
            have e := k H9 s9
            have eq : nameOk z = ((z.cps.toList.take z.cps.size).map fun c => decide (c ∈ abc.cps.toList)).all id := by
              unfold nameOk
              rw [c1, decide_eq_true c2, Bool.true_and, Bool.true_and, List.take_of_length_le (by simp), List.all_map]
              rfl
            rw [eq] at e
            exact e
        · rw [decide_eq_false c2]
          refine iteT ?_
          have e := k H (Same.refl H)
          unfold nameOk at e
          rw [decide_eq_false c2, Bool.and_false, Bool.false_and] at e
          exact e
      · have e := k H (Same.refl H)
        unfold nameOk at e
        have c3 : decide (1 ≤ (z.length : Int)) = false := by simpa using c1
        rw [c3, Bool.false_and, Bool.false_and] at e
        exact e
    · refine ⟨_, rfl, _, _, _, _, false, rfl, .ty _, ty, kf, _, rfl, iteT ?_⟩
      exact iteT k
end
end K1
set_option linter.all false
set_option maxRecDepth 100000
set_option maxHeartbeats 3200000
/-! set(x), x a list or a tuple, whatever the set is said to be -/
namespace K1
open PySem PySem.Spec PyProof.Rows L2
section
variable {P : Program} {w : World} {A : Around} {E : Value → Shared → Prop} {s : Shared}
theorem fill_gen {R : Result → Shared → Prop} {I T : Addr} {fp wr : List Addr} {G : Array GenState → Array GenState → Prop} {n : Nat} {Pv : Nat → Value → Prop} {St : Nat → Shared → Prop} (W : WalksS P w A.in1 I fp wr G n Pv St) (nT : T ∉ fp) {S : Nat → Heap → Prop}
    (fr : ∀ i h h', S i h → (∀ b o, b ∉ wr → h.get? b = some o → h'.get? b = some o) → S i h')
    (add : ∀ (s : Shared) (i : Nat) (v : Value) (Q : Bool → Shared → Prop) (E : Value → Shared → Prop), i < n → Pv i v → S i s.heap → (∀ b h' tk, s.toks ≤ tk → Heap.SameBut T s.heap h' → S (i + 1) h' → Q b { s with heap := h', toks := tk }) → wpAny (model P w) A.in1 (setAdd T v) Q E s) :
    ∀ (j i : Nat) (s : Shared), i + j = n → St i s → S i s.heap → (∀ s', Moved (T :: wr) G s s' → S n s'.heap → R (.ok (.ret .none)) s') → codeAny (model P w) A (.builtin "set.update.loop" ⟨[.ref T, .ref I], []⟩) R s := by
  have wT : T ∉ wr := fun z => nT (W.sub _ z)
  have wide : ∀ b ∈ wr, b ∈ T :: wr := fun b z => .tail _ z
  intro j
  induction j with
  | zero =>
    intro i s e st hS k
    obtain rfl : i = n := by omega
    refine codeAny_builtin PyProof.Rows.F.entry_set_update_loop ?_
    rw [Around.under_plainId PyProof.Rows.F.plain_set_update_loop]
    refine wpAny_bind (m := pyNext (.ref I)) (W.done s _ _ st fun s' mv => wpAny_pure (k s' (mv.mono wide) (fr _ _ _ hS fun b o hb e => mv.heap b o hb e)))
  | succ j ih =>
    intro i s e st hS k
    refine codeAny_builtin PyProof.Rows.F.entry_set_update_loop ?_
    rw [Around.under_plainId PyProof.Rows.F.plain_set_update_loop]
    refine wpAny_bind (m := pyNext (.ref I)) (W.item i s _ _ (by omega) st fun v s' pv st' mv => ?_)
    show wpAny _ A.in1 (holding [v] (setAdd T v) >>= _) _ _ s'
    refine wpAny_bind (wpAny_holding (add s' i v _ _ (by omega) pv (fr _ _ _ hS fun b o hb e => mv.heap b o hb e) fun b h2 tk le sb hS2 => ?_))
    refine wpAny_pure ⟨plainId_quiet PyProof.Rows.F.plain_set_update_loop _, ih (i + 1) _ (by omega) (W.frame _ s' _ _ st' le fun b hb o q => ?_) hS2 fun s2 mv2 hS3 => k s2 (Moved.trans W.gtrans ((mv.mono wide).then_heap le fun b o hb q => ?_) mv2) hS3⟩
    · exact (sb.2 b fun z => nT (z ▸ hb)).trans q
    · exact (sb.2 b fun z => hb (z ▸ .head _)).trans q
abbrev setW (w : World) : Obj := { cls := .type "set", dict := none, data := .set #[] 0 (.fresh 0 0 (!w.params.followText "set-order")) }
theorem call_setG {v : Value} {R : Heap → Prop} {Q : Value → Shared → Prop}
    (up : ∀ (A' : Around) (Q' : Unit → Shared → Prop) (E' : Value → Shared → Prop), A'.handled = A.handled → A'.units ≤ A.units + 2 → (∀ h' tk, R h' → (∀ b o, b < s.heap.objs.size → s.heap.get? b = some o → h'.get? b = some o) → Q' () { s with heap := h', toks := tk }) →
      wpAny (model P w) A' (Builtin.Frozenset.updateFrom "set.__init__" s.heap.objs.size v) Q' E' { s with heap := s.heap.push (setW w) })
    (k : ∀ h' tk, R h' → (∀ b o, b < s.heap.objs.size → s.heap.get? b = some o → h'.get? b = some o) → Q (.ref s.heap.objs.size) { s with heap := h', toks := tk }) :
    wpAny (model P w) A (call (.type "set") [v]) Q E s := by
  have ⟨mc, ml, mro⟩ := PySem.F.called_set.mro
  have m1 := PySem.F.called_set.made
  have m2 := PySem.F.called_set.sub
  have m3 := PySem.F.called_set.notType
  have m4 := PySem.F.called_set.canCreate
  have m5 := PySem.F.typeCall_set_1 v
  refine wpAny_call (codeAny_of_tree (show wpAny _ _ (callAny (.type "set") _) _ _ _ from wpAny_pure ⟨Code.quiet_builtin _ (by decide +kernel), codeAny_builtin PySem.F.entry_type_call ?_⟩))
  rw [Around.under_plain (weight_type_call_type "set" [v] []) rfl]
  repeat any_goals (first | wp_step | assumption)
  refine codeAny_mono (code_set_led1 v (E := E) (Q₁ := fun u t => u = .ref s.heap.objs.size ∧ t = { s with heap := s.heap.push (setW w) }) ⟨rfl, rfl⟩) fun r t hr => ?_
  match r, hr with
  | .error e, hr => exact hr
  | .ok (.ret u), hr =>
    obtain ⟨rfl, rfl⟩ := hr
    have at_ : (s.heap.push (setW w)).get? s.heap.objs.size = some (setW w) := Heap.get?_push_size _ rfl
    have ty : Shared.TypeIs { s with heap := s.heap.push (setW w) } (.ref s.heap.objs.size) "set" := ⟨_, at_, rfl⟩
    have i1 := PySem.F.called_set.init.lookup
    have i2 := PySem.F.called_set.init.bind (.ref s.heap.objs.size)
    repeat any_goals (first | wp_step | assumption)
    refine codeAny_mono (codeAny_call_builtin (R := wants (fun r t => r = .none ∧ ∃ h' tk, t = { s with heap := h', toks := tk } ∧ R h' ∧ ∀ b o, b < s.heap.objs.size → s.heap.get? b = some o → h'.get? b = some o) E)
      PySem.F.called_set.init.plain PySem.F.entry_set_init (check_set_init_1 ty ?_)) fun r2 t2 hr2 => ?_
    · unfold Builtin.«set.__init__» noKeywords
      generalize Builtin.Frozenset.updateFrom "set.__init__" = U at up ⊢
      wp_walk
      refine up _ _ _ ?_ ?_ fun h' tk hR kp => ?_
      · first | rfl | simp
      · first | exact Nat.le_refl _ | (simp only [Around.in1]; omega) | (show _ ≤ _; omega)
      · show wpAny _ _ (ret Value.none) _ _ _
        exact wpAny_pure ⟨rfl, h', tk, rfl, hR, kp⟩
    · match r2, hr2 with
      | .error e, hr2 => exact hr2
      | .ok (.ret u), hr2 =>
        obtain ⟨rfl, h', tk, rfl, hR, kp⟩ := hr2
        repeat any_goals (first | wp_step | assumption)
        exact k _ _ hR kp
      | .ok .next, hr2 => exact hr2.elim
      | .ok .brk, hr2 => exact hr2.elim
      | .ok .cont, hr2 => exact hr2.elim
  | .ok .next, hr => exact hr.elim
  | .ok .brk, hr => exact hr.elim
  | .ok .cont, hr => exact hr.elim
end
end K1
set_option linter.all false
set_option maxRecDepth 100000
set_option maxHeartbeats 3200000
namespace K1
open PySem PySem.Spec PyProof.Rows L2
section
variable {P : Program} {w : World} {A : Around} {E : Value → Shared → Prop} {s : Shared}
/-- what the set is said to be holds while what is older, and it, stands -/
def Firm (N : Nat) (S : Nat → Heap → Prop) : Prop := ∀ i h h', S i h → (∀ b o, b < N → h.get? b = some o → h'.get? b = some o) → S i h'
/-- adding the items one by one -/
def Adds (P : Program) (w : World) (u : Nat) (T : Addr) (n : Nat) (Pv : Nat → Value → Prop) (S : Nat → Heap → Prop) : Prop :=
  ∀ (A : Around) (s : Shared) (i : Nat) (v : Value) (Q : Bool → Shared → Prop) (E : Value → Shared → Prop), A.units ≤ u → i < n → Pv i v → S i s.heap → (∀ b h' tk, s.toks ≤ tk → Heap.SameBut T s.heap h' → S (i + 1) h' → Q b { s with heap := h', toks := tk }) → wpAny (model P w) A (setAdd T v) Q E s
theorem up_list {l : Addr} {items : Array Value} {S : Nat → Heap → Prop} {Q : Unit → Shared → Prop} (hh : A.handled = none) (hl : s.heap.IsList l items) (h0 : S 0 (s.heap.push (setW w))) (fr : Firm (s.heap.objs.size + 1) S)
    (ad : Adds P w (A.units + 2) s.heap.objs.size items.size (fun i v => items[i]? = some v) S)
    (k : ∀ h' tk, S items.size h' → (∀ b o, b < s.heap.objs.size → s.heap.get? b = some o → h'.get? b = some o) → Q () { s with heap := h', toks := tk }) :
    wpAny (model P w) A (Builtin.Frozenset.updateFrom "set.__init__" s.heap.objs.size (.ref l)) Q E { s with heap := s.heap.push (setW w) } := by
  obtain ⟨ol, at_l, cl, nl, dl⟩ := hl
  obtain ⟨ocls, od, odat, osl⟩ := ol
  dsimp only at cl dl
  subst cl dl
  have lz : l < s.heap.objs.size := Heap.lt_size at_l
  have up : (s.heap.push (setW w)).get? l = some ⟨.type "list", od, .seq items nl, osl⟩ := Heap.get?_push_of_some _ at_l
  have b1 := PySem.F.sub_list_set
  have b2 := PySem.F.sub_list_frozenset
  have b3 : (Value.type "list" == Value.type "dict") = false := by decide
  have il : (s.heap.push (setW w)).IsList l items := ⟨_, up, rfl, nl, rfl⟩
  unfold Builtin.Frozenset.updateFrom
  generalize hPI : pyIter = PI
  wp_walk
  subst hPI
  refine wpAny_pyIter_list il (wpAny_bind (wpAny_runValue ?_))
  have hz : (s.heap.push (setW w)).objs.size = s.heap.objs.size + 1 := Heap.size_push ..
  have ni : l ≠ (s.heap.push (setW w)).objs.size := Nat.ne_of_lt (by rw [hz]; exact Nat.lt_succ_of_lt lz)
  have nT : s.heap.objs.size ∉ [(s.heap.push (setW w)).objs.size, l] := by
    simp only [List.mem_cons, List.not_mem_nil, or_false]
    rintro (e | e)
    · exact Nat.ne_of_lt (by rw [hz]; exact Nat.lt_succ_self _) e
    · exact Nat.ne_of_gt lz e
  have frr : ∀ i h h', S i h → (∀ b o, b ∉ [(s.heap.push (setW w)).objs.size] → h.get? b = some o → h'.get? b = some o) → S i h' := fun i h h' a b => fr i h h' a fun c o hc e => b c o (by rw [hz, List.mem_singleton]; omega) e
  refine fill_gen (S := S) ((Walks.list (show A.in1.handled = none by simp [hh]) _ l ni items).toS) nT frr (fun s i v Q E hi pv hS kk => ad _ s i v Q E (by show A.units + 1 ≤ A.units + 2; omega) hi pv hS kk) items.size 0 _ (by omega) ?_ ?_ fun s' mv hS => ?_
  · exact ⟨⟨_, Heap.get?_push_size _ rfl, rfl, rfl⟩, il.push _⟩
  · exact fr _ _ _ h0 fun b o _ e => Heap.get?_push_of_some _ e
  obtain ⟨h', g', d', tk, os⟩ := s'
  obtain rfl : g' = s.gens := mv.gens
  obtain rfl : d' = s.drawn := mv.drawn
  obtain rfl : os = s.os := mv.os
  show wpAny _ _ _ _ _ _
  refine wpAny_pure (k h' tk hS fun b o hb e => mv.heap b o ?_ (Heap.get?_push_of_some _ (Heap.get?_push_of_some _ e)))
  simp only [List.mem_cons, List.not_mem_nil, or_false]
  rintro (e | e)
  · exact Nat.ne_of_lt hb e
  · exact Nat.ne_of_lt (by rw [hz]; exact Nat.lt_succ_of_lt hb) e
theorem up_tup {l : Addr} {items : Array Value} {S : Nat → Heap → Prop} {Q : Unit → Shared → Prop} (hh : A.handled = none) (hl : s.heap.IsTuple l items) (h0 : S 0 (s.heap.push (setW w))) (fr : Firm (s.heap.objs.size + 1) S)
    (ad : Adds P w (A.units + 2) s.heap.objs.size items.size (fun i v => items[i]? = some v) S)
    (k : ∀ h' tk, S items.size h' → (∀ b o, b < s.heap.objs.size → s.heap.get? b = some o → h'.get? b = some o) → Q () { s with heap := h', toks := tk }) :
    wpAny (model P w) A (Builtin.Frozenset.updateFrom "set.__init__" s.heap.objs.size (.ref l)) Q E { s with heap := s.heap.push (setW w) } := by
  obtain ⟨ol, at_l, cl, nl, dl⟩ := hl
  obtain ⟨ocls, od, odat, osl⟩ := ol
  dsimp only at cl dl
  subst cl dl
  have lz : l < s.heap.objs.size := Heap.lt_size at_l
  have up : (s.heap.push (setW w)).get? l = some ⟨.type "tuple", od, .seq items nl, osl⟩ := Heap.get?_push_of_some _ at_l
  have b1 := PySem.F.sub_tuple_set
  have b2 := PySem.F.sub_tuple_frozenset
  have b3 : (Value.type "tuple" == Value.type "dict") = false := by decide
  have il : (s.heap.push (setW w)).IsTuple l items := ⟨_, up, rfl, nl, rfl⟩
  unfold Builtin.Frozenset.updateFrom
  generalize hPI : pyIter = PI
  wp_walk
  subst hPI
  refine wpAny_pyIter_tuple il (wpAny_bind (wpAny_runValue ?_))
  have hz : (s.heap.push (setW w)).objs.size = s.heap.objs.size + 1 := Heap.size_push ..
  have ni : l ≠ (s.heap.push (setW w)).objs.size := Nat.ne_of_lt (by rw [hz]; exact Nat.lt_succ_of_lt lz)
  have nT : s.heap.objs.size ∉ [(s.heap.push (setW w)).objs.size, l] := by
    simp only [List.mem_cons, List.not_mem_nil, or_false]
    rintro (e | e)
    · exact Nat.ne_of_lt (by rw [hz]; exact Nat.lt_succ_self _) e
    · exact Nat.ne_of_gt lz e
  have frr : ∀ i h h', S i h → (∀ b o, b ∉ [(s.heap.push (setW w)).objs.size] → h.get? b = some o → h'.get? b = some o) → S i h' := fun i h h' a b => fr i h h' a fun c o hc e => b c o (by rw [hz, List.mem_singleton]; omega) e
  refine fill_gen (S := S) ((Walks.tuple (show A.in1.handled = none by simp [hh]) _ l ni items).toS) nT frr (fun s i v Q E hi pv hS kk => ad _ s i v Q E (by show A.units + 1 ≤ A.units + 2; omega) hi pv hS kk) items.size 0 _ (by omega) ?_ ?_ fun s' mv hS => ?_
  · exact ⟨⟨_, Heap.get?_push_size _ rfl, rfl, rfl⟩, il.push _⟩
  · exact fr _ _ _ h0 fun b o _ e => Heap.get?_push_of_some _ e
  obtain ⟨h', g', d', tk, os⟩ := s'
  obtain rfl : g' = s.gens := mv.gens
  obtain rfl : d' = s.drawn := mv.drawn
  obtain rfl : os = s.os := mv.os
  show wpAny _ _ _ _ _ _
  refine wpAny_pure (k h' tk hS fun b o hb e => mv.heap b o ?_ (Heap.get?_push_of_some _ (Heap.get?_push_of_some _ e)))
  simp only [List.mem_cons, List.not_mem_nil, or_false]
  rintro (e | e)
  · exact Nat.ne_of_lt hb e
  · exact Nat.ne_of_lt (by rw [hz]; exact Nat.lt_succ_of_lt hb) e
/-- set(xs), a list or a tuple -/
theorem set_of {l : Addr} {items : Array Value} {S : Nat → Heap → Prop} {Q : Value → Shared → Prop} (hh : A.handled = none) (hl : s.heap.IsList l items ∨ s.heap.IsTuple l items) (h0 : S 0 (s.heap.push (setW w))) (fr : Firm (s.heap.objs.size + 1) S)
    (ad : Adds P w (A.units + 4) s.heap.objs.size items.size (fun i v => items[i]? = some v) S)
    (k : ∀ h' tk, S items.size h' → (∀ b o, b < s.heap.objs.size → s.heap.get? b = some o → h'.get? b = some o) → Q (.ref s.heap.objs.size) { s with heap := h', toks := tk }) :
    wpAny (model P w) A (call (.type "set") [.ref l]) Q E s := by
  refine call_setG (R := S items.size) (fun A' Q' E' ha hu kk => ?_) k
  have ad' : Adds P w (A'.units + 2) s.heap.objs.size items.size (fun i v => items[i]? = some v) S := fun B s i v Q E hb => ad B s i v Q E (by omega)
  rcases hl with hl | hl
  · exact up_list (ha.trans hh) hl h0 fr ad' kk
  · exact up_tup (ha.trans hh) hl h0 fr ad' kk
end
end K1
set_option linter.all false
set_option maxRecDepth 100000
namespace K1
open PySem
/-! ### strict total orders, and what is ascending by them -/
structure Tot {α : Type} (lt : α → α → Bool) : Prop where
  irr : ∀ a, lt a a = false
  tr : ∀ a b c, lt a b = true → lt b c = true → lt a c = true
  tot : ∀ a b, lt a b = false → lt b a = false → a = b
section
variable {α : Type} {lt : α → α → Bool}
theorem Tot.asym (T : Tot lt) {a b : α} (h : lt a b = true) : lt b a = false := by
  cases e : lt b a with
  | false => rfl
  | true =>
    have z := T.tr a b a h e
    rw [T.irr] at z
    cases z
/-- at most -/
theorem Tot.le_lt (T : Tot lt) {a b c : α} (h : lt b a = false) (k : lt b c = true) : lt a c = true := by
  cases e : lt a b with
  | true => exact T.tr a b c e k
  | false =>
    have z := T.tot a b e h
    rw [z]
    exact k
theorem Tot.le_le (T : Tot lt) {a b c : α} (h : lt b a = false) (k : lt c b = false) : lt c a = false := by
  cases e : lt c a with
  | false => rfl
  | true =>
    have z := T.le_lt k e
    rw [h] at z
    cases z
/-- by the number of those below -/
def rank (lt : α → α → Bool) (L : List α) (x : α) : Nat := (L.filter fun y => lt y x).length
theorem filter_le {p q : α → Bool} : ∀ (L : List α), (∀ x ∈ L, p x = true → q x = true) → (L.filter p).length ≤ (L.filter q).length
  | [], _ => Nat.le_refl _
  | a :: r, h => by
    have ih := filter_le r fun x m => h x (.tail _ m)
    have ha := h a (.head _)
    rw [List.filter_cons, List.filter_cons]
    cases e : p a with
    | false =>
      cases q a with
      | false => simpa using ih
      | true => simp only [Bool.false_eq_true, if_false, if_true, List.length_cons]; omega
    | true =>
      rw [ha e]
      simp only [if_true, List.length_cons]
      omega
theorem filter_lt {p q : α → Bool} : ∀ (L : List α), (∀ x ∈ L, p x = true → q x = true) → (∃ x ∈ L, p x = false ∧ q x = true) → (L.filter p).length < (L.filter q).length
  | [], _, h => by
    obtain ⟨x, m, _⟩ := h
    cases m
  | a :: r, h, k => by
    have le := filter_le r fun x m => h x (.tail _ m)
    have ha := h a (.head _)
    rw [List.filter_cons, List.filter_cons]
    obtain ⟨x, m, h1, h2⟩ := k
    cases m with
    | head =>
      rw [h1, h2]
      simp only [Bool.false_eq_true, if_false, if_true, List.length_cons]
      omega
    | tail _ m =>
      have ih := filter_lt r (fun x m => h x (.tail _ m)) ⟨x, m, h1, h2⟩
      cases e : p a with
      | false =>
        cases q a with
        | false => simpa using ih
        | true => simp only [Bool.false_eq_true, if_false, if_true, List.length_cons]; omega
      | true =>
        rw [ha e]
        simp only [if_true, List.length_cons]
        omega
theorem rank_lt (T : Tot lt) {L : List α} {x : α} (m : x ∈ L) (y : α) : lt x y = decide (rank lt L x < rank lt L y) := by
  cases e : lt x y with
  | true => exact (decide_eq_true (filter_lt L (fun z _ h => T.tr z x y h e) ⟨x, m, T.irr x, e⟩)).symm
  | false =>
    refine (decide_eq_false ?_).symm
    have z := filter_le (p := fun z => lt z y) (q := fun z => lt z x) L fun z _ h => by
      cases c : lt z x with
      | true => rfl
      | false =>
        have w := T.le_le e c
        rw [h] at w
        cases w
    unfold rank
    omega
/-! ### ascending lists -/
def Asc1 (lt : α → α → Bool) (L : List α) : Prop := L.Pairwise fun a b => lt a b = true
theorem asc_same (T : Tot lt) : ∀ {L M : List α}, Asc1 lt L → Asc1 lt M → (∀ x, x ∈ L ↔ x ∈ M) → L = M
  | [], [], _, _, _ => rfl
  | [], b :: M, _, _, h => absurd ((h b).mpr (.head _)) (by simp)
  | a :: L, [], _, _, h => absurd ((h a).mp (.head _)) (by simp)
  | a :: L, b :: M, hL, hM, h => by
    obtain ⟨l1, l2⟩ := List.pairwise_cons.mp hL
    obtain ⟨m1, m2⟩ := List.pairwise_cons.mp hM
    have e : a = b := by
      rcases List.mem_cons.mp ((h a).mp (.head _)) with z | z
      · exact z
      · rcases List.mem_cons.mp ((h b).mpr (.head _)) with w | w
        · exact w.symm
        · have u := T.asym (m1 a z)
          rw [l1 b w] at u
          cases u
    subst e
    rw [asc_same T l2 m2 fun x => ?_]
    have z := h x
    constructor
    · intro m
      rcases List.mem_cons.mp (z.mp (.tail _ m)) with w | w
      · subst w
        have u := l1 x m
        rw [T.irr] at u
        cases u
      · exact w
    · intro m
      rcases List.mem_cons.mp (z.mpr (.tail _ m)) with w | w
      · subst w
        have u := m1 x m
        rw [T.irr] at u
        cases u
      · exact w
theorem asc_nodup (T : Tot lt) {L : List α} (h : Asc1 lt L) : L.Nodup := List.Pairwise.imp (fun {a b} q e => by
  subst e
  rw [T.irr] at q
  cases q) h
/-- put in its place, if it isn't there -/
def ins1 (lt : α → α → Bool) (x : α) : List α → List α
  | [] => [x]
  | y :: r => if lt x y = true then x :: y :: r else if lt y x = true then y :: ins1 lt x r else y :: r
def asc (lt : α → α → Bool) : List α → List α
  | [] => []
  | x :: r => ins1 lt x (asc lt r)
theorem mem_ins1 (T : Tot lt) {x z : α} : ∀ {L : List α}, z ∈ ins1 lt x L ↔ z = x ∨ z ∈ L
  | [] => by simp [ins1]
  | y :: r => by
    have ih := mem_ins1 T (x := x) (z := z) (L := r)
    unfold ins1
    split
    · simp
    · rename_i c
      split
      · rw [List.mem_cons, ih, List.mem_cons]
        constructor
        · rintro (h | h | h)
          · exact .inr (.inl h)
          · exact .inl h
          · exact .inr (.inr h)
        · rintro (h | h | h)
          · exact .inr (.inl h)
          · exact .inl h
          · exact .inr (.inr h)
      · rename_i d
        have e := T.tot x y (by simpa using c) (by simpa using d)
        subst e
        simp
theorem asc_ins1 (T : Tot lt) {x : α} : ∀ {L : List α}, Asc1 lt L → Asc1 lt (ins1 lt x L)
  | [], _ => List.pairwise_singleton _ _
  | y :: r, h => by
    obtain ⟨h1, h2⟩ := List.pairwise_cons.mp h
    unfold ins1
    split
    · rename_i c
      refine List.pairwise_cons.mpr ⟨fun z m => ?_, h⟩
      rcases List.mem_cons.mp m with e | e
      · rw [e]; exact c
      · exact T.tr x y z c (h1 z e)
    · split
      · rename_i d
        refine List.pairwise_cons.mpr ⟨fun z m => ?_, asc_ins1 T h2⟩
        rcases (mem_ins1 T).mp m with e | e
        · rw [e]; exact d
        · exact h1 z e
      · exact h
theorem asc_asc (T : Tot lt) : ∀ L : List α, Asc1 lt (asc lt L)
  | [] => .nil
  | _ :: r => asc_ins1 T (asc_asc T r)
theorem mem_asc (T : Tot lt) {z : α} : ∀ {L : List α}, z ∈ asc lt L ↔ z ∈ L
  | [] => Iff.rfl
  | x :: r => by
    show z ∈ ins1 lt x (asc lt r) ↔ _
    rw [mem_ins1 T, mem_asc T, List.mem_cons]
theorem asc_of (T : Tot lt) {L M : List α} (h : Asc1 lt M) (m : ∀ x, x ∈ M ↔ x ∈ L) : M = asc lt L := asc_same T h (asc_asc T L) fun x => (m x).trans (mem_asc T).symm
theorem asc_id (T : Tot lt) {L : List α} (h : Asc1 lt L) : asc lt L = L := (asc_of T h fun _ => Iff.rfl).symm
theorem asc_mem (T : Tot lt) {L M : List α} (h : ∀ x, x ∈ L ↔ x ∈ M) : asc lt L = asc lt M := asc_of T (asc_asc T L) fun x => (mem_asc T).trans (h x)
theorem asc_perm (T : Tot lt) {L : List α} (nd : L.Nodup) : (asc lt L).Perm L := (List.perm_ext_iff_of_nodup (asc_nodup T (asc_asc T L)) nd).mpr fun _ => mem_asc T
theorem asc_len (T : Tot lt) {L : List α} (nd : L.Nodup) : (asc lt L).length = L.length := (asc_perm T nd).length_eq
end
/-! ### texts -/
def ltS (x y : Str) : Bool := decide (x.cps.toList < y.cps.toList)
theorem cps_inj {x y : Str} (h : x.cps.toList = y.cps.toList) : x = y := by
  obtain ⟨⟨x⟩⟩ := x
  obtain ⟨⟨y⟩⟩ := y
  exact congrArg (fun z : List Nat => Str.mk ⟨z⟩) h
theorem tot_ltS : Tot ltS where
  irr a := decide_eq_false (List.lt_irrefl _)
  tr a b c h k := decide_eq_true (List.lt_trans (of_decide_eq_true h) (of_decide_eq_true k))
  tot a b h k := cps_inj (List.le_antisymm (List.not_lt.mp (of_decide_eq_false k)) (List.not_lt.mp (of_decide_eq_false h)))
/-! ### lists by the order of their items -/
section
variable {α : Type} [DecidableEq α] {lt : α → α → Bool}
def lexL (lt : α → α → Bool) : List α → List α → Bool
  | [], [] => false
  | [], _ :: _ => true
  | _ :: _, [] => false
  | x :: r, y :: q => if x = y then lexL lt r q else lt x y
theorem lexL_cons {x y : α} {r q : List α} : lexL lt (x :: r) (y :: q) = if x = y then lexL lt r q else lt x y := rfl
theorem tot_lex (T : Tot lt) : Tot (lexL lt) where
  irr a := by
    induction a with
    | nil => rfl
    | cons x r ih => rw [lexL_cons, if_pos rfl]; exact ih
  tr a b c h k := by
    induction a generalizing b c with
    | nil =>
      cases b with
      | nil => exact k
      | cons y q =>
        cases c with
        | nil => cases k
        | cons z s => rfl
    | cons x r ih =>
      cases b with
      | nil => cases h
      | cons y q =>
        cases c with
        | nil => cases k
        | cons z s =>
          rw [lexL_cons] at h k ⊢
          by_cases e : x = y
          · subst e
            rw [if_pos rfl] at h
            by_cases e' : x = z
            · rw [if_pos e'] at k ⊢
              exact ih _ _ h k
            · rw [if_neg e'] at k ⊢
              exact k
          · rw [if_neg e] at h
            by_cases e' : y = z
            · subst e'
              rw [if_neg e]
              exact h
            · rw [if_neg e'] at k
              have t := T.tr x y z h k
              by_cases e2 : x = z
              · subst e2
                rw [T.irr] at t
                cases t
              · rw [if_neg e2]
                exact t
  tot a b h k := by
    induction a generalizing b with
    | nil =>
      cases b with
      | nil => rfl
      | cons y q => cases h
    | cons x r ih =>
      cases b with
      | nil => cases k
      | cons y q =>
        rw [lexL_cons] at h k
        by_cases e : x = y
        · subst e
          rw [if_pos rfl] at h k
          rw [ih _ h k]
        · rw [if_neg e] at h
          rw [if_neg (fun z => e z.symm)] at k
          exact absurd (T.tot x y h k) e
end
end K1
set_option linter.all false
set_option maxRecDepth 100000
set_option maxHeartbeats 3200000
/-! sets of ints and texts, to the model's exactness: made of a list, a tuple or a dict; their len; sorted -/
namespace K1
open PySem PySem.Spec PyProof.Rows L2
def kOf : Value → Key
  | .int i _ => .inl i
  | .str x _ => .inr x
  | _ => .inl 0
theorem kOf_rel {k : Key} {v : Value} (r : RelV (kV k) v) : kOf v = k := by
  cases k with
  | inl i =>
    obtain ⟨t, rfl⟩ := r
    rfl
  | inr x =>
    obtain ⟨t, rfl⟩ := r
    rfl
theorem kOf_is {k : Key} {v : Value} (h : keyIs k v = true) : kOf v = k ∧ v.scannable = true := by
  rcases keyIs_shape h with ⟨i, t, rfl, rfl⟩ | ⟨x, t, rfl, rfl⟩ <;> exact ⟨rfl, rfl⟩
def FineE (w : World) (e : Int × Value) : Prop := keyIs (kOf e.2) e.2 = true ∧ e.1 = keyH w (kOf e.2)
/-- the set at a has just these keys, each once -/
structure SX0 (w : World) (h : Heap) (a : Addr) (ks : List Key) (es : Array (Int × Value)) (ep : Nat) (t : SetTable) : Prop where
  at_ : ∃ o, o.ExactSet ∧ h.get? a = some o ∧ o.data = .set es ep t
  fine : ∀ e ∈ es.toList, FineE w e
  perm : (es.toList.map fun e => kOf e.2).Perm ks
  one : ks.Nodup
  few : ks.length < 4000
  fit : t.fits es.size = true
  ris : Ris t.place.toList
  led : w.params.followText "set-order" = true ∨ t.led = true
def SX (w : World) (h : Heap) (a : Addr) (ks : List Key) : Prop := ∃ es ep t, SX0 w h a ks es ep t
theorem at_set {h : Heap} {a : Addr} {o : Obj} {es : Array (Int × Value)} {ep : Nat} {t : SetTable} (ex : o.ExactSet) (e : h.get? a = some { o with data := .set es ep t }) : ∃ o', o'.ExactSet ∧ h.get? a = some o' ∧ o'.data = .set es ep t :=
  ⟨{ o with data := .set es ep t }, ⟨ex.1, ex.2.1, ex.2.2⟩, e, rfl⟩
section
variable {P : Program} {w : World} {A : Around} {E : Value → Shared → Prop} {s : Shared} {a : Addr} {ks : List Key} {es : Array (Int × Value)} {ep : Nat} {t : SetTable}
theorem SX.at {h h' : Heap} (x : SX w h a ks) (k : ∀ o, h.get? a = some o → h'.get? a = some o) : SX w h' a ks := by
  obtain ⟨es, ep, t, x⟩ := x
  obtain ⟨o, x1, x2, x3⟩ := x.at_
  exact ⟨es, ep, t, ⟨⟨o, x1, k o x2, x3⟩, x.fine, x.perm, x.one, x.few, x.fit, x.ris, x.led⟩⟩
theorem SX0.size (x : SX0 w s.heap a ks es ep t) : es.size = ks.length := by
  have z := x.perm.length_eq
  rw [List.length_map, Array.length_toList] at z
  exact z
theorem SX0.elems (x : SX0 w s.heap a ks es ep t) : ElemsOf (mixKind P w) es.toList := fun e he => ⟨⟨kOf e.2, (x.fine e he).1, (x.fine e he).2⟩, (kOf_is (x.fine e he).1).2⟩
theorem SX0.bound (x : SX0 w s.heap a ks es ep t) : es.size < scanBound := by
  rw [x.size]
  have := x.few
  unfold scanBound
  omega
open Classical in
theorem SX0.setOf (x : SX0 w s.heap a ks es ep t) : s.heap.SetOf (mixKind P w) a (fun k => decide (k ∈ ks)) ks.length := by
  obtain ⟨o, x1, x2, x3⟩ := x.at_
  refine ⟨o, es, ep, t, x2, x1, x3, x.elems, fun k => ?_, x.bound, x.fit, x.size⟩
  rw [decide_eq_true_eq, ← x.perm.mem_iff, List.mem_map]
  constructor
  · rintro ⟨e, he, rfl⟩
    exact ⟨e, he, (x.fine e he).1⟩
  · rintro ⟨e, he, hk⟩
    exact ⟨e, he, (kOf_is hk).1⟩
open Classical in
noncomputable def addK (k : Key) (ks : List Key) : List Key := if k ∈ ks then ks else k :: ks
theorem mem_addK {k j : Key} {ks : List Key} : j ∈ addK k ks ↔ j = k ∨ j ∈ ks := by
  unfold addK
  split
  · rename_i c
    exact ⟨.inr, fun h => h.elim (fun e => e ▸ c) id⟩
  · exact List.mem_cons
theorem len_addK (k : Key) (ks : List Key) : (addK k ks).length ≤ ks.length + 1 := by
  unfold addK
  split
  · omega
  · exact Nat.le_refl _
theorem tail_x {g : Bool → Sem Unit} (hg : ∀ (b : Bool) (s' : Shared) (Q' : Unit → Shared → Prop), Q' () s' → wpAny (model P w) A (g b) Q' E s') {o : Obj} (ex : o.ExactSet) (at_ : s.heap.get? a = some o) (dt : o.data = .set es ep t)
    {es1 : Array (Int × Value)} {t2 : SetTable} {k1 : List Key} (fine : ∀ e ∈ es1.toList, FineE w e) (pm : (es1.toList.map fun e => kOf e.2).Perm k1) (nd : k1.Nodup) (few : k1.length < 4000) (fit : t2.fits es1.size = true) (ris : Ris t2.place.toList)
    (led : w.params.followText "set-order" = true ∨ t2.led = true) {wd : Bool} {R : Option Bool → Shared → Prop} (q : ∀ h', Heap.SameBut a s.heap h' → SX w h' a k1 → R (some true) { s with heap := h' }) :
    wpAny (model P w) A (do
        storeSet a es1 t2
        if (!wd && t2.tooFull) = true then do
            g (relayAll t2 es1 (SetTable.grown es1.size)).2.2
            storeSet a (relayAll t2 es1 (SetTable.grown es1.size)).1 (relayAll t2 es1 (SetTable.grown es1.size)).2.1
            pure (some true)
          else pure (some true)) R E s := by
  have sz : es1.size < scanBound := by
    have z := pm.length_eq
    rw [List.length_map, Array.length_toList] at z
    rw [z]
    unfold scanBound
    omega
  refine wpAny_bind (wpAny_storeSet_of at_ dt ?_ (fits_of_scanBound sz))
  have at1 := store_at (es' := es1) (t' := t2) at_ dt
  have sb1 := Heap.SameBut.update s.heap a (Obj.putSet es1 t2)
  have ex1 : Obj.ExactSet { o with data := .set es1 (ep + 1) t2 } := ⟨ex.1, ex.2.1, ex.2.2⟩
  split
  · have p2 := relayAll_perm t2 es1 (SetTable.grown es1.size)
    have f2 := relayAll_fits t2 es1 (SetTable.grown es1.size)
    have r2 := relayAll_ris t2 es1 (SetTable.grown es1.size)
    have l2 := relayAll_led t2 es1 (SetTable.grown es1.size)
    generalize relayAll t2 es1 (SetTable.grown es1.size) = Z at p2 f2 r2 l2 ⊢
    obtain ⟨es2, t3, gv⟩ := Z
    dsimp only at p2 f2 r2 l2 ⊢
    have s2 : es2.size = es1.size := by rw [← Array.length_toList, p2.length_eq, Array.length_toList]
    refine wpAny_bind (hg _ _ _ (wpAny_bind (wpAny_storeSet_of at1 rfl ?_ (fits_of_scanBound (by rw [s2]; exact sz)))))
    have at2 := store_at (es' := es2) (t' := t3) at1 rfl
    refine wpAny_pure (q _ (sb1.trans (Heap.SameBut.update _ a _)) ⟨es2, _, t3, ⟨at_set (o := o) ex at2, fun e he => fine e (p2.mem_iff.mp he), (p2.map _).trans pm, nd, few, f2, r2, ?_⟩⟩)
    rw [l2]
    exact led
  · exact wpAny_pure (q _ sb1 ⟨es1, _, t2, ⟨at_set ex at1, fine, pm, nd, few, fit, ris, led⟩⟩)
theorem add_x {k : Key} {v : Value} {Q : Bool → Shared → Prop} (x : SX w s.heap a ks) (rv : RelV (kV k) v) (room : ks.length + 1 < 4000)
    (q : ∀ b h', Heap.SameBut a s.heap h' → SX w h' a (addK k ks) → Q b { s with heap := h' }) : wpAny (model P w) A (setAddHashed a v (keyH w k)) Q E s := by
  obtain ⟨es, ep, t, x⟩ := x
  obtain ⟨o, ex, at_, dt⟩ := x.at_
  have is_ : (mixKind P w).is k v = true := kV_is rv
  have sc : v.scannable = true := key_scan rv
  have kv := kOf_rel rv
  unfold setAddHashed setAddHashedIn
  refine wpAny_holding (wpAny_bind (m := setState a) (wpAny_setState_of at_ dt x.fit ?_))
  dsimp only
  rw [byScan_of (knd := mixKind P w) sc x.bound x.elems]
  simp only [↓reduceIte]
  unfold setAddByScan
  refine wpAny_bind (wpAny_bind (wpAny_rule (wpAny_bind (wpAny_setScan_of (knd := mixKind P w) is_ at_ dt x.fit x.elems ?_))))
  cases fi : List.findIdx? (fun e => (mixKind P w).is k e.2) es.toList with
  | some j =>
    dsimp only
    obtain ⟨hj, pj, _⟩ := List.findIdx?_eq_some_iff_getElem.mp fi
    have m : k ∈ ks := x.perm.mem_iff.mp (List.mem_map.mpr ⟨es.toList[j], List.getElem_mem hj, (kOf_is pj).1⟩)
    have z := q false s.heap (Heap.SameBut.refl a _)
    rw [addK, if_pos m] at z
    exact wpAny_pure (wpAny_pure (z ⟨es, ep, t, x⟩))
  | none =>
    dsimp only
    have m : k ∉ ks := fun m => by
      obtain ⟨e, he, ek⟩ := List.mem_map.mp (x.perm.mem_iff.mpr m)
      have c := List.findIdx?_eq_none_iff.mp fi e he
      have f := (x.fine e he).1
      rw [ek] at f
      exact absurd (f.symm.trans c) (by decide)
    have z := fun h' => q true h'
    rw [addK, if_neg m] at z
    have gw : ∀ (b : Bool) {s' : Shared} {Q' : Unit → Shared → Prop}, Q' () s' → wpAny (model P w) A (match b with | true => rule "set.scan.the-table-gave-way" | false => pure ()) Q' E s' := fun b _ _ h => by
      cases b
      · exact wpAny_pure h
      · exact wpAny_rule h
    have pm := layNew_perm t es ((mixKind P w).hash k) v
    have f1 := layNew_fits t es ((mixKind P w).hash k) v
    have r1 := layNew_ris t es ((mixKind P w).hash k) v x.ris
    have l1 := layNew_led t es ((mixKind P w).hash k) v
    have eh : (mixKind P w).hash k = keyH w k := rfl
    rw [eh] at pm f1 r1 l1
    generalize layNew t es (keyH w k) v = Z at pm f1 r1 l1 ⊢
    obtain ⟨es1, t1, wd, gv⟩ := Z
    dsimp only at pm f1 r1 l1 ⊢
    rw [Array.toList_push] at pm
    have pc : es1.toList.Perm ((keyH w k, v) :: es.toList) := pm.trans (List.perm_append_singleton _ _)
    have pk : (es1.toList.map fun e => kOf e.2).Perm (k :: ks) := by
      have y := pc.map fun e : Int × Value => kOf e.2
      rw [List.map_cons] at y
      have y2 : (kOf v :: es.toList.map fun e => kOf e.2).Perm (k :: ks) := by rw [kv]; exact x.perm.cons k
      exact y.trans y2
    have fine1 : ∀ e ∈ es1.toList, FineE w e := fun e he => by
      rcases List.mem_cons.mp (pc.mem_iff.mp he) with y | y
      · subst y
        exact ⟨by rw [kv]; exact is_, by rw [kv]⟩
      · exact x.fine e y
    have nd1 : (k :: ks).Nodup := List.nodup_cons.mpr ⟨m, x.one⟩
    have led1 : w.params.followText "set-order" = true ∨ t1.led = true := by rw [l1]; exact x.led
    refine wpAny_bind (gw _ ?_)
    split
    · refine wpAny_bind ?_
      rw [hashByValue_scannable 8 sc]
      refine wpAny_pure (tail_x ?_ ex at_ dt fine1 pk nd1 room ?_ ?_ ?_ fun h' sb y => wpAny_pure (z h' sb y))
      · intro b _ _ h
        cases b
        · exact wpAny_pure h
        · exact wpAny_rule h
      · split
        · exact f1
        · exact SetTable.fits_plain_off f1
      · split <;> exact r1
      · split <;> exact led1
    · refine wpAny_bind (wpAny_pure ?_)
      simp only [↓reduceIte]
      refine tail_x ?_ ex at_ dt fine1 pk nd1 room f1 r1 led1 fun h' sb y => wpAny_pure (z h' sb y)
      intro b _ _ h
      cases b
      · exact wpAny_pure h
      · exact wpAny_rule h
theorem new_x {h : Heap} (at_ : h.get? a = some (setW w)) : SX w h a [] := by
  refine ⟨#[], 0, .fresh 0 0 (!w.params.followText "set-order"), ?_⟩
  refine ⟨⟨_, ⟨rfl, rfl, rfl⟩, at_, rfl⟩, (fun e he => nomatch he), List.Perm.refl _, List.nodup_nil, (by decide), (by rfl), List.Pairwise.nil, ?_⟩
  show _ ∨ (!w.params.followText "set-order") = true
  cases w.params.followText "set-order"
  · exact .inr rfl
  · exact .inl rfl
/-- what is in the set when the first i of the keys are in -/
def InX (w : World) (T : Addr) (all : List Key) (i : Nat) (h : Heap) : Prop := ∃ D, SX w h T D ∧ D.length ≤ i ∧ ∀ k, k ∈ D ↔ k ∈ all.take i
theorem firm_x {T : Addr} {all : List Key} : Firm (T + 1) (InX w T all) := fun i h h' ⟨D, x, r⟩ k => ⟨D, x.at fun o e => k T o (Nat.lt_succ_self _) e, r⟩
theorem InX.next {T : Addr} {all : List Key} {i : Nat} {k : Key} {h' : Heap} {D : List Key} (hk : all[i]? = some k) (x : SX w h' T (addK k D)) (l : D.length ≤ i) (m : ∀ j, j ∈ D ↔ j ∈ all.take i) : InX w T all (i + 1) h' := by
  refine ⟨_, x, Nat.le_trans (len_addK k D) (Nat.succ_le_succ l), fun j => ?_⟩
  rw [mem_addK, m j, List.take_add_one, hk, List.mem_append]
  simp only [Option.toList_some, List.mem_singleton]
  exact Or.comm
theorem adds_x {u : Nat} {T : Addr} {items : Array Value} {all : List Key} (rel : Vals (all.map kV) items.toList) (few : all.length < 3999) : Adds P w u T items.size (fun i v => items[i]? = some v) (InX w T all) := by
  intro A s i v Q E _ hi pv ⟨D, x, l, m⟩ q
  have q1 : items.toList[i]? = some v := by rw [Array.getElem?_toList]; exact pv
  have sz : all.length = items.size := by
    have z : (all.map kV).length = items.toList.length := rel.length
    rw [List.length_map] at z
    rw [z]
    exact Array.length_toList
  have li : i < all.length := by omega
  have hk : all[i]? = some all[i] := List.getElem?_eq_getElem li
  obtain ⟨u, q2, r⟩ := rel.get (i := i) (x := kV all[i]) (by rw [List.getElem?_map, hk]; rfl)
  rw [q1] at q2
  cases q2
  unfold setAdd
  refine wpAny_holding (wpAny_bind ((mixKind P w).pyHash (k := all[i]) (kV_is r) ?_))
  exact add_x (s := { s with toks := s.toks + 1 }) x r (by omega) fun b h' sb y => q b h' (s.toks + 1) (Nat.le_succ _) sb (InX.next hk y l m)
theorem call_set_x {l : Addr} {items : Array Value} {all : List Key} {Q : Value → Shared → Prop} (hh : A.handled = none) (hl : s.heap.IsList l items ∨ s.heap.IsTuple l items) (rel : Vals (all.map kV) items.toList) (few : all.length < 3999)
    (k : ∀ h' tk D, SX w h' s.heap.objs.size D → (∀ j, j ∈ D ↔ j ∈ all) → (∀ b o, s.heap.get? b = some o → h'.get? b = some o) → Q (.ref s.heap.objs.size) { s with heap := h', toks := tk }) :
    wpAny (model P w) A (call (.type "set") [.ref l]) Q E s := by
  have sz : all.length = items.size := by
    have z : (all.map kV).length = items.toList.length := rel.length
    rw [List.length_map] at z
    rw [z]
    exact Array.length_toList
  refine set_of (S := InX w s.heap.objs.size all) hh hl ⟨[], new_x (Heap.get?_push_size _ rfl), Nat.le_refl _, fun j => by simp⟩ firm_x (adds_x rel few) fun h' tk ⟨D, x, _, m⟩ kp => ?_
  rw [← sz, List.take_length] at m
  exact k h' tk D x m fun b o e => kp b o (Heap.lt_size e) e
end
end K1
set_option linter.all false
set_option maxRecDepth 100000
set_option maxHeartbeats 3200000
namespace K1
open PySem PySem.Spec PyProof.Rows L2
theorem rel_is {k : Key} {v : Value} (h : keyIs k v = true) : RelV (kV k) v := by
  rcases keyIs_shape h with ⟨i, t, rfl, rfl⟩ | ⟨x, t, rfl, rfl⟩
  · exact ⟨t, rfl⟩
  · exact ⟨t, rfl⟩
theorem live_none (m : Nat) : liveOf m (Array.replicate (m + 1) none) = [] := by
  unfold liveOf
  rw [List.filterMap_eq_nil_iff]
  intro j hj
  have z : (Array.replicate (m + 1) (none : Option Nat)).getD j none = none := by
    rw [Array.getD_eq_getD_getElem?, Array.getElem?_replicate]
    split <;> rfl
  rw [z]
  rfl
theorem above_all : ((List.range 61).all fun n => decide (SetTable.sizeAbove (n * 2) ≤ 128)) = true := by decide +kernel
theorem above_le {n : Nat} (h : n ≤ 60) : SetTable.sizeAbove (n * 2) ≤ 128 := of_decide_eq_true (List.all_eq_true.mp above_all n (List.mem_range.mpr (by omega)))
section
variable {P : Program} {w : World} {A : Around} {E : Value → Shared → Prop} {s : Shared} {a : Addr}
theorem room_x {n : Nat} {es : Array (Int × Value)} {ep : Nat} {t : SetTable} {Q : Unit → Shared → Prop} (x : SX0 w s.heap a [] es ep t) (hn : n ≤ 60) (q : ∀ h', Heap.SameBut a s.heap h' → SX w h' a [] → Q () { s with heap := h' }) :
    wpAny (model P w) A (setRoomFor a n) Q E s := by
  obtain ⟨o, ex, at_, dt⟩ := x.at_
  have sz := x.size
  have z : es = #[] := Array.eq_empty_of_size_eq_zero sz
  subst z
  have pl : t.place.size = 0 := by
    have f := x.fit
    unfold SetTable.fits at f
    rw [Bool.and_eq_true, beq_iff_eq] at f
    exact f.1
  unfold setRoomFor
  refine wpAny_bind (m := setState a) (wpAny_setState_of at_ dt x.fit ?_)
  dsimp only
  unfold SetTable.roomFor
  by_cases c : (t.fill + n) * 5 ≥ t.mask * 3
  · rw [if_pos c]
    dsimp only
    rw [pl, Nat.zero_add, setRelay_eq]
    refine wpAny_bind (m := setState a) (wpAny_setState_of at_ dt x.fit ?_)
    dsimp only
    have b := above_le hn
    rw [if_neg (by rw [sizeLine_eq]; omega)]
    try refine wpAny_bind (wpAny_pure ?_)
    rw [relaid_eq, layClean_eq]
    simp only [Array.map_empty, List.foldl_nil, Option.map_some, Option.bind_some, live_none, List.map_nil]
    refine wpAny_bind (wp_if_neg (by simp) ?_)
    try refine wpAny_bind (wpAny_pure ?_)
    refine wpAny_pure ?_
    dsimp only
    refine wpAny_storeSet_of at_ dt ?_ (by rw [sizeLine_eq]; simp)
    refine q _ (Heap.SameBut.update ..) ⟨_, _, _, ⟨at_set (o := o) ex (store_at at_ dt), (fun e he => by simp at he), (by simp), List.nodup_nil, (by decide), ?_, ?_, x.led⟩⟩
    · simp [SetTable.fits, SetTable.fill, tabOf, live_none]
    · simp [tabOf, live_none, Ris]
  · rw [if_neg c]
    exact wpAny_pure (q s.heap (Heap.SameBut.refl a _) ⟨_, ep, t, x⟩)
open AutoSeq1 (wpAny_loadPart') in
theorem up_dict {d : Addr} {kvs : List (Key × Value)} {Q : Unit → Shared → Prop} (hd : s.heap.DictOf (mixKind P w) d kvs) (nm : (d == sysModules) = false) (few : kvs.length ≤ 60)
    (k : ∀ h' tk D, SX w h' s.heap.objs.size D → (∀ j, j ∈ D ↔ j ∈ kvs.map (·.1)) → (∀ b o, b < s.heap.objs.size → s.heap.get? b = some o → h'.get? b = some o) → Q () { s with heap := h', toks := tk }) :
    wpAny (model P w) A (Builtin.Frozenset.updateFrom "set.__init__" s.heap.objs.size (.ref d)) Q E { s with heap := s.heap.push (setW w) } := by
  obtain ⟨⟨cl, od, dt, sl⟩, es, ep, at_, ⟨c1, c2, c3⟩, dd, ok, prs, nd⟩ := hd
  dsimp only at c1 c2 c3 dd
  subst c1 dd
  have lz : d < s.heap.objs.size := Heap.lt_size at_
  have b1 := PySem.F.sub_dict_set
  have b2 := PySem.F.sub_dict_frozenset
  have b3 : (Value.type "dict" == Value.type "dict") = true := by decide
  have sz : es.size = kvs.length := by rw [← Array.length_toList, prs.length]
  obtain ⟨h0, e0⟩ : ∃ h0, h0 = s.heap.push (setW w) := ⟨_, rfl⟩
  have up : h0.get? d = some ⟨.type "dict", od, .dict es ep, sl⟩ := by rw [e0]; exact Heap.get?_push_of_some _ at_
  have x0 : SX0 w h0 s.heap.objs.size [] #[] 0 (.fresh 0 0 (!w.params.followText "set-order")) := by
    rw [e0]
    refine ⟨⟨_, ⟨rfl, rfl, rfl⟩, Heap.get?_push_size _ rfl, rfl⟩, (fun e he => nomatch he), List.Perm.refl _, List.nodup_nil, (by decide), (by rfl), List.Pairwise.nil, ?_⟩
    show _ ∨ (!w.params.followText "set-order") = true
    cases w.params.followText "set-order"
    · exact .inr rfl
    · exact .inl rfl
  have old : ∀ b o, s.heap.get? b = some o → h0.get? b = some o := fun b o e => by rw [e0]; exact Heap.get?_push_of_some _ e
  rw [← e0]
  generalize hT : s.heap.objs.size = T at x0 k lz
  unfold Builtin.Frozenset.updateFrom
  generalize hRF : setRoomFor = RF
  wp_walk using wpAny_loadPart' up
  subst hRF
  refine room_x (s := { s with heap := h0 }) x0 (by omega) fun h1 sb1 x1 => ?_
  have dT : ∀ {h : Heap}, Heap.SameBut T h0 h → h.get? d = some ⟨.type "dict", od, .dict es ep, sl⟩ := fun sb => (sb.2 d (Nat.ne_of_lt lz)).trans up
  refine wpAny_bind (m := dictEntries d) (wpAny_dictEntries (dT sb1) rfl ?_)
  refine wpAny_bind (m := forIn _ _ _) ?_
  rw [Std.Legacy.Range.forIn_eq_forIn_range']
  simp only [Std.Legacy.Range.size, Nat.sub_zero, Nat.add_sub_cancel, Nat.div_one]
  refine wpAny_forIn_list _ (fun rest _ s' => ∃ i h', rest = List.range' i (es.size - i) ∧ i ≤ es.size ∧ s' = { s with heap := h' } ∧ InX w T (kvs.map (·.1)) i h' ∧ Heap.SameBut T h0 h') _ ?_ ?_ _ _ ⟨0, h1, rfl, Nat.zero_le _, rfl, ⟨[], x1, Nat.le_refl _, fun j => by simp⟩, sb1⟩
  · rintro y rest _ s' ⟨i, h2, er, hi, rfl, ⟨D, x2, l2, m2⟩, sb2⟩
    have lt : i < es.size := by
      rcases Nat.lt_or_ge i es.size with c | c
      · exact c
      · rw [Nat.sub_eq_zero_of_le c] at er
        cases er
    have e1 : es.size - i = (es.size - (i + 1)) + 1 := by omega
    rw [e1, List.range'_succ] at er
    obtain ⟨rfl, rfl⟩ : y = i ∧ rest = List.range' (i + 1) (es.size - (i + 1)) := by
      injection er with a1 a2
      exact ⟨a1, a2⟩
    have hy : es[y]? = some es[y] := Array.getElem?_eq_getElem lt
    obtain ⟨kv, hkv, isk⟩ : ∃ kv, kvs[y]? = some kv ∧ (mixKind P w).is kv.1 es[y].key = true := by
      have all : ∀ {l : List DictEntry} {m : List (Key × Value)}, Pairs (mixKind P w) l m → ∀ (i : Nat) e, l[i]? = some e → ∃ kv, m[i]? = some kv ∧ (mixKind P w).is kv.1 e.key = true := by
        intro l m q
        induction q with
        | nil => exact fun i e h => by simp at h
        | cons q1 q2 _ ih =>
          intro i e h
          cases i with
          | zero =>
            simp only [List.getElem?_cons_zero, Option.some.injEq] at h
            subst h
            exact ⟨_, rfl, q1⟩
          | succ i => exact ih i e (by simpa using h)
      exact all prs y _ (by rw [Array.getElem?_toList]; exact hy)
    obtain ⟨k0, isk0, hh⟩ := ok es[y] (Array.getElem_mem lt)
    have ek : k0 = kv.1 := (mixKind P w).inj _ _ _ isk0 isk
    subst ek
    refine wpAny_bind (m := dictEntries d) (wpAny_dictEntries (dT sb2) rfl ?_)
    rw [hy]
    dsimp only
    rw [hh]
    have hk : (kvs.map (·.1))[y]? = some kv.1 := by rw [List.getElem?_map, hkv]; rfl
    have few2 : D.length + 1 < 4000 := by omega
    refine wpAny_bind (wpAny_holding (add_x (s := { s with heap := h2 }) x2 (rel_is isk) few2 fun b h3 sb3 x3 => ?_))
    refine wpAny_bind (m := dictEpoch d) (wpAny_dictEpoch (dT (sb2.trans sb3)) rfl ?_)
    refine wp_if_neg (by simp) ?_
    exact wpAny_pure ⟨y + 1, h3, rfl, lt, rfl, InX.next hk x3 l2 m2, sb2.trans sb3⟩
  · rintro _ s' ⟨i, h2, er, hi, rfl, ⟨D, x2, l2, m2⟩, sb2⟩
    have e1 : i = es.size := by
      have z := congrArg List.length er
      rw [List.length_nil, List.length_range'] at z
      omega
    subst e1
    have tk : (kvs.map (·.1)).take es.size = kvs.map (·.1) := List.take_of_length_le (by rw [List.length_map]; omega)
    rw [tk] at m2
    exact wpAny_pure (k h2 s.toks D x2 m2 fun b o hb e => (sb2.2 b (Nat.ne_of_lt hb)).trans (old b o e))
end
end K1
set_option linter.all false
set_option maxRecDepth 100000
set_option maxHeartbeats 3200000
namespace K1
open PySem PySem.Spec PyProof.Rows L2
def txt : Value → Str
  | .str x _ => x
  | _ => Str.empty
def txK : Key → Str
  | .inr x => x
  | .inl _ => Str.empty
theorem map_txK (l : List Str) : (l.map (Sum.inr : Str → Key)).map txK = l := by
  induction l with
  | nil => rfl
  | cons a r ih => rw [List.map_cons, List.map_cons, ih]; rfl
section
variable {P : Program} {w : World} {A : Around} {E : Value → Shared → Prop} {s : Shared} {a : Addr}
theorem strs_all : ∀ {vs : List Value}, (∀ v ∈ vs, ∃ x t, v = Value.str x t) → StrsAre vs (vs.map txt)
  | [], _ => .nil
  | v :: r, h => by
    obtain ⟨x, t, rfl⟩ := h v (.head _)
    exact .cons x t (strs_all fun u m => h u (.tail _ m))
theorem kind_txt {vs : List Value} {rk : Value → Int} (h2 : 2 ≤ vs.length) (all : ∀ v ∈ vs, ∃ x t, v = Value.str x t) (hr : ∀ u ∈ vs, ∀ v ∈ vs, ltS (txt u) (txt v) = decide (rk u < rk v)) (Q : SortKind → Shared → Prop)
    (k : ∀ κ, TS.Cmp P w A s κ (pairsOf vs) rk → Q κ s) : wpAny (model P w) A (keyKind' vs.toArray) Q E s := by
  obtain ⟨v1, v2, r, rfl⟩ : ∃ v1 v2 r, vs = v1 :: v2 :: r := by
    match vs, h2 with
    | v1 :: v2 :: r, _ => exact ⟨v1, v2, r, rfl⟩
  rw [keyKind_strs (strs_all all)]
  refine wpAny_pure (k _ fun p q hp hq Q' E' q' => ?_)
  rw [pairsOf_toList] at hp hq
  have mp := (mem_zip_self hp).2
  have mq := (mem_zip_self hq).2
  obtain ⟨x, t, ex⟩ := all _ mp
  obtain ⟨y, u, ey⟩ := all _ mq
  rw [← hr _ mp _ mq, ex, ey] at q'
  rw [ex, ey, keyLt'_oneType]
  exact oneLt_str q'
theorem sort_txt {a : Addr} {vs : List Value} {n : Nat} {rk : Value → Int} {Q : Value → Shared → Prop} (ho : s.heap.get? a = some (seqObj "list" vs.toArray n)) (h64 : vs.length < 64) (all : ∀ v ∈ vs, ∃ x t, v = Value.str x t)
    (hr : ∀ u ∈ vs, ∀ v ∈ vs, ltS (txt u) (txt v) = decide (rk u < rk v))
    (k : ∀ out : Array Value, out.toList.Perm vs → out.toList.Pairwise (fun u v => rk u ≤ rk v) → Q .none { s with heap := sortedHeap s.heap a vs out }) :
    wpAny (model P w) A (call (.builtin "list.sort") [.ref a]) Q E s := by
  refine wpAny_call_entry slot_list_sort ⟨_, ho, rfl⟩ entry_list_sort (SK.plain_sort (r := rk) ho h64 (fun h2 Q' q' => kind_txt h2 all hr Q' q') fun ps out h1 h2 h3 => ?_) (args_list_sort _)
  obtain ⟨p, o⟩ := TS.out_rank h1 h2 h3
  exact ⟨_, rfl, k out p o⟩
theorem sorted_x {ss : List Str} {Q : Value → Shared → Prop} (x : SX w s.heap a (ss.map Sum.inr)) (h64 : ss.length < 64) (hh : A.handled = none)
    (q : ∀ s' d (out : Array Value) c, (∀ b o, s.heap.get? b = some o → s'.heap.get? b = some o) → s'.gens = s.gens → s'.os = s.os → s.heap.objs.size ≤ d → s'.heap.get? d = some (seqObj "list" out c) → Vals ((asc ltS ss).map V.str) out.toList → Q (.ref d) s') :
    wpAny (model P w) A (call (.builtin "sorted") [.ref a]) Q E s := by
  obtain ⟨es, ep, t, x⟩ := x
  obtain ⟨o, ex, at_, dt⟩ := x.at_
  refine Calls.call_function_entry kind_sorted plain_sorted entry_sorted (args_sorted1 _) ?_
  unfold Builtin.«sorted»
  refine wpAny_bind (m := checkCount "sorted" 1 1 _) (wpAny_pure (wpAny_bind (collect_set (A := A.in1) hh ⟨o, at_, ex.1, dt⟩ x.fit x.bound x.ris x.led fun s1 vs k1 z1 g1 o1 pm => ?_)))
  have all : ∀ v ∈ vs, ∃ x t, v = Value.str x t := fun v hv => by
    obtain ⟨e, he, rfl⟩ := List.mem_map.mp (pm.mem_iff.mp hv)
    have f := (x.fine e he).1
    have m : kOf e.2 ∈ ss.map Sum.inr := x.perm.mem_iff.mp (List.mem_map.mpr ⟨e, he, rfl⟩)
    obtain ⟨y, _, ey⟩ := List.mem_map.mp m
    rw [← ey] at f
    rcases keyIs_shape f with ⟨i, t, e1, _⟩ | ⟨z, t, _, e2⟩
    · cases e1
    · exact ⟨z, t, e2⟩
  have pt : (vs.map txt).Perm ss := by
    have y : (vs.map txt).Perm (es.toList.map fun e => txt e.2) := by
      have z := pm.map txt
      rw [List.map_map] at z
      exact z
    have y2 : (es.toList.map fun e => (Sum.inr (txt e.2) : Key)) = es.toList.map fun e => kOf e.2 := List.map_congr_left fun e he => by
      obtain ⟨z, t, e2⟩ := all e.2 (pm.mem_iff.mpr (List.mem_map.mpr ⟨e, he, rfl⟩))
      rw [e2]
      rfl
    have y3 := x.perm
    rw [← y2] at y3
    have y4 : ((es.toList.map fun e => txt e.2).map (Sum.inr : Str → Key)).Perm (ss.map Sum.inr) := by
      rw [List.map_map]
      exact y3
    have y5 := y4.map txK
    rw [map_txK, map_txK] at y5
    exact y.trans y5
  have vl : vs.length < 64 := by
    have z := pt.length_eq
    rw [List.length_map] at z
    omega
  refine wpAny_bind (wpAny_newList ?_ (by rw [sizeLine_eq]; omega))
  have top : (s1.heap.push (seqObj "list" vs.toArray 0)).get? s1.heap.objs.size = some (seqObj "list" vs.toArray 0) := Heap.get?_push_size _ rfl
  generalize hh2 : s1.heap.push (seqObj "list" vs.toArray 0) = h2 at top ⊢
  have nd : ss.Nodup := by
    have z := x.one
    exact List.Pairwise.of_map Sum.inr (fun _ _ ne e => ne (by rw [e])) z
  refine wpAny_bind (wpAny_holding (sort_txt (s := { s1 with heap := h2 }) (rk := fun v => (rank ltS ss (txt v) : Int)) top vl all (fun u hu v hv => ?_) fun out p1 p2 => ?_))
  · rw [rank_lt tot_ltS (pt.mem_iff.mp (List.mem_map.mpr ⟨u, hu, rfl⟩)) (txt v)]
    exact decide_eq_decide.mpr (by omega)
  · obtain ⟨c, hc⟩ := sortedHeap_at (vs := vs) (out := out) top
    have allo : ∀ v ∈ out.toList, ∃ x t, v = Value.str x t := fun v hv => all v (p1.mem_iff.mp hv)
    have po : (out.toList.map txt).Perm ss := (p1.map txt).trans pt
    have asc1 : Asc1 ltS (out.toList.map txt) := by
      have ndo : (out.toList.map txt).Nodup := po.nodup_iff.mpr nd
      unfold Asc1
      rw [List.pairwise_map]
      have z : out.toList.Pairwise fun u v => rank ltS ss (txt u) ≤ rank ltS ss (txt v) ∧ txt u ≠ txt v := List.Pairwise.and (p2.imp fun h => Int.ofNat_le.mp h) (List.pairwise_map.mp ndo)
      refine List.Pairwise.imp_of_mem (fun {u v} hu hv h => ?_) z
      have mv := po.mem_iff.mp (List.mem_map.mpr ⟨v, hv, rfl⟩)
      cases c1 : ltS (txt u) (txt v) with
      | true => rfl
      | false =>
        cases c2 : ltS (txt v) (txt u) with
        | false => exact absurd (tot_ltS.tot _ _ c1 c2) h.2
        | true =>
          rw [rank_lt tot_ltS mv] at c2
          have := of_decide_eq_true c2
          omega
    have fin : out.toList.map txt = asc ltS ss := asc_of tot_ltS asc1 fun y => po.mem_iff
    refine wpAny_pure ⟨_, rfl, q _ s1.heap.objs.size out c (fun b u e => ?_) g1 o1 z1 hc ?_⟩
    · have q := k1 b u e
      have lt := Heap.lt_size q
      show (sortedHeap h2 s1.heap.objs.size vs out).get? b = some u
      rw [sortedHeap_old (Nat.ne_of_lt lt) (by rw [← hh2, size_push']; exact Nat.lt_succ_of_lt lt), ← hh2]
      exact Heap.get?_push_of_some _ q
    · rw [← fin]
      have vals : ∀ l : List Value, (∀ v ∈ l, ∃ x t, v = Value.str x t) → Vals ((l.map txt).map V.str) l := by
        intro l
        induction l with
        | nil => exact fun _ => .nil
        | cons v r ih =>
          intro h
          obtain ⟨x, t, rfl⟩ := h v (.head _)
          exact .cons ⟨t, rfl⟩ (ih fun u m => h u (.tail _ m))
      exact vals _ allo
end
/-! ### the rules -/
def KS (w : World) (a : Addr) (D : List Key) : HO := .ext fun h => SX w h a D
theorem ks_new {w : World} {P : Program} {H : Hp} {h : Heap} {a : Addr} {D : List Key} (x : SX w h a D) : ObjOk P w H h a (KS w a D) := by
  have ⟨_, _, _, y⟩ := x
  have ⟨o, _, at_, _⟩ := y.at_
  exact ⟨x, ⟨o, at_⟩, fun _ _ p k => p.at k⟩
/-- a list, a tuple or a dict of these texts and ints -/
def KeysIn (K : PySem.W.Frag) (H : Hp) (l : Addr) (ks : List Key) : Prop := SqL K H l (ks.map kV) ∨ SqT K H l (ks.map kV) ∨ ∃ kvs, H l = some (.dK kvs) ∧ ks = kvs.map (·.1) ∧ kvs.length ≤ 60
section
variable {X : Cx}
def rSetX (K : PySem.W.Frag) (w : World) : List V → Hp → VK → Prop := fun xs H Q => ∃ (l : Addr) (ks : List Key), xs = [.ref l] ∧ KeysIn K H l ks ∧ ks.length < 3000 ∧ ∀ a D, H a = none → D.Nodup → (∀ k, k ∈ D ↔ k ∈ ks) → Q (.ref a) (upd H a (KS w a D))
theorem cr_setX (hc : X.calm = true) : CallR X (.type "set") (rSetX X.K X.w) := by
  intro pins s σ H xs us Q I r h
  obtain ⟨l, ks, rfl, hl, few, q⟩ := h
  rw [Vals.ref1 r]
  have fin : ∀ h' tk D, SX X.w h' s.heap.objs.size D → (∀ j, j ∈ D ↔ j ∈ ks) → (∀ b o, s.heap.get? b = some o → h'.get? b = some o) → EP X pins σ Q (.ref s.heap.objs.size) { s with heap := h', toks := tk } := fun h' tk D x m kp => by
    have ⟨_, _, _, y⟩ := x
    exact ⟨.ref s.heap.objs.size, upd H s.heap.objs.size (KS X.w s.heap.objs.size D), I.laid (t' := tk) kp (Nat.le_refl _) (ks_new x), rfl, q _ D (I.hok.fresh (Nat.le_refl _)) y.one m⟩
  rcases hl with hl | hl | ⟨kvs, hd, ek, fd⟩
  · obtain ⟨its, rv, pl, hz⟩ := I.list hl
    exact call_set_x (I.ok.hd hc) (.inl pl.isList) (by simpa using rv) (by omega) fin
  · obtain ⟨its, rv, pl, hz⟩ := I.tuple hl
    exact call_set_x (I.ok.hd hc) (.inr (show s.heap.IsTuple l its.toArray from pl)) (by simpa using rv) (by omega) fin
  · obtain ⟨z, nm, vs, rel, dd⟩ := dk_of I.hok hd
    have ev : vs.map (·.1) = kvs.map (·.1) := by
      have all : ∀ {a : List (Key × V)} {b : List (Key × Value)}, KV a b → b.map (·.1) = a.map (·.1) := by
        intro a b z
        induction z with
        | nil => rfl
        | cons _ _ ih => simp_all
      exact all rel
    have lv : vs.length ≤ 60 := by
      have z := congrArg List.length ev
      rw [List.length_map, List.length_map] at z
      omega
    refine call_setG (R := fun h' => ∃ D, SX X.w h' s.heap.objs.size D ∧ ∀ j, j ∈ D ↔ j ∈ ks) (fun A' Q' E' _ _ kk => up_dict dd nm lv fun h' tk D x m kp => kk h' tk ⟨D, x, fun j => ?_⟩ kp) fun h' tk ⟨D, x, m⟩ kp => fin h' tk D x m fun b o e => kp b o (Heap.lt_size e) e
    rw [m j, ev, ek]
/-- len of such a set -/
theorem call_lenX : CallR X (.builtin "len") (fun xs H Q => ∃ (a : Addr) (D : List Key), xs = [.ref a] ∧ H a = some (KS X.w a D) ∧ Q (.int (D.length : Nat)) H) := by
  intro pins s σ H xs us Q I r h
  obtain ⟨a, D, rfl, ha, q⟩ := h
  rw [Vals.ref1 r]
  obtain ⟨es, ep, t, x⟩ := (show SX X.w s.heap a D from (I.hok a _ ha).1)
  obtain ⟨o, ex, at_, dt⟩ := x.at_
  have b := x.few
  refine call_len_set at_ ex dt x.fit (by rw [x.size]; omega) ⟨.int (D.length : Nat), H, I.tok _, ⟨_, by rw [x.size]⟩, q⟩
/-- sorted(s), s a set of texts -/
def rSortedX (w : World) : List V → Hp → VK → Prop := fun xs H Q => ∃ (a : Addr) (D : List Key) (ss : List Str), xs = [.ref a] ∧ H a = some (KS w a D) ∧ D = ss.map Sum.inr ∧ ss.length < 64 ∧ ∀ p, H p = none → Q (.ref p) (upd H p (.lst ((asc ltS ss).map V.str)))
theorem cr_sortedX (hc : X.calm = true) : CallR X (.builtin "sorted") (rSortedX X.w) := by
  intro pins s σ H xs us Q I r h
  obtain ⟨a, D, ss, rfl, ha, rfl, few, q⟩ := h
  rw [Vals.ref1 r]
  have x : SX X.w s.heap a (ss.map Sum.inr) := (I.hok a _ ha).1
  have nd : ss.Nodup := by
    obtain ⟨_, _, _, y⟩ := x
    exact List.Pairwise.of_map Sum.inr (fun _ _ ne e => ne (by rw [e])) y.one
  refine sorted_x x few (I.ok.hd hc) fun s' d out c k g o hd hg rel => ?_
  have nn : H d = none := I.hok.fresh hd
  have zl : ((asc ltS ss).map V.str).length ≤ sizeLine := by
    rw [List.length_map, asc_len tot_ltS nd, sizeLine_eq]
    omega
  have J : Inv X pins σ (upd H d (.lst ((asc ltS ss).map V.str))) { s with heap := s'.heap, gens := s'.gens, drawn := s'.drawn, toks := s'.toks } :=
    I.call (ch := []) (Un.laid k hd nn) (I.hok.laid k hd ⟨zl, out.toList, c, rel, hg⟩) (g ▸ I.bare) fun _ z => nomatch z
  obtain ⟨hp, gs, dr, tk, os⟩ := s'
  obtain ⟨hp0, gs0, dr0, tk0, os0⟩ := s
  cases o
  exact ⟨.ref d, _, J, rfl, q d nn⟩
end
end K1
set_option maxRecDepth 100000
set_option maxHeartbeats 2000000
/-! sets of tuples of ints and texts -/
namespace K1
open PySem PySem.Spec PyProof.Rows L2
abbrev PK := List (Addr × List Key)
abbrev hK (P : Program) (w : World) (k : List Key) : Int := tupleKeyHash (mixKind P w) k
abbrev TuK (P : Program) (w : World) (h : Heap) (k : List Key) (a : Addr) : Prop := IsTupleKey (mixKind P w) h k a
section
variable {P : Program} {w : World} {A : Around} {E : Value → Shared → Prop} {s : Shared}
theorem flat_items {k : List Key} {vs : List Value} (h : ItemsAre (mixKind P w) k vs) : ∀ v ∈ vs, v.scannable = true ∧ ∀ n, ofAClassStatement n v = pure false := by
  induction h with
  | nil => exact fun v hv => nomatch hv
  | @cons a u _ _ h1 _ ih =>
    intro v hv
    cases hv with
    | head => rcases keyIs_shape h1 with ⟨i, t, _, e⟩ | ⟨x, t, _, e⟩ <;> subst e <;> exact ⟨rfl, fun n => by cases n <;> rfl⟩
    | tail _ m => exact ih v m
theorem noClass {k : List Key} {b : Addr} {Q : Bool → Shared → Prop} (T : TuK P w s.heap k b) (q : Q false s) : wpAny (model P w) A (ofAClassStatement 8 (.ref b)) Q E s := by
  have ty := T.typeIs
  obtain ⟨o, its, n, at_, _, dt, all⟩ := T
  have flat := flat_items all
  unfold ofAClassStatement
  refine wpAny_bind (wpAny_typeOf ty ?_)
  dsimp only
  simp only [show (("tuple" : String) == "tuple") = true from by decide, if_true]
  try refine wpAny_bind (wpAny_pure ?_)
  try simp only [Bool.not_true, Bool.false_eq_true, if_false]
  refine wpAny_bind (m := seqItems? (.ref b)) (wpAny_seqItems at_ dt ?_)
  dsimp only
  refine wpAny_bind (m := forIn its _ _) ?_
  rw [← Array.forIn_toList]
  refine wpAny_forIn_list _ (fun l r z => (r.1 = none ∧ z = s) ∧ ∀ v ∈ l, v ∈ its.toList) _ ?_ ?_ _ _ ⟨⟨rfl, rfl⟩, fun _ m => m⟩
  · rintro v l r z ⟨⟨e, rfl⟩, sub⟩
    rw [(flat v (sub v (.head _))).2]
    refine wpAny_bind (wpAny_pure ?_)
    rw [if_neg Bool.false_ne_true]
    exact wpAny_pure ⟨⟨rfl, rfl⟩, fun u m => sub u (.tail _ m)⟩
  · rintro ⟨r, u⟩ z ⟨⟨e, rfl⟩, _⟩
    cases (show r = none from e)
    exact wpAny_pure q
theorem someHash {k : List Key} {b : Addr} {Q : Bool → Shared → Prop} (T : TuK P w s.heap k b) (q : ∀ c, Q c s) : wpAny (model P w) A (hashByValue 8 (.ref b)) Q E s := by
  have ty := T.typeIs
  obtain ⟨o, its, n, at_, _, dt, all⟩ := T
  have flat := flat_items all
  unfold hashByValue
  refine wpAny_bind (wpAny_specialOf ty F.slot_tuple_hash.lookup ?_)
  refine wpAny_bind (m := seqItems? (.ref b)) (wpAny_seqItems at_ dt ?_)
  refine wpAny_bind (m := forIn its _ _) ?_
  rw [← Array.forIn_toList]
  refine wpAny_forIn_list _ (fun l r z => (r.1 = none ∧ z = s) ∧ ∀ v ∈ l, v ∈ its.toList) _ ?_ ?_ _ _ ⟨⟨rfl, rfl⟩, fun _ m => m⟩
  · rintro v l r z ⟨⟨e, rfl⟩, sub⟩
    rw [hashByValue_scannable _ (flat v (sub v (.head _))).1]
    refine wpAny_bind (wpAny_pure ?_)
    cases plainKind v with
    | true => exact wpAny_pure ⟨⟨rfl, rfl⟩, fun u m => sub u (.tail _ m)⟩
    | false => exact wpAny_pure (wpAny_pure (q false))
  · rintro ⟨r, u⟩ z ⟨⟨e, rfl⟩, _⟩
    cases (show r = none from e)
    exact wpAny_pure (q true)
theorem unseen {k : List Key} {b : Addr} {Q : Bool → Shared → Prop} (T : TuK P w s.heap k b) {ys : List Value} (hy : ∀ y ∈ ys, ∃ j c, y = Value.ref c ∧ TuK P w s.heap j c) (q : Q false s) :
    wpAny (model P w) A (searchCouldBeSeen (.ref b) ys) Q E s := by
  unfold searchCouldBeSeen
  refine wpAny_bind (wpAny_forIn_list _ (fun l r z => (r.1 = none ∧ z = s) ∧ ∀ v ∈ l, v ∈ ys) _ ?_ ?_ _ _ ⟨⟨rfl, rfl⟩, fun _ m => m⟩)
  · rintro v l r z ⟨⟨e, rfl⟩, sub⟩
    obtain ⟨j, c, rfl, T'⟩ := hy v (sub v (.head _))
    have go : ∀ u ∈ l, u ∈ ys := fun u m => sub u (.tail _ m)
    dsimp only
    by_cases hv : (b == c || (carriedByValue (.ref b) && carriedByValue (.ref c))) = true
    · rw [if_pos hv]
      exact wpAny_pure ⟨⟨rfl, rfl⟩, go⟩
    · rw [if_neg hv]
      refine wpAny_bind (wpAny_eqIsQuiet_tuple T (wp_if_neg (by decide) (wpAny_bind (wpAny_eqIsQuiet_tuple T' (wp_if_neg (by decide) (wpAny_bind (noClass T (wp_if_neg (by decide) (wpAny_bind (noClass T' (wp_if_neg (by decide) ?_)))))))))))
      exact wpAny_pure ⟨⟨rfl, rfl⟩, go⟩
  · rintro ⟨r, u⟩ z ⟨⟨e, rfl⟩, _⟩
    cases (show r = none from e)
    exact wpAny_pure q
end
end K1
set_option linter.all false
set_option maxRecDepth 100000
set_option maxHeartbeats 2000000
namespace K1
open PySem PySem.Spec PyProof.Rows L2
/-- the c-th stop of a search -/
abbrev stopN (t : SetTable) (h : Int) (c : Nat) : SetTable.Probe := nth t.mask (runAt t.mask (SetTable.bits h % (t.mask + 1)) (SetTable.bits h)) c
theorem stop_plain (t : SetTable) (h : Int) : ∀ c, (stopN t h c).dummy = none
  | 0 => rfl
  | c + 1 => by
    have z := stop_plain t h c
    unfold stopN at z ⊢
    rw [nth_succ]
    unfold adv
    split <;> exact z
/-- what a probe finds from the c-th stop on; K is the first free one -/
theorem probe_from {t : SetTable} {hs : List Int} (T : TabOk t hs) {ha : Nat → Int} {h : Int} {K : Nat} (hf : K < 10 * SetTable.turns t.mask) (hK : way t.mask h K ∉ t.place.toList) (hb : ∀ c, c < K → way t.mask h c ∈ t.place.toList) {c : Nat} (hc : c ≤ K) :
    (∃ d i, c ≤ d ∧ d < K ∧ t.place.toList[i]? = some (way t.mask h d) ∧ ha i = h ∧ (∀ e j, c ≤ e → e < d → t.place.toList[j]? = some (way t.mask h e) → ha j ≠ h) ∧ t.probe ha h (stopN t h c) = some (.candidate (way t.mask h d) i (stopN t h (d + 1)))) ∨
    ((∀ e j, c ≤ e → e < K → t.place.toList[j]? = some (way t.mask h e) → ha j ≠ h) ∧ t.probe ha h (stopN t h c) = some (.empty (way t.mask h K) none)) := by
  have to : ∀ q, nth t.mask (stopN t h c) q = stopN t h (c + q) := fun q => (nth_add t.mask c _ q).symm
  have z := go_spec t T.ris T.dm ha h (10 * SetTable.turns t.mask) (K - c) (stopN t h c) (stop_plain t h c) (by omega)
  simp only [to] at z
  have eK : c + (K - c) = K := by omega
  rw [eK] at z
  rcases z (fun q hq => hb (c + q) (by omega)) hK with ⟨q, i, a1, a2, a3, a4, a5⟩ | ⟨a1, a2⟩
  · refine .inl ⟨c + q, i, by omega, by omega, a2, a3, fun e j h1 h2 h3 => ?_, a5⟩
    refine a4 (e - c) j (by omega) ?_
    rw [show c + (e - c) = e by omega]
    exact h3
  · refine .inr ⟨fun e j h1 h2 h3 => ?_, a2⟩
    refine a1 (e - c) j (by omega) ?_
    rw [show c + (e - c) = e by omega]
    exact h3
def rowK (P : Program) (w : World) (L : PK) : List (Int × Value) := L.map fun p => (hK P w p.2, Value.ref p.1)
def hashes (P : Program) (w : World) (L : PK) : List Int := L.map fun p => hK P w p.2
def keysK (L : PK) : List (List Key) := L.map (·.2)
/-- the set at a of these tuples, in their rows' order -/
structure StK (P : Program) (w : World) (h : Heap) (a : Addr) (L : PK) (es : Array (Int × Value)) (ep : Nat) (t : SetTable) : Prop where
  at_ : ∃ o, o.ExactSet ∧ h.get? a = some o ∧ o.data = .set es ep t
  row : es.toList = rowK P w L
  tab : TabOk t (hashes P w L)
  one : (keysK L).Nodup
  tup : ∀ p ∈ L, TuK P w h p.2 p.1
  led : w.params.followText "set-order" = true ∨ t.led = true
  room : L.length * 5 < t.mask * 3
  few : L.length < 64
section
variable {P : Program} {w : World} {A : Around} {E : Value → Shared → Prop} {s : Shared} {a : Addr} {L : PK} {es : Array (Int × Value)} {ep : Nat} {t : SetTable}
theorem row_len {L : PK} {es : Array (Int × Value)} (h : es.toList = rowK P w L) : es.size = L.length := by
  rw [← Array.length_toList, h, rowK, List.length_map]
theorem hashes_len (L : PK) : (hashes P w L).length = L.length := List.length_map _
theorem fits_of {L : PK} {es : Array (Int × Value)} {t : SetTable} (h : es.toList = rowK P w L) (T : TabOk t (hashes P w L)) (hl : L.length ≤ t.mask) : t.fits es.size = true := by
  have z := T.sz
  rw [hashes_len] at z
  unfold SetTable.fits SetTable.fill
  rw [T.dm, row_len h, z]
  simp [hl]
theorem StK.fit (R : StK P w s.heap a L es ep t) : t.fits es.size = true := fits_of R.row R.tab (by have := R.room; omega)
theorem row_at {L : PK} {es : Array (Int × Value)} (h : es.toList = rowK P w L) {i : Nat} {p : Addr × List Key} (hp : L[i]? = some p) : es[i]? = some (hK P w p.2, Value.ref p.1) := by
  rw [← Array.getElem?_toList, h, rowK, List.getElem?_map, hp] <;> rfl
theorem search_one {x : Addr} {k : List Key} (R : StK P w s.heap a L es ep t) (T : TuK P w s.heap k x) (hu : A.units < cLine) {K : Nat} (hf : K < 10 * SetTable.turns t.mask) (hK' : way t.mask (hK P w k) K ∉ t.place.toList)
    (hb : ∀ c, c < K → way t.mask (hK P w k) c ∈ t.place.toList) {Q : SetFound → Shared → Prop} (yes : k ∈ keysK L → Q (.there none) s) (no : k ∉ keysK L → Q (.free (way t.mask (hK P w k) K) false) s) :
    ∀ (f c : Nat) (st : Option SetTable.Probe), st.getD (t.probeStart (hK P w k)) = stopN t (hK P w k) c → c ≤ K → K - c < f → (∀ (i : Nat) p, L[i]? = some p → p.2 = k → ∃ e, c ≤ e ∧ e < K ∧ t.place.toList[i]? = some (way t.mask (hK P w k) e)) →
      wpAny (model P w) A (setSearchFrom a (.ref x) (hK P w k) true f st) Q E s := by
  intro f
  induction f with
  | zero => exact fun _ _ _ _ z => absurd z (Nat.not_lt_zero _)
  | succ f ih =>
    intro c st est hc hl within
    obtain ⟨o, ex, at_, dt⟩ := R.at_
    have agree : ∀ (i : Nat) p, L[i]? = some p → (fun i => (es[i]?.map (·.1)).getD 0) i = hK P w p.2 := fun i p hp => by
      show (es[i]?.map (·.1)).getD 0 = _
      rw [row_at R.row hp] <;> rfl
    rw [setSearchFrom_succ]
    refine wpAny_bind (m := setState a) (wpAny_setState_of at_ dt R.fit ?_)
    dsimp only
    have odd : ¬ t.gaveWay = true := by
      unfold SetTable.gaveWay
      rw [mask_odd R.tab.mok]
      decide
    rw [if_neg odd]
    try refine wpAny_bind (wpAny_pure ?_)
    rw [est]
    rcases probe_from R.tab hf hK' hb hc (ha := fun i => (es[i]?.map (·.1)).getD 0) with ⟨d, i, h1, h2, h3, h4, h5, h6⟩ | ⟨h1, h2⟩
    · rw [h6]
      dsimp only
      have il : i < L.length := by
        have z := (List.getElem?_eq_some_iff.mp h3).1
        rw [Array.length_toList, R.tab.sz, hashes_len] at z
        exact z
      obtain ⟨p, hp⟩ : ∃ p, L[i]? = some p := ⟨_, List.getElem?_eq_getElem il⟩
      have pm := List.mem_of_getElem? hp
      have live : t.slot (way t.mask (hK P w k) d) = .live i := slot_live R.tab.ris h3
      have go : wpAny (model P w) A (searchRest a (.ref x) (hK P w k) true f es t (way t.mask (hK P w k) d) i (stopN t (hK P w k) (d + 1))) Q E s := by
        unfold searchRest
        rw [row_at R.row hp]
        dsimp only
        refine wpAny_bind (wpAny_holding (wpAny_eqBool_tuple hu (R.tup p pm) T (wpAny_bind (m := setState a) (wpAny_setState_of at_ dt R.fit ?_))))
        dsimp only
        by_cases ek : p.2 = k
        · rw [if_pos (by simp [ek])]
          exact wpAny_pure (yes (List.mem_map.mpr ⟨p, pm, ek⟩))
        · rw [if_neg (by simp [ek])]
          try refine wpAny_bind (wpAny_pure ?_)
          rw [sameMem]
          dsimp only
          simp only [if_true, live, row_at R.row hp]
          refine wpAny_bind (wpAny_isSame_ref_self (wpAny_bind (wpAny_pure ?_)))
          simp only [if_true]
          rw [if_neg (by simp [ek])]
          refine ih (d + 1) _ rfl h2 (by omega) fun j q hq eq => ?_
          obtain ⟨e, e1, e2, e3⟩ := within j q hq eq
          refine ⟨e, ?_, e2, e3⟩
          rcases Nat.lt_trichotomy e d with c1 | c1 | c1
          · exact absurd ((agree j q hq).trans (congrArg _ eq)) (h5 e j e1 c1 e3)
          · subst c1
            have z := slot_live R.tab.ris e3
            rw [live] at z
            cases z
            rw [hp] at hq
            cases hq
            exact absurd eq ek
          · exact c1
      cases hled : t.led with
      | true =>
        rw [if_neg (by decide)]
        try refine wpAny_bind (wpAny_pure ?_)
        exact go
      | false =>
        rw [if_pos (by decide)]
        refine wpAny_bind (m := searchCouldBeSeen _ _) (unseen T (fun y hy => ?_) (wp_if_neg (by decide) ?_))
        · obtain ⟨e, m1, rfl⟩ := List.mem_map.mp hy
          have m2 : e ∈ es.toList := by
            have z : e ∈ es ∧ e.1 = hK P w k := by simpa using m1
            simpa using z.1
          rw [R.row] at m2
          obtain ⟨q, hq, rfl⟩ := List.mem_map.mp m2
          exact ⟨q.2, q.1, rfl, R.tup q hq⟩
        · try refine wpAny_bind (wpAny_pure ?_)
          exact go
    · rw [h2]
      dsimp only
      refine wpAny_pure (no fun m => ?_)
      obtain ⟨p, hp, ek⟩ := List.mem_map.mp m
      obtain ⟨j, hj, ej⟩ := List.getElem_of_mem hp
      have hq : L[j]? = some p := by rw [List.getElem?_eq_getElem hj, ej]
      obtain ⟨e, e1, e2, e3⟩ := within j p hq ek
      exact h1 e j e1 e2 e3 ((agree j p hq).trans (congrArg _ ek))
theorem search_k {x : Addr} {k : List Key} (R : StK P w s.heap a L es ep t) (T : TuK P w s.heap k x) (hu : A.units < cLine) {Q : SetFound → Shared → Prop} (yes : k ∈ keysK L → Q (.there none) s)
    (no : ∀ K, k ∉ keysK L → way t.mask (hK P w k) K ∉ t.place.toList → (∀ c, c < K → way t.mask (hK P w k) c ∈ t.place.toList) → Q (.free (way t.mask (hK P w k) K) false) s) :
    wpAny (model P w) A (setSearch a (.ref x) (hK P w k) true) Q E s := by
  have room := R.room
  obtain ⟨K, k1, k2, k3⟩ := R.tab.first (by rw [hashes_len]; omega) (hK P w k)
  have big : K < 100000 := by
    have z : SetTable.turns t.mask ≤ 142 := by
      unfold SetTable.turns
      rcases R.tab.mok with e | e | e <;> rw [e] <;> decide
    omega
  unfold setSearch
  refine search_one R T hu k1 k2 k3 yes (fun n => no K n k2 k3) 100000 0 none rfl (Nat.zero_le _) (by omega) fun i p hp ek => ?_
  have hi : (hashes P w L)[i]? = some (hK P w k) := by
    rw [hashes, List.getElem?_map, hp, ← ek] <;> rfl
  have li : i < t.place.toList.length := by
    rw [Array.length_toList, R.tab.sz]
    exact (List.getElem?_eq_some_iff.mp hi).1
  obtain ⟨e, e1, e2⟩ := R.tab.before k2 hi (List.getElem?_eq_getElem li)
  exact ⟨e, Nat.zero_le _, e1, by rw [e2]; exact List.getElem?_eq_getElem li⟩
end
end K1
set_option linter.all false
set_option maxRecDepth 100000
set_option maxHeartbeats 2000000
namespace K1
open PySem PySem.Spec PyProof.Rows L2
section
variable {P : Program} {w : World} {A : Around} {E : Value → Shared → Prop} {s : Shared} {a : Addr} {L : PK} {es : Array (Int × Value)} {ep : Nat} {t : SetTable}
theorem tuK_but {h h' : Heap} {k : List Key} {o : Obj} {b : Addr} (T : TuK P w h k b) (at_ : h.get? a = some o) (dt : o.data = .set es ep t) (sb : Heap.SameBut a h h') : TuK P w h' k b := by
  obtain ⟨o2, its, n, g, c, d, r⟩ := T
  refine ⟨o2, its, n, (sb.2 b ?_).trans g, c, d, r⟩
  intro e
  subst e
  rw [at_] at g
  cases g
  rw [dt] at d
  cases d
theorem tab_plain {hs : List Int} (T : TabOk t hs) (b : Bool) : TabOk { t with plain := b } hs := ⟨T.ris, T.dm, T.sz, T.mok, T.bd, T.reach⟩
theorem in_perm {α : Type} (M : List α) (i : Nat) (x : α) : (M.take i ++ x :: M.drop i).Perm (x :: M) := by
  have z : (M.take i ++ x :: M.drop i).Perm (x :: (M.take i ++ M.drop i)) := List.perm_middle
  rwa [List.take_append_drop] at z
/-- rows in another order -/
theorem row_order {L : PK} {es : Array (Int × Value)} {od : Array Nat} (hr : es.toList = rowK P w L) (hp : od.toList.Perm (List.range L.length)) :
    ∃ M : PK, (od.filterMap (es[·]?)).toList = rowK P w M ∧ M.Perm L ∧ hashes P w M = od.toList.map fun i => (es.map (·.1)).getD i 0 := by
  have one : ∀ i (h : i < L.length), es[i]? = some (hK P w L[i].2, Value.ref L[i].1) := fun i h => row_at hr (List.getElem?_eq_getElem h)
  have sz := row_len hr
  have all : ∀ l : List Nat, (∀ i ∈ l, i < L.length) → l.filterMap (fun i => es[i]?) = rowK P w (l.filterMap fun i => L[i]?) ∧ hashes P w (l.filterMap fun i => L[i]?) = l.map fun i => (es.map (·.1)).getD i 0 := by
    intro l
    induction l with
    | nil => exact fun _ => ⟨rfl, rfl⟩
    | cons i l ih =>
      intro hl
      have hi := hl i (.head _)
      obtain ⟨a1, a2⟩ := ih fun j m => hl j (.tail _ m)
      rw [List.filterMap_cons_some (one i hi), List.filterMap_cons_some (List.getElem?_eq_getElem hi), a1]
      refine ⟨rfl, ?_⟩
      rw [List.map_cons, ← a2]
      have z : (es.map (·.1)).getD i 0 = hK P w L[i].2 := by
        simp [Array.getD_eq_getD_getElem?, one i hi]
      rw [z]
      rfl
  obtain ⟨a1, a2⟩ := all od.toList fun i m => List.mem_range.mp (hp.mem_iff.mp m)
  refine ⟨od.toList.filterMap fun i => L[i]?, by simpa using a1, ?_, a2⟩
  have q : ∀ n, n ≤ L.length → (List.range n).filterMap (fun i => L[i]?) = L.take n := by
    intro n
    induction n with
    | zero => exact fun _ => rfl
    | succ n ih =>
      intro hn
      rw [List.range_succ, List.filterMap_append, ih (Nat.le_of_succ_le hn), List.take_add_one, List.getElem?_eq_getElem hn]
      simp [List.getElem?_eq_getElem hn]
  have z := hp.filterMap fun i => L[i]?
  rw [q L.length (Nat.le_refl _), List.take_length] at z
  exact z
theorem at_new {h : Heap} {o : Obj} (ex : o.ExactSet) (at1 : h.get? a = some { o with data := .set es ep t }) : ∃ o', o'.ExactSet ∧ h.get? a = some o' ∧ o'.data = .set es ep t :=
  ⟨{ o with data := .set es ep t }, ⟨ex.1, ex.2.1, ex.2.2⟩, at1, rfl⟩
theorem relay_k (ob : ∃ o, o.ExactSet ∧ s.heap.get? a = some o ∧ o.data = .set es ep t) (row : es.toList = rowK P w L) (T : TabOk t (hashes P w L)) (fl : L.length ≤ t.mask) (nd : (keysK L).Nodup) (tup : ∀ p ∈ L, TuK P w s.heap p.2 p.1)
    (ld : w.params.followText "set-order" = true ∨ t.led = true) (few : L.length < 64) {want M : Nat} (hw : SetTable.sizeAbove want - 1 = M) (hM : MaskOk M) (h128 : SetTable.sizeAbove want ≤ 128) (hn : L.length * 5 < M * 3) {Q : Unit → Shared → Prop}
    (q : ∀ h' L' es' ep' t', Heap.SameBut a s.heap h' → StK P w h' a L' es' ep' t' → L'.Perm L → Q () { s with heap := h' }) : wpAny (model P w) A (setRelay a want) Q E s := by
  obtain ⟨o, ex, at_, dt⟩ := ob
  have sz := row_len row
  obtain ⟨t', od, e, hp, T', em, el, _, _⟩ := relaid_ok t (hs := es.map (·.1)) hw hM (by rw [Array.size_map, sz]; omega)
  rw [Array.size_map, sz] at hp
  obtain ⟨M', r1, r2, r3⟩ := row_order row hp
  rw [← r3] at T'
  have s2 : (od.filterMap (es[·]?)).size = es.size := by rw [row_len r1, r2.length_eq, sz]
  rw [setRelay_eq]
  refine wpAny_bind (m := setState a) (wpAny_setState_of at_ dt (fits_of row T fl) ?_)
  dsimp only
  rw [if_neg (by rw [sizeLine_eq]; omega)]
  try refine wpAny_bind (wpAny_pure ?_)
  rw [e]
  dsimp only
  refine wpAny_bind (wp_if_neg (by rw [s2]; simp) ?_)
  try refine wpAny_bind (wpAny_pure ?_)
  refine wpAny_pure ?_
  dsimp only
  refine wpAny_storeSet_of at_ dt ?_ (by rw [s2, sz, sizeLine_eq]; omega)
  have sb : Heap.SameBut a s.heap (s.heap.update a (Obj.putSet (od.filterMap (es[·]?)) t')) := Heap.SameBut.update ..
  refine q _ M' _ (ep + 1) t' sb ⟨at_new ex (store_at at_ dt), r1, T', (r2.map _).nodup_iff.mpr nd, fun p hp => tuK_but (tup p (r2.mem_iff.mp hp)) at_ dt sb, ?_, ?_, ?_⟩ r2
  · rw [el]
    exact ld
  · rw [r2.length_eq, em]
    exact hn
  · rw [r2.length_eq]
    exact few
theorem add_k {x : Addr} {k : List Key} (R : StK P w s.heap a L es ep t) (T : TuK P w s.heap k x) (hu : A.units < cLine) (hl : L.length + 1 < 64) {Q : Bool → Shared → Prop}
    (q : ∀ b h' L' es' ep' t', Heap.SameBut a s.heap h' → StK P w h' a L' es' ep' t' → (k ∈ keysK L → L' = L) → (k ∉ keysK L → L'.Perm ((x, k) :: L)) → Q b { s with heap := h' }) :
    wpAny (model P w) A (setAddHashed a (.ref x) (hK P w k)) Q E s := by
  obtain ⟨o, ex, at_, dt⟩ := R.at_
  have sz := row_len R.row
  have room := R.room
  unfold setAddHashed
  rw [show (100000 : Nat) = 99999 + 1 from rfl, setAddHashedIn_succ]
  refine wpAny_holding (wpAny_bind (m := setState a) (wpAny_setState_of at_ dt R.fit ?_))
  dsimp only
  rw [if_neg (by simp [byScan, Value.scannable])]
  try refine wpAny_bind (wpAny_pure ?_)
  refine wpAny_bind (search_k R T hu (fun m => ?_) fun K m h1 h2 => ?_)
  · dsimp only
    exact wpAny_pure (q false s.heap L es ep t (Heap.SameBut.refl a _) R (fun _ => rfl) fun n => absurd m n)
  · dsimp only
    refine wpAny_bind (m := setState a) (wpAny_setState_of at_ dt R.fit ?_)
    dsimp only
    obtain ⟨q1, q2, q3, q4, q5, q6, q7, q8, q9⟩ := R.tab.put h1 h2
    generalize t.put (way t.mask (hK P w k) K) = pt at q1 q3 q4 q5 q6 q7 q8 q9 ⊢
    obtain ⟨t1, j⟩ := pt
    dsimp only at q1 q3 q4 q5 q6 q7 q8 q9 ⊢
    subst q1
    generalize SetTable.below t.place (way t.mask (hK P w k) K) = i at q2 q3 ⊢
    have r1 : (SetTable.insertAt es i (hK P w k, Value.ref x)).toList = rowK P w (L.take i ++ (x, k) :: L.drop i) := by
      rw [SetTable.toList_insertAt, R.row]
      unfold rowK
      rw [List.map_append, List.map_cons, List.map_take, List.map_drop]
    have pm := in_perm L i (x, k)
    have hh : hashes P w (L.take i ++ (x, k) :: L.drop i) = (hashes P w L).take i ++ hK P w k :: (hashes P w L).drop i := by
      unfold hashes
      rw [List.map_append, List.map_cons, List.map_take, List.map_drop]
    rw [← hh] at q3
    rw [hashes_len] at q9
    generalize SetTable.insertAt es i (hK P w k, Value.ref x) = es1 at r1 ⊢
    generalize L.take i ++ (x, k) :: L.drop i = L1 at pm q3 r1
    have len := pm.length_eq
    rw [List.length_cons] at len
    have nd1 : (keysK L1).Nodup := by
      have z : (keysK L1).Perm (keysK ((x, k) :: L)) := by unfold keysK; exact pm.map _
      exact z.nodup_iff.mpr (List.nodup_cons.mpr ⟨m, R.one⟩)
    have sz1 := row_len r1
    have onward : ∀ b : Bool, ∀ t2 : SetTable, TabOk t2 (hashes P w L1) → t2.mask = t.mask → t2.led = t.led → t2.fill = L.length + 1 → wpAny (model P w) A (do
        storeSet a es1 t2
        if (!false && t2.tooFull) = true then do
          setRelay a (SetTable.grown (es.size + 1))
          pure true
        else pure true) Q E s := fun b t2 T2 em el ef => by
      refine wpAny_bind (wpAny_storeSet_of at_ dt ?_ (by rw [sz1, len, sizeLine_eq]; omega))
      have sb : Heap.SameBut a s.heap (s.heap.update a (Obj.putSet es1 t2)) := Heap.SameBut.update ..
      have at1 := store_at (es' := es1) (t' := t2) at_ dt
      generalize s.heap.update a (Obj.putSet es1 t2) = h1 at sb at1 ⊢
      have tup1 : ∀ p ∈ L1, TuK P w h1 p.2 p.1 := fun p hp => by
        rcases List.mem_cons.mp (pm.mem_iff.mp hp) with e | e
        · subst e
          exact tuK_but T at_ dt sb
        · exact tuK_but (R.tup p e) at_ dt sb
      have ld1 : w.params.followText "set-order" = true ∨ t2.led = true := by rw [el]; exact R.led
      have full : t2.tooFull = decide ((L.length + 1) * 5 ≥ t.mask * 3) := by
        unfold SetTable.tooFull
        rw [ef, em]
      by_cases c : (L.length + 1) * 5 ≥ t.mask * 3
      · rw [if_pos (by rw [full]; simpa using c), sz]
        have two : (t.mask = 7 ∧ L.length = 4) ∨ (t.mask = 31 ∧ L.length = 18) := by
          rcases R.tab.mok with e | e | e <;> rw [e] at c room
          · exact .inl ⟨e, by omega⟩
          · exact .inr ⟨e, by omega⟩
          · omega
        have fin : ∀ M, SetTable.sizeAbove (SetTable.grown (L.length + 1)) - 1 = M → MaskOk M → SetTable.sizeAbove (SetTable.grown (L.length + 1)) ≤ 128 → (L.length + 1) * 5 < M * 3 →
            wpAny (model P w) A (do
              setRelay a (SetTable.grown (L.length + 1))
              pure true) Q E { s with heap := h1 } := fun M b1 b2 b3 b4 => by
          refine wpAny_bind (relay_k (s := { s with heap := h1 }) (at_new ex at1) r1 T2 (by rw [em, len]; rcases two with ⟨e, e'⟩ | ⟨e, e'⟩ <;> omega) nd1 tup1 ld1 (by omega) b1 b2 b3 (by rw [len]; exact b4) ?_)
          intro h2 L2 es2 ep2 t3 sb2 R2 pm2
          exact wpAny_pure (q true h2 L2 es2 ep2 t3 (sb.trans sb2) R2 (fun z => absurd z m) fun _ => pm2.trans pm)
        rcases two with ⟨_, e⟩ | ⟨_, e⟩
        · exact fin 31 (by rw [e, size_20]) (.inr (.inl rfl)) (by rw [e, size_20]; decide) (by omega)
        · exact fin 127 (by rw [e, size_76]) (.inr (.inr rfl)) (by rw [e, size_76]; decide) (by omega)
      · rw [if_neg (by rw [full]; simpa using c)]
        exact wpAny_pure (q true h1 L1 es1 (ep + 1) t2 sb ⟨at_new ex at1, r1, T2, nd1, tup1, ld1, by rw [len, em]; omega, by omega⟩ (fun z => absurd z m) fun _ => pm)
    cases hpl : t1.plain with
    | true =>
      rw [if_pos rfl]
      refine wpAny_bind (someHash T fun c => ?_)
      cases c with
      | true => exact onward true t1 q3 q4 q5 q9
      | false => exact onward true _ (tab_plain q3 false) q4 q5 q9
    | false =>
      rw [if_neg Bool.false_ne_true]
      refine wpAny_bind (wpAny_pure ?_)
      exact onward true t1 q3 q4 q5 q9
end
end K1
set_option linter.all false
set_option maxRecDepth 100000
set_option maxHeartbeats 3200000
namespace K1
open PySem PySem.Spec PyProof.Rows L2
section
variable {P : Program} {w : World} {A : Around} {E : Value → Shared → Prop} {s : Shared}
theorem tuK_keep {h h' : Heap} {k : List Key} {b : Addr} (T : TuK P w h k b) (q : ∀ o, h.get? b = some o → h'.get? b = some o) : TuK P w h' k b := by
  obtain ⟨o, its, n, g, r⟩ := T
  exact ⟨o, its, n, q o g, r⟩
theorem stK_new {h : Heap} {a : Addr} (at_ : h.get? a = some (setW w)) : StK P w h a [] #[] 0 (.fresh 0 0 (!w.params.followText "set-order")) := by
  refine ⟨⟨_, ⟨rfl, rfl, rfl⟩, at_, rfl⟩, rfl, ⟨List.Pairwise.nil, rfl, rfl, .inl rfl, fun x hx => ?_, fun i h j hi => ?_⟩, List.nodup_nil, (fun p hp => nomatch hp), ?_, ?_, by decide⟩
  · cases hx
  · cases hi
  · show _ ∨ (!w.params.followText "set-order") = true
    cases w.params.followText "set-order"
    · exact .inr rfl
    · exact .inl rfl
  · show 0 * 5 < 7 * 3
    decide
/-- what is in the set when the first i of the tuples are in -/
structure InT (P : Program) (w : World) (T : Addr) (all : PK) (i : Nat) (h : Heap) : Prop where
  set : ∃ L es ep t, StK P w h T L es ep t ∧ L.length ≤ i ∧ (∀ p ∈ L, p ∈ all.take i) ∧ ∀ p ∈ all.take i, p.2 ∈ keysK L
  old : ∀ p ∈ all, TuK P w h p.2 p.1 ∧ p.1 < T
theorem firm_t {T : Addr} {all : PK} : Firm (T + 1) (InT P w T all) := fun i h h' x k => by
  obtain ⟨L, es, ep, t, y, l, m1, m2⟩ := x.set
  have old : ∀ p ∈ all, TuK P w h' p.2 p.1 ∧ p.1 < T := fun p hp => ⟨tuK_keep (x.old p hp).1 fun o e => k _ o (Nat.lt_succ_of_lt (x.old p hp).2) e, (x.old p hp).2⟩
  obtain ⟨o, x1, x2, x3⟩ := y.at_
  exact ⟨⟨L, es, ep, t, ⟨⟨o, x1, k T o (Nat.lt_succ_self _) x2, x3⟩, y.row, y.tab, y.one, fun p hp => (old p (List.mem_of_mem_take (m1 p hp))).1, y.led, y.room, y.few⟩, l, m1, m2⟩, old⟩
theorem adds_t {u : Nat} {T : Addr} {items : Array Value} {all : PK} (rel : items.toList = all.map fun p => Value.ref p.1) (few : all.length < 63) (hu : u < cLine) : Adds P w u T items.size (fun i v => items[i]? = some v) (InT P w T all) := by
  intro A s i v Q E ul hi pv x q
  obtain ⟨L, es, ep, t, y, l, m1, m2⟩ := x.set
  have sz : items.size = all.length := by
    have z := congrArg List.length rel
    rw [Array.length_toList, List.length_map] at z
    exact z
  have li : i < all.length := by omega
  have hk : all[i]? = some all[i] := List.getElem?_eq_getElem li
  generalize all[i] = p at hk
  have ev : v = .ref p.1 := by
    have q1 : items.toList[i]? = some v := by rw [Array.getElem?_toList]; exact pv
    rw [rel, List.getElem?_map, hk] at q1
    injection q1 with q1
    exact q1.symm
  subst ev
  have pm := List.mem_of_getElem? hk
  have tk : all.take (i + 1) = all.take i ++ [p] := by rw [List.take_add_one, hk]; rfl
  unfold setAdd
  refine wpAny_holding (wpAny_bind (wpAny_pyHash_tuple (Nat.lt_of_le_of_lt ul hu) (x.old p pm).1 ?_))
  refine add_k (s := { s with toks := s.toks + (p.2.length + 1) }) y (x.old p pm).1 (Nat.lt_of_le_of_lt ul hu) (by omega) fun b h' L' es' ep' t' sb y' c1 c2 => q b h' _ (Nat.le_add_right _ _) sb ⟨⟨L', es', ep', t', y', ?_⟩, fun r hr => ⟨?_, (x.old r hr).2⟩⟩
  · rcases Classical.em (p.2 ∈ keysK L) with c | c
    · rw [c1 c, tk]
      refine ⟨by omega, fun r hr => List.mem_append_left _ (m1 r hr), fun r hr => ?_⟩
      rcases List.mem_append.mp hr with z | z
      · exact m2 r z
      · rw [List.mem_singleton.mp z]
        exact c
    · have pm2 := c2 c
      have ek : (keysK L').Perm (keysK ((p.1, p.2) :: L)) := by unfold keysK; exact pm2.map _
      refine ⟨by rw [pm2.length_eq, List.length_cons]; omega, fun r hr => ?_, fun r hr => ?_⟩
      · rw [tk]
        rcases List.mem_cons.mp (pm2.mem_iff.mp hr) with z | z
        · rw [z]
          exact List.mem_append_right _ (.head _)
        · exact List.mem_append_left _ (m1 r z)
      · rw [tk] at hr
        rw [ek.mem_iff]
        rcases List.mem_append.mp hr with z | z
        · exact .tail _ (m2 r z)
        · rw [List.mem_singleton.mp z]
          exact .head _
  · refine tuK_keep (x.old r hr).1 fun o e => (sb.2 r.1 (Nat.ne_of_lt (x.old r hr).2)).trans e
theorem call_set_t {l : Addr} {items : Array Value} {all : PK} {Q : Value → Shared → Prop} (hh : A.handled = none) (hl : s.heap.IsList l items ∨ s.heap.IsTuple l items) (rel : items.toList = all.map fun p => Value.ref p.1) (few : all.length < 63) (tup : ∀ p ∈ all, TuK P w s.heap p.2 p.1) (hu : A.units + 4 < cLine)
    (k : ∀ h' tk L es ep t, StK P w h' s.heap.objs.size L es ep t → (∀ p ∈ L, p ∈ all) → (∀ p ∈ all, p.2 ∈ keysK L) → (∀ b o, s.heap.get? b = some o → h'.get? b = some o) → Q (.ref s.heap.objs.size) { s with heap := h', toks := tk }) :
    wpAny (model P w) A (call (.type "set") [.ref l]) Q E s := by
  have sz : items.size = all.length := by
    have z := congrArg List.length rel
    rw [Array.length_toList, List.length_map] at z
    exact z
  refine set_of (S := InT P w s.heap.objs.size all) hh hl ⟨⟨[], _, _, _, stK_new (Heap.get?_push_size _ rfl), Nat.le_refl _, (fun p hp => nomatch hp), fun p hp => by simp at hp⟩, fun p hp => ⟨tuK_keep (tup p hp) fun o e => Heap.get?_push_of_some _ e, ?_⟩⟩ firm_t (adds_t rel few hu) fun h' tk x kp => ?_
  · obtain ⟨o, _, _, g, _⟩ := tup p hp
    exact Heap.lt_size g
  · obtain ⟨L, es, ep, t, y, _, m1, m2⟩ := x.set
    rw [sz, List.take_length] at m1 m2
    exact k h' tk L es ep t y m1 m2 fun b o e => kp b o (Heap.lt_size e) e
/-! ### sorted -/
/-- the texts of a tuple, read off the heap -/
def txtsOf (h : Heap) : Value → List Str
  | .ref a => match h.get? a with
    | some o => match o.data with
      | .seq xs _ => xs.toList.map txt
      | _ => []
    | none => []
  | _ => []
theorem items_txt {k : List Str} : ∀ {vs : List Value}, ItemsAre (mixKind P w) (k.map Sum.inr) vs → StrsAre vs k := by
  induction k with
  | nil =>
    intro vs h
    cases h
    exact .nil
  | cons x r ih =>
    intro vs h
    cases h with
    | cons h1 h2 =>
      rcases keyIs_shape (show keyIs (Sum.inr x) _ = true from h1) with ⟨i, t, e, _⟩ | ⟨y, t, e, rfl⟩
      · cases e
      · cases e
        exact .cons x t (ih h2)
theorem strs_txt {vs : List Value} {k : List Str} (h : StrsAre vs k) : vs.map txt = k := by
  induction h with
  | nil => rfl
  | cons x t _ ih => rw [List.map_cons, ih]; rfl
theorem txtsOf_tup {h : Heap} {k : List Str} {a : Addr} (T : TuK P w h (k.map Sum.inr) a) : txtsOf h (.ref a) = k := by
  obtain ⟨o, its, n, g, _, d, r⟩ := T
  unfold txtsOf
  simp only [g, d]
  exact strs_txt (items_txt r)
theorem oneLt_txt (c : Bool) {x y : Str} {t u : Tok} {Q : Bool → Shared → Prop} (h : Q (ltS x y) s) : wpAny (model P w) A (oneLt' c (.str x t) (.str y u)) Q E s := by
  cases c with
  | true => exact oneLt_str h
  | false => exact PySem.W.kat_one _ _ (PyProof.Rows.lt_str (Q := PySem.W.BoolBack Q) (show Q _ s from h))
theorem lex_txt {b : Bool} {Q : Bool → Shared → Prop} {us : List Value} {ns : List Str} (hu : StrsAre us ns) : ∀ {ts : List Value} {ms : List Str} {f : Bool} (i : Nat), StrsAre ts ms → f = decide (us.length < ts.length) → Q (lexL ltS ns ms) s →
    PySem.W.KatLex P w A b f Q (us.zip ts) i s := by
  induction hu with
  | nil =>
    intro ts ms f i ht hf q
    subst hf
    cases ht with
    | nil => exact PySem.W.kat_nil q
    | cons y t r => exact PySem.W.kat_nil q
  | @cons x t0 us ns hu ih =>
    intro ts ms f i ht hf q
    subst hf
    cases ht with
    | nil => exact PySem.W.kat_nil q
    | @cons y t1 ts ms ht =>
      refine PySem.W.kat_cons (r := us.zip ts) (wpAny_eqBool_str ?_)
      rw [lexL_cons] at q
      by_cases c : x = y
      · rw [if_pos c] at q
        rw [decide_eq_true c]
        exact PySem.W.kat_yes (ih (i + 1) ht (by simp) q)
      · rw [if_neg c] at q
        rw [decide_eq_false c]
        exact PySem.W.kat_no (oneLt_txt _ q)
def TxtTups (P : Program) (w : World) (h : Heap) (vs : List Value) : Prop := ∀ v ∈ vs, ∃ a k, v = .ref a ∧ TuK P w h (k.map Sum.inr) a ∧ k ≠ []
theorem heads_txt {h : Heap} : ∀ {vs : List Value}, TxtTups P w h vs → ∃ fs, PySem.W.KatTups h vs fs ∧ fs.length = vs.length ∧ ∀ f ∈ fs, ∃ n t, f = Value.str n t := by
  intro vs
  induction vs with
  | nil => intro _; exact ⟨[], .nil, rfl, fun _ hf => nomatch hf⟩
  | cons v vs ih =>
    intro x
    obtain ⟨fs, a1, a2, a3⟩ := ih fun u hu => x u (.tail _ hu)
    obtain ⟨a, k, rfl, ⟨o, its, n, g, c, d, r⟩, ne⟩ := x v (.head _)
    have st := items_txt r
    obtain ⟨its⟩ := its
    cases st with
    | nil => exact absurd rfl ne
    | @cons y t us ns hi =>
      refine ⟨.str y t :: fs, .cons g c d rfl a1, congrArg Nat.succ a2, fun f hf => ?_⟩
      rcases List.mem_cons.mp hf with z | z
      · exact ⟨y, t, z⟩
      · exact a3 f z
theorem kind_tt {vs : List Value} {rk : Value → Int} (h2 : 2 ≤ vs.length) (x : TxtTups P w s.heap vs) (hr : ∀ u ∈ vs, ∀ v ∈ vs, lexL ltS (txtsOf s.heap u) (txtsOf s.heap v) = decide (rk u < rk v)) (Q : SortKind → Shared → Prop)
    (k : ∀ κ, TS.Cmp P w A s κ (pairsOf vs) rk → Q κ s) : wpAny (model P w) A (keyKind' vs.toArray) Q E s := by
  obtain ⟨fs, a1, a2, a3⟩ := heads_txt x
  refine PySem.W.kat_kind (T := .type "str") a1 (by omega) (fun f hf => ?_) rfl (k _ fun p q hp hq Q' E' q' => ?_)
  · obtain ⟨n, t, z⟩ := a3 f hf
    rw [z]
    exact PySem.W.Looks.of_pure rfl
  · rw [pairsOf_toList] at hp hq
    have mp := (mem_zip_self hp).2
    have mq := (mem_zip_self hq).2
    rw [← hr _ mp _ mq] at q'
    obtain ⟨a, n, ea, tn, _⟩ := x _ mp
    obtain ⟨b, m, eb, tm, _⟩ := x _ mq
    rw [ea, eb, txtsOf_tup tn, txtsOf_tup tm] at q'
    obtain ⟨o, us, n1, g, c, d, r⟩ := tn
    obtain ⟨o', ts, n2, g', c', d', r'⟩ := tm
    rw [ea, eb]
    exact PySem.W.kat_lt g d g' d' (lex_txt (items_txt r) 0 (items_txt r') (by rw [Array.length_toList, Array.length_toList]) q')
theorem sort_tt {a : Addr} {vs : List Value} {n : Nat} {rk : Value → Int} {Q : Value → Shared → Prop} (ho : s.heap.get? a = some (seqObj "list" vs.toArray n)) (h64 : vs.length < 64) (x : TxtTups P w s.heap vs)
    (hr : ∀ u ∈ vs, ∀ v ∈ vs, lexL ltS (txtsOf s.heap u) (txtsOf s.heap v) = decide (rk u < rk v))
    (k : ∀ out : Array Value, out.toList.Perm vs → out.toList.Pairwise (fun u v => rk u ≤ rk v) → Q .none { s with heap := sortedHeap s.heap a vs out }) :
    wpAny (model P w) A (call (.builtin "list.sort") [.ref a]) Q E s := by
  have stay : ∀ {b : Addr} {ks : List Key}, TuK P w s.heap ks b → TuK P w (TS.midHeap s.heap a vs) ks b := fun {b ks} t => by
    obtain ⟨o, its, m, g, c, d, r⟩ := t
    refine ⟨o, its, m, TS.midHeap_old (fun z => ?_) g, c, d, r⟩
    rw [z, ho] at g
    cases g
    have c2 : Value.type "list" = Value.type "tuple" := c
    exact absurd c2 (by decide)
  have x2 : TxtTups P w (TS.midHeap s.heap a vs) vs := fun v hv => by
    obtain ⟨b, ks, e, t, ne⟩ := x v hv
    exact ⟨b, ks, e, stay t, ne⟩
  have same : ∀ v ∈ vs, txtsOf (TS.midHeap s.heap a vs) v = txtsOf s.heap v := fun v hv => by
    obtain ⟨b, ks, rfl, t, ne⟩ := x v hv
    rw [txtsOf_tup t, txtsOf_tup (stay t)]
  refine wpAny_call_entry slot_list_sort ⟨_, ho, rfl⟩ entry_list_sort (SK.plain_sort (r := rk) ho h64 (fun h2 Q' q' => kind_tt (s := { s with heap := TS.midHeap s.heap a vs }) h2 x2 (fun u hu v hv => by rw [same u hu, same v hv]; exact hr u hu v hv) Q' q') fun ps out h1 h2 h3 => ?_) (args_list_sort _)
  obtain ⟨p, o⟩ := TS.out_rank h1 h2 h3
  exact ⟨_, rfl, k out p o⟩
end
end K1
set_option linter.all false
set_option maxRecDepth 100000
set_option maxHeartbeats 3200000
namespace K1
open PySem PySem.Spec PyProof.Rows L2
/-- tuples of texts, each at its place -/
abbrev TL := List (Addr × List Str)
def upT (M : TL) : PK := M.map fun p => (p.1, p.2.map Sum.inr)
def refT (M : TL) : List V := M.map fun p => V.ref p.1
def rowT (M : TL) : List (List Str) := M.map (·.2)
def AtT (K : PySem.W.Frag) (H : Hp) (M : TL) : Prop := ∀ p ∈ M, SqT K H p.1 (p.2.map V.str)
theorem inr_inj {a b : List Str} (h : a.map (Sum.inr : Str → Key) = b.map Sum.inr) : a = b := by
  have z := congrArg (List.map txK) h
  rwa [map_txK, map_txK] at z
theorem map_str (k : List Str) : k.map V.str = (k.map (Sum.inr : Str → Key)).map kV := by
  rw [List.map_map]
  rfl
theorem keys_up (M : TL) : keysK (upT M) = (rowT M).map fun k => k.map Sum.inr := by
  unfold keysK upT rowT
  rw [List.map_map, List.map_map]
  rfl
theorem nodup_up {M : TL} (h : (keysK (upT M)).Nodup) : (rowT M).Nodup := by
  rw [keys_up] at h
  exact List.Pairwise.of_map _ (fun _ _ ne e => ne (by rw [e])) h
/-- what is among lifted ones is lifted -/
theorem down {M : TL} : ∀ {L : PK}, (∀ p ∈ L, p ∈ upT M) → ∃ N : TL, L = upT N ∧ ∀ p ∈ N, p ∈ M
  | [], _ => ⟨[], rfl, fun _ h => nomatch h⟩
  | p :: L, h => by
    obtain ⟨N, e, k⟩ := down fun q hq => h q (.tail _ hq)
    obtain ⟨q, hq, eq⟩ := List.mem_map.mp (h p (.head _))
    refine ⟨q :: N, by rw [e, ← eq]; rfl, fun r hr => ?_⟩
    rcases List.mem_cons.mp hr with z | z
    · rw [z]; exact hq
    · exact k r z
theorem mem_up {M : TL} {p : Addr × List Str} : (p.1, p.2.map Sum.inr) ∈ upT M ↔ p ∈ M := by
  unfold upT
  rw [List.mem_map]
  constructor
  · rintro ⟨q, hq, e⟩
    injection e with e1 e2
    have e3 := inr_inj e2
    have : q = p := Prod.ext e1 e3
    rw [← this]
    exact hq
  · exact fun h => ⟨p, h, rfl⟩
theorem up_inj {M N : TL} (h : upT M = upT N) : M = N := by
  induction M generalizing N with
  | nil =>
    cases N with
    | nil => rfl
    | cons _ _ => cases h
  | cons p r ih =>
    cases N with
    | nil => cases h
    | cons q s =>
      have h1 : (p.1, p.2.map (Sum.inr : Str → Key)) :: upT r = (q.1, q.2.map Sum.inr) :: upT s := h
      injection h1 with a b
      injection a with a1 a2
      rw [ih b, Prod.ext a1 (inr_inj a2)]
/-- the set of tuples at a, but for the tuples -/
def St0 (P : Program) (w : World) (h : Heap) (a : Addr) (L : PK) : Prop := ∃ es ep t, (∃ o : Obj, o.ExactSet ∧ h.get? a = some o ∧ o.data = .set es ep t) ∧ es.toList = rowK P w L ∧ TabOk t (hashes P w L) ∧ (keysK L).Nodup ∧ (w.params.followText "set-order" = true ∨ t.led = true) ∧ L.length * 5 < t.mask * 3 ∧ L.length < 64
def TO (P : Program) (w : World) (a : Addr) (M : TL) : HO := .ext fun h => St0 P w h a (upT M)
section
variable {P : Program} {w : World} {A : Around} {E : Value → Shared → Prop} {s : Shared} {a : Addr}
theorem StK.zero {h : Heap} {L : PK} {es : Array (Int × Value)} {ep : Nat} {t : SetTable} (x : StK P w h a L es ep t) : St0 P w h a L := ⟨es, ep, t, x.at_, x.row, x.tab, x.one, x.led, x.room, x.few⟩
theorem St0.full {h : Heap} {L : PK} (x : St0 P w h a L) (tup : ∀ p ∈ L, TuK P w h p.2 p.1) : ∃ es ep t, StK P w h a L es ep t := by
  obtain ⟨es, ep, t, x1, x2, x3, x4, x5, x6, x7⟩ := x
  exact ⟨es, ep, t, x1, x2, x3, x4, tup, x5, x6, x7⟩
theorem to_new {H : Hp} {h : Heap} {M : TL} (x : St0 P w h a (upT M)) : ObjOk P w H h a (TO P w a M) := by
  have ⟨_, _, _, ⟨o, _, g, _⟩, _⟩ := x
  refine ⟨x, ⟨o, g⟩, fun h1 h2 p k => ?_⟩
  have ⟨es, ep, t, ⟨o, x1, x2, x3⟩, r⟩ := (show St0 P w h1 a (upT M) from p)
  exact ⟨es, ep, t, ⟨o, x1, k o x2, x3⟩, r⟩
theorem perm_back {α β : Type} (f : α → β) : ∀ {l : List β} {m : List β}, l.Perm m → ∀ ys : List α, ys.map f = m → ∃ xs : List α, xs.Perm ys ∧ xs.map f = l := by
  intro l m h
  induction h with
  | nil =>
    intro ys e
    exact ⟨ys, .refl _, e⟩
  | cons x _ ih =>
    intro ys e
    cases ys with
    | nil => cases e
    | cons y r =>
      rw [List.map_cons] at e
      injection e with e1 e2
      obtain ⟨xs, p, q⟩ := ih r e2
      exact ⟨y :: xs, p.cons y, by rw [List.map_cons, e1, q]⟩
  | swap x y l =>
    intro ys e
    match ys, e with
    | u :: v :: r, e =>
      rw [List.map_cons, List.map_cons] at e
      injection e with e1 e2
      injection e2 with e2 e3
      exact ⟨v :: u :: r, .swap _ _ _, by rw [List.map_cons, List.map_cons, e1, e2, e3]⟩
  | trans _ _ ih1 ih2 =>
    intro ys e
    obtain ⟨xs, p, q⟩ := ih2 ys e
    obtain ⟨zs, p2, q2⟩ := ih1 xs q
    exact ⟨zs, p2.trans p, q2⟩
theorem sorted_tt {M : TL} {Q : Value → Shared → Prop} (x : St0 P w s.heap a (upT M)) (tup : ∀ p ∈ upT M, TuK P w s.heap p.2 p.1) (ne : ∀ p ∈ M, p.2 ≠ []) (hh : A.handled = none)
    (q : ∀ s' d (out : Array Value) c (N : TL), (∀ b o, s.heap.get? b = some o → s'.heap.get? b = some o) → s'.gens = s.gens → s'.os = s.os → s.heap.objs.size ≤ d → s'.heap.get? d = some (seqObj "list" out c) → out.toList = N.map (fun p => Value.ref p.1) → N.Perm M → Asc1 (lexL ltS) (rowT N) → Q (.ref d) s') :
    wpAny (model P w) A (call (.builtin "sorted") [.ref a]) Q E s := by
  obtain ⟨es, ep, t, x⟩ := x.full tup
  obtain ⟨o, ex, at_, dt⟩ := x.at_
  have few := x.few
  have sz := row_len x.row
  refine Calls.call_function_entry kind_sorted plain_sorted entry_sorted (args_sorted1 _) ?_
  unfold Builtin.«sorted»
  refine wpAny_bind (m := checkCount "sorted" 1 1 _) (wpAny_pure (wpAny_bind (collect_set (A := A.in1) hh ⟨o, at_, ex.1, dt⟩ x.fit (by rw [sz]; unfold scanBound; omega) x.tab.ris x.led fun s1 vs k1 z1 g1 o1 pm => ?_)))
  have rows : es.toList.map (·.2) = M.map fun p => Value.ref p.1 := by
    rw [x.row, rowK, upT, List.map_map, List.map_map]
    rfl
  rw [rows] at pm
  have lM : (upT M).length = M.length := List.length_map _
  rw [lM] at few
  have vl : vs.length < 64 := by
    rw [pm.length_eq, List.length_map]
    exact few
  have mem : ∀ v ∈ vs, ∃ p ∈ M, Value.ref p.1 = v := fun v hv => List.mem_map.mp (pm.mem_iff.mp hv)
  refine wpAny_bind (wpAny_newList ?_ (by rw [sizeLine_eq]; omega))
  have top : (s1.heap.push (seqObj "list" vs.toArray 0)).get? s1.heap.objs.size = some (seqObj "list" vs.toArray 0) := Heap.get?_push_size _ rfl
  have tI : ∀ p ∈ M, TuK P w (s1.heap.push (seqObj "list" vs.toArray 0)) (p.2.map Sum.inr) p.1 := fun p hp => tuK_keep (tup _ (mem_up.mpr hp)) fun u e => Heap.get?_push_of_some _ (k1 _ u e)
  generalize hh2 : s1.heap.push (seqObj "list" vs.toArray 0) = h2 at top tI ⊢
  have tx : ∀ p ∈ M, txtsOf h2 (.ref p.1) = p.2 := fun p hp => txtsOf_tup (tI p hp)
  have T2 : Tot (lexL ltS) := tot_lex tot_ltS
  have nd := nodup_up x.one
  refine wpAny_bind (wpAny_holding (sort_tt (P := P) (w := w) (s := { s1 with heap := h2 }) (rk := fun v => (rank (lexL ltS) (rowT M) (txtsOf h2 v) : Int)) top vl (fun v hv => ?_) (fun u hu v hv => ?_) fun out p1 p2 => ?_))
  · obtain ⟨p, hp, rfl⟩ := mem v hv
    exact ⟨p.1, p.2, rfl, tI p hp, ne p hp⟩
  · obtain ⟨p, hp, rfl⟩ := mem u hu
    have m : txtsOf h2 (.ref p.1) ∈ rowT M := by rw [tx p hp]; exact List.mem_map.mpr ⟨p, hp, rfl⟩
    show lexL ltS (txtsOf h2 (.ref p.1)) (txtsOf h2 v) = _
    rw [rank_lt T2 m]
    exact decide_eq_decide.mpr (by omega)
  · obtain ⟨c, hc⟩ := sortedHeap_at (vs := vs) (out := out) top
    obtain ⟨N, pN, eN⟩ := perm_back (fun p : Addr × List Str => Value.ref p.1) (p1.trans pm) M rfl
    have rN : ∀ p ∈ N, txtsOf h2 (.ref p.1) = p.2 := fun p hp => tx p (pN.mem_iff.mp hp)
    have asc1 : Asc1 (lexL ltS) (rowT N) := by
      have ndN : (rowT N).Nodup := by
        have z : (rowT N).Perm (rowT M) := by unfold rowT; exact pN.map _
        exact z.nodup_iff.mpr nd
      rw [← eN, List.pairwise_map] at p2
      unfold Asc1 rowT
      rw [List.pairwise_map]
      have z := List.Pairwise.and p2 (List.pairwise_map.mp (show (N.map (·.2)).Nodup from ndN))
      refine List.Pairwise.imp_of_mem (fun {u v} hu hv h => ?_) z
      obtain ⟨h1, h3⟩ := h
      rw [rN u hu, rN v hv] at h1
      have mv : v.2 ∈ rowT M := List.mem_map.mpr ⟨v, pN.mem_iff.mp hv, rfl⟩
      cases c1 : lexL ltS u.2 v.2 with
      | true => rfl
      | false =>
        cases c2 : lexL ltS v.2 u.2 with
        | false => exact absurd (T2.tot _ _ c1 c2) h3
        | true =>
          rw [rank_lt T2 mv] at c2
          have := of_decide_eq_true c2
          omega
    refine wpAny_pure ⟨_, rfl, q _ s1.heap.objs.size out c N (fun b u e => ?_) g1 o1 z1 hc eN.symm pN asc1⟩
    have q := k1 b u e
    have lt := Heap.lt_size q
    show (sortedHeap h2 s1.heap.objs.size vs out).get? b = some u
    rw [sortedHeap_old (Nat.ne_of_lt lt) (by rw [← hh2, size_push']; exact Nat.lt_succ_of_lt lt), ← hh2]
    exact Heap.get?_push_of_some _ q
end
section
variable {X : Cx}
theorem Inv.tuk {pins : List (Addr × Obj)} {σ : L2.St} {H : Hp} {s : Shared} {b : Addr} {k : List Key} (I : Inv X pins σ H s) (h : SqT X.K H b (k.map kV)) : TuK X.prog X.w s.heap k b := by
  obtain ⟨its, r, ⟨o, g, c, n, d⟩, _⟩ := I.tuple h
  exact ⟨o, its.toArray, n, g, c, d, by simpa using items_are r⟩
theorem at_up {pins : List (Addr × Obj)} {σ : L2.St} {H : Hp} {s : Shared} {M : TL} (I : Inv X pins σ H s) (h : AtT X.K H M) : ∀ p ∈ upT M, TuK X.prog X.w s.heap p.2 p.1 := fun p hp => by
  obtain ⟨q, hq, rfl⟩ := List.mem_map.mp hp
  exact Inv.tuk I (by rw [← map_str]; exact h q hq)
theorem vals_refT : ∀ M : TL, Vals (refT M) (M.map fun p => Value.ref p.1)
  | [] => .nil
  | _ :: r => .cons rfl (vals_refT r)
theorem refT_vals : ∀ {M : TL} {us : List Value}, Vals (refT M) us → us = M.map fun p => Value.ref p.1
  | [], _, .nil => rfl
  | p :: r, _, .cons z t => by
    cases z
    rw [refT_vals t]
    rfl
/-- set(xs), xs a list or a tuple of tuples of texts -/
def rSetTT (K : PySem.W.Frag) (P : Program) (w : World) : List V → Hp → VK → Prop := fun xs H Q => ∃ (l : Addr) (M : TL), xs = [.ref l] ∧ (SqL K H l (refT M) ∨ SqT K H l (refT M)) ∧ AtT K H M ∧ M.length < 63 ∧
  ∀ a N, H a = none → (∀ p ∈ N, p ∈ M) → (∀ p ∈ M, p.2 ∈ rowT N) → (rowT N).Nodup → Q (.ref a) (upd H a (TO P w a N))
theorem cr_setTT (hc : X.calm = true) (hu : X.A.units + 4 < cLine) : CallR X (.type "set") (rSetTT X.K X.prog X.w) := by
  intro pins s σ H xs us Q I r h
  obtain ⟨l, M, rfl, hl, at_, few, q⟩ := h
  rw [Vals.ref1 r]
  have fin : ∀ h' tk L es ep t, StK X.prog X.w h' s.heap.objs.size L es ep t → (∀ p ∈ L, p ∈ upT M) → (∀ p ∈ upT M, p.2 ∈ keysK L) → (∀ b o, s.heap.get? b = some o → h'.get? b = some o) → EP X pins σ Q (.ref s.heap.objs.size) { s with heap := h', toks := tk } := fun h' tk L es ep t x m1 m2 kp => by
    obtain ⟨N, rfl, sub⟩ := down m1
    refine ⟨.ref s.heap.objs.size, upd H s.heap.objs.size (TO X.prog X.w s.heap.objs.size N), I.laid (t' := tk) kp (Nat.le_refl _) (to_new x.zero), rfl, q _ N (I.hok.fresh (Nat.le_refl _)) sub (fun p hp => ?_) (nodup_up x.one)⟩
    have z := m2 _ (mem_up.mpr hp)
    rw [keys_up] at z
    obtain ⟨k, hk, e⟩ := List.mem_map.mp z
    rw [← inr_inj e]
    exact hk
  have lM : (upT M).length = M.length := List.length_map _
  have rows : M.map (fun p => Value.ref p.1) = (upT M).map fun p => Value.ref p.1 := by
    unfold upT
    rw [List.map_map]
    rfl
  rcases hl with hl | hl
  · obtain ⟨its, rv, pl, hz⟩ := I.list hl
    exact call_set_t (all := upT M) (I.ok.hd hc) (.inl pl.isList) (by rw [← rows]; simpa using refT_vals rv) (by omega) (at_up I at_) hu fin
  · obtain ⟨its, rv, pl, hz⟩ := I.tuple hl
    exact call_set_t (all := upT M) (I.ok.hd hc) (.inr (show s.heap.IsTuple l its.toArray from pl)) (by rw [← rows]; simpa using refT_vals rv) (by omega) (at_up I at_) hu fin
/-- sorted(s), s such a set, none of the tuples empty -/
def rSortedTT (K : PySem.W.Frag) (P : Program) (w : World) : List V → Hp → VK → Prop := fun xs H Q => ∃ (a : Addr) (M : TL), xs = [.ref a] ∧ H a = some (TO P w a M) ∧ AtT K H M ∧ (∀ p ∈ M, p.2 ≠ []) ∧ ∀ N p, H p = none → N.Perm M → Asc1 (lexL ltS) (rowT N) → Q (.ref p) (upd H p (.lst (refT N)))
theorem cr_sortedTT (hc : X.calm = true) : CallR X (.builtin "sorted") (rSortedTT X.K X.prog X.w) := by
  intro pins s σ H xs us Q I r h
  obtain ⟨a, M, rfl, ha, at_, ne, q⟩ := h
  rw [Vals.ref1 r]
  have x : St0 X.prog X.w s.heap a (upT M) := (I.hok a _ ha).1
  have fM : M.length < 64 := by
    obtain ⟨_, _, _, _, _, _, _, _, _, z⟩ := x
    have lM : (upT M).length = M.length := List.length_map _
    omega
  refine sorted_tt x (at_up I at_) ne (I.ok.hd hc) fun s' d out c N k g o hd hg e pN asc1 => ?_
  have nn : H d = none := I.hok.fresh hd
  have zl : (refT N).length ≤ sizeLine := by
    unfold refT
    rw [List.length_map, pN.length_eq, sizeLine_eq]
    omega
  have rel : Vals (refT N) out.toList := by rw [e]; exact vals_refT N
  have J : Inv X pins σ (upd H d (.lst (refT N))) { s with heap := s'.heap, gens := s'.gens, drawn := s'.drawn, toks := s'.toks } :=
    I.call (ch := []) (Un.laid k hd nn) (I.hok.laid k hd ⟨zl, out.toList, c, rel, hg⟩) (g ▸ I.bare) fun _ z => nomatch z
  obtain ⟨hp, gs, dr, tk, os⟩ := s'
  obtain ⟨hp0, gs0, dr0, tk0, os0⟩ := s
  cases o
  exact ⟨.ref d, _, J, rfl, q N d nn pN asc1⟩
end
end K1
set_option linter.all false
set_option maxRecDepth 100000
set_option maxHeartbeats 2000000
/-! {k: v for t0 in i0 for t1 in i1}, keys ints and texts -/
namespace K1
open PySem PySem.Spec PyProof.Rows L2
theorem if_go {α : Type} {M : Model} {A : Around} {E : Value → Shared → Prop} {s : Shared} {x y : Sem α} {Q : α → Shared → Prop} (h : wpAny M A x Q E s) : wpAny M A (if true = true then x else y) Q E s := by
  rw [if_pos rfl]
  exact h
abbrev D2 (kx vx t0 i0 t1 i1 : Expr) (sc : Scope) (pos : Pos) : Expr := .DictComp kx vx [⟨t0, i0, [], 0⟩, ⟨t1, i1, [], 0⟩] sc pos
theorem turn_out (kx vx t0 i0 t1 i1 : Expr) (sc : Scope) (pos : Pos) (it acc : Value) (env : Env) : compTurn (D2 kx vx t0 i0 t1 i1 sc pos) 0 it acc env = (do
    standAt i0.pos
    match ← pyNext it with
    | none => pure (.done .next)
    | some v => do
      letOwnedTupleGo t0 it v
      assign t0 env v
      let mut go := true
      for c in ([] : List Expr) do
        if go then go ← isTrue c env (eval c env)
      if go then
        let x ← eval i1 env
        standAt i1.pos
        let x ← foldedSetIterable i1 env x
        let _ ← runOwn (.compStart (D2 kx vx t0 i0 t1 i1 sc pos) 1 (← holding [x] (pyIter x)) acc env) env
      again (.compLoop (D2 kx vx t0 i0 t1 i1 sc pos) 0 it acc env)) := by rfl
theorem turn_in (kx vx t0 i0 t1 i1 : Expr) (sc : Scope) (pos : Pos) (it : Value) (D : Addr) (env : Env) : compTurn (D2 kx vx t0 i0 t1 i1 sc pos) 1 it (.ref D) env = (do
    standAt i1.pos
    match ← pyNext it with
    | none => pure (.done .next)
    | some v => do
      letOwnedTupleGo t1 it v
      assign t1 env v
      let mut go := true
      for c in ([] : List Expr) do
        if go then go ← isTrue c env (eval c env)
      if go then
        (do
          let a ← eval kx env
          let b ← holding [a] (eval vx env)
          standAt { kx.pos with endLine := vx.pos.endLine, endCol := vx.pos.endCol }
          holding [a, b] (dictSet D a b))
      again (.compLoop (D2 kx vx t0 i0 t1 i1 sc pos) 1 it (.ref D) env)) := by rfl
section
variable {prog : Program} {w : World} {A : Around} {R : Result → Shared → Prop} {s : Shared} {kx vx t0 i0 t1 i1 : Expr} {sc : Scope} {pos : Pos} {it acc : Value} {D : Addr} {env : Env}
/-- what is raised within is noted -/
abbrev Noted (prog : Program) (w : World) (A : Around) (R : Result → Shared → Prop) (env : Env) : Value → Shared → Prop := notedBy (model prog w) A env fun e s' => R (.error e) s'
theorem loop_out (hs : ∀ x, foldedSetIterable i1 env x = pure x) (I : Nat → Shared → Prop)
    (turn : ∀ n s, I n s → wpAny (model prog w) A (pyNext it) (fun r s1 => match r with
      | none => R (.ok .next) s1
      | some v => wpAny (model prog w) A (letOwnedTupleGo t0 it v) (fun _ s2 => wpAny (model prog w) A (assign t0 env v) (fun _ s3 => wpAny (model prog w) A (eval i1 env) (fun x s4 => wpAny (model prog w) A (pyIter x) (fun j s5 =>
          codeAny (model prog w) A (.compStart (D2 kx vx t0 i0 t1 i1 sc pos) 1 j acc env) (fun r s' => match r with
            | .ok _ => ∃ m, m < n ∧ I m s'
            | .error _ => False) s5) (Noted prog w A R env) s4) (Noted prog w A R env) s3) (Noted prog w A R env) s2) (Noted prog w A R env) s1) (Noted prog w A R env) s)
    (n : Nat) (h : I n s) : codeAny (model prog w) A (.compLoop (D2 kx vx t0 i0 t1 i1 sc pos) 0 it acc env) R s := by
  refine codeAny_loop rfl I (fun n s hI => ?_) n h
  show wpAny _ A ((compTurn (D2 kx vx t0 i0 t1 i1 sc pos) 0 it acc env).onRaise (fun x => do noteFrame x env; theTreesLotGoes x)) _ _ s
  refine wpAny_noted ?_
  rw [turn_out]
  refine wpAny_bind (wpAny_standAt (wpAny_bind (wpAny_mono (turn n s hI) (fun r s1 h1 => ?_) fun _ _ z => z)))
  cases r with
  | none => exact wpAny_pure h1
  | some v =>
    refine wpAny_bind (wpAny_mono h1 (fun _ s2 h2 => wpAny_bind (wpAny_mono h2 (fun _ s3 h3 => ?_) fun _ _ z => z)) fun _ _ z => z)
    refine wpAny_bind (m := forIn _ _ _) ?_
    rw [List.forIn_nil]
    refine wpAny_pure (if_go ?_)
    refine wpAny_bind (wpAny_mono h3 (fun x s4 h4 => ?_) fun _ _ z => z)
    refine wpAny_bind (wpAny_standAt (wpAny_bind (wpAny_of_eq (hs x) (wpAny_bind (wpAny_holding (wpAny_mono h4 (fun j s5 h5 => ?_) fun _ _ z => z))))))
    refine wpAny_bind (wpAny_runOwn ?_)
    rw [Around.mark_none]
    refine codeAny_mono h5 fun r s' hr => ?_
    cases r with
    | ok f =>
      first
        | exact wpAny_pure ⟨rfl, hr⟩
        | exact wpAny_bind (wpAny_pure (wpAny_pure ⟨rfl, hr⟩))
    | error e => exact hr.elim
theorem loop_in (I : Nat → Shared → Prop)
    (turn : ∀ n s, I n s → wpAny (model prog w) A (pyNext it) (fun r s1 => match r with
      | none => R (.ok .next) s1
      | some v => wpAny (model prog w) A (letOwnedTupleGo t1 it v) (fun _ s2 => wpAny (model prog w) A (assign t1 env v) (fun _ s3 => wpAny (model prog w) A (eval kx env) (fun a s4 => wpAny (model prog w) A (eval vx env) (fun b s5 =>
          wpAny (model prog w) A (dictSet D a b) (fun _ s6 => ∃ m, m < n ∧ I m s6) (Noted prog w A R env) s5) (Noted prog w A R env) s4) (Noted prog w A R env) s3) (Noted prog w A R env) s2) (Noted prog w A R env) s1) (Noted prog w A R env) s)
    (n : Nat) (h : I n s) : codeAny (model prog w) A (.compLoop (D2 kx vx t0 i0 t1 i1 sc pos) 1 it (.ref D) env) R s := by
  refine codeAny_loop rfl I (fun n s hI => ?_) n h
  show wpAny _ A ((compTurn (D2 kx vx t0 i0 t1 i1 sc pos) 1 it (.ref D) env).onRaise (fun x => do noteFrame x env; theTreesLotGoes x)) _ _ s
  refine wpAny_noted ?_
  rw [turn_in]
  refine wpAny_bind (wpAny_standAt (wpAny_bind (wpAny_mono (turn n s hI) (fun r s1 h1 => ?_) fun _ _ z => z)))
  cases r with
  | none => exact wpAny_pure h1
  | some v =>
    refine wpAny_bind (wpAny_mono h1 (fun _ s2 h2 => wpAny_bind (wpAny_mono h2 (fun _ s3 h3 => ?_) fun _ _ z => z)) fun _ _ z => z)
    refine wpAny_bind (m := forIn _ _ _) ?_
    rw [List.forIn_nil]
    refine wpAny_pure (if_go ?_)
    exact wpAny_bind (wpAny_bind (wpAny_mono h3 (fun a s4 h4 => wpAny_bind (wpAny_holding (wpAny_mono h4 (fun b s5 h5 => wpAny_bind (wpAny_standAt (wpAny_holding (wpAny_mono h5 (fun _ s6 h6 => wpAny_pure ⟨rfl, h6⟩) fun _ _ z => z)))) fun _ _ z => z))) fun _ _ z => z))
theorem start_in (h0 : codeAny (model prog w) A (.compLoop (D2 kx vx t0 i0 t1 i1 sc pos) 1 it acc env) R s)
    (h : wpAny (model prog w) A (pyIter it) (fun j s' => codeAny (model prog w) A (.compLoop (D2 kx vx t0 i0 t1 i1 sc pos) 1 j acc env) R s') (Noted prog w A R env) s) :
    codeAny (model prog w) A (.compStart (D2 kx vx t0 i0 t1 i1 sc pos) 1 it acc env) R s := by
  refine codeAny_of_tree ?_
  show wpAny _ _ ((compStart (D2 kx vx t0 i0 t1 i1 sc pos) 1 it acc env).onRaise (fun x => do noteFrame x env; standAt theWindowsPlace)) _ _ s
  refine wpAny_notedAt ?_
  unfold compStart
  refine wpAny_bind (m := ask) (wpAny_askSetting (wpAny_ite ?_))
  split
  · first
      | exact wpAny_bind (wpAny_pure (wpAny_pure (And.intro rfl h0)))
      | exact wpAny_pure (And.intro rfl h0)
  · first
      | exact wpAny_bind (wpAny_rule (wpAny_bind (wpAny_standAt (wpAny_bind (wpAny_mono h (fun j s' z => wpAny_pure (And.intro rfl z)) fun _ _ x => x)))))
      | (refine wpAny_bind (wpAny_rule ?_); show wpAny _ _ (standAt i1.pos >>= _) _ _ s; exact wpAny_bind (wpAny_standAt (wpAny_bind (wpAny_mono h (fun j s' z => wpAny_pure (And.intro rfl z)) fun _ _ x => x))))
end
end K1
set_option linter.all false
set_option maxRecDepth 100000
set_option maxHeartbeats 2000000
namespace K1
open PySem PySem.Spec PyProof.Rows L2
/-- the second clause: from the heap that it begins with to what Nx says -/
def tDcIn (wi1 : TI) (g1 : TG) (tk tv : TE) (vs1 : List Nat) (D : Addr) (Nx : Hp → Prop) (σ2 : L2.St) (H3 : Hp) : Prop := wi1 σ2 H3 fun J1 H4 => ∃ W1 : Nat → Nat → Hp → Prop, (∃ m, W1 0 m H4) ∧ ∀ j k H, W1 j k H →
  (J1.stop j H ∧ Nx H) ∨ (J1.go j H ∧ ∃ N1 : Hp → Prop, (∀ H', N1 H' → ∃ k', k' < k ∧ W1 (j + 1) k' H') ∧ ∀ x H', J1.yld j H x H' → g1 x (wipe σ2 vs1) H' fun σ3 H5 => wipe σ3 vs1 = wipe σ2 vs1 ∧ tk σ3 H5 fun a H6 => tv σ3 H6 fun b H7 =>
    ∃ kvs k, a = kV k ∧ H7 D = some (.dK kvs) ∧ kvs.length < sizeLine ∧ N1 (upd H7 D (.dK (putK kvs k b))))
def tDc2 (wi : TI) (g : TG) (wi1 : TI) (g1 : TG) (tk tv : TE) (vs vs1 : List Nat) : TE := fun σ H Q => wi σ H fun J H1 => ∀ D, H1 D = none → ∃ W : Nat → Nat → Hp → Prop, (∃ m, W 0 m (upd H1 D (.dK []))) ∧ ∀ i m H, W i m H →
  (J.stop i H ∧ Q (.ref D) H) ∨ (J.go i H ∧ ∃ Nx : Hp → Prop, (∀ H', Nx H' → ∃ m', m' < m ∧ W (i + 1) m' H') ∧ ∀ x H', J.yld i H x H' → g x (wipe σ vs) H' fun σ2 H2 => wipe σ2 vs = wipe σ vs ∧ tDcIn wi1 g1 tk tv vs1 D Nx σ2 H2)
section
variable {X : Cx} {kx vx t0 i0 t1 i1 : Expr} {scope : Scope} {own : List (Str × Nat)} {vs1 : List Nat} {pos : Pos} {wi wi1 : TI} {g g1 : TG} {tk tv : TE}
theorem pe_dc2 (hc : X.calm = true) (hN : X.N.Nodup) (hi : PI X t0 i0 wi) (ok : BlkOk X.N X.env.scope scope own) (hv : ∀ i ∈ vs1, i ∈ own.map (·.2))
    (pg : ∀ (s : Shared) (H : Hp) (C : Addr) (cl : List (Str × Addr)) (fp : List Addr), PG (X.blk s H scope (compEnvC scope cl C X.env) fp) t0 g)
    (pj : ∀ (s : Shared) (H : Hp) (C : Addr) (cl : List (Str × Addr)) (fp : List Addr), PI (X.blk s H scope (compEnvC scope cl C X.env) fp) t1 i1 wi1)
    (pg1 : ∀ (s : Shared) (H : Hp) (C : Addr) (cl : List (Str × Addr)) (fp : List Addr), PG (X.blk s H scope (compEnvC scope cl C X.env) fp) t1 g1)
    (pk : ∀ (s : Shared) (H : Hp) (C : Addr) (cl : List (Str × Addr)) (fp : List Addr), PE (X.blk s H scope (compEnvC scope cl C X.env) fp) kx tk)
    (pv' : ∀ (s : Shared) (H : Hp) (C : Addr) (cl : List (Str × Addr)) (fp : List Addr), PE (X.blk s H scope (compEnvC scope cl C X.env) fp) vx tv)
    (fs : ∀ x, foldedSetIterable i0 X.env x = pure x := by intro _; rfl) (fs1 : ∀ env x, foldedSetIterable i1 env x = pure x := by intro _ _; rfl) :
    PE X (D2 kx vx t0 i0 t1 i1 scope pos) (tDc2 wi g wi1 g1 tk tv (own.map (·.2)) vs1) := by
  refine ⟨fun pins s σ H Q I h => ?_⟩
  unfold D2
  rw [arm_eval_DictComp]
  have clo : ∀ y ∈ scope.names, y.2 = .free → ∃ c, X.env.cells.lookup y.1 = some c := fun y hy e =>
    (ok.free y hy e).elim (fun z => I.ok.has _ (.inl z)) fun z => I.ok.has _ (.inr z)
  refine wpAny_comprehension_free (use := _) rfl fs (closure_ok clo) ok.kind (fun y hy e => by rw [ok.uniq y hy, e]) (thn (hi.run pins s σ H _ I h) fun _ s1 z1 => thn z1 fun _ s2 z2 => ?_)
  obtain ⟨it, fp, tn, J, H2, rfl, I2, T, st2, f2, q⟩ := z2
  refine wpAny_newObj_type (newEnv_comp ?_)
  have free2 : H2 s2.heap.objs.size = none := I2.hok.fresh (Nat.le_refl _)
  obtain ⟨W, ⟨m0, w0⟩, turn⟩ := q s2.heap.objs.size free2
  have below : ∀ b ∈ fp, b < s2.heap.objs.size := fun b hb => (T.obj _ _ st2 b hb).elim fun o z => Heap.lt_size z.1
  obtain ⟨s3, e3⟩ : ∃ s3 : Shared, s3 = { s2 with heap := s2.heap.push { cls := .type "dict", data := .dict #[] } } := ⟨_, rfl⟩
  have h3 : s3.heap = s2.heap.push { cls := .type "dict", data := .dict #[] } := by rw [e3]
  have keep3 : ∀ b o, s2.heap.get? b = some o → s3.heap.get? b = some o := fun b o e => by rw [h3]; exact Heap.get?_push_of_some _ e
  obtain ⟨D, eD⟩ : ∃ D, D = s2.heap.objs.size := ⟨_, rfl⟩
  rw [← eD] at w0 turn free2
  have I3 : Inv X pins σ (upd H2 D (.dK [])) s3 := by
    rw [e3, eD]
    exact I2.laid (t' := s2.toks) (fun b o e => Heap.get?_push_of_some _ e) (Nat.le_refl _) (dk_empty s2.heap I2.big)
  obtain ⟨H3, eH⟩ : ∃ H3, H3 = upd H2 D (.dK []) := ⟨_, rfl⟩
  rw [← eH] at I3 w0
  have f3 : ∀ b ∈ fp, FpOk X pins H3 b ∧ b < s3.heap.objs.size := fun b hb => by
    have lt := below b hb
    have nD : H3 b = none := by
      rw [eH, upd_ne (by rw [eD]; exact Nat.ne_of_lt lt)]
      exact (f2 b hb).1
    exact ⟨⟨nD, (f2 b hb).2⟩, by rw [h3, Heap.size_push]; exact Nat.lt_succ_of_lt lt⟩
  have st3 : tn 0 s3.heap := T.keep _ _ _ st2 fun b _ o e => keep3 b o e
  have I4 := block_start I3 ok hN f3
  have G := pg s3 H3 s3.heap.objs.size (cellsFrom (s3.heap.objs.size + 1) scope.names (cloFrom X.env.cells scope.names [])) fp
  have Jj := pj s3 H3 s3.heap.objs.size (cellsFrom (s3.heap.objs.size + 1) scope.names (cloFrom X.env.cells scope.names [])) fp
  have G1 := pg1 s3 H3 s3.heap.objs.size (cellsFrom (s3.heap.objs.size + 1) scope.names (cloFrom X.env.cells scope.names [])) fp
  have Kk := pk s3 H3 s3.heap.objs.size (cellsFrom (s3.heap.objs.size + 1) scope.names (cloFrom X.env.cells scope.names [])) fp
  have Vv := pv' s3 H3 s3.heap.objs.size (cellsFrom (s3.heap.objs.size + 1) scope.names (cloFrom X.env.cells scope.names [])) fp
  rw [← h3, ← eD]
  show codeAny _ _ (.compStart (D2 kx vx t0 i0 t1 i1 scope pos) 0 (.ref it) (.ref D) (compEnvC scope (cellsFrom (s3.heap.objs.size + 1) scope.names (cloFrom X.env.cells scope.names [])) s3.heap.objs.size X.env)) _ _
  obtain ⟨ce, ec⟩ : ∃ ce, ce = compEnvC scope (cellsFrom (s3.heap.objs.size + 1) scope.names (cloFrom X.env.cells scope.names [])) s3.heap.objs.size X.env := ⟨_, rfl⟩
  have cL : ce.locals = s3.heap.objs.size := by rw [ec]; rfl
  rw [← ec] at I4 G Jj G1 Kk Vv ⊢
  obtain ⟨s4, e4⟩ : ∃ s4 : Shared, s4 = { s3 with heap := pushCells (s3.heap.push { cls := .type "dict", data := .dict #[] }) scope.names } := ⟨_, rfl⟩
  have es : ({ s2 with heap := pushCells (s3.heap.push { cls := .type "dict", data := .dict #[] }) scope.names } : Shared) = s4 := by rw [e4, e3]
  rw [es]
  rw [← e4] at I4
  have st4 : tn 0 s4.heap := T.keep _ _ _ st3 fun b _ o e => by rw [e4]; exact pushCells_keeps _ _ _ _ (Heap.get?_push_of_some _ e)
  have fpNow : ∀ {σ' : L2.St} {H' : Hp} {s' : Shared}, Inv (X.blk s3 H3 scope ce fp) [] σ' H' s' → (∀ b ∈ fp, H' b = none) → ∀ b ∈ fp, FpOk (X.blk s3 H3 scope ce fp) [] H' b := fun J' hn b hb =>
    ⟨hn b hb, (J'.ok.exf b hb).1, J'.ok.exfs b hb, .inl hb, fun x c e => (J'.ok.exf b hb).2 x c e, fun p hp => nomatch (show p ∈ ([] : List (Addr × Obj)) from hp)⟩
  refine codeAny_compStart_dict ?_ (T.self X.A 0 _ _ _ st4 ?_)
  all_goals
    refine loop_out (fs1 ce) (fun n s' => ∃ i H', Inv (X.blk s3 H3 scope ce fp) [] (wipe σ (own.map (·.2))) H' s' ∧ tn i s'.heap ∧ (∀ b ∈ fp, H' b = none) ∧ W i n H') ?_ m0 ⟨0, H3, I4, st4, fun b hb => (f3 b hb).1.1, w0⟩
    rintro n s5 ⟨i, H5, I5, st5, n5, w5⟩
    rcases turn i n H5 w5 with ⟨stop, qq⟩ | ⟨go, Nx, hNx, step⟩
    · refine thnF (T.done (X.blk s3 H3 scope ce fp) rfl rfl rfl hc i [] s5 _ H5 (fun _ _ => False) I5 (fpNow I5 n5) st5 stop) fun r s6 ⟨hr, I6⟩ => ?_
      subst hr
      have I7 : Inv X pins σ H5 s6 := I3.call' (ch := fp) I6.os I6.base I6.hok I6.bare fun b hb =>
        have f := (f3 b hb).1.2
        ⟨f.2.2.1, f.1, f.2.2.2.1, f.2.2.2.2⟩
      obtain ⟨m, hn, _⟩ := I6.loc
      have hn' : s6.heap.Ns ce.locals m := hn
      have nC : H5 ce.locals = none := I6.free
      rw [cL] at hn' nC
      obtain ⟨g0, g1, g2, g3, g4, g5⟩ := I3.fpOk (Nat.le_refl _) nC
      exact ⟨m, hn', fun h2 sb => ⟨.ref D, H5, I7.turned (t' := s6.toks) (fun b o hb e => (sb.2 b hb).trans e) g0 g1 g3 g4 g5, rfl, qq⟩⟩
    · refine thnF (T.item (X.blk s3 H3 scope ce fp) rfl rfl rfl hc i [] s5 _ H5 (fun _ _ => False) I5 (fpNow I5 n5) st5 go) fun r s6 ⟨u, hr, z6⟩ => ?_
      subst hr
      refine thnF z6 fun _ s7 ⟨x, H7, I7, r7, y7, st7, n7⟩ => ?_
      refine thnF (G.run _ s7 _ H7 x u _ (I7.pinned (fpNow I7 n7) (T.obj _ _ st7)) r7 (step x H7 y7)) fun _ s8 ⟨σ8, H8, I8, hw8, q8⟩ => ?_
      have l8 : (wipe σ (own.map (·.2))).length = σ8.length := by rw [← hw8, wipe_length]
      have k9 : ∀ (j : Nat) v, (wipe σ (own.map (·.2)))[j]? = some (some v) → (wipe σ8 vs1)[j]? = some (some v) := fun j v e => by
        rw [← hw8] at e
        obtain ⟨e1, e2⟩ := wipe_some e
        rw [wipe_out fun z => e2 (hv j z)]
        exact e1
      have again : ∀ {s' : Shared} {H' : Hp}, Inv (X.blk s3 H3 scope ce fp) ([] ++ pinsAt fp s7.heap) (wipe σ8 vs1) H' s' → Nx H' → ∃ m, m < n ∧ ∃ i H', Inv (X.blk s3 H3 scope ce fp) [] (wipe σ (own.map (·.2))) H' s' ∧ tn i s'.heap ∧ (∀ b ∈ fp, H' b = none) ∧ W i m H' := fun {s' H'} J' nx => by
        obtain ⟨m', lt, w'⟩ := hNx H' nx
        have pinned : ∀ b ∈ fp, ∀ o, s7.heap.get? b = some o → s'.heap.get? b = some o ∧ H' b = none := fun b hb o e =>
          have z := J'.pin (b, o) (List.mem_append_right _ (List.mem_append_right _ (mem_pinsAt hb e)))
          ⟨z.1, z.2.1⟩
        refine ⟨m', lt, i + 1, H', (J'.unpinned (pins := [])).weak (l8.trans (wipe_length _ _).symm) k9, T.keep _ _ _ st7 fun b hb o e => (pinned b hb o e).1, fun b hb => ?_, w'⟩
        exact (T.obj _ _ st7 b hb).elim fun o z => (pinned b hb o z.1).2
      refine thnF (Jj.run _ s8 σ8 H8 _ I8 q8) fun _ s9 z9 => thnF z9 fun _ s10 z10 => ?_
      obtain ⟨it1, fp1, tn1, J1, H10, e1, I10, T1, st10, f10, W1, ⟨m1, w1⟩, turn1⟩ := z10
      subst e1
      have fp1Now : ∀ {H' : Hp}, (∀ b ∈ fp1, H' b = none) → ∀ b ∈ fp1, FpOk (X.blk s3 H3 scope ce fp) ([] ++ pinsAt fp s7.heap) H' b := fun hn b hb => ⟨hn b hb, (f10 b hb).2⟩
      have inner : codeAny (model X.prog X.w) X.A (.compLoop (D2 kx vx t0 i0 t1 i1 scope pos) 1 (.ref it1) (.ref D) ce) (fun r s' => match r with
          | .ok _ => ∃ m, m < n ∧ ∃ i H', Inv (X.blk s3 H3 scope ce fp) [] (wipe σ (own.map (·.2))) H' s' ∧ tn i s'.heap ∧ (∀ b ∈ fp, H' b = none) ∧ W i m H'
          | .error _ => False) s10 := by
        refine loop_in (fun k s' => ∃ j H', Inv (X.blk s3 H3 scope ce fp) ([] ++ pinsAt fp s7.heap) (wipe σ8 vs1) H' s' ∧ tn1 j s'.heap ∧ (∀ b ∈ fp1, H' b = none) ∧ W1 j k H') ?_ m1 ⟨0, H10, I10.weak (wipe_length _ _) (fun j v e => (wipe_some e).1), st10, fun b hb => (f10 b hb).1, w1⟩
        rintro k s11 ⟨j, H11, I11, st11, n11, w11⟩
        rcases turn1 j k H11 w11 with ⟨stop1, nx1⟩ | ⟨go1, N1, hN1, step1⟩
        · refine thnF (T1.done (X.blk s3 H3 scope ce fp) rfl rfl rfl hc j _ s11 (wipe σ8 vs1) H11 (fun _ _ => False) I11 (fp1Now n11) st11 stop1) fun r s12 ⟨hr, I12⟩ => ?_
          subst hr
          exact again I12 nx1
        · refine thnF (T1.item (X.blk s3 H3 scope ce fp) rfl rfl rfl hc j _ s11 (wipe σ8 vs1) H11 (fun _ _ => False) I11 (fp1Now n11) st11 go1) fun r s12 ⟨u1, hr, z12⟩ => ?_
          subst hr
          refine thnF z12 fun _ s13 ⟨x1, H13, I13, r13, y13, st13, n13⟩ => ?_
          refine thnF (G1.run _ s13 (wipe σ8 vs1) H13 x1 u1 _ (I13.pinned (fp1Now n13) (T1.obj _ _ st13)) r13 (step1 x1 H13 y13)) fun _ s14 ⟨σ14, H14, I14, hw14, q14⟩ => ?_
          have again1 : ∀ {s' : Shared} {H' : Hp}, Inv (X.blk s3 H3 scope ce fp) (([] ++ pinsAt fp s7.heap) ++ pinsAt fp1 s13.heap) σ14 H' s' → N1 H' → ∃ m, m < k ∧ ∃ j H', Inv (X.blk s3 H3 scope ce fp) ([] ++ pinsAt fp s7.heap) (wipe σ8 vs1) H' s' ∧ tn1 j s'.heap ∧ (∀ b ∈ fp1, H' b = none) ∧ W1 j m H' := fun {s' H'} J' nx => by
            obtain ⟨m', lt, w'⟩ := hN1 H' nx
            have pinned : ∀ b ∈ fp1, ∀ o, s13.heap.get? b = some o → s'.heap.get? b = some o ∧ H' b = none := fun b hb o e =>
              have z := J'.pin (b, o) (List.mem_append_right _ (List.mem_append_right _ (mem_pinsAt hb e)))
              ⟨z.1, z.2.1⟩
            refine ⟨m', lt, j + 1, H', J'.unpinned.weak (by rw [← hw14, wipe_length]) (fun j v e => by rw [← hw14] at e; exact (wipe_some e).1), T1.keep _ _ _ st13 fun b hb o e => (pinned b hb o e).1, fun b hb => ?_, w'⟩
            exact (T1.obj _ _ st13 b hb).elim fun o z => (pinned b hb o z.1).2
          refine thnF (Kk.run _ s14 σ14 H14 _ I14 q14) fun z s15 ⟨yk, H15, I15, r15, q15⟩ => ?_
          refine thnF (Vv.run _ s15 σ14 H15 _ I15 q15) fun z' s16 ⟨yv, H16, I16, r16, kvs, kk, ek, hD, hz, nx⟩ => ?_
          subst ek
          exact d_dictSet (X := X.blk s3 H3 scope ce fp) I16 hD hz r15 r16 fun s17 I17 => again1 I17 nx
      exact start_in inner (T1.self X.A 0 _ _ _ st10 inner)
end
/-- over two walks: Pv by the outer turn and the heap, Pi by both -/
theorem dc2_it {J : It} {n : Nat} {G : Hp → Prop} {Y : Nat → Hp → V → Hp → Prop} (w : Walk J n G Y) {g : TG} {wi1 : TI} {g1 : TG} {tk tv : TE} {vs vs1 : List Nat} {σ : L2.St} {H1 : Hp} {D : Addr} {Qd : Hp → Prop} (Pv : Nat → Hp → Prop) (h0 : Pv 0 (upd H1 D (.dK []))) (hG : ∀ i H, i ≤ n → Pv i H → G H)
    (hs : ∀ i x H H', i < n → Pv i H → Y i H x H' → g x (wipe σ vs) H' fun σ2 H2 => wipe σ2 vs = wipe σ vs ∧ tDcIn wi1 g1 tk tv vs1 D (Pv (i + 1)) σ2 H2) (hd : ∀ H, Pv n H → Qd H) :
    ∃ W : Nat → Nat → Hp → Prop, (∃ m, W 0 m (upd H1 D (.dK []))) ∧ ∀ i m H, W i m H →
      (J.stop i H ∧ Qd H) ∨ (J.go i H ∧ ∃ Nx : Hp → Prop, (∀ H', Nx H' → ∃ m', m' < m ∧ W (i + 1) m' H') ∧ ∀ x H', J.yld i H x H' → g x (wipe σ vs) H' fun σ2 H2 => wipe σ2 vs = wipe σ vs ∧ tDcIn wi1 g1 tk tv vs1 D Nx σ2 H2) := by
  refine ⟨fun i m H => (m + i = n) ∧ Pv i H, ⟨n, rfl, h0⟩, ?_⟩
  rintro i m H ⟨e, p⟩
  have q := hG i H (by omega) p
  rcases Nat.lt_or_ge i n with c | c
  · exact .inr ⟨w.goes i H c q, Pv (i + 1), fun H' p' => ⟨m - 1, by omega, by omega, p'⟩, fun x H' y => hs i x H H' c p (w.yields i H x H' c q y)⟩
  · obtain rfl : i = n := by omega
    exact .inl ⟨w.stops H q, hd H p⟩
theorem dcIn_it {J1 : It} {n : Nat} {G : Hp → Prop} {Y : Nat → Hp → V → Hp → Prop} (w : Walk J1 n G Y) {g1 : TG} {tk tv : TE} {vs1 : List Nat} {D : Addr} {Nx : Hp → Prop} {σ2 : L2.St} {H4 : Hp} (Pv : Nat → Hp → Prop) (h0 : Pv 0 H4) (hG : ∀ i H, i ≤ n → Pv i H → G H)
    (hs : ∀ i x H H', i < n → Pv i H → Y i H x H' → g1 x (wipe σ2 vs1) H' fun σ3 H5 => wipe σ3 vs1 = wipe σ2 vs1 ∧ tk σ3 H5 fun a H6 => tv σ3 H6 fun b H7 => ∃ kvs k, a = kV k ∧ H7 D = some (.dK kvs) ∧ kvs.length < sizeLine ∧ Pv (i + 1) (upd H7 D (.dK (putK kvs k b)))) (hd : ∀ H, Pv n H → Nx H) :
    ∃ W1 : Nat → Nat → Hp → Prop, (∃ m, W1 0 m H4) ∧ ∀ j k H, W1 j k H →
      (J1.stop j H ∧ Nx H) ∨ (J1.go j H ∧ ∃ N1 : Hp → Prop, (∀ H', N1 H' → ∃ k', k' < k ∧ W1 (j + 1) k' H') ∧ ∀ x H', J1.yld j H x H' → g1 x (wipe σ2 vs1) H' fun σ3 H5 => wipe σ3 vs1 = wipe σ2 vs1 ∧ tk σ3 H5 fun a H6 => tv σ3 H6 fun b H7 =>
        ∃ kvs k, a = kV k ∧ H7 D = some (.dK kvs) ∧ kvs.length < sizeLine ∧ N1 (upd H7 D (.dK (putK kvs k b)))) := by
  refine ⟨fun i m H => (m + i = n) ∧ Pv i H, ⟨n, rfl, h0⟩, ?_⟩
  rintro i m H ⟨e, p⟩
  have q := hG i H (by omega) p
  rcases Nat.lt_or_ge i n with c | c
  · exact .inr ⟨w.goes i H c q, Pv (i + 1), fun H' p' => ⟨m - 1, by omega, by omega, p'⟩, fun x H' y => hs i x H H' c p (w.yields i H x H' c q y)⟩
  · obtain rfl : i = n := by omega
    exact .inl ⟨w.stops H q, hd H p⟩
end K1
set_option linter.all false
set_option maxRecDepth 100000
set_option maxHeartbeats 2000000
/-! zip of two sequences, each a list or a tuple -/
namespace K1
open PySem PySem.Spec PyProof.Rows L2
open Sem (wp)
open AutoSeq1 (wpAny_loadPart')
/-- a tuple (true) or a list (false) -/
def SqB (K : PySem.W.Frag) (t : Bool) (H : Hp) (a : Addr) (xs : List V) : Prop := if t = true then SqT K H a xs else SqL K H a xs
def IsB (t : Bool) (h : Heap) (a : Addr) (items : Array Value) : Prop := if t = true then h.IsTuple a items else h.IsList a items
def itB (t : Bool) : String := if t = true then "tuple_iterator" else "list_iterator"
def IterB (t : Bool) (h : Heap) (it a : Addr) (i : Nat) : Prop := if t = true then h.IsTupleIter it a i else h.IsListIter it a i
theorem IsB.push {t : Bool} {h : Heap} {a : Addr} {items : Array Value} (x : IsB t h a items) (o : Obj) : IsB t (h.push o) a items := by
  cases t with
  | true => exact Heap.IsTuple.push (show h.IsTuple a items from x) o
  | false => exact Heap.IsList.push (show h.IsList a items from x) o
theorem IsB.live {t : Bool} {h : Heap} {a : Addr} {items : Array Value} (x : IsB t h a items) : a < h.objs.size := by
  cases t with
  | true =>
    obtain ⟨o, e, _⟩ := (show h.IsTuple a items from x)
    exact Heap.lt_size e
  | false =>
    obtain ⟨o, e, _⟩ := (show h.IsList a items from x)
    exact Heap.lt_size e
theorem IterB.live {t : Bool} {h : Heap} {it a : Addr} {i : Nat} (x : IterB t h it a i) : ∃ o cl vs, h.get? it = some o ∧ o.data = .fields vs ∧ o.cls = .type cl := by
  cases t with
  | true =>
    obtain ⟨o, e, c, d⟩ := (show h.IsTupleIter it a i from x)
    exact ⟨o, _, _, e, d, c⟩
  | false =>
    obtain ⟨o, e, c, d⟩ := (show h.IsListIter it a i from x)
    exact ⟨o, _, _, e, d, c⟩
theorem IterB.at {t : Bool} {h h' : Heap} {it a : Addr} {i : Nat} (x : IterB t h it a i) (k : ∀ o, h.get? it = some o → h'.get? it = some o) : IterB t h' it a i := by
  cases t with
  | true => exact Heap.IsTupleIter.at (show h.IsTupleIter it a i from x) k
  | false => exact Heap.IsListIter.at (show h.IsListIter it a i from x) k
theorem IsB.at {t : Bool} {h h' : Heap} {a : Addr} {items : Array Value} (x : IsB t h a items) (k : ∀ o, h.get? a = some o → h'.get? a = some o) : IsB t h' a items := by
  cases t with
  | true => exact Heap.IsTuple.at (show h.IsTuple a items from x) k
  | false => exact Heap.IsList.at (show h.IsList a items from x) k
section
variable {prog : Program} {w : World} {A : Around} {E : Value → Shared → Prop} {s : Shared}
theorem iter_B {t : Bool} {a : Addr} {items : Array Value} {Q : Value → Shared → Prop} (x : IsB t s.heap a items) (q : Q (.ref s.heap.objs.size) { s with heap := s.heap.push { cls := .type (itB t), data := .fields #[.ref a, .int 0 0] } }) : wpAny (model prog w) A (pyIter (.ref a)) Q E s := by
  cases t with
  | true => exact wpAny_pyIter_tuple (show s.heap.IsTuple a items from x) q
  | false => exact wpAny_pyIter_list (show s.heap.IsList a items from x) q
theorem draws_B (hh : A.handled = none) (t : Bool) (it a : Addr) (ne : a ≠ it) (items : Array Value) : Draws prog w A it [it, a] items.size (fun i v => items[i]? = some v) (fun i h => IterB t h it a i ∧ IsB t h a items) := by
  cases t with
  | true => exact Draws.tuple hh it a ne items
  | false => exact Draws.list hh it a ne items
abbrev zB1 (h : Heap) (t1 : Bool) (a : Addr) : Heap := h.push { cls := .type (itB t1), data := .fields #[.ref a, .int 0 0] }
abbrev zB2 (h : Heap) (t1 t2 : Bool) (a b : Addr) : Heap := (zB1 h t1 a).push { cls := .type (itB t2), data := .fields #[.ref b, .int 0 0] }
abbrev zB3 (h : Heap) (t1 t2 : Bool) (a b : Addr) : Heap := (zB2 h t1 t2 a b).push { cls := .type "tuple", data := .seq #[.ref h.objs.size, .ref (zB1 h t1 a).objs.size] }
abbrev zB4 (h : Heap) (t1 t2 : Bool) (a b : Addr) : Heap := (zB3 h t1 t2 a b).push { cls := .type "tuple", data := .seq #[.none, .none] }
abbrev zB5 (h : Heap) (t1 t2 : Bool) (a b : Addr) : Heap := (zB4 h t1 t2 a b).push { cls := .type "zip", data := .fields #[.none, .bool false, .bool false, .ref (zB2 h t1 t2 a b).objs.size, .ref (zB3 h t1 t2 a b).objs.size] }
theorem meets_zB (t1 t2 : Bool) (a b : Addr) (xs ys : Array Value) :
    Meets (Builtin.«zip.__new__» ⟨[.type "zip", .ref a, .ref b], []⟩) (fun _ R s => IsB t1 s.heap a xs ∧ IsB t2 s.heap b ys ∧ R (.ok (.ret (.ref (zB4 s.heap t1 t2 a b).objs.size))) { s with heap := zB5 s.heap t1 t2 a b }) :=
  .of_wp fun prog w A R s h => by
    obtain ⟨hp, g, d, tk, os⟩ := s
    obtain ⟨h1, h2, h⟩ := h
    have sub := sub_zip
    have L1 : IsB t1 (Shared.heap ⟨hp, g, d, tk, os⟩) a xs := h1
    have L2 : IsB t2 (Shared.heap ⟨hp.push { cls := .type (itB t1), data := .fields #[.ref a, .int 0 0] }, g, d, tk, os⟩) b ys := IsB.push h2 _
    wp_walk using iter_B L1, iter_B L2
    exact ⟨_, rfl, h⟩
theorem call_zB {t1 t2 : Bool} {a b : Addr} {xs ys : Array Value} {Q : Value → Shared → Prop} (h1 : IsB t1 s.heap a xs) (h2 : IsB t2 s.heap b ys)
    (k : ∀ h', IsZip h' (s.heap.objs.size + 4) (s.heap.objs.size + 2) (s.heap.objs.size + 3) .none → IsPair h' (s.heap.objs.size + 2) (.ref s.heap.objs.size) (.ref (s.heap.objs.size + 1)) → IsPair h' (s.heap.objs.size + 3) .none .none →
      IterB t1 h' s.heap.objs.size a 0 → IterB t2 h' (s.heap.objs.size + 1) b 0 → (∀ c o, s.heap.get? c = some o → h'.get? c = some o) → Q (.ref (s.heap.objs.size + 4)) { s with heap := h' }) :
    wpAny (model prog w) A (call (.type "zip") [.ref a, .ref b]) Q E s := by
  refine callType_new F.called_zip (by decide) (F.typeCall_zip_2 _ _) (F.newCall_zip_2 _ _) (fun obj => F.args_object_init_3 obj _ _) F.entry_zip_new (meets_zB t1 t2 a b xs ys) ⟨h1, h2, ?_⟩
  have z1 : (zB1 s.heap t1 a).objs.size = s.heap.objs.size + 1 := Heap.size_push ..
  have z2 : (zB2 s.heap t1 t2 a b).objs.size = s.heap.objs.size + 2 := by rw [Heap.size_push, z1]
  have z3 : (zB3 s.heap t1 t2 a b).objs.size = s.heap.objs.size + 3 := by rw [Heap.size_push, z2]
  have z4 : (zB4 s.heap t1 t2 a b).objs.size = s.heap.objs.size + 4 := by rw [Heap.size_push, z3]
  have up : ∀ {h : Heap} {o : Obj} {c : Addr} {p : Obj}, h.get? c = some p → (h.push o).get? c = some p := fun e => Heap.get?_push_of_some _ e
  have g5 : (zB5 s.heap t1 t2 a b).get? (zB4 s.heap t1 t2 a b).objs.size = some _ := Heap.get?_push_size _ rfl
  have g4 : (zB5 s.heap t1 t2 a b).get? (zB3 s.heap t1 t2 a b).objs.size = some _ := up (Heap.get?_push_size _ rfl)
  have g3 : (zB5 s.heap t1 t2 a b).get? (zB2 s.heap t1 t2 a b).objs.size = some _ := up (up (Heap.get?_push_size _ rfl))
  have g2 : (zB5 s.heap t1 t2 a b).get? (zB1 s.heap t1 a).objs.size = some _ := up (up (up (Heap.get?_push_size _ rfl)))
  have g1 : (zB5 s.heap t1 t2 a b).get? s.heap.objs.size = some _ := up (up (up (up (Heap.get?_push_size _ rfl))))
  have i1 : IterB t1 (zB5 s.heap t1 t2 a b) s.heap.objs.size a 0 := by
    cases t1 with
    | true => exact ⟨_, g1, rfl, rfl⟩
    | false => exact ⟨_, g1, rfl, rfl⟩
  have i2 : IterB t2 (zB5 s.heap t1 t2 a b) (zB1 s.heap t1 a).objs.size b 0 := by
    cases t2 with
    | true => exact ⟨_, g2, rfl, rfl⟩
    | false => exact ⟨_, g2, rfl, rfl⟩
  show _ ∧ _
  rw [z2, z3, z4] at g5
  rw [z1, z2] at g3
  rw [z3] at g4
  rw [z1] at i2
  rw [z4]
  exact ⟨⟨_, g5, rfl⟩, k _ g5 g3 g4 i1 i2 fun c o x => up (up (up (up (up x))))⟩
end
theorem SqB.get {X : Cx} {pins : List (Addr × Obj)} {σ : L2.St} {H : Hp} {s : Shared} {t : Bool} {a : Addr} {xs : List V} (I : Inv X pins σ H s) (h : SqB X.K t H a xs) : ∃ its : List Value, Vals xs its ∧ IsB t s.heap a its.toArray := by
  cases t with
  | true =>
    obtain ⟨its, rv, p, _⟩ := I.tuple (show SqT X.K H a xs from h)
    exact ⟨its, rv, p⟩
  | false =>
    obtain ⟨its, rv, p, _⟩ := I.list (show SqL X.K H a xs from h)
    exact ⟨its, rv, p.isList⟩
theorem SqB.inj {X : Cx} {pins : List (Addr × Obj)} {σ : L2.St} {H : Hp} {s : Shared} {t : Bool} {a : Addr} {xs ys : List V} (I : Inv X pins σ H s) (h : SqB X.K t H a xs) (h' : SqB X.K t H a ys) : xs = ys := by
  cases t with
  | true => exact I.tuple_inj (show SqT X.K H a xs from h) h'
  | false => exact I.list_inj (show SqL X.K H a xs from h) h'
def ItzB (K : PySem.W.Frag) (t1 t2 : Bool) (a b : Addr) : It :=
  ⟨fun i H => ∃ (xs ys : List V) (x y : V), SqB K t1 H a xs ∧ SqB K t2 H b ys ∧ xs[i]? = some x ∧ ys[i]? = some y,
    fun i H v H' => ∃ T x y, v = .ref T ∧ H T = none ∧ H' = upd H T (.tup [x, y]) ∧ (∀ xs, SqB K t1 H a xs → xs[i]? = some x) ∧ ∀ ys, SqB K t2 H b ys → ys[i]? = some y,
    fun i H => ∃ xs ys : List V, SqB K t1 H a xs ∧ SqB K t2 H b ys ∧ i ≤ xs.length ∧ i ≤ ys.length ∧ (i = xs.length ∨ i = ys.length)⟩
theorem turn_zB {P : Program} {w : World} {K : PySem.W.Frag} {elts : List Expr} {kk : Nat} {tpos : Pos} {t1 t2 : Bool} {a b z TI TO i1 i2 : Addr} (D : ZipApart z TI TO i1 i2 a b) :
    Turn P w K (.Tuple elts kk tpos) (ItzB K t1 t2 a b) [z, TI, TO, i1, i2] z (fun i h => IsZip h z TI TO .none ∧ IsPair h TI (.ref i1) (.ref i2) ∧ (∃ x y, IsPair h TO x y) ∧ IterB t1 h i1 a i ∧ IterB t2 h i2 b i) where
  mem := by simp
  obj := fun i h st c hc => by
    obtain ⟨hz, hTI, ⟨x, y, hTO⟩, h1, h2⟩ := st
    obtain ⟨o1, _, _, e1, d1, _⟩ := h1.live
    obtain ⟨o2, _, _, e2, d2, _⟩ := h2.live
    have e' : c = z ∨ c = TI ∨ c = TO ∨ c = i1 ∨ c = i2 := by simpa using hc
    rcases e' with q | q | q | q | q
    · rw [q]; exact ⟨_, hz, fun v q => nomatch q⟩
    · rw [q]; exact ⟨_, hTI, fun v q => nomatch q⟩
    · rw [q]; exact ⟨_, hTO, fun v q => nomatch q⟩
    · rw [q]; exact ⟨o1, e1, fun v q => by rw [d1] at q; cases q⟩
    · rw [q]; exact ⟨o2, e2, fun v q => by rw [d2] at q; cases q⟩
  keep := fun i h h' st k => by
    obtain ⟨hz, hTI, ⟨x, y, hTO⟩, h1, h2⟩ := st
    exact ⟨k z (by simp) _ hz, k TI (by simp) _ hTI, ⟨x, y, k TO (by simp) _ hTO⟩, h1.at fun o q => k i1 (by simp) o q, h2.at fun o q => k i2 (by simp) o q⟩
  item := by
    intro X hP hw hK hc i pins s σ H E I hf st hg
    subst hP hw hK
    obtain ⟨hz, hTI, ⟨x0, y0, hTO⟩, h1, h2⟩ := st
    obtain ⟨xs, ys, x, y, hqx, hqy, hx, hy⟩ := hg
    obtain ⟨its, rv, p⟩ := hqx.get I
    obtain ⟨its2, rv2, p2⟩ := hqy.get I
    obtain ⟨u, hu, ru⟩ := rv.get hx
    obtain ⟨u2, hu2, ru2⟩ := rv2.get hy
    have hzl : z < s.heap.objs.size := Heap.lt_size hz
    have S : ZipSep2 z TI TO i1 i2 [i1, a] [i2, b] := ⟨D.TIz, D.TOz, D.TITO, D.TIi1, by simp, by simp [D.i1z.symm, D.l1z.symm], by simp [D.TOi1, D.l1TO.symm], D.TIi2, by simp, by simp [D.i2z.symm, D.l2z.symm], by simp [D.TOi2, D.l2TO.symm], by simp [D.i12, D.l2i1.symm], by simp [D.i12.symm, D.l1i2.symm]⟩
    have hh := I.ok.hd hc
    have l1 : i < its.length := (List.getElem?_eq_some_iff.mp hu).1
    have l2 : i < its2.length := (List.getElem?_eq_some_iff.mp hu2).1
    refine wpAny_pyNext_zipD2_item S (draws_B (A := X.A.in1) hh t1 i1 a D.l1i1 its.toArray) (draws_B (A := X.A.in1) hh t2 i2 b D.l2i2 its2.toArray) hz hTI hTO ⟨h1, p⟩ ⟨h2, p2⟩ (by simpa using l1) (by simpa using l2) fun x1 x2 h' tk px1 px2 z' TO' st1' st2' hT hsz hk => ?_
    have e1 : x1 = u := by
      have q : its[i]? = some x1 := by simpa using px1
      rw [hu] at q
      exact (Option.some.inj q).symm
    have e2 : x2 = u2 := by
      have q : its2[i]? = some x2 := by simpa using px2
      rw [hu2] at q
      exact (Option.some.inj q).symm
    subst e1 e2
    refine ⟨_, rfl, wpAny_letOwnedTupleGo_zip (s := { s with heap := h', toks := tk }) z' fun h'' z'' sb => ?_⟩
    have hT2 : h''.get? s.heap.objs.size = some { cls := .type "tuple", data := .seq #[x1, x2] } := (sb.2 _ (Nat.ne_of_gt hzl)).trans hT
    have new : ObjOk X.prog X.w (upd H s.heap.objs.size (.tup [x, y])) h'' s.heap.objs.size (.tup [x, y]) :=
      ⟨by show 2 ≤ sizeLine; decide, [x1, x2], .cons ru (.cons ru2 .nil), ⟨_, hT2, rfl, _, rfl⟩⟩
    have I1 : Inv X pins σ (upd H s.heap.objs.size (.tup [x, y])) { s with heap := h'', toks := tk } :=
      I.turnedNew (t' := tk) (ch := [z, TI, TO, i1, i2]) (fun c o hb q => (sb.2 c (fun q' => hb (by simp [q']))).trans (hk c o (fun q' => hb (by simp [q'])) (fun q' => hb (by simp [q'])) (fun q' => hb (by simp [q'])) (fun q' => hb (by simp [q'])) q)) hf (Nat.le_refl _) new
    refine ⟨.ref s.heap.objs.size, _, I1, rfl, ⟨_, x, y, rfl, I.hok.fresh (Nat.le_refl _), rfl, fun l hl => by rw [hl.inj I hqx]; exact hx, fun l hl => by rw [hl.inj I hqy]; exact hy⟩, ⟨z'', ?_, ⟨x1, x2, ?_⟩, ?_, ?_⟩, fun c hcm => ?_⟩
    · exact (sb.2 _ D.TIz).trans (hk _ _ D.TIz D.TITO D.TIi1 D.TIi2 hTI)
    · exact (sb.2 _ D.TOz).trans TO'
    · exact st1'.1.at fun o q => (sb.2 _ D.i1z).trans q
    · exact st2'.1.at fun o q => (sb.2 _ D.i2z).trans q
    · have hlt : c < s.heap.objs.size := by
        obtain ⟨o1, _, _, g1, _, _⟩ := h1.live
        obtain ⟨o2, _, _, g2, _, _⟩ := h2.live
        have e' : c = z ∨ c = TI ∨ c = TO ∨ c = i1 ∨ c = i2 := by simpa using hcm
        rcases e' with q | q | q | q | q
        · rw [q]; exact hzl
        · rw [q]; exact Heap.lt_size hTI
        · rw [q]; exact Heap.lt_size hTO
        · rw [q]; exact Heap.lt_size g1
        · rw [q]; exact Heap.lt_size g2
      rw [upd_ne (Nat.ne_of_lt hlt)]
      exact (hf c hcm).1
  done := by
    intro X hP hw hK hc i pins s σ H E I hf st hg
    subst hP hw hK
    obtain ⟨hz, hTI, ⟨x0, y0, hTO⟩, h1, h2⟩ := st
    obtain ⟨xs, ys, hqx, hqy, le1, le2, hend⟩ := hg
    obtain ⟨its, rv, p⟩ := hqx.get I
    obtain ⟨its2, rv2, p2⟩ := hqy.get I
    have l1 := rv.length
    have l2 := rv2.length
    have S : ZipSep2 z TI TO i1 i2 [i1, a] [i2, b] := ⟨D.TIz, D.TOz, D.TITO, D.TIi1, by simp, by simp [D.i1z.symm, D.l1z.symm], by simp [D.TOi1, D.l1TO.symm], D.TIi2, by simp, by simp [D.i2z.symm, D.l2z.symm], by simp [D.TOi2, D.l2TO.symm], by simp [D.i12, D.l2i1.symm], by simp [D.i12.symm, D.l1i2.symm]⟩
    have hh := I.ok.hd hc
    refine wpAny_pyNext_zipD2_end S (draws_B (A := X.A.in1) hh t1 i1 a D.l1i1 its.toArray) (draws_B (A := X.A.in1) hh t2 i2 b D.l2i2 its2.toArray) hz hTI hTO ⟨h1, p⟩ ⟨h2, p2⟩ (by simp; omega) (by simp; omega) (by simp; omega) fun h' tk hk => ⟨rfl, I.turnedL (t' := tk) (ch := [z, TI, TO, i1, i2]) (fun c o hb q =>
      hk c o (fun q' => hb (by simp [q'])) (fun q' => hb (by simp [q'])) (fun q' => hb (by simp [q'])) (fun q' => hb (by simp [q'])) q) hf⟩
  self := fun A i s Q E st h => wpAny_pyIter_zip st.1 h
def iZipB (K : PySem.W.Frag) (ta : TA) : TI := fun σ H R => ta σ H fun vs H1 => ∃ t1 t2 a b xs ys, vs = [.ref a, .ref b] ∧ SqB K t1 H1 a xs ∧ SqB K t2 H1 b ys ∧ R (ItzB K t1 t2 a b) H1
theorem pi_zB {X : Cx} {e e2 : Expr} {ta : TA} {p pos tpos : Pos} {elts : List Expr} {kk : Nat} (hg : Gl X "zip") (hm : X.mg "zip" = none) (ha : PA X [e, e2] ta)
    (hs : starEach [e, e2] X.env = (false, eval e X.env) :: starEach [e2] X.env := by rfl) (hpl : (backTo pos (starEach [e2] X.env)).any (·.1) = false := by rfl) :
    PI X (.Tuple elts kk tpos) (.Call (.Name "zip" p) [e, e2] [] pos) (iZipB X.K ta) := by
  refine ⟨fun pins s σ H R I h => ?_⟩
  refine Call_ (ld_blt I hg hm PyProof.Rows.boot_zip (PyProof.Rows.callWith_type1 (thn (ha.run pos pins s σ H _ I h) fun us s1 ⟨vs, H1, I1, r1, q1⟩ => ?_) hs hpl))
  obtain ⟨t1, t2, a, b, xs, ys, ex, hqx, hqy, q⟩ := q1
  subst ex
  cases r1 with
  | cons r rr =>
    cases rr with
    | cons r' rr =>
      cases rr
      cases r
      cases r'
      have five : ∀ c, c ∈ [s1.heap.objs.size + 4, s1.heap.objs.size + 2, s1.heap.objs.size + 3, s1.heap.objs.size, s1.heap.objs.size + 1] → FpOk X pins H1 c := fun c hcm => by
        have hle : s1.heap.objs.size ≤ c := by
          simp only [List.mem_cons, List.not_mem_nil, or_false] at hcm
          omega
        exact I1.fpOk hle (I1.hok.fresh hle)
      obtain ⟨its, rv, p1⟩ := hqx.get I1
      obtain ⟨its2, rv2, p2⟩ := hqy.get I1
      refine call_zB p1 p2 fun h' hz hTI hTO h1 h2 hk => wpAny_pyIter_zip hz ?_
      have I2 : Inv X pins σ H1 { s1 with heap := h' } := I1.kept (t' := s1.toks) hk
      exact ⟨s1.heap.objs.size + 4, [s1.heap.objs.size + 4, s1.heap.objs.size + 2, s1.heap.objs.size + 3, s1.heap.objs.size, s1.heap.objs.size + 1], _, _, H1, rfl, I2, turn_zB (PySem.W.ktu_apart s1.heap.objs.size a b p1.live p2.live), ⟨hz, hTI, ⟨_, _, hTO⟩, h1, h2⟩, five, q⟩
theorem walk_zB {K : PySem.W.Frag} {t1 t2 : Bool} {a b : Addr} {xs ys : List V} {n : Nat} (hn : n = min xs.length ys.length) : Walk (ItzB K t1 t2 a b) n (fun H => SqB K t1 H a xs ∧ SqB K t2 H b ys) (YPair (fun i => xs[i]?) (fun i => ys[i]?)) := by
  subst hn
  refine ⟨fun i _ hi q => ?_, fun _ q => ⟨xs, ys, q.1, q.2, by omega, by omega, by omega⟩, fun i H v H' _ q y => ?_⟩
  · have h1 : i < xs.length := by omega
    have h2 : i < ys.length := by omega
    exact ⟨xs, ys, xs[i], ys[i], q.1, q.2, by simp [h1], by simp [h2]⟩
  · obtain ⟨T, x, z, h1, h2, h3, h4, h5⟩ := y
    exact ⟨T, x, z, h1, h2, h3, h4 xs q.1, h5 ys q.2⟩
end K1
set_option maxRecDepth 100000
set_option maxHeartbeats 400000
/-! operators that a class of the program defines, its instances ordinary ones -/
namespace K1
open PySem PySem.Spec PyProof.Rows L2
section
variable {X : Cx} {CX : CXT} {E : XK} {C g : Addr} {fd : FuncData} {ps : List Str} {sp : Sp} {k : Nat}
/-- an instance of the class at C stands at a -/
def Ins (H : Hp) (a C : Addr) : Prop := ∃ dx fs, H a = some (.ins C dx fs)
theorem ins_inst {pins : List (Addr × Obj)} {σ : L2.St} {H : Hp} {s : Shared} {a : Addr} (I : Inv X pins σ H s) (h : Ins H a C) : ∃ dx od, PySem.W.InstAt s.heap a (PySem.W.instObj C dx) C (some od) := by
  obtain ⟨dx, fs, e⟩ := h
  obtain ⟨mA, O, _⟩ := ins_get I.hok e
  obtain ⟨od, J, _⟩ := O.look
  exact ⟨dx, od, J⟩
theorem op_two {op : Operator} (M : Meth X.K C (PySem.dunder op.info.2) g) (sf : PySem.W.selfFirst X.K C = true) (F : FnOk X.prog X.w X.K X.mg X.base CX k g fd ps sp) (hr : Room k X.A) (hb : Binds X.K fd ps []) (hx : Passes CX X E) :
    OpR X (binaryOp op) (fun x y H Q => ∃ a b, x = .ref a ∧ y = .ref b ∧ Ins H a C ∧ Ins H b C ∧ sp [x, y] H Q E) := by
  intro pins s σ H x y v u Q I rx ry h
  obtain ⟨a, b, rfl, rfl, ha, hb', q⟩ := h
  cases (show v = Value.ref a from rx)
  cases (show u = Value.ref b from ry)
  obtain ⟨_, _, J⟩ := ins_inst I ha
  obtain ⟨_, _, J'⟩ := ins_inst I hb'
  obtain ⟨m, fr⟩ := I.fr
  refine PySem.W.binop_K fr I.ok.mod.kin J J'.type sf M.at_ M.fn ?_
  refine thn (run_fn (us := [.ref a, .ref b]) (vs := [.ref a, .ref b]) F hr hb .nil hx I (.cons rfl (.cons rfl .nil)) (by rw [List.append_nil]; exact q)) fun r s' z => ?_
  obtain ⟨z', H', I', rz, qz⟩ := z
  exact SlX.cmpback rz ⟨z', H', I', rz, qz⟩
theorem op_cmp {op : CmpOp} (hop : ∀ a b, compareOp op a b = richCompare op a b) (M : Meth X.K C (cmpInfo op).2.1 g) (nf : PySem.W.notFirst X.K C (.ref C) = true) (F : FnOk X.prog X.w X.K X.mg X.base CX k g fd ps sp) (hr : Room k X.A) (hb : Binds X.K fd ps []) (hx : Passes CX X E) :
    OpR X (compareOp op) (fun x y H Q => ∃ a b, x = .ref a ∧ y = .ref b ∧ Ins H a C ∧ Ins H b C ∧ sp [x, y] H Q E) := by
  intro pins s σ H x y v u Q I rx ry h
  obtain ⟨a, b, rfl, rfl, ha, hb', q⟩ := h
  cases (show v = Value.ref a from rx)
  cases (show u = Value.ref b from ry)
  obtain ⟨_, _, J⟩ := ins_inst I ha
  obtain ⟨_, _, J'⟩ := ins_inst I hb'
  obtain ⟨m, fr⟩ := I.fr
  rw [hop]
  refine PySem.W.cmp_K (op := op) (tb := .ref C) hr.units0 fr I.ok.mod.kin J J'.type nf M.at_ M.fn ?_
  refine thn (run_fn (us := [.ref a, .ref b]) (vs := [.ref a, .ref b]) F hr hb .nil hx I (.cons rfl (.cons rfl .nil)) (by rw [List.append_nil]; exact q)) fun r s' z => ?_
  obtain ⟨z', H', I', rz, qz⟩ := z
  exact SlX.cmpback rz ⟨z', H', I', rz, qz⟩
/-- x in y, y an instance of a class that defines it; its def hands back a truth -/
theorem op_has (M : Meth X.K C "__contains__" g) (F : FnOk X.prog X.w X.K X.mg X.base CX k g fd ps sp) (hr : Room k X.A) (hb : Binds X.K fd ps []) (hx : Passes CX X E) :
    OpR X (compareOp .In) (fun x y H Q => ∃ b, y = .ref b ∧ Ins H b C ∧ sp [y, x] H (fun v H' => ∃ t, v = .bl t ∧ Q (.bl t) H') E) := by
  intro pins s σ H x y v u Q I rx ry h
  obtain ⟨b, rfl, hb', q⟩ := h
  cases (show u = Value.ref b from ry)
  obtain ⟨_, _, J⟩ := ins_inst I hb'
  obtain ⟨m, fr⟩ := I.fr
  refine PySem.W.in_K fr I.ok.mod.kin J M.at_ M.fn ?_
  refine thn (run_fn (us := [.ref b, v]) (vs := [.ref b, x]) F hr hb .nil hx I (.cons rfl (.cons rx .nil)) (by rw [List.append_nil]; exact q)) fun r s' z => ?_
  obtain ⟨z', H', I', rz, t, rfl, qz⟩ := z
  cases (show r = Value.bool t from rz)
  exact wpAny_pure ⟨.bl t, H', I', rfl, qz⟩
theorem op_hasnt (M : Meth X.K C "__contains__" g) (F : FnOk X.prog X.w X.K X.mg X.base CX k g fd ps sp) (hr : Room k X.A) (hb : Binds X.K fd ps []) (hx : Passes CX X E) :
    OpR X (compareOp .NotIn) (fun x y H Q => ∃ b, y = .ref b ∧ Ins H b C ∧ sp [y, x] H (fun v H' => ∃ t, v = .bl t ∧ Q (.bl (!t)) H') E) := by
  intro pins s σ H x y v u Q I rx ry h
  obtain ⟨b, rfl, hb', q⟩ := h
  cases (show u = Value.ref b from ry)
  obtain ⟨_, _, J⟩ := ins_inst I hb'
  obtain ⟨m, fr⟩ := I.fr
  refine PySem.W.notIn_K fr I.ok.mod.kin J M.at_ M.fn ?_
  refine thn (run_fn (us := [.ref b, v]) (vs := [.ref b, x]) F hr hb .nil hx I (.cons rfl (.cons rx .nil)) (by rw [List.append_nil]; exact q)) fun r s' z => ?_
  obtain ⟨z', H', I', rz, t, rfl, qz⟩ := z
  cases (show r = Value.bool t from rz)
  exact wpAny_pure ⟨.bl (!t), H', I', rfl, qz⟩
end
/-! ### !=, by an own == alone -/
/-- the class at C has no base of the program's; its own == is at g, it has no != -/
structure NeC (K : PySem.W.Frag) (C g : Addr) : Prop where
  cls : ∃ nm q N bs hdct sn sub ab col dd k0 k1 k2 k3 k5 newId, K.lookup C = some (excClassObj nm q C N bs [.type "object"] hdct sn sub ab col dd k0 k1 k2 k3 k5 newId) ∧ PySem.W.nsOkIn K N = true ∧
    PySem.W.nsIn K N "__eq__" = some (some (.ref g)) ∧ PySem.W.nsIn K N "__ne__" = some none
  fn : ∃ o, K.lookup g = some o ∧ o.cls = .type "function"
def neB (K : PySem.W.Frag) (C g : Addr) : Bool := (match K.lookup C with
  | some ⟨.type "type", _, .cls cd, sl⟩ => (match cd.mro, sl.toList with
    | [.ref D, .type "object"], [_, _, _, _, some (.builtin _), _] => D == C && !cd.hasDel && PySem.W.nsOkIn K cd.ns && decide (PySem.W.nsIn K cd.ns "__eq__" = some (some (.ref g))) && decide (PySem.W.nsIn K cd.ns "__ne__" = some none)
    | _, _ => false)
  | _ => false) && (match K.lookup g with
  | some o => decide (o.cls = .type "function")
  | none => false)
theorem neB_ok {K : PySem.W.Frag} {C g : Addr} (q : neB K C g = true) : NeC K C g := by
  obtain ⟨q, r⟩ := Bool.and_eq_true_iff.mp q
  refine ⟨?_, ?_⟩
  · split at q
    · rename_i dd cd sl look
      split at q
      · rename_i D k0 k1 k2 k3 n k5 mro slots
        simp only [Bool.and_eq_true, beq_iff_eq, Bool.not_eq_true', decide_eq_true_eq] at q
        obtain ⟨⟨⟨⟨rfl, q2⟩, q3⟩, q4⟩, q5⟩ := q
        obtain ⟨nm, bs, ms, ns, qn, hd, sn, sub, ab, col, del⟩ := cd
        dsimp only at mro q2 q3 q4 q5
        subst mro q2
        obtain ⟨sll⟩ := sl
        dsimp only at slots
        subst slots
        exact ⟨nm, qn, ns, bs, hd, sn, sub, ab, col, dd, k0, k1, k2, k3, k5, n, look, q3, q4, q5⟩
      · cases q
    · cases q
  · split at r
    · rename_i o e
      exact ⟨o, e, of_decide_eq_true r⟩
    · cases r
theorem ns_at {K : PySem.W.Frag} {h : Heap} {N : Addr} {m : Str → Option Value} {n : Str} {v : Value} (X : K.In h) (G : h.Ns N m) (e : PySem.W.nsIn K N n = some (some v)) : m n = some v := by
  obtain ⟨o, es, ep, look, dt, _, at_⟩ := G
  unfold PySem.W.nsIn at e
  split at e
  · rename_i c d es' n' sl q
    have z := X _ _ q
    rw [look] at z
    cases z
    cases dt
    split at e
    · rename_i en there
      cases e
      rw [← at_]
      unfold nsFind findBy
      rw [← Array.find?_toList, there] <;> rfl
    · split at e <;> cases e
  · cases e
section
variable {X : Cx} {CX : CXT} {E : XK} {C g : Addr} {fd : FuncData} {ps : List Str} {sp : Sp} {k : Nat}
/-- the callee runs within a builtin's call -/
theorem run_in {pins : List (Addr × Obj)} {σ : L2.St} {H : Hp} {s : Shared} {A : Around} {Q : VK} {us : List Value} {vs : List V} (F : FnOk X.prog X.w X.K X.mg X.base CX k g fd ps sp) (hr : Room k A) (e0 : Env0 X.prog X.w X.K X.mg X.base A X.stack s H) (hb : Binds X.K fd ps [])
    (hx : Passes CX X E) (I : Inv X pins σ H s) (r : Vals vs us) (q : sp vs H Q E) : wpAny (model X.prog X.w) A (call (.ref g) us) (EP X pins σ Q) X.xe s := by
  have l : (us ++ []).length = ps.length := by
    rw [List.append_nil, ← r.length]
    exact F.len _ _ _ _ q
  refine wpAny_call (codeAny_mono (F.run A X.stack s H ⟨us, []⟩ (us ++ []) vs Q E hr e0 (hb s us I.kIn l) (by rw [List.append_nil]; exact r) q) fun z s' back => ?_)
  cases z with
  | error e => exact hx pins σ H s e s' I back
  | ok fl =>
    cases fl with
    | ret u => exact I.after back
    | next => exact False.elim back
    | brk => exact False.elim back
    | cont => exact False.elim back
theorem op_unlike (N : NeC X.K C g) (F : FnOk X.prog X.w X.K X.mg X.base CX k g fd ps sp) (hr : Room (k + 1) X.A) (hb : Binds X.K fd ps []) (hx : Passes CX X E) :
    OpR X (compareOp .NotEq) (fun x y H Q => ∃ a b, x = .ref a ∧ y = .ref b ∧ Ins H a C ∧ Ins H b C ∧ sp [x, y] H (fun v H' => ∃ t, v = .bl t ∧ Q (.bl (!t)) H') E) := by
  intro pins s σ H x y v u Q I rx ry h
  obtain ⟨a, b, rfl, rfl, ha, hb', q⟩ := h
  cases (show v = Value.ref a from rx)
  cases (show u = Value.ref b from ry)
  obtain ⟨_, _, J⟩ := ins_inst I ha
  obtain ⟨_, _, J'⟩ := ins_inst I hb'
  obtain ⟨nm, qn, ns, bs, hdct, sn, sub, ab, col, dd, k0, k1, k2, k3, k5, nI, look, ok, eq, ne⟩ := N.cls
  obtain ⟨of, gat, gcl⟩ := N.fn
  have G : s.heap.Ns ns (s.heap.nsMap ns) := .of_isNs (PySem.W.isNs_of_in I.kIn ok)
  have hC := I.kIn _ _ look
  have hg := I.kIn _ _ gat
  have m1 := ns_at I.kIn G eq
  have m2 := PySem.W.ns_none_of I.kIn G ne
  have mro := PySem.F.cmp_object.mro
  have lk := PySem.F.cmp_object.eq.lookup
  have Z : s.heap.OwnEqNoNe a C g "object" [.type "object"] := by
    exact ⟨_, of, nm, qn, ns, bs, hdct, sn, sub, ab, col, dd, k0, k1, k2, k3, k5, nI, s.heap.nsMap ns, some (.builtin "object.__eq__"), J.at_, J.cls, hC, G, m1, hg, gcl, mro, lk, m2⟩
  obtain ⟨hp, gs, dr, tk, os⟩ := s
  refine compareOp_ne_ownEq PySem.F.cmp_object Z J'.at_ J'.cls (hu_of hr) ?_
  have two : Vals [V.ref a, V.ref b] [Value.ref a, Value.ref b] := .cons (show L2.RelV (V.ref a) (Value.ref a) from rfl) (.cons (show L2.RelV (V.ref b) (Value.ref b) from rfl) .nil)
  refine wpAny_mono (run_in F hr.in1 I.env0.in1 hb hx I two q) (fun r s' z => ?_) fun _ _ e => e
  obtain ⟨v', H', I', rv, t, rfl, qz⟩ := z
  cases (show r = Value.bool t from rv)
  exact ⟨t, rfl, .bl (!t), H', I', rfl, qz⟩
end
end K1
set_option maxRecDepth 100000
set_option maxHeartbeats 400000
/-! len(x), x an instance of a class that defines it -/
namespace K1
open PySem PySem.Spec PyProof.Rows L2
section
variable {X : Cx} {CX : CXT} {E : XK} {C g : Addr} {fd : FuncData} {ps : List Str} {sp : Sp} {k : Nat}
theorem call_lenOwn (M : Meth X.K C "__len__" g) (F : FnOk X.prog X.w X.K X.mg X.base CX k g fd ps sp) (hr : Room (k + 1) X.A) (hb : Binds X.K fd ps []) (hx : Passes CX X E) :
    CallR X (.builtin "len") (fun xs H Q => ∃ a, xs = [.ref a] ∧ Ins H a C ∧ sp [.ref a] H (fun v H' => ∃ n : Nat, v = .int n ∧ n < 100000 ∧ Q (.int n) H') E) := by
  intro pins s σ H xs us Q I r h
  obtain ⟨a, rfl, ha, q⟩ := h
  rw [Vals.ref1 r]
  obtain ⟨_, _, J⟩ := ins_inst I ha
  refine Calls.call_function_entry kind_len plain_len entry_len (args_len1 _) ?_
  unfold Builtin.«len»
  refine wpAny_bind (m := oneArg "len" _) (wpAny_pure ?_)
  refine wpAny_bind (m := callSpecial? (.ref a) "__len__") (PySem.W.special_fn I.kIn J M.at_ (beq_iff_eq.mp M.fn) ?_)
  refine wpAny_mono (run_in F hr.in1 I.env0.in1 hb hx I (.cons (show L2.RelV (V.ref a) (Value.ref a) from rfl) .nil) q) (fun u s' z => ?_) fun _ _ e => e
  obtain ⟨v, H', I', rv, n, rfl, hn, qz⟩ := z
  obtain ⟨t, rfl⟩ := rv
  refine wpAny_bind (wpAny_holding (wpAny_pure ?_))
  refine wpAny_bind (wpAny_letGo ?_)
  show wpAny _ _ (if ((n : Nat) : Int) < 0 then _ else _) _ _ _
  rw [if_neg (by omega)]
  show wpAny _ _ (if ((n : Nat) : Int) ≥ 2 ^ 63 then _ else _) _ _ _
  rw [if_neg (by have : (2 : Int) ^ 63 = 9223372036854775808 := by decide
                 omega)]
  exact wpAny_bind (wpAny_mkInt (wpAny_pure ⟨_, rfl, .int n, H', I'.tok _, ⟨_, rfl⟩, qz⟩))
end
end K1
set_option linter.all false
set_option maxRecDepth 100000
set_option maxHeartbeats 1000000
namespace K1
open PySem L2
/-! ### lists of names -/
/-- the lists stand, each with its names -/
def LiT (H : Hp) (B : TL) : Prop := ∀ p ∈ B, H p.1 = some (.lst (p.2.map V.str))
theorem LiT.mono {H H' : Hp} {B : TL} (h : LiT H B) (s : Same H H') : LiT H' B := fun p hp => s _ _ (h p hp)
def TuT (H : Hp) (M : TL) : Prop := ∀ p ∈ M, H p.1 = some (.tup (p.2.map V.str))
theorem TuT.mono {H H' : Hp} {B : TL} (h : TuT H B) (s : Same H H') : TuT H' B := fun p hp => s _ _ (h p hp)
theorem TuT.at {K : PySem.W.Frag} {H : Hp} {M : TL} (h : TuT H M) : AtT K H M := fun p hp => SqT.of (h p hp)
theorem nameOk_len {z : Str} (h : nameOk z = true) : z.length ≤ 8 := by
  unfold nameOk at h
  rw [Bool.and_eq_true, Bool.and_eq_true] at h
  have := of_decide_eq_true h.1.2
  omega
def spAreN : Sp := fun vs H Q _ => ∃ (a : Addr) (ss : List Str), vs = [.ref a] ∧ H a = some (.lst (ss.map V.str)) ∧ (∀ z ∈ ss, nameOk z = true) ∧ ss.length ≤ 100 ∧ ∀ H', Same H H' → Q (.bl true) H'
def hasKey (kvs : List (Key × V)) (x : Str) : Bool := (valV kvs (.inr x)).isSome
def spIsBlock : Sp := fun vs H Q _ => ∃ (a d : Addr) (ss : List Str) (kvs : List (Key × V)), vs = [.ref a, .ref d] ∧ H a = some (.lst (ss.map V.str)) ∧ H d = some (.dK kvs) ∧ (∀ z ∈ ss, nameOk z = true) ∧ ss ≠ [] ∧ ss.Nodup ∧ ss.length ≤ 100 ∧ (∀ z ∈ ss, hasKey kvs z = false) ∧
  ∀ H', Same H H' → Q (.bl true) H'
section
variable {P : Program} {w : World} {K : PySem.W.Frag} {mg : Str → Option Value} {base : Heap}
theorem scAN : FnScope ["thing", "item"] ["thing"] (defScope pAreNames) := ⟨rfl, rfl, rfl, by decide +kernel, rfl, by decide +kernel, by decide +kernel⟩
theorem all_true (n : Nat) : (List.replicate n true).all id = true := List.all_eq_true.mpr fun b hb => (List.mem_replicate.mp hb).2
theorem ok_areNames {f fL fI : Addr} {fd fdL fdI : FuncData} (F : Fun K "are_names" "are_names" pAreNames f fd) (GL : FnOk P w K mg base CX0 1 fL fdL ["thing"] (spIsList K)) (gL : mg "is_list" = some (.ref fL)) (kL : PySem.W.keepIn K (.ref fL) = true) (bL : Binds K fdL ["thing"] [])
    (GI : FnOk P w K mg base CX0 1 fI fdI ["thing"] (spIsName K)) (gI : mg "is_name" = some (.ref fI)) (kI : PySem.W.keepIn K (.ref fI) = true) (bI : Binds K fdI ["thing"] []) (ha : mg "all" = none) : FnOk P w K mg base CX0 2 f fd ["thing"] spAreN := by
  refine F.ok scAN (fun vs H Q E h => ?_) (fun cdv A outer s H vs Q E hr h => ?_)
  · obtain ⟨a, ss, rfl, _⟩ := h
    rfl
  · obtain ⟨a, ss, rfl, hb, nm, hl, k⟩ := h
    refine ⟨_, pss_one (ps_ret (pe_and (pe_call GL hr (by rfl) gL kL bL .nil pass0 (pa_cons (pv 0) pa_nil)) (pe_one (pe_callB (cr_all rfl) (by rfl) ha (by decide +kernel) (pa_cons (pe_lc (own := [("item", 1)]) (g := gName 1) (tt := tYes) rfl scAN.nd (pi_list (pv 0)) (blkOk_by (N := ["thing", "item"]) (sc := defScope pAreNames) (by decide +kernel))
      (fun _ _ _ _ _ => pg_name (i := 1) scAN.nd rfl (Or.inl rfl)) (fun _ _ _ _ _ => pts_nil) (fun _ _ _ _ _ => pe_call GI hr (by rfl) gI kI bI .nil pass0 (pa_cons (pv 1) pa_nil))) pa_nil))))), ?_⟩
    refine ⟨_, rfl, _, _, true, rfl, .base (.lst hb), kitAny_cons (kit_ty (r := true) (by decide +kernel)) (fun e => nomatch e) (fun _ => rfl), fun H1 s1 => ⟨_, rfl, iteT ?_⟩⟩
    refine ⟨_, rfl, a, rfl, ⟨_, SqL.of (s1 _ _ hb)⟩, fun D nD => ?_⟩
    refine lc_list (xs := ss.map V.str) (fun i H9 => H9 D = some (.lst (List.replicate i (.bl true))) ∧ Same H1 H9) ⟨upd_same, same_new nD _⟩ (fun i H9 _ h9 => SqL.of ((s1.trans h9.2) _ _ hb)) ?_ ?_
    · rintro i x H9 hx ⟨h9, s9⟩
      rw [List.getElem?_map] at hx
      obtain ⟨z, hz, rfl⟩ := Option.map_eq_some_iff.mp hx
      have li : i < ss.length := (List.getElem?_eq_some_iff.mp hz).1
      have nz := nm z (List.mem_of_getElem? hz)
      refine ⟨rfl, _, rfl, _, _, rfl, .base (.str z), .inl ⟨z, rfl, Nat.le_trans (nameOk_len nz) (by decide), fun H10 s10 => ⟨_, s10 _ _ h9, small1000 (by rw [List.length_replicate]; omega), ?_, ?_⟩⟩⟩
      · rw [nz, upd_same, List.replicate_succ']
      · intro c o hc
        rw [upd_ne (ne_of_none hc nD)]
        exact s10 _ _ (s9 _ _ hc)
    · rintro H9 ⟨h9, s9⟩
      refine ⟨D, List.replicate ss.length true, rfl, SqL.of (by rw [h9, List.map_replicate, List.length_map]), ?_⟩
      rw [all_true]
      exact k _ (s1.trans s9)
theorem iteDF {c A B : Prop} [Decidable c] (hc : ¬ c) (h : B) : if decide c = true then A else B := by
  rw [decide_eq_false hc]
  exact iteF h
abbrev NBl : List Str := ["thing", "taken", "name"]
theorem scBl : FnScope NBl ["thing", "taken"] (defScope pIsBlock) := ⟨rfl, rfl, rfl, by decide +kernel, rfl, by decide +kernel, by decide +kernel⟩
structure TxtB (mg : Str → Option Value) : Prop where
  len : mg "len" = none
  set : mg "set" = none
  all : mg "all" = none
  sorted : mg "sorted" = none
  tuple : mg "tuple" = none
  enum : mg "enumerate" = none
theorem strs_keys (K : PySem.W.Frag) {H : Hp} {a : Addr} {ss : List Str} (h : H a = some (.lst (ss.map V.str))) : KeysIn K H a (ss.map Sum.inr) := .inl (by rw [← map_str]; exact SqL.of h)
theorem nodup_inr {ss : List Str} (h : ss.Nodup) : (ss.map (Sum.inr : Str → Key)).Nodup := List.pairwise_map.mpr (h.imp fun ne e => ne (by injection e))
theorem len_of_mem {α : Type} [DecidableEq α] {l D : List α} (h1 : l.Nodup) (h2 : D.Nodup) (m : ∀ x, x ∈ D ↔ x ∈ l) : D.length = l.length := ((List.perm_ext_iff_of_nodup h2 h1).mpr m).length_eq
theorem ok_isBlock {f fA : Addr} {fd fdA : FuncData} (F : Fun K "is_block" "is_block" pIsBlock f fd) (GA : FnOk P w K mg base CX0 2 fA fdA ["thing"] spAreN) (gA : mg "are_names" = some (.ref fA)) (kA : PySem.W.keepIn K (.ref fA) = true) (bA : Binds K fdA ["thing"] []) (T : TxtB mg) : FnOk P w K mg base CX0 3 f fd ["thing", "taken"] spIsBlock := by
  refine F.ok scBl (fun vs H Q E h => ?_) (fun cdv A outer s H vs Q E hr h => ?_)
  · obtain ⟨a, d, ss, kvs, rfl, _⟩ := h
    rfl
  · obtain ⟨a, d, ss, kvs, rfl, ha, hd, nm, ne, nd, hl, no, k⟩ := h
    refine ⟨_, pss_cons (ps_if (pw_or (pt_not (pt_val (pe_call GA hr (by rfl) gA kA bA .nil pass0 (pa_cons (pv 0) pa_nil))))
        (pw_or (pt_cmpR op_eq (pe_callB call_len_seq (by rfl) T.len PySem.boot_len (pa_cons (pv 0) pa_nil)) pe_int (nomark _))
          (pw_or1 (pt_cmpR op_ne (pe_callB call_lenX (by rfl) T.len PySem.boot_len (pa_cons (pe_callTy (cr_setX rfl) (by rfl) T.set (by decide +kernel) (pa_cons (pv 0) pa_nil)) pa_nil)) (pe_callB call_len_seq (by rfl) T.len PySem.boot_len (pa_cons (pv 0) pa_nil)) (nomark _))))).pt pss_never pss_nil)
      (pss_one (ps_ret (pe_callB (cr_all rfl) (by rfl) T.all (by decide +kernel) (pa_cons (pe_lc (own := [("name", 2)]) (g := gName 2) (tt := tYes) rfl scBl.nd (pi_list (pv 0)) (blkOk_by (N := NBl) (sc := defScope pIsBlock) (by decide +kernel))
        (fun _ _ _ _ _ => pg_name (i := 2) scBl.nd rfl (Or.inl rfl)) (fun _ _ _ _ _ => pts_nil) (fun _ _ _ _ _ => pe_cmp (pc_dnotin (Nat.lt_of_le_of_lt (Nat.add_le_add_left (by decide) _) hr.units) (pv 2) (pv 1)))) pa_nil)))), ?_⟩
    have l0 : (ss.map V.str).length ≠ 0 := by
      rw [List.length_map]
      exact fun e => ne (List.eq_nil_of_length_eq_zero e)
    refine ⟨_, rfl, a, ss, rfl, ha, nm, hl, fun H1 s1 => ⟨_, rfl, iteF ?_⟩⟩
    refine ⟨_, rfl, a, _, rfl, .inl (SqL.of (s1 _ _ ha)), rfl, _, rfl, iteDF (fun e => l0 (by injection e with e; exact Int.ofNat.inj e)) ?_⟩
    refine ⟨_, rfl, a, _, rfl, strs_keys K (s1 _ _ ha), by rw [List.length_map]; omega, fun st D ns ndD mD => ⟨st, D, rfl, upd_same, _, rfl, a, _, rfl, .inl (SqL.of (same_new ns _ _ _ (s1 _ _ ha))), rfl, _, rfl, ?_⟩⟩
    have eL : D.length = (ss.map V.str).length := by
      rw [List.length_map, ← List.length_map (f := (Sum.inr : Str → Key)) (as := ss)]
      exact len_of_mem (nodup_inr nd) ndD mD
    refine iteNS (by rw [eL]) ?_
    have s2 : Same H (upd H1 st (KS w st D)) := s1.trans (same_new ns _)
    refine ⟨_, rfl, a, rfl, ⟨_, SqL.of (s2 _ _ ha)⟩, fun L nL => ?_⟩
    refine lc_list (xs := ss.map V.str) (fun i H9 => H9 L = some (.lst (List.replicate i (.bl true))) ∧ Same H H9) ⟨upd_same, s2.trans (same_new nL _)⟩ (fun i H9 _ h9 => SqL.of (h9.2 _ _ ha)) ?_ ?_
    · rintro i x H9 hx ⟨h9, s9⟩
      rw [List.getElem?_map] at hx
      obtain ⟨z, hz, rfl⟩ := Option.map_eq_some_iff.mp hx
      have li : i < ss.length := (List.getElem?_eq_some_iff.mp hz).1
      have nz : (valV kvs (.inr z)).isSome = false := no z (List.mem_of_getElem? hz)
      refine ⟨rfl, _, rfl, _, rfl, d, _, rfl, DGet.k (k := Sum.inr z) (s9 _ _ hd), ?_⟩
      rw [nz]
      refine ⟨_, h9, small1000 (by rw [List.length_replicate]; omega), by rw [upd_same, List.replicate_succ']; rfl, fun c o hc => ?_⟩
      rw [upd_ne (ne_of_none hc (s2.free nL))]
      exact s9 _ _ hc
    · rintro H9 ⟨h9, s9⟩
      refine ⟨L, List.replicate ss.length true, rfl, SqL.of (by rw [h9, List.map_replicate, List.length_map]), ?_⟩
      rw [all_true]
      exact k _ s9
end
end K1
set_option linter.all false
set_option maxRecDepth 100000
set_option maxHeartbeats 1000000
namespace K1
open PySem L2
def lexS : List Str → List Str → Bool := lexL ltS
theorem tot_lexS : Tot lexS := tot_lex tot_ltS
/-- the rows of a meeting: its blocks ascending, and in their order -/
def rowsOf (B : List (List Str)) : List (List Str) := asc lexS (B.map (asc ltS))
/-- blocks that make a meeting -/
structure GoodB (B : List (List Str)) : Prop where
  nm : ∀ b ∈ B, ∀ z ∈ b, nameOk z = true
  ne : ∀ b ∈ B, b ≠ []
  nd : ∀ b ∈ B, b.Nodup
  dis : B.Pairwise fun b c => ∀ z ∈ b, z ∉ c
  few : B.length ≤ 20
  low : ∀ b ∈ B, b.length ≤ 20
  tot : B.flatten.length ≤ 60
theorem rowT_len (M : TL) : (rowT M).length = M.length := List.length_map _
theorem refT_len (M : TL) : (refT M).length = M.length := List.length_map _
theorem rowT_app (M N : TL) : rowT (M ++ N) = rowT M ++ rowT N := List.map_append ..
theorem refT_app (M N : TL) : refT (M ++ N) = refT M ++ refT N := List.map_append ..
theorem hasKey_put (kvs : List (Key × V)) (z x : Str) (v : V) : hasKey (putK kvs (.inr z) v) x = (decide (x = z) || hasKey kvs x) := by
  unfold hasKey
  rw [valV_put]
  by_cases e : x = z
  · subst e
    simp
  · rw [if_neg (fun q : (Sum.inr x : Key) = Sum.inr z => e (by injection q)), decide_eq_false e, Bool.false_or]
def spAscB : Sp := fun vs H Q _ => ∃ (a : Addr) (B : TL), vs = [.ref a] ∧ H a = some (.lst (refT B)) ∧ LiT H B ∧ GoodB (rowT B) ∧
  ∀ (t : Addr) (M : TL) (H' : Hp), Same H H' → H t = none → H' t = some (.tup (refT M)) → TuT H' M → rowT M = rowsOf (rowT B) → Q (.ref t) H'
section
variable {P : Program} {w : World} {K : PySem.W.Frag} {mg : Str → Option Value} {base : Heap}
abbrev NAb : List Str := ["things", "blocks", "taken", "index", "thing", "name"]
theorem scAb : FnScope NAb ["things"] (defScope pAscendingBlocks) := ⟨rfl, rfl, rfl, by decide +kernel, rfl, by decide +kernel, by decide +kernel⟩
/-- between two turns of the loop over the blocks -/
structure AbW (H : Hp) (a Lb Td : Addr) (B : TL) (i : Nat) (σ : L2.St) (H9 : Hp) : Prop where
  ex : ∃ (M : TL) (kvs : List (Key × V)) (x3 x4 x5 : Option V), σ = [some (.ref a), some (.ref Lb), some (.ref Td), x3, x4, x5] ∧ H9 Lb = some (.lst (refT M)) ∧ TuT H9 M ∧ rowT M = ((rowT B).take i).map (asc ltS) ∧
    H9 Td = some (.dK kvs) ∧ kvs.length ≤ 20 * i ∧ ∀ x, hasKey kvs x = true ↔ ∃ b ∈ (rowT B).take i, x ∈ b
  old : Same H H9
theorem ok_ascB {f fL fB : Addr} {fd fdL fdB : FuncData} (F : Fun K "ascending_blocks" "ascending_blocks" pAscendingBlocks f fd) (GL : FnOk P w K mg base CX0 1 fL fdL ["thing"] (spIsList K)) (gL : mg "is_list" = some (.ref fL)) (kL : PySem.W.keepIn K (.ref fL) = true) (bL : Binds K fdL ["thing"] [])
    (GB : FnOk P w K mg base CX0 3 fB fdB ["thing", "taken"] spIsBlock) (gB : mg "is_block" = some (.ref fB)) (kB : PySem.W.keepIn K (.ref fB) = true) (bB : Binds K fdB ["thing", "taken"] []) (T : TxtB mg) : FnOk P w K mg base CX0 4 f fd ["things"] spAscB := by
  refine F.ok scAb (fun vs H Q E h => ?_) (fun cdv A outer s H vs Q E hr h => ?_)
  · obtain ⟨a, B, rfl, _⟩ := h
    rfl
  · obtain ⟨a, B, rfl, ha, hB, good, k⟩ := h
    have hu := hu_of hr
    refine ⟨_, pss_cons (ps_if (pt_not (pt_val (pe_call GL (hr.mono (by decide)) (by rfl) gL kL bL .nil pass0 (pa_cons (pv 0) pa_nil)))) pss_never pss_nil)
      (pss_cons (ps_set (i := 1) scAb.nd rfl (.inl rfl) (pe_lst pa_nil))
      (pss_cons (ps_set (i := 2) scAb.nd rfl (.inl rfl) pe_dnewK)
      (pss_cons (ps_for PassesOwn.never rfl (pi_enum (by rfl) T.enum (pa_cons (pv 0) pa_nil)) (pg_tup rfl (pgs_cons (pg_name (i := 3) scAb.nd rfl (Or.inl rfl)) (pgs_cons (pg_name (i := 4) scAb.nd rfl (Or.inl rfl)) pgs_nil)))
        (pss_cons (ps_if (pt_not (pt_val (pe_call GB hr (by rfl) gB kB bB .nil pass0 (pa_cons (pv 4) (pa_cons (pv 2) pa_nil))))) pss_never pss_nil)
        (pss_cons (ps_for PassesOwn.never rfl (pi_list (pv 4)) (pg_name (i := 5) scAb.nd rfl (Or.inl rfl)) (pss_one (ps_dput hu (pv 2) (pv 5) pe_bl rfl)))
        (pss_one (ps_expr (pe_bm PySem.F.plainAttrs_list PySem.F.slot_list_append PySem.F.type_list_append mt_append (pv 1)
          (pa_cons (pe_callTy call_tuple_of (by rfl) T.tuple (by decide +kernel) (pa_cons (pe_callB (cr_sortedX rfl) (by rfl) T.sorted (by decide +kernel) (pa_cons (pe_callTy (cr_setX rfl) (by rfl) T.set (by decide +kernel) (pa_cons (pv 4) pa_nil)) pa_nil)) pa_nil)) pa_nil)))))))
      (pss_one (ps_ret (pe_callTy call_tuple_of (by rfl) T.tuple (by decide +kernel) (pa_cons (pe_callB (cr_sortedTT rfl) (by rfl) T.sorted (by decide +kernel) (pa_cons (pe_callTy (cr_setTT rfl (Nat.lt_of_le_of_lt (Nat.add_le_add_left (by decide) _) hr.units)) (by rfl) T.set (by decide +kernel) (pa_cons (pv 1) pa_nil)) pa_nil)) pa_nil))))))), ?_⟩
    refine ⟨_, rfl, _, _, true, rfl, .base (.lst ha), kitAny_cons (kit_ty (r := true) (by decide +kernel)) (fun e => nomatch e) (fun _ => rfl), fun H1 s1 => ⟨_, rfl, iteF ?_⟩⟩
    refine ⟨sz (Nat.le_of_ble_eq_true rfl), fun Lb nLb => fun Td nTd => ?_⟩
    have s2 := s1.trans (same_new nLb (.lst []))
    have s3 := s2.trans (same_new nTd (.dK []))
    have n1 : H Lb = none := s1.free nLb
    have n2 : H Td = none := s2.free nTd
    have neq : Lb ≠ Td := ne_of_none upd_same nTd
    refine ⟨_, rfl, a, refT B, rfl, SqL.of (s3 _ _ ha), ?_⟩
    refine for_it walk_enum (AbW H a Lb Td B) ⟨⟨[], [], none, none, none, rfl, by rw [upd_ne neq]; exact upd_same, (fun p hp => nomatch hp), rfl, upd_same, Nat.le_refl _, fun x => by simp [hasKey, valV]⟩, s3⟩ (fun i σ H9 _ p => SqL.of (p.old _ _ ha)) ?_ ?_
    · rintro i x σ H9 H10 hi ⟨⟨M, kvs, x3, x4, x5, rfl, hLb, hM, eM, hTd, lk, mk⟩, s9⟩ ⟨T0, u, v, rfl, nT0, rfl, eu, ev⟩
      rw [refT_len] at hi
      have hp : B[i]? = some B[i] := List.getElem?_eq_getElem hi
      generalize B[i] = p at hp
      have pm := List.mem_of_getElem? hp
      have rp : (rowT B)[i]? = some p.2 := by rw [rowT, List.getElem?_map, hp]; rfl
      have pr : p.2 ∈ rowT B := List.mem_of_getElem? rp
      obtain rfl : v = .ref p.1 := by
        have ev2 : (refT B)[i]? = some v := ev
        rw [refT, List.getElem?_map, hp] at ev2
        exact (Option.some.inj ev2).symm
      cases eu
      have s10 : Same H9 (upd H9 T0 (.tup [.int (i : Nat), .ref p.1])) := same_new nT0 _
      generalize hH10 : upd H9 T0 (.tup [.int (i : Nat), .ref p.1]) = H10 at s10
      have e10 : H10 T0 = some (.tup [.int (i : Nat), .ref p.1]) := by rw [← hH10]; exact upd_same
      have hpp : H p.1 = some (.lst (p.2.map V.str)) := hB p pm
      refine ⟨T0, [.int (i : Nat), .ref p.1], rfl, SqT.of e10, rfl, _, [.ref p.1], rfl, .ref p.1, [], rfl, rfl, ?_⟩
      -- if not is_block(thing, taken)
      refine ⟨_, rfl, _, rfl, p.1, Td, p.2, kvs, rfl, s10 _ _ (s9 _ _ hpp), s10 _ _ hTd, good.nm _ pr, good.ne _ pr, good.nd _ pr, Nat.le_trans (good.low _ pr) (by decide), fun z hz => ?_, fun H11 s11 => ⟨_, rfl, iteF ?_⟩⟩
      · cases c : hasKey kvs z with
        | false => rfl
        | true =>
          obtain ⟨b, hb, hzb⟩ := (mk z).mp c
          obtain ⟨j, hj, ej⟩ := List.getElem_of_mem hb
          rw [List.length_take] at hj
          have hj2 : j < i := by omega
          rw [List.getElem_take] at ej
          have q := List.pairwise_iff_getElem.mp good.dis j i (by omega) (by rw [rowT_len]; exact hi) hj2
          have ei : (rowT B)[i]'(by rw [rowT_len]; exact hi) = p.2 := by
            have := List.getElem?_eq_getElem (l := rowT B) (i := i) (by rw [rowT_len]; exact hi)
            rw [rp] at this
            exact (Option.some.inj this).symm
          rw [ei, ej] at q
          exact absurd hz (q z hzb)
      · have t1 : Same H9 H11 := s10.trans s11
        -- for name in thing
        refine ⟨_, rfl, p.1, rfl, ⟨_, SqL.of (t1 _ _ (s9 _ _ hpp))⟩, ?_⟩
        refine for_list (xs := p.2.map V.str) (fun j σ H12 => ∃ kv2 y5, σ = [some (.ref a), some (.ref Lb), some (.ref Td), some (.int (i : Nat)), some (.ref p.1), y5] ∧ H12 Td = some (.dK kv2) ∧ kv2.length ≤ 20 * i + j ∧ (∀ x, hasKey kv2 x = true ↔ (hasKey kvs x = true ∨ x ∈ p.2.take j)) ∧ ∀ b o, b ≠ Td → H11 b = some o → H12 b = some o)
          ⟨kvs, _, rfl, t1 _ _ hTd, by omega, fun x => by simp, fun _ _ _ h => h⟩ (fun j σ H12 _ q => ?_) ?_ ?_
        · obtain ⟨kv2, y5, _, _, _, _, fr⟩ := q
          exact SqL.of (fr p.1 _ (fun e => by rw [← e, hpp] at n2; cases n2) (t1 _ _ (s9 _ _ hpp)))
        · rintro j x σ H12 hx ⟨kv2, y5, rfl, h12, l12, m12, fr⟩
          rw [List.getElem?_map] at hx
          obtain ⟨z, hz, rfl⟩ := Option.map_eq_some_iff.mp hx
          have lj : j < p.2.length := (List.getElem?_eq_some_iff.mp hz).1
          have lo := good.low _ pr
          have fw := good.few
          rw [rowT_len] at fw
          refine ⟨_, rfl, _, rfl, Td, _, rfl, DPut.k (k := Sum.inr z) h12 (small1000 (by omega)), ?_⟩
          refine ⟨putK kv2 (.inr z) (.bl true), _, rfl, upd_same, Nat.le_trans (length_putK _ _ _) (by omega), fun x => ?_, fun b o nb hb => by rw [upd_ne nb]; exact fr b o nb hb⟩
          rw [hasKey_put, Bool.or_eq_true, decide_eq_true_eq, m12 x, List.take_add_one, hz, List.mem_append]
          simp only [Option.toList_some, List.mem_singleton]
          constructor
          · rintro (e | e | e)
            · exact .inr (.inr e)
            · exact .inl e
            · exact .inr (.inl e)
          · rintro (e | e | e)
            · exact .inr (.inl e)
            · exact .inr (.inr e)
            · exact .inl e
        · rintro σ H12 ⟨kv2, y5, rfl, h12, l12, m12, fr⟩
          rw [List.length_map] at l12 m12
          rw [List.take_length] at m12
          have lo := good.low _ pr
          have fL : H12 Lb = some (.lst (refT M)) := fr Lb _ neq (t1 _ _ hLb)
          have fp : H12 p.1 = some (.lst (p.2.map V.str)) := fr p.1 _ (fun e => by rw [← e, hpp] at n2; cases n2) (t1 _ _ (s9 _ _ hpp))
          have sH : Same H H12 := fun b o hb => fr b o (fun e => by rw [e, n2] at hb; cases hb) (t1 _ _ (s9 _ _ hb))
          have fM : TuT H12 M := fun q hq => fr q.1 _ (fun e => by
            have z := hM q hq
            rw [e, hTd] at z
            cases z) (t1 _ _ (hM q hq))
          refine ⟨_, rfl, .inl ⟨rfl, _, SqL.of fL⟩, _, rfl, p.1, _, rfl, strs_keys K fp, by rw [List.length_map]; omega, fun st D nst ndD mD => ?_⟩
          -- the set's texts
          obtain ⟨ss, eD, nss, mss⟩ : ∃ ss : List Str, D = ss.map Sum.inr ∧ ss.Nodup ∧ ∀ z, z ∈ ss ↔ z ∈ p.2 := by
            refine ⟨D.map txK, ?_, ?_, fun z => ?_⟩
            · rw [List.map_map]
              refine (List.map_id D).symm.trans (List.map_congr_left fun k hk => ?_)
              obtain ⟨z, _, e⟩ := List.mem_map.mp ((mD k).mp hk)
              rw [← e]
              rfl
            · refine List.pairwise_map.mpr (List.Pairwise.imp_of_mem (fun {k j} hk hj ne e => ne ?_) ndD)
              obtain ⟨z, _, e1⟩ := List.mem_map.mp ((mD k).mp hk)
              obtain ⟨y, _, e2⟩ := List.mem_map.mp ((mD j).mp hj)
              rw [← e1, ← e2] at e ⊢
              exact congrArg Sum.inr e
            · rw [List.mem_map]
              constructor
              · rintro ⟨k, hk, rfl⟩
                obtain ⟨y, hy, e⟩ := List.mem_map.mp ((mD k).mp hk)
                rw [← e]
                exact hy
              · exact fun h => ⟨.inr z, (mD _).mpr (List.mem_map.mpr ⟨z, h, rfl⟩), rfl⟩
          have lss : ss.length = p.2.length := len_of_mem (good.nd _ pr) nss mss
          have eA : asc ltS ss = asc ltS p.2 := asc_mem tot_ltS mss
          have s13 : Same H12 (upd H12 st (KS w st D)) := same_new nst _
          refine ⟨st, D, ss, rfl, upd_same, eD, by omega, fun q nq => ?_⟩
          have s14 := s13.trans (same_new nq (.lst ((asc ltS ss).map V.str)))
          refine ⟨q, _, rfl, .inl ⟨SqL.of upd_same, fun r nr => ?_⟩⟩
          rw [eA] at nr s14 ⊢
          have s15 := s14.trans (same_new nr (.tup ((asc ltS p.2).map V.str)))
          have fw := good.few
          rw [rowT_len] at fw
          have lM : M.length = i := by
            have z := congrArg List.length eM
            rw [rowT_len, List.length_map, List.length_take, rowT_len] at z
            omega
          refine ⟨Lb, _, _, rfl, rfl, s15 _ _ fL, small1000 (by rw [refT_len]; omega), ?_⟩
          have nLr : Lb ≠ r := ne_of_none (s14 _ _ fL) nr
          refine ⟨⟨M ++ [(r, asc ltS p.2)], kv2, some (.int (i : Nat)), some (.ref p.1), y5, rfl, ?_, ?_, ?_, ?_, ?_, fun x => ?_⟩, fun b o hb => ?_⟩
          · rw [upd_same, refT_app]
            rfl
          · intro z hz
            have nz : ∀ {z : Addr × List Str}, z ∈ M → z.1 ≠ Lb := fun {z} hz e => by
              have y := fM z hz
              rw [e, fL] at y
              cases y
            rcases List.mem_append.mp hz with h | h
            · rw [upd_ne (nz h)]
              exact s15 _ _ (fM z h)
            · rw [List.mem_singleton.mp h, upd_ne nLr.symm]
              exact upd_same
          · rw [rowT_app, eM, List.take_add_one, rp, List.map_append]
            rfl
          · rw [upd_ne neq.symm]
            exact s15 _ _ h12
          · omega
          · rw [m12 x, mk x, List.take_add_one, rp]
            simp only [Option.toList_some, List.mem_append, List.mem_singleton]
            constructor
            · rintro (⟨b, hb, hx⟩ | h)
              · exact ⟨b, .inl hb, hx⟩
              · exact ⟨_, .inr rfl, h⟩
            · rintro ⟨b, hb | rfl, hx⟩
              · exact .inl ⟨b, hb, hx⟩
              · exact .inr hx
          · rw [upd_ne (ne_of_none hb n1)]
            exact s15 _ _ (sH _ _ hb)
    · rintro σ H9 ⟨⟨M, kvs, x3, x4, x5, rfl, hLb, hM, eM, hTd, lk, mk⟩, s9⟩
      rw [refT_len] at eM
      have fw := good.few
      rw [List.take_of_length_le (by rw [rowT_len]; exact Nat.le_refl _)] at eM
      have lM : M.length ≤ 20 := by
        have z := congrArg List.length eM
        rw [rowT_len, List.length_map] at z
        omega
      refine ⟨_, rfl, Lb, M, rfl, .inl (SqL.of hLb), hM.at, by omega, fun st N nst sub cov ndN => ?_⟩
      have s10 : Same H9 (upd H9 st (TO P w st N)) := same_new nst _
      have hN : TuT H9 N := fun p hp => hM p (sub p hp)
      have ne0 : ∀ p ∈ N, p.2 ≠ [] := fun p hp e => by
        have m : p.2 ∈ rowT M := List.mem_map.mpr ⟨p, sub p hp, rfl⟩
        rw [eM] at m
        obtain ⟨b, hb, eb⟩ := List.mem_map.mp m
        rw [e] at eb
        have lb := asc_len tot_ltS (good.nd b hb)
        rw [eb] at lb
        exact good.ne b hb (List.eq_nil_of_length_eq_zero lb.symm)
      refine ⟨st, N, rfl, upd_same, (hN.mono s10).at, ne0, fun O q nq pO aO => ?_⟩
      have s11 := s10.trans (same_new nq (.lst (refT O)))
      refine ⟨q, _, rfl, .inl ⟨SqL.of upd_same, fun r nr => ?_⟩⟩
      have s12 := s11.trans (same_new nr (.tup (refT O)))
      refine k r O _ (s9.trans s12) ((s9.trans s11).free nr) upd_same (TuT.mono (fun p hp => hN p (pO.mem_iff.mp hp)) s12) ?_
      unfold rowsOf
      refine asc_of tot_lexS aO fun b => ?_
      have pr : (rowT O).Perm (rowT N) := by unfold rowT; exact pO.map _
      rw [pr.mem_iff, ← eM]
      constructor
      · intro h
        obtain ⟨p, hp, rfl⟩ := List.mem_map.mp h
        exact List.mem_map.mpr ⟨p, sub p hp, rfl⟩
      · intro h
        obtain ⟨p, hp, rfl⟩ := List.mem_map.mp h
        exact cov p hp
end
end K1
set_option maxRecDepth 100000
set_option maxHeartbeats 2000000
namespace K1
open PySem PySem.Spec PyProof.Rows L2
open Sem (wp)
open AutoSeq1 (wpAny_loadPart')
/-! ### enumerate of a tuple -/
theorem meets_enumT (l : Addr) (items : Array Value) (n : Nat) (dct : Option Addr) (sl : Array (Option Value)) :
    Meets (Builtin.«enumerate.__new__» ⟨[.type "enumerate", .ref l], []⟩) (fun _ R s => s.heap.get? l = some { cls := .type "tuple", dict := dct, data := .seq items n, slots := sl } ∧
      R (.ok (.ret (.ref (s.heap.push { cls := .type "tuple_iterator", data := .fields #[.ref l, .int 0 0] }).objs.size)))
        { s with heap := (s.heap.push { cls := .type "tuple_iterator", data := .fields #[.ref l, .int 0 0] }).push { cls := .type "enumerate", data := .fields #[.none, .bool false, .ref s.heap.objs.size, rawInt 0, .none, .none] } }) :=
  .of_wp fun prog w A R s h => by
    obtain ⟨hp, g, d, tk, os⟩ := s; obtain ⟨hl, h⟩ := h
    have hsub := sub_enumerate
    have hL : Heap.IsTuple (Shared.heap ⟨hp, g, d, tk, os⟩) l items := ⟨_, hl, rfl, n, rfl⟩
    wp_walk using wpAny_loadPart' hl
    refine wpAny_stack_any fun st => wpAny_pure ?_
    split
    · rename_i c _ _ _ _ _
      cases (c == Value.type "enumerate")
      · wp_walk using wpAny_loadPart' hl, wpAny_pyIter_tuple hL
        exact ⟨_, rfl, h⟩
      · wp_walk using wpAny_loadPart' hl, wpAny_pyIter_tuple hL
        exact ⟨_, rfl, h⟩
    · wp_walk using wpAny_loadPart' hl, wpAny_pyIter_tuple hL
      exact ⟨_, rfl, h⟩
section
variable {prog : Program} {w : World} {A : Around} {E : Value → Shared → Prop} {s : Shared}
theorem call_enumT {l : Addr} {items : Array Value} {Q : Value → Shared → Prop} (hL : s.heap.IsTuple l items)
    (h : ∀ h', IsEnum h' (s.heap.objs.size + 1) s.heap.objs.size 0 .none → h'.IsTupleIter s.heap.objs.size l 0 → h'.objs.size = s.heap.objs.size + 2 →
      (∀ b o, s.heap.get? b = some o → h'.get? b = some o) → Q (.ref (s.heap.objs.size + 1)) { s with heap := h' }) :
    wpAny (model prog w) A (call (.type "enumerate") [.ref l]) Q E s := by
  obtain ⟨⟨c, dct, dt, sl⟩, hl, hc, n, hd⟩ := hL
  replace hc : c = .type "tuple" := hc
  replace hd : dt = .seq items n := hd
  subst hc hd
  refine callType_new F.called_enumerate (by decide) (F.typeCall_enumerate_1 _) (F.newCall_enumerate_1 _) (fun obj => F.args_object_init_2 obj _) F.entry_enumerate_new
    (meets_enumT l items n dct sl) ⟨hl, ?_⟩
  have hz : (s.heap.push { cls := .type "tuple_iterator", data := .fields #[.ref l, .int 0 0] }).objs.size = s.heap.objs.size + 1 := Heap.size_push ..
  show _ ∧ _
  rw [hz]
  have he : IsEnum ((s.heap.push { cls := .type "tuple_iterator", data := .fields #[.ref l, .int 0 0] }).push
      { cls := .type "enumerate", data := .fields #[.none, .bool false, .ref s.heap.objs.size, rawInt 0, .none, .none] }) (s.heap.objs.size + 1) s.heap.objs.size 0 .none := by
    have := Heap.get?_push_size (s.heap.push { cls := .type "tuple_iterator", data := .fields #[.ref l, .int 0 0] })
      (o := { cls := .type "enumerate", data := .fields #[.none, .bool false, .ref s.heap.objs.size, rawInt 0, .none, .none] }) rfl
    rw [hz] at this; exact this
  refine ⟨⟨_, he, rfl⟩, h _ he ⟨_, Heap.get?_push_of_some _ (Heap.get?_push_size _ rfl), rfl, rfl⟩ (by rw [Heap.size_push, hz]) fun b o x => Heap.get?_push_of_some _ (Heap.get?_push_of_some _ x)⟩
end
/-- the tuple at a, each item in a new pair -/
def IteT (K : PySem.W.Frag) (a : Addr) : It :=
  ⟨fun i H => ∃ (xs : List V) (x : V), SqT K H a xs ∧ xs[i]? = some x, fun i H v H' => ∃ T x, v = .ref T ∧ H T = none ∧ H' = upd H T (.tup [.int (i : Nat), x]) ∧ ∀ xs, SqT K H a xs → xs[i]? = some x, fun i H => ∃ xs : List V, SqT K H a xs ∧ xs.length ≤ i⟩
theorem draws_end {prog : Program} {w : World} {A : Around} (hh : A.handled = none) (it t : Addr) (items : Array Value) {i : Nat} (hi : items[i]? = none) :
    Draws prog w A it [it, t] i (fun _ _ => False) (fun j h => j = i ∧ h.IsTupleIter it t i ∧ h.IsTuple t items) where
  live := fun _ _ st => let ⟨o, ho, _⟩ := st.2.1; ⟨o, ho⟩
  frame := fun _ _ _ st hk => ⟨st.1, st.2.1.at fun o e => hk it (by simp) o e, st.2.2.at fun o e => hk t (by simp) o e⟩
  item := fun j s Q E hj st _ => absurd st.1 (Nat.ne_of_lt hj)
  done := fun s Q E st hE => wpAny_nextOf_tuple_end hh st.2.1 st.2.2 hi hE
theorem turn_enumT {P : Program} {w : World} {K : PySem.W.Frag} {elts : List Expr} {kk : Nat} {tpos : Pos} (a e it : Addr) :
    Turn P w K (.Tuple elts kk tpos) (IteT K a) [e, it] e (fun i h => (∃ old, IsEnum h e it ((i : Nat) : Int) old) ∧ h.IsTupleIter it a i ∧ e ≠ it) where
  mem := by simp
  obj := fun i h st b hb => by
    obtain ⟨⟨old, he⟩, ⟨o, ho, hc, hd⟩, _⟩ := st
    have e' : b = e ∨ b = it := by simpa using hb
    rcases e' with z | z
    · rw [z]; exact ⟨_, he, fun v q => nomatch q⟩
    · rw [z]; exact ⟨o, ho, fun v q => by rw [hd] at q; cases q⟩
  keep := fun i h h' st k => let ⟨⟨old, he⟩, hi, hne⟩ := st; ⟨⟨old, k e (by simp) _ he⟩, hi.at fun o q => k it (by simp) o q, hne⟩
  item := by
    intro X hP hw hK hc i pins s σ H E I hf st hg
    subst hP hw hK
    obtain ⟨⟨old, he⟩, hit, hne⟩ := st
    obtain ⟨xs, x, hq, hx⟩ := hg
    obtain ⟨its, rv, p, hz⟩ := I.tuple hq
    obtain ⟨u, hu, ru⟩ := rv.get hx
    have pt : s.heap.IsTuple a its.toArray := p
    have hel : e < s.heap.objs.size := Heap.lt_size he
    have hil : it < s.heap.objs.size := by obtain ⟨_, q, _⟩ := hit; exact Heap.lt_size q
    have nai : a ≠ it := fun z => by
      obtain ⟨o, h1, h2, _⟩ := pt
      obtain ⟨o2, h3, h4, _⟩ := hit
      rw [z, h3] at h1
      cases h1
      rw [h4] at h2
      exact absurd h2 (by decide)
    have nae : e ≠ a := fun z => by
      obtain ⟨o, h1, h2, _⟩ := pt
      have h3 : s.heap.get? e = some _ := he
      rw [← z, h3] at h1
      cases h1
      have h5 : Value.type "enumerate" = Value.type "tuple" := h2
      exact absurd h5 (by decide)
    have hl : i < its.toArray.size := by
      have := (List.getElem?_eq_some_iff.mp hu).1
      simpa using this
    refine wpAny_pyNext_enum_itemD (Draws.tuple (A := X.A.in1) (I.ok.hd hc) it a nai its.toArray) he ⟨hit, pt⟩ hl hne (by simp [hne, nae]) fun x' h' tk px ho hst hT hsz hk => ?_
    obtain rfl : x' = u := by
      have e1 : its.toArray[i]? = some u := by simpa using hu
      rw [e1] at px
      exact (Option.some.inj px).symm
    refine ⟨_, rfl, wpAny_letOwnedTupleGo_enum (s := { s with heap := h', toks := tk + 1 }) ho fun h'' he' sb => ?_⟩
    have hT2 : h''.get? s.heap.objs.size = some { cls := .type "tuple", data := .seq #[.int i tk, x'] } := (sb.2 _ (Nat.ne_of_gt hel)).trans hT
    have new : ObjOk X.prog X.w (upd H s.heap.objs.size (.tup [.int (i : Nat), x])) h'' s.heap.objs.size (.tup [.int (i : Nat), x]) :=
      ⟨by show 2 ≤ sizeLine; decide, [.int i tk, x'], .cons ⟨_, rfl⟩ (.cons ru .nil), ⟨_, hT2, rfl, _, rfl⟩⟩
    have I1 : Inv X pins σ (upd H s.heap.objs.size (.tup [.int (i : Nat), x])) { s with heap := h'', toks := tk + 1 } :=
      I.turnedNew (ch := [e, it]) (fun b ob hb q => (sb.2 b (fun z => hb (by simp [z]))).trans (hk b ob (fun z => hb (by simp [z])) (fun z => hb (by simp [z])) q)) hf (Nat.le_refl _) new
    refine ⟨.ref s.heap.objs.size, _, I1, rfl, ⟨_, x, rfl, I.hok.fresh (Nat.le_refl _), rfl, fun ys hy => by rw [I.tuple_inj hy hq]; exact hx⟩, ⟨⟨x', ?_⟩, hst.1.at fun o q => (sb.2 it (Ne.symm hne)).trans q, hne⟩, fun b hb => ?_⟩
    · have e1 : ((i + 1 : Nat) : Int) = (i : Int) + 1 := by omega
      rw [e1]; exact he'
    · have hb' : b < s.heap.objs.size := by
        have e' : b = e ∨ b = it := by simpa using hb
        rcases e' with z | z
        · rw [z]; exact hel
        · rw [z]; exact hil
      rw [upd_ne (Nat.ne_of_lt hb')]
      exact (hf b hb).1
  done := by
    intro X hP hw hK hc i pins s σ H E I hf st hg
    subst hP hw hK
    obtain ⟨⟨old, he⟩, hit, hne⟩ := st
    obtain ⟨xs, hq, hx⟩ := hg
    obtain ⟨its, rv, p, hz⟩ := I.tuple hq
    obtain ⟨f0, f1, f2, f3, f4, f5⟩ := hf it (by simp)
    have hl := rv.length
    exact wpAny_pyNext_enum_endD (draws_end (A := X.A.in1) (i := i) (I.ok.hd hc) it a its.toArray (by simp; omega)) he ⟨rfl, hit, p⟩ fun h' eb => ⟨rfl, I.turned (t' := s.toks) (fun b o hb q => eb b o hb q) f0 f1 f3 f4 f5⟩
  self := fun A i s Q E st h => let ⟨⟨_, he⟩, _⟩ := st; wpAny_pyIter_enum he h
def iEnumT (K : PySem.W.Frag) (ta : TA) : TI := fun σ H R => ta σ H fun vs H1 => ∃ a xs, vs = [.ref a] ∧ SqT K H1 a xs ∧ R (IteT K a) H1
theorem pi_enumT {X : Cx} {e : Expr} {ta : TA} {p pos tpos : Pos} {elts : List Expr} {kk : Nat} (hg : Gl X "enumerate") (hm : X.mg "enumerate" = none) (ha : PA X [e] ta) (hs : starEach [e] X.env = [(false, eval e X.env)] := by rfl) :
    PI X (.Tuple elts kk tpos) (.Call (.Name "enumerate" p) [e] [] pos) (iEnumT X.K ta) := by
  refine ⟨fun pins s σ H R I h => ?_⟩
  refine Call_ (ld_blt I hg hm boot_enumerate (PyProof.Rows.callWith_type1 (thn (ha.run pos pins s σ H _ I h) fun us s1 ⟨vs, H1, I1, r1, q1⟩ => ?_) hs rfl))
  obtain ⟨a, xs, ex, hq, q⟩ := q1
  subst ex
  cases r1 with
  | cons r rr =>
    cases rr
    cases r
    obtain ⟨its, rv, p', hz⟩ := I1.tuple hq
    refine call_enumT p' fun h' he hit hsz hk => wpAny_pyIter_enum he ?_
    have I2 : Inv X pins σ H1 { s1 with heap := h' } := I1.kept (t' := s1.toks) hk
    refine ⟨s1.heap.objs.size + 1, [s1.heap.objs.size + 1, s1.heap.objs.size], _, _, H1, rfl, I2, turn_enumT a (s1.heap.objs.size + 1) s1.heap.objs.size, ⟨⟨.none, he⟩, hit, Nat.succ_ne_self _⟩, fun b hb => ?_, q⟩
    have e' : b = s1.heap.objs.size + 1 ∨ b = s1.heap.objs.size := by simpa using hb
    have hle : s1.heap.objs.size ≤ b := by
      rcases e' with z | z
      · rw [z]; exact Nat.le_add_right _ _
      · rw [z]; exact Nat.le_refl _
    exact I1.fpOk hle (I1.hok.fresh hle)
theorem walk_enumT {K : PySem.W.Frag} {a : Addr} {xs : List V} : Walk (IteT K a) xs.length (fun H => SqT K H a xs) (YPair (fun i => some (.int (i : Nat))) (fun i => xs[i]?)) := by
  refine ⟨fun i _ hi q => ⟨xs, xs[i], q, by simp [hi]⟩, fun _ q => ⟨xs, q, Nat.le_refl _⟩, fun i H v H' _ q y => ?_⟩
  obtain ⟨T, x, h1, h2, h3, h4⟩ := y
  exact ⟨T, .int (i : Nat), x, h1, h2, h3, rfl, h4 xs q⟩
end K1
set_option linter.all false
set_option maxRecDepth 100000
set_option maxHeartbeats 1000000
namespace K1
open PySem L2
/-! ### the mathematics of a meeting -/
/-- the number of the block in which a name stands -/
def numOf (R : List (List Str)) (x : Str) : Option Nat := R.findIdx? fun b => decide (x ∈ b)
def namesOf (R : List (List Str)) : List Str := asc ltS R.flatten
def codeOf (R : List (List Str)) : List Int := (namesOf R).map fun x => (((numOf R x).getD 0 : Nat) : Int)
structure GoodR (R : List (List Str)) : Prop where
  good : GoodB R
  up : ∀ b ∈ R, Asc1 ltS b
  upR : Asc1 lexS R
theorem numOf_snoc (R : List (List Str)) (b : List Str) (x : Str) : numOf (R ++ [b]) x = match numOf R x with
    | some k => some k
    | none => if x ∈ b then some R.length else none := by
  unfold numOf
  rw [List.findIdx?_append]
  cases R.findIdx? (fun b => decide (x ∈ b)) with
  | some k => rfl
  | none =>
    by_cases e : x ∈ b
    · simp [e]
    · simp [e]
theorem numOf_some {R : List (List Str)} {x : Str} {k : Nat} (h : numOf R x = some k) : ∃ b, R[k]? = some b ∧ x ∈ b := by
  obtain ⟨hk, hx, _⟩ := List.findIdx?_eq_some_iff_getElem.mp h
  exact ⟨R[k], List.getElem?_eq_getElem hk, of_decide_eq_true hx⟩
theorem numOf_none {R : List (List Str)} {x : Str} (h : numOf R x = none) : ∀ b ∈ R, x ∉ b := fun b hb hx => by
  have z := List.findIdx?_eq_none_iff.mp h b hb
  rw [decide_eq_true hx] at z
  cases z
theorem numOf_mem {R : List (List Str)} {x : Str} : (numOf R x).isSome = true ↔ x ∈ R.flatten := by
  rw [List.mem_flatten]
  constructor
  · intro h
    obtain ⟨k, hk⟩ := Option.isSome_iff_exists.mp h
    obtain ⟨b, hb, hx⟩ := numOf_some hk
    exact ⟨b, List.mem_of_getElem? hb, hx⟩
  · rintro ⟨b, hb, hx⟩
    cases h : numOf R x with
    | some k => rfl
    | none => exact absurd hx (numOf_none h b hb)
theorem dis_at {B : List (List Str)} (d : B.Pairwise fun b c => ∀ z ∈ b, z ∉ c) {i j : Nat} {b c : List Str} (hb : B[i]? = some b) (hc : B[j]? = some c) {z : Str} (h1 : z ∈ b) (h2 : z ∈ c) : i = j := by
  have li := (List.getElem?_eq_some_iff.mp hb).1
  have lj := (List.getElem?_eq_some_iff.mp hc).1
  have eb : B[i] = b := Option.some.inj ((List.getElem?_eq_getElem li).symm.trans hb)
  have ec : B[j] = c := Option.some.inj ((List.getElem?_eq_getElem lj).symm.trans hc)
  have q := List.pairwise_iff_getElem.mp d
  rcases Nat.lt_trichotomy i j with h | h | h
  · have w := q i j li lj h
    rw [eb, ec] at w
    exact absurd h2 (w z h1)
  · exact h
  · have w := q j i lj li h
    rw [eb, ec] at w
    exact absurd h1 (w z h2)
theorem numOf_at {R : List (List Str)} (d : R.Pairwise fun b c => ∀ z ∈ b, z ∉ c) {k : Nat} {b : List Str} {x : Str} (hb : R[k]? = some b) (hx : x ∈ b) : numOf R x = some k := by
  have m : (numOf R x).isSome = true := numOf_mem.mpr (List.mem_flatten.mpr ⟨b, List.mem_of_getElem? hb, hx⟩)
  obtain ⟨j, hj⟩ := Option.isSome_iff_exists.mp m
  obtain ⟨c, hc, hxc⟩ := numOf_some hj
  rw [hj, dis_at d hc hb hxc hx]
/-- two names stand in one block -/
def oneB (B : List (List Str)) (x y : Str) : Prop := ∃ b ∈ B, x ∈ b ∧ y ∈ b
theorem num_one {R : List (List Str)} (d : R.Pairwise fun b c => ∀ z ∈ b, z ∉ c) {x y : Str} (hx : x ∈ R.flatten) : numOf R x = numOf R y ↔ oneB R x y := by
  constructor
  · intro e
    obtain ⟨k, hk⟩ := Option.isSome_iff_exists.mp (numOf_mem.mpr hx)
    obtain ⟨b, hb, h1⟩ := numOf_some hk
    rw [hk] at e
    obtain ⟨c, hc, h2⟩ := numOf_some e.symm
    rw [hb] at hc
    cases hc
    exact ⟨b, List.mem_of_getElem? hb, h1, h2⟩
  · rintro ⟨b, hb, h1, h2⟩
    obtain ⟨k, hk, ek⟩ := List.getElem_of_mem hb
    have hb' : R[k]? = some b := by rw [List.getElem?_eq_getElem hk, ek]
    rw [numOf_at d hb' h1, numOf_at d hb' h2]
theorem mem_ascS {x : Str} {b : List Str} : x ∈ asc ltS b ↔ x ∈ b := mem_asc tot_ltS
theorem asc_dis {B : List (List Str)} (d : B.Pairwise fun b c => ∀ z ∈ b, z ∉ c) : (B.map (asc ltS)).Pairwise fun b c => ∀ z ∈ b, z ∉ c :=
  List.pairwise_map.mpr (d.imp fun h z hz hc => h z (mem_ascS.mp hz) (mem_ascS.mp hc))
theorem dis_nodup {B : List (List Str)} (d : B.Pairwise fun b c => ∀ z ∈ b, z ∉ c) (ne : ∀ b ∈ B, b ≠ []) : B.Nodup := by
  refine List.Pairwise.imp_of_mem (fun {b c} hb hc h e => ?_) d
  subst e
  cases b with
  | nil => exact ne _ hb rfl
  | cons x r => exact h x (.head _) (.head _)
theorem flat_len_perm {B C : List (List Str)} (p : B.Perm C) : B.flatten.length = C.flatten.length := (List.Perm.flatten p).length_eq
theorem asc_ne {B : List (List Str)} (nd : ∀ b ∈ B, b.Nodup) (ne : ∀ b ∈ B, b ≠ []) : ∀ b ∈ B.map (asc ltS), b ≠ [] := fun b hb e => by
  obtain ⟨c, hc, rfl⟩ := List.mem_map.mp hb
  have l := asc_len tot_ltS (nd c hc)
  rw [e] at l
  exact ne c hc (List.eq_nil_of_length_eq_zero l.symm)
theorem flat_asc : ∀ {B : List (List Str)}, (∀ b ∈ B, b.Nodup) → (B.map (asc ltS)).flatten.length = B.flatten.length
  | [], _ => rfl
  | b :: B, nd => by
    rw [List.map_cons, List.flatten_cons, List.flatten_cons, List.length_append, List.length_append, flat_asc fun c hc => nd c (.tail _ hc), asc_len tot_ltS (nd b (.head _))]
theorem rows_perm {B : List (List Str)} (g : GoodB B) : (rowsOf B).Perm (B.map (asc ltS)) := asc_perm tot_lexS (dis_nodup (asc_dis g.dis) (asc_ne g.nd g.ne))
theorem good_rows {B : List (List Str)} (g : GoodB B) : GoodR (rowsOf B) := by
  have p := rows_perm g
  have mem : ∀ b ∈ rowsOf B, ∃ c ∈ B, asc ltS c = b := fun b hb => List.mem_map.mp (p.mem_iff.mp hb)
  refine ⟨⟨fun b hb z hz => ?_, fun b hb => asc_ne g.nd g.ne b (p.mem_iff.mp hb), fun b hb => ?_, ?_, ?_, fun b hb => ?_, ?_⟩, fun b hb => ?_, asc_asc tot_lexS _⟩
  · obtain ⟨c, hc, rfl⟩ := mem b hb
    exact g.nm c hc z (mem_ascS.mp hz)
  · obtain ⟨c, hc, rfl⟩ := mem b hb
    exact asc_nodup tot_ltS (asc_asc tot_ltS c)
  · exact (List.Perm.pairwise_iff (fun {b c} h z hz hc => h z hc hz) p).mpr (asc_dis g.dis)
  · rw [p.length_eq, List.length_map]
    exact g.few
  · obtain ⟨c, hc, rfl⟩ := mem b hb
    rw [asc_len tot_ltS (g.nd c hc)]
    exact g.low c hc
  · rw [flat_len_perm p, flat_asc g.nd]
    exact g.tot
  · obtain ⟨c, hc, rfl⟩ := mem b hb
    exact asc_asc tot_ltS c
theorem one_rows {B : List (List Str)} (g : GoodB B) {x y : Str} : oneB (rowsOf B) x y ↔ oneB B x y := by
  have p := rows_perm g
  constructor
  · rintro ⟨b, hb, h1, h2⟩
    obtain ⟨c, hc, rfl⟩ := List.mem_map.mp (p.mem_iff.mp hb)
    exact ⟨c, hc, mem_ascS.mp h1, mem_ascS.mp h2⟩
  · rintro ⟨c, hc, h1, h2⟩
    exact ⟨asc ltS c, p.mem_iff.mpr (List.mem_map.mpr ⟨c, hc, rfl⟩), mem_ascS.mpr h1, mem_ascS.mpr h2⟩
theorem mem_rows {B : List (List Str)} (g : GoodB B) {x : Str} : x ∈ (rowsOf B).flatten ↔ x ∈ B.flatten := by
  have z := one_rows g (x := x) (y := x)
  rw [List.mem_flatten, List.mem_flatten]
  constructor
  · rintro ⟨b, hb, hx⟩
    obtain ⟨c, hc, h, _⟩ := z.mp ⟨b, hb, hx, hx⟩
    exact ⟨c, hc, h⟩
  · rintro ⟨b, hb, hx⟩
    obtain ⟨c, hc, h, _⟩ := z.mpr ⟨b, hb, hx, hx⟩
    exact ⟨c, hc, h⟩
/-! ### the object -/
structure MeetO (C : Addr) (H : Hp) (a : Addr) (R : List (List Str)) (dx t d n c : Addr) (M : TL) (kvs : List (Key × V)) : Prop where
  ob : H a = some (.ins C dx [("blocks", .ref t), ("_numbers", .ref d), ("names", .ref n), ("code", .ref c)])
  bl : H t = some (.tup (refT M))
  tu : TuT H M
  row : rowT M = R
  nu : H d = some (.dK kvs)
  num : ∀ x, valV kvs (.inr x) = (numOf R x).map fun k => V.int (k : Nat)
  na : H n = some (.tup ((namesOf R).map V.str))
  co : H c = some (.tup ((codeOf R).map V.int))
  good : GoodR R
/-- the Meeting with these rows stands at a -/
def MeetAt (C : Addr) (H : Hp) (a : Addr) (R : List (List Str)) : Prop := ∃ dx t d n c M kvs, MeetO C H a R dx t d n c M kvs
theorem MeetAt.mono {C : Addr} {H H' : Hp} {a : Addr} {R : List (List Str)} (h : MeetAt C H a R) (s : Same H H') : MeetAt C H' a R := by
  obtain ⟨dx, t, d, n, c, M, kvs, o⟩ := h
  exact ⟨dx, t, d, n, c, M, kvs, s _ _ o.ob, s _ _ o.bl, o.tu.mono s, o.row, s _ _ o.nu, o.num, s _ _ o.na, s _ _ o.co, o.good⟩
theorem MeetAt.ins {C : Addr} {H : Hp} {a : Addr} {R : List (List Str)} (h : MeetAt C H a R) : Ins H a C := by
  obtain ⟨dx, t, d, n, c, M, kvs, o⟩ := h
  exact ⟨dx, _, o.ob⟩
theorem MeetAt.good {C : Addr} {H : Hp} {a : Addr} {R : List (List Str)} (h : MeetAt C H a R) : GoodR R := by
  obtain ⟨dx, t, d, n, c, M, kvs, o⟩ := h
  exact o.good
/-- what the class Meeting is -/
structure MeetC (K : PySem.W.Frag) (mg : Str → Option Value) (C : Addr) : Prop where
  glob : mg "Meeting" = some (.ref C)
  cls : Cls K C
  nb : NoAttr K C "blocks"
  nu : NoAttr K C "_numbers"
  nn : NoAttr K C "names"
  nc : NoAttr K C "code"
  isC : C8.InsC K C
  sf : PySem.W.selfFirst K C = true
  nf : PySem.W.notFirst K C (.ref C) = true
def spMInit (C : Addr) : Sp := fun vs H Q _ => ∃ (x a dx : Addr) (B : TL), vs = [.ref x, .ref a] ∧ H x = some (.ins C dx []) ∧ H a = some (.lst (refT B)) ∧ LiT H B ∧ GoodB (rowT B) ∧
  ∀ (H' : Hp), (∀ b o, b ≠ x → H b = some o → H' b = some o) → MeetAt C H' x (rowsOf (rowT B)) → Q .non H'
theorem key_mem {kvs : List (Key × V)} {k : Key} : k ∈ kvs.map (·.1) ↔ (valV kvs k).isSome = true := by
  rw [← valV_any, List.any_eq_true, List.mem_map]
  constructor
  · rintro ⟨p, hp, rfl⟩
    exact ⟨p, hp, by simp⟩
  · rintro ⟨p, hp, e⟩
    exact ⟨p, hp, of_decide_eq_true e⟩
end K1
set_option linter.all false
set_option maxRecDepth 100000
set_option maxHeartbeats 1000000
namespace K1
open PySem L2
theorem nodup_leK {α : Type} [DecidableEq α] : ∀ {l D : List α}, l.Nodup → (∀ x ∈ l, x ∈ D) → l.length ≤ D.length
  | [], _, _, _ => Nat.zero_le _
  | x :: r, D, nd, h => by
    obtain ⟨n1, n2⟩ := List.nodup_cons.mp nd
    have mx := h x (.head _)
    have q := nodup_leK (l := r) (D := D.erase x) n2 fun y hy => (List.mem_erase_of_ne fun e => n1 (by rw [← e]; exact hy)).mpr (h y (.tail _ hy))
    rw [List.length_erase_of_mem mx] at q
    have p := List.length_pos_of_mem mx
    rw [List.length_cons]
    omega
structure TxtM (mg : Str → Option Value) : Prop where
  set : mg "set" = none
  sorted : mg "sorted" = none
  tuple : mg "tuple" = none
  enum : mg "enumerate" = none
section
variable {P : Program} {w : World} {K : PySem.W.Frag} {mg : Str → Option Value} {base : Heap} {C : Addr}
abbrev NMi : List Str := ["self", "blocks", "number", "block", "name"]
theorem scMi : FnScope NMi ["self", "blocks"] (defScope cMeetingInit) := ⟨rfl, rfl, rfl, by decide +kernel, rfl, by decide +kernel, by decide +kernel⟩
theorem ok_minit {f fA : Addr} {fd fdA : FuncData} (F : Fun K "__init__" "Meeting.__init__" cMeetingInit f fd) (c : MeetC K mg C) (GA : FnOk P w K mg base CX0 4 fA fdA ["things"] spAscB) (gA : mg "ascending_blocks" = some (.ref fA)) (kA : PySem.W.keepIn K (.ref fA) = true) (bA : Binds K fdA ["things"] []) (T : TxtM mg) :
    FnOk P w K mg base CX0 5 f fd ["self", "blocks"] (spMInit C) := by
  refine F.ok scMi (fun vs H Q E h => ?_) (fun cdv A outer s H vs Q E hr h => ?_)
  · obtain ⟨x, a, dx, B, rfl, _⟩ := h
    rfl
  · obtain ⟨x, a, dx, B, rfl, hx, ha, hB, good, k⟩ := h
    have hu := hu_of hr
    refine ⟨_, pss_cons (ps_fld (pv 0) (pe_call GA hr (by rfl) gA kA bA .nil pass0 (pa_cons (pv 1) pa_nil)) rfl)
      (pss_cons (ps_fld (pv 0) (pe_dc2 (own := [("number", 2), ("block", 3), ("name", 4)]) (vs1 := [4]) (g := gTup K 2 (gCons (gName 2) (gCons (gName 3) gNil))) (g1 := gName 4) (wi1 := iTup K (tVar 3)) rfl scMi.nd (pi_enumT (by rfl) T.enum (pa_cons (pe_fld (pv 0) rfl) pa_nil)) (blkOk_by (N := NMi) (sc := defScope cMeetingInit) (by decide +kernel)) (by decide)
          (fun _ _ _ _ _ => pg_tup rfl (pgs_cons (pg_name (i := 2) scMi.nd rfl (Or.inl rfl)) (pgs_cons (pg_name (i := 3) scMi.nd rfl (Or.inl rfl)) pgs_nil)))
          (fun _ _ _ _ _ => pi_tup (pv 3)) (fun _ _ _ _ _ => pg_name (i := 4) scMi.nd rfl (Or.inl rfl)) (fun _ _ _ _ _ => pv 4) (fun _ _ _ _ _ => pv 2)) rfl)
      (pss_cons (ps_fld (pv 0) (pe_callTy call_tuple_of (by rfl) T.tuple (by decide +kernel) (pa_cons (pe_callB (cr_sortedX rfl) (by rfl) T.sorted (by decide +kernel) (pa_cons (pe_callTy (cr_setX rfl) (by rfl) T.set (by decide +kernel) (pa_cons (pe_fld (pv 0) rfl) pa_nil)) pa_nil)) pa_nil)) rfl)
      (pss_one (ps_fld (pv 0) (pe_callTy call_tuple_of (by rfl) T.tuple (by decide +kernel) (pa_cons (pe_lc (own := [("name", 4)]) (g := gName 4) (tt := tYes) (te := tDGet (tFld K (tVar 0) "_numbers") (tVar 4)) rfl scMi.nd (pi_tup (pe_fld (pv 0) rfl)) (blkOk_by (N := NMi) (sc := defScope cMeetingInit) (by decide +kernel))
          (fun _ _ _ _ _ => pg_name (i := 4) scMi.nd rfl (Or.inl rfl)) (fun _ _ _ _ _ => pts_nil) (fun _ _ _ _ _ => pe_dget hu (pe_fld (pv 0) rfl) (pv 4) (fun _ _ => rfl))) pa_nil)) rfl)))), ?_⟩
    -- self.blocks
    refine ⟨_, rfl, a, B, rfl, ha, hB, good, fun t M H1 s1 nt ht hM eM => ?_⟩
    have gr := good_rows good
    rw [← eM] at gr
    refine ⟨_, rfl, x, C, dx, [], rfl, s1 _ _ hx, c.cls, c.nb, by decide, ?_⟩
    have ntx : t ≠ x := fun e => by rw [e, hx] at nt; cases nt
    have x2 : upd H1 x (.ins C dx (putF "blocks" (.ref t) [])) x = some (.ins C dx [("blocks", .ref t)]) := upd_same
    have b2 : ∀ b o, b ≠ x → H1 b = some o → upd H1 x (.ins C dx (putF "blocks" (.ref t) [])) b = some o := fun b o n hb => by rw [upd_ne n]; exact hb
    generalize upd H1 x (.ins C dx (putF "blocks" (.ref t) [])) = H2 at x2 b2 ⊢
    have t2 : H2 t = some (.tup (refT M)) := b2 t _ ntx ht
    have M2 : TuT H2 M := fun p hp => b2 p.1 _ (fun e => by
      have z := hM p hp
      rw [e, s1 _ _ hx] at z
      cases z) (hM p hp)
    -- self._numbers
    refine ⟨_, rfl, x, C, dx, _, _, rfl, x2, c.cls, c.nb, rfl, t, refT M, rfl, SqT.of t2, fun D nD => ?_⟩
    have nDx : D ≠ x := fun e => by rw [e, x2] at nD; cases nD
    refine dc2_it (walk_enumT (xs := refT M)) (fun i H9 => ∃ kvs, H9 D = some (.dK kvs) ∧ kvs.length ≤ ((rowT M).take i).flatten.length ∧ (∀ x, valV kvs (.inr x) = (numOf ((rowT M).take i) x).map fun k => V.int (k : Nat)) ∧ (∀ k ∈ kvs.map (·.1), ∃ x, k = .inr x) ∧ ∀ b o, H2 b = some o → H9 b = some o)
      ⟨[], upd_same, Nat.zero_le _, fun x => by simp [valV, numOf], fun k hk => (by simp at hk), fun b o hb => by rw [upd_ne (ne_of_none hb nD)]; exact hb⟩ (fun i H9 _ ⟨kvs, _, _, _, _, q⟩ => SqT.of (q _ _ t2)) ?_ ?_
    · rintro i y H9 H10 hi ⟨kvs, hD, lk, vk, ik, s9⟩ ⟨T0, u, v, rfl, nT0, e10, eu, ev⟩
      rw [refT_len] at hi
      have hp : M[i]? = some M[i] := List.getElem?_eq_getElem hi
      generalize M[i] = p at hp
      have pm := List.mem_of_getElem? hp
      have rp : (rowT M)[i]? = some p.2 := by rw [rowT, List.getElem?_map, hp]; rfl
      have pr : p.2 ∈ rowT M := List.mem_of_getElem? rp
      obtain rfl : v = .ref p.1 := by
        have ev2 : (refT M)[i]? = some v := ev
        rw [refT, List.getElem?_map, hp] at ev2
        exact (Option.some.inj ev2).symm
      cases eu
      have s10 : Same H9 H10 := by rw [e10]; exact same_new nT0 _
      have g10 : H10 T0 = some (.tup [.int (i : Nat), .ref p.1]) := by rw [e10]; exact upd_same
      have ft : ((rowT M).take (i + 1)).flatten.length = ((rowT M).take i).flatten.length + p.2.length := by
        rw [List.take_add_one, rp, List.flatten_append, List.length_append]
        simp
      have tot : ((rowT M).take (i + 1)).flatten.length ≤ 60 := by
        refine Nat.le_trans ?_ gr.good.tot
        have e : (rowT M) = (rowT M).take (i + 1) ++ (rowT M).drop (i + 1) := (List.take_append_drop _ _).symm
        have e2 := congrArg (fun l : List (List Str) => l.flatten.length) e
        simp only [List.flatten_append, List.length_append] at e2
        omega
      refine ⟨T0, [.int (i : Nat), .ref p.1], rfl, SqT.of g10, rfl, _, [.ref p.1], rfl, .ref p.1, [], rfl, rfl, rfl, ?_⟩
      refine ⟨_, rfl, p.1, rfl, ⟨_, SqT.of (s10 _ _ (s9 _ _ (M2 p pm)))⟩, ?_⟩
      refine dcIn_it (walk_tup (xs := p.2.map V.str)) (fun j H12 => ∃ kv2, H12 D = some (.dK kv2) ∧ kv2.length ≤ kvs.length + j ∧ (∀ x, valV kv2 (.inr x) = match numOf ((rowT M).take i) x with
          | some k => some (V.int (k : Nat))
          | none => if x ∈ p.2.take j then some (V.int (i : Nat)) else none) ∧ (∀ k ∈ kv2.map (·.1), ∃ x, k = .inr x) ∧ ∀ b o, H2 b = some o → H12 b = some o)
        ⟨kvs, s10 _ _ hD, Nat.le_refl _, fun x => by rw [vk x]; cases numOf ((rowT M).take i) x <;> simp, ik, fun b o hb => s10 _ _ (s9 _ _ hb)⟩ (fun j H12 _ ⟨_, _, _, _, _, q⟩ => SqT.of (q _ _ (M2 p pm))) ?_ ?_
      · rintro j y H12 H13 hj ⟨kv2, h12, l12, v12, i12, s12⟩ ⟨rfl, hy⟩
        rw [List.getElem?_map] at hy
        obtain ⟨z, hz, rfl⟩ := Option.map_eq_some_iff.mp hy
        have lj : j < p.2.length := (List.getElem?_eq_some_iff.mp hz).1
        refine ⟨rfl, _, rfl, _, rfl, kv2, .inr z, rfl, h12, small1000 (by omega), putK kv2 (.inr z) (.int (i : Nat)), upd_same, Nat.le_trans (length_putK _ _ _) (by omega), fun x => ?_, fun k hk => ?_, fun b o hb => ?_⟩
        · have hzi : numOf ((rowT M).take i) z = none := by
            cases c1 : numOf ((rowT M).take i) z with
            | none => rfl
            | some k =>
              obtain ⟨b, hb, hzb⟩ := numOf_some c1
              have hk : k < i := by
                have := (List.getElem?_eq_some_iff.mp hb).1
                rw [List.length_take] at this
                omega
              rw [List.getElem?_take_of_lt hk] at hb
              have := dis_at gr.good.dis hb rp hzb (List.mem_of_getElem? hz)
              omega
          rw [valV_put, List.take_add_one, hz]
          by_cases e : x = z
          · subst e
            rw [if_pos rfl, hzi]
            simp
          · rw [if_neg (fun q : (Sum.inr x : Key) = Sum.inr z => e (by injection q)), v12 x]
            cases numOf ((rowT M).take i) x with
            | some k => rfl
            | none => simp [e]
        · rw [key_mem, valV_put] at hk
          by_cases e : k = .inr z
          · exact ⟨z, e⟩
          · rw [if_neg e] at hk
            exact i12 k (key_mem.mpr hk)
        · rw [upd_ne (ne_of_none hb nD)]
          exact s12 b o hb
      · rintro H12 ⟨kv2, h12, l12, v12, i12, s12⟩
        rw [List.length_map] at l12 v12
        rw [List.take_length] at v12
        refine ⟨kv2, h12, by omega, fun x => ?_, i12, s12⟩
        rw [v12 x, List.take_add_one, rp]
        have e : ((rowT M).take i ++ (some p.2).toList) = (rowT M).take i ++ [p.2] := rfl
        have li : ((rowT M).take i).length = i := by
          rw [List.length_take, rowT_len]
          omega
        rw [e, numOf_snoc, li]
        cases numOf ((rowT M).take i) x with
        | some k => rfl
        | none =>
          by_cases h : x ∈ p.2
          · simp [h]
          · simp [h]
    · rintro H9 ⟨kvs, hD, lk, vk, ik, s9⟩
      rw [refT_len, List.take_of_length_le (by rw [rowT_len]; exact Nat.le_refl _)] at lk vk
      have s9' := s9
      refine ⟨_, rfl, x, C, dx, _, rfl, s9 _ _ x2, c.cls, c.nu, (by show 1 < 1000; decide), ?_⟩
      have x4 : upd H9 x (.ins C dx (putF "_numbers" (.ref D) [("blocks", .ref t)])) x = some (.ins C dx [("blocks", .ref t), ("_numbers", .ref D)]) := upd_same
      have b4 : ∀ b o, b ≠ x → H9 b = some o → upd H9 x (.ins C dx (putF "_numbers" (.ref D) [("blocks", .ref t)])) b = some o := fun b o n hb => by rw [upd_ne n]; exact hb
      generalize upd H9 x (.ins C dx (putF "_numbers" (.ref D) [("blocks", .ref t)])) = H4 at x4 b4 ⊢
      have D4 : H4 D = some (.dK kvs) := b4 D _ nDx hD
      -- self.names
      have tot := gr.good.tot
      refine ⟨_, rfl, x, C, dx, _, _, rfl, x4, c.cls, c.nu, rfl, D, kvs.map (·.1), rfl, .inr (.inr ⟨kvs, D4, rfl, by omega⟩), by rw [List.length_map]; omega, fun st DD nst ndD mD => ?_⟩
      have eDD : DD = (DD.map txK).map Sum.inr := by
        rw [List.map_map]
        refine (List.map_id DD).symm.trans (List.map_congr_left fun k hk => ?_)
        obtain ⟨z, e⟩ := ik k ((mD k).mp hk)
        rw [e]
        rfl
      have mSS : ∀ z, z ∈ DD.map txK ↔ z ∈ (rowT M).flatten := fun z => by
        rw [← numOf_mem, ← Option.isSome_map (f := fun k : Nat => V.int (k : Nat)), ← vk z, ← key_mem, ← mD, List.mem_map]
        constructor
        · rintro ⟨k, hk, rfl⟩
          obtain ⟨y, e⟩ := ik k ((mD k).mp hk)
          rw [e] at hk ⊢
          exact hk
        · exact fun h => ⟨.inr z, h, rfl⟩
      have lSS : (DD.map txK).length < 64 := by
        rw [List.length_map]
        have z : DD.length ≤ (kvs.map (·.1)).length := nodup_leK ndD fun k hk => (mD k).mp hk
        rw [List.length_map] at z
        omega
      have eN : asc ltS (DD.map txK) = namesOf (rowT M) := asc_mem tot_ltS mSS
      generalize hKO : KS _ st DD = KO
      have s5 : Same H4 (upd H4 st KO) := same_new nst _
      refine ⟨st, DD, DD.map txK, rfl, by rw [hKO]; exact upd_same, eDD, lSS, fun q nq => ?_⟩
      rw [eN] at *
      have s6 := s5.trans (same_new nq (.lst ((namesOf (rowT M)).map V.str)))
      refine ⟨q, _, rfl, .inl ⟨SqL.of upd_same, fun r nr => ?_⟩⟩
      have s7 := s6.trans (same_new nr (.tup ((namesOf (rowT M)).map V.str)))
      have r7 : upd (upd (upd H4 st KO) q (.lst ((namesOf (rowT M)).map V.str))) r (.tup ((namesOf (rowT M)).map V.str)) r = some (.tup ((namesOf (rowT M)).map V.str)) := upd_same
      generalize upd (upd (upd H4 st KO) q (.lst ((namesOf (rowT M)).map V.str))) r (.tup ((namesOf (rowT M)).map V.str)) = H7 at s7 r7
      have nrx : r ≠ x := fun e => by
        have z := s6 _ _ x4
        rw [← e, nr] at z
        cases z
      refine ⟨_, rfl, x, C, dx, _, rfl, s7 _ _ x4, c.cls, c.nn, (by show 2 < 1000; decide), ?_⟩
      have x8 : upd H7 x (.ins C dx (putF "names" (.ref r) [("blocks", .ref t), ("_numbers", .ref D)])) x = some (.ins C dx [("blocks", .ref t), ("_numbers", .ref D), ("names", .ref r)]) := upd_same
      have b8 : ∀ b o, b ≠ x → H7 b = some o → upd H7 x (.ins C dx (putF "names" (.ref r) [("blocks", .ref t), ("_numbers", .ref D)])) b = some o := fun b o n hb => by rw [upd_ne n]; exact hb
      generalize upd H7 x (.ins C dx (putF "names" (.ref r) [("blocks", .ref t), ("_numbers", .ref D)])) = H8 at x8 b8 ⊢
      have r8 : H8 r = some (.tup ((namesOf (rowT M)).map V.str)) := b8 r _ nrx r7
      have D8 : H8 D = some (.dK kvs) := b8 D _ nDx (s7 _ _ D4)
      have lN : (namesOf (rowT M)).length ≤ 60 := by
        have z : (namesOf (rowT M)).length ≤ (rowT M).flatten.length := nodup_leK (asc_nodup tot_ltS (asc_asc tot_ltS _)) fun k hk => mem_ascS.mp hk
        omega
      -- self.code
      refine ⟨_, rfl, x, C, dx, _, _, rfl, x8, c.cls, c.nn, rfl, r, rfl, ⟨_, SqT.of r8⟩, fun L nL => ?_⟩
      refine lc_tup (xs := (namesOf (rowT M)).map V.str) (fun i H9 => H9 L = some (.lst (((codeOf (rowT M)).take i).map V.int)) ∧ Same H8 H9) ⟨upd_same, same_new nL _⟩ (fun i H9 _ h9 => SqT.of (h9.2 _ _ r8)) ?_ ?_
      · rintro i y H9 hy ⟨h9, s9⟩
        rw [List.getElem?_map] at hy
        obtain ⟨z, hz, rfl⟩ := Option.map_eq_some_iff.mp hy
        have li : i < (namesOf (rowT M)).length := (List.getElem?_eq_some_iff.mp hz).1
        have mz : z ∈ (rowT M).flatten := mem_ascS.mp (List.mem_of_getElem? hz)
        obtain ⟨kk, hk⟩ := Option.isSome_iff_exists.mp (numOf_mem.mpr mz)
        have ev : valV kvs (.inr z) = some (.int (kk : Nat)) := by rw [vk z, hk]; rfl
        have ec : (codeOf (rowT M))[i]? = some ((kk : Nat) : Int) := by
          rw [codeOf, List.getElem?_map, hz]
          simp [hk]
        refine ⟨rfl, _, rfl, x, C, dx, _, _, rfl, s9 _ _ x8, c.cls, c.nu, rfl, _, rfl, D, .int (kk : Nat), rfl, by rw [← ev]; exact DGet.k (k := Sum.inr z) (s9 _ _ D8), _, h9, ?_, ?_, fun b o hb => ?_⟩
        · rw [List.length_map, List.length_take]
          exact small1000 (by omega)
        · rw [upd_same, List.take_add_one, ec]
          simp
        · rw [upd_ne (ne_of_none hb nL)]
          exact s9 _ _ hb
      · rintro H9 ⟨h9, s9⟩
        have lc : (codeOf (rowT M)).length = (namesOf (rowT M)).length := List.length_map _
        rw [List.length_map, ← lc, List.take_length] at h9
        refine ⟨L, _, rfl, .inl ⟨SqL.of h9, fun r2 nr2 => ?_⟩⟩
        have s10 := s9.trans (same_new nr2 (.tup ((codeOf (rowT M)).map V.int)))
        refine ⟨_, rfl, x, C, dx, _, rfl, s10 _ _ x8, c.cls, c.nc, (by show 3 < 1000; decide), ?_⟩
        have nr2x : r2 ≠ x := fun e => by
          have z := s9 _ _ x8
          rw [← e, nr2] at z
          cases z
        have fin : ∀ b o, b ≠ x → H8 b = some o → upd (upd H9 r2 (.tup ((codeOf (rowT M)).map V.int))) x (.ins C dx [("blocks", .ref t), ("_numbers", .ref D), ("names", .ref r), ("code", .ref r2)]) b = some o := fun b o n hb => by
          rw [upd_ne n]
          exact s10 _ _ hb
        have all : ∀ b o, b ≠ x → H1 b = some o → H8 b = some o := fun b o n hb => b8 b o n (s7 _ _ (b4 b o n (s9' b o (b2 b o n hb))))
        rw [← eM] at k
        refine k _ (fun b o n hb => fin b o n (all b o n (s1 _ _ hb))) ⟨dx, t, D, r, r2, M, kvs, upd_same, fin t _ ntx (all t _ ntx ht), fun p hp => ?_, rfl, fin D _ nDx D8, vk, fin r _ nrx r8, ?_, gr⟩
        · have npx : p.1 ≠ x := fun e => by
            have z := hM p hp
            rw [e, s1 _ _ hx] at z
            cases z
          exact fin p.1 _ npx (all p.1 _ npx (hM p hp))
        · rw [upd_ne nr2x]
          exact upd_same
end
end K1
set_option linter.all false
set_option maxRecDepth 100000
/-! rules whose reading names the written part, told for use within a comprehension's block; list comprehensions of two clauses over walks -/
namespace K1
open PySem L2
section
variable {X : Cx} {K : PySem.W.Frag}
theorem ix_tupK (h : X.K = K) : IxR X (rIxT K) := by subst h; exact ix_tup
theorem ix_listK (h : X.K = K) : IxR X (rIxL K) := by subst h; exact ix_list
theorem pe_fldK {e : Expr} {ta : TE} {f : Str} {pos : Pos} (h : X.K = K) (he : PE X e ta) (hb : attributeBase e f X.env (eval e X.env) = eval e X.env := by rfl) : PE X (.Attribute e f pos) (tFld K ta f) := by subst h; exact pe_fld he hb
theorem pi_tupK {tg l : Expr} {tl : TE} (h : X.K = K) (hl : PE X l tl) : PI X tg l (iTup K tl) := by subst h; exact pi_tup hl
theorem pi_listK {tg l : Expr} {tl : TE} (h : X.K = K) (hl : PE X l tl) : PI X tg l (iList K tl) := by subst h; exact pi_list hl
theorem call_lenK2 (h : X.K = K) : CallR X (.builtin "len") (fun xs H Q => ∃ p ys, xs = [.ref p] ∧ (SqL K H p ys ∨ SqT K H p ys) ∧ Q (.int ys.length) H) := by subst h; exact call_len_seq
end
/-- the second clause -/
def tLcIn (wi1 : TI) (g1 : TG) (tt1 : TT) (te : TE) (vs1 : List Nat) (D : Addr) (Nx : Hp → Prop) (σ2 : L2.St) (H3 : Hp) : Prop := wi1 σ2 H3 fun J1 H4 => ∃ W1 : Nat → Nat → Hp → Prop, (∃ m, W1 0 m H4) ∧ ∀ j k H, W1 j k H →
  (J1.stop j H ∧ Nx H) ∨ (J1.go j H ∧ ∃ N1 : Hp → Prop, (∀ H', N1 H' → ∃ k', k' < k ∧ W1 (j + 1) k' H') ∧ ∀ x H', J1.yld j H x H' → g1 x (wipe σ2 vs1) H' fun σ3 H5 => wipe σ3 vs1 = wipe σ2 vs1 ∧ tt1 σ3 H5 fun b H6 =>
    if b = true then te σ3 H6 fun y H7 => ∃ acc, H7 D = some (.lst acc) ∧ acc.length < sizeLine ∧ N1 (upd H7 D (.lst (acc ++ [y]))) else N1 H6)
def tLcTwo (wi : TI) (g : TG) (tt : TT) (wi1 : TI) (g1 : TG) (tt1 : TT) (te : TE) (vs vs1 : List Nat) : TE := fun σ H Q => wi σ H fun J H1 => ∀ D, H1 D = none → ∃ W : Nat → Nat → Hp → Prop, (∃ m, W 0 m (upd H1 D (.lst []))) ∧ ∀ i m H, W i m H →
  (J.stop i H ∧ Q (.ref D) H) ∨ (J.go i H ∧ ∃ Nx : Hp → Prop, (∀ H', Nx H' → ∃ m', m' < m ∧ W (i + 1) m' H') ∧ ∀ x H', J.yld i H x H' → g x (wipe σ vs) H' fun σ2 H2 => wipe σ2 vs = wipe σ vs ∧ tt σ2 H2 fun b H3 =>
    if b = true then tLcIn wi1 g1 tt1 te vs1 D Nx σ2 H3 else Nx H3)
theorem pe_lcTwo {X : Cx} {elt tg iter tg1 iter1 : Expr} {ifs ifs1 : List Expr} {scope : Scope} {own : List (Str × Nat)} {vs1 : List Nat} {pos : Pos} {wi wi1 : TI} {g g1 : TG} {tt tt1 : TT} {te : TE} (hc : X.calm = true) (hN : X.N.Nodup) (hi : PI X tg iter wi) (ok : BlkOk X.N X.env.scope scope own) (hv : ∀ i ∈ vs1, i ∈ own.map (·.2))
    (pg : ∀ (s : Shared) (H : Hp) (C : Addr) (cl : List (Str × Addr)) (fp : List Addr), PG (X.blk s H scope (compEnvC scope cl C X.env) fp) tg g) (pt : ∀ (s : Shared) (H : Hp) (C : Addr) (cl : List (Str × Addr)) (fp : List Addr), PTs (X.blk s H scope (compEnvC scope cl C X.env) fp) ifs tt)
    (pj : ∀ (s : Shared) (H : Hp) (C : Addr) (cl : List (Str × Addr)) (fp : List Addr), PI (X.blk s H scope (compEnvC scope cl C X.env) fp) tg1 iter1 wi1)
    (pg1 : ∀ (s : Shared) (H : Hp) (C : Addr) (cl : List (Str × Addr)) (fp : List Addr), PG (X.blk s H scope (compEnvC scope cl C X.env) fp) tg1 g1) (pt1 : ∀ (s : Shared) (H : Hp) (C : Addr) (cl : List (Str × Addr)) (fp : List Addr), PTs (X.blk s H scope (compEnvC scope cl C X.env) fp) ifs1 tt1)
    (pe : ∀ (s : Shared) (H : Hp) (C : Addr) (cl : List (Str × Addr)) (fp : List Addr), PE (X.blk s H scope (compEnvC scope cl C X.env) fp) elt te) (fs : ∀ x, foldedSetIterable iter X.env x = pure x := by intro _; rfl) (fs1 : ∀ env x, foldedSetIterable iter1 env x = pure x := by intro _ _; rfl) :
    PE X (.ListComp elt [⟨tg, iter, ifs, 0⟩, ⟨tg1, iter1, ifs1, 0⟩] scope pos) (tLcTwo wi g tt wi1 g1 tt1 te (own.map (·.2)) vs1) :=
  pe_lc2 hc hN hi ok hv pg pt pj pg1 pt1 pe fs fs1
section
variable {J : It} {n : Nat} {G : Hp → Prop} {Y : Nat → Hp → V → Hp → Prop} {g g1 : TG} {tt tt1 : TT} {wi1 : TI} {te : TE} {vs vs1 : List Nat} {σ σ2 : L2.St} {H1 H4 : Hp} {D : Addr} {Qd Nx : Hp → Prop}
theorem lc2_it (w : Walk J n G Y) (Pv : Nat → Hp → Prop) (h0 : Pv 0 (upd H1 D (.lst []))) (hG : ∀ i H, i ≤ n → Pv i H → G H)
    (hs : ∀ i x H H', i < n → Pv i H → Y i H x H' → g x (wipe σ vs) H' fun σ2 H2 => wipe σ2 vs = wipe σ vs ∧ tt σ2 H2 fun b H3 => if b = true then tLcIn wi1 g1 tt1 te vs1 D (Pv (i + 1)) σ2 H3 else Pv (i + 1) H3) (hd : ∀ H, Pv n H → Qd H) :
    ∃ W : Nat → Nat → Hp → Prop, (∃ m, W 0 m (upd H1 D (.lst []))) ∧ ∀ i m H, W i m H →
      (J.stop i H ∧ Qd H) ∨ (J.go i H ∧ ∃ Nx : Hp → Prop, (∀ H', Nx H' → ∃ m', m' < m ∧ W (i + 1) m' H') ∧ ∀ x H', J.yld i H x H' → g x (wipe σ vs) H' fun σ2 H2 => wipe σ2 vs = wipe σ vs ∧ tt σ2 H2 fun b H3 =>
        if b = true then tLcIn wi1 g1 tt1 te vs1 D Nx σ2 H3 else Nx H3) := by
  refine ⟨fun i m H => (m + i = n) ∧ Pv i H, ⟨n, rfl, h0⟩, ?_⟩
  rintro i m H ⟨e, p⟩
  have q := hG i H (by omega) p
  rcases Nat.lt_or_ge i n with c | c
  · exact .inr ⟨w.goes i H c q, Pv (i + 1), fun H' p' => ⟨m - 1, by omega, by omega, p'⟩, fun x H' y => hs i x H H' c p (w.yields i H x H' c q y)⟩
  · obtain rfl : i = n := by omega
    exact .inl ⟨w.stops H q, hd H p⟩
theorem lcIn_it (w : Walk J n G Y) (Pv : Nat → Hp → Prop) (h0 : Pv 0 H4) (hG : ∀ i H, i ≤ n → Pv i H → G H)
    (hs : ∀ i x H H', i < n → Pv i H → Y i H x H' → g1 x (wipe σ2 vs1) H' fun σ3 H5 => wipe σ3 vs1 = wipe σ2 vs1 ∧ tt1 σ3 H5 fun b H6 =>
      if b = true then te σ3 H6 fun y H7 => ∃ acc, H7 D = some (.lst acc) ∧ acc.length < sizeLine ∧ Pv (i + 1) (upd H7 D (.lst (acc ++ [y]))) else Pv (i + 1) H6) (hd : ∀ H, Pv n H → Nx H) :
    ∃ W1 : Nat → Nat → Hp → Prop, (∃ m, W1 0 m H4) ∧ ∀ j k H, W1 j k H →
      (J.stop j H ∧ Nx H) ∨ (J.go j H ∧ ∃ N1 : Hp → Prop, (∀ H', N1 H' → ∃ k', k' < k ∧ W1 (j + 1) k' H') ∧ ∀ x H', J.yld j H x H' → g1 x (wipe σ2 vs1) H' fun σ3 H5 => wipe σ3 vs1 = wipe σ2 vs1 ∧ tt1 σ3 H5 fun b H6 =>
        if b = true then te σ3 H6 fun y H7 => ∃ acc, H7 D = some (.lst acc) ∧ acc.length < sizeLine ∧ N1 (upd H7 D (.lst (acc ++ [y]))) else N1 H6) := by
  refine ⟨fun i m H => (m + i = n) ∧ Pv i H, ⟨n, rfl, h0⟩, ?_⟩
  rintro i m H ⟨e, p⟩
  have q := hG i H (by omega) p
  rcases Nat.lt_or_ge i n with c | c
  · exact .inr ⟨w.goes i H c q, Pv (i + 1), fun H' p' => ⟨m - 1, by omega, by omega, p'⟩, fun x H' y => hs i x H H' c p (w.yields i H x H' c q y)⟩
  · obtain rfl : i = n := by omega
    exact .inl ⟨w.stops H q, hd H p⟩
end
end K1
set_option linter.all false
set_option maxRecDepth 100000
set_option maxHeartbeats 1000000
namespace K1
open PySem L2
/-! ### one, the orders, ==, len: where nothing is raised -/
def sameNum (R : List (List Str)) (x y : Str) : Bool := decide (numOf R x = numOf R y)
def finer (R S : List (List Str)) : Bool := R.all fun b => b.all fun z => sameNum S (b.headD "") z
def spOneM (C : Addr) : Sp := fun vs H Q _ => ∃ (a : Addr) (R : List (List Str)) (x y : Str), vs = [.ref a, .str x, .str y] ∧ MeetAt C H a R ∧ x ∈ R.flatten ∧ y ∈ R.flatten ∧ ∀ H', Same H H' → Q (.bl (sameNum R x y)) H'
def spCheckM (C : Addr) : Sp := fun vs H Q _ => ∃ (a b : Addr) (R S : List (List Str)), vs = [.ref a, .ref b] ∧ MeetAt C H a R ∧ MeetAt C H b S ∧ namesOf R = namesOf S ∧ ∀ H', Same H H' → Q .non H'
/-- two meetings of the same names compared -/
def spCmpM (C : Addr) (g : List (List Str) → List (List Str) → Bool) : Sp := fun vs H Q _ => ∃ (a b : Addr) (R S : List (List Str)), vs = [.ref a, .ref b] ∧ MeetAt C H a R ∧ MeetAt C H b S ∧ namesOf R = namesOf S ∧ ∀ H', Same H H' → Q (.bl (g R S)) H'
def spEqM (C : Addr) : Sp := fun vs H Q _ => ∃ (a b : Addr) (R S : List (List Str)), vs = [.ref a, .ref b] ∧ MeetAt C H a R ∧ MeetAt C H b S ∧ ∀ H', Same H H' → Q (.bl (decide (R = S))) H'
def spLenM (C : Addr) : Sp := fun vs H Q _ => ∃ (a : Addr) (R : List (List Str)), vs = [.ref a] ∧ MeetAt C H a R ∧ Q (.int (R.length : Nat)) H
structure TxtO (mg : Str → Option Value) : Prop where
  isi : mg "isinstance" = none
  str : mg "str" = none
  len : mg "len" = none
  all : mg "all" = none
/-! texts and their rows as data -/
def dS (ss : List Str) : PyData := .tuple (ss.map .str)
theorem dp_strs {K : PySem.W.Frag} {H : Hp} : ∀ ss : List Str, DpAll K H (ss.map V.str) (ss.map PyData.str)
  | [] => .nil
  | x :: r => .cons (.str x) (dp_strs r)
theorem eqv_strs : ∀ a b : List Str, PyData.eqvAll (a.map PyData.str) (b.map PyData.str) = decide (a = b)
  | [], [] => by simp [PyData.eqvAll]
  | [], _ :: _ => by simp [PyData.eqvAll]
  | _ :: _, [] => by simp [PyData.eqvAll]
  | x :: r, y :: q => by
    have ih := eqv_strs r q
    simp only [List.map_cons, PyData.eqvAll, PyData.eqv, ih]
    by_cases e : x = y <;> by_cases e2 : r = q <;> simp [e, e2]
theorem eqv_dS (a b : List Str) : PyData.eqv (dS a) (dS b) = decide (a = b) := by
  unfold dS
  simp only [PyData.eqv]
  exact eqv_strs a b
theorem eqv_rows : ∀ a b : List (List Str), PyData.eqvAll (a.map dS) (b.map dS) = decide (a = b)
  | [], [] => by simp [PyData.eqvAll]
  | [], _ :: _ => by simp [PyData.eqvAll]
  | _ :: _, [] => by simp [PyData.eqvAll]
  | x :: r, y :: q => by
    have ih := eqv_rows r q
    simp only [List.map_cons, PyData.eqvAll, eqv_dS, ih]
    by_cases e : x = y <;> by_cases e2 : r = q <;> simp [e, e2]
theorem abc_low : ∀ c ∈ abc.cps.toList, c < 1114112 := by
  have q : abc.cps.toList.all (fun c => decide (c < 1114112)) = true := by decide +kernel
  exact fun c hc => of_decide_eq_true (List.all_eq_true.mp q c hc)
theorem name_strOk {z : Str} (h : nameOk z = true) : PyData.strOk z = true := by
  unfold nameOk at h
  rw [Bool.and_eq_true] at h
  unfold PyData.strOk
  rw [← Array.all_toList]
  exact List.all_eq_true.mpr fun c hc => decide_eq_true (abc_low c (of_decide_eq_true (List.all_eq_true.mp h.2 c hc)))
theorem okd_str {z : Str} (h : nameOk z = true) : Okd (.str z) := ⟨by simp only [PyData.canLay0]; exact name_strOk h, by simp only [PyData.depth]; omega⟩
theorem okd_strs {ss : List Str} (h : ∀ z ∈ ss, nameOk z = true) : PyData.canLayAll0 (ss.map PyData.str) = true ∧ PyData.depthAll (ss.map PyData.str) ≤ 2 := by
  induction ss with
  | nil => exact ⟨by simp only [List.map_nil, PyData.canLayAll0], by simp only [List.map_nil, PyData.depthAll]; omega⟩
  | cons x r ih =>
    obtain ⟨h1, h2⟩ := ih fun z hz => h z (.tail _ hz)
    have h3 := (okd_str (h x (.head _))).1
    refine ⟨by simp only [List.map_cons, PyData.canLayAll0, h1, h3, Bool.and_true], ?_⟩
    simp only [List.map_cons, PyData.depthAll, PyData.depth]
    omega
theorem okd_dS {ss : List Str} (h : ∀ z ∈ ss, nameOk z = true) : PyData.canLay0 (dS ss) = true ∧ PyData.depth (dS ss) ≤ 3 := by
  obtain ⟨h1, h2⟩ := okd_strs h
  unfold dS
  exact ⟨by simp only [PyData.canLay0, h1], by simp only [PyData.depth]; omega⟩
theorem sh_dS {ss : List Str} (h : ∀ z ∈ ss, nameOk z = true) : SeqAt.shaped (dS ss) = true := by
  obtain ⟨h1, h2⟩ := okd_dS h
  unfold SeqAt.shaped
  rw [h1, decide_eq_true (Nat.le_trans h2 (by decide))]
  rfl
theorem sh_rows {R : List (List Str)} (h : ∀ b ∈ R, ∀ z ∈ b, nameOk z = true) : SeqAt.shaped (.tuple (R.map dS)) = true := by
  obtain ⟨h1, h2⟩ := okd_all (ds := R.map dS) fun d hd => by
    obtain ⟨b, hb, rfl⟩ := List.mem_map.mp hd
    exact ⟨(okd_dS (h b hb)).1, Nat.le_trans (okd_dS (h b hb)).2 (by decide)⟩
  unfold SeqAt.shaped
  rw [Bool.and_eq_true]
  refine ⟨by simp only [PyData.canLay0, h1], decide_eq_true ?_⟩
  simp only [PyData.depth]
  omega
theorem dp_rows {K : PySem.W.Frag} {H : Hp} : ∀ {M : TL}, TuT H M → DpAll K H (refT M) ((rowT M).map dS)
  | [], _ => .nil
  | p :: r, h => .cons (.tup (SqT.of (h p (.head _))) (dp_strs p.2)) (dp_rows fun q hq => h q (.tail _ hq))
theorem names_ok {R : List (List Str)} (g : GoodR R) : ∀ z ∈ namesOf R, nameOk z = true := fun z hz => by
  obtain ⟨b, hb, hzb⟩ := List.mem_flatten.mp (mem_ascS.mp hz)
  exact g.good.nm b hb z hzb
section
variable {P : Program} {w : World} {K : PySem.W.Frag} {mg : Str → Option Value} {base : Heap} {C : Addr}
abbrev NOn : List Str := ["self", "name", "other", "thing"]
theorem scOn : FnScope NOn ["self", "name", "other"] (defScope cMeetingOne) := ⟨rfl, rfl, rfl, by decide +kernel, rfl, by decide +kernel, by decide +kernel⟩
theorem ok_one_ {f : Addr} {fd : FuncData} (F : Fun K "one" "Meeting.one" cMeetingOne f fd) (c : MeetC K mg C) (T : TxtO mg) : FnOk P w K mg base CX0 1 f fd ["self", "name", "other"] (spOneM C) := by
  refine F.ok scOn (fun vs H Q E h => ?_) (fun cdv A outer s H vs Q E hr h => ?_)
  · obtain ⟨a, R, x, y, rfl, _⟩ := h
    rfl
  · obtain ⟨a, R, x, y, rfl, ma, hx, hy, k⟩ := h
    have hu := hu_of hr
    refine ⟨_, pss_cons (ps_for PassesOwn.never rfl (pi_tup (pe_tup (pa_cons (pv 1) (pa_cons (pv 2) pa_nil)))) (pg_name (i := 3) scOn.nd rfl (Or.inl rfl))
        (pss_one (ps_if (pw_or (pt_not (pt_val (pe_callB call_isi (by rfl) T.isi (by decide +kernel) (pa_cons (pv 3) (pa_cons (pe_bltn (v := .ty "str") (by rfl) T.str (by decide +kernel) rfl) pa_nil)))))
          (pw_or1 (pt_cmp (pc_dnotin hu (pv 3) (pe_fld (pv 0) rfl))))).pt pss_never pss_nil)))
      (pss_one (ps_ret (pe_cmpR op_eq (pe_dget hu (pe_fld (pv 0) rfl) (pv 1) (fun _ _ => rfl)) (pe_dget hu (pe_fld (pv 0) rfl) (pv 2) (fun _ _ => rfl)) (nomark _)))), ?_⟩
    obtain ⟨dx, t, d, n, cc, M, kvs, o⟩ := ma
    have val : ∀ {z : Str}, z ∈ R.flatten → ∃ k : Nat, numOf R z = some k ∧ valV kvs (.inr z) = some (.int (k : Nat)) := fun {z} hz => by
      obtain ⟨k, hk⟩ := Option.isSome_iff_exists.mp (numOf_mem.mpr hz)
      exact ⟨k, hk, by rw [o.num z, hk]; rfl⟩
    refine ⟨_, rfl, _, rfl, sz (Nat.le_of_ble_eq_true rfl), fun tp ntp => ⟨tp, rfl, ⟨_, SqT.of upd_same⟩, ?_⟩⟩
    have s1 : Same H (upd H tp (.tup [.str x, .str y])) := same_new ntp _
    refine for_tup (xs := [.str x, .str y]) (fun i σ H9 => (∃ v, σ = [some (.ref a), some (.str x), some (.str y), v]) ∧ H9 = upd H tp (.tup [.str x, .str y])) ⟨⟨_, rfl⟩, rfl⟩ (fun i σ H9 _ h9 => by rw [h9.2]; exact SqT.of upd_same) ?_ ?_
    · rintro i v σ H9 hv ⟨⟨v', rfl⟩, rfl⟩
      have hz : ∃ z, v = .str z ∧ z ∈ R.flatten := by
        have m := List.mem_of_getElem? hv
        simp only [List.mem_cons, List.not_mem_nil, or_false] at m
        rcases m with rfl | rfl
        · exact ⟨x, rfl, hx⟩
        · exact ⟨y, rfl, hy⟩
      obtain ⟨z, rfl, mz⟩ := hz
      obtain ⟨kk, hk, ev⟩ := val mz
      refine ⟨_, rfl, _, .ty "str", .type "str", .type "str", true, rfl, .ty _, .base (.str z), kit_ty (by decide +kernel), _, rfl, iteF ?_⟩
      refine ⟨_, rfl, _, rfl, a, C, dx, _, _, rfl, s1 _ _ o.ob, c.cls, c.nu, rfl, d, _, rfl, DGet.k (k := Sum.inr z) (s1 _ _ o.nu), ?_⟩
      rw [ev]
      exact ⟨_, rfl, iteF ⟨⟨_, rfl⟩, rfl⟩⟩
    · rintro σ H9 ⟨⟨v', rfl⟩, rfl⟩
      obtain ⟨kx, hkx, ex⟩ := val hx
      obtain ⟨ky, hky, ey⟩ := val hy
      refine ⟨_, rfl, a, C, dx, _, _, rfl, s1 _ _ o.ob, c.cls, c.nu, rfl, _, rfl, d, .int (kx : Nat), rfl, by rw [← ex]; exact DGet.k (k := Sum.inr x) (s1 _ _ o.nu), ?_⟩
      refine ⟨_, rfl, a, C, dx, _, _, rfl, s1 _ _ o.ob, c.cls, c.nu, rfl, _, rfl, d, .int (ky : Nat), rfl, by rw [← ey]; exact DGet.k (k := Sum.inr y) (s1 _ _ o.nu), rfl, ?_⟩
      have e : decide (V.int (kx : Nat) = V.int (ky : Nat)) = sameNum R x y := by
        unfold sameNum
        rw [hkx, hky]
        exact decide_eq_decide.mpr ⟨fun q => by injection q with q; rw [Int.ofNat.inj q], fun q => by injection q with q; rw [q]⟩
      show Q (.bl (decide (V.int (kx : Nat) = V.int (ky : Nat)))) _
      rw [e]
      exact k _ s1
theorem scCh : FnScope ["self", "other"] ["self", "other"] (defScope cMeetingCheckNames) := ⟨rfl, rfl, rfl, by decide +kernel, rfl, by decide +kernel, by decide +kernel⟩
theorem ok_check {f : Addr} {fd : FuncData} (F : Fun K "_check_names" "Meeting._check_names" cMeetingCheckNames f fd) (c : MeetC K mg C) : FnOk P w K mg base CX0 1 f fd ["self", "other"] (spCheckM C) := by
  refine F.ok scCh (fun vs H Q E h => ?_) (fun cdv A outer s H vs Q E hr h => ?_)
  · obtain ⟨a, b, R, S, rfl, _⟩ := h
    rfl
  · obtain ⟨a, b, R, S, rfl, ma, mb, en, k⟩ := h
    refine ⟨_, pss_one (ps_if (pt_cmpR (op_neD hr.units) (pe_fld (pv 0) rfl) (pe_fld (pv 1) rfl) (nomark _)) pss_never pss_nil), ?_⟩
    obtain ⟨dx, t, d, n, cc, M, kvs, o⟩ := ma
    obtain ⟨dx', t', d', n', cc', M', kvs', o'⟩ := mb
    refine ⟨_, rfl, a, C, dx, _, _, rfl, o.ob, c.cls, c.nn, rfl, _, rfl, b, C, dx', _, _, rfl, o'.ob, c.cls, c.nn, rfl, dS (namesOf R), dS (namesOf S), .tup (SqT.of o.na) (dp_strs _), .tup (SqT.of o'.na) (dp_strs _), sh_dS (names_ok o.good), sh_dS (names_ok o'.good), _, rfl, ?_⟩
    rw [eqv_dS, en, decide_eq_true rfl]
    exact iteF (k _ (Same.refl H))
end
end K1
set_option linter.all false
set_option maxRecDepth 100000
set_option maxHeartbeats 1000000
namespace K1
open PySem L2
theorem names_flat {R S : List (List Str)} (e : namesOf R = namesOf S) {z : Str} (h : z ∈ R.flatten) : z ∈ S.flatten := mem_ascS.mp (show z ∈ namesOf S by rw [← e]; exact mem_ascS.mpr h)
def finL (R S : List (List Str)) : List Bool := R.flatMap fun b => b.map fun z => sameNum S (b.headD "") z
theorem finL_all (R S : List (List Str)) : (finL R S).all id = finer R S := by
  unfold finL finer
  rw [List.all_flatMap]
  refine congrArg (fun f => R.all f) (funext fun b => ?_)
  rw [List.all_map]
  rfl
def lessM (R S : List (List Str)) : Bool := finer R S && !decide (R = S)
section
variable {P : Program} {w : World} {K : PySem.W.Frag} {mg : Str → Option Value} {base : Heap} {C : Addr}
abbrev NPf : List Str := ["self", "other", "block", "name"]
theorem scPf : FnScope NPf ["self", "other"] (defScope cMeetingPartsFiner) := ⟨rfl, rfl, rfl, by decide +kernel, rfl, by decide +kernel, by decide +kernel⟩
theorem ok_finer {f gC gO : Addr} {fd fdC fdO : FuncData} (F : Fun K "_parts_finer" "Meeting._parts_finer" cMeetingPartsFiner f fd) (c : MeetC K mg C) (MC : Meth K C "_check_names" gC) (GC : FnOk P w K mg base CX0 1 gC fdC ["self", "other"] (spCheckM C)) (bC : Binds K fdC ["self", "other"] [])
    (MO : Meth K C "one" gO) (GO : FnOk P w K mg base CX0 1 gO fdO ["self", "name", "other"] (spOneM C)) (bO : Binds K fdO ["self", "name", "other"] []) (ha : mg "all" = none) : FnOk P w K mg base CX0 2 f fd ["self", "other"] (spCmpM C finer) := by
  refine F.ok scPf (fun vs H Q E h => ?_) (fun cdv A outer s H vs Q E hr h => ?_)
  · obtain ⟨a, b, R, S, rfl, _⟩ := h
    rfl
  · obtain ⟨a, b, R, S, rfl, ma, mb, en, k⟩ := h
    refine ⟨_, pss_cons (ps_expr (pe_meth (pv 0) c.cls MC GC hr bC .nil pass0 (pa_cons (pv 1) pa_nil)))
      (pss_one (ps_ret (pe_callB (cr_all rfl) (by rfl) ha (by decide +kernel) (pa_cons (pe_lcTwo (own := [("block", 2), ("name", 3)]) (vs1 := [3]) (g := gName 2) (g1 := gName 3) (tt := tYes) (tt1 := tYes) (wi1 := iTup K (tVar 2)) rfl scPf.nd (pi_tup (pe_fld (pv 0) rfl)) (blkOk_by (N := NPf) (sc := defScope cMeetingPartsFiner) (by decide +kernel)) (by decide)
        (fun _ _ _ _ _ => pg_name (i := 2) scPf.nd rfl (Or.inl rfl)) (fun _ _ _ _ _ => pts_nil) (fun _ _ _ _ _ => pi_tupK rfl (pv 2)) (fun _ _ _ _ _ => pg_name (i := 3) scPf.nd rfl (Or.inl rfl)) (fun _ _ _ _ _ => pts_nil)
        (fun _ _ _ _ _ => pe_meth (pv 1) c.cls MO GO hr bO .nil pass0 (pa_cons (pe_ix (ix_tupK (K := K) rfl) (pv 2) pe_int (fun _ _ => rfl)) (pa_cons (pv 3) pa_nil)))) pa_nil)))), ?_⟩
    obtain ⟨dx, t, d, n, cc, M, kvs, o⟩ := id ma
    obtain ⟨dx', t', d', n', cc', M', kvs', o'⟩ := id mb
    have gr := o.good.good
    refine ⟨_, rfl, a, dx, _, rfl, o.ob, rfl, _, rfl, a, b, R, S, rfl, ma, mb, en, fun H1 s1 => ?_⟩
    refine ⟨_, rfl, a, C, dx, _, _, rfl, s1 _ _ o.ob, c.cls, c.nb, rfl, t, rfl, ⟨_, SqT.of (s1 _ _ o.bl)⟩, fun D nD => ?_⟩
    have nD0 : H D = none := s1.free nD
    have cut : ∀ i, i < R.length → (finL (R.take (i + 1)) S).length ≤ 60 := fun i _ => by
      refine Nat.le_trans ?_ gr.tot
      unfold finL
      have e : R = R.take (i + 1) ++ R.drop (i + 1) := (List.take_append_drop _ _).symm
      have e2 : R.flatten.length = (R.take (i + 1)).flatten.length + (R.drop (i + 1)).flatten.length := by
        conv => lhs; rw [e]
        rw [List.flatten_append, List.length_append]
      have e3 : ∀ L : List (List Str), (L.flatMap fun b => b.map fun z => sameNum S (b.headD "") z).length = L.flatten.length := by
        intro L
        induction L with
        | nil => rfl
        | cons b r ih => rw [List.flatMap_cons, List.flatten_cons, List.length_append, List.length_append, List.length_map, ih]
      rw [e3]
      omega
    refine lc2_it (walk_tup (xs := refT M)) (fun i H9 => H9 D = some (.lst ((finL (R.take i) S).map V.bl)) ∧ Same H H9) ⟨by rw [List.take_zero]; exact upd_same, s1.trans (same_new nD _)⟩ (fun i H9 _ h9 => SqT.of (h9.2 _ _ o.bl)) ?_ ?_
    · rintro i y H9 H10 hi ⟨h9, s9⟩ ⟨rfl, hy⟩
      rw [refT_len] at hi
      have hp : M[i]? = some M[i] := List.getElem?_eq_getElem hi
      generalize M[i] = p at hp
      have pm := List.mem_of_getElem? hp
      have rp : R[i]? = some p.2 := by rw [← o.row, rowT, List.getElem?_map, hp]; rfl
      have pr : p.2 ∈ R := List.mem_of_getElem? rp
      have li : i < R.length := (List.getElem?_eq_some_iff.mp rp).1
      obtain rfl : y = .ref p.1 := by
        rw [refT, List.getElem?_map, hp] at hy
        exact (Option.some.inj hy).symm
      have tk : R.take (i + 1) = R.take i ++ [p.2] := by rw [List.take_add_one, rp]; rfl
      have ct := cut i li
      have ef : finL (R.take (i + 1)) S = finL (R.take i) S ++ p.2.map fun z => sameNum S (p.2.headD "") z := by
        rw [tk]
        unfold finL
        rw [List.flatMap_append]
        simp
      obtain ⟨z0, r0, e0⟩ : ∃ z0 r0, p.2 = z0 :: r0 := by
        cases e : p.2 with
        | nil => exact absurd e (gr.ne _ pr)
        | cons z r => exact ⟨z, r, rfl⟩
      have hd : p.2.headD "" = z0 := by rw [e0]; rfl
      have inS : ∀ z ∈ p.2, z ∈ S.flatten := fun z hz => names_flat en (List.mem_flatten.mpr ⟨_, pr, hz⟩)
      refine ⟨rfl, ?_⟩
      refine ⟨_, rfl, p.1, rfl, ⟨_, SqT.of (s9 _ _ (o.tu p pm))⟩, ?_⟩
      refine lcIn_it (walk_tup (xs := p.2.map V.str)) (fun j H12 => H12 D = some (.lst ((finL (R.take i) S ++ (p.2.take j).map fun z => sameNum S (p.2.headD "") z).map V.bl)) ∧ Same H H12)
        ⟨by rw [List.take_zero, List.map_nil, List.append_nil]; exact h9, s9⟩ (fun j H12 _ q => SqT.of (q.2 _ _ (o.tu p pm))) ?_ ?_
      · rintro j y H12 H13 hj ⟨h12, s12⟩ ⟨rfl, hy⟩
        rw [List.getElem?_map] at hy
        obtain ⟨z, hz, rfl⟩ := Option.map_eq_some_iff.mp hy
        have lj : j < p.2.length := (List.getElem?_eq_some_iff.mp hz).1
        have mz := inS z (List.mem_of_getElem? hz)
        have mh : p.2.headD "" ∈ S.flatten := inS _ (by rw [hd, e0]; exact .head _)
        refine ⟨rfl, ?_⟩
        refine ⟨_, rfl, b, dx', _, rfl, s12 _ _ o'.ob, rfl, _, rfl, p.1, _, 0, .str (p.2.headD ""), rfl, rfl, SqT.of (s12 _ _ (o.tu p pm)), ?_, _, rfl, b, S, p.2.headD "", z, rfl, mb.mono s12, mh, mz, fun H14 s14 => ⟨_, s14 _ _ h12, ?_, ?_, fun q u hq => ?_⟩⟩
        · have e1 : (p.2.map V.str)[0]? = some (.str (p.2.headD "")) := by rw [hd, e0]; rfl
          exact atI_nat (j := 0) e1
        · have z1 := congrArg List.length ef
          rw [List.length_append, List.length_map] at z1
          rw [List.length_map, List.length_append, List.length_map, List.length_take]
          exact small1000 (by omega)
        · rw [upd_same, List.take_add_one, hz]
          simp
        · rw [upd_ne (ne_of_none hq nD0)]
          exact s14 _ _ (s12 _ _ hq)
      · rintro H12 ⟨h12, s12⟩
        rw [List.length_map, List.take_length, ← ef] at h12
        exact ⟨h12, s12⟩
    · rintro H9 ⟨h9, s9⟩
      have lR : (refT M).length = R.length := by rw [refT_len, ← rowT_len, o.row]
      rw [lR, List.take_length] at h9
      refine ⟨D, finL R S, rfl, SqL.of h9, ?_⟩
      rw [finL_all]
      exact k _ s9
theorem scMe : FnScope ["self", "other"] ["self", "other"] (defScope cMeetingEq) := ⟨rfl, rfl, rfl, by decide +kernel, rfl, by decide +kernel, by decide +kernel⟩
theorem ok_meq {f : Addr} {fd : FuncData} (F : Fun K "__eq__" "Meeting.__eq__" cMeetingEq f fd) (c : MeetC K mg C) (hi : mg "isinstance" = none) : FnOk P w K mg base CX0 1 f fd ["self", "other"] (spEqM C) := by
  refine F.ok scMe (fun vs H Q E h => ?_) (fun cdv A outer s H vs Q E hr h => ?_)
  · obtain ⟨a, b, R, S, rfl, _⟩ := h
    rfl
  · obtain ⟨a, b, R, S, rfl, ma, mb, k⟩ := h
    refine ⟨_, pss_one (ps_ret (pe_and (pe_callB (C8.call_isC c.isC) (by rfl) hi (by decide +kernel) (pa_cons (pv 1) (pa_cons (pe_glob (v := .ref C) (by rfl) c.glob rfl) pa_nil))) (pe_one (pe_cmpR (op_eqD hr.units) (pe_fld (pv 0) rfl) (pe_fld (pv 1) rfl) (nomark _))))), ?_⟩
    obtain ⟨dx, t, d, n, cc, M, kvs, o⟩ := ma
    obtain ⟨dx', t', d', n', cc', M', kvs', o'⟩ := mb
    refine ⟨_, rfl, b, dx', _, rfl, o'.ob, _, rfl, iteT ?_⟩
    refine ⟨_, rfl, a, C, dx, _, _, rfl, o.ob, c.cls, c.nb, rfl, _, rfl, b, C, dx', _, _, rfl, o'.ob, c.cls, c.nb, rfl, .tuple (R.map dS), .tuple (S.map dS), .tup (SqT.of o.bl) (o.row ▸ dp_rows o.tu), .tup (SqT.of o'.bl) (o'.row ▸ dp_rows o'.tu), sh_rows o.good.good.nm, sh_rows o'.good.good.nm, ?_⟩
    have e : PyData.eqv (.tuple (R.map dS)) (.tuple (S.map dS)) = decide (R = S) := by
      simp only [PyData.eqv]
      exact eqv_rows _ _
    rw [e]
    exact k H (Same.refl H)
theorem scMl : FnScope ["self"] ["self"] (defScope cMeetingLen) := ⟨rfl, rfl, rfl, by decide +kernel, rfl, by decide +kernel, by decide +kernel⟩
theorem ok_mlen {f : Addr} {fd : FuncData} (F : Fun K "__len__" "Meeting.__len__" cMeetingLen f fd) (c : MeetC K mg C) (hl : mg "len" = none) : FnOk P w K mg base CX0 1 f fd ["self"] (spLenM C) := by
  refine F.ok scMl (fun vs H Q E h => ?_) (fun cdv A outer s H vs Q E hr h => ?_)
  · obtain ⟨a, R, rfl, _⟩ := h
    rfl
  · obtain ⟨a, R, rfl, ma, k⟩ := h
    refine ⟨_, pss_one (ps_ret (pe_callB call_len_seq (by rfl) hl PySem.boot_len (pa_cons (pe_fld (pv 0) rfl) pa_nil))), ?_⟩
    obtain ⟨dx, t, d, n, cc, M, kvs, o⟩ := ma
    refine ⟨_, rfl, a, C, dx, _, _, rfl, o.ob, c.cls, c.nb, rfl, t, refT M, rfl, .inr (SqT.of o.bl), ?_⟩
    have lR : (refT M).length = R.length := by rw [refT_len, ← rowT_len, o.row]
    rw [lR]
    exact k
structure MeetF (P : Program) (w : World) (K : PySem.W.Frag) (mg : Str → Option Value) (base : Heap) (C : Addr) : Prop where
  c : MeetC K mg C
  isi : mg "isinstance" = none
  fin : ∃ g fd, Meth K C "_parts_finer" g ∧ Binds K fd ["self", "other"] [] ∧ FnOk P w K mg base CX0 2 g fd ["self", "other"] (spCmpM C finer)
theorem scmLe : FnScope ["self", "other"] ["self", "other"] (defScope cMeetingLe) := ⟨rfl, rfl, rfl, by decide +kernel, rfl, by decide +kernel, by decide +kernel⟩
theorem ok_mLe {f : Addr} {fd : FuncData} (F : Fun K "__le__" "Meeting.__le__" cMeetingLe f fd) (T : MeetF P w K mg base C) : FnOk P w K mg base CX0 3 f fd ["self", "other"] (spCmpM C finer) := by
  obtain ⟨gF, fdF, MF, bF, GF⟩ := T.fin
  refine F.ok scmLe (fun vs H Q E h => ?_) (fun cdv A outer s H vs Q E hr h => ?_)
  · obtain ⟨a, b, R, S, rfl, _⟩ := h
    rfl
  · obtain ⟨a, b, R, S, rfl, ma, mb, en, k⟩ := h
    refine ⟨_, pss_cons (ps_if (pt_not (pt_val (pe_callB (C8.call_isC T.c.isC) (by rfl) T.isi (by decide +kernel) (pa_cons (pv 1) (pa_cons (pe_glob (v := .ref C) (by rfl) T.c.glob rfl) pa_nil))))) pss_never pss_nil)
      (pss_one (ps_ret (pe_meth (pv 0) T.c.cls MF GF (hr.mono (by decide)) bF .nil pass0 (pa_cons (pv 1) pa_nil)))), ?_⟩
    obtain ⟨dx, t, d, n, cc, M, kvs, o⟩ := id ma
    obtain ⟨dx', t', d', n', cc', M', kvs', o'⟩ := id mb
    refine ⟨_, rfl, b, dx', _, rfl, o'.ob, _, rfl, iteF ?_⟩
    refine ⟨_, rfl, a, dx, _, rfl, o.ob, rfl, _, rfl, a, b, R, S, rfl, ma, mb, en, fun H1 s1 => ?_⟩
    exact k H1 s1
theorem scmGe : FnScope ["self", "other"] ["self", "other"] (defScope cMeetingGe) := ⟨rfl, rfl, rfl, by decide +kernel, rfl, by decide +kernel, by decide +kernel⟩
theorem ok_mGe {f : Addr} {fd : FuncData} (F : Fun K "__ge__" "Meeting.__ge__" cMeetingGe f fd) (T : MeetF P w K mg base C) : FnOk P w K mg base CX0 3 f fd ["self", "other"] (spCmpM C (fun R S => finer S R)) := by
  obtain ⟨gF, fdF, MF, bF, GF⟩ := T.fin
  refine F.ok scmGe (fun vs H Q E h => ?_) (fun cdv A outer s H vs Q E hr h => ?_)
  · obtain ⟨a, b, R, S, rfl, _⟩ := h
    rfl
  · obtain ⟨a, b, R, S, rfl, ma, mb, en, k⟩ := h
    refine ⟨_, pss_cons (ps_if (pt_not (pt_val (pe_callB (C8.call_isC T.c.isC) (by rfl) T.isi (by decide +kernel) (pa_cons (pv 1) (pa_cons (pe_glob (v := .ref C) (by rfl) T.c.glob rfl) pa_nil))))) pss_never pss_nil)
      (pss_one (ps_ret (pe_meth (pv 1) T.c.cls MF GF (hr.mono (by decide)) bF .nil pass0 (pa_cons (pv 0) pa_nil)))), ?_⟩
    obtain ⟨dx, t, d, n, cc, M, kvs, o⟩ := id ma
    obtain ⟨dx', t', d', n', cc', M', kvs', o'⟩ := id mb
    refine ⟨_, rfl, b, dx', _, rfl, o'.ob, _, rfl, iteF ?_⟩
    refine ⟨_, rfl, b, dx', _, rfl, o'.ob, rfl, _, rfl, b, a, S, R, rfl, mb, ma, en.symm, fun H1 s1 => ?_⟩
    exact k H1 s1
theorem scmLt : FnScope ["self", "other"] ["self", "other"] (defScope cMeetingLt) := ⟨rfl, rfl, rfl, by decide +kernel, rfl, by decide +kernel, by decide +kernel⟩
theorem ok_mLt {f : Addr} {fd : FuncData} (F : Fun K "__lt__" "Meeting.__lt__" cMeetingLt f fd) (T : MeetF P w K mg base C) : FnOk P w K mg base CX0 3 f fd ["self", "other"] (spCmpM C lessM) := by
  obtain ⟨gF, fdF, MF, bF, GF⟩ := T.fin
  refine F.ok scmLt (fun vs H Q E h => ?_) (fun cdv A outer s H vs Q E hr h => ?_)
  · obtain ⟨a, b, R, S, rfl, _⟩ := h
    rfl
  · obtain ⟨a, b, R, S, rfl, ma, mb, en, k⟩ := h
    refine ⟨_, pss_cons (ps_if (pt_not (pt_val (pe_callB (C8.call_isC T.c.isC) (by rfl) T.isi (by decide +kernel) (pa_cons (pv 1) (pa_cons (pe_glob (v := .ref C) (by rfl) T.c.glob rfl) pa_nil))))) pss_never pss_nil)
      (pss_one (ps_ret (pe_and (pe_meth (pv 0) T.c.cls MF GF (hr.mono (by decide)) bF .nil pass0 (pa_cons (pv 1) pa_nil)) (pe_one (pe_cmpR (op_neD hr.units) (pe_fld (pv 0) rfl) (pe_fld (pv 1) rfl) (nomark _)))))), ?_⟩
    obtain ⟨dx, t, d, n, cc, M, kvs, o⟩ := id ma
    obtain ⟨dx', t', d', n', cc', M', kvs', o'⟩ := id mb
    refine ⟨_, rfl, b, dx', _, rfl, o'.ob, _, rfl, iteF ?_⟩
    refine ⟨_, rfl, a, dx, _, rfl, o.ob, rfl, _, rfl, a, b, R, S, rfl, ma, mb, en, fun H1 s1 => ?_⟩
    refine ⟨_, rfl, ?_⟩
    cases e : finer R S with
    | false =>
      have z := k H1 s1
      simp only [lessM, e, Bool.false_and] at z
      exact iteF z
    | true =>
      refine iteT ?_
      refine ⟨_, rfl, a, C, dx, _, _, rfl, s1 _ _ o.ob, T.c.cls, T.c.nb, rfl, _, rfl, b, C, dx', _, _, rfl, s1 _ _ o'.ob, T.c.cls, T.c.nb, rfl, .tuple (R.map dS), .tuple (S.map dS), .tup (SqT.of (s1 _ _ o.bl)) (o.row ▸ dp_rows (o.tu.mono s1)), .tup (SqT.of (s1 _ _ o'.bl)) (o'.row ▸ dp_rows (o'.tu.mono s1)), sh_rows o.good.good.nm, sh_rows o'.good.good.nm, ?_⟩
      have e2 : PyData.eqv (.tuple (R.map dS)) (.tuple (S.map dS)) = decide (R = S) := by
        simp only [PyData.eqv]
        exact eqv_rows _ _
      rw [e2]
      have z := k H1 s1
      simp only [lessM, e, Bool.true_and] at z
      exact z
theorem scmGt : FnScope ["self", "other"] ["self", "other"] (defScope cMeetingGt) := ⟨rfl, rfl, rfl, by decide +kernel, rfl, by decide +kernel, by decide +kernel⟩
theorem ok_mGt {f : Addr} {fd : FuncData} (F : Fun K "__gt__" "Meeting.__gt__" cMeetingGt f fd) (T : MeetF P w K mg base C) : FnOk P w K mg base CX0 3 f fd ["self", "other"] (spCmpM C (fun R S => finer S R && !decide (R = S))) := by
  obtain ⟨gF, fdF, MF, bF, GF⟩ := T.fin
  refine F.ok scmGt (fun vs H Q E h => ?_) (fun cdv A outer s H vs Q E hr h => ?_)
  · obtain ⟨a, b, R, S, rfl, _⟩ := h
    rfl
  · obtain ⟨a, b, R, S, rfl, ma, mb, en, k⟩ := h
    refine ⟨_, pss_cons (ps_if (pt_not (pt_val (pe_callB (C8.call_isC T.c.isC) (by rfl) T.isi (by decide +kernel) (pa_cons (pv 1) (pa_cons (pe_glob (v := .ref C) (by rfl) T.c.glob rfl) pa_nil))))) pss_never pss_nil)
      (pss_one (ps_ret (pe_and (pe_meth (pv 1) T.c.cls MF GF (hr.mono (by decide)) bF .nil pass0 (pa_cons (pv 0) pa_nil)) (pe_one (pe_cmpR (op_neD hr.units) (pe_fld (pv 0) rfl) (pe_fld (pv 1) rfl) (nomark _)))))), ?_⟩
    obtain ⟨dx, t, d, n, cc, M, kvs, o⟩ := id ma
    obtain ⟨dx', t', d', n', cc', M', kvs', o'⟩ := id mb
    refine ⟨_, rfl, b, dx', _, rfl, o'.ob, _, rfl, iteF ?_⟩
    refine ⟨_, rfl, b, dx', _, rfl, o'.ob, rfl, _, rfl, b, a, S, R, rfl, mb, ma, en.symm, fun H1 s1 => ?_⟩
    refine ⟨_, rfl, ?_⟩
    cases e : finer S R with
    | false =>
      have z := k H1 s1
      simp only [lessM, e, Bool.false_and] at z
      exact iteF z
    | true =>
      refine iteT ?_
      refine ⟨_, rfl, a, C, dx, _, _, rfl, s1 _ _ o.ob, T.c.cls, T.c.nb, rfl, _, rfl, b, C, dx', _, _, rfl, s1 _ _ o'.ob, T.c.cls, T.c.nb, rfl, .tuple (R.map dS), .tuple (S.map dS), .tup (SqT.of (s1 _ _ o.bl)) (o.row ▸ dp_rows (o.tu.mono s1)), .tup (SqT.of (s1 _ _ o'.bl)) (o'.row ▸ dp_rows (o'.tu.mono s1)), sh_rows o.good.good.nm, sh_rows o'.good.good.nm, ?_⟩
      have e2 : PyData.eqv (.tuple (R.map dS)) (.tuple (S.map dS)) = decide (R = S) := by
        simp only [PyData.eqv]
        exact eqv_rows _ _
      rw [e2]
      have z := k H1 s1
      simp only [lessM, e, Bool.true_and] at z
      exact z
end
end K1
set_option linter.all false
set_option maxRecDepth 100000
set_option maxHeartbeats 1000000
namespace K1
open PySem L2
/-! ### codes: names parted by numbers -/
/-- the numbers of a code are those from 0 to k - 1 -/
def CodeOk (c : List Nat) (k : Nat) : Prop := ∀ v, v ∈ c ↔ v < k
def blk (zs : List Str) (c : List Nat) (j : Nat) : List Str := ((zs.zip c).filter fun p => decide (p.2 = j)).map (·.1)
def blocksOf (zs : List Str) (c : List Nat) (k : Nat) : List (List Str) := (List.range k).map (blk zs c)
theorem mem_blk {zs : List Str} {c : List Nat} {j : Nat} {x : Str} : x ∈ blk zs c j ↔ (x, j) ∈ zs.zip c := by
  unfold blk
  rw [List.mem_map]
  constructor
  · rintro ⟨p, hp, rfl⟩
    obtain ⟨h1, h2⟩ := List.mem_filter.mp hp
    have e := of_decide_eq_true h2
    subst e
    exact h1
  · intro h
    exact ⟨(x, j), List.mem_filter.mpr ⟨h, decide_eq_true rfl⟩, rfl⟩
theorem zip_key {α β : Type} {zs : List α} {c : List β} (nd : zs.Nodup) {x : α} {a b : β} (h1 : (x, a) ∈ zs.zip c) (h2 : (x, b) ∈ zs.zip c) : a = b := by
  obtain ⟨i, hi, e1⟩ := List.getElem_of_mem h1
  obtain ⟨j, hj, e2⟩ := List.getElem_of_mem h2
  rw [List.getElem_zip] at e1 e2
  have x1 : zs[i]'(by rw [List.length_zip] at hi; omega) = x := congrArg Prod.fst e1
  have x2 : zs[j]'(by rw [List.length_zip] at hj; omega) = x := congrArg Prod.fst e2
  have ij : i = j := (List.getElem_inj nd).mp (x1.trans x2.symm)
  subst ij
  exact (congrArg Prod.snd e1).symm.trans (congrArg Prod.snd e2)
theorem zip_fst_sub {α β : Type} : ∀ (zs : List α) (c : List β), ((zs.zip c).map (·.1)).Sublist zs
  | [], _ => List.Sublist.refl _
  | z :: r, [] => List.nil_sublist _
  | z :: r, a :: c => (zip_fst_sub r c).cons₂ z
theorem blk_sub (zs : List Str) (c : List Nat) (j : Nat) : (blk zs c j).Sublist zs := ((List.filter_sublist (p := fun p : Str × Nat => decide (p.2 = j)) (l := zs.zip c)).map _).trans (zip_fst_sub zs c)
theorem code_le {c : List Nat} {k : Nat} (h : CodeOk c k) : k ≤ c.length := by
  have := nodup_leK (l := List.range k) (D := c) List.nodup_range fun x hx => (h x).mpr (List.mem_range.mp hx)
  rwa [List.length_range] at this
theorem zip_of_code {zs : List Str} {c : List Nat} (e : zs.length = c.length) {j : Nat} (h : j ∈ c) : ∃ x, (x, j) ∈ zs.zip c := by
  obtain ⟨i, hi, ej⟩ := List.getElem_of_mem h
  refine ⟨zs[i]'(by omega), List.mem_iff_getElem.mpr ⟨i, by rw [List.length_zip]; omega, ?_⟩⟩
  rw [List.getElem_zip, ej]
theorem zip_of_name {zs : List Str} {c : List Nat} (e : zs.length = c.length) {x : Str} (h : x ∈ zs) : ∃ j, (x, j) ∈ zs.zip c := by
  obtain ⟨i, hi, ej⟩ := List.getElem_of_mem h
  refine ⟨c[i]'(by omega), List.mem_iff_getElem.mpr ⟨i, by rw [List.length_zip]; omega, ?_⟩⟩
  rw [List.getElem_zip, ej]
theorem flat_le {α : Type} {n : Nat} : ∀ {B : List (List α)}, (∀ b ∈ B, b.length ≤ n) → B.flatten.length ≤ B.length * n
  | [], _ => by simp
  | b :: B, h => by
    have h1 := h b (.head _)
    have h2 := flat_le (n := n) (B := B) fun c hc => h c (.tail _ hc)
    rw [List.flatten_cons, List.length_append, List.length_cons, Nat.add_mul, Nat.one_mul]
    omega
theorem good_blocks {zs : List Str} {c : List Nat} {k : Nat} (nd : zs.Nodup) (nm : ∀ z ∈ zs, nameOk z = true) (e : zs.length = c.length) (h : CodeOk c k) (few : zs.length ≤ 7) : GoodB (blocksOf zs c k) := by
  have kl := code_le h
  have bl : ∀ j, (blk zs c j).length ≤ 7 := fun j => Nat.le_trans (blk_sub zs c j).length_le few
  refine ⟨fun b hb z hz => ?_, fun b hb => ?_, fun b hb => ?_, ?_, ?_, fun b hb => ?_, ?_⟩
  · obtain ⟨j, _, rfl⟩ := List.mem_map.mp hb
    exact nm z ((blk_sub zs c j).mem hz)
  · obtain ⟨j, hj, rfl⟩ := List.mem_map.mp hb
    obtain ⟨x, hx⟩ := zip_of_code e ((h j).mpr (List.mem_range.mp hj))
    exact List.ne_nil_of_mem (mem_blk.mpr hx)
  · obtain ⟨j, _, rfl⟩ := List.mem_map.mp hb
    exact nd.sublist (blk_sub zs c j)
  · refine List.pairwise_map.mpr ((List.nodup_range (n := k)).imp fun {i j} ne z h1 h2 => ne ?_)
    exact zip_key nd (mem_blk.mp h1) (mem_blk.mp h2)
  · rw [blocksOf, List.length_map, List.length_range]
    omega
  · obtain ⟨j, _, rfl⟩ := List.mem_map.mp hb
    exact Nat.le_trans (bl j) (by decide)
  · refine Nat.le_trans (flat_le (n := 7) fun b hb => ?_) ?_
    · obtain ⟨j, _, rfl⟩ := List.mem_map.mp hb
      exact bl j
    · rw [blocksOf, List.length_map, List.length_range]
      omega
theorem one_blocks {zs : List Str} {c : List Nat} {k : Nat} (h : CodeOk c k) {x y : Str} : oneB (blocksOf zs c k) x y ↔ ∃ j, (x, j) ∈ zs.zip c ∧ (y, j) ∈ zs.zip c := by
  constructor
  · rintro ⟨b, hb, h1, h2⟩
    obtain ⟨j, _, rfl⟩ := List.mem_map.mp hb
    exact ⟨j, mem_blk.mp h1, mem_blk.mp h2⟩
  · rintro ⟨j, h1, h2⟩
    exact ⟨blk zs c j, List.mem_map.mpr ⟨j, List.mem_range.mpr ((h j).mp (List.of_mem_zip h1).2), rfl⟩, mem_blk.mpr h1, mem_blk.mpr h2⟩
theorem mem_blocks {zs : List Str} {c : List Nat} {k : Nat} (e : zs.length = c.length) (h : CodeOk c k) {x : Str} : x ∈ (blocksOf zs c k).flatten ↔ x ∈ zs := by
  rw [List.mem_flatten]
  constructor
  · rintro ⟨b, hb, hx⟩
    obtain ⟨j, _, rfl⟩ := List.mem_map.mp hb
    exact (blk_sub zs c j).mem hx
  · intro hx
    obtain ⟨j, hj⟩ := zip_of_name e hx
    obtain ⟨b, hb, h1, _⟩ := (one_blocks (zs := zs) h).mpr ⟨j, hj, hj⟩
    exact ⟨b, hb, h1⟩
/-! ### rows that are finer, and equal ones -/
theorem one_refl {R : List (List Str)} {x : Str} (h : x ∈ R.flatten) : oneB R x x := by
  obtain ⟨b, hb, hx⟩ := List.mem_flatten.mp h
  exact ⟨b, hb, hx, hx⟩
theorem finer_iff {R S : List (List Str)} (gR : GoodR R) (gS : GoodR S) (e : ∀ x, x ∈ R.flatten → x ∈ S.flatten) : finer R S = true ↔ ∀ x y, oneB R x y → oneB S x y := by
  have key : finer R S = true ↔ ∀ b ∈ R, ∀ z ∈ b, oneB S (b.headD "") z := by
    unfold finer
    rw [List.all_eq_true]
    refine forall_congr' fun b => forall_congr' fun hb => ?_
    rw [List.all_eq_true]
    refine forall_congr' fun z => forall_congr' fun hz => ?_
    unfold sameNum
    rw [decide_eq_true_eq]
    refine num_one gS.good.dis (e _ (List.mem_flatten.mpr ⟨b, hb, ?_⟩))
    cases b with
    | nil => exact absurd rfl (gR.good.ne _ hb)
    | cons x r => exact .head _
  rw [key]
  constructor
  · rintro h x y ⟨b, hb, hx, hy⟩
    have h1 := h b hb x hx
    have h2 := h b hb y hy
    obtain ⟨c, hc, c1, c2⟩ := h1
    obtain ⟨d, hd, d1, d2⟩ := h2
    obtain ⟨i, hi, ei⟩ := List.getElem_of_mem hc
    obtain ⟨j, hj, ej⟩ := List.getElem_of_mem hd
    have ij := dis_at gS.good.dis (List.getElem?_eq_getElem hi) (List.getElem?_eq_getElem hj) (z := b.headD "") (by rw [ei]; exact c1) (by rw [ej]; exact d1)
    subst ij
    have cd : c = d := ei.symm.trans ej
    subst cd
    exact ⟨c, hc, c2, d2⟩
  · intro h b hb z hz
    refine h _ _ ⟨b, hb, ?_, hz⟩
    cases b with
    | nil => exact nomatch hz
    | cons x r => exact .head _
theorem row_of_one {R S : List (List Str)} (gR : GoodR R) (gS : GoodR S) (h : ∀ x y, oneB R x y ↔ oneB S x y) {b : List Str} (hb : b ∈ R) : b ∈ S := by
  obtain ⟨x, r, rfl⟩ : ∃ x r, b = x :: r := by
    cases b with
    | nil => exact absurd rfl (gR.good.ne _ hb)
    | cons x r => exact ⟨x, r, rfl⟩
  obtain ⟨c, hc, hx, _⟩ := (h x x).mp ⟨_, hb, .head _, .head _⟩
  have uniq : ∀ {T : List (List Str)}, GoodR T → ∀ {p q : List Str}, p ∈ T → q ∈ T → ∀ {z : Str}, z ∈ p → z ∈ q → p = q := by
    intro T gT p q hp hq z hz1 hz2
    obtain ⟨i, hi, ei⟩ := List.getElem_of_mem hp
    obtain ⟨j, hj, ej⟩ := List.getElem_of_mem hq
    have ij := dis_at gT.good.dis (List.getElem?_eq_getElem hi) (List.getElem?_eq_getElem hj) (z := z) (by rw [ei]; exact hz1) (by rw [ej]; exact hz2)
    subst ij
    exact ei.symm.trans ej
  have e : x :: r = c := by
    refine asc_same tot_ltS (gR.up _ hb) (gS.up _ hc) fun z => ⟨fun hz => ?_, fun hz => ?_⟩
    · obtain ⟨d, hd, d1, d2⟩ := (h x z).mp ⟨_, hb, .head _, hz⟩
      have dc := uniq gS hd hc d1 hx
      exact dc ▸ d2
    · obtain ⟨d, hd, d1, d2⟩ := (h x z).mpr ⟨_, hc, hx, hz⟩
      have dc := uniq gR hd hb d1 (.head _)
      exact dc ▸ d2
  rw [e]
  exact hc
theorem rows_same {R S : List (List Str)} (gR : GoodR R) (gS : GoodR S) : R = S ↔ ∀ x y, oneB R x y ↔ oneB S x y := by
  constructor
  · rintro rfl x y
    exact Iff.rfl
  · intro h
    exact asc_same tot_lexS gR.upR gS.upR fun b => ⟨fun hb => row_of_one gR gS h hb, fun hb => row_of_one gS gR (fun x y => (h x y).symm) hb⟩
theorem rows_eq {R S : List (List Str)} (gR : GoodR R) (gS : GoodR S) (e : ∀ x, x ∈ R.flatten ↔ x ∈ S.flatten) : decide (R = S) = (finer R S && finer S R) := by
  refine Bool.eq_iff_iff.mpr ?_
  rw [decide_eq_true_eq, Bool.and_eq_true, finer_iff gR gS fun x => (e x).mp, finer_iff gS gR fun x => (e x).mpr, rows_same gR gS]
  exact ⟨fun h => ⟨fun x y => (h x y).mp, fun x y => (h x y).mpr⟩, fun h x y => ⟨h.1 x y, h.2 x y⟩⟩
/-! ### pairs of names that stand in one block -/
def pairsAt (zs : List Str) (c : List Nat) (k : Nat) : List (Str × Str) := ((List.range k).filter fun j => decide (c.getD j 0 = c.getD k 0)).map fun j => (zs.getD j "", zs.getD k "")
def pairsOf (zs : List Str) (c : List Nat) : List (Str × Str) := (List.range c.length).flatMap (pairsAt zs c)
theorem mem_pairs {zs : List Str} {c : List Nat} {x y : Str} : (x, y) ∈ pairsOf zs c ↔ ∃ j k, j < k ∧ k < c.length ∧ c.getD j 0 = c.getD k 0 ∧ zs.getD j "" = x ∧ zs.getD k "" = y := by
  unfold pairsOf pairsAt
  rw [List.mem_flatMap]
  constructor
  · rintro ⟨k, hk, h⟩
    obtain ⟨j, hj, e⟩ := List.mem_map.mp h
    obtain ⟨h1, h2⟩ := List.mem_filter.mp hj
    exact ⟨j, k, List.mem_range.mp h1, List.mem_range.mp hk, of_decide_eq_true h2, congrArg Prod.fst e, congrArg Prod.snd e⟩
  · rintro ⟨j, k, h1, h2, h3, h4, h5⟩
    exact ⟨k, List.mem_range.mpr h2, List.mem_map.mpr ⟨j, List.mem_filter.mpr ⟨List.mem_range.mpr h1, decide_eq_true h3⟩, by rw [h4, h5]⟩⟩
def lowOf (P Q : List (Str × Str)) : Bool := P.all fun p => decide (p ∈ Q)
theorem zip_at {zs : List Str} {c : List Nat} (e : zs.length = c.length) {x : Str} {v : Nat} : (x, v) ∈ zs.zip c ↔ ∃ i, i < c.length ∧ zs.getD i "" = x ∧ c.getD i 0 = v := by
  constructor
  · intro h
    obtain ⟨i, hi, q⟩ := List.getElem_of_mem h
    rw [List.length_zip] at hi
    rw [List.getElem_zip] at q
    refine ⟨i, by omega, ?_, ?_⟩
    · rw [List.getD_eq_getElem?_getD, List.getElem?_eq_getElem (by omega)]
      exact congrArg Prod.fst q
    · rw [List.getD_eq_getElem?_getD, List.getElem?_eq_getElem (by omega)]
      exact congrArg Prod.snd q
  · rintro ⟨i, hi, h1, h2⟩
    rw [List.getD_eq_getElem?_getD, List.getElem?_eq_getElem (by omega)] at h1 h2
    refine List.mem_iff_getElem.mpr ⟨i, by rw [List.length_zip]; omega, ?_⟩
    rw [List.getElem_zip]
    exact Prod.ext h1 h2
theorem getD_inj {zs : List Str} (nd : zs.Nodup) {i j : Nat} (hi : i < zs.length) (hj : j < zs.length) (h : zs.getD i "" = zs.getD j "") : i = j := by
  rw [List.getD_eq_getElem?_getD, List.getD_eq_getElem?_getD, List.getElem?_eq_getElem hi, List.getElem?_eq_getElem hj] at h
  exact (List.getElem_inj nd).mp h
theorem low_iff {zs : List Str} {c d : List Nat} (nd : zs.Nodup) (e : zs.length = c.length) (e2 : zs.length = d.length) : lowOf (pairsOf zs c) (pairsOf zs d) = true ↔ ∀ x y, (∃ v, (x, v) ∈ zs.zip c ∧ (y, v) ∈ zs.zip c) → ∃ v, (x, v) ∈ zs.zip d ∧ (y, v) ∈ zs.zip d := by
  unfold lowOf
  rw [List.all_eq_true]
  constructor
  · rintro h x y ⟨v, hx, hy⟩
    obtain ⟨i, hi, xi, ci⟩ := (zip_at e).mp hx
    obtain ⟨j, hj, yj, cj⟩ := (zip_at e).mp hy
    have go : ∀ i j, i < j → j < c.length → c.getD i 0 = c.getD j 0 → d.getD i 0 = d.getD j 0 := by
      intro i j l lj q
      have p := of_decide_eq_true (h _ (mem_pairs.mpr ⟨i, j, l, lj, q, rfl, rfl⟩))
      obtain ⟨i', j', l', lj', q', h1, h2⟩ := mem_pairs.mp p
      rw [← getD_inj nd (by omega) (by omega) h1, ← getD_inj nd (by omega) (by omega) h2]
      exact q'
    refine ⟨d.getD i 0, (zip_at e2).mpr ⟨i, by omega, xi, rfl⟩, (zip_at e2).mpr ⟨j, by omega, yj, ?_⟩⟩
    rcases Nat.lt_trichotomy i j with l | l | l
    · exact (go i j l hj (ci.trans cj.symm)).symm
    · rw [l]
    · exact go j i l hi (cj.trans ci.symm)
  · rintro h ⟨x, y⟩ hp
    obtain ⟨i, j, l, lj, q, rfl, rfl⟩ := mem_pairs.mp hp
    obtain ⟨v, h1, h2⟩ := h _ _ ⟨c.getD i 0, (zip_at e).mpr ⟨i, by omega, rfl, rfl⟩, (zip_at e).mpr ⟨j, by omega, rfl, q.symm⟩⟩
    obtain ⟨i', hi', a1, a2⟩ := (zip_at e2).mp h1
    obtain ⟨j', hj', b1, b2⟩ := (zip_at e2).mp h2
    have ei := getD_inj nd (by omega) (by omega) a1
    have ej := getD_inj nd (by omega) (by omega) b1
    subst ei ej
    exact decide_eq_true (mem_pairs.mpr ⟨i', j', l, hj', a2.trans b2.symm, rfl, rfl⟩)
/-- the meeting that a code makes -/
def rowsC (zs : List Str) (c : List Nat) (k : Nat) : List (List Str) := rowsOf (blocksOf zs c k)
theorem low_finer {zs : List Str} {c d : List Nat} {k l : Nat} (nd : zs.Nodup) (nm : ∀ z ∈ zs, nameOk z = true) (few : zs.length ≤ 7) (e : zs.length = c.length) (e2 : zs.length = d.length) (h1 : CodeOk c k) (h2 : CodeOk d l) : finer (rowsC zs c k) (rowsC zs d l) = lowOf (pairsOf zs c) (pairsOf zs d) := by
  have g1 := good_blocks nd nm e h1 few
  have g2 := good_blocks nd nm e2 h2 few
  refine Bool.eq_iff_iff.mpr ?_
  unfold rowsC
  rw [finer_iff (good_rows g1) (good_rows g2) fun x hx => (mem_rows g2).mpr ((mem_blocks e2 h2).mpr ((mem_blocks e h1).mp ((mem_rows g1).mp hx))), low_iff nd e e2]
  refine forall_congr' fun x => forall_congr' fun y => ?_
  rw [one_rows g1, one_rows g2, one_blocks h1, one_blocks h2]
theorem names_rowsC {zs : List Str} {c d : List Nat} {k l : Nat} (nd : zs.Nodup) (nm : ∀ z ∈ zs, nameOk z = true) (few : zs.length ≤ 7) (e : zs.length = c.length) (e2 : zs.length = d.length) (h1 : CodeOk c k) (h2 : CodeOk d l) : namesOf (rowsC zs c k) = namesOf (rowsC zs d l) := by
  have g1 := good_blocks nd nm e h1 few
  have g2 := good_blocks nd nm e2 h2 few
  refine asc_mem tot_ltS fun x => ?_
  rw [show x ∈ (rowsC zs c k).flatten ↔ x ∈ zs from (mem_rows g1).trans (mem_blocks e h1), show x ∈ (rowsC zs d l).flatten ↔ x ∈ zs from (mem_rows g2).trans (mem_blocks e2 h2)]
theorem eq_rowsC {zs : List Str} {c d : List Nat} {k l : Nat} (nd : zs.Nodup) (nm : ∀ z ∈ zs, nameOk z = true) (few : zs.length ≤ 7) (e : zs.length = c.length) (e2 : zs.length = d.length) (h1 : CodeOk c k) (h2 : CodeOk d l) : decide (rowsC zs c k = rowsC zs d l) = (lowOf (pairsOf zs c) (pairsOf zs d) && lowOf (pairsOf zs d) (pairsOf zs c)) := by
  have g1 := good_blocks nd nm e h1 few
  have g2 := good_blocks nd nm e2 h2 few
  rw [← low_finer nd nm few e e2 h1 h2, ← low_finer nd nm few e2 e h2 h1]
  unfold rowsC
  rw [rows_eq (good_rows g1) (good_rows g2) fun x => by
    rw [show x ∈ (rowsOf (blocksOf zs c k)).flatten ↔ x ∈ zs from (mem_rows g1).trans (mem_blocks e h1), show x ∈ (rowsOf (blocksOf zs d l)).flatten ↔ x ∈ zs from (mem_rows g2).trans (mem_blocks e2 h2)]]
end K1
set_option linter.all false
set_option maxRecDepth 100000
set_option maxHeartbeats 1000000
namespace K1
open PySem L2
/-- the scope of the comprehension that a def returns -/
def lcScope (s : Stmt) : Scope := match defBody s with
  | [.Return (some (.ListComp _ _ sc _)) _] => sc
  | [_, .Return (some (.ListComp _ _ sc _)) _] => sc
  | _ => defScope s
def codeV (c : List Nat) : List V := c.map fun (n : Nat) => V.int n
def cK (n : Nat) : Key := Sum.inl (n : Int)
theorem cK_inj {a b : Nat} (h : cK a = cK b) : a = b := by
  unfold cK at h
  injection h with h
  exact Int.ofNat.inj h
theorem codeV_keys (c : List Nat) : (c.map cK).map kV = codeV c := by
  rw [List.map_map]
  rfl
theorem len_code {c : List Nat} {k : Nat} (h : CodeOk c k) {D : List Key} (nd : D.Nodup) (m : ∀ x, x ∈ D ↔ x ∈ c.map cK) : D.length = k := by
  have e := len_of_mem (l := (List.range k).map cK) (D := D) (List.pairwise_map.mpr ((List.nodup_range (n := k)).imp fun ne e => ne (cK_inj e))) nd fun x => by
    rw [m, List.mem_map, List.mem_map]
    constructor
    · rintro ⟨v, hv, e⟩
      exact ⟨v, List.mem_range.mpr ((h v).mp hv), e⟩
    · rintro ⟨v, hv, e⟩
      exact ⟨v, (h v).mpr (List.mem_range.mp hv), e⟩
  rwa [List.length_map, List.length_range] at e
structure BlF (mg : Str → Option Value) : Prop where
  len : mg "len" = none
  set : mg "set" = none
  range : mg "range" = none
  zip : mg "zip" = none
def spBlocks : Sp := fun vs H Q _ => ∃ (a b : Addr) (zs : List Str) (c : List Nat) (k : Nat), vs = [.ref a, .ref b] ∧ H a = some (.lst (zs.map V.str)) ∧ H b = some (.tup (codeV c)) ∧ CodeOk c k ∧ zs.length = c.length ∧ zs.length ≤ 7 ∧
  ∀ (p : Addr) (B : TL) (H' : Hp), Same H H' → H p = none → H' p = some (.lst (refT B)) → LiT H' B → (∀ q ∈ B, H q.1 = none) → rowT B = blocksOf zs c k → Q (.ref p) H'
section
variable {P : Program} {w : World} {K : PySem.W.Frag} {mg : Str → Option Value} {base : Heap}
abbrev NBk : List Str := ["_law_names_here", "_law_code", "_law_k", "_law_name", "_law_x"]
theorem scBk : FnScope NBk ["_law_names_here", "_law_code"] (defScope sBlocks) := ⟨rfl, rfl, rfl, by decide +kernel, rfl, by decide +kernel, by decide +kernel⟩
theorem ok_blocks {f : Addr} {fd : FuncData} (F : Fun K "_law_blocks" "_law_blocks" sBlocks f fd) (T : BlF mg) : FnOk P w K mg base CX0 1 f fd ["_law_names_here", "_law_code"] spBlocks := by
  refine F.ok scBk (fun vs H Q E h => ?_) (fun cdv A outer s H vs Q E hr h => ?_)
  · obtain ⟨a, b, zs, c, k, rfl, _⟩ := h
    rfl
  · obtain ⟨a, b, zs, c, k, rfl, ha, hb, ck, el, few, kk⟩ := h
    refine ⟨_, pss_one (ps_ret (pe_lc (own := [("_law_k", 2)]) (g := gName 2) (tt := tYes) (te := tLc (iZipB K (tCons (tVar 0) (tCons (tVar 1) tNil))) (gTup K 2 (gCons (gName 3) (gCons (gName 4) gNil))) (tTest (tOp rEq (tVar 4) (tVar 2))) (tVar 3) [3, 4]) rfl scBk.nd
        (pi_range1 (by rfl) T.range (pa_cons (pe_callB call_lenX (by rfl) T.len PySem.boot_len (pa_cons (pe_callTy (cr_setX rfl) (by rfl) T.set (by decide +kernel) (pa_cons (pv 1) pa_nil)) pa_nil)) pa_nil))
        (blkOk_by (N := NBk) (sc := defScope sBlocks) (by decide +kernel))
        (fun _ _ _ _ _ => pg_name (i := 2) scBk.nd rfl (Or.inr rfl)) (fun _ _ _ _ _ => pts_nil)
        (fun _ _ _ _ _ => pe_lc (own := [("_law_name", 3), ("_law_x", 4)]) rfl scBk.nd
          (pi_zB (by rfl) T.zip (pa_cons (pv 0) (pa_cons (pv 1) pa_nil)))
          (blkOk_by (N := NBk) (sc := relS (lcScope sBlocks) (defScope sBlocks)) (by decide +kernel))
          (fun _ _ _ _ _ => pg_tup rfl (pgs_cons (pg_name (i := 3) scBk.nd rfl (Or.inl rfl)) (pgs_cons (pg_name (i := 4) scBk.nd rfl (Or.inl rfl)) pgs_nil)))
          (fun _ _ _ _ _ => pts_one (pt_cmpR op_eq (pv 4) (pv 2) (nomark _)))
          (fun _ _ _ _ _ => pv 3)))), ?_⟩
    refine ⟨_, rfl, b, c.map cK, rfl, .inr (.inl (SqT.of (by rw [codeV_keys]; exact hb))), by rw [List.length_map]; omega, fun st Ds nst ndD mD => ⟨st, Ds, rfl, upd_same, ?_⟩⟩
    have eL : Ds.length = k := len_code ck ndD mD
    have kl := code_le ck
    rw [eL]
    generalize KS _ st Ds = KO
    have s1 : Same H (upd H st KO) := same_new nst _
    generalize upd H st KO = H1 at *
    refine ⟨(k : Nat), rfl, by omega, by omega, fun D nD => ?_⟩
    have n0 : H D = none := s1.free nD
    have s2 := s1.trans (same_new nD (.lst []))
    refine lc_range (lo := 0) (n := k) (fun i H9 => ∃ B : TL, H9 D = some (.lst (refT B)) ∧ LiT H9 B ∧ rowT B = (List.range i).map (blk zs c) ∧ (∀ q ∈ B, H q.1 = none ∧ q.1 ≠ D) ∧ Same H H9) ⟨[], upd_same, (fun _ h => nomatch h), rfl, (fun _ h => nomatch h), s2⟩ ?_ ?_
    · rintro i H9 hi ⟨B, hD, hL, eB, nB, s9⟩
      refine ⟨rfl, ?_⟩
      refine ⟨_, rfl, _, rfl, false, true, a, b, zs.map V.str, codeV c, rfl, SqL.of (s9 _ _ ha), SqT.of (s9 _ _ hb), fun D2 nD2 => ?_⟩
      refine lc_it (walk_zB (n := zs.length) (by rw [codeV, List.length_map, List.length_map]; omega)) (fun j H12 => H12 D2 = some (.lst (((((zs.zip c).take j).filter fun p => decide (p.2 = i)).map (·.1)).map V.str)) ∧ Same H9 H12)
        ⟨upd_same, same_new nD2 _⟩ (fun j H12 _ q => ⟨SqL.of (q.2 _ _ (s9 _ _ ha)), SqT.of (q.2 _ _ (s9 _ _ hb))⟩) ?_ ?_
      · rintro j v H12 H13 hj ⟨h12, s12⟩ ⟨T0, x, y, rfl, nT0, rfl, ex, ey⟩
        have ex : (zs.map V.str)[j]? = some x := ex
        have ey : (codeV c)[j]? = some y := ey
        rw [List.getElem?_map] at ex
        obtain ⟨z, hz, rfl⟩ := Option.map_eq_some_iff.mp ex
        rw [codeV, List.getElem?_map] at ey
        obtain ⟨n, hn, rfl⟩ := Option.map_eq_some_iff.mp ey
        have zn : (zs.zip c)[j]? = some (z, n) := List.getElem?_zip_eq_some.mpr ⟨hz, hn⟩
        have s13 : Same H12 (upd H12 T0 (.tup [.str z, .int n])) := same_new nT0 _
        refine ⟨T0, [.str z, .int n], rfl, SqT.of upd_same, rfl, _, [.int n], rfl, .int n, [], rfl, rfl, ?_⟩
        refine ⟨rfl, ?_⟩
        have h13 : upd H12 T0 (.tup [.str z, .int n]) D2 = some (.lst (((((zs.zip c).take j).filter fun p => decide (p.2 = i)).map (·.1)).map V.str)) := s13 _ _ h12
        have s14 := s12.trans s13
        generalize upd H12 T0 (.tup [.str z, .int n]) = H13 at h13 s14
        have tk : (zs.zip c).take (j + 1) = (zs.zip c).take j ++ [(z, n)] := by rw [List.take_add_one, zn]; rfl
        refine ⟨_, rfl, _, rfl, rfl, _, rfl, ite2 (fun e => ?_) fun e => ?_⟩
        · have ni : n = i := by
            have e := of_decide_eq_true e
            injection e with e
            omega
          refine ⟨_, rfl, _, h13, ?_, ?_, fun q o hq => ?_⟩
          · rw [List.length_map, List.length_map]
            refine small1000 (Nat.le_trans (List.length_filter_le _ _) ?_)
            rw [List.length_take]
            omega
          · rw [upd_same, tk, List.filter_append, List.filter_cons, if_pos (decide_eq_true ni)]
            simp
          · rw [upd_ne (ne_of_none hq nD2)]
            exact s14 _ _ hq
        · refine ⟨?_, s14⟩
          have ni : ¬ n = i := fun q => e (by rw [q]; simp)
          rw [h13, tk, List.filter_append, List.filter_cons, if_neg (by simpa using ni)]
          simp
      · rintro H12 ⟨h12, s12⟩
        have ez : (zs.zip c).take zs.length = zs.zip c := List.take_of_length_le (by rw [List.length_zip]; omega)
        rw [ez] at h12
        have nd2 : H D2 = none := s9.free nD2
        have dne : D ≠ D2 := ne_of_none hD nD2
        refine ⟨refT B, s12 _ _ hD, small1000 (by
          have := congrArg List.length eB
          rw [rowT_len, List.length_map, List.length_range] at this
          rw [refT_len]
          omega), B ++ [(D2, blk zs c i)], by rw [upd_same, refT_app]; rfl, fun q hq => ?_, ?_, fun q hq => ?_, fun q o hq => ?_⟩
        · rcases List.mem_append.mp hq with m | m
          · rw [upd_ne (nB q m).2]
            exact s12 _ _ (hL q m)
          · obtain rfl := List.mem_singleton.mp m
            rw [upd_ne dne.symm]
            exact h12
        · rw [rowT_app, eB, List.range_succ, List.map_append]
          rfl
        · rcases List.mem_append.mp hq with m | m
          · exact nB q m
          · obtain rfl := List.mem_singleton.mp m
            exact ⟨nd2, dne.symm⟩
        · rw [upd_ne (ne_of_none hq n0)]
          exact s12 _ _ (s9 _ _ hq)
    · rintro H9 ⟨B, hD, hL, eB, nB, s9⟩
      exact kk D B H9 s9 n0 hD hL (fun q hq => (nB q hq).1) eB
end
end K1
set_option linter.all false
set_option maxRecDepth 100000
set_option maxHeartbeats 1000000
namespace K1
open PySem L2
theorem Spr.no {H : Hp} {st l : Addr} {cs : List Int} {n : Nat} {b : Addr} {o : HO} (S : Spr H st l cs n) (h : H b = some o) (ho : ∀ xs, o ≠ .lst xs) : b ≠ st := by
  obtain ⟨⟨i, k, c, g, e, _⟩, _⟩ := S
  intro z
  rw [z, e] at h
  exact ho _ (Option.some.inj h).symm
theorem Spr.up {H : Hp} {st l : Addr} {cs : List Int} {n m : Nat} (S : Spr H st l cs n) (h : n ≤ m) : Spr H st l cs m := by
  obtain ⟨⟨i, k, c, g, e, q1, q2, q3, q4, q5⟩, r1, r2, r3⟩ := S
  exact ⟨⟨i, k, c, g, e, q1, q2, q3, q4, Nat.le_trans q5 h⟩, r1, r2, r3⟩
theorem Spr.upd {H : Hp} {st l D : Addr} {cs : List Int} {n : Nat} {o : HO} (S : Spr H st l cs n) (h1 : D ≠ st) (h2 : D ≠ l) : Spr (upd H D o) st l cs n := by
  obtain ⟨⟨i, k, c, g, e, q⟩, r1, r2, r3⟩ := S
  exact ⟨⟨i, k, c, g, by rw [upd_ne h1.symm]; exact e, q⟩, by rw [upd_ne h2.symm]; exact r1, r2, r3⟩
/-- one of a tuple's things -/
def spOneT : Sp := fun vs H Q _ => ∃ (st l a : Addr) (cs : List Int) (n : Nat) (xs : List V), vs = [.ref st, .ref a] ∧ H a = some (.tup xs) ∧ 0 < xs.length ∧ xs.length < 1000 ∧ n < 1000000 ∧ Spr H st l cs n ∧
  ∀ (x : V) (H' : Hp), x ∈ xs → Spr H' st l cs (n + 1) → (∀ b, b ≠ st → H' b = H b) → Q x H'
/-- t + u, the right one not empty and new -/
def rCatN (K : PySem.W.Frag) : R2 := fun x y H Q => ∃ a b xs ys, x = .ref a ∧ y = .ref b ∧ SqT K H a xs ∧ H b = some (.tup ys) ∧ ys ≠ [] ∧ xs.length + ys.length ≤ sizeLine ∧ ∀ t H', H' t = some (.tup (xs ++ ys)) → (t = b ∨ H t = none) → Same H H' → Q (.ref t) H'
theorem op_catN {X : Cx} {K : PySem.W.Frag} (h : X.K = K := by rfl) : OpR X (binaryOp .Add) (rCatN K) := by
  subst h
  intro pins s σ H x y v u Q I rx ry h
  obtain ⟨a, b, xs, ys, rfl, rfl, ha, hb, ne, hz, q⟩ := h
  exact op_catA pins s σ H _ _ v u Q I rx ry ⟨a, b, xs, ys, rfl, rfl, ha, SqT.of hb, hz, fun e => q b H (by rw [e]; exact hb) (.inl rfl) (Same.refl H), fun _ e => absurd e ne, fun _ _ p np => q p _ upd_same (.inr np) (same_new np _)⟩
end K1
set_option linter.all false
set_option maxRecDepth 100000
set_option maxHeartbeats 1000000
namespace K1
open PySem PySem.Spec PyProof.Rows L2
/-! ### data, an empty dict among it -/
mutual
inductive Dq (H : Hp) : V → PyData → Prop
  | non : Dq H .non .none
  | bl (b : Bool) : Dq H (.bl b) (.bool b)
  | int (i : Int) : Dq H (.int i) (.int i)
  | str (x : Str) : Dq H (.str x) (.str x)
  | lst {a : Addr} {xs : List V} {ds : List PyData} : H a = some (.lst xs) → DqAll H xs ds → Dq H (.ref a) (.list ds)
  | tup {a : Addr} {xs : List V} {ds : List PyData} : H a = some (.tup xs) → DqAll H xs ds → Dq H (.ref a) (.tuple ds)
  | emp {a : Addr} : H a = some (.dK []) → Dq H (.ref a) (.dict [])
inductive DqAll (H : Hp) : List V → List PyData → Prop
  | nil : DqAll H [] []
  | cons {v : V} {vs : List V} {d : PyData} {ds : List PyData} : Dq H v d → DqAll H vs ds → DqAll H (v :: vs) (d :: ds)
end
mutual
theorem Dq.mono {H H' : Hp} (s : ∀ b o, H b = some o → H' b = some o) : ∀ {v : V} {d : PyData}, Dq H v d → Dq H' v d
  | _, _, .non => .non
  | _, _, .bl b => .bl b
  | _, _, .int i => .int i
  | _, _, .str x => .str x
  | _, _, .lst h hs => .lst (s _ _ h) (DqAll.mono s hs)
  | _, _, .tup h hs => .tup (s _ _ h) (DqAll.mono s hs)
  | _, _, .emp h => .emp (s _ _ h)
theorem DqAll.mono {H H' : Hp} (s : ∀ b o, H b = some o → H' b = some o) : ∀ {vs : List V} {ds : List PyData}, DqAll H vs ds → DqAll H' vs ds
  | _, _, .nil => .nil
  | _, _, .cons h t => .cons (Dq.mono s h) (DqAll.mono s t)
end
theorem Dq.same {H H' : Hp} {v : V} {d : PyData} (h : Dq H v d) (s : Same H H') : Dq H' v d := h.mono s
theorem DqAll.same {H H' : Hp} {vs : List V} {ds : List PyData} (h : DqAll H vs ds) (s : Same H H') : DqAll H' vs ds := h.mono s
theorem DqAll.len {H : Hp} : ∀ {vs : List V} {ds : List PyData}, DqAll H vs ds → vs.length = ds.length
  | _, _, .nil => rfl
  | _, _, .cons _ t => by rw [List.length_cons, List.length_cons, DqAll.len t]
theorem DqAll.get {H : Hp} : ∀ {xs : List V} {ds : List PyData} {i : Nat} {x : V}, DqAll H xs ds → xs[i]? = some x → ∃ d, ds[i]? = some d ∧ Dq H x d
  | _, _, _, _, .nil, h => by simp at h
  | _, _, 0, _, .cons h _, e => by
    cases Option.some.inj e
    exact ⟨_, rfl, h⟩
  | _, _, i + 1, _, .cons _ t, e => DqAll.get (i := i) t (by simpa using e)
theorem DqAll.app {H : Hp} : ∀ {xs ys : List V} {ds es : List PyData}, DqAll H xs ds → DqAll H ys es → DqAll H (xs ++ ys) (ds ++ es)
  | _, _, _, _, .nil, h => h
  | _, _, _, _, .cons h t, k => .cons h (DqAll.app t k)
/-- the type's name of such data -/
def tyD : PyData → String
  | .none => "NoneType"
  | .bool _ => "bool"
  | .int _ => "int"
  | .str _ => "str"
  | .list _ => "list"
  | .tuple _ => "tuple"
  | .dict _ => "dict"
theorem Dq.ty {K : PySem.W.Frag} {H : Hp} {v : V} {d : PyData} (h : Dq H v d) : TyX K H v (.type (tyD d)) := by
  cases h with
  | non => exact .base .non
  | bl b => exact .base (.bl b)
  | int i => exact .base (.int i)
  | str x => exact .base (.str x)
  | lst h _ => exact .base (.lst h)
  | tup h _ => exact .base (.tup h)
  | emp h => exact .base (.dK h)
section
variable {X : Cx} {pins : List (Addr × Obj)} {σ : L2.St} {H : Hp} {s : Shared}
theorem emp_at (I : Inv X pins σ H s) {a : Addr} (ha : H a = some (.dK [])) : ∃ o es ep, s.heap.get? a = some o ∧ o.cls = .type "dict" ∧ o.data = .dict es ep ∧ es.toList = [] ∧ (a == sysModules) = false := by
  obtain ⟨_, ne, vs, kv, o, es, ep, g, ex, dt, _, pr, _⟩ := (show ObjOk X.prog X.w H s.heap _ (.dK []) from I.hok _ _ ha)
  cases kv
  refine ⟨o, es, ep, g, ex.1, dt, ?_, ne⟩
  cases hq : es.toList with
  | nil => rfl
  | cons x r =>
    rw [hq] at pr
    cases pr
end
section
variable {X : Cx} {pins : List (Addr × Obj)} {σ : L2.St} {H : Hp} {s : Shared}
mutual
theorem Dq.reads (I : Inv X pins σ H s) : ∀ (d : PyData) (v : V) (u : Value), Dq H v d → RelV v u → ∃ as, Reads s.heap u d as
  | .none, _, _, h, r => by
    cases h; cases r
    exact ⟨_, .none⟩
  | .bool b, _, _, h, r => by
    cases h; cases r
    exact ⟨_, .bool b⟩
  | .int i, _, _, h, r => by
    cases h
    obtain ⟨t, rfl⟩ := r
    exact ⟨_, .int i t⟩
  | .str x, _, _, h, r => by
    cases h
    obtain ⟨t, rfl⟩ := r
    exact ⟨_, .str x t⟩
  | .list ds, _, _, h, r => by
    cases h with
    | lst ha hs =>
      cases r
      obtain ⟨_, its, n, rv, g⟩ := (show ObjOk X.prog X.w H s.heap _ (.lst _) from I.hok _ _ ha)
      obtain ⟨as, q⟩ := DqAll.reads I ds _ its hs rv
      exact ⟨_, .list g rfl rfl (by simpa using q)⟩
  | .tuple ds, _, _, h, r => by
    cases h with
    | tup ha hs =>
      cases r
      obtain ⟨its, rv, ⟨o, ho, hc, n, hd⟩, _⟩ := I.tuple (SqT.of ha)
      obtain ⟨as, q⟩ := DqAll.reads I ds _ its hs rv
      exact ⟨_, .tuple ho hc hd (by simpa using q)⟩
  | .dict kvs, _, _, h, r => by
    cases h with
    | emp ha =>
      cases r
      obtain ⟨o, es, ep, g, ex, dt, e0, ne⟩ := emp_at I ha
      exact ⟨_, .dict g ex dt (by rw [e0]; exact .nil) (by rw [e0]; exact .nil)⟩
theorem DqAll.reads (I : Inv X pins σ H s) : ∀ (ds : List PyData) (vs : List V) (us : List Value), DqAll H vs ds → Vals vs us → ∃ as, ReadsAll s.heap us ds as
  | [], _, _, h, r => by
    cases h; cases r
    exact ⟨_, .nil⟩
  | d :: ds, _, _, h, r => by
    cases h with
    | cons h1 h2 =>
      cases r with
      | cons r1 r2 =>
        obtain ⟨as, q1⟩ := Dq.reads I d _ _ h1 r1
        obtain ⟨bs, q2⟩ := DqAll.reads I ds _ _ h2 r2
        exact ⟨_, .cons q1 q2⟩
end
/-- how repr of it goes; bs: the lists, tuples and dicts within -/
def Few (h : Heap) (n : Nat) (bs : List Addr) : Prop := ReadAtMost h n bs
mutual
theorem Dq.reprK (I : Inv X pins σ H s) : ∀ (d : PyData) (v : V) (u : Value), Dq H v d → RelV v u → PyData.showable d = true → (PyData.shown d).length ≤ sizeLine → ∃ bs, Few s.heap (PyData.depth d) bs ∧ ReprK X.prog X.w bs s.heap (PyData.depth d) u (PyData.shown d)
  | .none, _, _, h, r, _, _ => by
    cases h; cases r
    exact ⟨[], (fun _ m => nomatch m), by simp only [PyData.shown]; exact ReprK.of_is ReprIs.none _ _ _⟩
  | .bool b, _, _, h, r, _, _ => by
    cases h; cases r
    exact ⟨[], (fun _ m => nomatch m), by simp only [PyData.shown]; exact ReprK.of_is (ReprIs.bool b) _ _ _⟩
  | .int i, _, _, h, r, sh, _ => by
    cases h
    obtain ⟨t, rfl⟩ := r
    exact ⟨[], (fun _ m => nomatch m), by simp only [PyData.shown]; exact ReprK.of_is (ReprIs.int t (by simpa [PyData.showable] using sh)) _ _ _⟩
  | .str x, _, _, h, r, _, hz => by
    cases h
    obtain ⟨t, rfl⟩ := r
    exact ⟨[], (fun _ m => nomatch m), by simp only [PyData.shown]; exact ReprK.of_is (ReprIs.str x t (by simpa only [PyData.shown] using hz)) _ _ _⟩
  | .list ds, v, u, h, r, sh, hz => by
    obtain ⟨as, rd⟩ := Dq.reads I _ v u h r
    cases h with
    | lst ha hs =>
      cases r
      obtain ⟨_, its, n, rv, g⟩ := (show ObjOk X.prog X.w H s.heap _ (.lst _) from I.hok _ _ ha)
      have hz2 : (listText (PyData.shownAll ds)).length ≤ sizeLine := by simpa only [PyData.shown] using hz
      obtain ⟨bs, few, all⟩ := DqAll.reprK I ds _ its hs rv (by simpa [PyData.showable] using sh) fun t m => Nat.le_trans (listText_mem_le m) hz2
      have no := not_mem_of_deeper rd (by simp only [PyData.depth]; omega) few
      refine ⟨_ :: bs, ReadAtMost.cons rd (by simp only [PyData.depth]; omega) few, ?_⟩
      simp only [PyData.depth, PyData.shown]
      cases its with
      | nil =>
        cases rv
        cases hs
        simp only [PyData.shownAll, listText_nil]
        exact ReprK.listEmpty g rfl rfl
      | cons x l => exact ReprK.list g rfl rfl no (by simpa using all.length_eq) fun i y e => all.item i y (by simpa using e)
  | .tuple ds, v, u, h, r, sh, hz => by
    obtain ⟨as, rd⟩ := Dq.reads I _ v u h r
    cases h with
    | tup ha hs =>
      cases r
      obtain ⟨its, rv, ⟨o, ho, hc, n, hd⟩, _⟩ := I.tuple (SqT.of ha)
      have hz2 : (tupleText (PyData.shownAll ds)).length ≤ sizeLine := by simpa only [PyData.shown] using hz
      obtain ⟨bs, few, all⟩ := DqAll.reprK I ds _ its hs rv (by simpa [PyData.showable] using sh) fun t m => Nat.le_trans (tupleText_mem_le m) hz2
      have no := not_mem_of_deeper rd (by simp only [PyData.depth]; omega) few
      refine ⟨_ :: bs, ReadAtMost.cons rd (by simp only [PyData.depth]; omega) few, ?_⟩
      simp only [PyData.depth, PyData.shown]
      exact ReprK.tuple ho hc hd no (by simpa using all)
  | .dict kvs, v, u, h, r, sh, hz => by
    obtain ⟨as, rd⟩ := Dq.reads I _ v u h r
    cases h with
    | emp ha =>
      cases r
      obtain ⟨o, es, ep, g, ex, dt, e0, ne⟩ := emp_at I ha
      refine ⟨[_], ReadAtMost.cons (n := 0) rd (Nat.zero_le _) (fun _ m => nomatch m), ?_⟩
      simp only [PyData.depth, PyData.shown, PyData.shownKv]
      exact ReprK.dict g ex dt ne (List.not_mem_nil) (by rw [e0]; exact .nil)
theorem DqAll.reprK (I : Inv X pins σ H s) : ∀ (ds : List PyData) (vs : List V) (us : List Value), DqAll H vs ds → Vals vs us → PyData.showableAll ds = true → (∀ t ∈ PyData.shownAll ds, t.length ≤ sizeLine) → ∃ bs, Few s.heap (PyData.depthAll ds) bs ∧ ReprAllK X.prog X.w bs s.heap (PyData.depthAll ds) us (PyData.shownAll ds)
  | [], _, _, h, r, _, _ => by
    cases h; cases r
    exact ⟨[], (fun _ m => nomatch m), by simp only [PyData.shownAll]; exact .nil⟩
  | d :: ds, _, _, h, r, sh, hz => by
    cases h with
    | cons h1 h2 =>
      cases r with
      | cons r1 r2 =>
        have sh2 : PyData.showable d = true ∧ PyData.showableAll ds = true := by simpa [PyData.showableAll] using sh
        simp only [PyData.shownAll] at hz
        obtain ⟨as, f1, q1⟩ := Dq.reprK I d _ _ h1 r1 sh2.1 (hz _ (.head _))
        obtain ⟨bs, f2, q2⟩ := DqAll.reprK I ds _ _ h2 r2 sh2.2 fun t m => hz t (.tail _ m)
        refine ⟨as ++ bs, (f1.mono (by simp only [PyData.depthAll]; omega)).append (f2.mono (by simp only [PyData.depthAll]; omega)), ?_⟩
        simp only [PyData.depthAll, PyData.shownAll]
        exact .cons ((q1.more fun b m => List.mem_append_left _ m).level_le (Nat.le_max_left _ _)) (q2.more_le (fun b m => List.mem_append_right _ m) (Nat.le_max_right _ _))
end
/-- repr of such data, called where no repr runs -/
theorem call_reprQ (hu : X.A.units + 64 < cLine) :
    CallR X (.builtin "repr") (fun xs H Q => ∃ v d, xs = [v] ∧ Dq H v d ∧ X.A.guards = some [] ∧ PyData.showable d = true ∧ PyData.depth d ≤ 20 ∧ (PyData.shown d).length ≤ sizeLine ∧ Q (.str (PyData.shown d)) H) := by
  intro pins s σ H xs us Q I r h
  obtain ⟨v, d, rfl, hd, hg, hs, hz, hl, q⟩ := h
  obtain ⟨u, rfl, ru⟩ := vals1 r
  cases d with
  | none =>
    cases hd; cases ru
    exact PySem.P.repr_of_none ⟨.str "None", H, I.tok _, ⟨_, rfl⟩, by simpa only [PyData.shown] using q⟩
  | bool b =>
    cases hd; cases ru
    exact PySem.P.repr_of_bool ⟨.str (if b then "True" else "False"), H, I.tok _, ⟨_, rfl⟩, by simpa only [PyData.shown] using q⟩
  | int i =>
    cases hd
    obtain ⟨t, rfl⟩ := ru
    exact PySem.P.repr_of_int (by simpa [PyData.showable] using hs) ⟨.str (toString i), H, I.tok _, ⟨_, rfl⟩, by simpa only [PyData.shown] using q⟩
  | str x =>
    cases hd
    obtain ⟨t, rfl⟩ := ru
    exact PySem.P.repr_of_str ⟨.str (reprText x), H, I.tok _, ⟨_, rfl⟩, by simpa only [PyData.shown] using q⟩ (by simpa only [PyData.shown] using hl)
  | list ds =>
    obtain ⟨bs0, rd⟩ := Dq.reads I _ v u hd ru
    cases hd with
    | lst ha hq =>
      cases ru
      obtain ⟨_, its, n, rv, g⟩ := (show ObjOk X.prog X.w H s.heap _ (.lst _) from I.hok _ _ ha)
      have hz2 : (listText (PyData.shownAll ds)).length ≤ sizeLine := by simpa only [PyData.shown] using hl
      obtain ⟨bs, few, all⟩ := DqAll.reprK I ds _ its hq rv (by simpa [PyData.showable] using hs) fun t m => Nat.le_trans (listText_mem_le m) hz2
      have no := not_mem_of_deeper rd (by simp only [PyData.depth]; omega) few
      simp only [PyData.depth] at hz
      simp only [PyData.shown] at q
      refine call_repr_slot (by omega) ⟨_, g, rfl⟩ F.slot_list_repr.toG ?_
      cases its with
      | nil =>
        cases rv
        cases hq
        simp only [PyData.shownAll, listText_nil] at q
        exact call_list_repr_empty ⟨_, g, rfl⟩ g rfl ⟨_, _, rfl, .str "[]", H, I.tok _, ⟨_, rfl⟩, q⟩
      | cons x l =>
        refine call_list_reprK g rfl rfl no (by simpa using all.length_eq) (fun i y e => all.item i y (by simpa using e)) hg (fun b _ => Clear.nil b) (by show X.A.units + 1 + _ < cLine; omega) (fun _ _ e => e) (fun h' u tk hk => ⟨_, _, rfl, .str (listText (PyData.shownAll ds)), H, I.kept hk, ⟨_, rfl⟩, q⟩) hz2
  | tuple ds =>
    obtain ⟨bs0, rd⟩ := Dq.reads I _ v u hd ru
    cases hd with
    | tup ha hq =>
      cases ru
      obtain ⟨its, rv, ⟨o, ho, hc, n, hdt⟩, _⟩ := I.tuple (SqT.of ha)
      have hz2 : (tupleText (PyData.shownAll ds)).length ≤ sizeLine := by simpa only [PyData.shown] using hl
      obtain ⟨bs, few, all⟩ := DqAll.reprK I ds _ its hq rv (by simpa [PyData.showable] using hs) fun t m => Nat.le_trans (tupleText_mem_le m) hz2
      have no := not_mem_of_deeper rd (by simp only [PyData.depth]; omega) few
      simp only [PyData.depth] at hz
      simp only [PyData.shown] at q
      refine call_repr_slot (by omega) ⟨_, ho, hc⟩ F.slot_tuple_repr ?_
      exact call_tuple_reprK ho hc hdt no (by simpa using all) hg (fun b _ => Clear.nil b) (by show X.A.units + 1 + _ < cLine; omega) (fun _ _ e => e) (fun h' u tk hk => ⟨_, _, rfl, .str (tupleText (PyData.shownAll ds)), H, I.kept hk, ⟨_, rfl⟩, q⟩) hz2
  | dict kvs =>
    cases hd with
    | emp ha =>
      cases ru
      obtain ⟨o, es, ep, g, ex, dt, e0, ne⟩ := emp_at I ha
      simp only [PyData.shown, PyData.shownKv] at q hl
      refine call_repr_slot (by omega) ⟨_, g, ex⟩ F.slot_dict_repr ?_
      exact call_dict_reprK (d := 0) (as := []) (ps := []) g ex dt ne (List.not_mem_nil) (by rw [e0]; exact .nil) hg (fun b _ => Clear.nil b) (by show X.A.units + 1 + _ < cLine; omega) (fun _ _ e => e) (fun h' u tk hk => ⟨_, _, rfl, .str (dictText []), H, I.kept hk, ⟨_, rfl⟩, q⟩) hl
end
end K1
set_option linter.all false
set_option maxRecDepth 100000
set_option maxHeartbeats 1000000
namespace K1
open PySem PySem.Spec PyProof.Rows L2
/-! ### one of two readings -/
def iOr (w1 w2 : TI) : TI := fun σ H R => w1 σ H R ∨ w2 σ H R
theorem pi_or {X : Cx} {tg it : Expr} {w1 w2 : TI} (h1 : PI X tg it w1) (h2 : PI X tg it w2) : PI X tg it (iOr w1 w2) :=
  ⟨fun pins s σ H R I h => h.elim (h1.run pins s σ H R I) (h2.run pins s σ H R I)⟩
def tOr (t1 t2 : TE) : TE := fun σ H Q => t1 σ H Q ∨ t2 σ H Q
theorem pe_or2 {X : Cx} {e : Expr} {t1 t2 : TE} (h1 : PE X e t1) (h2 : PE X e t2) : PE X e (tOr t1 t2) :=
  ⟨fun pins s σ H Q I h => h.elim (h1.run pins s σ H Q I) (h2.run pins s σ H Q I)⟩
/-- a list or a tuple -/
def seqO (t : Bool) (xs : List V) : HO := if t = true then .tup xs else .lst xs
theorem or_var {K : PySem.W.Frag} {i : Nat} {σ : L2.St} {H : Hp} {R : It → Hp → Prop} {t : Bool} {a : Addr} {xs : List V} (hσ : σ[i]? = some (some (.ref a))) (h : H a = some (seqO t xs))
    (k : ∀ J, Walk J xs.length (fun H => H a = some (seqO t xs)) (YAt xs) → R J H) : iOr (iList K (tVar i)) (iTup K (tVar i)) σ H R := by
  cases t with
  | false => exact .inl ⟨_, hσ, a, rfl, ⟨xs, SqL.of h⟩, k _ (walk_list.mono (fun H z => SqL.of z) fun _ _ _ _ _ _ y => y)⟩
  | true => exact .inr ⟨_, hσ, a, rfl, ⟨xs, SqT.of h⟩, k _ (walk_tup.mono (fun H z => SqT.of z) fun _ _ _ _ _ _ y => y)⟩
theorem or_enum {K : PySem.W.Frag} {i : Nat} {σ : L2.St} {H : Hp} {R : It → Hp → Prop} {t : Bool} {a : Addr} {xs : List V} (hσ : σ[i]? = some (some (.ref a))) (h : H a = some (seqO t xs))
    (k : ∀ J, Walk J xs.length (fun H => H a = some (seqO t xs)) (YPair (fun i => some (.int (i : Nat))) (fun i => xs[i]?)) → R J H) : iOr (iEnum K (tCons (tVar i) tNil)) (iEnumT K (tCons (tVar i) tNil)) σ H R := by
  cases t with
  | false => exact .inl ⟨_, hσ, a, xs, rfl, SqL.of h, k _ (walk_enum.mono (fun H z => SqL.of z) fun _ _ _ _ _ _ y => y)⟩
  | true => exact .inr ⟨_, hσ, a, xs, rfl, SqT.of h, k _ (walk_enumT.mono (fun H z => SqT.of z) fun _ _ _ _ _ _ y => y)⟩
/-! ### data of lists -/
def seqD : PyData → Option (List PyData)
  | .list ds => some ds
  | .tuple ds => some ds
  | _ => none
theorem Dq.seq {H : Hp} {v : V} {d : PyData} {ds : List PyData} (h : Dq H v d) (e : seqD d = some ds) : ∃ t a xs, v = .ref a ∧ H a = some (seqO t xs) ∧ DqAll H xs ds ∧ d = (if t = true then .tuple ds else .list ds) := by
  cases h with
  | lst ha hs => cases e; exact ⟨false, _, _, rfl, ha, hs, rfl⟩
  | tup ha hs => cases e; exact ⟨true, _, _, rfl, ha, hs, rfl⟩
  | non => cases e
  | bl _ => cases e
  | int _ => cases e
  | str _ => cases e
  | emp _ => cases e
theorem kit_seq {K : PySem.W.Frag} (d : PyData) : PySem.W.kitAny K (.type (tyD d)) [.type "list", .type "tuple"] = some (seqD d).isSome := by
  have two : ∀ {a : String} {r s : Bool}, kitB a "list" = some r → kitB a "tuple" = some s → PySem.W.kitAny K (.type a) [.type "list", .type "tuple"] = some (r || s) := fun {a r s} h1 h2 => by
    refine kitAny_cons (kit_ty h1) (fun e => ?_) (fun e => by rw [e]; rfl)
    subst e
    rw [Bool.false_or]
    exact kitAny_cons (kit_ty h2) (fun e => by rw [e]; rfl) (fun e => e.symm ▸ rfl)
  cases d with
  | none => exact two (a := "NoneType") (r := false) (s := false) (by decide +kernel) (by decide +kernel)
  | bool _ => exact two (a := "bool") (r := false) (s := false) (by decide +kernel) (by decide +kernel)
  | int _ => exact two (a := "int") (r := false) (s := false) (by decide +kernel) (by decide +kernel)
  | str _ => exact two (a := "str") (r := false) (s := false) (by decide +kernel) (by decide +kernel)
  | list _ => exact two (a := "list") (r := true) (s := false) (by decide +kernel) (by decide +kernel)
  | tuple _ => exact two (a := "tuple") (r := false) (s := true) (by decide +kernel) (by decide +kernel)
  | dict _ => exact two (a := "dict") (r := false) (s := false) (by decide +kernel) (by decide +kernel)
def strD : PyData → Option Str
  | .str z => some z
  | _ => none
theorem kit_str {K : PySem.W.Frag} (d : PyData) : PySem.W.kitOne K (.type (tyD d)) (.type "str") = some (strD d).isSome := by
  cases d with
  | none => exact kit_ty (a := "NoneType") (r := false) (by decide +kernel)
  | bool _ => exact kit_ty (a := "bool") (r := false) (by decide +kernel)
  | int _ => exact kit_ty (a := "int") (r := false) (by decide +kernel)
  | str _ => exact kit_ty (a := "str") (r := true) (by decide +kernel)
  | list _ => exact kit_ty (a := "list") (r := false) (by decide +kernel)
  | tuple _ => exact kit_ty (a := "tuple") (r := false) (by decide +kernel)
  | dict _ => exact kit_ty (a := "dict") (r := false) (by decide +kernel)
theorem Dq.strs {H : Hp} : ∀ {xs : List V} {zs : List Str}, DqAll H xs (zs.map PyData.str) → xs = zs.map V.str
  | _, [], h => by cases h; rfl
  | _, z :: zs, h => by
    cases h with
    | cons h1 h2 =>
      cases h1
      rw [Dq.strs h2]
      rfl
theorem dq_strs {H : Hp} : ∀ zs : List Str, DqAll H (zs.map V.str) (zs.map PyData.str)
  | [] => .nil
  | z :: zs => .cons (.str z) (dq_strs zs)
end K1
set_option linter.all false
set_option maxRecDepth 100000
set_option maxHeartbeats 1000000
/-! errors of the program with one field: made, raised, caught, their field read -/
namespace K1
open PySem L2
/-- what the written part says of an error class with one field f, at C, its __init__ at fI -/
structure ErrC (K : PySem.W.Frag) (mg : Str → Option Value) (x f : Str) (C fI : Addr) : Prop where
  g : mg x = some (.ref C)
  oex : OexC K C
  xf : XfC K C
  no : PySem.W.findIn K (.ref C) f = some none
  iC : PySem.W.findIn K (.ref C) "__init__" = some (some (.ref fI))
  tI : PySem.W.typeIn K (.ref fI) = some (.type "function")
  te : PySem.W.exmOne K (.ref C) (.ref C) = some true
def oexB (K : PySem.W.Frag) (C : Addr) : Bool := match K.lookup C with
  | some ⟨.type "type", _, .cls cd, sl⟩ => (match cd.mro, sl.toList with
    | .ref D :: bm, [_, _, _, _, some (.builtin n), _] => D == C && n == "ValueError.__new__" && !cd.hasDel && cd.hasDict && PySem.HandSPX.refsVE bm
    | _, _ => false)
  | _ => false
theorem oexB_ok {K : PySem.W.Frag} {C : Addr} (q : oexB K C = true) : ∃ nm q N bs bm sn sub ab col dd k0 k1 k2 k3 k5, K.lookup C = some (excClassObj nm q C N bs bm true sn sub ab col dd k0 k1 k2 k3 k5 "ValueError.__new__") ∧ PySem.HandSPX.refsVE bm = true := by
  unfold oexB at q
  split at q
  · rename_i dd cd sl look
    split at q
    · rename_i D bm k0 k1 k2 k3 n k5 mro slots
      simp only [Bool.and_eq_true, beq_iff_eq, Bool.not_eq_true'] at q
      obtain ⟨⟨⟨⟨rfl, rfl⟩, q3⟩, q4⟩, q5⟩ := q
      obtain ⟨nm, bs, ms, ns, qn, hd, sn, sub, ab, col, del⟩ := cd
      dsimp only at mro q3 q4
      subst mro q3 q4
      obtain ⟨sll⟩ := sl
      dsimp only at slots
      subst slots
      exact ⟨nm, qn, ns, bs, bm, sn, sub, ab, col, dd, k0, k1, k2, k3, k5, look, q5⟩
    · cases q
  · cases q
/-- the same as a truth over the written part -/
def errB (K : PySem.W.Frag) (f : Str) (C fI : Addr) : Bool := oexB K C && (decide (PySem.W.findIn K (.ref C) "__setattr__" = some (some (.builtin "object.__setattr__"))) && (decide (PySem.W.typeIn K (.ref C) = some (.type "type")) && (PySem.W.keepIn K (.ref C) && (xfB K C &&
  (decide (PySem.W.findIn K (.ref C) f = some none) && (decide (PySem.W.findIn K (.ref C) "__init__" = some (some (.ref fI))) && (decide (PySem.W.typeIn K (.ref fI) = some (.type "function")) && decide (PySem.W.exmOne K (.ref C) (.ref C) = some true))))))))
theorem errB_ok {K : PySem.W.Frag} {mg : Str → Option Value} {x f : Str} {C fI : Addr} (g : mg x = some (.ref C)) (q : errB K f C fI = true) : ErrC K mg x f C fI := by
  unfold errB at q
  simp only [Bool.and_eq_true, decide_eq_true_eq] at q
  obtain ⟨q1, q2, q3, q4, q5, q6, q7, q8, q9⟩ := q
  have xf := xfB_ok q5
  exact ⟨g, ⟨oexB_ok q1, q2, xf.exC, q3, q4⟩, xf, q6, q7, q8, q9⟩
/-- self.f = v on an error that is being made -/
def spErrI (K : PySem.W.Frag) (C : Addr) (f : Str) : Sp := fun vs H Q _ => ∃ (a : Addr) (v : V), vs = [.ref a, v] ∧ H a = some (exo a C none) ∧
  ∀ (d : Addr), H d = none → d ≠ a → Q .non (upd (upd H d (exd d [(f, v)])) a (exo a C (some d)))
/-- what raise X(v) asks: the way out with the error's own new dict -/
theorem err_made {K : PySem.W.Frag} {C : Addr} {f : Str} {v : V} {H1 : Hp} {W : Value → Option Addr → Hp → Prop} (k : ∀ d H', H1 d = none → (∀ b o, H1 b = some o → H' b = some o) → H' d = some (.xd [(f, v)]) → W (.ref C) (some d) H') :
    ∀ a, H1 a = none → spErrI K C f (.ref a :: ([v] ++ [])) (upd H1 a (exo a C none)) (fun u H2 => u = .non ∧ ∃ (d : Addr) (fs : List (Str × V)), H2 a = some (exo a C (some d)) ∧ H2 d = some (exd d fs) ∧ H1 d = none ∧ W (.ref C) (some d) (upd (del H2 a) d (.xd fs))) (fun _ _ _ => False) := by
  intro a na
  refine ⟨a, v, rfl, upd_same, fun d nd ne => ⟨rfl, d, _, upd_same, by rw [upd_ne ne, upd_same], by rw [upd_ne ne] at nd; exact nd, ?_⟩⟩
  have nd1 : H1 d = none := by rw [upd_ne ne] at nd; exact nd
  refine k d _ nd1 (fun b o hb => ?_) upd_same
  have b1 : b ≠ a := ne_of_none hb na
  have b2 : b ≠ d := ne_of_none hb nd1
  rw [upd_ne b2, del_ne b1, upd_ne b1, upd_ne b2, upd_ne b1]
  exact hb
/-- o.m(e, ..), what it lets out taken where it stands -/
def tMethW (C : Addr) (m : Str) (sp : Sp) (E : L2.St → XK) (ta : TE) (t : TA) : TE := fun σ H Q => ta σ H fun x H1 => ∃ a dx fs, x = .ref a ∧ H1 a = some (.ins C dx fs) ∧ fs.lookup m = none ∧ t σ H1 fun vs H2 => sp (x :: vs) H2 Q (E σ)
open PySem.Spec PyProof.Rows in
theorem pe_methW {X : Cx} {CX : CXT} {k : Nat} {C f : Addr} {fd : FuncData} {ps : List Str} {sp : Sp} {m : Str} {o e : Expr} {es : List Expr} {apos pos : Pos} {ta : TE} {t : TA} {E : L2.St → XK} {pl : Sem Bool} (he : PE X o ta) (c : Cls X.K C) (hm : Meth X.K C m f) (F : FnOk X.prog X.w X.K X.mg X.base CX k f fd ps sp) (hr : Room k X.A) (hb : Binds X.K fd ps []) (hx : ∀ σ, PassesAt CX X σ (E σ)) (ha : PA X (e :: es) t)
    (hst : starEach (e :: es) X.env = (false, eval e X.env) :: starEach es X.env := by rfl) (hpl : (backTo pos (starEach es X.env)).any (·.1) = false := by rfl)
    (ht : eval (.Call (.Attribute o m apos) (e :: es) [] pos) X.env = (do
      let ov ← eval o X.env
      standAt apos.atName
      let (f, first) ← holding [ov] (getMethod ov m pl)
      callWith pos f first (backTo pos (starEach (e :: es) X.env)) (backToKw pos (keywordEach [] X.env))) := by rfl) :
    PE X (.Call (.Attribute o m apos) (e :: es) [] pos) (tMethW C m sp E ta t) := by
  refine ⟨fun pins s σ H Q I h => ?_⟩
  refine PySem.W.methodCall_KW (pl := pl) (thn (he.run pins s σ H _ I h) fun u s1 ⟨x, H1, I1, rx, a, dx, fs, ex, ea, l, q⟩ => ?_) ht
  subst ex
  obtain rfl : u = Value.ref a := rx
  refine getmeth_ok I1 ea c hm l ?_
  refine PySem.W.callWith_K (first := [.ref a]) (h₀ := X.base) I.ok.mod.kin hm.kp (thn (ha.run pos pins s1 σ H1 _ I1 q) fun us s2 ⟨vs, H2, I2, r, q2⟩ => ⟨I2.kIn, ?_⟩) hst hpl
  exact run_fnS (us := .ref a :: us) (vs := .ref a :: vs) F hr hb (hx σ) I2 (.cons rfl r) q2
end K1
set_option linter.all false
set_option maxRecDepth 100000
set_option maxHeartbeats 1000000
namespace K1
open PySem L2
/-! ### data that may be blocks of names -/
def strsOf : List PyData → List Str
  | [] => []
  | .str z :: r => z :: strsOf r
  | _ :: r => strsOf r
def nameD (d : PyData) : Bool := match strD d with
  | some z => nameOk z
  | none => false
def areD (d : PyData) : Bool := match seqD d with
  | some ds => ds.all nameD
  | none => false
def namesIn (d : PyData) : List Str := match seqD d with
  | some ds => strsOf ds
  | none => []
theorem are_strs : ∀ {ds : List PyData}, ds.all nameD = true → ds = (strsOf ds).map PyData.str ∧ ∀ z ∈ strsOf ds, nameOk z = true
  | [], _ => ⟨rfl, fun _ h => nomatch h⟩
  | d :: r, h => by
    rw [List.all_cons, Bool.and_eq_true] at h
    obtain ⟨h1, h2⟩ := are_strs h.2
    cases d with
    | str z =>
      refine ⟨?_, fun y hy => ?_⟩
      · show PyData.str z :: r = PyData.str z :: (strsOf r).map PyData.str
        rw [← h1]
      · rcases List.mem_cons.mp hy with rfl | hy
        · exact h.1
        · exact h2 y hy
    | none => cases h.1
    | bool _ => cases h.1
    | int _ => cases h.1
    | list _ => cases h.1
    | tuple _ => cases h.1
    | dict _ => cases h.1
/-- a block whose names has does not have -/
def fitD (has : Str → Bool) (d : PyData) : Bool := areD d && (!(namesIn d).isEmpty && (decide (namesIn d).Nodup && (namesIn d).all fun z => !has z))
structure FitD (has : Str → Bool) (d : PyData) : Prop where
  ds : seqD d = some ((namesIn d).map PyData.str)
  nm : ∀ z ∈ namesIn d, nameOk z = true
  ne : namesIn d ≠ []
  nd : (namesIn d).Nodup
  no : ∀ z ∈ namesIn d, has z = false
theorem are_ds {d : PyData} (h : areD d = true) : seqD d = some ((namesIn d).map PyData.str) ∧ ∀ z ∈ namesIn d, nameOk z = true := by
  unfold areD at h
  unfold namesIn
  split at h
  · rename_i ds e
    rw [e]
    obtain ⟨h1, h2⟩ := are_strs h
    exact ⟨congrArg some h1, h2⟩
  · cases h
theorem fit_of {has : Str → Bool} {d : PyData} (h : fitD has d = true) : FitD has d := by
  unfold fitD at h
  simp only [Bool.and_eq_true, Bool.not_eq_true', decide_eq_true_eq, List.all_eq_true] at h
  obtain ⟨h1, h2, h3, h4⟩ := h
  obtain ⟨e1, e2⟩ := are_ds h1
  exact ⟨e1, e2, (fun e => by rw [e] at h2; exact nomatch h2), h3, h4⟩
/-- its size -/
def Lim (d : PyData) : Prop := ∀ ds, seqD d = some ds → ds.length ≤ 20 ∧ ∀ z, PyData.str z ∈ ds → z.length ≤ 900
theorem strsOf_le : ∀ ds : List PyData, (strsOf ds).length ≤ ds.length
  | [] => Nat.le_refl _
  | d :: r => by
    have := strsOf_le r
    cases d <;> simp only [strsOf, List.length_cons] <;> omega
theorem Lim.few {d : PyData} (h : Lim d) : (namesIn d).length ≤ 20 := by
  unfold namesIn
  split
  · rename_i ds e
    exact Nat.le_trans (strsOf_le ds) (h ds e).1
  · exact Nat.zero_le _
theorem nd_of_len {α : Type} [DecidableEq α] : ∀ {l D : List α}, D.Nodup → (∀ x ∈ D, x ∈ l) → l.length ≤ D.length → l.Nodup
  | [], _, _, _, _ => List.nodup_nil
  | x :: r, D, nd, sub, le => by
    have xr : x ∉ r := fun m => by
      have q := nodup_leK (l := D) (D := r) nd fun y hy => by
        rcases List.mem_cons.mp (sub y hy) with e | e
        · rw [e]; exact m
        · exact e
      rw [List.length_cons] at le
      omega
    refine List.nodup_cons.mpr ⟨xr, nd_of_len (D := D.erase x) (nd.erase x) (fun y hy => ?_) ?_⟩
    · obtain ⟨ne, m⟩ := (List.Nodup.mem_erase_iff nd).mp hy
      rcases List.mem_cons.mp (sub y m) with e | e
      · exact absurd e ne
      · exact e
    · rw [List.length_cons] at le
      have := List.length_erase (a := x) (l := D)
      split at this <;> omega
theorem len_nodup {l D : List Str} {D' : List Key} (nd : D'.Nodup) (m : ∀ k, k ∈ D' ↔ k ∈ l.map Sum.inr) : decide (V.int (D'.length : Nat) = V.int ((l.map V.str).length : Nat)) = decide l.Nodup := by
  have e1 : (l.map (Sum.inr : Str → Key)).length = l.length := List.length_map _
  rw [List.length_map]
  refine decide_eq_decide.mpr ⟨fun e => ?_, fun h => ?_⟩
  · have e2 : D'.length = l.length := by injection e with e; exact Int.ofNat.inj e
    have q : (l.map (Sum.inr : Str → Key)).Nodup := nd_of_len nd (fun x hx => (m x).mp hx) (by omega)
    exact (List.pairwise_map.mp q).imp fun ne e => ne (by rw [e])
  · have := len_of_mem (nodup_inr h) nd m
    rw [this, e1]
def spAreQ : Sp := fun vs H Q _ => ∃ (x : V) (d : PyData), vs = [x] ∧ Dq H x d ∧ Lim d ∧ ∀ H', Same H H' → Q (.bl (areD d)) H'
def spIsBlockQ : Sp := fun vs H Q _ => ∃ (x : V) (d : PyData) (t : Addr) (kvs : List (Key × V)), vs = [x, .ref t] ∧ Dq H x d ∧ H t = some (.dK kvs) ∧ Lim d ∧ ∀ H', Same H H' → Q (.bl (fitD (hasKey kvs) d)) H'
section
variable {P : Program} {w : World} {K : PySem.W.Frag} {mg : Str → Option Value} {base : Heap}
theorem ok_areNq {f fL fI : Addr} {fd fdL fdI : FuncData} (F : Fun K "are_names" "are_names" pAreNames f fd) (GL : FnOk P w K mg base CX0 1 fL fdL ["thing"] (spIsList K)) (gL : mg "is_list" = some (.ref fL)) (kL : PySem.W.keepIn K (.ref fL) = true) (bL : Binds K fdL ["thing"] [])
    (GI : FnOk P w K mg base CX0 1 fI fdI ["thing"] (spIsName K)) (gI : mg "is_name" = some (.ref fI)) (kI : PySem.W.keepIn K (.ref fI) = true) (bI : Binds K fdI ["thing"] []) (ha : mg "all" = none) : FnOk P w K mg base CX0 2 f fd ["thing"] spAreQ := by
  refine F.ok scAN (fun vs H Q E h => ?_) (fun cdv A outer s H vs Q E hr h => ?_)
  · obtain ⟨x, d, rfl, _⟩ := h
    rfl
  · obtain ⟨x, d, rfl, hd, lim, k⟩ := h
    refine ⟨_, pss_one (ps_ret (pe_and (pe_call GL hr (by rfl) gL kL bL .nil pass0 (pa_cons (pv 0) pa_nil)) (pe_one (pe_callB (cr_all rfl) (by rfl) ha (by decide +kernel) (pa_cons (pe_lc (own := [("item", 1)]) (g := gName 1) (tt := tYes) rfl scAN.nd (pi_or (pi_list (pv 0)) (pi_tup (pv 0))) (blkOk_by (N := ["thing", "item"]) (sc := defScope pAreNames) (by decide +kernel))
      (fun _ _ _ _ _ => pg_name (i := 1) scAN.nd rfl (Or.inl rfl)) (fun _ _ _ _ _ => pts_nil) (fun _ _ _ _ _ => pe_call GI hr (by rfl) gI kI bI .nil pass0 (pa_cons (pv 1) pa_nil))) pa_nil))))), ?_⟩
    refine ⟨_, rfl, x, _, _, rfl, hd.ty, kit_seq d, fun H1 s1 => ?_⟩
    unfold areD at k
    cases e : seqD d with
    | none =>
      rw [e] at k
      exact ⟨_, rfl, iteF (k H1 s1)⟩
    | some ds =>
      rw [e] at k
      obtain ⟨t, a, xs, rfl, hA, hs, _⟩ := hd.seq e
      refine ⟨_, rfl, iteT ?_⟩
      refine or_var rfl (s1 _ _ hA) fun J wk D nD => ?_
      have lx := hs.len
      have few := (lim ds e).1
      refine lc_it wk (fun i H9 => H9 D = some (.lst (((ds.take i).map nameD).map V.bl)) ∧ Same H1 H9) ⟨upd_same, same_new nD _⟩ (fun i H9 _ h9 => (s1.trans h9.2) _ _ hA) ?_ ?_
      · rintro i y H9 H9' hi ⟨h9, s9⟩ ⟨rfl, hy⟩
        obtain ⟨e1, he1, dy⟩ := hs.get hy
        have done : ∀ H10, Same H9' H10 → ∃ acc, H10 D = some (.lst acc) ∧ acc.length < sizeLine ∧ upd H10 D (.lst (acc ++ [.bl (nameD e1)])) D = some (.lst (((ds.take (i + 1)).map nameD).map V.bl)) ∧ Same H1 (upd H10 D (.lst (acc ++ [.bl (nameD e1)]))) := fun H10 s10 => by
          refine ⟨_, s10 _ _ h9, ?_, ?_, fun c o hc => ?_⟩
          · rw [List.length_map, List.length_map, List.length_take]
            exact small1000 (by omega)
          · rw [upd_same, List.take_add_one, he1]
            simp only [Option.toList_some, List.map_append, List.map_cons, List.map_nil]
          · rw [upd_ne (ne_of_none hc nD)]
            exact s10 _ _ (s9 _ _ hc)
        refine ⟨rfl, _, rfl, y, _, rfl, ((dy.same s1).same s9).ty, ?_⟩
        cases es : strD e1 with
        | none =>
          refine .inr ⟨by rw [kit_str, es]; rfl, ?_⟩
          have z := done H9' (Same.refl _)
          unfold nameD at z
          rw [es] at z
          exact z
        | some z =>
          have e2 : e1 = .str z := by cases e1 <;> simp [strD] at es ⊢; exact es
          subst e2
          cases dy
          exact .inl ⟨z, rfl, (lim ds e).2 z (List.mem_of_getElem? he1), fun H10 s10 => done H10 s10⟩
      · rintro H9 ⟨h9, s9⟩
        refine ⟨D, _, rfl, SqL.of h9, ?_⟩
        have z := k H9 (s1.trans s9)
        rw [lx, List.take_of_length_le (Nat.le_refl _)]
        have e3 : (ds.map nameD).all id = ds.all nameD := by rw [List.all_map]; rfl
        rw [e3]
        exact z
theorem ok_isBlockQ {f fA : Addr} {fd fdA : FuncData} (F : Fun K "is_block" "is_block" pIsBlock f fd) (GA : FnOk P w K mg base CX0 2 fA fdA ["thing"] spAreQ) (gA : mg "are_names" = some (.ref fA)) (kA : PySem.W.keepIn K (.ref fA) = true) (bA : Binds K fdA ["thing"] []) (T : TxtB mg) : FnOk P w K mg base CX0 3 f fd ["thing", "taken"] spIsBlockQ := by
  refine F.ok scBl (fun vs H Q E h => ?_) (fun cdv A outer s H vs Q E hr h => ?_)
  · obtain ⟨x, d, t, kvs, rfl, _⟩ := h
    rfl
  · obtain ⟨x, d, tk, kvs, rfl, hx, hd, lim, k⟩ := h
    refine ⟨_, pss_cons (ps_if (pw_or (pt_not (pt_val (pe_call GA hr (by rfl) gA kA bA .nil pass0 (pa_cons (pv 0) pa_nil))))
        (pw_or (pt_cmpR op_eq (pe_callB call_len_seq (by rfl) T.len PySem.boot_len (pa_cons (pv 0) pa_nil)) pe_int (nomark _))
          (pw_or1 (pt_cmpR op_ne (pe_callB call_lenX (by rfl) T.len PySem.boot_len (pa_cons (pe_callTy (cr_setX rfl) (by rfl) T.set (by decide +kernel) (pa_cons (pv 0) pa_nil)) pa_nil)) (pe_callB call_len_seq (by rfl) T.len PySem.boot_len (pa_cons (pv 0) pa_nil)) (nomark _))))).pt (pss_one (ps_ret pe_bl)) pss_nil)
      (pss_one (ps_ret (pe_callB (cr_all rfl) (by rfl) T.all (by decide +kernel) (pa_cons (pe_lc (own := [("name", 2)]) (g := gName 2) (tt := tYes) rfl scBl.nd (pi_or (pi_list (pv 0)) (pi_tup (pv 0))) (blkOk_by (N := NBl) (sc := defScope pIsBlock) (by decide +kernel))
        (fun _ _ _ _ _ => pg_name (i := 2) scBl.nd rfl (Or.inl rfl)) (fun _ _ _ _ _ => pts_nil) (fun _ _ _ _ _ => pe_cmp (pc_dnotin (Nat.lt_of_le_of_lt (Nat.add_le_add_left (by decide) _) hr.units) (pv 2) (pv 1)))) pa_nil)))), ?_⟩
    unfold fitD at k
    refine ⟨_, rfl, x, d, rfl, hx, lim, fun H1 s1 => ⟨_, rfl, ?_⟩⟩
    cases ar : areD d with
    | false =>
      rw [ar] at k
      exact iteT (k H1 s1)
    | true =>
      rw [ar] at k
      refine iteF ?_
      obtain ⟨e, nm⟩ := are_ds ar
      obtain ⟨t, a, xs, rfl, hA, hs, _⟩ := hx.seq e
      obtain rfl := Dq.strs hs
      have few := lim.few
      generalize namesIn d = ss at *
      have seq : ∀ {H'}, Same H1 H' → SqL K H' a (ss.map V.str) ∨ SqT K H' a (ss.map V.str) := fun {H'} s => by
        cases t with
        | false => exact .inl (SqL.of (s _ _ (s1 _ _ hA)))
        | true => exact .inr (SqT.of (s _ _ (s1 _ _ hA)))
      refine ⟨_, rfl, a, _, rfl, seq (Same.refl _), rfl, _, rfl, ?_⟩
      by_cases c0 : ss = []
      · subst c0
        exact iteT (k H1 s1)
      · have l0 : (ss.map V.str).length ≠ 0 := by
          rw [List.length_map]
          exact fun e => c0 (List.eq_nil_of_length_eq_zero e)
        have k0 : ss.isEmpty = false := by
          cases ss with
          | nil => exact absurd rfl c0
          | cons _ _ => rfl
        rw [k0] at k
        refine iteDF (fun e => l0 (by injection e with e; exact Int.ofNat.inj e)) ?_
        refine ⟨_, rfl, a, ss.map Sum.inr, rfl, ?_, by rw [List.length_map]; omega, fun st D ns ndD mD => ⟨st, D, rfl, upd_same, _, rfl, a, _, rfl, seq (same_new ns _), rfl, _, rfl, ?_⟩⟩
        · have ek : (ss.map (Sum.inr : Str → Key)).map kV = ss.map V.str := by rw [List.map_map]; rfl
          unfold KeysIn
          rw [ek]
          rcases seq (Same.refl H1) with z | z
          · exact .inl z
          · exact .inr (.inl z)
        have s2 : Same H (upd H1 st (KS w st D)) := s1.trans (same_new ns _)
        have eL := len_nodup (l := ss) (D := ss) ndD mD
        by_cases c1 : ss.Nodup
        · rw [decide_eq_true c1] at eL k
          refine iteNS (of_decide_eq_true eL) ?_
          refine or_var rfl (s2 _ _ hA) fun J wk L nL => ?_
          refine lc_it wk (fun i H9 => H9 L = some (.lst (((ss.take i).map fun z => !hasKey kvs z).map V.bl)) ∧ Same H H9) ⟨upd_same, s2.trans (same_new nL _)⟩ (fun i H9 _ h9 => h9.2 _ _ hA) ?_ ?_
          · rintro i x H9 H9' hi ⟨h9, s9⟩ ⟨rfl, hx'⟩
            rw [List.getElem?_map] at hx'
            obtain ⟨z, hz, rfl⟩ := Option.map_eq_some_iff.mp hx'
            refine ⟨rfl, _, rfl, _, rfl, tk, _, rfl, DGet.k (k := Sum.inr z) (s9 _ _ hd), ?_⟩
            refine ⟨_, h9, ?_, ?_, fun c o hc => ?_⟩
            · rw [List.length_map, List.length_map, List.length_take]
              exact small1000 (by omega)
            · rw [upd_same, List.take_add_one, hz]
              simp only [Option.toList_some, List.map_append, List.map_cons, List.map_nil]
              rfl
            · rw [upd_ne (ne_of_none hc (s2.free nL))]
              exact s9 _ _ hc
          · rintro H9 ⟨h9, s9⟩
            refine ⟨L, _, rfl, SqL.of h9, ?_⟩
            have z := k H9 s9
            rw [List.length_map, List.take_of_length_le (Nat.le_refl _)]
            have e3 : (ss.map fun z => !hasKey kvs z).all id = ss.all fun z => !hasKey kvs z := by rw [List.all_map]; rfl
            rw [e3]
            exact z
        · rw [decide_eq_false c1] at eL k
          have ne := of_decide_eq_false eL
          have z := k _ s2
          rw [decide_eq_false (by exact ne)]
          exact iteT z
end
end K1
set_option linter.all false
set_option maxRecDepth 100000
set_option maxHeartbeats 1000000
namespace K1
open PySem L2
/-- the way out of an error with one field -/
def Raises1 (C : Addr) (f : Str) (H : Hp) (E : XK) (v : V) : Prop := ∀ d H', H d = none → Same H H' → H' d = some (.xd [(f, v)]) → E (.ref C) (some d) H'
theorem Raises1.mono {C : Addr} {f : Str} {H H1 : Hp} {E : XK} {v : V} (h : Raises1 C f H E v) (s : Same H H1) : Raises1 C f H1 E v := fun d H' nd s' e => h d H' (s.free nd) (s.trans s') e
/-- the first that is no block behind those ahead of it -/
def badAt : List Str → List PyData → Option Nat
  | _, [] => none
  | tk, d :: r => if fitD (fun z => decide (z ∈ tk)) d = true then (badAt (tk ++ namesIn d) r).map (· + 1) else some 0
def takenOf (ds : List PyData) : List Str := (ds.map namesIn).flatten
theorem takenOf_snoc (ds : List PyData) (d : PyData) : takenOf (ds ++ [d]) = takenOf ds ++ namesIn d := by
  unfold takenOf
  rw [List.map_append, List.flatten_append]
  simp
theorem bad_turn {ds : List PyData} {i : Nat} {d : PyData} (h : ds[i]? = some d) : badAt (takenOf (ds.take i)) (ds.drop i) = if fitD (fun z => decide (z ∈ takenOf (ds.take i))) d = true then (badAt (takenOf (ds.take (i + 1))) (ds.drop (i + 1))).map (· + 1) else some 0 := by
  have li := (List.getElem?_eq_some_iff.mp h).1
  have ei : ds[i] = d := Option.some.inj ((List.getElem?_eq_getElem li).symm.trans h)
  have e1 : ds.drop i = d :: ds.drop (i + 1) := by rw [List.drop_eq_getElem_cons li, ei]
  have e2 : ds.take (i + 1) = ds.take i ++ [d] := by rw [List.take_add_one, h]; rfl
  rw [e1, e2, takenOf_snoc]
  rfl
/-- no bad one: they make a meeting -/
theorem fitsAll : ∀ {ds : List PyData} {tk : List Str}, badAt tk ds = none → (∀ d ∈ ds, FitD (fun z => decide (z ∈ tk)) d) ∧ (ds.map namesIn).Pairwise fun b c => ∀ z ∈ b, z ∉ c
  | [], _, _ => ⟨(fun _ h => nomatch h), List.Pairwise.nil⟩
  | d :: r, tk, h => by
    unfold badAt at h
    split at h
    · rename_i f
      have h2 : badAt (tk ++ namesIn d) r = none := by
        cases q : badAt (tk ++ namesIn d) r with
        | none => rfl
        | some k => rw [q] at h; cases h
      obtain ⟨g1, g2⟩ := fitsAll h2
      refine ⟨fun e he => ?_, ?_⟩
      · rcases List.mem_cons.mp he with rfl | he
        · exact fit_of f
        · obtain ⟨a, b, c, dd, no⟩ := g1 e he
          exact ⟨a, b, c, dd, fun z hz => decide_eq_false fun m => of_decide_eq_false (no z hz) (List.mem_append_left _ m)⟩
      · rw [List.map_cons]
        refine List.pairwise_cons.mpr ⟨fun c hc z hz m => ?_, g2⟩
        obtain ⟨e, he, rfl⟩ := List.mem_map.mp hc
        exact of_decide_eq_false ((g1 e he).no z m) (List.mem_append_right _ hz)
    · cases h
/-- what is told of the blocks as a whole -/
structure LimB (d : PyData) : Prop where
  few : ∀ ds, seqD d = some ds → ds.length ≤ 20
  low : ∀ ds, seqD d = some ds → ∀ e ∈ ds, Lim e
  tot : ∀ ds, seqD d = some ds → (takenOf ds).length ≤ 60
def badD (d : PyData) : Option Nat := match seqD d with
  | some ds => badAt [] ds
  | none => some 0
def blocksD (d : PyData) : List (List Str) := match seqD d with
  | some ds => ds.map namesIn
  | none => []
theorem good_of {d : PyData} (l : LimB d) (h : badD d = none) : GoodB (blocksD d) := by
  unfold badD at h
  unfold blocksD
  split at h
  · rename_i ds e
    obtain ⟨g1, g2⟩ := fitsAll h
    refine ⟨fun b hb => ?_, fun b hb => ?_, fun b hb => ?_, g2, ?_, fun b hb => ?_, l.tot ds e⟩
    · obtain ⟨e', he, rfl⟩ := List.mem_map.mp hb
      exact (g1 e' he).nm
    · obtain ⟨e', he, rfl⟩ := List.mem_map.mp hb
      exact (g1 e' he).ne
    · obtain ⟨e', he, rfl⟩ := List.mem_map.mp hb
      exact (g1 e' he).nd
    · show (ds.map namesIn).length ≤ 20
      rw [List.length_map]
      exact l.few ds e
    · obtain ⟨e', he, rfl⟩ := List.mem_map.mp hb
      exact (l.low ds e e' he).few
  · cases h
def spAscQ (MC : Addr) : Sp := fun vs H Q E => ∃ (x : V) (d : PyData), vs = [x] ∧ Dq H x d ∧ LimB d ∧ (∀ i, badD d = some i → Raises1 MC "index" H E (.int (i : Nat))) ∧
  (badD d = none → ∀ (t : Addr) (M : TL) (H' : Hp), Same H H' → H t = none → H' t = some (.tup (refT M)) → TuT H' M → rowT M = rowsOf (blocksD d) → Q (.ref t) H')
section
variable {P : Program} {w : World} {K : PySem.W.Frag} {mg : Str → Option Value} {base : Heap} {MC : Addr}
theorem scBMi : FnScope ["self", "index"] ["self", "index"] (defScope cBadMeetingInit) := ⟨rfl, rfl, rfl, by decide +kernel, rfl, by decide +kernel, by decide +kernel⟩
theorem ok_bmi {f : Addr} {fd : FuncData} (F : Fun K "__init__" "BadMeeting.__init__" cBadMeetingInit f fd) (T : OexC K MC) (no : PySem.W.findIn K (.ref MC) "index" = some none) : FnOk P w K mg base CX0 1 f fd ["self", "index"] (spErrI K MC "index") := by
  refine F.ok scBMi (fun vs H Q E h => ?_) (fun cdv A outer s H vs Q E hr h => ?_)
  · obtain ⟨a, v, rfl, _⟩ := h
    rfl
  · obtain ⟨a, v, rfl, ha, q⟩ := h
    exact ⟨_, pss_one (ps_ost (pv 0) (pv 1)), _, rfl, _, rfl, a, MC, rfl, T, no, .inl ⟨ha, fun d nd ne => q d nd ne⟩⟩
/-- between two turns -/
structure AqW (H : Hp) (x : V) (Lb Td : Addr) (ds : List PyData) (i : Nat) (σ : L2.St) (H9 : Hp) : Prop where
  ex : ∃ (M : TL) (kvs : List (Key × V)) (x3 x4 x5 : Option V), σ = [some x, some (.ref Lb), some (.ref Td), x3, x4, x5] ∧ H9 Lb = some (.lst (refT M)) ∧ TuT H9 M ∧ rowT M = ((ds.take i).map namesIn).map (asc ltS) ∧
    H9 Td = some (.dK kvs) ∧ kvs.length ≤ 20 * i ∧ ∀ x, hasKey kvs x = decide (x ∈ takenOf (ds.take i))
  old : Same H H9
  run : badAt [] ds = (badAt (takenOf (ds.take i)) (ds.drop i)).map (· + i)
theorem ok_ascQ {f fL fB fI : Addr} {fd fdL fdB fdI : FuncData} (F : Fun K "ascending_blocks" "ascending_blocks" pAscendingBlocks f fd) (GL : FnOk P w K mg base CX0 1 fL fdL ["thing"] (spIsList K)) (gL : mg "is_list" = some (.ref fL)) (kL : PySem.W.keepIn K (.ref fL) = true) (bL : Binds K fdL ["thing"] [])
    (GB : FnOk P w K mg base CX0 3 fB fdB ["thing", "taken"] spIsBlockQ) (gB : mg "is_block" = some (.ref fB)) (kB : PySem.W.keepIn K (.ref fB) = true) (bB : Binds K fdB ["thing", "taken"] []) (T : TxtB mg)
    (e : ErrC K mg "BadMeeting" "index" MC fI) (GI : FnOk P w K mg base CX0 1 fI fdI ["self", "index"] (spErrI K MC "index")) (bI : Binds K fdI ["self", "index"] []) : FnOk P w K mg base (L2.CX P w) 4 f fd ["things"] (spAscQ MC) := by
  refine F.okX scAb (fun vs H Q E h => ?_) (fun cdv A outer s H vs Q E hr h => ?_)
  · obtain ⟨x, d, rfl, _⟩ := h
    rfl
  · obtain ⟨x, d, rfl, hx, lim, kB1, kG⟩ := h
    have hu := hu_of hr
    refine ⟨_, pss_cons (ps_if (pt_not (pt_val (pe_call GL (hr.mono (by decide)) (by rfl) gL kL bL .nil pass0 (pa_cons (pv 0) pa_nil)))) (pss_one (ps_raise rfl (takes_of rfl rfl rfl rfl) (pmk_oex e.oex e.iC e.tI GI (hr.mono (by decide)) bI .nil pass0 (by rfl) e.g (pa_cons pe_int pa_nil)))) pss_nil)
      (pss_cons (ps_set (i := 1) scAb.nd rfl (.inl rfl) (pe_lst pa_nil))
      (pss_cons (ps_set (i := 2) scAb.nd rfl (.inl rfl) pe_dnewK)
      (pss_cons (ps_for (passes_of rfl) rfl (pi_or (pi_enum (by rfl) T.enum (pa_cons (pv 0) pa_nil)) (pi_enumT (by rfl) T.enum (pa_cons (pv 0) pa_nil))) (pg_tup rfl (pgs_cons (pg_name (i := 3) scAb.nd rfl (Or.inl rfl)) (pgs_cons (pg_name (i := 4) scAb.nd rfl (Or.inl rfl)) pgs_nil)))
        (pss_cons (ps_if (pt_not (pt_val (pe_call GB hr (by rfl) gB kB bB .nil pass0 (pa_cons (pv 4) (pa_cons (pv 2) pa_nil))))) (pss_one (ps_raise rfl (takes_of rfl rfl rfl rfl) (pmk_oex e.oex e.iC e.tI GI (hr.mono (by decide)) bI .nil pass0 (by rfl) e.g (pa_cons (pv 3) pa_nil)))) pss_nil)
        (pss_cons (ps_for (passes_of rfl) rfl (pi_or (pi_list (pv 4)) (pi_tup (pv 4))) (pg_name (i := 5) scAb.nd rfl (Or.inl rfl)) (pss_one (ps_dput hu (pv 2) (pv 5) pe_bl rfl)))
        (pss_one (ps_expr (pe_bm PySem.F.plainAttrs_list PySem.F.slot_list_append PySem.F.type_list_append mt_append (pv 1)
          (pa_cons (pe_callTy call_tuple_of (by rfl) T.tuple (by decide +kernel) (pa_cons (pe_callB (cr_sortedX rfl) (by rfl) T.sorted (by decide +kernel) (pa_cons (pe_callTy (cr_setX rfl) (by rfl) T.set (by decide +kernel) (pa_cons (pv 4) pa_nil)) pa_nil)) pa_nil)) pa_nil)))))))
      (pss_one (ps_ret (pe_callTy call_tuple_of (by rfl) T.tuple (by decide +kernel) (pa_cons (pe_callB (cr_sortedTT rfl) (by rfl) T.sorted (by decide +kernel) (pa_cons (pe_callTy (cr_setTT rfl (Nat.lt_of_le_of_lt (Nat.add_le_add_left (by decide) _) hr.units)) (by rfl) T.set (by decide +kernel) (pa_cons (pv 1) pa_nil)) pa_nil)) pa_nil))))))), ?_⟩
    refine ⟨_, rfl, x, _, _, rfl, hx.ty, kit_seq d, fun H1 s1 => ⟨_, rfl, ?_⟩⟩
    cases eD : seqD d with
    | none =>
      have b0 : badD d = some 0 := by unfold badD; rw [eD]
      exact iteT ⟨Nat.le_of_ble_eq_true rfl, err_made fun d' H' nd' s' hd' => kB1 0 b0 d' H' (s1.free nd') (s1.trans s') hd'⟩
    | some ds =>
      have bD : badD d = badAt [] ds := by unfold badD; rw [eD]
      have blD : blocksD d = ds.map namesIn := by unfold blocksD; rw [eD]
      have good := good_of lim
      have few := lim.few ds eD
      have low := lim.low ds eD
      rw [blD] at good kG
      rw [bD] at good kB1 kG
      obtain ⟨t0, a, xs, rfl, hA, hs, _⟩ := hx.seq eD
      have lx := hs.len
      refine iteF ?_
      refine ⟨sz (Nat.le_of_ble_eq_true rfl), fun Lb nLb => fun Td nTd => ?_⟩
      have s2 := s1.trans (same_new nLb (.lst []))
      have s3 := s2.trans (same_new nTd (.dK []))
      have n1 : H Lb = none := s1.free nLb
      have n2 : H Td = none := s2.free nTd
      have neq : Lb ≠ Td := ne_of_none upd_same nTd
      refine or_enum rfl (s3 _ _ hA) fun J wk => ?_
      refine for_it wk (AqW H (.ref a) Lb Td ds) ⟨⟨[], [], none, none, none, rfl, by rw [upd_ne neq]; exact upd_same, (fun p hp => nomatch hp), rfl, upd_same, Nat.le_refl _, fun x => by simp [hasKey, valV, takenOf]⟩, s3, by simp [takenOf]⟩ (fun i σ H9 _ p => p.old _ _ hA) ?_ ?_
      · rintro i x σ H9 H10 hi ⟨⟨M, kvs, x3, x4, x5, rfl, hLb, hM, eM, hTd, lk, mk⟩, s9, run⟩ ⟨T0, u, v, rfl, nT0, rfl, eu, ev⟩
        obtain ⟨d1, hd1, dv⟩ := hs.get ev
        have mem1 := List.mem_of_getElem? hd1
        have hid : i < ds.length := by omega
        have step := bad_turn hd1
        cases eu
        have s10 : Same H9 (upd H9 T0 (.tup [.int (i : Nat), v])) := same_new nT0 _
        generalize hH10 : upd H9 T0 (.tup [.int (i : Nat), v]) = H10 at s10
        have e10 : H10 T0 = some (.tup [.int (i : Nat), v]) := by rw [← hH10]; exact upd_same
        refine ⟨T0, [.int (i : Nat), v], rfl, SqT.of e10, rfl, _, [v], rfl, v, [], rfl, rfl, ?_⟩
        have dv9 : Dq H10 v d1 := (dv.same s9).same s10
        have ehas : fitD (hasKey kvs) d1 = fitD (fun z => decide (z ∈ takenOf (ds.take i))) d1 := by
          have : hasKey kvs = fun z => decide (z ∈ takenOf (ds.take i)) := funext mk
          rw [this]
        refine ⟨_, rfl, _, rfl, v, d1, Td, kvs, rfl, dv9, s10 _ _ hTd, low d1 mem1, fun H11 s11 => ⟨_, rfl, ?_⟩⟩
        rw [ehas]
        cases cf : fitD (fun z => decide (z ∈ takenOf (ds.take i))) d1 with
        | false =>
          rw [cf] at step
          refine iteT ⟨_, rfl, Nat.le_of_ble_eq_true rfl, err_made fun d' H' nd' s' hd' => ?_⟩
          have bi : badAt [] ds = some i := by rw [run, step]; simp
          have sA := s9.trans (s10.trans s11)
          exact kB1 i bi d' H' (sA.free nd') (sA.trans s') hd'
        | true =>
          rw [cf] at step
          refine iteF ?_
          obtain ⟨fds, fnm, fne, fnd, fno⟩ := fit_of cf
          have lo := (low d1 mem1).few
          obtain ⟨t1, a1, xs1, rfl, hA1, hs1, _⟩ := dv9.seq fds
          obtain rfl := Dq.strs hs1
          generalize eN : namesIn d1 = ss at *
          have sq11 : H11 a1 = some (seqO t1 (ss.map V.str)) := s11 _ _ hA1
          have t9 : Same H9 H11 := s10.trans s11
          have n3 : H1 a1 ≠ none ∨ True := .inr trivial
          refine or_var rfl sq11 fun J2 wk2 => ?_
          have a1Td : a1 ≠ Td := fun e => by
            rw [e, t9 _ _ hTd] at sq11
            cases t1 <;> cases sq11
          have a1Lb : a1 ≠ Lb := fun e => by
            obtain ⟨t2, a2, xs2, e2, hA2, _⟩ := dv.seq fds
            cases e2
            rw [e, n1] at hA2
            cases hA2
          refine for_it wk2 (fun j σ H12 => ∃ kv2 y5, σ = [some (.ref a), some (.ref Lb), some (.ref Td), some (.int (i : Nat)), some (.ref a1), y5] ∧ H12 Td = some (.dK kv2) ∧ kv2.length ≤ 20 * i + j ∧ (∀ x, hasKey kv2 x = true ↔ (hasKey kvs x = true ∨ x ∈ ss.take j)) ∧ ∀ b o, b ≠ Td → H11 b = some o → H12 b = some o)
            ⟨kvs, _, rfl, t9 _ _ hTd, by omega, fun x => by simp, fun _ _ _ h => h⟩ (fun j σ H12 _ q => ?_) ?_ ?_
          · obtain ⟨kv2, y5, _, _, _, _, fr⟩ := q
            exact fr a1 _ a1Td sq11
          · rintro j x σ H12 H13 hj ⟨kv2, y5, rfl, h12, l12, m12, fr⟩ ⟨rfl, hx⟩
            rw [List.getElem?_map] at hx
            obtain ⟨z, hz, rfl⟩ := Option.map_eq_some_iff.mp hx
            have lj : j < ss.length := (List.getElem?_eq_some_iff.mp hz).1
            refine ⟨_, rfl, _, rfl, Td, _, rfl, DPut.k (k := Sum.inr z) h12 (small1000 (by omega)), ?_⟩
            refine ⟨putK kv2 (.inr z) (.bl true), _, rfl, upd_same, Nat.le_trans (length_putK _ _ _) (by omega), fun x => ?_, fun b o nb hb => by rw [upd_ne nb]; exact fr b o nb hb⟩
            rw [hasKey_put, Bool.or_eq_true, decide_eq_true_eq, m12 x, List.take_add_one, hz, List.mem_append]
            simp only [Option.toList_some, List.mem_singleton]
            constructor
            · rintro (e | e | e)
              · exact .inr (.inr e)
              · exact .inl e
              · exact .inr (.inl e)
            · rintro (e | e | e)
              · exact .inr (.inl e)
              · exact .inr (.inr e)
              · exact .inl e
          · rintro σ H12 ⟨kv2, y5, rfl, h12, l12, m12, fr⟩
            rw [List.length_map] at l12 m12
            rw [List.take_length] at m12
            have fL : H12 Lb = some (.lst (refT M)) := fr Lb _ neq (t9 _ _ hLb)
            have fp : H12 a1 = some (seqO t1 (ss.map V.str)) := fr a1 _ a1Td sq11
            have sH : Same H H12 := fun b o hb => fr b o (fun e => by rw [e, n2] at hb; cases hb) (t9 _ _ (s9 _ _ hb))
            have fM : TuT H12 M := fun q hq => fr q.1 _ (fun e => by
              have z := hM q hq
              rw [e, hTd] at z
              cases z) (t9 _ _ (hM q hq))
            refine ⟨_, rfl, .inl ⟨rfl, _, SqL.of fL⟩, _, rfl, a1, ss.map Sum.inr, rfl, ?_, by rw [List.length_map]; omega, fun st D nst ndD mD => ?_⟩
            · have ek : (ss.map (Sum.inr : Str → Key)).map kV = ss.map V.str := by rw [List.map_map]; rfl
              unfold KeysIn
              rw [ek]
              cases t1 with
              | false => exact .inl (SqL.of fp)
              | true => exact .inr (.inl (SqT.of fp))
            obtain ⟨sn, eD', nss, mss⟩ : ∃ sn : List Str, D = sn.map Sum.inr ∧ sn.Nodup ∧ ∀ z, z ∈ sn ↔ z ∈ ss := by
              refine ⟨D.map txK, ?_, ?_, fun z => ?_⟩
              · rw [List.map_map]
                refine (List.map_id D).symm.trans (List.map_congr_left fun k hk => ?_)
                obtain ⟨z, _, e⟩ := List.mem_map.mp ((mD k).mp hk)
                rw [← e]
                rfl
              · refine List.pairwise_map.mpr (List.Pairwise.imp_of_mem (fun {k j} hk hj ne e => ne ?_) ndD)
                obtain ⟨z, _, e1⟩ := List.mem_map.mp ((mD k).mp hk)
                obtain ⟨y, _, e2⟩ := List.mem_map.mp ((mD j).mp hj)
                rw [← e1, ← e2] at e ⊢
                exact congrArg Sum.inr e
              · rw [List.mem_map]
                constructor
                · rintro ⟨k, hk, rfl⟩
                  obtain ⟨y, hy, e⟩ := List.mem_map.mp ((mD k).mp hk)
                  rw [← e]
                  exact hy
                · exact fun h => ⟨.inr z, (mD _).mpr (List.mem_map.mpr ⟨z, h, rfl⟩), rfl⟩
            have lss : sn.length = ss.length := len_of_mem fnd nss mss
            have eA : asc ltS sn = asc ltS ss := asc_mem tot_ltS mss
            have s13 : Same H12 (upd H12 st (KS w st D)) := same_new nst _
            refine ⟨st, D, sn, rfl, upd_same, eD', by omega, fun q nq => ?_⟩
            have s14 := s13.trans (same_new nq (.lst ((asc ltS sn).map V.str)))
            refine ⟨q, _, rfl, .inl ⟨SqL.of upd_same, fun r nr => ?_⟩⟩
            rw [eA] at nr s14 ⊢
            have s15 := s14.trans (same_new nr (.tup ((asc ltS ss).map V.str)))
            have lM : M.length = i := by
              have z := congrArg List.length eM
              rw [rowT_len, List.length_map, List.length_map, List.length_take] at z
              omega
            refine ⟨Lb, _, _, rfl, rfl, s15 _ _ fL, small1000 (by rw [refT_len]; omega), ?_⟩
            have nLr : Lb ≠ r := ne_of_none (s14 _ _ fL) nr
            have et : ds.take (i + 1) = ds.take i ++ [d1] := by rw [List.take_add_one, hd1]; rfl
            refine ⟨⟨M ++ [(r, asc ltS ss)], kv2, some (.int (i : Nat)), some (.ref a1), y5, rfl, ?_, ?_, ?_, ?_, ?_, fun x => ?_⟩, fun b o hb => ?_, ?_⟩
            · rw [upd_same, refT_app]
              rfl
            · intro z hz
              have nz : ∀ {z : Addr × List Str}, z ∈ M → z.1 ≠ Lb := fun {z} hz e => by
                have y := fM z hz
                rw [e, fL] at y
                cases y
              rcases List.mem_append.mp hz with h | h
              · rw [upd_ne (nz h)]
                exact s15 _ _ (fM z h)
              · rw [List.mem_singleton.mp h, upd_ne nLr.symm]
                exact upd_same
            · rw [rowT_app, eM, et, List.map_append, List.map_append]
              simp only [List.map_cons, List.map_nil, eN]
              rfl
            · rw [upd_ne neq.symm]
              exact s15 _ _ h12
            · omega
            · rw [et, takenOf_snoc, eN]
              refine Bool.eq_iff_iff.mpr ?_
              rw [m12 x, mk x, decide_eq_true_eq, decide_eq_true_eq, List.mem_append]
            · rw [upd_ne (ne_of_none hb n1)]
              exact s15 _ _ (sH _ _ hb)
            · rw [run, step, if_pos rfl, Option.map_map]
              cases badAt (takenOf (ds.take (i + 1))) (ds.drop (i + 1)) with
              | none => rfl
              | some k =>
                show some (k + 1 + i) = some (k + (i + 1))
                exact congrArg some (by omega)
      · rintro σ H9 ⟨⟨M, kvs, x3, x4, x5, rfl, hLb, hM, eM, hTd, lk, mk⟩, s9, run⟩
        rw [lx] at eM run
        rw [List.take_length] at eM
        rw [List.drop_length] at run
        have b0 : badAt [] ds = none := run
        have good := good b0
        have kG := kG b0
        have lM : M.length ≤ 20 := by
          have z := congrArg List.length eM
          rw [rowT_len, List.length_map, List.length_map] at z
          omega
        refine ⟨_, rfl, Lb, M, rfl, .inl (SqL.of hLb), hM.at, by omega, fun st N nst sub cov ndN => ?_⟩
        have s10 : Same H9 (upd H9 st (TO P w st N)) := same_new nst _
        have hN : TuT H9 N := fun p hp => hM p (sub p hp)
        have ne0 : ∀ p ∈ N, p.2 ≠ [] := fun p hp e => by
          have m : p.2 ∈ rowT M := List.mem_map.mpr ⟨p, sub p hp, rfl⟩
          rw [eM] at m
          obtain ⟨b, hb, eb⟩ := List.mem_map.mp m
          rw [e] at eb
          have lb := asc_len tot_ltS (good.nd b hb)
          rw [eb] at lb
          exact good.ne b hb (List.eq_nil_of_length_eq_zero lb.symm)
        refine ⟨st, N, rfl, upd_same, (hN.mono s10).at, ne0, fun O q nq pO aO => ?_⟩
        have s11 := s10.trans (same_new nq (.lst (refT O)))
        refine ⟨q, _, rfl, .inl ⟨SqL.of upd_same, fun r nr => ?_⟩⟩
        have s12 := s11.trans (same_new nr (.tup (refT O)))
        refine kG r O _ (s9.trans s12) ((s9.trans s11).free nr) upd_same (TuT.mono (fun p hp => hN p (pO.mem_iff.mp hp)) s12) ?_
        unfold rowsOf
        refine asc_of tot_lexS aO fun b => ?_
        have pr : (rowT O).Perm (rowT N) := by unfold rowT; exact pO.map _
        rw [pr.mem_iff, ← eM]
        constructor
        · intro h
          obtain ⟨p, hp, rfl⟩ := List.mem_map.mp h
          exact List.mem_map.mpr ⟨p, sub p hp, rfl⟩
        · intro h
          obtain ⟨p, hp, rfl⟩ := List.mem_map.mp h
          exact cov p hp
end
end K1
set_option linter.all false
set_option maxRecDepth 100000
set_option maxHeartbeats 1000000
namespace K1
open PySem L2
/-! ### the same thing, with lists and tuples as drawn -/
mutual
/-- tuples throughout -/
def tupd : PyData → PyData
  | .list ds => .tuple (tupds ds)
  | .tuple ds => .tuple (tupds ds)
  | d => d
def tupds : List PyData → List PyData
  | [] => []
  | d :: r => tupd d :: tupds r
end
mutual
/-- how many lists and tuples -/
def cnt : PyData → Nat
  | .list ds => cnts ds + 1
  | .tuple ds => cnts ds + 1
  | _ => 0
def cnts : List PyData → Nat
  | [] => 0
  | d :: r => cnt d + cnts r
end
mutual
def dep : PyData → Nat
  | .list ds => deps ds + 1
  | .tuple ds => deps ds + 1
  | _ => 0
def deps : List PyData → Nat
  | [] => 0
  | d :: r => max (dep d) (deps r)
end
mutual
def wid : PyData → Prop
  | .list ds => ds.length ≤ 900 ∧ wids ds
  | .tuple ds => ds.length ≤ 900 ∧ wids ds
  | _ => True
def wids : List PyData → Prop
  | [] => True
  | d :: r => wid d ∧ wids r
end
theorem tupds_app : ∀ a b, tupds (a ++ b) = tupds a ++ tupds b
  | [], _ => by simp only [tupds, List.nil_append]
  | d :: r, b => by simp only [tupds, List.cons_append, tupds_app r b]
theorem cnts_app : ∀ a b, cnts (a ++ b) = cnts a + cnts b
  | [], _ => by simp only [cnts, List.nil_append, Nat.zero_add]
  | d :: r, b => by simp only [cnts, List.cons_append, cnts_app r b, Nat.add_assoc]
theorem deps_mem : ∀ {ds : List PyData} {d : PyData}, d ∈ ds → dep d ≤ deps ds
  | e :: r, d, h => by
    simp only [deps]
    rcases List.mem_cons.mp h with h | h
    · subst h
      omega
    · have := deps_mem h
      omega
theorem wids_mem : ∀ {ds : List PyData} {d : PyData}, d ∈ ds → wids ds → wid d
  | e :: r, d, h, k => by
    simp only [wids] at k
    rcases List.mem_cons.mp h with h | h
    · subst h
      exact k.1
    · exact wids_mem h k.2
theorem cnts_take {ds : List PyData} {i : Nat} {d : PyData} (h : ds[i]? = some d) : cnts (ds.take (i + 1)) = cnts (ds.take i) + cnt d := by
  rw [List.take_add_one, h, cnts_app]
  simp only [Option.toList_some, cnts, Nat.add_zero]
theorem tupds_take {ds : List PyData} {i : Nat} {d : PyData} (h : ds[i]? = some d) : tupds (ds.take (i + 1)) = tupds (ds.take i) ++ [tupd d] := by
  rw [List.take_add_one, h, tupds_app]
  simp only [Option.toList_some, tupds]
theorem cnts_le (ds : List PyData) (i : Nat) : cnts (ds.take i) ≤ cnts ds := by
  have h := cnts_app (ds.take i) (ds.drop i)
  rw [List.take_append_drop] at h
  omega
theorem tupd_seq (d : PyData) : seqD (tupd d) = (seqD d).map tupds := by cases d <;> simp only [tupd, seqD, Option.map]
theorem tupd_str (d : PyData) : strD (tupd d) = strD d := by cases d <;> simp only [tupd, strD]
theorem seq_dep {d : PyData} {ds : List PyData} (h : seqD d = some ds) : dep d = deps ds + 1 ∧ cnt d = cnts ds + 1 ∧ (wid d → ds.length ≤ 900 ∧ wids ds) ∧ tupd d = .tuple (tupds ds) := by
  cases d with
  | list _ => cases h; exact ⟨by simp only [dep], by simp only [cnt], (fun h => by simpa only [wid] using h), by simp only [tupd]⟩
  | tuple _ => cases h; exact ⟨by simp only [dep], by simp only [cnt], (fun h => by simpa only [wid] using h), by simp only [tupd]⟩
  | none => cases h
  | bool _ => cases h
  | int _ => cases h
  | str _ => cases h
  | dict _ => cases h
/-- what is new -/
def fresh (H H' : Hp) : Hp := fun b => match H b with
  | none => H' b
  | some _ => none
theorem fresh_some {H H' : Hp} {b : Addr} {o : HO} (h : fresh H H' b = some o) : H b = none ∧ H' b = some o := by
  unfold fresh at h
  cases e : H b with
  | none =>
    rw [e] at h
    exact ⟨rfl, h⟩
  | some u =>
    rw [e] at h
    cases h
theorem fresh_of {H H' : Hp} {b : Addr} (h : H b = none) : fresh H H' b = H' b := by
  unfold fresh
  rw [h]
/-- the one, then the other -/
def jn (W F : Hp) : Hp := fun b => match W b with
  | some o => some o
  | none => F b
theorem jn_l {W F : Hp} {b : Addr} {o : HO} (h : W b = some o) : jn W F b = some o := by unfold jn; rw [h]
theorem jn_r {W F : Hp} {b : Addr} (h : W b = none) : jn W F b = F b := by unfold jn; rw [h]
theorem jn_some {W F : Hp} {b : Addr} {o : HO} (h : jn W F b = some o) : W b = some o ∨ (W b = none ∧ F b = some o) := by
  cases e : W b with
  | some u => rw [jn_l e] at h; exact .inl h
  | none => rw [jn_r e] at h; exact .inr ⟨rfl, h⟩
theorem jn_mono {W F G : Hp} (h : ∀ b o, W b = none → F b = some o → G b = some o) : ∀ b o, jn W F b = some o → jn W G b = some o := fun b o e => by
  rcases jn_some e with z | ⟨z, y⟩
  · exact jn_l z
  · rw [jn_r z]; exact h b o z y
def spLooseQ (D : Nat) : Sp := fun vs H Q _ => ∃ (st l : Addr) (cs : List Int) (n : Nat) (v : V) (d : PyData) (W : Hp), vs = [.ref st, v] ∧ dep d ≤ D ∧ wid d ∧ n + cnt d < 900000 ∧ Spr H st l cs n ∧ Dq W v d ∧ (∀ b o, W b = some o → H b = some o ∧ b ≠ st) ∧
  ∀ (v' : V) (d' : PyData) (H' : Hp) (n' : Nat), Dq (jn W (fresh H H')) v' d' → tupd d' = tupd d → Spr H' st l cs n' → n' ≤ n + cnt d → But st H H' → Q v' H'
def spNoL : Sp := fun vs _ _ _ => (∃ a b : V, vs = [a, b]) ∧ False
section
variable {P : Program} {w : World} {K : PySem.W.Frag} {mg : Str → Option Value} {base : Heap}
abbrev NLo : List Str := ["_law_state", "_law_thing", "_law_found", "_law_x"]
theorem scLo : FnScope NLo ["_law_state", "_law_thing"] (defScope sLoose) := ⟨rfl, rfl, rfl, by decide +kernel, rfl, by decide +kernel, by decide +kernel⟩
theorem ok_looseQ {f f1 : Addr} {fd fd1 : FuncData} (D : Nat) (F : Fun K "_law_loose" "_law_loose" sLoose f fd) (g1 : mg "_law_take" = some (.ref f1)) (k1 : PySem.W.keepIn K (.ref f1) = true) (b1 : Binds K fd1 ["_law_state", "_law_many"] []) (G1 : FnOk P w K mg base CX0 1 f1 fd1 ["_law_state", "_law_many"] spTake)
    (g : mg "_law_loose" = some (.ref f)) (bb : Binds K fd ["_law_state", "_law_thing"] []) (hl : mg "list" = none) (ht : mg "tuple" = none) (hi : mg "isinstance" = none)
    (G : FnOk P w K mg base CX0 (D + 1) f fd ["_law_state", "_law_thing"] (match D with | 0 => spNoL | e + 1 => spLooseQ e)) : FnOk P w K mg base CX0 (D + 2) f fd ["_law_state", "_law_thing"] (spLooseQ D) := by
  refine F.ok scLo (fun vs H Q E h => ?_) (fun cdv A outer s H vs Q E hr h => ?_)
  · obtain ⟨st, l, cs, n, v, d, W, rfl, _⟩ := h
    rfl
  · obtain ⟨st, l, cs, n, v, d, W, rfl, hd, hw, hn, S, dq, hW, k⟩ := h
    have r1 : Room 1 _ := hr.mono (by omega)
    refine ⟨_, pss_cons (ps_if (pt_val (pe_callB call_isiT (by rfl) hi (by decide +kernel) (pa_cons (pv 1) (pa_cons (pe_tup (pa_cons (pe_bltn (v := .ty "list") (by rfl) hl (by decide +kernel) rfl) (pa_cons (pe_bltn (v := .ty "tuple") (by rfl) ht (by decide +kernel) rfl) pa_nil))) pa_nil))))
        (pss_cons (ps_setLc (i := 2) (own := [("_law_x", 3)]) (g := gName 3) (tt := tYes) rfl scLo.nd rfl rfl (sw_true rfl rfl rfl rfl) (pi_or (pi_list (pv 1)) (pi_tup (pv 1))) (blkOk_by (N := NLo) (sc := defScope sLoose) (by decide +kernel)) (fun _ _ _ _ _ => pg_name (i := 3) scLo.nd rfl (Or.inl rfl)) (fun _ _ _ _ _ => pts_nil)
          (fun _ _ _ _ _ => pe_call G hr (by rfl) g F.kp bb .nil pass0 (pa_cons (pv 0) (pa_cons (pv 3) pa_nil))))
        (pss_one (ps_ret (pe_ifExp (pt_cmpR op_eq (pe_call G1 r1 (by rfl) g1 k1 b1 .nil pass0 (pa_cons (pv 0) (pa_cons pe_int pa_nil))) pe_int (nomark _)) (pv 2) (pe_callTy call_tuple_of (by rfl) ht (by decide +kernel) (pa_cons (pv 2) pa_nil)))))) pss_nil)
      (pss_one (ps_ret (pv 1))), ?_⟩
    have sW : Same W H := fun b o e => (hW b o e).1
    refine ⟨_, rfl, sz (Nat.le_of_ble_eq_true rfl), fun t m => ⟨_, t, _, _, _, (seqD d).isSome, rfl, upd_same, .cons (.ty _) (.cons (.ty _) .nil), (dq.same (sW.trans (same_new m _))).ty, kit_seq d, _, rfl, ?_⟩⟩
    have s1 := same_new m (.tup [.ty "list", .ty "tuple"])
    cases e : seqD d with
    | none =>
      refine iteF ⟨_, rfl, ?_⟩
      exact k v d _ n (dq.same fun b o z => jn_l z) rfl (S.mono s1) (Nat.le_add_right _ _) (But.of s1)
    | some ds =>
      obtain ⟨e1, e2, e3, e4⟩ := seq_dep e
      obtain ⟨hw1, hw2⟩ := e3 hw
      obtain ⟨t0, a, xs, rfl, hA, hs, _⟩ := dq.seq e
      have lx := hs.len
      obtain ⟨D', rfl⟩ : ∃ e, D = e + 1 := ⟨D - 1, by omega⟩
      refine iteT ?_
      refine or_var rfl (s1 _ _ (sW _ _ hA)) fun J wk D nD => ?_
      have s2 := same_new nD (.lst [])
      have S2 := (S.mono s1).mono s2
      have nDs := (S.mono s1).not nD
      have hD0 : H D = none := s1.free nD
      obtain ⟨_, _, _, _, hstD, _⟩ := S2.ex
      obtain ⟨HD, eD⟩ : ∃ X : Hp, X = upd (upd H t (.tup [.ty "list", .ty "tuple"])) D (.lst []) := ⟨_, rfl⟩
      rw [← eD] at hstD
      have hDD : HD D = some (.lst []) := by
        rw [eD]
        exact upd_same
      have s12 : Same H HD := by
        rw [eD]
        exact s1.trans s2
      have wD : W D = none := by
        cases q : W D with
        | none => rfl
        | some u => rw [(hW D u q).1] at hD0; cases hD0
      refine lc_it wk (fun i H9 => ∃ (acc : List V) (es : List PyData) (n9 : Nat), H9 D = some (.lst acc) ∧ DqAll (jn W (fresh HD H9)) acc es ∧ tupds es = tupds (ds.take i) ∧ Spr H9 st l cs n9 ∧ n9 ≤ n + cnts (ds.take i) ∧ But st H H9 ∧ acc.length = i ∧ (∀ b o, b ≠ st → b ≠ D → HD b = some o → H9 b = some o)) ?_ ?_ ?_ ?_
      · refine ⟨[], [], n, upd_same, .nil, rfl, S2, Nat.le_add_right _ _, But.of (s1.trans s2), rfl, fun b o _ _ h => ?_⟩
        rw [eD] at h
        exact h
      · rintro i H9 _ ⟨acc, es, n9, hD9, dp9, te9, S9, l9, B9, la, kp⟩
        exact B9 _ _ (hW _ _ hA).2 (sW _ _ hA)
      · rintro i x H9 H9' hi ⟨acc, es, n9, hD9, dp9, te9, S9, l9, B9, la, kp⟩ ⟨rfl, hx⟩
        obtain ⟨d1, hd1, dx⟩ := hs.get hx
        have mem := List.mem_of_getElem? hd1
        have w1 := wids_mem mem hw2
        have p1 := deps_mem mem
        have c1 := cnts_take hd1
        have c2 := cnts_le ds (i + 1)
        have ix : i < xs.length := (List.getElem?_eq_some_iff.mp hx).1
        refine ⟨rfl, _, rfl, _, rfl, st, l, cs, n9, x, d1, W, rfl, by omega, w1, by omega, S9, dx, fun b o z => ⟨B9 b o (hW b o z).2 (hW b o z).1, (hW b o z).2⟩, fun v' d' H10 n10 dv tv S10 l10 B10 => ?_⟩
        have hD10 := B10 D _ nDs hD9
        refine ⟨acc, hD10, small1000 (by omega), acc ++ [v'], es ++ [d'], n10, upd_same, ?_, ?_, ?_, by omega, ?_, by rw [List.length_append, la]; rfl, ?_⟩
        · refine DqAll.app (dp9.mono (jn_mono fun b o _ h => ?_)) (.cons (dv.mono (jn_mono fun b o _ h => ?_)) .nil)
          · obtain ⟨h1, h2⟩ := fresh_some h
            have n1 : b ≠ D := fun z => by
              rw [z, hDD] at h1
              cases h1
            have n2 : b ≠ st := fun z => by
              rw [z, hstD] at h1
              cases h1
            rw [fresh_of h1, upd_ne n1]
            exact B10 b o n2 h2
          · obtain ⟨h1, h2⟩ := fresh_some h
            have n1 : b ≠ D := fun z => by
              rw [z, hD9] at h1
              cases h1
            have n2 : HD b = none := by
              cases q : HD b with
              | none => rfl
              | some u =>
                obtain ⟨_, _, _, _, hst9, _⟩ := S9.ex
                have n3 : b ≠ st := fun z => by
                  rw [z, hst9] at h1
                  cases h1
                rw [kp b u n3 n1 q] at h1
                cases h1
            rw [fresh_of n2, upd_ne n1]
            exact h2
        · rw [tupds_app, te9, tupds_take hd1]
          simp only [tupds, tv]
        · exact S10.upd nDs (ne_of_none S.ls hD0).symm
        · intro b o n1 hb
          rw [upd_ne (ne_of_none hb hD0)]
          exact B10 b o n1 (B9 b o n1 hb)
        · intro b o n1 n2 hb
          rw [upd_ne n2]
          exact B10 b o n1 (kp b o n1 n2 hb)
      · rintro H9 ⟨acc, es, n9, hD9, dp9, te9, S9, l9, B9, la, kp⟩
        rw [List.take_of_length_le (by omega)] at te9 l9
        refine ⟨_, rfl, st, l, cs, n9, 2, rfl, by decide, by decide, by omega, S9, fun r H10 r0 r2 S10 hk10 => ⟨rfl, _, rfl, ?_⟩⟩
        have B10 : But st H9 H10 := But.eq hk10
        have hD10 := B10 D _ nDs hD9
        have dp10 : DqAll (jn W (fresh H H10)) acc es := dp9.mono (jn_mono fun b o _ h => by
          obtain ⟨h1, h2⟩ := fresh_some h
          have n2 : b ≠ st := fun z => by
            rw [z, hstD] at h1
            cases h1
          have n3 : H b = none := by
            cases q : H b with
            | none => rfl
            | some u =>
              rw [s12 _ _ q] at h1
              cases h1
          rw [fresh_of n3]
          exact B10 b o n2 h2)
        refine ite2 (fun c => ?_) fun c => ?_
        · refine ⟨_, rfl, k _ (.list es) H10 _ (.lst (by rw [jn_r wD, fresh_of hD0]; exact hD10) dp10) (by rw [e4]; simp only [tupd, te9]) S10 (by omega) (B9.trans B10)⟩
        · refine ⟨_, rfl, D, acc, rfl, .inl ⟨SqL.of hD10, fun t2 m2 => ?_⟩⟩
          have s3 := same_new m2 (.tup acc)
          have ht0 : H t2 = none := (B9.trans B10).free m2 (S10.not m2)
          have wt : W t2 = none := by
            cases q : W t2 with
            | none => rfl
            | some u => rw [(hW t2 u q).1] at ht0; cases ht0
          refine k _ (.tuple es) _ _ (.tup (by rw [jn_r wt, fresh_of ht0]; exact upd_same) (dp10.mono (jn_mono fun b o _ h => ?_))) (by rw [e4]; simp only [tupd, te9]) (S10.mono s3) (by omega) ((B9.trans B10).trans (But.of s3))
          obtain ⟨h1, h2⟩ := fresh_some h
          rw [fresh_of h1]
          exact s3 _ _ h2
theorem ok_looseQD {f f1 : Addr} {fd fd1 : FuncData} (F : Fun K "_law_loose" "_law_loose" sLoose f fd) (g1 : mg "_law_take" = some (.ref f1)) (k1 : PySem.W.keepIn K (.ref f1) = true) (b1 : Binds K fd1 ["_law_state", "_law_many"] []) (G1 : FnOk P w K mg base CX0 1 f1 fd1 ["_law_state", "_law_many"] spTake)
    (g : mg "_law_loose" = some (.ref f)) (bb : Binds K fd ["_law_state", "_law_thing"] []) (hl : mg "list" = none) (ht : mg "tuple" = none) (hi : mg "isinstance" = none) :
    ∀ D : Nat, FnOk P w K mg base CX0 (D + 2) f fd ["_law_state", "_law_thing"] (spLooseQ D)
  | 0 => ok_looseQ 0 F g1 k1 b1 G1 g bb hl ht hi (F.ok scLo (fun vs H Q E h => by obtain ⟨⟨a, b, rfl⟩, _⟩ := h; rfl) (fun cdv A outer s H vs Q E hr h => h.2.elim))
  | D + 1 => ok_looseQ (D + 1) F g1 k1 b1 G1 g bb hl ht hi (ok_looseQD F g1 k1 b1 G1 g bb hl ht hi D)
end
end K1
set_option linter.all false
set_option maxRecDepth 100000
set_option maxHeartbeats 1000000
namespace K1
open PySem L2
/-! ### the law's own blocks and odd things -/
def SS : List Str := nm16 ++ (["A", "abcdefghi", "new", "ab"] : List Str)
def atomB : PyData → Bool
  | .none => true
  | .bool _ => true
  | .int i => decide (i = 5)
  | .str z => decide (z ∈ SS)
  | _ => false
def innB : PyData → Bool
  | .list [.str z] => decide (z ∈ SS)
  | x => atomB x
def okB : PyData → Bool
  | .dict kvs => kvs.isEmpty
  | .list es => decide (es.length ≤ 7) && es.all innB
  | x => atomB x
theorem SS_ok : ∀ z ∈ SS, PyData.strOk z = true ∧ z.length ≤ 900 ∧ (PySem.reprText z).length ≤ 30 := by
  have q : SS.all (fun z => PyData.strOk z && (decide (z.length ≤ 900) && decide ((PySem.reprText z).length ≤ 30))) = true := by decide +kernel
  intro z hz
  have := List.all_eq_true.mp q z hz
  simpa [Bool.and_eq_true] using this
structure AtF (d : PyData) : Prop where
  okd : d.canLay0 = true ∧ d.depth ≤ 1
  seq : ∀ ds, seqD d = some ds → ∃ z ∈ SS, d = .list [.str z] ∧ ds = [.str z]
  sho : PyData.showable d = true
  len : (PyData.shown d).length ≤ 40
  dep : dep d ≤ 1 ∧ cnt d ≤ 1 ∧ wid d
  str : ∀ z, d = .str z → z ∈ SS
theorem atom_facts {d : PyData} (h : atomB d = true) : AtF d := by
  cases d with
  | none => exact ⟨⟨by simp only [PyData.canLay0], by simp only [PyData.depth]; omega⟩, (fun _ e => nomatch e), by simp only [PyData.showable], by simp only [PyData.shown]; decide, ⟨by simp only [dep]; omega, by simp only [cnt]; omega, by simp only [wid]⟩, (fun _ e => nomatch e)⟩
  | bool b => exact ⟨⟨by simp only [PyData.canLay0], by simp only [PyData.depth]; omega⟩, (fun _ e => nomatch e), by simp only [PyData.showable], by simp only [PyData.shown]; cases b <;> decide, ⟨by simp only [dep]; omega, by simp only [cnt]; omega, by simp only [wid]⟩, (fun _ e => nomatch e)⟩
  | int i =>
    have e : i = 5 := by simpa [atomB] using h
    subst e
    exact ⟨⟨by simp only [PyData.canLay0], by simp only [PyData.depth]; omega⟩, (fun _ e => nomatch e), by simp only [PyData.showable]; decide, by simp only [PyData.shown]; decide, ⟨by simp only [dep]; omega, by simp only [cnt]; omega, by simp only [wid]⟩, (fun _ e => nomatch e)⟩
  | str z =>
    have m : z ∈ SS := by simpa [atomB] using h
    obtain ⟨s1, s2, s3⟩ := SS_ok z m
    exact ⟨⟨by simpa only [PyData.canLay0] using s1, by simp only [PyData.depth]; omega⟩, (fun _ e => nomatch e), by simp only [PyData.showable], by simp only [PyData.shown]; omega, ⟨by simp only [dep]; omega, by simp only [cnt]; omega, by simp only [wid]⟩, fun z' e => by cases e; exact m⟩
  | list _ => cases h
  | tuple _ => cases h
  | dict _ => cases h
theorem inn_facts {d : PyData} (h : innB d = true) : AtF d := by
  unfold innB at h
  split at h
  · rename_i z
    have m : z ∈ SS := of_decide_eq_true h
    obtain ⟨s1, s2, s3⟩ := SS_ok z m
    refine ⟨⟨by simp only [PyData.canLay0, PyData.canLayAll0, s1, Bool.and_self], by simp only [PyData.depth, PyData.depthAll]; omega⟩, fun ds e => ⟨z, m, rfl, (Option.some.inj e).symm⟩, by simp only [PyData.showable, PyData.showableAll, Bool.and_self], ?_, ⟨by simp only [dep, deps]; omega, by simp only [cnt, cnts]; omega, by simp only [wid, wids, List.length_cons, List.length_nil]; exact ⟨by omega, trivial, trivial⟩⟩, fun z' e => nomatch e⟩
    simp only [PyData.shown, PyData.shownAll]
    show (PySem.textFrom 0 "[" [PySem.reprText z] ++ "]").length ≤ 40
    have e : (PySem.textFrom 0 "[" [PySem.reprText z]) = (("[" : Str) ++ ("" : Str)) ++ PySem.reprText z := rfl
    rw [e, strLen_append, strLen_append, strLen_append]
    have a1 : (("[" : Str)).length = 1 := rfl
    have a2 : (("" : Str)).length = 0 := rfl
    have a3 : (("]" : Str)).length = 1 := rfl
    omega
  · exact atom_facts h
theorem piled_le : ∀ {ts : List Str} {n : Nat}, (∀ t ∈ ts, t.length ≤ n) → piled ts ≤ ts.length * (n + 2)
  | [], _, _ => by simp [piled]
  | t :: r, n, h => by
    have h1 := h t (.head _)
    have h2 := piled_le (ts := r) (n := n) fun x hx => h x (.tail _ hx)
    have e : piled (t :: r) = t.length + 2 + piled r := by simp [piled]
    rw [e, List.length_cons, Nat.add_mul, Nat.one_mul]
    omega
theorem listText_le {ts : List Str} {n : Nat} (h : ∀ t ∈ ts, t.length ≤ n) : (listText ts).length ≤ ts.length * (n + 2) + 4 := by
  have p := piled_le h
  cases ts with
  | nil => show (listText []).length ≤ _; rw [listText_nil]; have : (("[]" : Str)).length = 2 := rfl; omega
  | cons t r =>
    show (textFrom 1 (("[" : Str) ++ ("" : Str) ++ t) r ++ "]").length ≤ _
    rw [strLen_append, textFrom_length_pos r 1 _ (by decide), strLen_append, strLen_append]
    have a1 : (("[" : Str)).length = 1 := rfl
    have a2 : (("" : Str)).length = 0 := rfl
    have a3 : (("]" : Str)).length = 1 := rfl
    have e : piled (t :: r) = t.length + 2 + piled r := by simp [piled]
    omega
theorem tupleText_le {ts : List Str} {n : Nat} (h : ∀ t ∈ ts, t.length ≤ n) : (tupleText ts).length ≤ ts.length * (n + 2) + 4 := by
  have p := piled_le h
  unfold tupleText
  rw [strLen_append, strLen_append]
  have a1 : (("(" : Str)).length = 1 := rfl
  have a2 : ((if ts.length == 1 then ",)" else ")" : String) : Str).length ≤ 2 := by split <;> decide
  by_cases e : ts = []
  · subst e
    have : (Str.join ", " []).length = 0 := rfl
    omega
  · have j := join_length_add ts e
    omega
end K1
set_option linter.all false
set_option maxRecDepth 100000
set_option maxHeartbeats 1000000
namespace K1
open PySem L2
theorem code_nil : CodeOk [] 0 := fun v => ⟨fun h => (nomatch h), fun h => absurd h (Nat.not_lt_zero _)⟩
theorem code_snoc {c : List Nat} {k r : Nat} (h : CodeOk c k) (hr : r ≤ k) : ∃ k', CodeOk (c ++ [r]) k' := by
  rcases Nat.lt_or_ge r k with l | l
  · refine ⟨k, fun v => ?_⟩
    rw [List.mem_append, h v, List.mem_singleton]
    omega
  · refine ⟨k + 1, fun v => ?_⟩
    rw [List.mem_append, h v, List.mem_singleton]
    omega
theorem code_kept {J F M : List Nat} (nd : M.Nodup) (mem : ∀ z, z ∈ M ↔ z ∈ J) (l : F.length = J.length) (h : ∀ (i z : Nat), J[i]? = some z → ∃ j : Nat, F[i]? = some j ∧ M[j]? = some z) : CodeOk F M.length := by
  intro v
  constructor
  · intro hv
    obtain ⟨i, hi, rfl⟩ := List.getElem_of_mem hv
    obtain ⟨j, e1, e2⟩ := h i _ (List.getElem?_eq_getElem (by omega))
    rw [List.getElem?_eq_getElem hi] at e1
    cases e1
    exact (List.getElem?_eq_some_iff.mp e2).1
  · intro hv
    obtain ⟨i, hi, e⟩ := List.getElem_of_mem ((mem _).mp (List.getElem_mem hv))
    obtain ⟨j, e1, e2⟩ := h i _ (by rw [List.getElem?_eq_getElem hi])
    obtain ⟨lj, e3⟩ := List.getElem?_eq_some_iff.mp e2
    have ij : j = v := (List.getElem_inj nd).mp (e3.trans e)
    subst ij
    exact List.mem_of_getElem? e1
theorem codeV_snoc (c : List Nat) (r : Nat) : codeV c ++ [V.int (r : Nat)] = codeV (c ++ [r]) := by
  unfold codeV
  rw [List.map_append]
  rfl
theorem codeV_len (c : List Nat) : (codeV c).length = c.length := List.length_map ..
theorem codeV_get {c : List Nat} {i : Nat} {x : V} (h : (codeV c)[i]? = some x) : ∃ n : Nat, c[i]? = some n ∧ x = .int (n : Nat) := by
  rw [codeV, List.getElem?_map] at h
  obtain ⟨n, hn, rfl⟩ := Option.map_eq_some_iff.mp h
  exact ⟨n, hn, rfl⟩
theorem codeV_mem {c : List Nat} {x : V} (h : x ∈ codeV c) : ∃ n : Nat, n ∈ c ∧ x = .int (n : Nat) := by
  obtain ⟨n, hn, rfl⟩ := List.mem_map.mp h
  exact ⟨n, hn, rfl⟩
theorem codeV_flat (c : List Nat) : (codeV c).all flatV = true := by
  rw [codeV, List.all_map, List.all_eq_true]
  intro n _
  rfl
theorem inV_code (z : Nat) (c : List Nat) : inV (.int (z : Nat)) (codeV c) = decide (z ∈ c) := by
  unfold inV codeV
  rw [List.any_map]
  induction c with
  | nil => simp
  | cons a r ih =>
    rw [List.any_cons, ih]
    have e : (fun y => eqV y (V.int (z : Nat))) (V.int (a : Nat)) = decide (a = z) := by
      show eqV (V.int (a : Nat)) (V.int (z : Nat)) = decide (a = z)
      unfold eqV
      exact decide_eq_decide.mpr ⟨fun h => by omega, fun h => by omega⟩
    show ((fun y => eqV y (V.int (z : Nat))) (V.int (a : Nat)) || _) = _
    rw [e]
    by_cases q : a = z
    · simp [q]
    · have q2 : ¬ z = a := fun h => q h.symm
      simp [q, q2]
theorem cut_code (c : List Nat) (j : Nat) : cutV (codeV c) none (some ((j : Nat) : Int)) = codeV (c.take j) := by
  unfold cutV codeV
  rw [HT.sIx_none, HT.sIx_nat, List.drop_zero, List.length_map, Nat.sub_zero, ← List.map_take]
  congr 1
  rcases Nat.le_total j c.length with h | h
  · rw [Nat.min_eq_left h]
  · rw [Nat.min_eq_right h, List.take_of_length_le (Nat.le_refl _), List.take_of_length_le h]
/-- the codes so far -/
abbrev CL := List (Addr × List Nat)
def refC (L : CL) : List V := L.map fun p => V.ref p.1
theorem refC_get {L : CL} {j : Nat} {x : V} (h : (refC L)[j]? = some x) : ∃ p, L[j]? = some p ∧ x = .ref p.1 := by
  rw [refC, List.getElem?_map] at h
  obtain ⟨p, hp, rfl⟩ := Option.map_eq_some_iff.mp h
  exact ⟨p, hp, rfl⟩
theorem refC_len (L : CL) : (refC L).length = L.length := List.length_map ..
def CdOk (H : Hp) (L : CL) (m : Nat) : Prop := ∀ p ∈ L, H p.1 = some (.tup (codeV p.2)) ∧ (∃ k, CodeOk p.2 k) ∧ p.2.length = m
theorem CdOk.mono {H H' : Hp} {L : CL} {m : Nat} (h : CdOk H L m) (s : Same H H') : CdOk H' L m := fun p hp => ⟨s _ _ (h p hp).1, (h p hp).2⟩
theorem CdOk.but {H H' : Hp} {L : CL} {m : Nat} {st l : Addr} {cs : List Int} {n : Nat} (h : CdOk H L m) (S : Spr H st l cs n) (b : But st H H') : CdOk H' L m := fun p hp => ⟨b _ _ (S.no (h p hp).1 fun _ z => by cases z) (h p hp).1, (h p hp).2⟩
theorem any_dS (ss : List (List Str)) (k : List Str) : ((ss.map dS).any fun z => PyData.eqv z (dS k)) = decide (k ∈ ss) := by
  induction ss with
  | nil => simp
  | cons a r ih =>
    rw [List.map_cons, List.any_cons, ih, eqv_dS]
    by_cases e : a = k
    · simp [e]
    · have e2 : ¬ k = a := fun h => e h.symm
      simp [e, e2]
theorem mmake_to {C p : Addr} {B : TL} {H1 : Hp} {W : Addr → Hp → Prop} {E : XK} (hp : H1 p = some (.lst (refT B))) (hB : LiT H1 B) (g : GoodB (rowT B))
    (k : ∀ (x : Addr) (H' : Hp), Same H1 H' → H1 x = none → MeetAt C H' x (rowsOf (rowT B)) → W x H') :
    ∀ x dx, H1 x = none → H1 dx = none → dx ≠ x → spMInit C (.ref x :: ([.ref p] ++ [])) (upd (upd H1 dx (.own x)) x (.ins C dx [])) (fun v H2 => v = .non ∧ W x H2) E := by
  intro x dx nx nd ne
  have s : Same H1 (upd (upd H1 dx (.own x)) x (.ins C dx [])) := fun b o hb => by rw [upd_ne (ne_of_none hb nx), upd_ne (ne_of_none hb nd)]; exact hb
  exact ⟨x, p, dx, B, rfl, upd_same, s _ _ hp, fun q hq => s _ _ (hB q hq), g, fun H' b m => ⟨rfl, k x H' (Same.made nx nd fun z o hz ne' => b z o ne' hz) nx m⟩⟩
end K1
set_option linter.all false
set_option maxRecDepth 100000
set_option maxHeartbeats 1000000
namespace K1
open PySem L2
/-- z in [texts] -/
def rInZ : R2 := fun x y H Q => ∃ (p : Addr) (t : Bool) (z : Str) (zs : List Str), x = .str z ∧ y = .ref p ∧ H p = some (seqO t (zs.map V.str)) ∧ Q (.bl (decide (z ∈ zs))) H
theorem inV_strs (z : Str) (ss : List Str) : inV (.str z) (ss.map V.str) = decide (z ∈ ss) := by
  unfold inV
  rw [List.any_map]
  induction ss with
  | nil => simp
  | cons a r ih =>
    rw [List.any_cons, ih]
    have e : ((fun y => eqV y (V.str z)) ∘ V.str) a = decide (a = z) := by
      show eqV (V.str a) (V.str z) = decide (a = z)
      unfold eqV
      by_cases q : a = z
      · subst q
        simp
      · simp [q]
    rw [e]
    by_cases q : a = z
    · simp [q]
    · have q2 : ¬ z = a := fun h => q h.symm
      simp [q, q2]
theorem op_inZ {X : Cx} : OpR X (compareOp .In) rInZ := by
  intro pins s σ H x y v u Q I rx ry h
  obtain ⟨p, t, z, zs, rfl, rfl, hp, q⟩ := h
  refine op_in_seq pins s σ H _ _ v u Q I rx ry ⟨p, zs.map V.str, rfl, ?_, rfl, ?_, ?_⟩
  · cases t with
    | false => exact .inl (SqL.of hp)
    | true => exact .inr (SqT.of hp)
  · rw [List.all_map, List.all_eq_true]
    intro _ _
    rfl
  · show Q (.bl (inV (.str z) (zs.map V.str))) H
    rw [inV_strs]
    exact q
def spIsNameL : Sp := fun vs H Q _ => ∃ (v : V) (d : PyData), vs = [v] ∧ Dq H v d ∧ (∀ z, d = .str z → z.length ≤ 900) ∧ ∀ H', Same H H' → Q (.bl (nameD d)) H'
def spDrawn : Sp := fun vs H Q _ => ∃ (st l : Addr) (cs : List Int) (n m : Nat), vs = [.ref st, .int (m : Nat)] ∧ m ≤ 7 ∧ n < 900000 ∧ Spr H st l cs n ∧
  ∀ (t : Addr) (c : List Nat) (k : Nat) (H' : Hp), But st H H' → H' t = some (.tup (codeV c)) → CodeOk c k → c.length = m → Spr H' st l cs (n + m) → Q (.ref t) H'
def spFitsL : Sp := fun vs H Q _ => ∃ (v : V) (d : PyData) (kn : Addr) (ks : List Str), vs = [v, .ref kn] ∧ Dq H v d ∧ Lim d ∧ H kn = some (.lst (ks.map V.str)) ∧ ∀ H', Same H H' → Q (.bl (fitD (fun z => decide (z ∈ ks)) d)) H'
structure TxtN (mg : Str → Option Value) : Prop where
  len : mg "len" = none
  set : mg "set" = none
  all : mg "all" = none
  any : mg "any" = none
  isi : mg "isinstance" = none
  str : mg "str" = none
  list : mg "list" = none
  tuple : mg "tuple" = none
  range : mg "range" = none
section
variable {P : Program} {w : World} {K : PySem.W.Frag} {mg : Str → Option Value} {base : Heap}
abbrev NIsN : List Str := ["_law_x", "_law_sign"]
theorem scIsN : FnScope NIsN ["_law_x"] (defScope sIsName) := ⟨rfl, rfl, rfl, by decide +kernel, rfl, by decide +kernel, by decide +kernel⟩
theorem ok_isNameL {f : Addr} {fd : FuncData} (F : Fun K "_law_is_name" "_law_is_name" sIsName f fd) (T : TxtN mg) : FnOk P w K mg base CX0 1 f fd ["_law_x"] spIsNameL := by
  refine F.ok scIsN (fun vs H Q E h => ?_) (fun cdv A outer s H vs Q E hr h => ?_)
  · obtain ⟨v, d, rfl, _⟩ := h
    rfl
  · obtain ⟨v, d, rfl, hd, hz, k⟩ := h
    refine ⟨_, pss_cons (ps_if (pw_or (pt_not (pt_val (pe_callB call_isi (by rfl) T.isi (by decide +kernel) (pa_cons (pv 0) (pa_cons (pe_bltn (v := .ty "str") (by rfl) T.str (by decide +kernel) rfl) pa_nil)))))
        (pw_or (pt_cmpR op_lt (pe_callB call_len_str (by rfl) T.len PySem.boot_len (pa_cons (pv 0) pa_nil)) pe_int (nomark _))
        (pw_or1 (pt_cmpR op_gt (pe_callB call_len_str (by rfl) T.len PySem.boot_len (pa_cons (pv 0) pa_nil)) pe_int (nomark _))))).pt (pss_one (ps_ret pe_bl)) pss_nil)
      (pss_one (ps_ret (pe_callB (cr_all rfl) (by rfl) T.all (by decide +kernel) (pa_cons (pe_lc (own := [("_law_sign", 1)]) (g := gName 1) (tt := tYes) rfl scIsN.nd (pi_str (pv 0)) (blkOk_by (N := NIsN) (sc := defScope sIsName) (by decide +kernel)) (fun _ _ _ _ _ => pg_name (i := 1) scIsN.nd rfl (Or.inl rfl)) (fun _ _ _ _ _ => pts_nil)
        (fun _ _ _ _ _ => pe_cmpR op_inS (pv 1) pe_str rfl)) pa_nil)))), ?_⟩
    refine ⟨_, rfl, v, _, _, _, _, rfl, .ty _, hd.ty, kit_str d, _, rfl, ?_⟩
    unfold nameD at k
    cases es : strD d with
    | none =>
      rw [es] at k
      exact iteT (k H (Same.refl H))
    | some z =>
      rw [es] at k
      have e2 : d = .str z := by cases d <;> simp [strD] at es ⊢; exact es
      subst e2
      cases hd
      have hz := hz z rfl
      have k : ∀ H', Same H H' → Q (.bl (nameOk z)) H' := k
      refine iteF ?_
      refine ⟨_, rfl, z, rfl, Nat.le_of_lt (small1000 (by omega)), _, _, rfl, rfl, _, rfl, ite2 (fun c1 => ?_) fun c1 => ?_⟩
      · have c1 := of_decide_eq_true c1
        have e : nameOk z = false := by
          unfold nameOk
          rw [decide_eq_false (by omega), Bool.false_and, Bool.false_and]
        have q := k H (Same.refl H)
        rw [e] at q
        exact iteT q
      · have c1 : ¬ ((z.length : Int) < 1) := fun q => c1 (decide_eq_true q)
        refine ⟨_, rfl, z, rfl, Nat.le_of_lt (small1000 (by omega)), _, _, rfl, rfl, _, rfl, ite2 (fun c2 => ?_) fun c2 => ?_⟩
        · have c2 : (8 : Int) < (z.length : Int) := of_decide_eq_true c2
          have e : nameOk z = false := by
            unfold nameOk
            rw [decide_eq_true (by omega), decide_eq_false (by omega), Bool.and_false, Bool.false_and]
          have q := k H (Same.refl H)
          rw [e] at q
          exact q
        · have c2 : ¬ ((8 : Int) < (z.length : Int)) := fun q => c2 (decide_eq_true q)
          refine ⟨_, rfl, z, rfl, fun D nD => ?_⟩
          refine lc_it walk_str (fun i H9 => H9 D = some (.lst (((z.cps.toList.take i).map fun c => decide (c ∈ abc.cps.toList)).map V.bl)) ∧ Same H H9) ⟨upd_same, same_new nD _⟩ (fun _ _ _ _ => trivial) ?_ ?_
          · rintro i x H9 H10 hi ⟨h9, s9⟩ ⟨rfl, c, hc, rfl⟩
            refine ⟨rfl, _, rfl, c, abc, rfl, rfl, _, h9, ?_, ?_, ?_⟩
            · rw [List.length_map, List.length_map, List.length_take]
              have hz2 : z.cps.size ≤ 900 := hz
              exact small1000 (by omega)
            · have e : z.cps.toList[i]? = some c := by simpa using hc
              rw [upd_same, List.take_add_one, e]
              simp only [Option.toList_some, List.map_append, List.map_cons, List.map_nil]
            · intro b o hb
              rw [upd_ne (ne_of_none hb nD)]
              exact s9 b o hb
          · rintro H9 ⟨h9, s9⟩
            refine ⟨D, _, rfl, SqL.of h9, ?_⟩
            have e := k H9 s9
            have eq : nameOk z = ((z.cps.toList.take z.cps.size).map fun c => decide (c ∈ abc.cps.toList)).all id := by
              unfold nameOk
              rw [decide_eq_true (by omega), decide_eq_true (by omega), Bool.true_and, Bool.true_and, List.take_of_length_le (by simp), List.all_map]
              rfl
            rw [eq] at e
            exact e
abbrev NDr : List Str := ["_law_state", "_law_many", "_law_found", "_law_k"]
theorem scDr : FnScope NDr ["_law_state", "_law_many"] (defScope sDrawnCode) := ⟨rfl, rfl, rfl, by decide +kernel, rfl, by decide +kernel, by decide +kernel⟩
theorem ok_drawn {f fT : Addr} {fd fdT : FuncData} (F : Fun K "_law_drawn_code" "_law_drawn_code" sDrawnCode f fd) (T : TxtN mg) (gT : mg "_law_take" = some (.ref fT)) (kT : PySem.W.keepIn K (.ref fT) = true) (bT : Binds K fdT ["_law_state", "_law_many"] []) (GT : FnOk P w K mg base CX0 1 fT fdT ["_law_state", "_law_many"] spTake) :
    FnOk P w K mg base CX0 2 f fd ["_law_state", "_law_many"] spDrawn := by
  refine F.ok scDr (fun vs H Q E h => ?_) (fun cdv A outer s H vs Q E hr h => ?_)
  · obtain ⟨st, l, cs, n, m, rfl, _⟩ := h
    rfl
  · obtain ⟨st, l, cs, n, m, rfl, hm, hn, S, k⟩ := h
    refine ⟨_, pss_cons (ps_set (i := 2) scDr.nd rfl (.inl rfl) (pe_tup pa_nil))
      (pss_cons (ps_for PassesOwn.never rfl (pi_range1 (by rfl) T.range (pa_cons (pv 1) pa_nil)) (pg_name (i := 3) scDr.nd rfl (Or.inl rfl))
        (pss_one (ps_set (i := 2) scDr.nd rfl (.inl rfl) (pe_op (op_catN (K := K)) (pv 2) (pe_tup (pa_cons (pe_call GT hr (by rfl) gT kT bT .nil pass0 (pa_cons (pv 0) (pa_cons (pe_op op_add (pe_callB call_lenX (by rfl) T.len PySem.boot_len (pa_cons (pe_callTy (cr_setX rfl) (by rfl) T.set (by decide +kernel) (pa_cons (pv 2) pa_nil)) pa_nil)) pe_int) pa_nil))) pa_nil))))))
      (pss_one (ps_ret (pv 2)))), ?_⟩
    refine ⟨sz (Nat.zero_le _), fun tc ntc => ?_⟩
    have sc := same_new ntc (.tup [])
    refine ⟨_, rfl, (m : Nat), rfl, by omega, by omega, ?_⟩
    refine for_range (n := m) (fun j σ H5 => ∃ (D : Addr) (c : List Nat) (v5 : Option V), σ = [some (.ref st), some (.int (m : Nat)), some (.ref D), v5] ∧
      H5 D = some (.tup (codeV c)) ∧ (∃ k, CodeOk c k) ∧ c.length = j ∧ Spr H5 st l cs (n + j) ∧ But st H H5)
      ⟨tc, [], _, rfl, upd_same, ⟨0, code_nil⟩, rfl, S.mono sc, But.of sc⟩ ?_ ?_
    · rintro j σ H5 hj ⟨D, c', v5, rfl, hD, ⟨k', ck⟩, lc, S5, b5⟩
      have kl := code_le ck
      refine ⟨_, rfl, _, rfl, _, rfl, D, c'.map cK, rfl, .inr (.inl (SqT.of (by rw [codeV_keys]; exact hD))), by rw [List.length_map]; omega, fun s1 Ds ns1 ndD mD => ⟨s1, Ds, rfl, upd_same, ?_⟩⟩
      have eL : Ds.length = k' := len_code ck ndD mD
      rw [eL]
      generalize KS _ s1 Ds = KO
      have t1 := same_new ns1 KO
      refine ⟨_, _, rfl, rfl, st, l, cs, _, _, rfl, by omega, by omega, by omega, S5.mono t1, fun r H11 r0 r1' S11 hk11 => ?_⟩
      have b11 : But st H5 H11 := (But.of t1).trans (But.eq hk11)
      refine ⟨sz (Nat.le_of_ble_eq_true rfl), fun tp ntp => ?_⟩
      have t2 := same_new ntp (.tup [.int r])
      have b12 := b11.trans (But.of t2)
      refine ⟨D, tp, codeV c', [.int r], rfl, rfl, SqT.of (b12 _ _ (S5.no hD fun _ z => by cases z) hD), upd_same, by simp, sz (by rw [codeV_len]; simp; omega), fun t H12 ht nt s12 => ?_⟩
      have er : r = (r.toNat : Nat) := by omega
      exact ⟨t, c' ++ [r.toNat], _, rfl, by rw [ht, ← codeV_snoc, ← er], code_snoc ck (by omega), by rw [List.length_append, lc]; rfl, (S11.mono t2).mono s12, b5.trans (b12.trans (But.of s12))⟩
    · rintro σ H5 ⟨D, c', v5, rfl, hD, ⟨k', ck⟩, lc, S5, b5⟩
      exact ⟨_, rfl, k D c' k' H5 b5 hD ck lc S5⟩
abbrev NFi : List Str := ["_law_block", "_law_known", "_law_x"]
theorem scFi : FnScope NFi ["_law_block", "_law_known"] (defScope sFits) := ⟨rfl, rfl, rfl, by decide +kernel, rfl, by decide +kernel, by decide +kernel⟩
theorem ok_fitsL {f fI : Addr} {fd fdI : FuncData} (F : Fun K "_law_fits" "_law_fits" sFits f fd) (T : TxtN mg) (gI : mg "_law_is_name" = some (.ref fI)) (kI : PySem.W.keepIn K (.ref fI) = true) (bI : Binds K fdI ["_law_x"] []) (GI : FnOk P w K mg base CX0 1 fI fdI ["_law_x"] spIsNameL) :
    FnOk P w K mg base CX0 2 f fd ["_law_block", "_law_known"] spFitsL := by
  refine F.ok scFi (fun vs H Q E h => ?_) (fun cdv A outer s H vs Q E hr h => ?_)
  · obtain ⟨v, d, kn, ks, rfl, _⟩ := h
    rfl
  · obtain ⟨v, d, kn, ks, rfl, hx, lim, hkn, k⟩ := h
    refine ⟨_, pss_cons (ps_if (pw_or (pt_not (pt_val (pe_callB call_isiT (by rfl) T.isi (by decide +kernel) (pa_cons (pv 0) (pa_cons (pe_tup (pa_cons (pe_bltn (v := .ty "list") (by rfl) T.list (by decide +kernel) rfl) (pa_cons (pe_bltn (v := .ty "tuple") (by rfl) T.tuple (by decide +kernel) rfl) pa_nil))) pa_nil)))))
        (pw_or (pt_cmpR op_eq (pe_callB call_len_seq (by rfl) T.len PySem.boot_len (pa_cons (pv 0) pa_nil)) pe_int (nomark _))
          (pw_or1 (pt_not (pt_val (pe_callB (cr_all rfl) (by rfl) T.all (by decide +kernel) (pa_cons (pe_lc (own := [("_law_x", 2)]) (g := gName 2) (tt := tYes) rfl scFi.nd (pi_or (pi_list (pv 0)) (pi_tup (pv 0))) (blkOk_by (N := NFi) (sc := defScope sFits) (by decide +kernel))
            (fun _ _ _ _ _ => pg_name (i := 2) scFi.nd rfl (Or.inl rfl)) (fun _ _ _ _ _ => pts_nil) (fun _ _ _ _ _ => pe_call GI hr (by rfl) gI kI bI .nil pass0 (pa_cons (pv 2) pa_nil))) pa_nil))))))).pt (pss_one (ps_ret pe_bl)) pss_nil)
      (pss_one (ps_ret (pe_and (pe_cmpR op_eq (pe_callB call_lenX (by rfl) T.len PySem.boot_len (pa_cons (pe_callTy (cr_setX rfl) (by rfl) T.set (by decide +kernel) (pa_cons (pv 0) pa_nil)) pa_nil)) (pe_callB call_len_seq (by rfl) T.len PySem.boot_len (pa_cons (pv 0) pa_nil)) (nomark _))
        (pe_one (pe_not (pe_callB (cr_any rfl) (by rfl) T.any (by decide +kernel) (pa_cons (pe_lc (own := [("_law_x", 2)]) (g := gName 2) (tt := tYes) rfl scFi.nd (pi_or (pi_list (pv 0)) (pi_tup (pv 0))) (blkOk_by (N := NFi) (sc := defScope sFits) (by decide +kernel))
            (fun _ _ _ _ _ => pg_name (i := 2) scFi.nd rfl (Or.inl rfl)) (fun _ _ _ _ _ => pts_nil) (fun _ _ _ _ _ => pe_cmpR op_inZ (pv 2) (pv 1) rfl)) pa_nil))))))), ?_⟩
    refine ⟨_, rfl, sz (Nat.le_of_ble_eq_true rfl), fun tt m => ⟨_, tt, _, _, _, (seqD d).isSome, rfl, upd_same, .cons (.ty _) (.cons (.ty _) .nil), (hx.same (same_new m _)).ty, kit_seq d, _, rfl, ?_⟩⟩
    have s1 := same_new m (.tup [.ty "list", .ty "tuple"])
    generalize upd H tt (.tup [.ty "list", .ty "tuple"]) = H1 at s1 ⊢
    unfold fitD areD at k
    cases e : seqD d with
    | none =>
      rw [e] at k
      exact iteT (k H1 s1)
    | some ds =>
      obtain ⟨t, a, xs, rfl, hA, hs, _⟩ := hx.seq e
      have lx := hs.len
      have few := (lim ds e).1
      rw [e] at k
      have k : ∀ H', Same H H' → Q (.bl (ds.all nameD && (!(namesIn d).isEmpty && (decide (namesIn d).Nodup && (namesIn d).all fun z => !decide (z ∈ ks))))) H' := k
      have seq : ∀ {H'}, Same H1 H' → SqL K H' a xs ∨ SqT K H' a xs := fun {H'} s => by
        cases t with
        | false => exact .inl (SqL.of (s _ _ (s1 _ _ hA)))
        | true => exact .inr (SqT.of (s _ _ (s1 _ _ hA)))
      refine iteF ⟨_, rfl, a, _, rfl, seq (Same.refl _), rfl, _, rfl, ?_⟩
      by_cases c0 : xs = []
      · subst c0
        have d0 : ds = [] := List.eq_nil_of_length_eq_zero lx.symm
        subst d0
        refine iteT ?_
        have q := k H1 s1
        have en : namesIn d = [] := by unfold namesIn; rw [e]; rfl
        rw [en] at q
        exact q
      · have l0 : xs.length ≠ 0 := fun e => c0 (List.eq_nil_of_length_eq_zero e)
        refine iteDF (fun e => l0 (by injection e with e; exact Int.ofNat.inj e)) ?_
        refine or_var rfl (s1 _ _ hA) fun J wk D nD => ?_
        refine lc_it wk (fun i H9 => H9 D = some (.lst (((ds.take i).map nameD).map V.bl)) ∧ Same H1 H9) ⟨upd_same, same_new nD _⟩ (fun i H9 _ h9 => (s1.trans h9.2) _ _ hA) ?_ ?_
        · rintro i y H9 H9' hi ⟨h9, s9⟩ ⟨rfl, hy⟩
          obtain ⟨e1, he1, dy⟩ := hs.get hy
          refine ⟨rfl, _, rfl, y, e1, rfl, (dy.same s1).same s9, fun z ez => (lim ds e).2 z (by rw [← ez]; exact List.mem_of_getElem? he1), fun H10 s10 => ?_⟩
          refine ⟨_, s10 _ _ h9, ?_, ?_, fun c o hc => ?_⟩
          · rw [List.length_map, List.length_map, List.length_take]
            exact small1000 (by omega)
          · rw [upd_same, List.take_add_one, he1]
            simp only [Option.toList_some, List.map_append, List.map_cons, List.map_nil]
          · rw [upd_ne (ne_of_none hc nD)]
            exact s10 _ _ (s9 _ _ hc)
        · rintro H9 ⟨h9, s9⟩
          rw [lx, List.take_of_length_le (Nat.le_refl _)] at h9
          refine ⟨D, _, rfl, SqL.of h9, ⟨_, rfl, ?_⟩⟩
          have e3 : (ds.map nameD).all id = ds.all nameD := by rw [List.all_map]; rfl
          rw [e3]
          have s19 := s1.trans s9
          cases ar : ds.all nameD with
          | false =>
            rw [ar] at k
            exact iteT (k H9 s19)
          | true =>
            rw [ar] at k
            refine iteF ?_
            have ard : areD d = true := by unfold areD; rw [e]; exact ar
            obtain ⟨e', nm⟩ := are_ds ard
            rw [e] at e'
            have ed := Option.some.inj e'
            rw [ed] at hs
            obtain rfl := Dq.strs hs
            generalize namesIn d = ss at *
            have seq9 : ∀ {H'}, Same H9 H' → SqL K H' a (ss.map V.str) ∨ SqT K H' a (ss.map V.str) := fun {H'} s => seq (s9.trans s)
            have ls : ss.length = ds.length := by rw [ed, List.length_map]
            refine ⟨_, rfl, a, ss.map Sum.inr, rfl, ?_, by rw [List.length_map]; omega, fun st D2 ns ndD mD => ⟨st, D2, rfl, upd_same, _, rfl, a, _, rfl, seq9 (same_new ns _), rfl, ?_⟩⟩
            · have ek : (ss.map (Sum.inr : Str → Key)).map kV = ss.map V.str := by rw [List.map_map]; rfl
              unfold KeysIn
              rw [ek]
              rcases seq9 (Same.refl H9) with z | z
              · exact .inl z
              · exact .inr (.inl z)
            have s2 : Same H (upd H9 st (KS w st D2)) := s19.trans (same_new ns _)
            have eL := len_nodup (l := ss) (D := ss) ndD mD
            have k0 : ss.isEmpty = false := by
              cases ss with
              | nil => exact absurd rfl c0
              | cons _ _ => rfl
            rw [k0] at k
            rw [eL]
            refine ⟨_, rfl, ?_⟩
            by_cases c1 : ss.Nodup
            · rw [decide_eq_true c1] at k ⊢
              refine iteT ?_
              refine or_var rfl (s2 _ _ hA) fun J wk L nL => ?_
              refine lc_it wk (fun i H9 => H9 L = some (.lst (((ss.take i).map fun z => decide (z ∈ ks)).map V.bl)) ∧ Same H H9) ⟨upd_same, s2.trans (same_new nL _)⟩ (fun i H9 _ h9 => h9.2 _ _ hA) ?_ ?_
              · rintro i x H9 H9' hi ⟨h9, s9⟩ ⟨rfl, hx'⟩
                rw [List.getElem?_map] at hx'
                obtain ⟨z, hz, rfl⟩ := Option.map_eq_some_iff.mp hx'
                refine ⟨rfl, _, rfl, _, rfl, kn, false, z, ks, rfl, rfl, s9 _ _ hkn, ?_⟩
                refine ⟨_, h9, ?_, ?_, fun c o hc => ?_⟩
                · rw [List.length_map, List.length_map, List.length_take]
                  exact small1000 (by omega)
                · rw [upd_same, List.take_add_one, hz]
                  simp only [Option.toList_some, List.map_append, List.map_cons, List.map_nil]
                · rw [upd_ne (ne_of_none hc (s2.free nL))]
                  exact s9 _ _ hc
              · rintro H9 ⟨h9, s9⟩
                rw [List.length_map, List.take_of_length_le (Nat.le_refl _)] at h9
                refine ⟨L, _, rfl, SqL.of h9, ⟨_, rfl, ?_⟩⟩
                have z := k H9 s9
                have e3 : (!(ss.map fun z => decide (z ∈ ks)).any id) = ss.all fun z => !decide (z ∈ ks) := by
                  rw [List.any_map, List.not_any_eq_all_not]
                  rfl
                show Q (.bl (!(ss.map fun z => decide (z ∈ ks)).any id)) H9
                rw [e3]
                exact z
            · rw [decide_eq_false c1] at k ⊢
              exact iteF (k _ s2)
end
end K1
set_option linter.all false
set_option maxRecDepth 100000
set_option maxHeartbeats 1000000
namespace K1
open PySem PySem.Spec PyProof.Rows L2
/-! ### <= of tuples of texts -/
theorem lex_leS : ∀ (ns ms : List Str), Ob.lexAt (fun j => decide (ns.getD j default = ms.getD j default)) (fun j => !ltS (ms.getD j default) (ns.getD j default)) (decide (ns.length ≤ ms.length)) 0 (min ns.length ms.length) = !lexL ltS ms ns
  | [], [] => rfl
  | [], _ :: _ => rfl
  | _ :: _, [] => rfl
  | n :: r, m :: q => by
    have z := lex_leS r q
    have sh : ∀ (e r : Nat → Bool) (z : Bool) (k i : Nat), Ob.lexAt (fun j => e (j + 1)) (fun j => r (j + 1)) z i k = Ob.lexAt e r z (i + 1) k := by
      intro e r z k
      induction k with
      | zero => intro i; rfl
      | succ k ih => intro i; rw [Ob.lexAt_succ, Ob.lexAt_succ, ih (i + 1)]
    have s := sh (fun j => decide ((n :: r).getD j default = (m :: q).getD j default)) (fun j => !ltS ((m :: q).getD j default) ((n :: r).getD j default)) (decide ((n :: r).length ≤ (m :: q).length)) (min r.length q.length) 0
    have l : min (n :: r).length (m :: q).length = min r.length q.length + 1 := by simp only [List.length_cons]; omega
    rw [l, Ob.lexAt_succ, ← s]
    have e1 : decide ((n :: r).length ≤ (m :: q).length) = decide (r.length ≤ q.length) := by simp
    rw [e1]
    show (if decide (n = m) = true then Ob.lexAt (fun j => decide (r.getD j default = q.getD j default)) (fun j => !ltS (q.getD j default) (r.getD j default)) (decide (r.length ≤ q.length)) 0 (min r.length q.length) else !ltS m n) = !(if m = n then lexL ltS q r else ltS m n)
    rw [z]
    by_cases e : n = m
    · rw [if_pos (decide_eq_true e), if_pos e.symm]
    · rw [if_neg (by simpa using e), if_neg (fun z => e z.symm)]
def rLeTS : R2 := fun x y H Q => ∃ (a b : Addr) (ns ms : List Str), x = .ref a ∧ y = .ref b ∧ H a = some (.tup (ns.map V.str)) ∧ H b = some (.tup (ms.map V.str)) ∧ Q (.bl (!lexL ltS ms ns)) H
theorem str_get {us : List Value} {zs : List Str} (h : Vals (zs.map V.str) us) (j : Nat) (h1 : j < us.toArray.size) : ∃ t, us.toArray[j] = .str (zs.getD j default) t := by
  have len := h.length
  rw [List.length_map] at len
  have h2 : j < us.length := by simpa using h1
  have h3 : j < zs.length := by omega
  have e : (zs.map V.str)[j]? = some (.str zs[j]) := by rw [List.getElem?_map, List.getElem?_eq_getElem h3]; rfl
  obtain ⟨u, hu, r⟩ := h.get e
  rw [List.getElem?_eq_getElem h2] at hu
  obtain ⟨t, et⟩ := r
  refine ⟨t, ?_⟩
  rw [List.getElem_toArray, Option.some.inj hu, et, List.getD_eq_getElem?_getD, List.getElem?_eq_getElem h3]
  rfl
theorem op_leTS {X : Cx} (hu : X.A.units < cLine) : OpR X (compareOp .LtE) rLeTS := by
  intro pins s σ H x y v u Q I rx ry h
  obtain ⟨a, b, ns, ms, rfl, rfl, ha, hb, q⟩ := h
  cases rx
  cases ry
  obtain ⟨its, r1, p1, _⟩ := I.tuple (SqT.of ha)
  obtain ⟨its2, r2, p2, _⟩ := I.tuple (SqT.of hb)
  have l1 : its.toArray.size = ns.length := by have := r1.length; rw [List.length_map] at this; rw [List.size_toArray]; exact this.symm
  have l2 : its2.toArray.size = ms.length := by have := r2.length; rw [List.length_map] at this; rw [List.size_toArray]; exact this.symm
  have R := Ob.RcOp.tuples_le (A := X.A) (s := s) (e := fun j => decide (ns.getD j default = ms.getD j default)) (r := fun j => !ltS (ms.getD j default) (ns.getD j default)) p1 p2 hu (fun j h1 h2 => by
    obtain ⟨t, et⟩ := str_get r1 j h1
    obtain ⟨t', et'⟩ := str_get r2 j h2
    rw [et, et']
    have z : (ns.getD j default == ms.getD j default) = decide (ns.getD j default = ms.getD j default) := by
      by_cases q : ns.getD j default = ms.getD j default
      · rw [decide_eq_true q]; exact beq_iff_eq.mpr q
      · rw [decide_eq_false q]; exact beq_eq_false_iff_ne.mpr q
    rw [← z]
    exact SeqAt.EqAt.str_str _ _ _ _) (fun j h1 h2 _ => by
    obtain ⟨t, et⟩ := str_get r1 j h1
    obtain ⟨t', et'⟩ := str_get r2 j h2
    rw [et, et']
    exact fun prog w E Q h => PySem.P.le_str h)
  rw [l1, l2, lex_leS] at R
  have z : wpAny (model X.prog X.w) X.A (compareOp .LtE (.ref a) (.ref b)) (EP X pins σ Q) X.xe s := R X.prog X.w X.xe (EP X pins σ Q) ⟨.bl _, H, I, rfl, q⟩
  exact z
/-- <= of texts, or of tuples of texts -/
def rLeB : R2 := fun x y H Q => (∃ i j, x = .str i ∧ y = .str j ∧ Q (.bl (!ltS j i)) H) ∨ rLeTS x y H Q
theorem op_leB {X : Cx} (hu : X.A.units < cLine) : OpR X (compareOp .LtE) rLeB := fun pins s σ H x y v u Q I rx ry h =>
  h.elim (op_le_str pins s σ H x y v u Q I rx ry) (op_leTS hu pins s σ H x y v u Q I rx ry)
end K1
set_option linter.all false
set_option maxRecDepth 100000
set_option maxHeartbeats 1000000
namespace K1
open PySem L2
section
variable {α : Type} [DecidableEq α] {lt : α → α → Bool}
/-- those that are at most z -/
def lowG {β : Type} (lt : α → α → Bool) (z : α) (R : List (β × α)) : List (β × α) := R.filter fun x => !lt z x.2
theorem lowG_ins {β : Type} (T : Tot lt) {p : β × α} : ∀ {R : List (β × α)}, Asc1 lt (R.map (·.2)) → p.2 ∉ R.map (·.2) → Asc1 lt ((R.take (lowG lt p.2 R).length ++ [p] ++ R.drop (lowG lt p.2 R).length).map (·.2))
  | [], _, _ => by simp [lowG, Asc1]
  | x :: r, u, no => by
    obtain ⟨u1, u2⟩ := List.pairwise_cons.mp u
    have nx : p.2 ≠ x.2 := fun e => no (by rw [e]; exact .head _)
    have nr : p.2 ∉ r.map (·.2) := fun h => no (.tail _ h)
    cases e : lt p.2 x.2 with
    | true =>
      have hz : lowG lt p.2 (x :: r) = [] := by
        unfold lowG
        rw [List.filter_eq_nil_iff]
        intro y hy
        rcases List.mem_cons.mp hy with rfl | hy
        · rw [e]; simp
        · rw [T.tr p.2 x.2 y.2 e (u1 y.2 (List.mem_map.mpr ⟨y, hy, rfl⟩))]; simp
      rw [hz]
      refine List.pairwise_cons.mpr ⟨fun y hy => ?_, u⟩
      have hy : y ∈ x.2 :: r.map (·.2) := hy
      rcases List.mem_cons.mp hy with rfl | hy
      · exact e
      · exact T.tr p.2 x.2 y e (u1 y hy)
    | false =>
      have xz : lt x.2 p.2 = true := by
        cases q : lt x.2 p.2 with
        | true => rfl
        | false => exact absurd (T.tot p.2 x.2 e q) nx
      have hz : lowG lt p.2 (x :: r) = x :: lowG lt p.2 r := by
        unfold lowG
        rw [List.filter_cons, if_pos (by rw [e]; rfl)]
      rw [hz]
      refine List.pairwise_cons.mpr ⟨fun y hy => ?_, lowG_ins T u2 nr⟩
      have hy : y ∈ (r.take (lowG lt p.2 r).length ++ [p] ++ r.drop (lowG lt p.2 r).length).map (·.2) := hy
      rw [List.map_append, List.map_append] at hy
      rcases List.mem_append.mp hy with hy | hy
      · rcases List.mem_append.mp hy with hy | hy
        · rw [List.map_take] at hy
          exact u1 y (List.mem_of_mem_take hy)
        · rw [List.mem_singleton.mp hy]; exact xz
      · rw [List.map_drop] at hy
        exact u1 y (List.mem_of_mem_drop hy)
theorem mem_cutG {β : Type} {z y : β} {R : List β} (n : Nat) : y ∈ R.take n ++ [z] ++ R.drop n ↔ y ∈ R ∨ y = z := by
  rw [List.mem_append, List.mem_append, List.mem_singleton]
  conv => rhs; rw [← List.take_append_drop n R, List.mem_append]
  constructor
  · rintro ((h | h) | h)
    · exact .inl (.inl h)
    · exact .inr h
    · exact .inl (.inr h)
  · rintro ((h | h) | h)
    · exact .inl (.inl h)
    · exact .inr h
    · exact .inl (.inr h)
end
def spRisingG (K : PySem.W.Frag) : Sp := fun vs H Q _ => ∃ (α : Type) (_ : DecidableEq α) (lt : α → α → Bool) (a : Addr) (t : Bool) (L : List (V × α)), vs = [.ref a] ∧ H a = some (seqO t (L.map (·.1))) ∧ Tot lt ∧ (L.map (·.2)).Nodup ∧ L.length ≤ 60 ∧
  (∀ H', Same H H' → ∀ p ∈ L, ∀ q ∈ L, ∀ R : VK, R (.bl (!lt q.2 p.2)) H' → rLeB p.1 q.1 H' R) ∧
  ∀ (f : Addr) (L' : List (V × α)) (H' : Hp), Same H H' → H f = none → H' f = some (.lst (L'.map (·.1))) → L'.map (·.2) = asc lt (L.map (·.2)) → (∀ p ∈ L', p ∈ L) → Q (.ref f) H'
section
variable {P : Program} {w : World} {K : PySem.W.Frag} {mg : Str → Option Value} {base : Heap}
abbrev NRi : List Str := ["_law_things", "_law_found", "_law_thing", "_law_x"]
theorem scRi : FnScope NRi ["_law_things"] (defScope sRising) := ⟨rfl, rfl, rfl, by decide +kernel, rfl, by decide +kernel, by decide +kernel⟩
theorem ok_risingG {f : Addr} {fd : FuncData} (F : Fun K "_law_rising" "_law_rising" sRising f fd) (hl : mg "len" = none) : FnOk P w K mg base CX0 1 f fd ["_law_things"] (spRisingG K) := by
  refine F.ok scRi (fun vs H Q E h => ?_) (fun cdv A outer s H vs Q E hr h => ?_)
  · obtain ⟨α, _, lt, a, t, L, rfl, _⟩ := h
    rfl
  · obtain ⟨α, _, lt, a, t, L, rfl, ha, T, nd, few, cm, k⟩ := h
    refine ⟨_, pss_cons (ps_set (i := 1) scRi.nd rfl (.inl rfl) (pe_lst pa_nil))
      (pss_cons (ps_for PassesOwn.never rfl (pi_or (pi_list (pv 0)) (pi_tup (pv 0))) (pg_name (i := 2) scRi.nd rfl (Or.inr rfl))
        (pss_one (ps_expr (pe_bm PySem.F.plainAttrs_list PySem.F.slot_list_insert PySem.F.type_list_insert mt_insert (pv 1)
          (pa_cons (pe_callB call_len_seq (by rfl) hl PySem.boot_len (pa_cons (pe_lc (own := [("_law_x", 3)]) (g := gName 3) rfl scRi.nd (pi_list (pv 1)) (blkOk_by (N := NRi) (sc := defScope sRising) (by decide +kernel))
            (fun _ _ _ _ _ => pg_name (i := 3) scRi.nd rfl (Or.inl rfl)) (fun _ _ _ _ _ => pts_one (pt_cmpR (op_leB (hr.units0)) (pv 3) (pv 2) (nomark _))) (fun _ _ _ _ _ => pv 3)) pa_nil)) (pa_cons (pv 2) pa_nil))))))
      (pss_one (ps_ret (pv 1)))), ?_⟩
    refine ⟨sz (Nat.le_of_ble_eq_true rfl), fun fo nf => ?_⟩
    have s0 := same_new nf (.lst [])
    refine or_var rfl (s0 _ _ ha) fun J wk => ?_
    refine for_it wk (fun i σ H2 => ∃ (v : Option V) (M : List (V × α)), σ = [some (.ref a), some (.ref fo), v, none] ∧ H2 fo = some (.lst (M.map (·.1))) ∧ M.map (·.2) = asc lt ((L.take i).map (·.2)) ∧ (∀ p ∈ M, p ∈ L) ∧ Same H H2) ⟨_, [], rfl, upd_same, rfl, (fun _ h => nomatch h), s0⟩
      (fun i σ H2 _ ⟨_, _, _, _, _, _, s2⟩ => s2 _ _ ha) ?_ ?_
    · rintro i x σ H2 H2' hi ⟨v, R, rfl, hf, eR, sub, s2⟩ ⟨rfl, hx⟩
      rw [List.getElem?_map] at hx
      obtain ⟨p, hp, rfl⟩ := Option.map_eq_some_iff.mp hx
      have mp := List.mem_of_getElem? hp
      have li : i < L.length := (List.getElem?_eq_some_iff.mp hp).1
      have nd' : ((L.take i).map (·.2)).Nodup := by rw [List.map_take]; exact nd.sublist (List.take_sublist _ _)
      have uR : Asc1 lt (R.map (·.2)) := by rw [eR]; exact asc_asc T _
      have lR : R.length = i := by
        have z := congrArg List.length eR
        rw [List.length_map, asc_len T nd', List.length_map, List.length_take] at z
        omega
      have no : p.2 ∉ R.map (·.2) := by
        rw [eR, mem_asc T]
        intro m
        rw [List.map_take] at m
        obtain ⟨j, hj, e⟩ := List.getElem_of_mem m
        rw [List.length_take, List.length_map] at hj
        rw [List.getElem_take] at e
        have e2 : (L.map (·.2))[i]'(by rw [List.length_map]; exact li) = p.2 := by
          have := List.getElem?_eq_getElem (l := L.map (·.2)) (i := i) (by rw [List.length_map]; exact li)
          rw [List.getElem?_map, hp] at this
          exact (Option.some.inj this).symm
        have := (List.getElem_inj nd).mp (e.trans e2.symm)
        omega
      refine ⟨_, rfl, .inl ⟨rfl, _, SqL.of hf⟩, _, rfl, fo, rfl, ⟨_, SqL.of hf⟩, fun D nD => ?_⟩
      have nDf : D ≠ fo := fun e => by rw [e, hf] at nD; cases nD
      refine lc_list (xs := R.map (·.1)) (fun j H9 => H9 D = some (.lst ((lowG lt p.2 (R.take j)).map (·.1))) ∧ Same H2' H9) ⟨upd_same, same_new nD _⟩ (fun j H9 _ h9 => SqL.of (h9.2 _ _ hf)) ?_ ?_
      · rintro j y H9 hy ⟨h9, s9⟩
        rw [List.getElem?_map] at hy
        obtain ⟨q, hq, rfl⟩ := Option.map_eq_some_iff.mp hy
        have lj : j < R.length := (List.getElem?_eq_some_iff.mp hq).1
        have et : R.take (j + 1) = R.take j ++ [q] := by rw [List.take_add_one, hq]; rfl
        refine ⟨rfl, _, rfl, _, rfl, cm H9 (s2.trans s9) q (sub q (List.mem_of_getElem? hq)) p mp _ ⟨_, rfl, ite2 (fun e => ?_) fun e => ?_⟩⟩
        · have e' : (!lt p.2 q.2) = true := e
          refine ⟨_, rfl, _, h9, small1000 ?_, ?_, fun b o hb => ?_⟩
          · rw [List.length_map]
            refine Nat.le_trans (List.length_filter_le _ _) ?_
            rw [List.length_take]
            omega
          · rw [upd_same, et]
            unfold lowG
            rw [List.filter_append, List.filter_cons, if_pos e', List.map_append]
            rfl
          · rw [upd_ne (ne_of_none hb nD)]
            exact s9 _ _ hb
        · have e' : ¬ (!lt p.2 q.2) = true := e
          refine ⟨?_, s9⟩
          rw [et]
          unfold lowG
          rw [List.filter_append, List.filter_cons, if_neg e', List.filter_nil, List.append_nil]
          exact h9
      · rintro H9 ⟨h9, s9⟩
        rw [List.length_map, List.take_length] at h9
        have hf9 := s9 _ _ hf
        have low : (lowG lt p.2 R).length ≤ R.length := List.length_filter_le _ _
        refine ⟨D, _, rfl, .inl (SqL.of h9), _, rfl, fo, _, _, _, rfl, rfl, hf9, small1000 (by rw [List.length_map]; omega), by omega, ?_, ?_⟩
        · rw [List.length_map]
          omega
        · refine ⟨_, R.take (lowG lt p.2 R).length ++ [p] ++ R.drop (lowG lt p.2 R).length, rfl, ?_, ?_, fun q hq => ?_, fun b o hb => ?_⟩
          · rw [upd_same, List.length_map, Int.toNat_natCast, ← List.map_take, ← List.map_drop, List.map_append, List.map_append]
            rfl
          · refine asc_of T (lowG_ins T uR no) fun y => ?_
            have et : L.take (i + 1) = L.take i ++ [p] := by rw [List.take_add_one, hp]; rfl
            have er : (L.take (i + 1)).map (·.2) = (L.take i).map (·.2) ++ [p.2] := by rw [et, List.map_append]; rfl
            rw [er]
            have ma := mem_asc T (z := y) (L := (L.take i).map (·.2))
            rw [← eR] at ma
            constructor
            · intro h
              obtain ⟨q, hq, rfl⟩ := List.mem_map.mp h
              rcases (mem_cutG _).mp hq with h | h
              · exact List.mem_append_left _ (ma.mp (List.mem_map.mpr ⟨q, h, rfl⟩))
              · exact List.mem_append_right _ (by rw [h]; exact .head _)
            · intro h
              rcases List.mem_append.mp h with h | h
              · obtain ⟨q, hq, rfl⟩ := List.mem_map.mp (ma.mpr h)
                exact List.mem_map.mpr ⟨q, (mem_cutG _).mpr (.inl hq), rfl⟩
              · exact List.mem_map.mpr ⟨p, (mem_cutG _).mpr (.inr rfl), (List.mem_singleton.mp h).symm⟩
          · rcases (mem_cutG _).mp hq with h | h
            · exact sub q h
            · rw [h]; exact mp
          · rw [upd_ne (ne_of_none hb nf)]
            exact s9 _ _ (s2 _ _ hb)
    · rintro σ H2 ⟨v, M, rfl, hf, eM, sub, s2⟩
      rw [List.length_map, List.take_length] at eM
      exact ⟨_, rfl, k fo M H2 s2 nf hf eM sub⟩
end
/-- the promise for texts -/
theorem rising_strs {K : PySem.W.Frag} {H : Hp} {Q : VK} {E : XK} {a : Addr} {t : Bool} {zs : List Str} (ha : H a = some (seqO t (zs.map V.str))) (nd : zs.Nodup) (few : zs.length ≤ 60)
    (k : ∀ (f : Addr) (H' : Hp), Same H H' → H f = none → H' f = some (.lst ((asc ltS zs).map V.str)) → Q (.ref f) H') : spRisingG K [.ref a] H Q E := by
  have e2 : (zs.map fun z => (V.str z, z)).map (·.2) = zs := by rw [List.map_map]; exact List.map_id _
  refine ⟨Str, inferInstance, ltS, a, t, zs.map fun z => (V.str z, z), rfl, ?_, tot_ltS, by rw [e2]; exact nd, by rw [List.length_map]; exact few, fun H' s' p hp q hq R hR => ?_, fun f L' H' s' nf hf e sub => ?_⟩
  · rw [List.map_map]
    exact ha
  · obtain ⟨x, _, rfl⟩ := List.mem_map.mp hp
    obtain ⟨y, _, rfl⟩ := List.mem_map.mp hq
    exact .inl ⟨x, y, rfl, rfl, hR⟩
  · refine k f H' s' nf ?_
    rw [e2] at e
    rw [hf, ← e, List.map_map]
    refine congrArg (fun l => some (HO.lst l)) (List.map_congr_left fun p hp => ?_)
    obtain ⟨x, _, rfl⟩ := List.mem_map.mp (sub p hp)
    rfl
/-- the promise for tuples of texts -/
theorem rising_rows {K : PySem.W.Frag} {H : Hp} {Q : VK} {E : XK} {a : Addr} {t : Bool} {B : TL} (ha : H a = some (seqO t (refT B))) (hB : TuT H B) (nd : (rowT B).Nodup) (few : B.length ≤ 60)
    (k : ∀ (f : Addr) (M : TL) (H' : Hp), Same H H' → H f = none → H' f = some (.lst (refT M)) → TuT H' M → rowT M = asc lexS (rowT B) → Q (.ref f) H') : spRisingG K [.ref a] H Q E := by
  have e2 : (B.map fun p => (V.ref p.1, p.2)).map (·.2) = rowT B := by rw [List.map_map]; rfl
  have e1 : (B.map fun p => (V.ref p.1, p.2)).map (·.1) = refT B := by rw [List.map_map]; rfl
  refine ⟨List Str, inferInstance, lexS, a, t, B.map fun p => (V.ref p.1, p.2), rfl, by rw [e1]; exact ha, tot_lexS, by rw [e2]; exact nd, by rw [List.length_map]; exact few, fun H' s' p hp q hq R hR => ?_, fun f L' H' s' nf hf e sub => ?_⟩
  · obtain ⟨x, hx, rfl⟩ := List.mem_map.mp hp
    obtain ⟨y, hy, rfl⟩ := List.mem_map.mp hq
    exact .inr ⟨x.1, y.1, x.2, y.2, rfl, rfl, s' _ _ (hB x hx), s' _ _ (hB y hy), hR⟩
  · rw [e2] at e
    have un : ∀ p ∈ L', ∃ q ∈ B, p = (V.ref q.1, q.2) := fun p hp => by
      obtain ⟨q, hq, rfl⟩ := List.mem_map.mp (sub p hp)
      exact ⟨q, hq, rfl⟩
    obtain ⟨M, eM⟩ : ∃ M : TL, L' = M.map fun p => (V.ref p.1, p.2) := by
      clear e hf sub
      induction L' with
      | nil => exact ⟨[], rfl⟩
      | cons p r ih =>
        obtain ⟨q, _, e⟩ := un p (.head _)
        obtain ⟨M, eM⟩ := ih fun p hp => un p (.tail _ hp)
        exact ⟨q :: M, by rw [e, eM]; rfl⟩
    subst eM
    refine k f M H' s' nf (by rw [hf, List.map_map]; rfl) (fun p hp => ?_) (by rw [← e, List.map_map]; rfl)
    obtain ⟨q, hq, e'⟩ := un (V.ref p.1, p.2) (List.mem_map.mpr ⟨p, hp, rfl⟩)
    injection e' with e1 e2
    injection e1 with e1
    have : p = q := Prod.ext e1 e2
    rw [this]
    exact s' _ _ (hB q hq)
end K1
set_option linter.all false
set_option maxRecDepth 100000
set_option maxHeartbeats 1000000
namespace K1
open PySem L2
/-- [truths].index(True) -/
def rIndexB : V → List V → Hp → VK → Prop := fun x xs H Q => ∃ (a : Addr) (bs : List Bool) (j : Nat), x = V.ref a ∧ xs = [.bl true] ∧ H a = some (.lst (bs.map V.bl)) ∧ bs[j]? = some true ∧ (∀ m, m < j → bs[m]? = some false) ∧ Q (.int (j : Nat)) H
theorem dp_bools {K : PySem.W.Frag} {H : Hp} : ∀ bs : List Bool, DpAll K H (bs.map V.bl) (bs.map PyData.bool)
  | [] => .nil
  | b :: r => .cons (.bl b) (dp_bools r)
theorem mt_indexB {X : Cx} (hu : X.A.units + 65 < cLine) : MtR X "list.index" rIndexB := by
  intro pins s σ H x xs v us Q I rx rxs h
  obtain ⟨a, bs, j, rfl, rfl, ha, hj, hm, q⟩ := h
  refine mt_indexD hu pins s σ H _ _ v us Q I rx rxs ⟨a, .bl true, .bool true, bs.map PyData.bool, j, .bool true, rfl, rfl, .lst (SqL.of ha) (dp_bools bs), .bl true, ?_, by decide +kernel, by rw [List.getElem?_map, hj]; rfl, by decide +kernel, fun m z hlt hz => ?_, q⟩
  · refine okd_list fun d hd => ?_
    obtain ⟨b, _, rfl⟩ := List.mem_map.mp hd
    exact ⟨by simp only [PyData.canLay0], by simp only [PyData.depth]; omega⟩
  · rw [List.getElem?_map, hm m hlt] at hz
    cases hz
    decide +kernel
/-- tuple(a list) -/
def rTupL : List V → Hp → VK → Prop := fun xs H Q => ∃ p ys, xs = [.ref p] ∧ H p = some (.lst ys) ∧ ∀ l, H l = none → Q (.ref l) (upd H l (.tup ys))
theorem call_tupleL {X : Cx} : CallR X (.type "tuple") rTupL := by
  intro pins s σ H xs us Q I r h
  obtain ⟨p, ys, rfl, hp, q⟩ := h
  exact call_tuple_of pins s σ H _ us Q I r ⟨p, ys, rfl, .inl ⟨SqL.of hp, q⟩⟩
/-- lists alone: no tuple as a whole, none within -/
def LisD (d : PyData) : Prop := ∀ ds, seqD d = some ds → d = .list ds ∧ ∀ e ∈ ds, ∀ es, seqD e = some es → e = .list es
def dueSc (s : Stmt) : Scope := match (defBody s).drop 5 with
  | .Assign _ (.Call _ [.ListComp _ _ sc _] _ _) _ :: _ => sc
  | _ => defScope s
theorem Room.u65 {k : Nat} {A : Around} (r : Room k A) : A.units + 65 < cLine := by have := r.un; omega
/-- what the law holds due of a meeting's blocks -/
structure DueT (H : Hp) (t : Addr) (R : List (List Str)) (tn tr tc : Addr) (M : TL) : Prop where
  tup : H t = some (.tup [.str "made", .ref tn, .ref tr, .ref tc, .int (M.length : Nat)])
  na : H tn = some (.tup ((namesOf R).map V.str))
  ro : H tr = some (.tup (refT M))
  tu : TuT H M
  row : rowT M = R
  co : H tc = some (.tup ((codeOf R).map V.int))
def spDue : Sp := fun vs H Q _ => ∃ (v : V) (d : PyData), vs = [v] ∧ Dq H v d ∧ LimB d ∧ LisD d ∧ (∀ i, badD d = some i → ∀ t H', Same H H' → H t = none → H' t = some (.tup [.str "bad", .int (i : Nat)]) → Q (.ref t) H') ∧
  (badD d = none → ∀ t tn tr tc M H', Same H H' → H t = none → DueT H' t (rowsOf (blocksD d)) tn tr tc M → Q (.ref t) H')
section
variable {P : Program} {w : World} {K : PySem.W.Frag} {mg : Str → Option Value} {base : Heap}
abbrev NDu : List Str := ["_law_blocks_here", "_law_known", "_law_k", "_law_block", "_law_rows", "_law_names_here", "_law_code", "_law_name", "_law_row"]
theorem scDu : FnScope NDu ["_law_blocks_here"] (defScope sDue) := ⟨rfl, rfl, rfl, by decide +kernel, rfl, by decide +kernel, by decide +kernel⟩
structure DuW (H : Hp) (a kn : Addr) (ds : List PyData) (i : Nat) (σ : L2.St) (H9 : Hp) : Prop where
  ex : ∃ (x2 x3 : Option V), σ = [some (.ref a), some (.ref kn), x2, x3, none, none, none, none, none]
  kno : H9 kn = some (.lst ((takenOf (ds.take i)).map V.str))
  old : Same H H9
  run : badAt [] ds = (badAt (takenOf (ds.take i)) (ds.drop i)).map (· + i)
theorem ok_due {f fF fR : Addr} {fd fdF fdR : FuncData} (F : Fun K "_law_due" "_law_due" sDue f fd) (T : TxtN mg) (he : mg "enumerate" = none) (gF : mg "_law_fits" = some (.ref fF)) (kF : PySem.W.keepIn K (.ref fF) = true) (bF : Binds K fdF ["_law_block", "_law_known"] []) (GF : FnOk P w K mg base CX0 2 fF fdF ["_law_block", "_law_known"] spFitsL)
    (gR : mg "_law_rising" = some (.ref fR)) (kR : PySem.W.keepIn K (.ref fR) = true) (bR : Binds K fdR ["_law_things"] []) (GR : FnOk P w K mg base CX0 1 fR fdR ["_law_things"] (spRisingG K)) : FnOk P w K mg base CX0 3 f fd ["_law_blocks_here"] spDue := by
  refine F.ok scDu (fun vs H Q E h => ?_) (fun cdv A outer s H vs Q E hr h => ?_)
  · obtain ⟨v, d, rfl, _⟩ := h
    rfl
  · obtain ⟨v, d, rfl, hd, lim, lis, kB, kG⟩ := h
    have r1 : Room 1 _ := hr.mono (by decide)
    refine ⟨_, pss_cons (ps_if (pt_not (pt_val (pe_callB call_isiT (by rfl) T.isi (by decide +kernel) (pa_cons (pv 0) (pa_cons (pe_tup (pa_cons (pe_bltn (v := .ty "list") (by rfl) T.list (by decide +kernel) rfl) (pa_cons (pe_bltn (v := .ty "tuple") (by rfl) T.tuple (by decide +kernel) rfl) pa_nil))) pa_nil))))) (pss_one (ps_ret (pe_tup (pa_cons pe_str (pa_cons pe_int pa_nil))))) pss_nil)
      (pss_cons (ps_set (i := 1) scDu.nd rfl (.inl rfl) (pe_lst pa_nil))
      (pss_cons (ps_for PassesOwn.never rfl (pi_enum (by rfl) he (pa_cons (pv 0) pa_nil)) (pg_tup rfl (pgs_cons (pg_name (i := 2) scDu.nd rfl (Or.inl rfl)) (pgs_cons (pg_name (i := 3) scDu.nd rfl (Or.inl rfl)) pgs_nil)))
        (pss_cons (ps_if (pt_not (pt_val (pe_call GF hr (by rfl) gF kF bF .nil pass0 (pa_cons (pv 3) (pa_cons (pv 1) pa_nil))))) (pss_one (ps_ret (pe_tup (pa_cons pe_str (pa_cons (pv 2) pa_nil))))) pss_nil)
        (pss_one (ps_expr (pe_bm PySem.F.plainAttrs_list PySem.F.slot_list_extend PySem.F.type_list_extend mt_extend (pv 1) (pa_cons (pv 3) pa_nil))))))
      (pss_cons (ps_set (i := 4) scDu.nd rfl (.inr rfl) (pe_call GR r1 (by rfl) gR kR bR .nil pass0 (pa_cons (pe_lc (own := [("_law_block", 3)]) (g := gName 3) (tt := tYes) rfl scDu.nd (pi_list (pv 0)) (blkOk_by (N := NDu) (sc := defScope sDue) (by decide +kernel)) (fun _ _ _ _ _ => pg_name (i := 3) scDu.nd rfl (Or.inl rfl)) (fun _ _ _ _ _ => pts_nil)
          (fun _ _ _ _ _ => pe_callTy call_tupleL (by rfl) T.tuple (by decide +kernel) (pa_cons (pe_call GR r1 (by rfl) gR kR bR .nil pass0 (pa_cons (pv 3) pa_nil)) pa_nil))) pa_nil)))
      (pss_cons (ps_set (i := 5) scDu.nd rfl (.inl rfl) (pe_callTy call_tupleL (by rfl) T.tuple (by decide +kernel) (pa_cons (pe_call GR r1 (by rfl) gR kR bR .nil pass0 (pa_cons (pv 1) pa_nil)) pa_nil)))
      (pss_cons (ps_set (i := 6) scDu.nd rfl (.inl rfl) (pe_callTy call_tupleL (by rfl) T.tuple (by decide +kernel) (pa_cons (pe_lc (own := [("_law_name", 7)]) (g := gName 7) (tt := tYes) (te := tBM K "list" rIndexB (tLc (iList K (tVar 4)) (gName 8) tYes (tOp rInZ (tVar 7) (tVar 8)) [8]) (tCons (tC (.bl true)) tNil)) rfl scDu.nd (pi_tup (pv 5)) (blkOk_by (N := NDu) (sc := defScope sDue) (by decide +kernel)) (fun _ _ _ _ _ => pg_name (i := 7) scDu.nd rfl (Or.inr rfl)) (fun _ _ _ _ _ => pts_nil)
          (fun _ _ _ _ _ => pe_bm PySem.F.plainAttrs_list PySem.F.slot_list_index PySem.F.type_list_index (mt_indexB (Room.u65 hr)) (pe_lc (own := [("_law_row", 8)]) (g := gName 8) (tt := tYes) rfl scDu.nd (pi_list (pv 4)) (blkOk_by (N := NDu) (sc := relS (dueSc sDue) (defScope sDue)) (by decide +kernel)) (fun _ _ _ _ _ => pg_name (i := 8) scDu.nd rfl (Or.inl rfl)) (fun _ _ _ _ _ => pts_nil)
            (fun _ _ _ _ _ => pe_cmpR op_inZ (pv 7) (pv 8) rfl)) (pa_cons pe_bl pa_nil))) pa_nil)))
      (pss_one (ps_ret (pe_tup (pa_cons pe_str (pa_cons (pv 5) (pa_cons (pe_callTy call_tupleL (by rfl) T.tuple (by decide +kernel) (pa_cons (pv 4) pa_nil)) (pa_cons (pv 6) (pa_cons (pe_callB call_len_seq (by rfl) T.len PySem.boot_len (pa_cons (pv 4) pa_nil)) pa_nil))))))))))))), ?_⟩
    refine ⟨_, rfl, sz (Nat.le_of_ble_eq_true rfl), fun tt m => ⟨_, tt, _, _, _, (seqD d).isSome, rfl, upd_same, .cons (.ty _) (.cons (.ty _) .nil), (hd.same (same_new m _)).ty, kit_seq d, _, rfl, ?_⟩⟩
    have s1 := same_new m (.tup [.ty "list", .ty "tuple"])
    generalize upd H tt (.tup [.ty "list", .ty "tuple"]) = H1 at s1 ⊢
    cases e : seqD d with
    | none =>
      have b0 : badD d = some 0 := by unfold badD; rw [e]
      refine iteT ⟨sz (Nat.le_of_ble_eq_true rfl), fun t nt => ?_⟩
      exact kB 0 b0 t _ (s1.trans (same_new nt _)) (s1.free nt) upd_same
    | some ds =>
      obtain ⟨ed, inner⟩ := lis ds e
      have bD : badD d = badAt [] ds := by unfold badD; rw [e]
      have blD : blocksD d = ds.map namesIn := by unfold blocksD; rw [e]
      have good := good_of lim
      have few := lim.few ds e
      have low := lim.low ds e
      have tot := lim.tot ds e
      rw [blD] at good kG
      rw [bD] at good kB kG
      subst ed
      obtain ⟨t0, a, xs, rfl, hA, hs, et⟩ := hd.seq e
      cases t0 with
      | true => cases et
      | false =>
      have hA : H a = some (.lst xs) := hA
      have lx := hs.len
      refine iteF ⟨sz (Nat.le_of_ble_eq_true rfl), fun kn nkn => ?_⟩
      have s2 := s1.trans (same_new nkn (.lst []))
      have nk0 : H kn = none := s1.free nkn
      refine ⟨_, rfl, a, xs, rfl, SqL.of (s2 _ _ hA), ?_⟩
      refine for_it walk_enum (DuW H a kn ds) ⟨⟨_, _, rfl⟩, upd_same, s2, by simp [takenOf]⟩ (fun i σ H9 _ p => SqL.of (p.old _ _ hA)) ?_ ?_
      · rintro i x σ H9 H10 hi ⟨⟨x2, x3, rfl⟩, hkn, s9, run⟩ ⟨T0, u, v, rfl, nT0, rfl, eu, ev⟩
        obtain ⟨d1, hd1, dv⟩ := hs.get ev
        have mem1 := List.mem_of_getElem? hd1
        have step := bad_turn hd1
        cases eu
        have s10 : Same H9 (upd H9 T0 (.tup [.int (i : Nat), v])) := same_new nT0 _
        generalize hH10 : upd H9 T0 (.tup [.int (i : Nat), v]) = H10 at s10
        have e10 : H10 T0 = some (.tup [.int (i : Nat), v]) := by rw [← hH10]; exact upd_same
        refine ⟨T0, [.int (i : Nat), v], rfl, SqT.of e10, rfl, _, [v], rfl, v, [], rfl, rfl, ?_⟩
        refine ⟨_, rfl, _, rfl, v, d1, kn, takenOf (ds.take i), rfl, (dv.same s9).same s10, low d1 mem1, s10 _ _ hkn, fun H11 s11 => ⟨_, rfl, ?_⟩⟩
        cases cf : fitD (fun z => decide (z ∈ takenOf (ds.take i))) d1 with
        | false =>
          rw [cf] at step
          have bi : badAt [] ds = some i := by rw [run, step]; simp
          have sA := s9.trans (s10.trans s11)
          refine iteT ⟨_, rfl, sz (Nat.le_of_ble_eq_true rfl), fun t nt => ?_⟩
          exact kB i bi t _ (sA.trans (same_new nt _)) (sA.free nt) upd_same
        | true =>
          rw [cf] at step
          obtain ⟨fds, fnm, fne, fnd, fno⟩ := fit_of cf
          have el := inner d1 mem1 _ fds
          obtain ⟨t1, a1, xs1, rfl, hA1, hs1, et1⟩ := dv.seq fds
          obtain rfl := Dq.strs hs1
          cases t1 with
          | true => rw [el] at et1; cases et1
          | false =>
          have hA1 : H a1 = some (.lst ((namesIn d1).map V.str)) := hA1
          have t11 := s10.trans s11
          have hk11 := t11 _ _ hkn
          have etk : ds.take (i + 1) = ds.take i ++ [d1] := by rw [List.take_add_one, hd1]; rfl
          have tle : (takenOf (ds.take i)).length ≤ 60 := by
            have z : takenOf ds = takenOf (ds.take i) ++ takenOf (ds.drop i) := by
              unfold takenOf
              rw [← List.flatten_append, ← List.map_append, List.take_append_drop]
            have z2 := congrArg List.length z
            rw [List.length_append] at z2
            omega
          have l1 := (low d1 mem1).few
          refine iteF ⟨_, rfl, .inl ⟨rfl, _, SqL.of hk11⟩, _, rfl, kn, a1, _, _, rfl, rfl, hk11, t11 _ _ (s9 _ _ hA1), sz ?_, ?_⟩
          · rw [List.length_map, List.length_map]
            omega
          · refine ⟨⟨_, _, rfl⟩, ?_, fun b o hb => ?_, ?_⟩
            · rw [upd_same, etk, takenOf_snoc, List.map_append]
            · rw [upd_ne (ne_of_none hb nk0)]
              exact t11 _ _ (s9 _ _ hb)
            · rw [run, step, if_pos rfl, Option.map_map]
              cases badAt (takenOf (ds.take (i + 1))) (ds.drop (i + 1)) with
              | none => rfl
              | some k =>
                show some (k + 1 + i) = some (k + (i + 1))
                exact congrArg some (by omega)
      · rintro σ H9 ⟨⟨x2, x3, rfl⟩, hkn, s9, run⟩
        rw [lx] at hkn run
        rw [List.take_length] at hkn
        rw [List.drop_length] at run
        have b0 : badAt [] ds = none := run
        have good := good b0
        have kG := kG b0
        have fits := (fitsAll b0).1
        -- the rows
        refine ⟨_, rfl, a, rfl, ⟨_, SqL.of (s9 _ _ hA)⟩, fun D nD => ?_⟩
        refine lc_list (xs := xs) (fun i H2 => ∃ M : TL, H2 D = some (.lst (refT M)) ∧ TuT H2 M ∧ rowT M = ((ds.take i).map namesIn).map (asc ltS) ∧ Same H9 H2) ⟨[], upd_same, (fun _ h => nomatch h), rfl, same_new nD _⟩ (fun i H2 _ h2 => by obtain ⟨_, _, _, _, q⟩ := h2; exact SqL.of (q _ _ (s9 _ _ hA))) ?_ ?_
        · rintro i v H2 hv ⟨M, hD, tu, eM, s2'⟩
          obtain ⟨d1, hd1, dv⟩ := hs.get hv
          have mem1 := List.mem_of_getElem? hd1
          have li : i < ds.length := (List.getElem?_eq_some_iff.mp hd1).1
          obtain ⟨fds, fnm, fne, fnd, fno⟩ := fits d1 mem1
          have el := inner d1 mem1 _ fds
          obtain ⟨t1, a1, xs1, rfl, hA1, hs1, et1⟩ := dv.seq fds
          obtain rfl := Dq.strs hs1
          cases t1 with
          | true => rw [el] at et1; cases et1
          | false =>
          have hA1 : H a1 = some (.lst ((namesIn d1).map V.str)) := hA1
          have l1 := (low d1 mem1).few
          have lM : M.length = i := by
            have z := congrArg List.length eM
            rw [rowT_len, List.length_map, List.length_map, List.length_take] at z
            omega
          refine ⟨rfl, _, rfl, ?_⟩
          dsimp only [tNil]
          show spRisingG K [.ref a1] H2 _ _
          refine rising_strs (t := false) (s2' _ _ (s9 _ _ hA1)) fnd (by omega) fun f H3 s3 nf hf => ⟨f, _, rfl, hf, fun r nr => ?_⟩
          have s4 := s3.trans (same_new nr (.tup ((asc ltS (namesIn d1)).map V.str)))
          have hD4 := s4 _ _ hD
          refine ⟨_, hD4, small1000 (by rw [refT_len]; omega), M ++ [(r, asc ltS (namesIn d1))], ?_, fun p hp => ?_, ?_, fun b o hb => ?_⟩
          · rw [upd_same, refT_app]
            rfl
          · have ne : ∀ {q : Addr} {ys : List V}, upd H3 r (.tup ((asc ltS (namesIn d1)).map V.str)) q = some (.tup ys) → q ≠ D := fun {q ys} hq e => by
              rw [e, hD4] at hq
              cases hq
            rcases List.mem_append.mp hp with h | h
            · have z := s4 _ _ (tu p h)
              rw [upd_ne (ne z)]
              exact z
            · rw [List.mem_singleton.mp h]
              have z : upd H3 r (.tup ((asc ltS (namesIn d1)).map V.str)) r = some (.tup ((asc ltS (namesIn d1)).map V.str)) := upd_same
              show upd _ D _ r = _
              rw [upd_ne (ne z)]
              exact z
          · rw [rowT_app, eM, List.take_add_one, hd1, List.map_append, List.map_append]
            rfl
          · rw [upd_ne (ne_of_none hb nD)]
            exact s4 _ _ (s2' _ _ hb)
        · rintro H2 ⟨M, hD, tu, eM, s2'⟩
          rw [lx, List.take_length] at eM
          have lM : M.length ≤ 20 := by
            have z := congrArg List.length eM
            rw [rowT_len, List.length_map, List.length_map] at z
            omega
          have ndM : (rowT M).Nodup := by
            rw [eM]
            exact dis_nodup (asc_dis good.dis) (asc_ne good.nd good.ne)
          dsimp only [tNil]
          show spRisingG K [.ref D] H2 _ _
          refine rising_rows (t := false) hD tu ndM (by omega) fun fr M' H3 s3 nfr hfr tu' eM' => ?_
          have eR : rowT M' = rowsOf (ds.map namesIn) := by rw [eM', eM]; rfl
          have gr := good_rows good
          have lM' : M'.length ≤ 20 := by
            have z := congrArg List.length eR
            rw [rowT_len, (rows_perm good).length_eq, List.length_map, List.length_map] at z
            omega
          -- the names
          have hkn3 := s3 _ _ (s2' _ _ hkn)
          have ndK : (takenOf ds).Nodup := by
            refine List.pairwise_flatten.mpr ⟨fun b hb => good.nd b hb, good.dis.imp fun {b c} h x hx y hy (e : x = y) => h x hx (by rw [e]; exact hy)⟩
          have eN : asc ltS (takenOf ds) = namesOf (rowsOf (ds.map namesIn)) := asc_mem tot_ltS fun z => (mem_rows good).symm
          refine ⟨_, rfl, ?_⟩
          dsimp only [tNil]
          show spRisingG K [.ref kn] H3 _ _
          refine rising_strs (t := false) hkn3 ndK tot fun fn H4 s4 nfn hfn => ⟨fn, _, rfl, hfn, fun tn ntn => ?_⟩
          rw [eN] at hfn ⊢
          have s5 := s4.trans (same_new ntn (.tup ((namesOf (rowsOf (ds.map namesIn))).map V.str)))
          have htn : upd H4 tn (.tup ((namesOf (rowsOf (ds.map namesIn))).map V.str)) tn = some (.tup ((namesOf (rowsOf (ds.map namesIn))).map V.str)) := upd_same
          generalize upd H4 tn (.tup ((namesOf (rowsOf (ds.map namesIn))).map V.str)) = H5 at s5 htn ⊢
          generalize hR : rowsOf (ds.map namesIn) = R at *
          have hfr5 := s5 _ _ hfr
          -- the code
          refine ⟨_, rfl, tn, rfl, ⟨_, SqT.of htn⟩, fun L nL => ?_⟩
          refine lc_tup (xs := (namesOf R).map V.str) (fun i H9 => H9 L = some (.lst (((codeOf R).take i).map V.int)) ∧ Same H5 H9) ⟨upd_same, same_new nL _⟩ (fun i H9 _ h9 => SqT.of (h9.2 _ _ htn)) ?_ ?_
          · rintro i y H6 hy ⟨h6, s6⟩
            rw [List.getElem?_map] at hy
            obtain ⟨z, hz, rfl⟩ := Option.map_eq_some_iff.mp hy
            have li : i < (namesOf R).length := (List.getElem?_eq_some_iff.mp hz).1
            have mz : z ∈ R.flatten := mem_ascS.mp (List.mem_of_getElem? hz)
            have lN : (namesOf R).length ≤ 60 := by
              have q : (namesOf R).length ≤ R.flatten.length := nodup_leK (asc_nodup tot_ltS (asc_asc tot_ltS _)) fun k hk => mem_ascS.mp hk
              have := gr.good.tot
              omega
            obtain ⟨kk, hk⟩ := Option.isSome_iff_exists.mp (numOf_mem.mpr mz)
            obtain ⟨hk1, hk2, hk3⟩ := List.findIdx?_eq_some_iff_getElem.mp hk
            have ec : (codeOf R)[i]? = some ((kk : Nat) : Int) := by
              rw [codeOf, List.getElem?_map, hz]
              simp [hk]
            refine ⟨rfl, _, rfl, fr, rfl, ⟨_, SqL.of (s6 _ _ hfr5)⟩, fun D2 nD2 => ?_⟩
            refine lc_list (xs := refT M') (fun j H7 => H7 D2 = some (.lst (((R.take j).map fun b => decide (z ∈ b)).map V.bl)) ∧ Same H6 H7) ⟨upd_same, same_new nD2 _⟩ (fun j H7 _ h7 => SqL.of ((s6.trans h7.2) _ _ hfr5)) ?_ ?_
            · rintro j y H7 hy ⟨h7, s7⟩
              rw [refT, List.getElem?_map] at hy
              obtain ⟨p, hp, rfl⟩ := Option.map_eq_some_iff.mp hy
              have pm := List.mem_of_getElem? hp
              have lj : j < M'.length := (List.getElem?_eq_some_iff.mp hp).1
              have rp : R[j]? = some p.2 := by rw [← eR, rowT, List.getElem?_map, hp]; rfl
              refine ⟨rfl, _, rfl, _, rfl, p.1, true, z, p.2, rfl, rfl, s7 _ _ (s6 _ _ (s5 _ _ (tu' p pm))), _, h7, small1000 ?_, ?_, fun b o hb => ?_⟩
              · rw [List.length_map, List.length_map, List.length_take]
                omega
              · rw [upd_same, List.take_add_one, rp]
                simp only [Option.toList_some, List.map_append, List.map_cons, List.map_nil]
              · rw [upd_ne (ne_of_none hb nD2)]
                exact s7 _ _ hb
            · rintro H7 ⟨h7, s7⟩
              have lRM : R.length = (refT M').length := by rw [refT_len, ← rowT_len, eR]
              rw [← lRM, List.take_length] at h7
              refine ⟨.inl ⟨rfl, _, SqL.of h7⟩, D2, _, kk, rfl, rfl, h7, ?_, fun m hm => ?_, ?_⟩
              · rw [List.getElem?_map, List.getElem?_eq_getElem hk1]
                exact congrArg some hk2
              · have lm : m < R.length := by omega
                rw [List.getElem?_map, List.getElem?_eq_getElem lm]
                have q := hk3 m hm
                exact congrArg some (by simpa using q)
              · refine ⟨_, s7 _ _ h6, small1000 ?_, ?_, fun b o hb => ?_⟩
                · rw [List.length_map, List.length_take]
                  omega
                · rw [upd_same, List.take_add_one, ec]
                  simp
                · rw [upd_ne (ne_of_none hb nL)]
                  exact s7 _ _ (s6 _ _ hb)
          · rintro H6 ⟨h6, s6⟩
            have lc : (codeOf R).length = (namesOf R).length := List.length_map _
            rw [List.length_map, ← lc, List.take_length] at h6
            refine ⟨L, _, rfl, h6, fun tc ntc => ?_⟩
            have s7 := s6.trans (same_new ntc (.tup ((codeOf R).map V.int)))
            have htc : upd H6 tc (.tup ((codeOf R).map V.int)) tc = some (.tup ((codeOf R).map V.int)) := upd_same
            generalize upd H6 tc (.tup ((codeOf R).map V.int)) = H7 at s7 htc ⊢
            refine ⟨_, rfl, _, rfl, fr, _, rfl, s7 _ _ hfr5, fun tr ntr => ⟨_, rfl, _, rfl, fr, _, rfl, .inl (SqL.of ((same_new ntr _) _ _ (s7 _ _ hfr5))), sz (Nat.le_of_ble_eq_true rfl), fun t nt => ?_⟩⟩
            have s8 := same_new ntr (.tup (refT M'))
            have sA : Same H H7 := s9.trans (s2'.trans (s3.trans (s5.trans s7)))
            have s9' := s8.trans (same_new nt (.tup [.str "made", .ref tn, .ref tr, .ref tc, .int ((refT M').length : Nat)]))
            have sF := s7.trans s9'
            refine kG t tn tr tc M' _ (sA.trans s9') ((sA.trans s8).free nt) ⟨by rw [upd_same, refT_len], s9' _ _ (s7 _ _ htn), same_new nt _ _ _ upd_same, fun p hp => sF _ _ (s5 _ _ (tu' p hp)), eR, s9' _ _ htc⟩
end
end K1
set_option linter.all false
set_option maxRecDepth 100000
set_option maxHeartbeats 1000000
namespace K1
open PySem L2
mutual
theorem Dq.dp {K : PySem.W.Frag} {H : Hp} : ∀ {d : PyData} {v : V}, Dq H v d → d.canLay0 = true → Dp K H v d
  | .none, _, h, _ => by cases h; exact .non
  | .bool b, _, h, _ => by cases h; exact .bl b
  | .int i, _, h, _ => by cases h; exact .int i
  | .str x, _, h, _ => by cases h; exact .str x
  | .list ds, _, h, c => by
    cases h with
    | lst a b => exact .lst (SqL.of a) (DqAll.dp b (by simpa [PyData.canLay0] using c))
  | .tuple ds, _, h, c => by
    cases h with
    | tup a b => exact .tup (SqT.of a) (DqAll.dp b (by simpa [PyData.canLay0] using c))
  | .dict kvs, _, h, c => by simp [PyData.canLay0] at c
theorem DqAll.dp {K : PySem.W.Frag} {H : Hp} : ∀ {ds : List PyData} {vs : List V}, DqAll H vs ds → PyData.canLayAll0 ds = true → DpAll K H vs ds
  | [], _, h, _ => by cases h; exact .nil
  | d :: ds, _, h, c => by
    have c2 : d.canLay0 = true ∧ PyData.canLayAll0 ds = true := by simpa [PyData.canLayAll0] using c
    cases h with
    | cons a b => exact .cons (Dq.dp a c2.1) (DqAll.dp b c2.2)
end
/-- a list beside the empty one -/
def rNeNil : R2 := fun x y H Q => ∃ (p q : Addr) (xs : List V) (ds : List PyData), x = .ref p ∧ y = .ref q ∧ H p = some (.lst xs) ∧ H q = some (.lst []) ∧ DqAll H xs ds ∧ (∀ d ∈ ds, Okd d) ∧ Q (.bl (!decide (ds.length = 0))) H
theorem op_neNil {X : Cx} (hu : X.A.units + 64 < cLine) : OpR X (compareOp .NotEq) rNeNil := by
  intro pins s σ H x y v u Q I rx ry h
  obtain ⟨p, q, xs, ds, rfl, rfl, hp, hq, hs, ok, k⟩ := h
  refine op_neD hu pins s σ H _ _ v u Q I rx ry ⟨.list ds, .list [], .lst (SqL.of hp) (hs.dp (okd_all ok).1), .lst (SqL.of hq) .nil, okd_list ok, okd_list (ds := []) (fun _ h => nomatch h), ?_⟩
  rw [eqv_nil]
  exact k
theorem call_isiK {X : Cx} {K : PySem.W.Frag} (h : X.K = K := by rfl) : CallR X (.builtin "isinstance") (rIsi K) := by
  subst h
  exact call_isi
def isLst : PyData → Bool
  | .list _ => true
  | _ => false
theorem kit_lst {K : PySem.W.Frag} (d : PyData) : PySem.W.kitOne K (.type (tyD d)) (.type "list") = some (isLst d) := by
  cases d with
  | none => exact kit_ty (a := "NoneType") (r := false) (by decide +kernel)
  | bool _ => exact kit_ty (a := "bool") (r := false) (by decide +kernel)
  | int _ => exact kit_ty (a := "int") (r := false) (by decide +kernel)
  | str _ => exact kit_ty (a := "str") (r := false) (by decide +kernel)
  | list _ => exact kit_ty (a := "list") (r := true) (by decide +kernel)
  | tuple _ => exact kit_ty (a := "tuple") (r := false) (by decide +kernel)
  | dict _ => exact kit_ty (a := "dict") (r := false) (by decide +kernel)
theorem okB_items {es : List PyData} (h : okB (.list es) = true) : es.length ≤ 7 ∧ ∀ d ∈ es, innB d = true := by
  have h2 : (decide (es.length ≤ 7) && es.all innB) = true := h
  rw [Bool.and_eq_true] at h2
  exact ⟨of_decide_eq_true h2.1, List.all_eq_true.mp h2.2⟩
theorem okB_okd {es : List PyData} (h : okB (.list es) = true) : (∀ d ∈ es, Okd d) ∧ Okd (.list es) := by
  have a : ∀ d ∈ es, Okd d := fun d hd => ⟨(inn_facts ((okB_items h).2 d hd)).okd.1, Nat.le_trans (inn_facts ((okB_items h).2 d hd)).okd.2 (by decide)⟩
  refine ⟨a, ?_, ?_⟩
  · simp only [PyData.canLay0]
    exact (okd_all a).1
  · simp only [PyData.depth]
    have : ∀ l : List PyData, (∀ d ∈ l, d.depth ≤ 1) → PyData.depthAll l ≤ 1 := by
      intro l
      induction l with
      | nil => intro _; simp only [PyData.depthAll]; omega
      | cons x r ih =>
        intro hl
        have h1 := hl x (.head _)
        have h2 := ih fun d hd => hl d (.tail _ hd)
        simp only [PyData.depthAll]
        omega
    have := this es fun d hd => (inn_facts ((okB_items h).2 d hd)).okd.2
    omega
theorem okB_cut {es : List PyData} (h : okB (.list es) = true) : okB (.list (es.take 2 ++ [.str "new"])) = true := by
  obtain ⟨h1, h2⟩ := okB_items h
  show (decide _ && List.all _ _) = true
  rw [Bool.and_eq_true]
  refine ⟨decide_eq_true ?_, List.all_eq_true.mpr fun d hd => ?_⟩
  · rw [List.length_append, List.length_take]
    show min 2 es.length + 1 ≤ 7
    omega
  · rcases List.mem_append.mp hd with m | m
    · exact h2 d (List.mem_of_mem_take m)
    · rw [List.mem_singleton.mp m]
      decide +kernel
theorem names_le {es : List PyData} : (namesIn (.list es)).length ≤ es.length := strsOf_le es
theorem okB_lim {e : PyData} (h : okB e = true) : Lim e := by
  intro ds hs
  cases e with
  | list es =>
    cases hs
    obtain ⟨h1, h2⟩ := okB_items h
    exact ⟨by omega, fun z hz => ((SS_ok z ((inn_facts (h2 _ hz)).str z rfl)).2).1⟩
  | tuple _ => cases h
  | none => cases hs
  | bool _ => cases hs
  | int _ => cases hs
  | str _ => cases hs
  | dict _ => cases hs
theorem okB_lis {e : PyData} (h : okB e = true) : ∀ es, seqD e = some es → e = .list es := by
  intro es hs
  cases e with
  | list _ => cases hs; rfl
  | tuple _ => cases h
  | none => cases hs
  | bool _ => cases hs
  | int _ => cases hs
  | str _ => cases hs
  | dict _ => cases hs
theorem cut_tk (xs : List V) {m : Int} (h : 0 ≤ m) : cutV xs none (some m) = xs.take m.toNat := by
  have := cut_to id xs h
  simpa using this
theorem cut_dr (xs : List V) {m : Int} (h : 0 ≤ m) : cutV xs (some m) none = xs.drop m.toNat := by
  have e : m = (m.toNat : Int) := by omega
  rw [e]
  unfold cutV
  rw [HT.sIx_none, HT.sIx_nat, Int.toNat_natCast]
  rcases Nat.le_total m.toNat xs.length with q | q
  · rw [Nat.min_eq_left q, List.take_of_length_le (by rw [List.length_drop]; omega)]
  · rw [Nat.min_eq_right q, List.drop_eq_nil_of_le (Nat.le_refl _), List.drop_eq_nil_of_le q, List.take_nil]
theorem DqAll.take {H : Hp} : ∀ {vs : List V} {ds : List PyData} (n : Nat), DqAll H vs ds → DqAll H (vs.take n) (ds.take n)
  | _, _, 0, _ => .nil
  | _, _, _ + 1, .nil => .nil
  | _, _, n + 1, .cons h t => .cons h (DqAll.take n t)
theorem DqAll.drop {H : Hp} : ∀ {vs : List V} {ds : List PyData} (n : Nat), DqAll H vs ds → DqAll H (vs.drop n) (ds.drop n)
  | _, _, 0, h => h
  | _, _, _ + 1, .nil => .nil
  | _, _, n + 1, .cons _ t => DqAll.drop n t
/-- a new list, the spring's state off -/
theorem dq_new {H : Hp} {st l o : Addr} {cs : List Int} {n : Nat} {xs : List V} {ds : List PyData} (S : Spr H st l cs n) (no : H o = none) (hs : DqAll (off st H) xs ds) : Dq (off st (upd H o (.lst xs))) (.ref o) (.list ds) := by
  have ne := S.not no
  exact .lst (by rw [off_ne ne]; exact upd_same) (hs.same (But.off (But.of (same_new no _))))
theorem off_new {H : Hp} {st o : Addr} (no : H o = none) (u : HO) : Same (off st H) (off st (upd H o u)) := But.off (But.of (same_new no u))
theorem off_new_b {H H' : Hp} {st : Addr} (s : Same H H') : Same (off st H) (off st H') := But.off (But.of s)
def OD : List PyData := [.list [.str "A"], .list [.str "a", .int 5], .list [.none], .list [.str "zz", .str "zz"], .list [.list [.str "a"]], .list [.str "abcdefghi"], .list [.bool true], .none, .int 5, .str "ab", .list [], .dict []]
theorem OD_ok : ∀ e ∈ OD, okB e = true ∧ (namesIn e).length ≤ 2 := by
  have q : OD.all (fun e => okB e && decide ((namesIn e).length ≤ 2)) = true := by decide +kernel
  intro e he
  have := List.all_eq_true.mp q e he
  simpa [Bool.and_eq_true] using this
def spSpoilt : Sp := fun vs H Q _ => ∃ (st l a : Addr) (cs : List Int) (n : Nat) (xs : List V) (ds : List PyData), vs = [.ref st, .ref a] ∧ Spr H st l cs n ∧ H a = some (.lst xs) ∧ a ≠ st ∧ DqAll (off st H) xs ds ∧ (∀ e ∈ ds, okB e = true) ∧ ds.length ≤ 12 ∧ n < 900000 ∧
  ∀ (p : Addr) (ys : List V) (es : List PyData) (H' : Hp), Spr H' st l cs (n + 4) → But st H H' → H p = none → p ≠ st → H' p = some (.lst ys) → DqAll (off st H') ys es → (∀ e ∈ es, okB e = true) → es.length = ds.length + 1 → (takenOf es).length ≤ (takenOf ds).length + 3 → Q (.ref p) H'
section
variable {P : Program} {w : World} {K : PySem.W.Frag} {mg : Str → Option Value} {base : Heap}
abbrev NSp : List Str := ["_law_state", "_law_blocks_here", "_law_found", "_law_k", "_law_odd", "_law_some", "_law_block"]
theorem scSp : FnScope NSp ["_law_state", "_law_blocks_here"] (defScope sSpoilt) := ⟨rfl, rfl, rfl, by decide +kernel, rfl, by decide +kernel, by decide +kernel⟩
theorem ok_spoilt {f fT fO : Addr} {fd fdT fdO : FuncData} (F : Fun K "_law_spoilt" "_law_spoilt" sSpoilt f fd) (T : TxtN mg) (gT : mg "_law_take" = some (.ref fT)) (kT : PySem.W.keepIn K (.ref fT) = true) (bT : Binds K fdT ["_law_state", "_law_many"] []) (GT : FnOk P w K mg base CX0 1 fT fdT ["_law_state", "_law_many"] spTake)
    (gO : mg "_law_one" = some (.ref fO)) (kO : PySem.W.keepIn K (.ref fO) = true) (bO : Binds K fdO ["_law_state", "_law_things"] []) (GO : FnOk P w K mg base CX0 2 fO fdO ["_law_state", "_law_things"] spOne) : FnOk P w K mg base CX0 3 f fd ["_law_state", "_law_blocks_here"] spSpoilt := by
  refine F.ok scSp (fun vs H Q E h => ?_) (fun cdv A outer s H vs Q E hr h => ?_)
  · obtain ⟨st, l, a, cs, n, xs, ds, rfl, _⟩ := h
    rfl
  · obtain ⟨st, l, a, cs, n, xs, ds, rfl, S, ha, nas, hs, ok, few, hn, k⟩ := h
    have r1 : Room 1 _ := hr.mono (by decide)
    refine ⟨_, pss_cons (ps_par (i := 2) (j := 3) rfl scSp.nd rfl rfl (by decide) rfl rfl (pa_cons (pe_callTy call_list_of (by rfl) T.list (by decide +kernel) (pa_cons (pv 1) pa_nil)) (pa_cons (pe_call GT r1 (by rfl) gT kT bT .nil pass0 (pa_cons (pv 0) (pa_cons (pe_op op_add (pe_callB call_len_seq (by rfl) T.len PySem.boot_len (pa_cons (pv 1) pa_nil)) pe_int) pa_nil))) pa_nil)) (by rfl))
      (pss_cons (ps_set (i := 4) scSp.nd rfl (.inl rfl) (pe_lst (pa_cons (pe_lst (pa_cons pe_str pa_nil)) (pa_cons (pe_lst (pa_cons pe_str (pa_cons pe_int pa_nil))) (pa_cons (pe_lst (pa_cons pe_non pa_nil)) (pa_cons (pe_lst (pa_cons pe_str (pa_cons pe_str pa_nil))) (pa_cons (pe_lst (pa_cons (pe_lst (pa_cons pe_str pa_nil)) pa_nil)) (pa_cons (pe_lst (pa_cons pe_str pa_nil)) (pa_cons (pe_lst (pa_cons pe_bl pa_nil)) pa_nil)))))))))
      (pss_cons (ps_set (i := 4) scSp.nd rfl (.inl rfl) (pe_call GO hr (by rfl) gO kO bO .nil pass0 (pa_cons (pv 0) (pa_cons (pe_op op_cat (pv 4) (pe_lst (pa_cons pe_non (pa_cons pe_int (pa_cons pe_str (pa_cons (pe_lst pa_nil) (pa_cons pe_dnewK pa_nil))))))) pa_nil))))
      (pss_cons (ps_setLc (i := 5) (own := [("_law_block", 6)]) (g := gName 6) (tt := tAnd (tTest (tCB (rIsi K) (tCons (tVar 6) (tCons (tC (.ty "list")) tNil)))) (tTest (tOp rNeNil (tVar 6) (tLst tNil)))) rfl scSp.nd rfl rfl (sw_true rfl rfl rfl rfl) (pi_list (pv 1)) (blkOk_by (N := NSp) (sc := defScope sSpoilt) (by decide +kernel)) (fun _ _ _ _ _ => pg_name (i := 6) scSp.nd rfl (Or.inl rfl))
          (fun _ _ _ _ _ => pts_one (pw_and (pt_val (pe_callB (call_isiK (K := K)) (by rfl) T.isi (by decide +kernel) (pa_cons (pv 6) (pa_cons (pe_bltn (v := .ty "list") (by rfl) T.list (by decide +kernel) rfl) pa_nil)))) (pw_and1 (pt_cmpR (op_neNil hr.units) (pv 6) (pe_lst pa_nil) (nomark _)))).pt) (fun _ _ _ _ _ => pv 6))
      (C8.pss_cut (ps_if (pw_and (pt_cmpR (op_neNil hr.units) (pv 5) (pe_lst pa_nil) (nomark _)) (pw_and1 (pt_cmpR op_eq (pe_call GT r1 (by rfl) gT kT bT .nil pass0 (pa_cons (pv 0) (pa_cons pe_int pa_nil))) pe_int (nomark _)))).pt
          (pss_one (ps_set (i := 4) scSp.nd rfl (.inl rfl) (pe_op op_cat (pe_slice sl_list (pe_call GO hr (by rfl) gO kO bO .nil pass0 (pa_cons (pv 0) (pa_cons (pv 5) pa_nil))) po_none (po_some pe_int)) (pe_lst (pa_cons pe_str pa_nil))))) pss_nil)
      (pss_one (ps_ret (pe_op op_cat (pe_op op_cat (pe_slice sl_list (pv 2) po_none (po_some (pv 3))) (pe_lst (pa_cons (pv 4) pa_nil))) (pe_slice sl_list (pv 2) (po_some (pv 3)) po_none)))))))), ?_⟩
    have lx := hs.len
    refine ⟨_, rfl, a, xs, rfl, .inl (SqL.of ha), fun fo nfo => ?_⟩
    have s1 := same_new nfo (.lst xs)
    have S1 := S.mono s1
    have nfs := S.not nfo
    refine ⟨_, rfl, _, rfl, a, xs, rfl, .inl (SqL.of (s1 _ _ ha)), _, _, rfl, rfl, st, l, cs, n, _, rfl, by omega, by omega, by omega, S1, fun k0 H2 k00 k01 S2 hk2 => ⟨_, _, rfl, ?_⟩⟩
    have b2 : But st H H2 := (But.of s1).trans (But.eq hk2)
    have hf2 : H2 fo = some (.lst xs) := by rw [hk2 fo nfs]; exact upd_same
    -- the odd things
    have D0 : DqAll (off st H2) ([] : List V) ([] : List PyData) := .nil
    have E0' : Same H2 H2 := Same.refl _
    refine ⟨sz (Nat.le_of_ble_eq_true rfl), fun o1 n1 => ?_⟩
    have d1 := dq_new S2 n1 (xs := [.str "A"]) (ds := [.str "A"]) (.cons (.str "A") .nil)
    have e1 := same_new n1 (.lst [.str "A"])
    have D1 := (D0.same (off_new n1 (.lst [.str "A"]))).app (.cons d1 .nil)
    generalize L2.upd H2 o1 (.lst [.str "A"]) = G1 at d1 e1 D1 ⊢
    have T1 := S2.mono e1
    have E1' := E0'.trans e1
    clear d1
    refine ⟨sz (Nat.le_of_ble_eq_true rfl), fun o2 n2 => ?_⟩
    have d2 := dq_new T1 n2 (xs := [.str "a", .int 5]) (ds := [.str "a", .int 5]) (.cons (.str "a") (.cons (.int 5) .nil))
    have e2 := same_new n2 (.lst [.str "a", .int 5])
    have D2 := (D1.same (off_new n2 (.lst [.str "a", .int 5]))).app (.cons d2 .nil)
    generalize L2.upd G1 o2 (.lst [.str "a", .int 5]) = G2 at d2 e2 D2 ⊢
    have T2 := T1.mono e2
    have E2' := E1'.trans e2
    clear d2
    refine ⟨sz (Nat.le_of_ble_eq_true rfl), fun o3 n3 => ?_⟩
    have d3 := dq_new T2 n3 (xs := [.non]) (ds := [.none]) (.cons .non .nil)
    have e3 := same_new n3 (.lst [.non])
    have D3 := (D2.same (off_new n3 (.lst [.non]))).app (.cons d3 .nil)
    generalize L2.upd G2 o3 (.lst [.non]) = G3 at d3 e3 D3 ⊢
    have T3 := T2.mono e3
    have E3' := E2'.trans e3
    clear d3
    refine ⟨sz (Nat.le_of_ble_eq_true rfl), fun o4 n4 => ?_⟩
    have d4 := dq_new T3 n4 (xs := [.str "zz", .str "zz"]) (ds := [.str "zz", .str "zz"]) (.cons (.str "zz") (.cons (.str "zz") .nil))
    have e4 := same_new n4 (.lst [.str "zz", .str "zz"])
    have D4 := (D3.same (off_new n4 (.lst [.str "zz", .str "zz"]))).app (.cons d4 .nil)
    generalize L2.upd G3 o4 (.lst [.str "zz", .str "zz"]) = G4 at d4 e4 D4 ⊢
    have T4 := T3.mono e4
    have E4' := E3'.trans e4
    clear d4
    refine ⟨sz (Nat.le_of_ble_eq_true rfl), fun oi ni => ?_⟩
    have di := dq_new T4 ni (xs := [.str "a"]) (ds := [.str "a"]) (.cons (.str "a") .nil)
    have ei := same_new ni (.lst [.str "a"])
    have Di := D4.same (off_new ni (.lst [.str "a"]))
    generalize L2.upd G4 oi (.lst [.str "a"]) = Gi at di ei Di ⊢
    have Si := T4.mono ei
    have Ei := E4'.trans ei
    refine ⟨sz (Nat.le_of_ble_eq_true rfl), fun o5 n5 => ?_⟩
    have d5 := dq_new Si n5 (xs := [.ref oi]) (ds := [.list [.str "a"]]) (.cons di .nil)
    have e5 := same_new n5 (.lst [.ref oi])
    have D5 := (Di.same (off_new n5 (.lst [.ref oi]))).app (.cons d5 .nil)
    generalize L2.upd Gi o5 (.lst [.ref oi]) = G5 at d5 e5 D5 ⊢
    have T5 := Si.mono e5
    have E5' := Ei.trans e5
    clear d5
    refine ⟨sz (Nat.le_of_ble_eq_true rfl), fun o6 n6 => ?_⟩
    have d6 := dq_new T5 n6 (xs := [.str "abcdefghi"]) (ds := [.str "abcdefghi"]) (.cons (.str "abcdefghi") .nil)
    have e6 := same_new n6 (.lst [.str "abcdefghi"])
    have D6 := (D5.same (off_new n6 (.lst [.str "abcdefghi"]))).app (.cons d6 .nil)
    generalize L2.upd G5 o6 (.lst [.str "abcdefghi"]) = G6 at d6 e6 D6 ⊢
    have T6 := T5.mono e6
    have E6' := E5'.trans e6
    clear d6
    refine ⟨sz (Nat.le_of_ble_eq_true rfl), fun o7 n7 => ?_⟩
    have d7 := dq_new T6 n7 (xs := [.bl true]) (ds := [.bool true]) (.cons (.bl true) .nil)
    have e7 := same_new n7 (.lst [.bl true])
    have D7 := (D6.same (off_new n7 (.lst [.bl true]))).app (.cons d7 .nil)
    generalize L2.upd G6 o7 (.lst [.bl true]) = G7 at d7 e7 D7 ⊢
    have T7 := T6.mono e7
    have E7' := E6'.trans e7
    clear d7
    refine ⟨sz (Nat.le_of_ble_eq_true rfl), fun q7 nq7 => ?_⟩
    have eq7 := same_new nq7 (.lst [.ref o1, .ref o2, .ref o3, .ref o4, .ref o5, .ref o6, .ref o7])
    have Dq7 := D7.same (off_new nq7 (.lst [.ref o1, .ref o2, .ref o3, .ref o4, .ref o5, .ref o6, .ref o7]))
    have hq7 : L2.upd G7 q7 (.lst [.ref o1, .ref o2, .ref o3, .ref o4, .ref o5, .ref o6, .ref o7]) q7 = some (.lst [.ref o1, .ref o2, .ref o3, .ref o4, .ref o5, .ref o6, .ref o7]) := upd_same
    generalize L2.upd G7 q7 (.lst [.ref o1, .ref o2, .ref o3, .ref o4, .ref o5, .ref o6, .ref o7]) = G8 at eq7 Dq7 hq7 ⊢
    have T8 := T7.mono eq7
    have E8' := E7'.trans eq7
    -- one of them
    refine ⟨_, rfl, _, rfl, sz (Nat.le_of_ble_eq_true rfl), fun o8 n8 => ?_⟩
    have d8 := dq_new T8 n8 (xs := []) (ds := []) .nil
    have e8 := same_new n8 (.lst [])
    have D8 := Dq7.same (off_new n8 (.lst []))
    have hq8 := e8 _ _ hq7
    generalize L2.upd G8 o8 (.lst []) = G9 at d8 e8 D8 hq8 ⊢
    have T9 := T8.mono e8
    have E9' := E8'.trans e8
    intro o9 n9
    have e9 := same_new n9 (.dK [])
    have d9 : Dq (off st (L2.upd G9 o9 (.dK []))) (.ref o9) (.dict []) := .emp (by rw [off_ne (T9.not n9)]; exact upd_same)
    have D9 := ((D8.same (off_new n9 (.dK []))).app (.cons .non (.cons (.int 5) (.cons (.str "ab") (.cons (d8.same (off_new n9 (.dK []))) (.cons d9 .nil))))))
    have hq9 := e9 _ _ hq8
    generalize L2.upd G9 o9 (.dK []) = G10 at d9 e9 D9 hq9 ⊢
    have T10 := T9.mono e9
    have E10' := E9'.trans e9
    refine ⟨sz (Nat.le_of_ble_eq_true rfl), fun q8 nq8 => ⟨q7, q8, _, _, rfl, rfl, (same_new nq8 _) _ _ hq9, upd_same, sz (Nat.le_of_ble_eq_true rfl), fun q9 nq9 => ?_⟩⟩
    have eqa := (same_new nq8 (.lst [.non, .int 5, .str "ab", .ref o8, .ref o9])).trans (same_new nq9 (.lst ([.ref o1, .ref o2, .ref o3, .ref o4, .ref o5, .ref o6, .ref o7] ++ [.non, .int 5, .str "ab", .ref o8, .ref o9])))
    have T11 := T10.mono eqa
    have D11 := D9.same (But.off (But.of eqa))
    have hq11 : L2.upd (L2.upd G10 q8 (.lst [.non, .int 5, .str "ab", .ref o8, .ref o9])) q9 (.lst ([.ref o1, .ref o2, .ref o3, .ref o4, .ref o5, .ref o6, .ref o7] ++ [.non, .int 5, .str "ab", .ref o8, .ref o9])) q9 = some (.lst ([.ref o1, .ref o2, .ref o3, .ref o4, .ref o5, .ref o6, .ref o7] ++ [.non, .int 5, .str "ab", .ref o8, .ref o9])) := upd_same
    have nq9s : q9 ≠ st := (T10.mono (same_new nq8 _)).not nq9
    generalize L2.upd (L2.upd G10 q8 (.lst [.non, .int 5, .str "ab", .ref o8, .ref o9])) q9 (.lst ([.ref o1, .ref o2, .ref o3, .ref o4, .ref o5, .ref o6, .ref o7] ++ [.non, .int 5, .str "ab", .ref o8, .ref o9])) = G11 at eqa T11 D11 hq11 ⊢
    have E11' := E10'.trans eqa
    have DOD : DqAll (off st G11) ([.ref o1, .ref o2, .ref o3, .ref o4, .ref o5, .ref o6, .ref o7] ++ [.non, .int 5, .str "ab", .ref o8, .ref o9]) OD := D11
    clear D0 D1 D2 D3 D4 Di D5 D6 D7 Dq7 D8 D9 D11 di d8 d9
    refine ⟨st, l, q9, cs, _, _, rfl, hq11, nq9s, Nat.le_of_ble_eq_true rfl, Nat.le_of_ble_eq_true rfl, by omega, T11, fun od H3 mod S3 hk3 => ?_⟩
    obtain ⟨jx, hjx⟩ := List.getElem?_of_mem mod
    obtain ⟨eo, hjo, deo⟩ := DOD.get hjx
    obtain ⟨oko, smo⟩ := OD_ok eo (List.mem_of_getElem? hjo)
    have b3 : But st G11 H3 := But.eq hk3
    have bA : But st H H3 := b2.trans ((But.of E11').trans b3)
    have deo3 : Dq (off st H3) od eo := deo.same b3.off
    have hf3 : H3 fo = some (.lst xs) := b3 fo _ nfs (E11' _ _ hf2)
    have ha3 : H3 a = some (.lst xs) := bA a _ nas ha
    clear DOD hjx mod
    -- those that are lists, not empty
    refine ⟨_, rfl, a, rfl, ⟨_, SqL.of ha3⟩, fun so nso => ?_⟩
    have nsos := S3.not nso
    have nso0 : H so = none := bA.free nso nsos
    refine lc_list (xs := xs) (fun i H9 => ∃ (acc : List V) (es : List PyData), H9 so = some (.lst acc) ∧ DqAll (off st H) acc es ∧ (∀ e ∈ es, okB e = true ∧ ∃ l, e = .list l) ∧ acc.length ≤ i ∧ Same H3 H9) ⟨[], [], upd_same, .nil, (fun _ h => nomatch h), Nat.le_refl _, same_new nso _⟩ (fun i H9 _ h9 => by obtain ⟨_, _, _, _, _, _, q⟩ := h9; exact SqL.of (q _ _ ha3)) ?_ ?_
    · rintro i x H9 hx ⟨acc, es, h9, da, oka, la, s9⟩
      obtain ⟨e, he, dx⟩ := hs.get hx
      have me := List.mem_of_getElem? he
      have li : i < ds.length := (List.getElem?_eq_some_iff.mp he).1
      have bB : But st H H9 := bA.trans (But.of s9)
      have dx9 : Dq H9 x e := dx.same (bB.off.trans off_same)
      refine ⟨rfl, _, rfl, x, .ty "list", .type (tyD e), .type "list", isLst e, rfl, .ty _, dx9.ty, kit_lst e, _, rfl, ?_⟩
      have okk := ok e me
      have skip : ∃ (acc : List V) (es : List PyData), H9 so = some (.lst acc) ∧ DqAll (off st H) acc es ∧ (∀ e ∈ es, okB e = true ∧ ∃ l, e = .list l) ∧ acc.length ≤ i + 1 ∧ Same H3 H9 := ⟨acc, es, h9, da, oka, by omega, s9⟩
      cases e with
      | list ls =>
        refine iteT ?_
        cases dx with
        | @lst ax ys _ hA hys =>
          have hax := off_some hA
          have hax9 : H9 ax = some (.lst ys) := bB ax _ hax.1 hax.2
          refine ⟨_, rfl, sz (Nat.zero_le _), fun z nz => ?_⟩
          refine ⟨ax, z, ys, ls, rfl, rfl, (same_new nz _) _ _ hax9, upd_same, hys.same ((bB.off.trans off_same).trans (same_new nz _)), (okB_okd okk).1, _, rfl, ?_⟩
          refine ite2 (fun c => ⟨_, rfl, ?_⟩) fun c => ?_
          · refine ⟨acc, (same_new nz _) _ _ h9, small1000 (by omega), acc ++ [.ref ax], es ++ [.list ls], upd_same, da.app (.cons (.lst hA hys) .nil), fun e' he' => ?_, by rw [List.length_append]; show acc.length + 1 ≤ i + 1; omega, fun b o hb => ?_⟩
            · rcases List.mem_append.mp he' with m | m
              · exact oka e' m
              · rw [List.mem_singleton.mp m]
                exact ⟨okk, ls, rfl⟩
            · rw [upd_ne (ne_of_none hb nso)]
              exact (same_new nz _) _ _ (s9 _ _ hb)
          · exact ⟨acc, es, (same_new nz _) _ _ h9, da, oka, by omega, s9.trans (same_new nz _)⟩
      | none => exact iteF (iteF skip)
      | bool _ => exact iteF (iteF skip)
      | int _ => exact iteF (iteF skip)
      | str _ => exact iteF (iteF skip)
      | tuple _ => exact iteF (iteF skip)
      | dict _ => exact iteF (iteF skip)
    · rintro H4 ⟨acc, es, h4, da, oka, la, s4⟩
      rw [lx] at la
      have bC : But st H H4 := bA.trans (But.of s4)
      have S4 := S3.mono s4
      -- the odd thing that is put in
      refine ⟨fun σ' H' => ∃ (ow : V) (ew : PyData), σ' = [some (.ref st), some (.ref a), some (.ref fo), some (.int k0), some ow, some (.ref so), none] ∧ Dq (off st H') ow ew ∧ okB ew = true ∧ (namesIn ew).length ≤ 3 ∧ Spr H' st l cs (n + 4) ∧ But st H H' ∧ H' fo = some (.lst xs), ?_, ?_⟩
      · refine ⟨_, rfl, sz (Nat.zero_le _), fun z nz => ?_⟩
        have ez := same_new nz (.lst [])
        have lae := da.len
        have stay : ∀ H', But st H4 H' → Spr H' st l cs (n + 4) → ∃ (ow : V) (ew : PyData), [some (V.ref st), some (.ref a), some (.ref fo), some (.int k0), some od, some (.ref so), none] = [some (.ref st), some (.ref a), some (.ref fo), some (.int k0), some ow, some (.ref so), none] ∧ Dq (off st H') ow ew ∧ okB ew = true ∧ (namesIn ew).length ≤ 3 ∧ Spr H' st l cs (n + 4) ∧ But st H H' ∧ H' fo = some (.lst xs) := fun H' b' S' => ⟨od, eo, rfl, (deo3.same (off_new_b s4)).same b'.off, oko, by omega, S', bC.trans b', b' fo _ nfs (s4 _ _ hf3)⟩
        refine ⟨so, z, acc, es, rfl, rfl, ez _ _ h4, upd_same, da.same ((bC.off.trans off_same).trans ez), fun d hd => ?_, _, rfl, ?_⟩
        · obtain ⟨g1, l1, rfl⟩ := oka d hd
          exact (okB_okd g1).2
        · refine ite2 (fun c => ?_) fun c => ?_
          · refine ⟨_, rfl, st, l, cs, _, 2, rfl, by decide, by decide, by omega, S4.mono ez, fun r H5 r0 r2 S5 hk5 => ⟨rfl, _, rfl, ?_⟩⟩
            have b5 : But st H4 H5 := (But.of ez).trans (But.eq hk5)
            refine ite2 (fun c2 => ?_) fun c2 => ?_
            · have le0 : es.length ≠ 0 := by
                intro e0
                rw [decide_eq_true e0] at c
                cases c
              refine ⟨_, rfl, _, rfl, st, l, so, cs, _, _, rfl, b5 so _ nsos h4, nsos, by omega, by omega, by omega, S5, fun x H6 mx S6 hk6 => ?_⟩
              have b6 : But st H4 H6 := b5.trans (But.eq hk6)
              obtain ⟨j, hj⟩ := List.getElem?_of_mem mx
              obtain ⟨ex, hex, dx⟩ := da.get hj
              obtain ⟨okx, ls, rfl⟩ := oka ex (List.mem_of_getElem? hex)
              cases dx with
              | @lst ax ys _ hA hys =>
                have hax := off_some hA
                have hax6 : H6 ax = some (.lst ys) := (bC.trans b6) ax _ hax.1 hax.2
                refine ⟨2, rfl, ax, ys, rfl, SqL.of hax6, fun p1 np1 => ?_⟩
                rw [cut_tk ys (by decide)]
                refine ⟨sz (Nat.le_of_ble_eq_true rfl), fun p2 np2 => ?_⟩
                have f1 := same_new np1 (.lst (ys.take (2 : Int).toNat))
                have f2 := same_new np2 (.lst [.str "new"])
                have lys := hys.len
                refine ⟨p1, p2, _, _, rfl, rfl, f2 _ _ upd_same, upd_same, sz ?_, fun p3 np3 => ?_⟩
                · rw [List.length_take]
                  show min 2 ys.length + 1 ≤ 1000
                  omega
                · have f3 := same_new np3 (.lst (ys.take (2 : Int).toNat ++ [.str "new"]))
                  have fA := (f1.trans f2).trans f3
                  have S7 := S6.mono (f1.trans f2)
                  have dn : DqAll (off st (L2.upd (L2.upd H6 p1 (.lst (ys.take (2 : Int).toNat))) p2 (.lst [.str "new"]))) (ys.take (2 : Int).toNat ++ [.str "new"]) (ls.take 2 ++ [.str "new"]) := ((hys.take 2).same ((bC.trans b6).off.trans (But.off (But.of (f1.trans f2))))).app (.cons (.str "new") .nil)
                  refine ⟨_, .list (ls.take 2 ++ [.str "new"]), rfl, dq_new S7 np3 dn, okB_cut okx, Nat.le_trans names_le ?_, (S6.mono fA).up (by omega), (bC.trans b6).trans (But.of fA), fA _ _ (b6 fo _ nfs (s4 _ _ hf3))⟩
                  rw [List.length_append, List.length_take]
                  show min 2 ls.length + 1 ≤ 3
                  omega
            · exact stay H5 b5 (S5.up (by omega))
          · exact stay _ (But.of ez) ((S4.mono ez).up (by omega))
      · rintro σ' H5 ⟨ow, ew, rfl, dw, okw, nw, S5, b5, hf5⟩
        refine ⟨_, rfl, _, rfl, k0, rfl, fo, xs, rfl, SqL.of hf5, fun p1 np1 => ⟨_, rfl, sz (Nat.le_of_ble_eq_true rfl), fun p2 np2 => ?_⟩⟩
        rw [cut_tk xs k00] at np2 ⊢
        have f1 := same_new np1 (.lst (xs.take k0.toNat))
        have f2 := same_new np2 (.lst [ow])
        refine ⟨p1, p2, _, _, rfl, rfl, f2 _ _ upd_same, upd_same, sz ?_, fun p3 np3 => ?_⟩
        · rw [List.length_take]
          show min k0.toNat xs.length + 1 ≤ 1000
          omega
        · have f3 := same_new np3 (.lst (xs.take k0.toNat ++ [ow]))
          have fB := (f1.trans f2).trans f3
          refine ⟨_, rfl, _, rfl, k0, rfl, fo, xs, rfl, SqL.of (fB _ _ hf5), fun p4 np4 => ?_⟩
          rw [cut_dr xs k00] at ⊢
          have f4 := same_new np4 (.lst (xs.drop k0.toNat))
          refine ⟨p3, p4, _, _, rfl, rfl, f4 _ _ upd_same, upd_same, sz ?_, fun p np => ?_⟩
          · rw [List.length_append, List.length_take, List.length_drop]
            show min k0.toNat xs.length + 1 + _ ≤ 1000
            omega
          · have f5 := same_new np (.lst (xs.take k0.toNat ++ [ow] ++ xs.drop k0.toNat))
            have fA := (fB.trans f4).trans f5
            have S6 := S5.mono (fB.trans f4)
            have nps := S6.not np
            have np0 : H p = none := (b5.trans (But.of (fB.trans f4))).free np nps
            have hsA := hs.same (b5.off.trans (But.off (But.of fA)))
            have dwA := dw.same (But.off (st := st) (But.of fA))
            refine k p _ (ds.take k0.toNat ++ [ew] ++ ds.drop k0.toNat) _ (S5.mono fA) (b5.trans (But.of fA)) np0 nps upd_same (((hsA.take k0.toNat).app (.cons dwA .nil)).app (hsA.drop k0.toNat)) (fun e he => ?_) ?_ ?_
            · rcases List.mem_append.mp he with m | m
              · rcases List.mem_append.mp m with m | m
                · exact ok e (List.mem_of_mem_take m)
                · rw [List.mem_singleton.mp m]
                  exact okw
              · exact ok e (List.mem_of_mem_drop m)
            · rw [List.length_append, List.length_append, List.length_take, List.length_drop]
              show min k0.toNat ds.length + 1 + _ = _
              omega
            · have z : takenOf ds = takenOf (ds.take k0.toNat) ++ takenOf (ds.drop k0.toNat) := by
                unfold takenOf
                rw [← List.flatten_append, ← List.map_append, List.take_append_drop]
              have z2 : takenOf (ds.take k0.toNat ++ [ew] ++ ds.drop k0.toNat) = takenOf (ds.take k0.toNat) ++ namesIn ew ++ takenOf (ds.drop k0.toNat) := by
                rw [← takenOf_snoc]
                unfold takenOf
                rw [← List.flatten_append, ← List.map_append]
              rw [z2, z, List.length_append, List.length_append, List.length_append]
              omega
end
end K1
set_option linter.all false
set_option maxRecDepth 100000
set_option maxHeartbeats 1000000
namespace K1
open PySem L2
def spMInitQ (C MC : Addr) : Sp := fun vs H Q E => ∃ (x : Addr) (v : V) (dx : Addr) (d : PyData), vs = [.ref x, v] ∧ H x = some (.ins C dx []) ∧ Dq H v d ∧ LimB d ∧ (∀ i, badD d = some i → Raises1 MC "index" H E (.int (i : Nat))) ∧
  (badD d = none → ∀ (H' : Hp), (∀ b o, b ≠ x → H b = some o → H' b = some o) → MeetAt C H' x (rowsOf (blocksD d)) → Q .non H')
section
open PySem.Spec PyProof.Rows
variable {X : Cx} {CX : CXT} {k : Nat} {f C : Addr} {fd : FuncData} {ps : List Str} {sp : Sp} {x : Str} {e : Expr} {es : List Expr} {t : TA} {p pos : Pos} {E : L2.St → XK}
/-- C(..), what its __init__ lets out taken where it stands -/
def tMakeW (C : Addr) (sp : Sp) (E : L2.St → XK) (t : TA) : TE := fun σ H Q => t σ H fun vs H1 => ∀ x dx, H1 x = none → H1 dx = none → dx ≠ x →
  sp (.ref x :: vs) (upd (upd H1 dx (.own x)) x (.ins C dx [])) (fun v H2 => v = .non ∧ Q (.ref x) H2) (E σ)
theorem pe_makeW (M : Mk X.K C f) (F : FnOk X.prog X.w X.K X.mg X.base CX k f fd ps sp) (hr : Room (k + 1) X.A) (hg : Gl X x) (hm : X.mg x = some (.ref C)) (hb : Binds X.K fd ps []) (hx : ∀ σ, PassesAt CX X σ (E σ))
    (ha : PA X (e :: es) t) (hdb : (x == ("__debug__" : Str)) = false := by decide) (he : starEach (e :: es) X.env = (false, eval e X.env) :: starEach es X.env := by rfl) (hpl : (backTo pos (starEach es X.env)).any (·.1) = false := by rfl) :
    PE X (.Call (.Name x p) (e :: es) [] pos) (tMakeW C sp E t) := by
  constructor
  intro pins s σ H Q I h
  refine wpAny_Call_Name_kw (ld_glob I hg hm ?_ hdb)
  refine PySem.W.callWith_K (h₀ := X.base) I.ok.mod.kin M.kp (thn (ha.run pos pins s σ H _ I h) fun us s1 ⟨vs, H1, J, r, q⟩ => ⟨J.kIn, ?_⟩) he hpl
  have want := q (s1.heap.objs.size + 1) s1.heap.objs.size (J.hok.fresh (Nat.le_succ _)) (J.hok.fresh (Nat.le_refl _)) (Nat.ne_of_lt (Nat.lt_succ_self _))
  have J2 := Inv.made (C := C) J
  have rel : Vals (V.ref (s1.heap.objs.size + 1) :: vs) (Value.ref (s1.heap.objs.size + 1) :: us) := .cons rfl r
  have many : (Value.ref (s1.heap.objs.size + 1) :: us).length = ps.length := by
    rw [← rel.length]
    exact F.len _ _ _ _ want
  have bd := hb _ (Value.ref (s1.heap.objs.size + 1) :: us) J2.kIn (by rw [List.append_nil]; exact many)
  rw [List.append_nil] at bd
  refine wpAny_call (make_map (f := f) J.kIn M.makes M.init (beq_iff_eq.mp M.fn) (codeAny_mono (F.run _ X.stack _ _ ⟨Value.ref (s1.heap.objs.size + 1) :: us, []⟩ _ _ _ (E σ) (hr.make C us []) (J2.env0.make C us []) bd rel want) fun z s' back => ?_))
  cases z with
  | error err => exact hx σ pins _ _ err s' J2 back
  | ok fl =>
    cases fl with
    | ret u =>
      obtain ⟨v, H', J3, rv, ev, q3⟩ := J2.after back
      subst ev
      exact ⟨rv, ⟨V.ref (s1.heap.objs.size + 1), H', J3, rfl, q3⟩⟩
    | next => exact False.elim back
    | brk => exact False.elim back
    | cont => exact False.elim back
end
section
variable {P : Program} {w : World} {K : PySem.W.Frag} {mg : Str → Option Value} {base : Heap} {C MC : Addr}
theorem ok_minitQ {f fA : Addr} {fd fdA : FuncData} (F : Fun K "__init__" "Meeting.__init__" cMeetingInit f fd) (c : MeetC K mg C) (GA : FnOk P w K mg base (L2.CX P w) 4 fA fdA ["things"] (spAscQ MC)) (gA : mg "ascending_blocks" = some (.ref fA)) (kA : PySem.W.keepIn K (.ref fA) = true) (bA : Binds K fdA ["things"] []) (T : TxtM mg) :
    FnOk P w K mg base (L2.CX P w) 5 f fd ["self", "blocks"] (spMInitQ C MC) := by
  refine F.okX scMi (fun vs H Q E h => ?_) (fun cdv A outer s H vs Q E hr h => ?_)
  · obtain ⟨x, v0, dx, d0, rfl, _⟩ := h
    rfl
  · obtain ⟨x, v0, dx, d0, rfl, hx, hv0, lim, kR, k⟩ := h
    have pk := passes_call (E := E) (takes_of (X := cxOf (L2.CX P w) P w K mg base NMi "Meeting.__init__" (defScope cMeetingInit) f cdv A outer s H E) rfl rfl rfl rfl) fun _ _ _ _ h => h
    have hu := hu_of hr
    refine ⟨_, pss_cons (ps_fld (pv 0) (pe_call GA hr (by rfl) gA kA bA .nil pk (pa_cons (pv 1) pa_nil)) rfl)
      (pss_cons (ps_fld (pv 0) (pe_dc2 (own := [("number", 2), ("block", 3), ("name", 4)]) (vs1 := [4]) (g := gTup K 2 (gCons (gName 2) (gCons (gName 3) gNil))) (g1 := gName 4) (wi1 := iTup K (tVar 3)) rfl scMi.nd (pi_enumT (by rfl) T.enum (pa_cons (pe_fld (pv 0) rfl) pa_nil)) (blkOk_by (N := NMi) (sc := defScope cMeetingInit) (by decide +kernel)) (by decide)
          (fun _ _ _ _ _ => pg_tup rfl (pgs_cons (pg_name (i := 2) scMi.nd rfl (Or.inl rfl)) (pgs_cons (pg_name (i := 3) scMi.nd rfl (Or.inl rfl)) pgs_nil)))
          (fun _ _ _ _ _ => pi_tup (pv 3)) (fun _ _ _ _ _ => pg_name (i := 4) scMi.nd rfl (Or.inl rfl)) (fun _ _ _ _ _ => pv 4) (fun _ _ _ _ _ => pv 2)) rfl)
      (pss_cons (ps_fld (pv 0) (pe_callTy call_tuple_of (by rfl) T.tuple (by decide +kernel) (pa_cons (pe_callB (cr_sortedX rfl) (by rfl) T.sorted (by decide +kernel) (pa_cons (pe_callTy (cr_setX rfl) (by rfl) T.set (by decide +kernel) (pa_cons (pe_fld (pv 0) rfl) pa_nil)) pa_nil)) pa_nil)) rfl)
      (pss_one (ps_fld (pv 0) (pe_callTy call_tuple_of (by rfl) T.tuple (by decide +kernel) (pa_cons (pe_lc (own := [("name", 4)]) (g := gName 4) (tt := tYes) (te := tDGet (tFld K (tVar 0) "_numbers") (tVar 4)) rfl scMi.nd (pi_tup (pe_fld (pv 0) rfl)) (blkOk_by (N := NMi) (sc := defScope cMeetingInit) (by decide +kernel))
          (fun _ _ _ _ _ => pg_name (i := 4) scMi.nd rfl (Or.inl rfl)) (fun _ _ _ _ _ => pts_nil) (fun _ _ _ _ _ => pe_dget hu (pe_fld (pv 0) rfl) (pv 4) (fun _ _ => rfl))) pa_nil)) rfl)))), ?_⟩
    -- self.blocks
    refine ⟨_, rfl, v0, d0, rfl, hv0, lim, kR, fun b0 t M H1 s1 nt ht hM eM => ?_⟩
    have good := good_of lim b0
    replace k := k b0
    have gr := good_rows good
    rw [← eM] at gr
    refine ⟨_, rfl, x, C, dx, [], rfl, s1 _ _ hx, c.cls, c.nb, by decide, ?_⟩
    have ntx : t ≠ x := fun e => by rw [e, hx] at nt; cases nt
    have x2 : upd H1 x (.ins C dx (putF "blocks" (.ref t) [])) x = some (.ins C dx [("blocks", .ref t)]) := upd_same
    have b2 : ∀ b o, b ≠ x → H1 b = some o → upd H1 x (.ins C dx (putF "blocks" (.ref t) [])) b = some o := fun b o n hb => by rw [upd_ne n]; exact hb
    generalize upd H1 x (.ins C dx (putF "blocks" (.ref t) [])) = H2 at x2 b2 ⊢
    have t2 : H2 t = some (.tup (refT M)) := b2 t _ ntx ht
    have M2 : TuT H2 M := fun p hp => b2 p.1 _ (fun e => by
      have z := hM p hp
      rw [e, s1 _ _ hx] at z
      cases z) (hM p hp)
    -- self._numbers
    refine ⟨_, rfl, x, C, dx, _, _, rfl, x2, c.cls, c.nb, rfl, t, refT M, rfl, SqT.of t2, fun D nD => ?_⟩
    have nDx : D ≠ x := fun e => by rw [e, x2] at nD; cases nD
    refine dc2_it (walk_enumT (xs := refT M)) (fun i H9 => ∃ kvs, H9 D = some (.dK kvs) ∧ kvs.length ≤ ((rowT M).take i).flatten.length ∧ (∀ x, valV kvs (.inr x) = (numOf ((rowT M).take i) x).map fun k => V.int (k : Nat)) ∧ (∀ k ∈ kvs.map (·.1), ∃ x, k = .inr x) ∧ ∀ b o, H2 b = some o → H9 b = some o)
      ⟨[], upd_same, Nat.zero_le _, fun x => by simp [valV, numOf], fun k hk => (by simp at hk), fun b o hb => by rw [upd_ne (ne_of_none hb nD)]; exact hb⟩ (fun i H9 _ ⟨kvs, _, _, _, _, q⟩ => SqT.of (q _ _ t2)) ?_ ?_
    · rintro i y H9 H10 hi ⟨kvs, hD, lk, vk, ik, s9⟩ ⟨T0, u, v, rfl, nT0, e10, eu, ev⟩
      rw [refT_len] at hi
      have hp : M[i]? = some M[i] := List.getElem?_eq_getElem hi
      generalize M[i] = p at hp
      have pm := List.mem_of_getElem? hp
      have rp : (rowT M)[i]? = some p.2 := by rw [rowT, List.getElem?_map, hp]; rfl
      have pr : p.2 ∈ rowT M := List.mem_of_getElem? rp
      obtain rfl : v = .ref p.1 := by
        have ev2 : (refT M)[i]? = some v := ev
        rw [refT, List.getElem?_map, hp] at ev2
        exact (Option.some.inj ev2).symm
      cases eu
      have s10 : Same H9 H10 := by rw [e10]; exact same_new nT0 _
      have g10 : H10 T0 = some (.tup [.int (i : Nat), .ref p.1]) := by rw [e10]; exact upd_same
      have ft : ((rowT M).take (i + 1)).flatten.length = ((rowT M).take i).flatten.length + p.2.length := by
        rw [List.take_add_one, rp, List.flatten_append, List.length_append]
        simp
      have tot : ((rowT M).take (i + 1)).flatten.length ≤ 60 := by
        refine Nat.le_trans ?_ gr.good.tot
        have e : (rowT M) = (rowT M).take (i + 1) ++ (rowT M).drop (i + 1) := (List.take_append_drop _ _).symm
        have e2 := congrArg (fun l : List (List Str) => l.flatten.length) e
        simp only [List.flatten_append, List.length_append] at e2
        omega
      refine ⟨T0, [.int (i : Nat), .ref p.1], rfl, SqT.of g10, rfl, _, [.ref p.1], rfl, .ref p.1, [], rfl, rfl, rfl, ?_⟩
      refine ⟨_, rfl, p.1, rfl, ⟨_, SqT.of (s10 _ _ (s9 _ _ (M2 p pm)))⟩, ?_⟩
      refine dcIn_it (walk_tup (xs := p.2.map V.str)) (fun j H12 => ∃ kv2, H12 D = some (.dK kv2) ∧ kv2.length ≤ kvs.length + j ∧ (∀ x, valV kv2 (.inr x) = match numOf ((rowT M).take i) x with
          | some k => some (V.int (k : Nat))
          | none => if x ∈ p.2.take j then some (V.int (i : Nat)) else none) ∧ (∀ k ∈ kv2.map (·.1), ∃ x, k = .inr x) ∧ ∀ b o, H2 b = some o → H12 b = some o)
        ⟨kvs, s10 _ _ hD, Nat.le_refl _, fun x => by rw [vk x]; cases numOf ((rowT M).take i) x <;> simp, ik, fun b o hb => s10 _ _ (s9 _ _ hb)⟩ (fun j H12 _ ⟨_, _, _, _, _, q⟩ => SqT.of (q _ _ (M2 p pm))) ?_ ?_
      · rintro j y H12 H13 hj ⟨kv2, h12, l12, v12, i12, s12⟩ ⟨rfl, hy⟩
        rw [List.getElem?_map] at hy
        obtain ⟨z, hz, rfl⟩ := Option.map_eq_some_iff.mp hy
        have lj : j < p.2.length := (List.getElem?_eq_some_iff.mp hz).1
        refine ⟨rfl, _, rfl, _, rfl, kv2, .inr z, rfl, h12, small1000 (by omega), putK kv2 (.inr z) (.int (i : Nat)), upd_same, Nat.le_trans (length_putK _ _ _) (by omega), fun x => ?_, fun k hk => ?_, fun b o hb => ?_⟩
        · have hzi : numOf ((rowT M).take i) z = none := by
            cases c1 : numOf ((rowT M).take i) z with
            | none => rfl
            | some k =>
              obtain ⟨b, hb, hzb⟩ := numOf_some c1
              have hk : k < i := by
                have := (List.getElem?_eq_some_iff.mp hb).1
                rw [List.length_take] at this
                omega
              rw [List.getElem?_take_of_lt hk] at hb
              have := dis_at gr.good.dis hb rp hzb (List.mem_of_getElem? hz)
              omega
          rw [valV_put, List.take_add_one, hz]
          by_cases e : x = z
          · subst e
            rw [if_pos rfl, hzi]
            simp
          · rw [if_neg (fun q : (Sum.inr x : Key) = Sum.inr z => e (by injection q)), v12 x]
            cases numOf ((rowT M).take i) x with
            | some k => rfl
            | none => simp [e]
        · rw [key_mem, valV_put] at hk
          by_cases e : k = .inr z
          · exact ⟨z, e⟩
          · rw [if_neg e] at hk
            exact i12 k (key_mem.mpr hk)
        · rw [upd_ne (ne_of_none hb nD)]
          exact s12 b o hb
      · rintro H12 ⟨kv2, h12, l12, v12, i12, s12⟩
        rw [List.length_map] at l12 v12
        rw [List.take_length] at v12
        refine ⟨kv2, h12, by omega, fun x => ?_, i12, s12⟩
        rw [v12 x, List.take_add_one, rp]
        have e : ((rowT M).take i ++ (some p.2).toList) = (rowT M).take i ++ [p.2] := rfl
        have li : ((rowT M).take i).length = i := by
          rw [List.length_take, rowT_len]
          omega
        rw [e, numOf_snoc, li]
        cases numOf ((rowT M).take i) x with
        | some k => rfl
        | none =>
          by_cases h : x ∈ p.2
          · simp [h]
          · simp [h]
    · rintro H9 ⟨kvs, hD, lk, vk, ik, s9⟩
      rw [refT_len, List.take_of_length_le (by rw [rowT_len]; exact Nat.le_refl _)] at lk vk
      have s9' := s9
      refine ⟨_, rfl, x, C, dx, _, rfl, s9 _ _ x2, c.cls, c.nu, (by show 1 < 1000; decide), ?_⟩
      have x4 : upd H9 x (.ins C dx (putF "_numbers" (.ref D) [("blocks", .ref t)])) x = some (.ins C dx [("blocks", .ref t), ("_numbers", .ref D)]) := upd_same
      have b4 : ∀ b o, b ≠ x → H9 b = some o → upd H9 x (.ins C dx (putF "_numbers" (.ref D) [("blocks", .ref t)])) b = some o := fun b o n hb => by rw [upd_ne n]; exact hb
      generalize upd H9 x (.ins C dx (putF "_numbers" (.ref D) [("blocks", .ref t)])) = H4 at x4 b4 ⊢
      have D4 : H4 D = some (.dK kvs) := b4 D _ nDx hD
      -- self.names
      have tot := gr.good.tot
      refine ⟨_, rfl, x, C, dx, _, _, rfl, x4, c.cls, c.nu, rfl, D, kvs.map (·.1), rfl, .inr (.inr ⟨kvs, D4, rfl, by omega⟩), by rw [List.length_map]; omega, fun st DD nst ndD mD => ?_⟩
      have eDD : DD = (DD.map txK).map Sum.inr := by
        rw [List.map_map]
        refine (List.map_id DD).symm.trans (List.map_congr_left fun k hk => ?_)
        obtain ⟨z, e⟩ := ik k ((mD k).mp hk)
        rw [e]
        rfl
      have mSS : ∀ z, z ∈ DD.map txK ↔ z ∈ (rowT M).flatten := fun z => by
        rw [← numOf_mem, ← Option.isSome_map (f := fun k : Nat => V.int (k : Nat)), ← vk z, ← key_mem, ← mD, List.mem_map]
        constructor
        · rintro ⟨k, hk, rfl⟩
          obtain ⟨y, e⟩ := ik k ((mD k).mp hk)
          rw [e] at hk ⊢
          exact hk
        · exact fun h => ⟨.inr z, h, rfl⟩
      have lSS : (DD.map txK).length < 64 := by
        rw [List.length_map]
        have z : DD.length ≤ (kvs.map (·.1)).length := nodup_leK ndD fun k hk => (mD k).mp hk
        rw [List.length_map] at z
        omega
      have eN : asc ltS (DD.map txK) = namesOf (rowT M) := asc_mem tot_ltS mSS
      generalize hKO : KS _ st DD = KO
      have s5 : Same H4 (upd H4 st KO) := same_new nst _
      refine ⟨st, DD, DD.map txK, rfl, by rw [hKO]; exact upd_same, eDD, lSS, fun q nq => ?_⟩
      rw [eN] at *
      have s6 := s5.trans (same_new nq (.lst ((namesOf (rowT M)).map V.str)))
      refine ⟨q, _, rfl, .inl ⟨SqL.of upd_same, fun r nr => ?_⟩⟩
      have s7 := s6.trans (same_new nr (.tup ((namesOf (rowT M)).map V.str)))
      have r7 : upd (upd (upd H4 st KO) q (.lst ((namesOf (rowT M)).map V.str))) r (.tup ((namesOf (rowT M)).map V.str)) r = some (.tup ((namesOf (rowT M)).map V.str)) := upd_same
      generalize upd (upd (upd H4 st KO) q (.lst ((namesOf (rowT M)).map V.str))) r (.tup ((namesOf (rowT M)).map V.str)) = H7 at s7 r7
      have nrx : r ≠ x := fun e => by
        have z := s6 _ _ x4
        rw [← e, nr] at z
        cases z
      refine ⟨_, rfl, x, C, dx, _, rfl, s7 _ _ x4, c.cls, c.nn, (by show 2 < 1000; decide), ?_⟩
      have x8 : upd H7 x (.ins C dx (putF "names" (.ref r) [("blocks", .ref t), ("_numbers", .ref D)])) x = some (.ins C dx [("blocks", .ref t), ("_numbers", .ref D), ("names", .ref r)]) := upd_same
      have b8 : ∀ b o, b ≠ x → H7 b = some o → upd H7 x (.ins C dx (putF "names" (.ref r) [("blocks", .ref t), ("_numbers", .ref D)])) b = some o := fun b o n hb => by rw [upd_ne n]; exact hb
      generalize upd H7 x (.ins C dx (putF "names" (.ref r) [("blocks", .ref t), ("_numbers", .ref D)])) = H8 at x8 b8 ⊢
      have r8 : H8 r = some (.tup ((namesOf (rowT M)).map V.str)) := b8 r _ nrx r7
      have D8 : H8 D = some (.dK kvs) := b8 D _ nDx (s7 _ _ D4)
      have lN : (namesOf (rowT M)).length ≤ 60 := by
        have z : (namesOf (rowT M)).length ≤ (rowT M).flatten.length := nodup_leK (asc_nodup tot_ltS (asc_asc tot_ltS _)) fun k hk => mem_ascS.mp hk
        omega
      -- self.code
      refine ⟨_, rfl, x, C, dx, _, _, rfl, x8, c.cls, c.nn, rfl, r, rfl, ⟨_, SqT.of r8⟩, fun L nL => ?_⟩
      refine lc_tup (xs := (namesOf (rowT M)).map V.str) (fun i H9 => H9 L = some (.lst (((codeOf (rowT M)).take i).map V.int)) ∧ Same H8 H9) ⟨upd_same, same_new nL _⟩ (fun i H9 _ h9 => SqT.of (h9.2 _ _ r8)) ?_ ?_
      · rintro i y H9 hy ⟨h9, s9⟩
        rw [List.getElem?_map] at hy
        obtain ⟨z, hz, rfl⟩ := Option.map_eq_some_iff.mp hy
        have li : i < (namesOf (rowT M)).length := (List.getElem?_eq_some_iff.mp hz).1
        have mz : z ∈ (rowT M).flatten := mem_ascS.mp (List.mem_of_getElem? hz)
        obtain ⟨kk, hk⟩ := Option.isSome_iff_exists.mp (numOf_mem.mpr mz)
        have ev : valV kvs (.inr z) = some (.int (kk : Nat)) := by rw [vk z, hk]; rfl
        have ec : (codeOf (rowT M))[i]? = some ((kk : Nat) : Int) := by
          rw [codeOf, List.getElem?_map, hz]
          simp [hk]
        refine ⟨rfl, _, rfl, x, C, dx, _, _, rfl, s9 _ _ x8, c.cls, c.nu, rfl, _, rfl, D, .int (kk : Nat), rfl, by rw [← ev]; exact DGet.k (k := Sum.inr z) (s9 _ _ D8), _, h9, ?_, ?_, fun b o hb => ?_⟩
        · rw [List.length_map, List.length_take]
          exact small1000 (by omega)
        · rw [upd_same, List.take_add_one, ec]
          simp
        · rw [upd_ne (ne_of_none hb nL)]
          exact s9 _ _ hb
      · rintro H9 ⟨h9, s9⟩
        have lc : (codeOf (rowT M)).length = (namesOf (rowT M)).length := List.length_map _
        rw [List.length_map, ← lc, List.take_length] at h9
        refine ⟨L, _, rfl, .inl ⟨SqL.of h9, fun r2 nr2 => ?_⟩⟩
        have s10 := s9.trans (same_new nr2 (.tup ((codeOf (rowT M)).map V.int)))
        refine ⟨_, rfl, x, C, dx, _, rfl, s10 _ _ x8, c.cls, c.nc, (by show 3 < 1000; decide), ?_⟩
        have nr2x : r2 ≠ x := fun e => by
          have z := s9 _ _ x8
          rw [← e, nr2] at z
          cases z
        have fin : ∀ b o, b ≠ x → H8 b = some o → upd (upd H9 r2 (.tup ((codeOf (rowT M)).map V.int))) x (.ins C dx [("blocks", .ref t), ("_numbers", .ref D), ("names", .ref r), ("code", .ref r2)]) b = some o := fun b o n hb => by
          rw [upd_ne n]
          exact s10 _ _ hb
        have all : ∀ b o, b ≠ x → H1 b = some o → H8 b = some o := fun b o n hb => b8 b o n (s7 _ _ (b4 b o n (s9' b o (b2 b o n hb))))
        rw [← eM] at k
        refine k _ (fun b o n hb => fin b o n (all b o n (s1 _ _ hb))) ⟨dx, t, D, r, r2, M, kvs, upd_same, fin t _ ntx (all t _ ntx ht), fun p hp => ?_, rfl, fin D _ nDx D8, vk, fin r _ nrx r8, ?_, gr⟩
        · have npx : p.1 ≠ x := fun e => by
            have z := hM p hp
            rw [e, s1 _ _ hx] at z
            cases z
          exact fin p.1 _ npx (all p.1 _ npx (hM p hp))
        · rw [upd_ne nr2x]
          exact upd_same
end
end K1
set_option linter.all false
set_option maxRecDepth 100000
set_option maxHeartbeats 1000000
namespace K1
open PySem L2
/-! ### ==, the right side of any kind -/
/-- a thing that is no instance: its type -/
inductive Plain (H : Hp) : V → String → Prop
  | non : Plain H .non "NoneType"
  | int (i : Int) : Plain H (.int i) "int"
  | lst {a : Addr} {xs : List V} : H a = some (.lst xs) → Plain H (.ref a) "list"
  | tup {a : Addr} {xs : List V} : H a = some (.tup xs) → Plain H (.ref a) "tuple"
theorem Plain.mono {H H' : Hp} {v : V} {t : String} (h : Plain H v t) (s : Same H H') : Plain H' v t := by
  cases h with
  | non => exact .non
  | int i => exact .int i
  | lst e => exact .lst (s _ _ e)
  | tup e => exact .tup (s _ _ e)
theorem Plain.ty {K : PySem.W.Frag} {H : Hp} {v : V} {t : String} (h : Plain H v t) : TyX K H v (.type t) := by
  cases h with
  | non => exact .base .non
  | int i => exact .base (.int i)
  | lst e => exact .base (.lst e)
  | tup e => exact .base (.tup e)
/-- the class at C beside the built-in kinds -/
structure AloneC (K : PySem.W.Frag) (C : Addr) : Prop where
  kit : ∀ t ∈ ["NoneType", "int", "list", "tuple"], PySem.W.kitOne K (.type t) (.ref C) = some false ∧ PySem.W.notFirst K C (.type t) = true
theorem Plain.in4 {H : Hp} {v : V} {t : String} (h : Plain H v t) : t ∈ ["NoneType", "int", "list", "tuple"] := by
  cases h <;> decide
section
open PySem.Spec PyProof.Rows
variable {X : Cx} {CX : CXT} {E : XK} {C g : Addr} {fd : FuncData} {ps : List Str} {sp : Sp} {k : Nat}
theorem plain_looks {pins : List (Addr × Obj)} {σ : L2.St} {H : Hp} {s : Shared} {v : V} {u : Value} {t : String} (I : Inv X pins σ H s) (h : Plain H v t) (r : RelV v u) : PySem.W.Looks (model X.prog X.w) s.heap (typeOf u) (.type t) := by
  cases h with
  | non =>
    cases r
    exact PySem.W.Looks.of_pure rfl
  | int i =>
    obtain ⟨tk, rfl⟩ := r
    exact PySem.W.Looks.of_pure rfl
  | lst e =>
    cases r
    obtain ⟨_, its, n, rv, g⟩ := (show ObjOk X.prog X.w H s.heap _ (.lst _) from I.hok _ _ e)
    exact (PySem.W.Looks.ld g).andThen .now
  | tup e =>
    cases r
    obtain ⟨its, rv, ⟨o, ho, hc, n, hd⟩, _⟩ := I.tuple (SqT.of e)
    exact hc ▸ (PySem.W.Looks.ld ho).andThen .now
theorem op_cmpP {op : CmpOp} (hop : ∀ a b, compareOp op a b = richCompare op a b) (M : Meth X.K C (cmpInfo op).2.1 g) (al : AloneC X.K C) (F : FnOk X.prog X.w X.K X.mg X.base CX k g fd ps sp) (hr : Room k X.A) (hb : Binds X.K fd ps []) (hx : Passes CX X E) :
    OpR X (compareOp op) (fun x y H Q => ∃ a t, x = .ref a ∧ Ins H a C ∧ Plain H y t ∧ sp [x, y] H Q E) := by
  intro pins s σ H x y v u Q I rx ry h
  obtain ⟨a, t, rfl, ha, hy, q⟩ := h
  cases (show v = Value.ref a from rx)
  obtain ⟨_, _, J⟩ := ins_inst I ha
  obtain ⟨m, fr⟩ := I.fr
  rw [hop]
  refine PySem.W.cmp_K (op := op) (tb := .type t) hr.units0 fr I.ok.mod.kin J (plain_looks I hy ry) (al.kit t hy.in4).2 M.at_ M.fn ?_
  refine thn (run_fn (us := [.ref a, u]) (vs := [.ref a, y]) F hr hb .nil hx I (.cons rfl (.cons ry .nil)) (by rw [List.append_nil]; exact q)) fun r s' z => ?_
  obtain ⟨z', H', I', rz, qz⟩ := z
  exact SlX.cmpback rz ⟨z', H', I', rz, qz⟩
theorem op_cmpQ {op : CmpOp} (hop : ∀ a b, compareOp op a b = richCompare op a b) (M : Meth X.K C (cmpInfo op).2.1 g) (nf : PySem.W.notFirst X.K C (.ref C) = true) (al : AloneC X.K C) (F : FnOk X.prog X.w X.K X.mg X.base CX k g fd ps sp) (hr : Room k X.A) (hb : Binds X.K fd ps []) (hx : Passes CX X E) :
    OpR X (compareOp op) (fun x y H Q => ∃ a, x = .ref a ∧ Ins H a C ∧ ((∃ b, y = .ref b ∧ Ins H b C) ∨ ∃ t, Plain H y t) ∧ sp [x, y] H Q E) := by
  intro pins s σ H x y v u Q I rx ry h
  obtain ⟨a, rfl, ha, hy, q⟩ := h
  rcases hy with ⟨b, rfl, hb'⟩ | ⟨t, hy⟩
  · exact op_cmp hop M nf F hr hb hx pins s σ H _ _ v u Q I rx ry ⟨a, b, rfl, rfl, ha, hb', q⟩
  · exact op_cmpP hop M al F hr hb hx pins s σ H _ _ v u Q I rx ry ⟨a, t, rfl, ha, hy, q⟩
end
def spEqQ (C : Addr) : Sp := fun vs H Q _ => ∃ (a : Addr) (y : V) (R : List (List Str)), vs = [.ref a, y] ∧ MeetAt C H a R ∧ ((∃ b S, y = .ref b ∧ MeetAt C H b S ∧ ∀ H', Same H H' → Q (.bl (decide (R = S))) H') ∨ ((∃ t, Plain H y t) ∧ Q (.bl false) H))
def spTriedQ : Sp := fun vs H Q _ => ∃ (v : V) (d : PyData), vs = [v] ∧ Dq H v d ∧ LimB d ∧ (∀ i, badD d = some i → ∀ t H', Same H H' → H t = none → H' t = some (.tup [.str "bad", .int (i : Nat)]) → Q (.ref t) H') ∧
  (badD d = none → ∀ t tn tr tc M H', Same H H' → H t = none → DueT H' t (rowsOf (blocksD d)) tn tr tc M → Q (.ref t) H')
section
variable {P : Program} {w : World} {K : PySem.W.Frag} {mg : Str → Option Value} {base : Heap} {C MC : Addr}
theorem ok_meqQ {f : Addr} {fd : FuncData} (F : Fun K "__eq__" "Meeting.__eq__" cMeetingEq f fd) (c : MeetC K mg C) (al : AloneC K C) (hi : mg "isinstance" = none) : FnOk P w K mg base CX0 1 f fd ["self", "other"] (spEqQ C) := by
  refine F.ok scMe (fun vs H Q E h => ?_) (fun cdv A outer s H vs Q E hr h => ?_)
  · obtain ⟨a, y, R, rfl, _⟩ := h
    rfl
  · obtain ⟨a, y, R, rfl, ma, k⟩ := h
    refine ⟨_, pss_one (ps_ret (pe_and (pe_or2 (pe_callB (C8.call_isC c.isC) (by rfl) hi (by decide +kernel) (pa_cons (pv 1) (pa_cons (pe_glob (v := .ref C) (by rfl) c.glob rfl) pa_nil))) (pe_callB call_isi (by rfl) hi (by decide +kernel) (pa_cons (pv 1) (pa_cons (pe_glob (v := .ref C) (by rfl) c.glob rfl) pa_nil)))) (pe_one (pe_cmpR (op_eqD hr.units) (pe_fld (pv 0) rfl) (pe_fld (pv 1) rfl) (nomark _))))), ?_⟩
    obtain ⟨dx, t, d, n, cc, M, kvs, o⟩ := ma
    rcases k with ⟨b, S, rfl, mb, k⟩ | ⟨⟨ty, py⟩, k⟩
    · obtain ⟨dx', t', d', n', cc', M', kvs', o'⟩ := mb
      refine .inl ⟨_, rfl, b, dx', _, rfl, o'.ob, _, rfl, iteT ?_⟩
      refine ⟨_, rfl, a, C, dx, _, _, rfl, o.ob, c.cls, c.nb, rfl, _, rfl, b, C, dx', _, _, rfl, o'.ob, c.cls, c.nb, rfl, .tuple (R.map dS), .tuple (S.map dS), .tup (SqT.of o.bl) (o.row ▸ dp_rows o.tu), .tup (SqT.of o'.bl) (o'.row ▸ dp_rows o'.tu), sh_rows o.good.good.nm, sh_rows o'.good.good.nm, ?_⟩
      have e : PyData.eqv (.tuple (R.map dS)) (.tuple (S.map dS)) = decide (R = S) := by
        simp only [PyData.eqv]
        exact eqv_rows _ _
      rw [e]
      exact k H (Same.refl H)
    · exact .inr ⟨_, rfl, y, .ref C, .type ty, .ref C, false, rfl, .own C, py.ty, (al.kit ty py.in4).1, _, rfl, iteF k⟩
abbrev NTr : List Str := ["_law_blocks_here", "_law_found", "e"]
theorem scTr : FnScope NTr ["_law_blocks_here"] (defScope sTried) := ⟨rfl, rfl, rfl, by decide +kernel, rfl, by decide +kernel, by decide +kernel⟩
theorem ok_triedQ {f fI gM gL : Addr} {fd fdM fdL : FuncData} (F : Fun K "_law_tried" "_law_tried" sTried f fd) (c : MeetC K mg C) (e : ErrC K mg "BadMeeting" "index" MC fI) (MM : Mk K C gM) (GM : FnOk P w K mg base (L2.CX P w) 5 gM fdM ["self", "blocks"] (spMInitQ C MC)) (bM : Binds K fdM ["self", "blocks"] [])
    (ML : Meth K C "__len__" gL) (GL : FnOk P w K mg base CX0 1 gL fdL ["self"] (spLenM C)) (bL : Binds K fdL ["self"] []) (hl : mg "len" = none) :
    FnOk P w K mg base CX0 7 f fd ["_law_blocks_here"] spTriedQ := by
  refine F.ok scTr (fun vs H Q E h => ?_) (fun cdv A outer s H vs Q E hr h => ?_)
  · obtain ⟨v, d, rfl, _⟩ := h
    rfl
  · obtain ⟨v, d, rfl, hd, lim, kB, kG⟩ := h
    refine ⟨_, pss_cons (ps_try_as (i := 2) (tb := fun W => tAsg (tMakeW C (spMInitQ C MC) (WE W) (tCons (tVar 0) tNil)) (gName 1)) (ts := fun a cls d => tRet (tTup (tCons (tC (.str "bad")) (tCons (tXf a cls d MC "index" (tVar 2)) tNil)))) (Wout := fun _ _ _ _ => False)
        rfl rfl scTr.nd rfl rfl ⟨rfl, by decide, Or.inl e.g⟩ takes0
        (fun W pn xe tk _ => pss_one (ps_set (i := 1) scTr.nd rfl (Or.inl rfl) (by exact (pe_makeW MM GM hr (by rfl) c.glob bM (fun σ => passAt tk σ) (pa_cons (pv 0) pa_nil)))))
        (fun a oe cls d pn hz hf => pss_one (ps_ret (by exact (pe_tup (pa_cons pe_str (pa_cons (pe_xf e.xf e.no hz hf (pv 2)) pa_nil)))))))
      (pss_one (ps_ret (pe_tup (pa_cons pe_str (pa_cons (pe_fld (pv 1) rfl) (pa_cons (pe_fld (pv 1) rfl) (pa_cons (pe_fld (pv 1) rfl) (pa_cons (pe_callB (call_lenOwn ML GL (hr.mono (by decide)) bL pass0) (by rfl) hl PySem.boot_len (pa_cons (pv 1) pa_nil)) pa_nil)))))))), ?_⟩
    refine ⟨_, rfl, fun x dx nx ndx ne => ?_⟩
    have sx : Same H (upd (upd H dx (.own x)) x (.ins C dx [])) := fun b o hb => by
      rw [upd_ne (ne_of_none hb nx), upd_ne (ne_of_none hb ndx)]
      exact hb
    refine ⟨x, v, dx, d, rfl, upd_same, hd.same sx, lim, fun i hi d' H' nd' s' hd' => ?_, fun b0 H' keep mo => ⟨rfl, ?_⟩⟩
    · refine ⟨true, e.te, fun _ b nb => ?_, fun z => nomatch z⟩
      refine ⟨_, rfl, rfl, rfl, d', _, .int (i : Nat), rfl, hd', rfl, sz (Nat.le_of_ble_eq_true rfl), fun tp ntp => ?_⟩
      exact kB i hi tp _ (sx.trans (s'.trans (same_new ntp _))) ((sx.trans s').free ntp) upd_same
    · have s1 : Same H H' := fun b o hb => keep b o (ne_of_none hb nx) (sx b o hb)
      obtain ⟨dx2, t, d2, n, cc, M, kvs, o⟩ := id mo
      refine ⟨_, rfl, x, C, dx2, _, _, rfl, o.ob, c.cls, c.nn, rfl, _, rfl, x, C, dx2, _, _, rfl, o.ob, c.cls, c.nb, rfl, _, rfl, x, C, dx2, _, _, rfl, o.ob, c.cls, c.nc, rfl, _, rfl, x, rfl, mo.ins, x, _, rfl, mo, (rowsOf (blocksD d)).length, rfl, ?_, sz (Nat.le_of_ble_eq_true rfl), fun tp ntp => ?_⟩
      · have := mo.good.good.few
        omega
      · have s2 := same_new ntp (.tup [.str "made", .ref n, .ref t, .ref cc, .int ((rowsOf (blocksD d)).length : Nat)])
        have lM : M.length = (rowsOf (blocksD d)).length := by rw [← rowT_len, o.row]
        exact kG b0 tp n t cc M _ (s1.trans s2) (s1.free ntp) ⟨by rw [upd_same, lM], s2 _ _ o.na, s2 _ _ o.bl, o.tu.mono s2, o.row, s2 _ _ o.co⟩
end
end K1
set_option linter.all false
set_option maxRecDepth 100000
set_option maxHeartbeats 1000000
namespace K1
open PySem L2
/-! ### what tuples throughout leave as it is -/
theorem tupds_len : ∀ ds : List PyData, (tupds ds).length = ds.length
  | [] => by simp only [tupds]
  | d :: r => by simp only [tupds, List.length_cons, tupds_len r]
theorem nameD_tupd (d : PyData) : nameD (tupd d) = nameD d := by unfold nameD; rw [tupd_str]
theorem all_tupds : ∀ ds : List PyData, (tupds ds).all nameD = ds.all nameD
  | [] => by simp only [tupds]
  | d :: r => by simp only [tupds, List.all_cons, nameD_tupd, all_tupds r]
theorem strs_tupds : ∀ ds : List PyData, strsOf (tupds ds) = strsOf ds
  | [] => by simp only [tupds]
  | d :: r => by
    have ih := strs_tupds r
    cases d <;> simp only [tupds, tupd, strsOf, ih]
theorem areD_tupd (d : PyData) : areD (tupd d) = areD d := by
  unfold areD
  rw [tupd_seq]
  cases seqD d with
  | none => rfl
  | some ds => exact all_tupds ds
theorem names_tupd (d : PyData) : namesIn (tupd d) = namesIn d := by
  unfold namesIn
  rw [tupd_seq]
  cases seqD d with
  | none => rfl
  | some ds => exact strs_tupds ds
theorem fit_tupd (has : Str → Bool) (d : PyData) : fitD has (tupd d) = fitD has d := by
  unfold fitD
  rw [areD_tupd, names_tupd]
theorem bad_tupds : ∀ (tk : List Str) (ds : List PyData), badAt tk (tupds ds) = badAt tk ds
  | _, [] => by simp only [tupds]
  | tk, d :: r => by
    simp only [tupds, badAt, fit_tupd, names_tupd, bad_tupds _ r]
theorem badD_tupd (d : PyData) : badD (tupd d) = badD d := by
  unfold badD
  rw [tupd_seq]
  cases seqD d with
  | none => rfl
  | some ds => exact bad_tupds _ ds
theorem map_tupds : ∀ ds : List PyData, (tupds ds).map namesIn = ds.map namesIn
  | [] => by simp only [tupds]
  | d :: r => by simp only [tupds, List.map_cons, names_tupd, map_tupds r]
theorem blocks_tupd (d : PyData) : blocksD (tupd d) = blocksD d := by
  unfold blocksD
  rw [tupd_seq]
  cases seqD d with
  | none => rfl
  | some ds => exact map_tupds ds
theorem mem_tupds : ∀ {ds : List PyData} {e : PyData}, e ∈ tupds ds → ∃ d ∈ ds, e = tupd d
  | [], e, h => by simp only [tupds] at h; cases h
  | d :: r, e, h => by
    simp only [tupds] at h
    rcases List.mem_cons.mp h with h | h
    · exact ⟨d, .head _, h⟩
    · obtain ⟨x, hx, e'⟩ := mem_tupds h
      exact ⟨x, .tail _ hx, e'⟩
theorem mem_tupds' : ∀ {ds : List PyData} {d : PyData}, d ∈ ds → tupd d ∈ tupds ds
  | x :: r, d, h => by
    simp only [tupds]
    rcases List.mem_cons.mp h with h | h
    · rw [h]; exact .head _
    · exact .tail _ (mem_tupds' h)
theorem lim_tupd {d : PyData} : Lim (tupd d) ↔ Lim d := by
  unfold Lim
  rw [tupd_seq]
  constructor
  · intro h ds hs
    obtain ⟨h1, h2⟩ := h (tupds ds) (by rw [hs]; rfl)
    rw [tupds_len] at h1
    refine ⟨h1, fun z hz => h2 z ?_⟩
    have := mem_tupds' hz
    simpa only [tupd] using this
  · intro h es hes
    cases hs : seqD d with
    | none => rw [hs] at hes; cases hes
    | some ds =>
      rw [hs] at hes
      cases hes
      obtain ⟨h1, h2⟩ := h ds hs
      refine ⟨by rw [tupds_len]; exact h1, fun z hz => h2 z ?_⟩
      obtain ⟨x, hx, e⟩ := mem_tupds hz
      cases x <;> simp only [tupd] at e <;> first | (rw [e]; exact hx) | cases e
theorem limB_tupd {d : PyData} : LimB (tupd d) ↔ LimB d := by
  constructor
  · intro h
    refine ⟨fun ds hs => ?_, fun ds hs e he => ?_, fun ds hs => ?_⟩
    · have := h.few (tupds ds) (by rw [tupd_seq, hs]; rfl)
      rwa [tupds_len] at this
    · exact lim_tupd.mp (h.low (tupds ds) (by rw [tupd_seq, hs]; rfl) _ (mem_tupds' he))
    · have := h.tot (tupds ds) (by rw [tupd_seq, hs]; rfl)
      unfold takenOf at this ⊢
      rwa [map_tupds] at this
  · intro h
    have un : ∀ es, seqD (tupd d) = some es → ∃ ds, seqD d = some ds ∧ es = tupds ds := fun es hes => by
      rw [tupd_seq] at hes
      cases hs : seqD d with
      | none => rw [hs] at hes; cases hes
      | some ds => rw [hs] at hes; exact ⟨ds, rfl, (Option.some.inj hes).symm⟩
    refine ⟨fun es hes => ?_, fun es hes e he => ?_, fun es hes => ?_⟩
    · obtain ⟨ds, hs, rfl⟩ := un es hes
      rw [tupds_len]
      exact h.few ds hs
    · obtain ⟨ds, hs, rfl⟩ := un es hes
      obtain ⟨x, hx, rfl⟩ := mem_tupds he
      exact lim_tupd.mpr (h.low ds hs x hx)
    · obtain ⟨ds, hs, rfl⟩ := un es hes
      unfold takenOf
      rw [map_tupds]
      exact h.tot ds hs
/-! ### how long its text may be -/
mutual
def szt : PyData → Nat
  | .list ds => ds.length * (szts ds + 2) + 4
  | .tuple ds => ds.length * (szts ds + 2) + 4
  | d => (PyData.shown d).length
def szts : List PyData → Nat
  | [] => 0
  | d :: r => max (szt d) (szts r)
end
theorem szts_mem : ∀ {ds : List PyData} {d : PyData}, d ∈ ds → szt d ≤ szts ds
  | e :: r, d, h => by
    simp only [szts]
    rcases List.mem_cons.mp h with h | h
    · subst h; omega
    · have := szts_mem h; omega
theorem szts_le : ∀ {ds : List PyData} {n : Nat}, (∀ d ∈ ds, szt d ≤ n) → szts ds ≤ n
  | [], _, _ => by simp only [szts]; omega
  | d :: r, n, h => by
    have h1 := h d (.head _)
    have h2 := szts_le (ds := r) (n := n) fun x hx => h x (.tail _ hx)
    simp only [szts]
    omega
mutual
theorem shown_szt : ∀ d : PyData, (PyData.shown d).length ≤ szt d
  | .none => by simp only [szt]; omega
  | .bool _ => by simp only [szt]; omega
  | .int _ => by simp only [szt]; omega
  | .str _ => by simp only [szt]; omega
  | .dict _ => by simp only [szt]; omega
  | .list ds => by
    have h := shown_szts ds
    have l := shownAll_len ds
    simp only [PyData.shown, szt]
    have := listText_le h
    rwa [l] at this
  | .tuple ds => by
    have h := shown_szts ds
    have l := shownAll_len ds
    simp only [PyData.shown, szt]
    have := tupleText_le h
    rwa [l] at this
theorem shown_szts : ∀ ds : List PyData, ∀ t ∈ PyData.shownAll ds, t.length ≤ szts ds
  | [], t, h => by simp only [PyData.shownAll] at h; cases h
  | d :: r, t, h => by
    simp only [PyData.shownAll] at h
    simp only [szts]
    rcases List.mem_cons.mp h with h | h
    · rw [h]; have := shown_szt d; omega
    · have := shown_szts r t h; omega
theorem shownAll_len : ∀ ds : List PyData, (PyData.shownAll ds).length = ds.length
  | [] => by simp only [PyData.shownAll, List.length_nil]
  | d :: r => by simp only [PyData.shownAll, List.length_cons, shownAll_len r]
end
mutual
theorem szt_tupd : ∀ d : PyData, szt (tupd d) = szt d
  | .none => by simp only [tupd]
  | .bool _ => by simp only [tupd]
  | .int _ => by simp only [tupd]
  | .str _ => by simp only [tupd]
  | .dict _ => by simp only [tupd]
  | .list ds => by simp only [tupd, szt, szts_tupds ds, tupds_len]
  | .tuple ds => by simp only [tupd, szt, szts_tupds ds, tupds_len]
theorem szts_tupds : ∀ ds : List PyData, szts (tupds ds) = szts ds
  | [] => by simp only [tupds]
  | d :: r => by simp only [tupds, szts, szt_tupd d, szts_tupds r]
end
mutual
theorem show_tupd : ∀ d : PyData, PyData.showable (tupd d) = PyData.showable d
  | .none => by simp only [tupd]
  | .bool _ => by simp only [tupd]
  | .int _ => by simp only [tupd]
  | .str _ => by simp only [tupd]
  | .dict _ => by simp only [tupd]
  | .list ds => by simp only [tupd, PyData.showable, show_tupds ds]
  | .tuple ds => by simp only [tupd, PyData.showable, show_tupds ds]
theorem show_tupds : ∀ ds : List PyData, PyData.showableAll (tupds ds) = PyData.showableAll ds
  | [] => by simp only [tupds]
  | d :: r => by simp only [tupds, PyData.showableAll, show_tupd d, show_tupds r]
end
mutual
theorem depth_tupd : ∀ d : PyData, PyData.depth (tupd d) = PyData.depth d
  | .none => by simp only [tupd]
  | .bool _ => by simp only [tupd]
  | .int _ => by simp only [tupd]
  | .str _ => by simp only [tupd]
  | .dict _ => by simp only [tupd]
  | .list ds => by simp only [tupd, PyData.depth, depth_tupds ds]
  | .tuple ds => by simp only [tupd, PyData.depth, depth_tupds ds]
theorem depth_tupds : ∀ ds : List PyData, PyData.depthAll (tupds ds) = PyData.depthAll ds
  | [] => by simp only [tupds]
  | d :: r => by simp only [tupds, PyData.depthAll, depth_tupd d, depth_tupds r]
end
/-- a thing that the law hands over -/
structure ThF (d : PyData) : Prop where
  lim : LimB d
  lis : LisD d
  dep : dep d ≤ 3
  cnt : cnt d ≤ 200
  wid : wid d
  sho : PyData.showable d = true
  deep : PyData.depth d ≤ 20
  len : szt d ≤ 10000
theorem ThF.loose {d d' : PyData} (h : ThF d) (e : tupd d' = tupd d) : LimB d' ∧ badD d' = badD d ∧ blocksD d' = blocksD d ∧ PyData.showable d' = true ∧ PyData.depth d' ≤ 20 ∧ (PyData.shown d').length ≤ sizeLine := by
  refine ⟨limB_tupd.mp (by rw [e]; exact limB_tupd.mpr h.lim), by rw [← badD_tupd, e, badD_tupd], by rw [← blocks_tupd, e, blocks_tupd], by rw [← show_tupd, e, show_tupd]; exact h.sho, by rw [← depth_tupd, e, depth_tupd]; exact h.deep, ?_⟩
  refine Nat.le_trans (shown_szt d') ?_
  rw [← szt_tupd, e, szt_tupd]
  exact Nat.le_trans h.len (by rw [PySem.sizeLine_eq]; decide)
theorem inn_szt {d : PyData} (h : innB d = true) : szt d ≤ 40 := by
  have f := inn_facts h
  unfold innB at h
  split at h
  · rename_i z
    have m : z ∈ SS := of_decide_eq_true h
    obtain ⟨_, _, s3⟩ := SS_ok z m
    simp only [szt, szts, List.length_cons, List.length_nil, PyData.shown]
    omega
  · have l := f.len
    cases d with
    | list _ => cases h
    | tuple _ => cases h
    | dict _ => cases h
    | none => simp only [szt]; exact l
    | bool _ => simp only [szt]; exact l
    | int _ => simp only [szt]; exact l
    | str _ => simp only [szt]; exact l
theorem inn_deps {es : List PyData} (h : ∀ d ∈ es, innB d = true) : deps es ≤ 1 ∧ cnts es ≤ es.length ∧ wids es ∧ PyData.showableAll es = true ∧ PyData.depthAll es ≤ 1 := by
  induction es with
  | nil => exact ⟨by simp only [deps]; omega, by simp only [cnts]; omega, by simp only [wids], by simp only [PyData.showableAll], by simp only [PyData.depthAll]; omega⟩
  | cons x r ih =>
    obtain ⟨a, b, c, d, e⟩ := ih fun y hy => h y (.tail _ hy)
    have f := inn_facts (h x (.head _))
    obtain ⟨f1, f2, f3⟩ := f.dep
    exact ⟨by simp only [deps]; omega, by simp only [cnts, List.length_cons]; omega, by simp only [wids]; exact ⟨f3, c⟩, by simp only [PyData.showableAll, f.sho, d, Bool.and_self], by simp only [PyData.depthAll]; have := f.okd.2; omega⟩
structure OkF (d : PyData) : Prop where
  dep : dep d ≤ 2
  cnt : cnt d ≤ 8
  wid : wid d
  sho : PyData.showable d = true
  deep : PyData.depth d ≤ 2
  len : szt d ≤ 300
theorem okB_facts {d : PyData} (h : okB d = true) : OkF d := by
  cases d with
  | list es =>
    obtain ⟨h1, h2⟩ := okB_items h
    obtain ⟨a, b, c, e, f⟩ := inn_deps h2
    have s := szts_le (n := 40) fun x hx => inn_szt (h2 x hx)
    refine ⟨by simp only [K1.dep]; omega, by simp only [K1.cnt]; omega, by simp only [K1.wid]; exact ⟨by omega, c⟩, by simp only [PyData.showable]; exact e, by simp only [PyData.depth]; omega, ?_⟩
    simp only [szt]
    have := Nat.mul_le_mul h1 (show szts es + 2 ≤ 42 by omega)
    omega
  | dict kvs =>
    have e : kvs = [] := List.isEmpty_iff.mp h
    subst e
    exact ⟨by simp only [K1.dep]; omega, by simp only [K1.cnt]; omega, by simp only [K1.wid], by simp only [PyData.showable, PyData.showableKv], by simp only [PyData.depth, PyData.depthKv]; omega, by simp only [szt, PyData.shown, PyData.shownKv]; decide +kernel⟩
  | tuple _ => cases h
  | none => exact ⟨by simp only [K1.dep]; omega, by simp only [K1.cnt]; omega, by simp only [K1.wid], (atom_facts (d := .none) h).sho, Nat.le_trans (atom_facts (d := .none) h).okd.2 (by decide), Nat.le_trans (inn_szt (d := .none) h) (by decide)⟩
  | bool b => exact ⟨by simp only [K1.dep]; omega, by simp only [K1.cnt]; omega, by simp only [K1.wid], (atom_facts (d := .bool b) h).sho, Nat.le_trans (atom_facts (d := .bool b) h).okd.2 (by decide), Nat.le_trans (inn_szt (d := .bool b) h) (by decide)⟩
  | int i => exact ⟨by simp only [K1.dep]; omega, by simp only [K1.cnt]; omega, by simp only [K1.wid], (atom_facts (d := .int i) h).sho, Nat.le_trans (atom_facts (d := .int i) h).okd.2 (by decide), Nat.le_trans (inn_szt (d := .int i) h) (by decide)⟩
  | str z => exact ⟨by simp only [K1.dep]; omega, by simp only [K1.cnt]; omega, by simp only [K1.wid], (atom_facts (d := .str z) h).sho, Nat.le_trans (atom_facts (d := .str z) h).okd.2 (by decide), Nat.le_trans (inn_szt (d := .str z) h) (by decide)⟩
/-- blocks, odd things among them -/
theorem th_list {ds : List PyData} (ok : ∀ e ∈ ds, okB e = true) (few : ds.length ≤ 12) (tot : (takenOf ds).length ≤ 60) : ThF (.list ds) := by
  have all : ∀ l : List PyData, (∀ e ∈ l, okB e = true) → deps l ≤ 2 ∧ cnts l ≤ l.length * 8 ∧ wids l ∧ PyData.showableAll l = true ∧ PyData.depthAll l ≤ 2 := by
    intro l
    induction l with
    | nil => intro _; exact ⟨by simp only [deps]; omega, by simp only [cnts]; omega, by simp only [wids], by simp only [PyData.showableAll], by simp only [PyData.depthAll]; omega⟩
    | cons x r ih =>
      intro h
      obtain ⟨a, b, c, d, e⟩ := ih fun y hy => h y (.tail _ hy)
      have f := okB_facts (h x (.head _))
      have f1 := f.dep
      have f2 := f.cnt
      have f3 := f.deep
      exact ⟨by simp only [deps]; omega, by simp only [cnts, List.length_cons]; omega, by simp only [wids]; exact ⟨f.wid, c⟩, by simp only [PyData.showableAll, f.sho, d, Bool.and_self], by simp only [PyData.depthAll]; omega⟩
  obtain ⟨a, b, c, d, e⟩ := all ds ok
  have s := szts_le (n := 300) fun x hx => (okB_facts (ok x hx)).len
  refine ⟨⟨fun es h => by cases h; omega, fun es h x hx => by cases h; exact okB_lim (ok x hx), fun es h => by cases h; exact tot⟩, fun es h => by cases h; exact ⟨rfl, fun x hx => okB_lis (ok x hx)⟩, by simp only [K1.dep]; omega, by simp only [K1.cnt]; omega, by simp only [K1.wid]; exact ⟨by omega, c⟩, by simp only [PyData.showable]; exact d, by simp only [PyData.depth]; omega, ?_⟩
  simp only [szt]
  have := Nat.mul_le_mul few (show szts ds + 2 ≤ 302 by omega)
  omega
/-- an odd thing alone -/
theorem th_odd {d : PyData} (h : okB d = true) (no : seqD d = none) : ThF d := by
  have f := okB_facts h
  have n : ∀ es, seqD d ≠ some es := fun es e => by rw [no] at e; cases e
  have f1 := f.dep
  have f2 := f.cnt
  have f3 := f.deep
  have f4 := f.len
  exact ⟨⟨fun es e => (n es e).elim, fun es e => (n es e).elim, fun es e => (n es e).elim⟩, fun es e => (n es e).elim, by omega, by omega, f.wid, f.sho, by omega, by omega⟩
end K1
set_option maxRecDepth 100000
set_option maxHeartbeats 4000000
namespace K1
open PySem L2
/-- a flat value, or a flat dict, beside itself -/
inductive Sc (K : PySem.W.Frag) (H : Hp) : V → String → Prop where
  | non : Sc K H .non "NoneType"
  | str (z : Str) : Sc K H (.str z) "str"
  | dic {a : Addr} {kvs : List (Key × V)} : H a = some (.dK kvs) → (kvs.map (·.1)).Nodup → (∀ p ∈ kvs, flatB p.2 = true) → Sc K H (.ref a) "dict"
def SameV (K : PySem.W.Frag) (H : Hp) : Nat → V → V → Prop
  | 0, _, _ => False
  | n + 1, x, y => (∃ i, x = .int i ∧ y = .int i) ∨ (∃ b, x = .bl b ∧ y = .bl b) ∨ (x = y ∧ ∃ nm, Sc K H x nm) ∨
    ∃ (a b : Addr) (xs ys : List V), x = .ref a ∧ y = .ref b ∧ ((H a = some (.lst xs) ∧ H b = some (.lst ys)) ∨ (H a = some (.tup xs) ∧ H b = some (.tup ys))) ∧ xs.length = ys.length ∧ xs.length ≤ 1000 ∧
      ∀ (i : Nat) (u v : V), xs[i]? = some u → ys[i]? = some v → SameV K H n u v
theorem Sc.mono {K : PySem.W.Frag} {H H' : Hp} {x : V} {nm : String} (h : Sc K H x nm) (s : Same H H') : Sc K H' x nm := by
  cases h with
  | non => exact .non
  | str z => exact .str z
  | dic h1 h2 h3 => exact .dic (s _ _ h1) h2 h3
theorem SameV.mono {K : PySem.W.Frag} {H H' : Hp} (s : Same H H') : ∀ {n : Nat} {x y : V}, SameV K H n x y → SameV K H' n x y
  | 0, _, _, h => (show False from h).elim
  | _ + 1, _, _, h => h.imp_right fun h => h.imp_right fun h => Or.imp (fun ⟨e, nm, h⟩ => ⟨e, nm, h.mono s⟩) (fun ⟨a, b, xs, ys, e1, e2, h, l1, l2, k⟩ =>
    ⟨a, b, xs, ys, e1, e2, Or.imp (fun q => ⟨s _ _ q.1, s _ _ q.2⟩) (fun q => ⟨s _ _ q.1, s _ _ q.2⟩) h, l1, l2, fun i u v h1 h2 => SameV.mono s (k i u v h1 h2)⟩) h
def spSame (K : PySem.W.Frag) (n : Nat) : Sp := fun vs H Q _ => ∃ (x y : V), vs = [x, y] ∧ SameV K H n x y ∧ ∀ H', Same H H' → Q (.bl true) H'
theorem iteD {c A B : Prop} [Decidable c] (hc : c) (h : A) : if decide c = true then A else B := by
  rw [decide_eq_true hc]
  exact iteT h
theorem kitA2 {K : PySem.W.Frag} {a b c : String} {r s : Bool} (h1 : kitB a b = some r) (h2 : kitB a c = some s) : PySem.W.kitAny K (.type a) [.type b, .type c] = some (r || s) := by
  refine kitAny_cons (kit_ty h1) (fun e => ?_) (fun e => by rw [e]; rfl)
  subst e
  rw [Bool.false_or]
  exact kitAny_cons (kit_ty h2) (fun e => by subst e; exact kitAny_nil) (fun e => by rw [e])
theorem kitA3 {K : PySem.W.Frag} {a b c d : String} {r s t : Bool} (h1 : kitB a b = some r) (h2 : kitB a c = some s) (h3 : kitB a d = some t) : PySem.W.kitAny K (.type a) [.type b, .type c, .type d] = some (r || (s || t)) := by
  refine kitAny_cons (kit_ty h1) (fun e => ?_) (fun e => by rw [e]; rfl)
  subst e
  rw [Bool.false_or]
  exact kitA2 h2 h3
theorem same_cases {K : PySem.W.Frag} {H : Hp} {n : Nat} {x y : V} (S : SameV K H (n + 1) x y) {R : Prop}
    (num : ∀ (v : V) (nm : String) (bb : Bool), x = v → y = v → (∀ H, TyX K H v (.type nm)) → kitB nm "list" = some false → kitB nm "tuple" = some false → kitB nm "int" = some true → kitB nm "bool" = some bb → scal v v = true → R)
    (flat : ∀ (nm : String), x = y → Sc K H x nm → R)
    (seq : ∀ (nm : String) (a b : Addr) (xs ys : List V), x = .ref a → y = .ref b → kitB nm "list" = some (nm == "list") → kitB nm "tuple" = some (nm == "tuple") → (nm == "list" || nm == "tuple") = true →
      (∀ H', Same H H' → TyX K H' x (.type nm)) → (∀ H', Same H H' → TyX K H' y (.type nm)) → ((H a = some (.lst xs) ∧ H b = some (.lst ys)) ∨ (H a = some (.tup xs) ∧ H b = some (.tup ys))) →
      xs.length = ys.length → xs.length ≤ 1000 → (∀ (i : Nat) (u v : V), xs[i]? = some u → ys[i]? = some v → SameV K H n u v) → R) : R := by
  rcases S with ⟨i, e1, e2⟩ | ⟨b, e1, e2⟩ | ⟨e, nm, h⟩ | ⟨a, b, xs, ys, e1, e2, h, l1, l2, q⟩
  · exact num _ "int" false e1 e2 (fun _ => .base (.int i)) (by decide +kernel) (by decide +kernel) (by decide +kernel) (by decide +kernel) rfl
  · exact num _ "bool" true e1 e2 (fun _ => .base (.bl b)) (by decide +kernel) (by decide +kernel) (by decide +kernel) (by decide +kernel) rfl
  · exact flat nm e h
  · rcases h with h | h
    · exact seq "list" a b xs ys e1 e2 (by decide +kernel) (by decide +kernel) rfl (fun H' s => by rw [e1]; exact .base (.lst (s _ _ h.1))) (fun H' s => by rw [e2]; exact .base (.lst (s _ _ h.2))) (.inl h) l1 l2 q
    · exact seq "tuple" a b xs ys e1 e2 (by decide +kernel) (by decide +kernel) rfl (fun H' s => by rw [e1]; exact .base (.tup (s _ _ h.1))) (fun H' s => by rw [e2]; exact .base (.tup (s _ _ h.2))) (.inr h) l1 l2 q
theorem Sc.ty {K : PySem.W.Frag} {H : Hp} {x : V} {nm : String} (h : Sc K H x nm) : TyX K H x (.type nm) := by
  cases h with
  | non => exact .base .non
  | str z => exact .base (.str z)
  | dic h _ _ => exact .base (.dK h)
theorem Sc.kit {K : PySem.W.Frag} {H : Hp} {x : V} {nm : String} (h : Sc K H x nm) : kitB nm "list" = some false ∧ kitB nm "tuple" = some false ∧ kitB nm "int" = some false := by
  cases h <;> exact ⟨by decide +kernel, by decide +kernel, by decide +kernel⟩
/-- both in step: the pairs of a zip of two lists, of two tuples -/
theorem walk_zipT {K : PySem.W.Frag} {a b : Addr} {xs ys : List V} {n : Nat} (h1 : n = xs.length) (h2 : n = ys.length) : Walk (RZ.ItzT K a b) n (fun H => SqT K H a xs ∧ SqT K H b ys) (YPair (fun i => xs[i]?) (fun i => ys[i]?)) := by
  refine ⟨fun i _ hi q => ?_, fun _ q => ⟨xs, ys, q.1, q.2, .inl (by omega)⟩, fun i H v H' _ q y => ?_⟩
  · have l1 : i < xs.length := by omega
    have l2 : i < ys.length := by omega
    exact ⟨xs, ys, xs[i], ys[i], q.1, q.2, by simp [l1], by simp [l2]⟩
  · obtain ⟨t, u, v, e1, e2, e3, e4, e5⟩ := y
    exact ⟨t, u, v, e1, e2, e3, e4 xs q.1, e5 ys q.2⟩
structure TxtS (mg : Str → Option Value) : Prop where
  isi : mg "isinstance" = none
  list : mg "list" = none
  tuple : mg "tuple" = none
  len : mg "len" = none
  all : mg "all" = none
  zip : mg "zip" = none
  int : mg "int" = none
  bool : mg "bool" = none
section
variable {P : Program} {w : World} {K : PySem.W.Frag} {mg : Str → Option Value} {base : Heap}
abbrev NS : List Str := ["_law_found", "_law_due_here", "_law_x", "_law_y"]
theorem scS : FnScope NS ["_law_found", "_law_due_here"] (defScope sSame) := ⟨rfl, rfl, rfl, by decide +kernel, rfl, by decide +kernel, by decide +kernel⟩
theorem ok_same {n : Nat} {f : Addr} {fd : FuncData} (F : Fun K "_law_same" "_law_same" sSame f fd) (T : TxtS mg) (G : FnOk P w K mg base CX0 n f fd ["_law_found", "_law_due_here"] (spSame K n)) (bG : Binds K fd ["_law_found", "_law_due_here"] []) (gG : mg "_law_same" = some (.ref f)) :
    FnOk P w K mg base CX0 (n + 1) f fd ["_law_found", "_law_due_here"] (spSame K (n + 1)) := by
  refine F.ok scS (fun vs H Q E h => ?_) (fun cdv A outer s H vs Q E hr h => ?_)
  · obtain ⟨x, y, rfl, _⟩ := h
    rfl
  · obtain ⟨x, y, rfl, S, k⟩ := h
    refine ⟨_, pss_cons (ps_if (pt_val (pe_callB call_isiT (by rfl) T.isi (by decide +kernel) (pa_cons (pv 1) (pa_cons (pe_tup (pa_cons (pe_bltn (v := .ty "list") (by rfl) T.list (by decide +kernel) rfl) (pa_cons (pe_bltn (v := .ty "tuple") (by rfl) T.tuple (by decide +kernel) rfl) pa_nil))) pa_nil))))
        (pss_cons (ps_if (pw_or (pt_cmpR op_ne (pe_callB call_isi (by rfl) T.isi (by decide +kernel) (pa_cons (pv 0) (pa_cons (pe_bltn (v := .ty "list") (by rfl) T.list (by decide +kernel) rfl) pa_nil)))
                (pe_callB call_isi (by rfl) T.isi (by decide +kernel) (pa_cons (pv 1) (pa_cons (pe_bltn (v := .ty "list") (by rfl) T.list (by decide +kernel) rfl) pa_nil))) (nomark _))
              (pw_or1 (pt_cmpR op_ne (pe_callB call_isi (by rfl) T.isi (by decide +kernel) (pa_cons (pv 0) (pa_cons (pe_bltn (v := .ty "tuple") (by rfl) T.tuple (by decide +kernel) rfl) pa_nil)))
                (pe_callB call_isi (by rfl) T.isi (by decide +kernel) (pa_cons (pv 1) (pa_cons (pe_bltn (v := .ty "tuple") (by rfl) T.tuple (by decide +kernel) rfl) pa_nil))) (nomark _)))).pt (pss_one (ps_ret pe_bl)) pss_nil)
          (pss_one (ps_ret (pe_and (pe_cmpR op_eq (pe_callB call_len_seq (by rfl) T.len PySem.boot_len (pa_cons (pv 0) pa_nil)) (pe_callB call_len_seq (by rfl) T.len PySem.boot_len (pa_cons (pv 1) pa_nil)) (nomark _))
            (pe_one (pe_callB (cr_all rfl) (by rfl) T.all (by decide +kernel) (pa_cons (pe_lc (own := [("_law_x", 2), ("_law_y", 3)]) (g := gTup K 2 (gCons (gName 2) (gCons (gName 3) gNil))) (tt := tYes) rfl scS.nd (RZ.pi_zipA (by rfl) T.zip (pa_cons (pv 0) (pa_cons (pv 1) pa_nil))) (blkOk_by (N := NS) (sc := defScope sSame) (by decide +kernel))
              (fun _ _ _ _ _ => pg_tup rfl (pgs_cons (pg_name (i := 2) scS.nd rfl (Or.inl rfl)) (pgs_cons (pg_name (i := 3) scS.nd rfl (Or.inl rfl)) pgs_nil))) (fun _ _ _ _ _ => pts_nil)
              (fun _ _ _ _ _ => pe_call G hr rfl gG F.kp bG .nil pass0 (pa_cons (pv 2) (pa_cons (pv 3) pa_nil)))) pa_nil)))))))
        pss_nil)
      (pss_cons (ps_if (pt_val (pe_callB call_isi (by rfl) T.isi (by decide +kernel) (pa_cons (pv 1) (pa_cons (pe_bltn (v := .ty "int") (by rfl) T.int (by decide +kernel) rfl) pa_nil))))
        (pss_one (ps_ret (pe_and (pe_callB call_isi (by rfl) T.isi (by decide +kernel) (pa_cons (pv 0) (pa_cons (pe_bltn (v := .ty "int") (by rfl) T.int (by decide +kernel) rfl) pa_nil)))
          (pe_and (pe_cmpR op_eq (pe_callB call_isi (by rfl) T.isi (by decide +kernel) (pa_cons (pv 0) (pa_cons (pe_bltn (v := .ty "bool") (by rfl) T.bool (by decide +kernel) rfl) pa_nil))) (pe_callB call_isi (by rfl) T.isi (by decide +kernel) (pa_cons (pv 1) (pa_cons (pe_bltn (v := .ty "bool") (by rfl) T.bool (by decide +kernel) rfl) pa_nil))) (nomark _))
            (pe_one (pe_cmpR op_eq (pv 0) (pv 1) (nomark _)))))))
        pss_nil)
      (pss_one (ps_ret (pe_and (pe_cmpR op_isBl (pe_callB call_isiT (by rfl) T.isi (by decide +kernel) (pa_cons (pv 0) (pa_cons (pe_tup (pa_cons (pe_bltn (v := .ty "int") (by rfl) T.int (by decide +kernel) rfl) (pa_cons (pe_bltn (v := .ty "list") (by rfl) T.list (by decide +kernel) rfl) (pa_cons (pe_bltn (v := .ty "tuple") (by rfl) T.tuple (by decide +kernel) rfl) pa_nil)))) pa_nil))) pe_bl (nomark _))
        (pe_one (pe_cmpR (OpR.or op_eq (op_eq_dict (Nat.lt_of_le_of_lt (Nat.le_add_right _ 64) hr.units))) (pv 0) (pv 1) (nomark _))))))), ?_⟩
    refine same_cases S ?num ?flat ?seq
    case num =>
      intro v nm bb e1 e2 ty k1 k2 k3 k4 sc
      subst e1 e2
      refine ⟨_, rfl, sz (Nat.le_of_ble_eq_true rfl), fun tp ntp => ⟨_, tp, [.ty "list", .ty "tuple"], .type nm, [.type "list", .type "tuple"], _, rfl, upd_same, .cons (.ty _) (.cons (.ty _) .nil), ty _, kitA2 k1 k2, _, rfl, iteF ?_⟩⟩
      refine ⟨_, rfl, _, .ty "int", .type nm, .type "int", _, rfl, .ty _, ty _, kit_ty k3, _, rfl, iteT ?_⟩
      refine ⟨_, rfl, _, .ty "int", .type nm, .type "int", _, rfl, .ty _, ty _, kit_ty k3, _, rfl, iteT ?_⟩
      refine ⟨_, rfl, _, .ty "bool", .type nm, .type "bool", _, rfl, .ty _, ty _, kit_ty k4, _, rfl, _, .ty "bool", .type nm, .type "bool", _, rfl, .ty _, ty _, kit_ty k4, rfl, _, rfl, iteD rfl ?_⟩
      refine ⟨_, rfl, _, rfl, sc, ?_⟩
      rw [decide_eq_true rfl]
      exact k _ (same_new ntp _)
    case flat =>
      intro nm e h
      subst e
      obtain ⟨k1, k2, k3⟩ := h.kit
      refine ⟨_, rfl, sz (Nat.le_of_ble_eq_true rfl), fun tp ntp => ⟨_, tp, [.ty "list", .ty "tuple"], .type nm, [.type "list", .type "tuple"], _, rfl, upd_same, .cons (.ty _) (.cons (.ty _) .nil), (h.mono (same_new ntp _)).ty, kitA2 k1 k2, _, rfl, iteF ?_⟩⟩
      refine ⟨_, rfl, _, .ty "int", .type nm, .type "int", _, rfl, .ty _, (h.mono (same_new ntp _)).ty, kit_ty k3, _, rfl, iteF ?_⟩
      refine ⟨_, rfl, sz (Nat.le_of_ble_eq_true rfl), fun t2 n2 => ?_⟩
      have s2 : Same H (upd _ t2 (.tup [.ty "int", .ty "list", .ty "tuple"])) := (same_new ntp _).trans (same_new n2 _)
      refine ⟨_, t2, [.ty "int", .ty "list", .ty "tuple"], .type nm, [.type "int", .type "list", .type "tuple"], _, rfl, upd_same, .cons (.ty _) (.cons (.ty _) (.cons (.ty _) .nil)), (h.mono s2).ty, kitA3 k3 k1 k2, _, _, rfl, rfl, _, rfl, iteD rfl ?_⟩
      refine ⟨_, rfl, _, rfl, ?_⟩
      cases h with
      | non => exact .inl ⟨rfl, by rw [decide_eq_true rfl]; exact k _ s2⟩
      | str z => exact .inl ⟨rfl, by rw [decide_eq_true rfl]; exact k _ s2⟩
      | dic h1 h2 h3 => exact .inr ⟨_, _, _, rfl, rfl, s2 _ _ h1, s2 _ _ h1, h2, h3, k _ s2⟩
    case seq => 
      intro nm a b xs ys e1 e2 k1 k2 k3 tx ty hb l1 l2 q
      refine ⟨_, rfl, sz (Nat.le_of_ble_eq_true rfl), fun tp ntp => ⟨_, tp, [.ty "list", .ty "tuple"], .type nm, [.type "list", .type "tuple"], _, rfl, upd_same, .cons (.ty _) (.cons (.ty _) .nil), ty _ (same_new ntp _), kitA2 k1 k2, _, rfl, ?_⟩⟩
      rw [k3]
      refine iteT ?_
      refine ⟨_, rfl, _, .ty "list", .type nm, .type "list", _, rfl, .ty _, tx _ (same_new ntp _), kit_ty k1, _, rfl, _, .ty "list", .type nm, .type "list", _, rfl, .ty _, ty _ (same_new ntp _), kit_ty k1, rfl, _, rfl, iteNS rfl ?_⟩
      refine ⟨_, rfl, _, .ty "tuple", .type nm, .type "tuple", _, rfl, .ty _, tx _ (same_new ntp _), kit_ty k2, _, rfl, _, .ty "tuple", .type nm, .type "tuple", _, rfl, .ty _, ty _ (same_new ntp _), kit_ty k2, rfl, _, rfl, iteNS rfl ?_⟩
      subst e1 e2
      have sq : ∀ H', Same H H' → (SqL K H' a xs ∨ SqT K H' a xs) ∧ (SqL K H' b ys ∨ SqT K H' b ys) := fun H' s => by
        rcases hb with ⟨h1, h2⟩ | ⟨h1, h2⟩
        · exact ⟨.inl (SqL.of (s _ _ h1)), .inl (SqL.of (s _ _ h2))⟩
        · exact ⟨.inr (SqT.of (s _ _ h1)), .inr (SqT.of (s _ _ h2))⟩
      refine ⟨_, rfl, a, xs, rfl, (sq _ (same_new ntp _)).1, _, rfl, b, ys, rfl, (sq _ (same_new ntp _)).2, rfl, _, rfl, iteD (by rw [l1]) ?_⟩
      have turn : ∀ (D : Addr) (i : Nat) (H2 H3 : Hp) (T : Addr) (u v : V), H2 T = none → H3 = upd H2 T (.tup [u, v]) → Same H H2 → H2 D = some (.lst (List.replicate i (.bl true))) → i < xs.length → SameV K H n u v →
          Same H H3 ∧ H3 D = some (.lst (List.replicate i (.bl true))) ∧ H3 T = some (.tup [u, v]) ∧ SameV K H3 n u v := fun D i H2 H3 T u v nT e s hD hi h => by
        subst e
        have s3 := s.trans (same_new nT (.tup [u, v]))
        exact ⟨s3, by rw [upd_ne (ne_of_none hD nT)]; exact hD, upd_same, h.mono s3⟩
      have fin : ∀ (D : Addr) (H2 : Hp), H2 D = some (.lst (List.replicate xs.length (.bl true))) → SqL K H2 D ((List.replicate xs.length true).map V.bl) := fun D H2 h => SqL.of (by rw [List.map_replicate]; exact h)
      have eall : (List.replicate xs.length true).all id = true := by rw [List.all_eq_true]; intro b hb; exact (List.mem_replicate.mp hb).2
      refine ⟨_, rfl, _, rfl, a, b, xs, ys, rfl, ?_⟩
      rcases hb with ⟨h1, h2⟩ | ⟨h1, h2⟩
      · refine .inl ⟨SqL.of ((same_new ntp _) _ _ h1), SqL.of ((same_new ntp _) _ _ h2), fun D nD => ?_⟩
        refine lc_it (walk_zip (n := xs.length) (by omega)) (fun i H2 => Same H H2 ∧ H2 D = some (.lst (List.replicate i (.bl true)))) ⟨(same_new ntp _).trans (same_new nD _), upd_same⟩ (fun i H2 _ p => ⟨SqL.of (p.1 _ _ h1), SqL.of (p.1 _ _ h2)⟩) ?_ ?_
        · rintro i x H2 H3 hi ⟨s, hD⟩ ⟨t, u, v, rfl, nt, e, eu, ev⟩
          obtain ⟨s3, d3, t3, q3⟩ := turn D i H2 H3 t u v nt e s hD hi (q i u v eu ev)
          refine ⟨t, [u, v], rfl, SqT.of t3, rfl, u, [v], rfl, v, [], rfl, rfl, rfl, ?_⟩
          refine ⟨_, rfl, _, rfl, u, v, rfl, q3, fun H4 s4 => ⟨_, s4 _ _ d3, ?_, ?_⟩⟩
          · rw [List.length_replicate]
            exact small1000 (by omega)
          · have n0 : H D = none := (same_new ntp _).free nD
            refine ⟨fun z o hz => ?_, by rw [upd_same, List.replicate_succ']⟩
            rw [upd_ne (ne_of_none hz n0)]
            exact s4 _ _ (s3 _ _ hz)
        · rintro H2 ⟨s, hD⟩
          refine ⟨D, List.replicate xs.length true, rfl, fin D H2 hD, ?_⟩
          rw [eall]
          exact k _ s
      · refine .inr ⟨SqT.of ((same_new ntp _) _ _ h1), SqT.of ((same_new ntp _) _ _ h2), fun D nD => ?_⟩
        refine lc_it (walk_zipT (n := xs.length) rfl l1) (fun i H2 => Same H H2 ∧ H2 D = some (.lst (List.replicate i (.bl true)))) ⟨(same_new ntp _).trans (same_new nD _), upd_same⟩ (fun i H2 _ p => ⟨SqT.of (p.1 _ _ h1), SqT.of (p.1 _ _ h2)⟩) ?_ ?_
        · rintro i x H2 H3 hi ⟨s, hD⟩ ⟨t, u, v, rfl, nt, e, eu, ev⟩
          obtain ⟨s3, d3, t3, q3⟩ := turn D i H2 H3 t u v nt e s hD hi (q i u v eu ev)
          refine ⟨t, [u, v], rfl, SqT.of t3, rfl, u, [v], rfl, v, [], rfl, rfl, rfl, ?_⟩
          refine ⟨_, rfl, _, rfl, u, v, rfl, q3, fun H4 s4 => ⟨_, s4 _ _ d3, ?_, ?_⟩⟩
          · rw [List.length_replicate]
            exact small1000 (by omega)
          · have n0 : H D = none := (same_new ntp _).free nD
            refine ⟨fun z o hz => ?_, by rw [upd_same, List.replicate_succ']⟩
            rw [upd_ne (ne_of_none hz n0)]
            exact s4 _ _ (s3 _ _ hz)
        · rintro H2 ⟨s, hD⟩
          refine ⟨D, List.replicate xs.length true, rfl, fin D H2 hD, ?_⟩
          rw [eall]
          exact k _ s
theorem same_none {f : Addr} {fd : FuncData} : FnOk P w K mg base CX0 0 f fd ["_law_found", "_law_due_here"] (spSame K 0) := by
  have no : ∀ vs H Q E, ¬ spSame K 0 vs H Q E := fun vs H Q E h => by
    obtain ⟨x, y, _, S, _⟩ := h
    exact S
  exact ⟨fun vs H Q E h => absurd h (no vs H Q E), fun A outer s H args us vs Q E _ _ _ _ h => absurd h (no vs H Q E)⟩
theorem same_all {f : Addr} {fd : FuncData} (F : Fun K "_law_same" "_law_same" sSame f fd) (T : TxtS mg) (bG : Binds K fd ["_law_found", "_law_due_here"] []) (gG : mg "_law_same" = some (.ref f)) :
    ∀ n : Nat, FnOk P w K mg base CX0 n f fd ["_law_found", "_law_due_here"] (spSame K n)
  | 0 => same_none
  | n + 1 => ok_same F T (same_all F T bG gG n) bG gG
end
end K1
set_option linter.all false
set_option maxRecDepth 100000
set_option maxHeartbeats 1000000
namespace K1
open PySem L2
section
variable {P : Program} {w : World} {K : PySem.W.Frag} {mg : Str → Option Value} {base : Heap}
theorem ok_oneT {f fT : Addr} {fd fdT : FuncData} (F : Fun K "_law_one" "_law_one" sOne f fd) (FT : Fun K "_law_take" "_law_take" sTake fT fdT) (T : TxtT mg) (gT : mg "_law_take" = some (.ref fT)) (bT : Binds K fdT ["_law_state", "_law_many"] []) :
    FnOk P w K mg base CX0 2 f fd ["_law_state", "_law_things"] spOneT := by
  have GT : FnOk P w K mg base CX0 1 fT fdT ["_law_state", "_law_many"] spTake := ok_take FT T
  refine F.ok scO (fun vs H Q E h => ?_) (fun cdv A outer s H vs Q E hr h => ?_)
  · obtain ⟨st, l, a, cs, n, xs, rfl, _⟩ := h
    rfl
  · obtain ⟨st, l, a, cs, n, xs, rfl, ha, h0, h1, hn, S, k⟩ := h
    have nal := S.no ha fun _ z => by cases z
    refine ⟨_, pss_one (ps_ret (pe_ix ix_tup (pv 1) (pe_call GT hr rfl gT FT.kp bT .nil pass0 (pa_cons (pv 0) (pa_cons (pe_callB call_len_seq (by rfl) T.len PySem.boot_len (pa_cons (pv 1) pa_nil)) pa_nil))) (fun _ _ => rfl))), ?_⟩
    refine ⟨_, rfl, _, rfl, _, rfl, _, _, rfl, .inr (SqT.of ha), st, l, cs, n, _, rfl, by omega, by omega, hn, S, fun r H' r0 r1 S' hk => ?_⟩
    have hr' : r.toNat < xs.length := by omega
    have e : xs[r.toNat]? = some xs[r.toNat] := List.getElem?_eq_getElem hr'
    refine ⟨a, xs, r, _, rfl, rfl, SqT.of (by rw [hk a nal]; exact ha), at_of (by omega) e, ?_⟩
    exact k _ H' (List.getElem_mem hr') S' hk
end
end K1
set_option linter.all false
set_option maxRecDepth 100000
set_option maxHeartbeats 1000000
namespace K1
open PySem L2
/-- what follows is shown once, from a fact of the value -/
def tMid (t : TE) : TE := fun σ H Q => ∃ R : VK, t σ H R ∧ ∀ x H', R x H' → Q x H'
open PySem.Spec PyProof.Rows in
theorem pe_mid {X : Cx} {e : Expr} {t : TE} (h : PE X e t) : PE X e (tMid t) := ⟨fun pins s σ H Q I ⟨R, q, k⟩ => thn (h.run pins s σ H R I q) fun v s1 ⟨x, H1, I1, r1, p⟩ => ⟨x, H1, I1, r1, k x H1 p⟩⟩
theorem same_strs {K : PySem.W.Frag} {H : Hp} {a b : Addr} {ss : List Str} {n : Nat} (h : (H a = some (.lst (ss.map V.str)) ∧ H b = some (.lst (ss.map V.str))) ∨ (H a = some (.tup (ss.map V.str)) ∧ H b = some (.tup (ss.map V.str)))) (few : ss.length ≤ 1000) : SameV K H (n + 2) (.ref a) (.ref b) := by
  refine .inr (.inr (.inr ⟨a, b, _, _, rfl, rfl, h, rfl, by rw [List.length_map]; exact few, fun i u v hu hv => ?_⟩))
  rw [hu] at hv
  cases hv
  obtain ⟨z, _, rfl⟩ := List.mem_map.mp (List.mem_of_getElem? hu)
  exact .inr (.inr (.inl ⟨rfl, _, .str z⟩))
theorem same_rows {K : PySem.W.Frag} {H : Hp} {a b : Addr} {M N : TL} {n : Nat} (ha : H a = some (.tup (refT M))) (hb : H b = some (.tup (refT N))) (tM : TuT H M) (tN : TuT H N) (e : rowT M = rowT N) (few : M.length ≤ 1000) (low : ∀ p ∈ M, p.2.length ≤ 1000) : SameV K H (n + 3) (.ref a) (.ref b) := by
  have l : M.length = N.length := by rw [← rowT_len M, ← rowT_len N, e]
  refine .inr (.inr (.inr ⟨a, b, _, _, rfl, rfl, .inr ⟨ha, hb⟩, by rw [refT_len, refT_len, l], by rw [refT_len]; exact few, fun i u v hu hv => ?_⟩))
  rw [refT, List.getElem?_map] at hu hv
  obtain ⟨p, hp, rfl⟩ := Option.map_eq_some_iff.mp hu
  obtain ⟨q, hq, rfl⟩ := Option.map_eq_some_iff.mp hv
  have e1 : (rowT M)[i]? = some p.2 := by rw [rowT, List.getElem?_map, hp]; rfl
  have e2 : (rowT N)[i]? = some q.2 := by rw [rowT, List.getElem?_map, hq]; rfl
  rw [e, e2] at e1
  have e3 : q.2 = p.2 := Option.some.inj e1
  have h2 := tN q (List.mem_of_getElem? hq)
  rw [e3] at h2
  exact same_strs (.inr ⟨tM p (List.mem_of_getElem? hp), h2⟩) (low p (List.mem_of_getElem? hp))
theorem same_ints {K : PySem.W.Frag} {H : Hp} {a b : Addr} {ns : List Int} {n : Nat} (ha : H a = some (.tup (ns.map V.int))) (hb : H b = some (.tup (ns.map V.int))) (few : ns.length ≤ 1000) : SameV K H (n + 2) (.ref a) (.ref b) := by
  refine .inr (.inr (.inr ⟨a, b, _, _, rfl, rfl, .inr ⟨ha, hb⟩, rfl, by rw [List.length_map]; exact few, fun i u v hu hv => ?_⟩))
  rw [hu] at hv
  cases hv
  obtain ⟨z, _, rfl⟩ := List.mem_map.mp (List.mem_of_getElem? hu)
  exact .inl ⟨z, rfl, rfl⟩
theorem names_few {R : List (List Str)} (g : GoodR R) : (namesOf R).length ≤ 60 := by
  have q : (namesOf R).length ≤ R.flatten.length := nodup_leK (asc_nodup tot_ltS (asc_asc tot_ltS _)) fun k hk => mem_ascS.mp hk
  have := g.good.tot
  omega
theorem same_due {K : PySem.W.Frag} {H : Hp} {t t2 : Addr} {R : List (List Str)} {tn tr tc un ur uc : Addr} {M N : TL} (g : GoodR R) (h : DueT H t R tn tr tc M) (k : DueT H t2 R un ur uc N) : SameV K H 5 (.ref t) (.ref t2) := by
  have lM : M.length = R.length := by rw [← rowT_len, h.row]
  have lN : N.length = R.length := by rw [← rowT_len, k.row]
  have fw := g.good.few
  have nf := names_few g
  have cf : (codeOf R).length ≤ 60 := by unfold codeOf; rw [List.length_map]; exact nf
  have lo : ∀ p ∈ M, p.2.length ≤ 1000 := fun p hp => by
    have m : p.2 ∈ R := by rw [← h.row]; exact List.mem_map.mpr ⟨p, hp, rfl⟩
    have := g.good.low _ m
    omega
  refine .inr (.inr (.inr ⟨t, t2, _, _, rfl, rfl, .inr ⟨h.tup, k.tup⟩, rfl, Nat.le_of_ble_eq_true rfl, fun i a b ha hb => ?_⟩))
  match i, ha, hb with
  | 0, ha, hb => cases ha; cases hb; exact .inr (.inr (.inl ⟨rfl, _, .str _⟩))
  | 1, ha, hb => cases ha; cases hb; exact same_strs (.inr ⟨h.na, k.na⟩) (by omega)
  | 2, ha, hb => cases ha; cases hb; exact same_rows h.ro k.ro h.tu k.tu (by rw [h.row, k.row]) (by omega) lo
  | 3, ha, hb => cases ha; cases hb; exact same_ints h.co k.co (by omega)
  | 4, ha, hb => cases ha; cases hb; exact .inl ⟨_, rfl, by rw [lM, lN]⟩
theorem same_bad {K : PySem.W.Frag} {H : Hp} {t t2 : Addr} {i : Nat} (h : H t = some (.tup [.str "bad", .int (i : Nat)])) (k : H t2 = some (.tup [.str "bad", .int (i : Nat)])) : SameV K H 5 (.ref t) (.ref t2) := by
  refine .inr (.inr (.inr ⟨t, t2, _, _, rfl, rfl, .inr ⟨h, k⟩, rfl, Nat.le_of_ble_eq_true rfl, fun j a b ha hb => ?_⟩))
  match j, ha, hb with
  | 0, ha, hb => cases ha; cases hb; exact .inr (.inr (.inl ⟨rfl, _, .str _⟩))
  | 1, ha, hb => cases ha; cases hb; exact .inl ⟨_, rfl, rfl⟩
theorem perm_of_map {α β : Type} {f : α → β} {ys zs : List β} (h : ys.Perm zs) : ∀ {L : List α}, zs = L.map f → ∃ L' : List α, L'.Perm L ∧ ys = L'.map f := by
  induction h with
  | nil => intro L e; exact ⟨L, .refl _, e⟩
  | cons x p ih =>
    intro L e
    cases L with
    | nil => cases e
    | cons y r =>
      rw [List.map_cons] at e
      injection e with e1 e2
      obtain ⟨L', p', e'⟩ := ih e2
      exact ⟨y :: L', p'.cons y, by rw [e', e1]; rfl⟩
  | swap x y l =>
    intro L e
    match L, e with
    | a :: b :: r, e =>
      rw [List.map_cons, List.map_cons] at e
      injection e with e1 e2
      injection e2 with e2 e3
      exact ⟨b :: a :: r, .swap _ _ _, by rw [e1, e2, e3]; rfl⟩
  | trans p q ih1 ih2 =>
    intro L e
    obtain ⟨L1, p1, e1⟩ := ih2 e
    obtain ⟨L2, p2, e2⟩ := ih1 e1
    exact ⟨L2, p2.trans p1, e2⟩
/-- list(a list) -/
def rLstL : List V → Hp → VK → Prop := fun xs H Q => ∃ p ys, xs = [.ref p] ∧ H p = some (.lst ys) ∧ ∀ l, H l = none → Q (.ref l) (upd H l (.lst ys))
theorem call_listL {X : Cx} : CallR X (.type "list") rLstL := by
  intro pins s σ H xs us Q I r h
  obtain ⟨p, ys, rfl, hp, q⟩ := h
  exact call_list_of pins s σ H _ us Q I r ⟨p, ys, rfl, .inl (SqL.of hp), q⟩
theorem mmakeQ {C MC : Addr} {v : V} {d : PyData} {H1 : Hp} {W : Addr → Hp → Prop} {E : XK} (dq : Dq H1 v d) (lim : LimB d) (b0 : badD d = none)
    (k : ∀ (x : Addr) (H' : Hp), Same H1 H' → H1 x = none → MeetAt C H' x (rowsOf (blocksD d)) → W x H') :
    ∀ x dx, H1 x = none → H1 dx = none → dx ≠ x → spMInitQ C MC (.ref x :: ([v] ++ [])) (upd (upd H1 dx (.own x)) x (.ins C dx [])) (fun v H2 => v = .non ∧ W x H2) E := by
  intro x dx nx nd ne
  have s : Same H1 (upd (upd H1 dx (.own x)) x (.ins C dx [])) := fun b o hb => by rw [upd_ne (ne_of_none hb nx), upd_ne (ne_of_none hb nd)]; exact hb
  exact ⟨x, v, dx, d, rfl, upd_same, dq.same s, lim, (fun i e => by rw [b0] at e; cases e), fun _ H' b m => ⟨rfl, k x H' (Same.made nx nd fun z o hz ne' => b z o ne' hz) nx m⟩⟩
/-- lists of names as data -/
def dL (p : Addr × List Str) : PyData := .list (p.2.map PyData.str)
theorem dqT {H : Hp} : ∀ {B : TL}, LiT H B → DqAll H (refT B) (B.map dL)
  | [], _ => .nil
  | p :: r, h => .cons (.lst (h p (.head _)) (dq_strs _)) (dqT fun q hq => h q (.tail _ hq))
theorem strsOf_map : ∀ zs : List Str, strsOf (zs.map PyData.str) = zs
  | [] => rfl
  | z :: r => by
    rw [List.map_cons]
    show z :: strsOf (r.map PyData.str) = z :: r
    rw [strsOf_map r]
theorem names_dL (p : Addr × List Str) : namesIn (dL p) = p.2 := strsOf_map p.2
theorem names_dLs (B : TL) : (B.map dL).map namesIn = rowT B := by
  rw [List.map_map]
  exact List.map_congr_left fun p _ => names_dL p
theorem okB_dL {p : Addr × List Str} (h1 : p.2.length ≤ 7) (h2 : ∀ z ∈ p.2, z ∈ SS) : okB (dL p) = true := by
  show (decide _ && List.all _ _) = true
  rw [Bool.and_eq_true]
  refine ⟨decide_eq_true (by rw [List.length_map]; exact h1), List.all_eq_true.mpr fun d hd => ?_⟩
  obtain ⟨z, hz, rfl⟩ := List.mem_map.mp hd
  exact decide_eq_true (h2 z hz)
theorem nameOk_fits {B : TL} (g : GoodB (rowT B)) : ∀ tk : List Str, (∀ b ∈ rowT B, ∀ z ∈ b, z ∉ tk) → badAt tk (B.map dL) = none := by
  induction B with
  | nil => intro _ _; rfl
  | cons p r ih =>
    intro tk no
    have mp : p.2 ∈ rowT (p :: r) := .head _
    have ar : areD (dL p) = true := by
      show (p.2.map PyData.str).all nameD = true
      rw [List.all_map, List.all_eq_true]
      exact fun z hz => g.nm _ mp z hz
    have f : fitD (fun z => decide (z ∈ tk)) (dL p) = true := by
      unfold fitD
      rw [ar, names_dL, decide_eq_true (g.nd _ mp)]
      have e1 : p.2.isEmpty = false := by
        cases q : p.2 with
        | nil => exact absurd q (g.ne _ mp)
        | cons _ _ => rfl
      have e2 : (p.2.all fun z => !decide (z ∈ tk)) = true := List.all_eq_true.mpr fun z hz => by rw [decide_eq_false (no _ mp z hz)]; rfl
      rw [e1, e2]
      rfl
    have gd : (rowT (p :: r)).Pairwise fun b c => ∀ z ∈ b, z ∉ c := g.dis
    obtain ⟨d1, d2⟩ := List.pairwise_cons.mp gd
    have gr : GoodB (rowT r) := by
      refine ⟨fun b hb => g.nm b (.tail _ hb), fun b hb => g.ne b (.tail _ hb), fun b hb => g.nd b (.tail _ hb), d2, ?_, fun b hb => g.low b (.tail _ hb), ?_⟩
      · have := g.few
        show (rowT r).length ≤ 20
        have e : (rowT (p :: r)).length = (rowT r).length + 1 := rfl
        omega
      · have := g.tot
        have e : (rowT (p :: r)).flatten.length = p.2.length + (rowT r).flatten.length := by
          show (p.2 ++ (rowT r).flatten).length = _
          rw [List.length_append]
        omega
    have ih := ih gr (tk ++ p.2) fun b hb z hz m => by
      rcases List.mem_append.mp m with m | m
      · exact no b (.tail _ hb) z hz m
      · exact d1 b hb z m hz
    show (if fitD (fun z => decide (z ∈ tk)) (dL p) = true then (badAt (tk ++ namesIn (dL p)) (r.map dL)).map (· + 1) else some 0) = none
    rw [if_pos f, names_dL, ih]
    rfl
theorem good_perm {B C : List (List Str)} (p : C.Perm B) (g : GoodB B) : GoodB C := by
  refine ⟨fun b hb => g.nm b (p.mem_iff.mp hb), fun b hb => g.ne b (p.mem_iff.mp hb), fun b hb => g.nd b (p.mem_iff.mp hb), (List.Perm.pairwise_iff (fun {b c} h z hz hc => h z hc hz) p).mpr g.dis, by rw [p.length_eq]; exact g.few, fun b hb => g.low b (p.mem_iff.mp hb), by rw [flat_len_perm p]; exact g.tot⟩
/-- blocks in another order, and their names -/
theorem rows_alike {B C : List (List Str)} (h : ∀ b, b ∈ B.map (asc ltS) ↔ b ∈ C.map (asc ltS)) : rowsOf B = rowsOf C := asc_mem tot_lexS h
theorem dataL_of {K : PySem.W.Frag} {H : Hp} {xs : List V} {ds : List PyData} (h : DqAll H xs ds) (ok : ∀ d ∈ ds, Okd d) : DataL K H xs := ⟨ds, h.dp (okd_all ok).1, ok⟩
theorem names_okd {p : Addr × List Str} (h : ∀ z ∈ p.2, PyData.strOk z = true) : Okd (dL p) := by
  have a : ∀ d ∈ p.2.map PyData.str, Okd d := fun d hd => by
    obtain ⟨z, hz, rfl⟩ := List.mem_map.mp hd
    exact ⟨by simpa only [PyData.canLay0] using h z hz, by simp only [PyData.depth]; omega⟩
  refine ⟨by simp only [dL, PyData.canLay0]; exact (okd_all a).1, ?_⟩
  have dz : ∀ zs : List Str, PyData.depthAll (zs.map PyData.str) = 0 := by
    intro zs
    induction zs with
    | nil => simp only [List.map_nil, PyData.depthAll]
    | cons z r ih => simp only [List.map_cons, PyData.depthAll, PyData.depth, ih]; omega
  simp only [dL, PyData.depth, dz]
  omega
/-- each beside a rearranged one -/
def PermAll : List (List Str) → List (List Str) → Prop
  | [], [] => True
  | a :: r, b :: q => a.Perm b ∧ PermAll r q
  | _, _ => False
theorem PermAll.snoc : ∀ {X Y : List (List Str)} {a b : List Str}, PermAll X Y → a.Perm b → PermAll (X ++ [a]) (Y ++ [b])
  | [], [], _, _, _, p => ⟨p, trivial⟩
  | x :: r, y :: q, _, _, h, p => ⟨h.1, PermAll.snoc h.2 p⟩
  | [], _ :: _, _, _, h, _ => h.elim
  | _ :: _, [], _, _, h, _ => h.elim
theorem PermAll.good : ∀ {X Y : List (List Str)}, PermAll X Y → (∀ a ∈ X, ∃ b ∈ Y, a.Perm b) ∧ X.length = Y.length ∧ X.flatten.length = Y.flatten.length ∧ X.map (asc ltS) = Y.map (asc ltS)
  | [], [], _ => ⟨fun _ h => (nomatch h), rfl, rfl, rfl⟩
  | x :: r, y :: q, h => by
    obtain ⟨a, b, c, d⟩ := PermAll.good h.2
    refine ⟨fun z hz => ?_, by rw [List.length_cons, List.length_cons, b], by rw [List.flatten_cons, List.flatten_cons, List.length_append, List.length_append, c, h.1.length_eq], ?_⟩
    · rcases List.mem_cons.mp hz with rfl | hz
      · exact ⟨y, .head _, h.1⟩
      · obtain ⟨w, hw, p⟩ := a z hz
        exact ⟨w, .tail _ hw, p⟩
    · rw [List.map_cons, List.map_cons, d, asc_mem tot_ltS fun z => h.1.mem_iff]
  | [], _ :: _, h => h.elim
  | _ :: _, [], h => h.elim
theorem PermAll.dis : ∀ {X Y : List (List Str)}, PermAll X Y → (Y.Pairwise fun b c => ∀ z ∈ b, z ∉ c) → X.Pairwise fun b c => ∀ z ∈ b, z ∉ c
  | [], [], _, _ => .nil
  | x :: r, y :: q, h, d => by
    obtain ⟨d1, d2⟩ := List.pairwise_cons.mp d
    refine List.pairwise_cons.mpr ⟨fun b hb z hz m => ?_, PermAll.dis h.2 d2⟩
    obtain ⟨c, hc, p⟩ := (PermAll.good h.2).1 b hb
    exact d1 c hc z (h.1.mem_iff.mp hz) (p.mem_iff.mp m)
  | [], _ :: _, h, _ => h.elim
  | _ :: _, [], h, _ => h.elim
theorem PermAll.goodB {X Y : List (List Str)} (h : PermAll X Y) (g : GoodB Y) : GoodB X := by
  obtain ⟨a, b, c, d⟩ := h.good
  refine ⟨fun x hx z hz => ?_, fun x hx e => ?_, fun x hx => ?_, h.dis g.dis, by rw [b]; exact g.few, fun x hx => ?_, by rw [c]; exact g.tot⟩
  · obtain ⟨y, hy, p⟩ := a x hx
    exact g.nm y hy z (p.mem_iff.mp hz)
  · obtain ⟨y, hy, p⟩ := a x hx
    subst e
    exact g.ne y hy (List.eq_nil_of_length_eq_zero p.length_eq.symm)
  · obtain ⟨y, hy, p⟩ := a x hx
    exact p.nodup_iff.mpr (g.nd y hy)
  · obtain ⟨y, hy, p⟩ := a x hx
    rw [p.length_eq]
    exact g.low y hy
theorem jn_sub {st : Addr} {H H' : Hp} (b : But st H H') : ∀ c o, jn (off st H) (fresh H H') c = some o → H' c = some o := fun c o h => by
  rcases jn_some h with z | ⟨_, z⟩
  · obtain ⟨n, e⟩ := off_some z
    exact b c o n e
  · exact (fresh_some z).2
/-- blocks that fit are lists of names -/
theorem fits_dL {ds : List PyData} (ok : ∀ e ∈ ds, okB e = true) (b0 : badAt [] ds = none) : ∀ e ∈ ds, e = .list ((namesIn e).map PyData.str) ∧ (namesIn e).length ≤ 7 ∧ ∀ z ∈ namesIn e, z ∈ SS := by
  intro e he
  have f := (fitsAll b0).1 e he
  have el := okB_lis (ok e he) _ f.ds
  refine ⟨el, ?_, fun z hz => ?_⟩
  · have o := ok e he
    rw [el] at o
    have := (okB_items o).1
    rwa [List.length_map] at this
  · have o := ok e he
    rw [el] at o
    exact (inn_facts ((okB_items o).2 (.str z) (List.mem_map.mpr ⟨z, hz, rfl⟩))).str z rfl
end K1
set_option linter.all false
set_option maxRecDepth 100000
set_option maxHeartbeats 1000000
namespace K1
open PySem PySem.Spec PyProof.Rows L2
/-! ### a def's promise where what runs around it is known -/
structure FnC (A : Around) (P : Program) (w : World) (K : PySem.W.Frag) (mg : Str → Option Value) (B0 : Heap) (T : CXT) (k : Nat) (f : Addr) (fd : FuncData) (ps : List Str) (sp : Sp) : Prop where
  len : ∀ vs H Q E, sp vs H Q E → vs.length = ps.length
  run : ∀ (fr : List Env) (s : Shared) (H : Hp) (args : Args) (us : List Value) (vs : List V) (Q : VK) (E : XK), Room k A → Env0 P w K mg B0 A fr s H → BindsTo s fd args (ps.zip us) → Vals vs us → sp vs H Q E → codeAny (model P w) A (.call (.ref f) args) (CR T fr P w H s Q E) s
section
variable {P : Program} {w : World} {K : PySem.W.Frag} {mg : Str → Option Value} {B0 : Heap} {A : Around}
theorem okAt {x qual : Str} {st : Stmt} {f : Addr} {fd : FuncData} {N ps : List Str} {k : Nat} {sp : Sp} (F : Fun K x qual st f fd) (S : FnScope N ps (defScope st)) (len : ∀ vs H Q E, sp vs H Q E → vs.length = ps.length)
    (body : ∀ (cdv : Value) (fr : List Env) (s : Shared) (H : Hp) (vs : List V) (Q : VK) (E : XK), Room k (A.deeper (envOfC qual (defScope st) s.heap.objs.size f cdv)) → sp vs H Q E →
      ∃ t, PSs (cxOf CX0 P w K mg B0 N qual (defScope st) f cdv A fr s H E).nox (defBody st) t ∧ t { nx := fun _ H' => Q .non H', rt := Q } (start N vs) H) : FnC A P w K mg B0 CX0 (k + 1) f fd ps sp := by
  obtain ⟨oc, od, kV, doc, pm, an, cdv, ct, osl, rfl, look, code⟩ := F.ex
  constructor
  · exact len
  intro fr s H args us vs Q E room en bind rel want
  have many := len _ _ _ _ want
  have inK : K.In s.heap := en.mod.kin.keeps fun b o z => (en.bs b o z).1
  have noLim : s.heap.NoLimit := en.mod.nolimit.keeps fun b o z => (en.bs b o z).1
  have kinds : ∀ y ∈ ps.zip us, (defScope st).names.lookup y.1 = some .local ∨ ((defScope st).names.lookup y.1 = some .cell ∧ ((cellsFrom (s.heap.objs.size + 1) (defScope st).names []).lookup y.1).isSome = true) := by
    rintro ⟨n, v⟩ m
    rcases S.par n (List.of_mem_zip m).1 with z | z
    · exact .inl z
    · exact .inr ⟨z, PySem.W.cellsFrom_some _ _ _ (.inl z)⟩
  refine codeAny_call_function room.depth (inK _ _ look) rfl S.co S.gen rfl (PySem.W.codeRec_of inK code) (bind _ _ _ _ ?_)
  refine wpAny_newFunctionEnv_cells S.kind kinds fun env here s1 entry => ?_
  subst here
  refine ⟨noLim.keeps entry.toInCall.keep, codeAny_func ?_⟩
  obtain ⟨t, term, wish⟩ := body cdv fr s H vs Q E (room.deeper _) want
  have J0 : Inv (cxOf CX0 P w K mg B0 N qual (defScope st) f cdv A fr s H E) [] (start N vs) H s1 := inv_start S room.hd en many rel entry
  refine wpAny_mono (term.nox.run [] s1 (start N vs) H _ J0 wish) (fun out s' back => ?_) fun _ _ z => z
  cases out with
  | ret u =>
    obtain ⟨v, σ', H', J, rv, q⟩ := back
    exact ⟨v, H', J.os, J.bare, J.base, J.hok, rv, q⟩
  | next =>
    obtain ⟨σ', H', J, q⟩ := back
    exact ⟨.non, H', J.os, J.bare, J.base, J.hok, rfl, q⟩
  | brk =>
    obtain ⟨_, _, _, q⟩ := back
    exact q.elim
  | cont =>
    obtain ⟨_, _, _, q⟩ := back
    exact q.elim
end
/-! ### the end: the script alone is told -/
theorem law_callG {P : Program} {w : World} {K : PySem.W.Frag} {mg mb : Str → Option Value} {k : Nat} {fa a : Addr} {fd : FuncData} {x : Str} {sp : Sp} {s₁ : Shared} {vs : List Value} {ns : List Int}
    (inK : K.In s₁.heap) (gns : s₁.heap.Ns mainGlobals mg) (bns : s₁.heap.Ns builtinsNs mb) (boot : ∀ x : Str, x ≠ "__name__" → mb x = bootBuiltins x) (lim : s₁.heap.NoLimit) (ge : s₁.gens = #[])
    (at_ : s₁.heap.get? a = some { cls := .type "list", data := .seq vs.toArray }) (hI : IntsAre vs ns) (short : ns.length ≤ sizeLine) (room : Room k callerA)
    (F : ∀ B0 : Heap, K.In B0 → B0.Ns mainGlobals mg → FnC callerA P w K mg B0 CX0 k fa fd [x] sp) (bind : ∀ (s : Shared) (u : Value), BindsTo s fd ⟨[u], []⟩ [(x, u)])
    (wish : ∀ H : Hp, Only H → SqL K H a (ns.map V.int) → sp [.ref a] H (fun v _ => v = .bl true) fun _ _ _ => False) :
    codeAny (model P w) callerA (.call (.ref fa) ⟨[.ref a], []⟩) (fun r s' => r = .ok (.ret (.bool true)) ∧ OldK s₁.heap s'.heap ∧ s'.os = s₁.os ∧ AllBare s'.gens) s₁ := by
  have rv := vals_ints hI
  have lenV := hI.length
  have go : ∀ H : Hp, Only H → SqL K H a (ns.map V.int) → HOk P w H s₁.heap → (∀ b, H b ≠ none → b = a) → (H a ≠ none → K.lookup a = none) → 
      codeAny (model P w) callerA (.call (.ref fa) ⟨[.ref a], []⟩) (fun r s' => r = .ok (.ret (.bool true)) ∧ OldK s₁.heap s'.heap ∧ s'.os = s₁.os ∧ AllBare s'.gens) s₁ := by
    intro H only seq hok one notK
    have noD : ∀ (b : Addr) (o : Obj) (es : Array DictEntry) (ep : Nat), s₁.heap.get? b = some o → o.data = .dict es ep → H b = none := by
      intro b o es ep e d
      cases q : H b with
      | none => rfl
      | some u =>
        obtain rfl := one b (by rw [q]; simp)
        rw [at_] at e
        cases e
        cases (show Data.seq vs.toArray _ = Data.dict es ep from d)
    have nsB : ∀ {b : Addr} {m : Str → Option Value}, s₁.heap.Ns b m → (hidT s₁.heap H).Ns b m := fun {b m} ⟨o, es, ep, e, d, r⟩ => ⟨o, es, ep, hidT_get e (noD b o es ep e d), d, r⟩
    have inB : K.In (hidT s₁.heap H) := fun b o e => hidT_get (inK b o e) (by
      cases q : H b with
      | none => rfl
      | some u =>
        have no : H b ≠ none := by rw [q]; simp
        obtain rfl := one b no
        rw [notK no] at e
        cases e)
    have md : Mod K mg (hidT s₁.heap H) := ⟨inB, nsB gns, ⟨mb, nsB bns, boot⟩, let ⟨mc, h1, h2⟩ := lim; ⟨mc, nsB h1, h2⟩⟩
    have en : Env0 P w K mg (hidT s₁.heap H) callerA [] s₁ H := ⟨rfl, md, fun b o e => of_hidT e, Nat.le_of_eq (hidT_size _ _), trivial, fun b m => absurd (show b ∈ ([] : List Addr) from m) (by simp), hok, .of_eq ge⟩
    refine codeAny_mono ((F _ inB (nsB gns)).run [] s₁ H ⟨[.ref a], []⟩ [.ref a] [.ref a] _ _ room en (bind s₁ (.ref a)) (.cons rfl .nil) (wish H only seq)) fun r s' back => ?_
    cases r with
    | error e => exact False.elim back
    | ok fl =>
      cases fl with
      | next => exact False.elim back
      | brk => exact False.elim back
      | cont => exact False.elim back
      | ret u =>
        obtain ⟨v, H', os, bare, un, hok', rv', q⟩ := back
        obtain rfl : v = .bl true := q
        obtain rfl : u = Value.bool true := rv'
        refine ⟨rfl, OldK.of_keep fun b o e => ?_, os, bare⟩
        cases q : H b with
        | none => exact un.keep b o e q (fun m => absurd (show b ∈ ([] : List Addr) from m) (by simp)) (by simp)
        | some u =>
          rcases only b with z | ⟨ob, y, z⟩
          · rw [q] at z
            cases z
          · obtain ⟨e1, _⟩ := hok b _ z
            obtain ⟨e2, _⟩ := hok' b _ (un.frzs b ob _ z)
            rw [e] at e1
            cases e1
            exact e2
  cases hk : K.lookup a with
  | some o =>
    have e := inK a o hk
    rw [at_] at e
    cases e
    exact go (fun _ => none) (fun _ => .inl rfl) (.inr ⟨_, vs.toArray, _, hk, rfl, rfl, rfl, by rw [List.size_toArray, lenV]; exact short, by simpa using rv⟩) (fun _ _ z => nomatch (show (none : Option HO) = some _ from z)) (fun _ z => absurd rfl z) fun z => absurd rfl z
  | none =>
    refine go (fun b => if b = a then some (.frz { cls := .type "list", data := .seq vs.toArray } (.lst (ns.map V.int))) else none) (fun b => ?_) (.inl (.inr ⟨{ cls := .type "list", data := .seq vs.toArray }, if_pos rfl⟩)) (fun b u z => ?_) (fun b z => ?_) fun _ => hk
    · by_cases c : b = a
      · exact .inr ⟨_, _, if_pos c⟩
      · exact .inl (if_neg c)
    · by_cases c : b = a
      · cases (if_pos c).symm.trans z
        subst c
        exact ⟨at_, by rw [List.length_map]; exact short, vs, _, rv, at_⟩
      · cases (if_neg c).symm.trans z
    · by_cases c : b = a
      · exact c
      · exact absurd (if_neg c) z
theorem walk_ofG {l : PySem.W.OpenLaw} {n k : Nat} {q : Program} {loose : List Str} {XP : (Str → Option Value) → Heap → Prop} {YP : World → Heap → Prop} {d : DefRec} {K : Params → PySem.W.Frag} {sp : World → Sp} {x : Str}
    (hn : l.most = some n) (hn2 : n ≤ sizeLine) (hdf : d.params.defaults = []) (room : Room k callerA)
    (hY : ∀ (w : World) (h : Heap), YP w h → (K w.params).In h)
    (F : ∀ (w : World) (mg : Str → Option Value) (fa : Addr) (h : Heap), (K w.params).In h → h.Ns mainGlobals mg → mg d.name = some (.ref fa) →
      ∃ fd : FuncData, (∀ (s : Shared) (u : Value), BindsTo s fd ⟨[u], []⟩ [(x, u)]) ∧
        ∀ B0 : Heap, (K w.params).In B0 → B0.Ns mainGlobals mg → FnC callerA l.prog w (K w.params) mg B0 CX0 k fa fd [x] (sp w))
    (wish : ∀ (w : World) (H : Hp) (a : Addr) (ns : List Int), ns.length ≤ n → Only H → SqL (K w.params) H a (ns.map V.int) → sp w [.ref a] H (fun v _ => v = .bl true) fun _ _ _ => False) :
    PySem.W.WalkO q loose XP YP l.row.toRowW d [] (fun f vs => PySem.call f vs) := by
  refine Att.attach_call hn hdf fun w s₀ s₁ mg mb fa o pm cd doc a vs ns G Y ho hd hcd hmg hobj hints hlen hg => ?_
  have inK := hY w _ Y
  obtain ⟨fd, bind, hF⟩ := F w mg fa _ inK G.T.g hmg
  exact law_callG inK G.T.g G.T.b G.T.builtins G.T.nolimit hg hobj hints (Nat.le_trans hlen hn2) room hF bind fun H h1 h2 => wish w H a ns hlen h1 h2
end K1
set_option linter.all false
set_option maxRecDepth 100000
set_option maxHeartbeats 1000000
namespace K1
open PySem L2
/-- a and b, b a truth that is read without a change -/
def tAndP (ta tb : TE) : TE := fun σ H Q => ta σ H fun x H1 => ∃ c d, x = .bl c ∧ (∀ Q : VK, Q (.bl d) H1 → tb σ H1 Q) ∧ Q (.bl (c && d)) H1
open PySem.Spec PyProof.Rows in
theorem pe_andP {X : Cx} {a b : Expr} {rest : List Expr} {pos : Pos} {ta tb : TE} (ha : PE X a ta) (hb : PE X (.BoolOp .And (b :: rest) pos) tb) : PE X (.BoolOp .And (a :: b :: rest) pos) (tAndP ta tb) := by
  refine ⟨fun pins s σ H Q I h => ?_⟩
  refine BoolOp_and (thn (ha.run pins s σ H _ I h) fun v s1 ⟨x, H1, I1, r1, q1⟩ => ?_)
  obtain ⟨c, d, rfl, g, q1⟩ := q1
  cases r1
  refine wpAny_truthy_bool ?_
  cases c with
  | true => exact hb.run pins s1 σ H1 Q I1 (g Q q1)
  | false => exact ⟨.bl false, H1, I1, rfl, q1⟩
theorem units65 {k : Nat} {A : Around} (r : Room (k + 1) A) : A.units + 65 < cLine := by
  have := r.un
  omega
theorem sl_listK {X : Cx} {K : PySem.W.Frag} (h : X.K = K := by rfl) : SlR X (rSlL K) := by
  subst h
  exact sl_list
theorem op_inDK {X : Cx} {K : PySem.W.Frag} (hu : X.A.units + 65 < cLine) (h : X.K = K := by rfl) : OpR X (compareOp .In) (rInD K) := by
  subst h
  exact op_inD hu
theorem op_notInK {X : Cx} {K : PySem.W.Frag} (h : X.K = K := by rfl) : OpR X (compareOp .NotIn) (rIn K true) := by
  subst h
  exact op_notIn_seq
theorem mt_indexK {X : Cx} {K : PySem.W.Frag} (h : X.K = K := by rfl) : MtR X "list.index" (rIndex K) := by
  subst h
  exact mt_index
theorem cr_setK {X : Cx} {K : PySem.W.Frag} {w : World} (hc : X.calm = true) (h : X.K = K := by rfl) (hw : X.w = w := by rfl) : CallR X (.type "set") (rSetX K w) := by
  subst h hw
  exact cr_setX hc
theorem call_lenKS {X : Cx} {w : World} (hw : X.w = w := by rfl) : CallR X (.builtin "len") (fun xs H Q => ∃ (a : Addr) (D : List Key), xs = [.ref a] ∧ H a = some (KS w a D) ∧ Q (.int (D.length : Nat)) H) := by
  subst hw
  exact call_lenX
theorem MeetAt.keep {C : Addr} {H : Hp} {a D : Addr} {R : List (List Str)} {xs ys : List V} (h : MeetAt C H a R) (hD : H D = some (.lst xs)) : MeetAt C (L2.upd H D (.lst ys)) a R := by
  have go : ∀ {b : Addr} {o : HO}, H b = some o → (∀ zs, o ≠ .lst zs) → L2.upd H D (.lst ys) b = some o := fun {b o} hb no => by
    rw [upd_ne (fun e => by rw [e, hD] at hb; exact no _ (Option.some.inj hb).symm)]
    exact hb
  obtain ⟨dx, t, d, n, c, M, kvs, o⟩ := h
  exact ⟨dx, t, d, n, c, M, kvs, go o.ob (fun _ z => by cases z), go o.bl (fun _ z => by cases z), fun q hq => go (o.tu q hq) (fun _ z => by cases z), o.row, go o.nu (fun _ z => by cases z), o.num, go o.na (fun _ z => by cases z), go o.co (fun _ z => by cases z), o.good⟩
theorem okd_rows {R : List (List Str)} (h : ∀ b ∈ R, ∀ z ∈ b, nameOk z = true) : ∀ d ∈ R.map dS, Okd d := fun d hd => by
  obtain ⟨b, hb, rfl⟩ := List.mem_map.mp hd
  exact ⟨(okd_dS (h b hb)).1, Nat.le_trans (okd_dS (h b hb)).2 (by decide)⟩
/-- the comparisons of meetings -/
structure CmpM (P : Program) (w : World) (K : PySem.W.Frag) (mg : Str → Option Value) (base : Heap) (C : Addr) : Prop where
  c : MeetC K mg C
  le : ∃ g fd, Meth K C "__le__" g ∧ Binds K fd ["self", "other"] [] ∧ FnOk P w K mg base CX0 3 g fd ["self", "other"] (spCmpM C finer)
  lt : ∃ g fd, Meth K C "__lt__" g ∧ Binds K fd ["self", "other"] [] ∧ FnOk P w K mg base CX0 3 g fd ["self", "other"] (spCmpM C lessM)
  ge : ∃ g fd, Meth K C "__ge__" g ∧ Binds K fd ["self", "other"] [] ∧ FnOk P w K mg base CX0 3 g fd ["self", "other"] (spCmpM C fun R S => finer S R)
  gt : ∃ g fd, Meth K C "__gt__" g ∧ Binds K fd ["self", "other"] [] ∧ FnOk P w K mg base CX0 3 g fd ["self", "other"] (spCmpM C fun R S => finer S R && !decide (R = S))
  eq : ∃ g fd, Meth K C "__eq__" g ∧ NeC K C g ∧ Binds K fd ["self", "other"] [] ∧ FnOk P w K mg base CX0 1 g fd ["self", "other"] (spEqM C)
/-- what a law of meetings calls -/
structure LawN (P : Program) (w : World) (K : PySem.W.Frag) (mg : Str → Option Value) (base : Heap) (C : Addr) : Prop where
  range : mg "range" = none
  len : mg "len" = none
  set : mg "set" = none
  all : mg "all" = none
  enum : mg "enumerate" = none
  tuple : mg "tuple" = none
  take : ∃ f fd, mg "_law_take" = some (.ref f) ∧ PySem.W.keepIn K (.ref f) = true ∧ Binds K fd ["_law_state", "_law_many"] [] ∧ FnOk P w K mg base CX0 1 f fd ["_law_state", "_law_many"] spTake
  fresh : ∃ f fd, mg "_law_fresh" = some (.ref f) ∧ PySem.W.keepIn K (.ref f) = true ∧ Binds K fd ["_law_script"] [] ∧ FnOk P w K mg base CX0 1 f fd ["_law_script"] (spFresh K)
  names : ∃ f fd, mg "_law_names" = some (.ref f) ∧ PySem.W.keepIn K (.ref f) = true ∧ Binds K fd ["_law_state", "_law_many"] [] ∧ FnOk P w K mg base CX0 3 f fd ["_law_state", "_law_many"] spNames
  blocks : ∃ f fd, mg "_law_blocks" = some (.ref f) ∧ PySem.W.keepIn K (.ref f) = true ∧ Binds K fd ["_law_names_here", "_law_code"] [] ∧ FnOk P w K mg base CX0 1 f fd ["_law_names_here", "_law_code"] spBlocks
  make : ∃ g fd, Mk K C g ∧ Binds K fd ["self", "blocks"] [] ∧ FnOk P w K mg base CX0 5 g fd ["self", "blocks"] (spMInit C)
def spLaw (K : PySem.W.Frag) : Sp := fun vs H Q _ => ∃ (a : Addr) (ns : List Int), vs = [.ref a] ∧ SqL K H a (ns.map V.int) ∧ ns.length ≤ 63 ∧ ∀ H', Q (.bl true) H'
end K1
set_option linter.all false
set_option maxRecDepth 100000
set_option maxHeartbeats 1000000
set_option pp.maxSteps 600
namespace K1
open PySem L2
structure L10 (P : Program) (w : World) (K : PySem.W.Frag) (mg : Str → Option Value) (base : Heap) (C MC : Addr) : Prop where
  c : MeetC K mg C
  al : AloneC K C
  len : mg "len" = none
  any : mg "any" = none
  range : mg "range" = none
  list : mg "list" = none
  repr : mg "repr" = none
  take : ∃ f fd, mg "_law_take" = some (.ref f) ∧ PySem.W.keepIn K (.ref f) = true ∧ Binds K fd ["_law_state", "_law_many"] [] ∧ FnOk P w K mg base CX0 1 f fd ["_law_state", "_law_many"] spTake
  fresh : ∃ f fd, mg "_law_fresh" = some (.ref f) ∧ PySem.W.keepIn K (.ref f) = true ∧ Binds K fd ["_law_script"] [] ∧ FnOk P w K mg base CX0 1 f fd ["_law_script"] (spFresh K)
  names : ∃ f fd, mg "_law_names" = some (.ref f) ∧ PySem.W.keepIn K (.ref f) = true ∧ Binds K fd ["_law_state", "_law_many"] [] ∧ FnOk P w K mg base CX0 3 f fd ["_law_state", "_law_many"] spNames
  blocks : ∃ f fd, mg "_law_blocks" = some (.ref f) ∧ PySem.W.keepIn K (.ref f) = true ∧ Binds K fd ["_law_names_here", "_law_code"] [] ∧ FnOk P w K mg base CX0 1 f fd ["_law_names_here", "_law_code"] spBlocks
  drawn : ∃ f fd, mg "_law_drawn_code" = some (.ref f) ∧ PySem.W.keepIn K (.ref f) = true ∧ Binds K fd ["_law_state", "_law_many"] [] ∧ FnOk P w K mg base CX0 2 f fd ["_law_state", "_law_many"] spDrawn
  mix : ∃ f fd, mg "_law_mix" = some (.ref f) ∧ PySem.W.keepIn K (.ref f) = true ∧ Binds K fd ["_law_state", "_law_things"] [] ∧ FnOk P w K mg base CX0 2 f fd ["_law_state", "_law_things"] (spMix K)
  one : ∃ f fd, mg "_law_one" = some (.ref f) ∧ PySem.W.keepIn K (.ref f) = true ∧ Binds K fd ["_law_state", "_law_things"] [] ∧ FnOk P w K mg base CX0 2 f fd ["_law_state", "_law_things"] spOne
  same : ∃ f fd, mg "_law_same" = some (.ref f) ∧ PySem.W.keepIn K (.ref f) = true ∧ Binds K fd ["_law_found", "_law_due_here"] [] ∧ FnOk P w K mg base CX0 5 f fd ["_law_found", "_law_due_here"] (spSame K 5)
  loose : ∃ f fd, mg "_law_loose" = some (.ref f) ∧ PySem.W.keepIn K (.ref f) = true ∧ Binds K fd ["_law_state", "_law_thing"] [] ∧ FnOk P w K mg base CX0 5 f fd ["_law_state", "_law_thing"] (spLooseQ 3)
  due : ∃ f fd, mg "_law_due" = some (.ref f) ∧ PySem.W.keepIn K (.ref f) = true ∧ Binds K fd ["_law_blocks_here"] [] ∧ FnOk P w K mg base CX0 3 f fd ["_law_blocks_here"] spDue
  tried : ∃ f fd, mg "_law_tried" = some (.ref f) ∧ PySem.W.keepIn K (.ref f) = true ∧ Binds K fd ["_law_blocks_here"] [] ∧ FnOk P w K mg base CX0 7 f fd ["_law_blocks_here"] spTriedQ
  spoilt : ∃ f fd, mg "_law_spoilt" = some (.ref f) ∧ PySem.W.keepIn K (.ref f) = true ∧ Binds K fd ["_law_state", "_law_blocks_here"] [] ∧ FnOk P w K mg base CX0 3 f fd ["_law_state", "_law_blocks_here"] spSpoilt
  make : ∃ g fd, Mk K C g ∧ Binds K fd ["self", "blocks"] [] ∧ FnOk P w K mg base (L2.CX P w) 5 g fd ["self", "blocks"] (spMInitQ C MC)
  eq : ∃ g fd, Meth K C "__eq__" g ∧ NeC K C g ∧ Binds K fd ["self", "other"] [] ∧ FnOk P w K mg base CX0 1 g fd ["self", "other"] (spEqQ C)
section
variable {P : Program} {w : World} {K : PySem.W.Frag} {mg : Str → Option Value} {base : Heap} {C MC : Addr}
abbrev NLa : List Str := ["_law_script", "_law_state", "_law_turn", "_law_names_here", "_law_blocks_here", "_law_k", "_law_thing", "_law_handed", "_law_kept", "_law_given", "_law_meeting", "_law_twin", "_law_block", "_law_x"]
theorem scLa : FnScope NLa ["_law_script"] (defScope sLaw) := ⟨rfl, rfl, rfl, by decide +kernel, rfl, by decide +kernel, by decide +kernel⟩
theorem ok_law {f : Addr} {fd : FuncData} (F : Fun K "law" "law" sLaw f fd) (T : L10 P w K mg base C MC) : FnC callerA P w K mg base CX0 8 f fd ["_law_script"] (spLaw K) := by
  obtain ⟨fT, fdT, gT, kT, bT, GT⟩ := T.take
  obtain ⟨fF, fdF, gF, kF, bF, GF⟩ := T.fresh
  obtain ⟨fN, fdN, gN, kN, bN, GN⟩ := T.names
  obtain ⟨fB, fdB, gB, kB, bB, GB⟩ := T.blocks
  obtain ⟨fD, fdD, gD, kD, bD, GD⟩ := T.drawn
  obtain ⟨fM, fdM, gM0, kM0, bM0, GM0⟩ := T.mix
  obtain ⟨fO, fdO, gO, kO, bO, GO⟩ := T.one
  obtain ⟨fS, fdS, gS, kS, bS, GS⟩ := T.same
  obtain ⟨fL, fdL, gL, kL, bL, GL⟩ := T.loose
  obtain ⟨fDu, fdDu, gDu, kDu, bDu, GDu⟩ := T.due
  obtain ⟨fTr, fdTr, gTr, kTr, bTr, GTr⟩ := T.tried
  obtain ⟨fSp, fdSp, gSp, kSp, bSp, GSp⟩ := T.spoilt
  obtain ⟨gMk, fdMk, MM, bM', GM'⟩ := T.make
  obtain ⟨gE, fdE, ME, NE, bE, GE⟩ := T.eq
  have c := T.c
  have al := T.al
  refine okAt F scLa (fun vs H Q E h => ?_) (fun cdv fr s H vs Q E hr h => ?_)
  · obtain ⟨a, ns, rfl, _⟩ := h
    rfl
  · obtain ⟨a, ns, rfl, hS, hn, k⟩ := h
    have r1 : Room 1 _ := hr.mono (by decide)
    have r2 : Room 2 _ := hr.mono (by decide)
    have r3 : Room 3 _ := hr.mono (by decide)
    have r5 : Room 5 _ := hr.mono (by decide)
    have r6 : Room 6 _ := hr.mono (by decide)
    refine ⟨_, pss_cons (ps_set (i := 1) scLa.nd rfl (.inr rfl) (pe_call GF r1 (by rfl) gF kF bF .nil pass0 (pa_cons (pv 0) pa_nil)))
      (pss_cons (ps_for PassesOwn.never rfl (pi_range1 (by rfl) T.range (pa_cons pe_int pa_nil)) (pg_name (i := 2) scLa.nd rfl (Or.inl rfl)) (pss_cons (ps_set (i := 3) scLa.nd rfl (.inl rfl) (pe_call GN r3 (by rfl) gN kN bN .nil pass0 (pa_cons (pv 1) (pa_cons (pe_call GT r1 (by rfl) gT kT bT .nil pass0 (pa_cons (pv 1) (pa_cons pe_int pa_nil))) pa_nil))))
      (pss_cons (ps_set (i := 4) scLa.nd rfl (.inl rfl) (pe_call GM0 r2 (by rfl) gM0 kM0 bM0 .nil pass0 (pa_cons (pv 1) (pa_cons (pe_call GB r1 (by rfl) gB kB bB .nil pass0 (pa_cons (pv 3) (pa_cons (pe_call GD r2 (by rfl) gD kD bD .nil pass0 (pa_cons (pv 1) (pa_cons (pe_callB call_len_seq (by rfl) T.len PySem.boot_len (pa_cons (pv 3) pa_nil)) pa_nil))) pa_nil))) pa_nil))))
      (pss_cons (ps_for PassesOwn.never rfl (pi_range1 (by rfl) T.range (pa_cons (pe_mid (pe_ifExp (pt_cmpR op_gt (pv 2) pe_int (nomark _)) (pe_call GT r1 (by rfl) gT kT bT .nil pass0 (pa_cons (pv 1) (pa_cons pe_int pa_nil))) pe_int)) pa_nil)) (pg_name (i := 5) scLa.nd rfl (Or.inl rfl)) (pss_one (ps_set (i := 4) scLa.nd rfl (.inl rfl) (pe_call GSp r3 (by rfl) gSp kSp bSp .nil pass0 (pa_cons (pv 1) (pa_cons (pv 4) pa_nil))))))
      (pss_cons (ps_set (i := 6) scLa.nd rfl (.inl rfl) (pe_mid (pe_ifExp (pt_cmpR op_gt (pe_call GT r1 (by rfl) gT kT bT .nil pass0 (pa_cons (pv 1) (pa_cons pe_int pa_nil))) pe_int (nomark _)) (pv 4) (pe_call GO r2 (by rfl) gO kO bO .nil pass0 (pa_cons (pv 1) (pa_cons (pe_lst (pa_cons pe_non (pa_cons pe_int (pa_cons pe_str (pa_cons pe_dnewK (pa_cons pe_bl pa_nil)))))) pa_nil))))))
      (pss_cons (ps_set (i := 7) scLa.nd rfl (.inl rfl) (pe_call GL r5 (by rfl) gL kL bL .nil pass0 (pa_cons (pv 1) (pa_cons (pv 6) pa_nil))))
      (pss_cons (ps_set (i := 8) scLa.nd rfl (.inl rfl) (pe_callB (call_reprQ hr.units) (by rfl) T.repr (by decide +kernel) (pa_cons (pv 7) pa_nil)))
      (C8.pss_cut (ps_if (pw_or (pt_not (pt_val (pe_call GS r5 (by rfl) gS kS bS .nil pass0 (pa_cons (pe_call GTr hr (by rfl) gTr kTr bTr .nil pass0 (pa_cons (pv 7) pa_nil)) (pa_cons (pe_call GDu r3 (by rfl) gDu kDu bDu .nil pass0 (pa_cons (pv 6) pa_nil)) pa_nil))))) (pw_or1 (pt_cmpR op_ne (pe_callB (call_reprQ hr.units) (by rfl) T.repr (by decide +kernel) (pa_cons (pv 7) pa_nil)) (pv 8) (nomark _)))).pt (pss_one (ps_ret pe_bl)) pss_nil)
      (pss_one (ps_if (pt_cmpR op_eq (pe_ix ix_tup (pe_call GDu r3 (by rfl) gDu kDu bDu .nil pass0 (pa_cons (pv 4) pa_nil)) pe_int (fun _ _ => rfl)) pe_str (nomark _)) (pss_cons (ps_setLc (i := 9) (own := [("_law_block", 12)]) (g := gName 12) (tt := tYes)  rfl scLa.nd rfl rfl (sw_true rfl rfl rfl rfl) (pi_list (pv 4)) (blkOk_by (N := NLa) (sc := defScope sLaw) (by decide +kernel)) (fun _ _ _ _ _ => (pg_name (i := 12) scLa.nd rfl (Or.inl rfl))) (fun _ _ _ _ _ => pts_nil) (fun _ _ _ _ _ => (pe_callTy call_listL (by rfl) T.list (by decide +kernel) (pa_cons (pv 12) pa_nil))))
      (pss_cons (ps_set (i := 10) scLa.nd rfl (.inr rfl) (pe_make MM GM' r6 (by rfl) c.glob bM' .nil passL (pa_cons (pv 9) pa_nil)))
      (pss_cons (ps_expr (pe_bm PySem.F.plainAttrs_list PySem.F.slot_list_append PySem.F.type_list_append mt_append (pv 9) (pa_cons (pe_lst (pa_cons pe_str pa_nil)) pa_nil)))
      (pss_cons (ps_expr (pe_bm PySem.F.plainAttrs_list PySem.F.slot_list_append PySem.F.type_list_append mt_append (pe_ix ix_list (pv 9) pe_int (fun _ _ => rfl)) (pa_cons pe_str pa_nil)))
      (pss_cons (ps_if (pt_not (pt_val (pe_call GS r5 (by rfl) gS kS bS .nil pass0 (pa_cons (pe_tup (pa_cons (pe_fld (pv 10) rfl) (pa_cons (pe_fld (pv 10) rfl) pa_nil))) (pa_cons (pe_slice sl_tup (pe_call GDu r3 (by rfl) gDu kDu bDu .nil pass0 (pa_cons (pv 4) pa_nil)) (po_some pe_int) (po_some pe_int)) pa_nil))))) (pss_one (ps_ret pe_bl)) pss_nil)
      (pss_cons (ps_set (i := 11) scLa.nd rfl (.inl rfl) (pe_make MM GM' r6 (by rfl) c.glob bM' .nil passL (pa_cons (pe_call GM0 r2 (by rfl) gM0 kM0 bM0 .nil pass0 (pa_cons (pv 1) (pa_cons (pe_lc (own := [("_law_block", 12)]) (g := gName 12) (tt := tYes)  rfl scLa.nd (pi_list (pv 4)) (blkOk_by (N := NLa) (sc := defScope sLaw) (by decide +kernel)) (fun _ _ _ _ _ => (pg_name (i := 12) scLa.nd rfl (Or.inl rfl))) (fun _ _ _ _ _ => pts_nil) (fun _ _ _ _ _ => (pe_call GM0 r2 (by rfl) gM0 kM0 bM0 .nil pass0 (pa_cons (pv 1) (pa_cons (pv 12) pa_nil))))) pa_nil))) pa_nil)))
      (pss_cons (ps_if (pw_or (pt_not (pt_cmpR (op_cmpQ (fun _ _ => rfl) ME c.nf al GE r1 bE pass0) (pv 10) (pv 11) (nomark _))) (pw_or1 (pt_cmpR (op_unlike NE GE r2 bE pass0) (pv 10) (pv 11) (nomark _)))).pt (pss_one (ps_ret pe_bl)) pss_nil)
      (pss_one (ps_if (pt_val (pe_callB (cr_any rfl) (by rfl) T.any (by decide +kernel) (pa_cons (pe_lc (own := [("_law_x", 13)]) (g := gName 13) (tt := tYes)  rfl scLa.nd (pi_list (pe_lst (pa_cons pe_non (pa_cons (pv 4) (pa_cons pe_int (pa_cons (pe_fld (pv 10) rfl) pa_nil)))))) (blkOk_by (N := NLa) (sc := defScope sLaw) (by decide +kernel)) (fun _ _ _ _ _ => (pg_name (i := 13) scLa.nd rfl (Or.inl rfl))) (fun _ _ _ _ _ => pts_nil) (fun _ _ _ _ _ => (pe_cmpR (op_cmpQ (fun _ _ => rfl) ME c.nf al GE r1 bE pass0) (pv 10) (pv 13) (nomark _)))) pa_nil))) (pss_one (ps_ret pe_bl)) pss_nil))))))))) pss_nil))))))))))
      (pss_one (ps_ret pe_bl))), ?_⟩
    refine ⟨_, rfl, a, ns, rfl, hS, hn, fun st l cs H0 s0 S0 nst => ?_⟩
    refine ⟨10, rfl, by decide, by decide, ?_⟩
    refine for_range (n := 10) (fun i σ H2 => (∃ v2 v3 v4 v5 v6 v7 v8 v9 v10 v11 : Option V, σ = [some (.ref a), some (.ref st), v2, v3, v4, v5, v6, v7, v8, v9, v10, v11, none, none]) ∧ Spr H2 st l cs (400 * i)) ⟨⟨_, _, _, _, _, _, _, _, _, _, rfl⟩, S0⟩ ?_ ?_
    · rintro i σ H2 hi ⟨⟨v2, v3, v4, v5, v6, v7, v8, v9, v10, v11, rfl⟩, S2⟩
      refine ⟨_, rfl, _, rfl, st, l, cs, _, 8, rfl, by decide, by decide, by omega, S2, fun m H3 m0 m1 S3 hk3 => ?_⟩
      refine ⟨st, l, cs, _, m, rfl, m0, by omega, by omega, S3, fun np zs H4 nd nm lz hnp S4 b4 nnp => ?_⟩
      have few : zs.length ≤ 7 := by omega
      have nnst := S3.not nnp
      have nmo : ∀ z ∈ zs, nameOk z = true := fun z hz => nm16_name z (nm z hz)
      -- the blocks
      refine ⟨_, rfl, _, rfl, _, rfl, _, rfl, np, _, rfl, .inl (SqL.of hnp), st, l, cs, _, (zs.map V.str).length, rfl, by rw [List.length_map]; omega, by omega, S4, fun D c' k' H5 b5 hD ck lc S5 => ?_⟩
      have hnp5 := b5 np _ nnst hnp
      have el : zs.length = c'.length := by rw [lc, List.length_map]
      have S5 := S5.up (m := 400 * i + 24) (by rw [List.length_map]; omega)
      refine ⟨np, D, zs, c', k', rfl, hnp5, hD, ck, el, few, fun bp B H6 s6 nbp hbp hB fB eB => ?_⟩
      have g0 : GoodB (rowT B) := by rw [eB]; exact good_blocks nd nmo el ck few
      have kl := code_le ck
      have lB : (rowT B).length ≤ 7 := by
        rw [eB]
        unfold blocksOf
        rw [List.length_map, List.length_range]
        omega
      have bl7 : ∀ b ∈ rowT B, b.length ≤ 7 ∧ ∀ z ∈ b, z ∈ nm16 := by
        rw [eB]
        intro b hb
        obtain ⟨j, _, rfl⟩ := List.mem_map.mp hb
        exact ⟨Nat.le_trans (blk_sub zs c' j).length_le few, fun z hz => nm z ((blk_sub zs c' j).subset hz)⟩
      have S6 := S5.mono s6
      have noSt : ∀ q ∈ B, q.1 ≠ st := fun q hq => S5.not (fB q hq)
      have dB : DqAll (off st H6) (refT B) (B.map dL) := dqT fun q hq => by rw [off_ne (noSt q hq)]; exact hB q hq
      have okd : ∀ d ∈ B.map dL, Okd d := fun d hd => by
        obtain ⟨p, hp, rfl⟩ := List.mem_map.mp hd
        exact names_okd fun z hz => nm16_ok z ((bl7 _ (List.mem_map.mpr ⟨p, hp, rfl⟩)).2 z hz)
      have rB : (refT B).length ≤ 7 := by rw [refT_len, ← rowT_len]; exact lB
      refine ⟨st, l, bp, cs, _, refT B, rfl, .inl (SqL.of hbp), by omega, by omega, S6, dataL_of dB okd, fun p0 ys0 H7 pm hp7 S7 b7 np7 => ?_⟩
      obtain ⟨B', pB, eys⟩ := perm_of_map pm (L := B) rfl
      subst eys
      have mB : ∀ q ∈ B', q ∈ B := fun q hq => pB.mem_iff.mp hq
      have pst0 : p0 ≠ st := S6.not np7
      have dB7 : DqAll (off st H7) (refT B') (B'.map dL) := dqT fun q hq => by rw [off_ne (noSt q (mB q hq))]; exact b7 _ _ (noSt q (mB q hq)) (hB q (mB q hq))
      have ok7 : ∀ e ∈ B'.map dL, okB e = true := fun e he => by
        obtain ⟨q, hq, rfl⟩ := List.mem_map.mp he
        have z := bl7 _ (List.mem_map.mpr ⟨q, mB q hq, rfl⟩)
        exact okB_dL z.1 fun z' hz' => List.mem_append_left _ (z.2 z' hz')
      have len7 : (B'.map dL).length ≤ 7 := by
        rw [List.length_map, pB.length_eq, ← rowT_len]
        exact lB
      have tot7 : (takenOf (B'.map dL)).length ≤ 49 := by
        unfold takenOf
        rw [names_dLs]
        have q := flat_le (n := 7) (B := rowT B') fun b hb => by
          obtain ⟨q, hq, rfl⟩ := List.mem_map.mp hb
          exact (bl7 _ (List.mem_map.mpr ⟨q, mB q hq, rfl⟩)).1
        have l2 : (rowT B').length ≤ 7 := by
          rw [rowT_len, pB.length_eq, ← rowT_len]
          exact lB
        omega
      -- odd ones among them
      refine ⟨fun x H' => ∃ m : Nat, m ≤ 2 ∧ x = .int (m : Nat) ∧ Spr H' st l cs (400 * i + 32) ∧ But st H7 H', ?_, ?_⟩
      · refine ⟨_, rfl, _, _, rfl, rfl, _, rfl, ite2 (fun _ => ?_) fun _ => ?_⟩
        · exact ⟨_, rfl, st, l, cs, _, 3, rfl, by decide, by decide, by omega, S7, fun r H8 r0 r1' S8 hk8 => ⟨r.toNat, by omega, congrArg V.int (by omega), S8.up (by omega), But.eq hk8⟩⟩
        · exact ⟨0, by omega, rfl, S7.up (by omega), But.refl _ _⟩
      rintro x H8 ⟨m2, hm2, rfl, S8, b8⟩
      refine ⟨(m2 : Nat), rfl, by omega, by omega, ?_⟩
      refine for_range (n := m2) (fun j σ H9 => ∃ (p : Addr) (ys : List V) (ds : List PyData) (v5 : Option V), σ = [some (.ref a), some (.ref st), some (.int (0 + i)), some (.ref np), some (.ref p), v5, v6, v7, v8, v9, v10, v11, none, none] ∧ Spr H9 st l cs (400 * i + 32 + 4 * j) ∧ H9 p = some (.lst ys) ∧ p ≠ st ∧ DqAll (off st H9) ys ds ∧ (∀ e ∈ ds, okB e = true) ∧ ds.length ≤ 7 + j ∧ (takenOf ds).length ≤ 49 + 3 * j)
        ⟨p0, _, _, _, rfl, S8, b8 p0 _ pst0 hp7, pst0, dB7.same b8.off, ok7, len7, tot7⟩ ?_ ?_
      · rintro j σ H9 hj ⟨p, ys, ds, v5, rfl, S9, hp9, pst, dq9, ok9, len9, tot9⟩
        refine ⟨_, rfl, _, rfl, st, l, p, cs, _, ys, ds, rfl, S9, hp9, pst, dq9, ok9, by omega, by omega, fun q zs' es H10 S10 b10 nq0 qst hq dq10 ok10 len10 tot10 => ?_⟩
        exact ⟨q, zs', es, _, rfl, S10.up (by omega), hq, qst, dq10, ok10, by omega, by omega⟩
      rintro σ H9 ⟨p, ys, ds, v5', rfl, S9, hp9, pst, dq9, ok9, len9, tot9⟩
      clear dB7 dB ok7 len7 tot7 hp7 hbp hB fB hnp hnp5 hD
      have th := th_list ok9 (by omega) (by omega)
      -- the thing
      refine ⟨fun x H' => ∃ d, ThF d ∧ Dq (off st H') x d ∧ Spr H' st l cs (400 * i + 42) ∧ But st H9 H', ?_, ?_⟩
      · refine ⟨_, rfl, st, l, cs, _, 12, rfl, by decide, by decide, by omega, S9, fun r H10 r0 r1' S10 hk10 => ⟨_, _, rfl, rfl, _, rfl, ite2 (fun _ => ?_) fun _ => ?_⟩⟩
        · have b10 : But st H9 H10 := But.eq hk10
          exact ⟨_, rfl, .list ds, th, .lst (by rw [off_ne pst]; exact b10 p _ pst hp9) (dq9.same b10.off), S10.up (by omega), b10⟩
        · have b10 : But st H9 H10 := But.eq hk10
          refine ⟨_, rfl, ?_⟩
          intro od nod
          have e1 := same_new nod (.dK [])
          refine ⟨sz (Nat.le_of_ble_eq_true rfl), fun q nq => ?_⟩
          have e2 := e1.trans (same_new nq (.lst [.non, .int 5, .str "ab", .ref od, .bl true]))
          have hod : upd H10 od (.dK []) od = some (.dK []) := upd_same
          refine ⟨st, l, q, cs, _, _, rfl, upd_same, (S10.mono e1).not nq, Nat.le_of_ble_eq_true rfl, Nat.le_of_ble_eq_true rfl, by omega, S10.mono e2, fun x H11 mx S11 hk11 => ?_⟩
          have b11 : But st H9 H11 := b10.trans ((But.of e2).trans (But.eq hk11))
          have S11 := S11.up (m := 400 * i + 42) (by omega)
          have odst : od ≠ st := S10.not nod
          simp only [List.mem_cons, List.not_mem_nil, or_false] at mx
          rcases mx with rfl | rfl | rfl | rfl | rfl
          · exact ⟨.none, th_odd rfl rfl, .non, S11, b11⟩
          · exact ⟨.int 5, th_odd rfl rfl, .int 5, S11, b11⟩
          · exact ⟨.str "ab", th_odd (by decide +kernel) rfl, .str "ab", S11, b11⟩
          · exact ⟨.dict [], th_odd rfl rfl, .emp (by rw [off_ne odst, hk11 od odst]; exact (same_new nq _) _ _ hod), S11, b11⟩
          · exact ⟨.bool true, th_odd rfl rfl, .bl true, S11, b11⟩
      rintro x H10 ⟨d, thd, dqx, S10, b10⟩
      have cn := thd.cnt
      -- handed over, lists and tuples as drawn
      refine ⟨_, rfl, _, rfl, st, l, cs, _, x, d, off st H10, rfl, thd.dep, thd.wid, by omega, S10, dqx, fun b o hb => ⟨(off_some hb).2, (off_some hb).1⟩, fun v' d' H11 n11 dv tv S11 l11 b11 => ?_⟩
      obtain ⟨limd', bad', blo', sho', dep', len'⟩ := thd.loose tv
      have dv11 : Dq H11 v' d' := dv.same (jn_sub b11)
      have dx11 : Dq H11 x d := dqx.same (b11.off.trans off_same)
      have S11 := S11.up (m := 400 * i + 300) (by omega)
      have hp11 : H11 p = some (.lst ys) := b11 p _ pst (b10 p _ pst hp9)
      have dq11 : DqAll (off st H11) ys ds := dq9.same (b10.trans b11).off
      clear dv S10 dqx dq9 hp9 b10 b11
      refine ⟨_, rfl, v', d', rfl, dv11, rfl, sho', dep', len', ?_⟩
      refine ⟨fun σ' H' => σ' = [some (.ref a), some (.ref st), some (.int (0 + i)), some (.ref np), some (.ref p), v5', some x, some v', some (.str (PyData.shown d')), v9, v10, v11, none, none] ∧ Same H11 H', ?_, ?_⟩
      · -- tried, and what is due
        have rest : ∀ H14 (t t2 : Addr), Same H11 H14 → SameV K H14 5 (.ref t) (.ref t2) → True := fun _ _ _ _ _ => trivial
        refine ⟨_, rfl, v', d', rfl, dv11, limd', fun j hj t H12 s12 nt ht => ?_, fun b0 t tn tr tc M H12 s12 nt hT => ?_⟩
        · refine ⟨_, rfl, x, d, rfl, dx11.same s12, thd.lim, thd.lis, fun j' hj' t2 H13 s13 nt2 ht2 => ?_, fun b0' => ?_⟩
          · rw [bad', hj'] at hj
            cases hj
            refine ⟨_, _, rfl, same_bad (s13 _ _ ht) ht2, fun H14 s14 => ⟨_, rfl, iteF ?_⟩⟩
            have sA := (s12.trans s13).trans s14
            exact ⟨_, rfl, v', d', rfl, dv11.same sA, rfl, sho', dep', len', _, rfl, rfl, _, rfl, iteNS rfl ⟨rfl, sA⟩⟩
          · rw [bad', b0'] at hj
            cases hj
        · refine ⟨_, rfl, x, d, rfl, dx11.same s12, thd.lim, thd.lis, fun j' hj' => ?_, fun b0' t2 un ur uc N H13 s13 nt2 hT2 => ?_⟩
          · rw [bad', hj'] at b0
            cases b0
          · rw [blo'] at hT
            have gr := good_rows (good_of thd.lim b0')
            have hT13 : DueT H13 t (rowsOf (blocksD d)) tn tr tc M := ⟨s13 _ _ hT.tup, s13 _ _ hT.na, s13 _ _ hT.ro, hT.tu.mono s13, hT.row, s13 _ _ hT.co⟩
            refine ⟨_, _, rfl, same_due gr hT13 hT2, fun H14 s14 => ⟨_, rfl, iteF ?_⟩⟩
            have sA := (s12.trans s13).trans s14
            exact ⟨_, rfl, v', d', rfl, dv11.same sA, rfl, sho', dep', len', _, rfl, rfl, _, rfl, iteNS rfl ⟨rfl, sA⟩⟩
      rintro σ' H14 ⟨rfl, s14⟩
      have S14 := S11.mono s14
      have hp14 := s14 _ _ hp11
      have dq14 : DqAll H14 ys ds := dq11.same (off_same.trans s14)
      have dq14o : DqAll (off st H14) ys ds := dq11.same (But.off (But.of s14))
      clear dv11 dx11 S11 hp11 dq11 s14
      have DL : Dq H14 (.ref p) (.list ds) := .lst hp14 dq14
      refine ⟨_, rfl, .ref p, .list ds, rfl, DL, th.lim, th.lis, fun j hj t H15 s15 nt ht => ?_, fun b0 t tn tr tc M H15 s15 nt hT => ?_⟩
      · refine ⟨t, _, _, _, rfl, rfl, SqT.of ht, rfl, rfl, _, rfl, iteDF (fun e => by injection e with e; exact absurd e (by decide +kernel)) ?_⟩
        exact ⟨⟨_, _, _, _, _, _, _, _, _, _, rfl⟩, (S14.mono s15).up (by omega)⟩
      refine ⟨t, _, _, _, rfl, rfl, SqT.of hT.tup, rfl, rfl, _, rfl, iteD rfl ?_⟩
      have S15 := S14.mono s15
      have hp15 := s15 _ _ hp14
      have dq15 := dq14.same s15
      have dq15o : DqAll (off st H15) ys ds := dq14o.same (But.off (But.of s15))
      clear S14 hp14 dq14 dq14o DL hT
      have b0' : badAt [] ds = none := b0
      have fit := fits_dL ok9 b0'
      have lx := dq15.len
      have eBl : blocksD (.list ds) = ds.map namesIn := rfl
      have gB := good_of th.lim b0
      rw [eBl] at gB
      -- copies of the lists
      refine ⟨_, rfl, p, rfl, ⟨_, SqL.of hp15⟩, fun Gd nGd => ?_⟩
      refine lc_list (xs := ys) (fun j H9 => ∃ G : TL, H9 Gd = some (.lst (refT G)) ∧ (∀ q ∈ G, H9 q.1 = some (.lst (q.2.map V.str)) ∧ H15 q.1 = none ∧ q.1 ≠ Gd) ∧ G.map dL = ds.take j ∧ Same H15 H9) ⟨[], upd_same, (fun _ h => nomatch h), rfl, same_new nGd _⟩ (fun j H9 _ h9 => by obtain ⟨_, _, _, _, q⟩ := h9; exact SqL.of (q _ _ hp15)) ?_ ?_
      · rintro j y H16 hy ⟨G, hG, aG, eG, s16⟩
        obtain ⟨e, he, dy⟩ := dq15.get hy
        have me := List.mem_of_getElem? he
        have lj : j < ds.length := (List.getElem?_eq_some_iff.mp he).1
        obtain ⟨ee, _, _⟩ := fit e me
        have lG : G.length = j := by
          have z := congrArg List.length eG
          rw [List.length_map, List.length_take] at z
          omega
        rw [ee] at dy
        cases dy with
        | @lst a1 xs1 _ hA1 hs1 =>
          obtain rfl := Dq.strs hs1
          refine ⟨rfl, _, rfl, a1, _, rfl, s16 _ _ hA1, fun q nq => ?_⟩
          have sq := same_new nq (.lst ((namesIn e).map V.str))
          have hG2 := sq _ _ hG
          have nq15 : H15 q = none := s16.free nq
          have qG : q ≠ Gd := fun z => by rw [z, hG] at nq; cases nq
          refine ⟨_, hG2, small1000 (by rw [refT_len]; omega), G ++ [(q, namesIn e)], ?_, fun r hr' => ?_, ?_, fun b o hb => ?_⟩
          · rw [upd_same, refT_app]
            rfl
          · rcases List.mem_append.mp hr' with h | h
            · obtain ⟨h1, h2, h3⟩ := aG r h
              exact ⟨by rw [upd_ne h3]; exact sq _ _ h1, h2, h3⟩
            · rw [List.mem_singleton.mp h]
              exact ⟨by rw [upd_ne qG]; exact upd_same, nq15, qG⟩
          · rw [List.map_append, eG, List.take_add_one, he]
            show ds.take j ++ [dL (q, namesIn e)] = ds.take j ++ [e]
            rw [show dL (q, namesIn e) = e from ee.symm]
          · rw [upd_ne (ne_of_none hb nGd)]
            exact sq _ _ (s16 _ _ hb)
      rintro H16 ⟨G, hG, aG, eG, s16⟩
      rw [lx, List.take_length] at eG
      have lG : G.length ≤ 12 := by
        have z := congrArg List.length eG
        rw [List.length_map] at z
        omega
      have dqG : Dq H16 (.ref Gd) (.list ds) := .lst hG (by rw [← eG]; exact dqT fun q hq => (aG q hq).1)
      refine ⟨_, rfl, ?_⟩
      dsimp only [tNil]
      refine mmakeQ dqG th.lim b0 fun o H17 s17 no mo => ?_
      rw [eBl] at mo
      have S17 := S15.mono (s16.trans s17)
      -- what was passed changes
      have hG17 := s17 _ _ hG
      refine ⟨_, rfl, .inl ⟨rfl, _, SqL.of hG17⟩, sz (Nat.le_of_ble_eq_true rfl), fun w nw => ?_⟩
      have s18 := same_new nw (.lst [.str "new"])
      have hw18 : upd H17 w (.lst [.str "new"]) w = some (.lst [.str "new"]) := upd_same
      have hG18 := s18 _ _ hG17
      have mo18 := mo.mono s18
      have nw15 : H15 w = none := (s16.trans s17).free nw
      have wG : w ≠ Gd := fun z => by rw [z, hG17] at nw; cases nw
      refine ⟨Gd, _, _, rfl, rfl, hG18, small1000 (by rw [refT_len]; omega), ?_⟩
      have sA : Same H15 (upd H17 w (.lst [.str "new"])) := (s16.trans s17).trans s18
      have aG18 : ∀ q ∈ G, upd H17 w (.lst [.str "new"]) q.1 = some (.lst (q.2.map V.str)) := fun q hq => s18 _ _ (s17 _ _ (aG q hq).1)
      generalize upd H17 w (.lst [.str "new"]) = H18 at hw18 hG18 mo18 sA aG18 ⊢
      have mo19 := mo18.keep (ys := refT G ++ [.ref w]) hG18
      have s19 : Same H15 (upd H18 Gd (.lst (refT G ++ [.ref w]))) := fun b o hb => by
        rw [upd_ne (ne_of_none hb nGd)]
        exact sA _ _ hb
      have hG19 : upd H18 Gd (.lst (refT G ++ [.ref w])) Gd = some (.lst (refT G ++ [.ref w])) := upd_same
      obtain ⟨g0, z0, e0, hx0, n0, l0⟩ : ∃ (g0 : Addr) (z0 : List V), (refT G ++ [.ref w])[0]? = some (.ref g0) ∧ upd H18 Gd (.lst (refT G ++ [.ref w])) g0 = some (.lst z0) ∧ H15 g0 = none ∧ z0.length ≤ 20 := by
        cases G with
        | nil => exact ⟨w, _, rfl, by rw [upd_ne wG]; exact hw18, nw15, Nat.le_of_ble_eq_true rfl⟩
        | cons q r =>
          obtain ⟨h1, h2, h3⟩ := aG q (.head _)
          refine ⟨q.1, _, rfl, by rw [upd_ne h3]; exact aG18 q (.head _), h2, ?_⟩
          rw [List.length_map]
          have m1 : dL q ∈ ds := by rw [← eG]; exact .head _
          have := (fit _ m1).2.1
          rw [names_dL] at this
          omega
      generalize upd H18 Gd (.lst (refT G ++ [.ref w])) = H19 at mo19 s19 hG19 hx0 ⊢
      refine ⟨_, rfl, Gd, _, _, _, rfl, rfl, SqL.of hG19, atI_nat (j := 0) e0, .inl ⟨rfl, _, SqL.of hx0⟩, g0, _, _, rfl, rfl, hx0, small1000 (by omega), ?_⟩
      have mo20 := mo19.keep (ys := z0 ++ [.str "other"]) hx0
      have s20 : Same H15 (upd H19 g0 (.lst (z0 ++ [.str "other"]))) := fun b o hb => by
        rw [upd_ne (ne_of_none hb n0)]
        exact s19 _ _ hb
      generalize upd H19 g0 (.lst (z0 ++ [.str "other"])) = H20 at mo20 s20 ⊢
      clear mo19 s19 hG19 hx0 mo18 hG18 hw18 sA aG18 mo s18 hG17 S17 dqG aG hG
      have S20 := S15.mono s20
      have hp20 := s20 _ _ hp15
      have dq20 := dq15.same s20
      have dq20o : DqAll (off st H20) ys ds := dq15o.same (But.off (But.of s20))
      generalize hR : rowsOf (ds.map namesIn) = R at *
      obtain ⟨dx, tb, dn, nn, cc, M0, kvs, ob⟩ := id mo20
      -- names and blocks
      refine ⟨_, rfl, o, C, dx, _, _, rfl, ob.ob, c.cls, c.nn, rfl, _, rfl, o, C, dx, _, _, rfl, ob.ob, c.cls, c.nb, rfl, sz (Nat.le_of_ble_eq_true rfl), fun tp ntp => ?_⟩
      have s21 := same_new ntp (.tup [.ref nn, .ref tb])
      have htp : upd H20 tp (.tup [.ref nn, .ref tb]) tp = some (.tup [.ref nn, .ref tb]) := upd_same
      generalize upd H20 tp (.tup [.ref nn, .ref tb]) = H21 at s21 htp ⊢
      refine ⟨_, rfl, .ref p, .list ds, rfl, .lst (s21 _ _ hp20) (dq20.same s21), th.lim, th.lis, fun j hj => ?_, fun b0 t5 tn5 tr5 tc5 M5 H22 s22 nt5 hT5 => ?_⟩
      · rw [b0] at hj
        cases hj
      rw [eBl, hR] at hT5
      refine ⟨1, rfl, 3, rfl, t5, _, rfl, SqT.of hT5.tup, (fun z => by cases z.1), fun q nq => ?_⟩
      have s23 := same_new nq (.tup (cutV [.str "made", .ref tn5, .ref tr5, .ref tc5, .int (M5.length : Nat)] (some 1) (some 3)))
      have hq : upd H22 q (.tup (cutV [.str "made", .ref tn5, .ref tr5, .ref tc5, .int (M5.length : Nat)] (some 1) (some 3))) q = some (.tup [.ref tn5, .ref tr5]) := by rw [upd_same]; rfl
      generalize upd H22 q (.tup (cutV [.str "made", .ref tn5, .ref tr5, .ref tc5, .int (M5.length : Nat)] (some 1) (some 3))) = H23 at s23 hq ⊢
      have gr := mo20.good
      have lM0 : M0.length ≤ 20 := by
        have := gr.good.few
        rw [← ob.row, rowT_len] at this
        exact this
      have low0 : ∀ p ∈ M0, p.2.length ≤ 1000 := fun p hp => by
        have m : p.2 ∈ R := by rw [← ob.row]; exact List.mem_map.mpr ⟨p, hp, rfl⟩
        have := gr.good.low _ m
        omega
      have nf := names_few gr
      have s2123 : Same H20 H23 := (s21.trans s22).trans s23
      have sv : SameV K H23 5 (.ref tp) (.ref q) := by
        refine .inr (.inr (.inr ⟨tp, q, _, _, rfl, rfl, .inr ⟨(s22.trans s23) _ _ htp, hq⟩, rfl, Nat.le_of_ble_eq_true rfl, fun j u v hu hv => ?_⟩))
        match j, hu, hv with
        | 0, hu, hv => cases hu; cases hv; exact same_strs (.inr ⟨s2123 _ _ ob.na, s23 _ _ hT5.na⟩) (by omega)
        | 1, hu, hv => cases hu; cases hv; exact same_rows (s2123 _ _ ob.bl) (s23 _ _ hT5.ro) (ob.tu.mono s2123) (hT5.tu.mono s23) (by rw [ob.row, hT5.row]) (by omega) low0
      refine ⟨_, _, rfl, sv, fun H24 s24 => ⟨_, rfl, iteF ?_⟩⟩
      have sB : Same H20 H24 := s2123.trans s24
      have mo24 := mo20.mono sB
      have S24 := S20.mono sB
      have hp24 := sB _ _ hp20
      have dq24 := dq20.same sB
      have dq24o : DqAll (off st H24) ys ds := dq20o.same (But.off (But.of sB))
      clear sv hq htp s21 s22 s23 s24 s2123 hT5 ob S20 hp20 dq20 dq20o mo20 S15 hp15 dq15 dq15o
      -- the twin
      refine ⟨_, rfl, _, rfl, p, rfl, ⟨_, SqL.of hp24⟩, fun L nL => ?_⟩
      have Lst : L ≠ st := S24.not nL
      have Ll : L ≠ l := fun z => by rw [z, S24.ls] at nL; cases nL
      refine lc_list (xs := ys) (fun j H9 => ∃ (W : TL) (n : Nat), H9 L = some (.lst (refT W)) ∧ (∀ q ∈ W, H9 q.1 = some (.lst (q.2.map V.str)) ∧ q.1 ≠ L ∧ q.1 ≠ st) ∧ PermAll (rowT W) ((ds.take j).map namesIn) ∧ Spr H9 st l cs n ∧ n ≤ 400 * i + 300 + 7 * j ∧ But st H24 H9) ⟨[], _, upd_same, (fun _ h => nomatch h), trivial, S24.mono (same_new nL _), by omega, But.of (same_new nL _)⟩ (fun j H9 _ h9 => by obtain ⟨_, _, _, _, _, _, _, q⟩ := h9; exact SqL.of (q _ _ pst hp24)) ?_ ?_
      · rintro j y H25 hy ⟨W, n, hL, aW, eW, S25, ln, b25⟩
        obtain ⟨e, he, dy⟩ := dq24o.get hy
        have me := List.mem_of_getElem? he
        have lj : j < ds.length := (List.getElem?_eq_some_iff.mp he).1
        obtain ⟨ee, l7, mS⟩ := fit e me
        have lW : W.length = j := by
          have z := eW.good.2.1
          rw [rowT_len, List.length_map, List.length_take] at z
          omega
        rw [ee] at dy
        cases dy with
        | @lst a1 xs1 _ hA1 hs1 =>
          obtain rfl := Dq.strs hs1
          obtain ⟨a1st, hA1⟩ := off_some hA1
          refine ⟨rfl, _, rfl, _, rfl, st, l, a1, cs, n, _, rfl, .inl (SqL.of (b25 _ _ a1st hA1)), by rw [List.length_map]; omega, by rw [List.length_map]; omega, S25, strs_data _ fun z hz => (SS_ok z (mS z hz)).1, fun q zs2 H26 pm2 hq S26 b26 nq => ?_⟩
          obtain ⟨ws, rfl, pw⟩ := perm_strs pm2
          have qst : q ≠ st := S25.not nq
          have qL : q ≠ L := fun z => by rw [z, hL] at nq; cases nq
          have hL26 := b26 L _ Lst hL
          refine ⟨_, hL26, small1000 (by rw [refT_len]; omega), W ++ [(q, ws)], _, ?_, fun r hr' => ?_, ?_, S26.upd Lst Ll, ?_, fun b o hnb hb => ?_⟩
          · rw [upd_same, refT_app]
            rfl
          · rcases List.mem_append.mp hr' with h | h
            · obtain ⟨h1, h2, h3⟩ := aW r h
              exact ⟨by rw [upd_ne h2]; exact b26 _ _ h3 h1, h2, h3⟩
            · rw [List.mem_singleton.mp h]
              exact ⟨by rw [upd_ne qL]; exact hq, qL, qst⟩
          · rw [rowT_app, List.take_add_one, he, List.map_append]
            exact eW.snoc pw
          · rw [List.length_map]
            omega
          · rw [upd_ne (ne_of_none hb nL)]
            exact b26 b o hnb (b25 b o hnb hb)
      rintro H25 ⟨W, n, hL, aW, eW, S25, ln, b25⟩
      rw [lx, List.take_length] at eW
      rw [lx] at ln
      have gW := eW.goodB gB
      have lW : W.length ≤ 12 := by
        have z := eW.good.2.1
        rw [rowT_len, List.length_map] at z
        omega
      have memW : ∀ q ∈ W, q.2.length ≤ 7 ∧ ∀ z ∈ q.2, z ∈ SS := fun q hq => by
        obtain ⟨b, hb, pb⟩ := eW.good.1 q.2 (List.mem_map.mpr ⟨q, hq, rfl⟩)
        obtain ⟨e, he, rfl⟩ := List.mem_map.mp hb
        obtain ⟨_, l7, mS⟩ := fit e he
        exact ⟨by rw [pb.length_eq]; exact l7, fun z hz => mS z (pb.mem_iff.mp hz)⟩
      have dW : DqAll (off st H25) (refT W) (W.map dL) := dqT fun q hq => by rw [off_ne (aW q hq).2.2]; exact (aW q hq).1
      refine ⟨st, l, L, cs, n, _, rfl, .inl (SqL.of hL), by rw [refT_len]; omega, by rw [refT_len]; omega, S25, dataL_of dW (fun d hd => by
        obtain ⟨q, hq, rfl⟩ := List.mem_map.mp hd
        exact names_okd fun z hz => (SS_ok z ((memW q hq).2 z hz)).1), fun u ys2 H26 pm2 hu26 S26 b26 nu => ?_⟩
      obtain ⟨W', pW, eys⟩ := perm_of_map pm2 (L := W) rfl
      subst eys
      have mW : ∀ q ∈ W', q ∈ W := fun q hq => pW.mem_iff.mp hq
      have gW' : GoodB (rowT W') := good_perm (pW.map _) gW
      have okW : ∀ e ∈ W'.map dL, okB e = true := fun e he => by
        obtain ⟨q, hq, rfl⟩ := List.mem_map.mp he
        exact okB_dL (memW q (mW q hq)).1 (memW q (mW q hq)).2
      have totW : (takenOf (W'.map dL)).length ≤ 60 := by
        unfold takenOf
        rw [names_dLs]
        exact gW'.tot
      have thW := th_list okW (by rw [List.length_map, pW.length_eq]; exact lW) totW
      have dW' : Dq H26 (.ref u) (.list (W'.map dL)) := .lst hu26 (dqT fun q hq => b26 _ _ (aW q (mW q hq)).2.2 (aW q (mW q hq)).1)
      have bW : badD (.list (W'.map dL)) = none := nameOk_fits gW' [] fun _ _ _ _ h => nomatch h
      dsimp only [tNil]
      refine mmakeQ dW' thW.lim bW fun tw H27 s27 ntw mt => ?_
      have eR : rowsOf (blocksD (.list (W'.map dL))) = R := by
        show rowsOf ((W'.map dL).map namesIn) = R
        rw [names_dLs, ← hR]
        refine rows_alike fun b => ?_
        rw [← eW.good.2.2.2]
        exact ((pW.map (fun p : Addr × List Str => p.2)).map (asc ltS)).mem_iff
      rw [eR] at mt
      have b27 : But st H24 H27 := (b25.trans b26).trans (But.of s27)
      have S27 := (S26.mono s27).up (m := 400 * (i + 1)) (by rw [refT_len]; omega)
      have goI : ∀ {b : Addr} {ob : HO}, H24 b = some ob → (∀ zs, ob ≠ .lst zs) → H27 b = some ob := fun {b ob} hb nl => b27 b ob (S24.no hb nl) hb
      have mo27 : MeetAt C H27 o R := by
        obtain ⟨dx, t, d, n, c, M, kvs, q⟩ := id mo24
        exact ⟨dx, t, d, n, c, M, kvs, goI q.ob (fun _ z => by cases z), goI q.bl (fun _ z => by cases z), fun r hr' => goI (q.tu r hr') (fun _ z => by cases z), q.row, goI q.nu (fun _ z => by cases z), q.num, goI q.na (fun _ z => by cases z), goI q.co (fun _ z => by cases z), q.good⟩
      have hp27 := b27 p _ pst hp24
      refine ⟨_, rfl, _, rfl, o, rfl, mo27.ins, .inl ⟨tw, rfl, mt.ins⟩, o, .ref tw, R, rfl, mo27, .inl ⟨tw, R, rfl, mt, fun H28 s28 => ⟨_, rfl, ?_⟩⟩⟩
      rw [decide_eq_true rfl]
      refine iteF ?_
      refine ⟨_, rfl, _, rfl, o, tw, rfl, rfl, (mo27.mono s28).ins, (mt.mono s28).ins, o, .ref tw, R, rfl, mo27.mono s28, .inl ⟨tw, R, rfl, mt.mono s28, fun H29 s29 => ⟨_, rfl, _, rfl, ?_⟩⟩⟩
      rw [decide_eq_true rfl]
      refine iteF ?_
      have s2729 := s28.trans s29
      have mo29 := mo27.mono s2729
      have hp29 := s2729 _ _ hp27
      have S29 := S27.mono s2729
      obtain ⟨dx', tb', dn', nn', cc', M', kvs', ob'⟩ := id mo29
      refine ⟨_, rfl, _, rfl, o, C, dx', _, _, rfl, ob'.ob, c.cls, c.nb, rfl, sz (Nat.le_of_ble_eq_true rfl), fun q nq => ⟨q, rfl, ⟨_, SqL.of upd_same⟩, fun D2 nD2 => ?_⟩⟩
      have e30 := same_new nq (.lst [.non, .ref p, .int 5, .ref tb'])
      have hq30 : upd H29 q (.lst [.non, .ref p, .int 5, .ref tb']) q = some (.lst [.non, .ref p, .int 5, .ref tb']) := upd_same
      generalize upd H29 q (.lst [.non, .ref p, .int 5, .ref tb']) = H30 at e30 hq30 nD2 ⊢
      refine lc_list (xs := [.non, .ref p, .int 5, .ref tb']) (fun j H9 => H9 D2 = some (.lst (List.replicate j (.bl false))) ∧ Same H30 H9) ⟨upd_same, same_new nD2 _⟩ (fun j H9 _ h9 => SqL.of (h9.2 _ _ hq30)) ?_ ?_
      · rintro j y H31 hy ⟨h31, s31⟩
        have s29' := e30.trans s31
        have mo31 := mo29.mono s29'
        have lj : j < 4 := (List.getElem?_eq_some_iff.mp hy).1
        have pl : ∃ t, Plain H31 y t := by
          match j, hy with
          | 0, hy => cases hy; exact ⟨_, .non⟩
          | 1, hy => cases hy; exact ⟨_, .lst (s29' _ _ hp29)⟩
          | 2, hy => cases hy; exact ⟨_, .int 5⟩
          | 3, hy => cases hy; exact ⟨_, .tup (s29' _ _ ob'.bl)⟩
        refine ⟨rfl, _, rfl, _, rfl, o, rfl, mo31.ins, .inr pl, o, y, R, rfl, mo31, .inr ⟨pl, _, h31, small1000 (by rw [List.length_replicate]; omega), ?_, fun b o hb => ?_⟩⟩
        · rw [upd_same, List.replicate_succ']
        · rw [upd_ne (ne_of_none hb nD2)]
          exact s31 _ _ hb
      · rintro H31 ⟨h31, s31⟩
        refine ⟨D2, List.replicate 4 false, rfl, SqL.of h31, ⟨_, rfl, iteF ?_⟩⟩
        exact ⟨⟨_, _, _, _, _, _, _, _, _, _, rfl⟩, S29.mono (e30.trans s31)⟩
    · rintro σ H2 ⟨⟨v2, v3, v4, v5, v6, v7, v8, v9, v10, v11, rfl⟩, S2⟩
      exact k _
end
end K1
set_option linter.all false
set_option maxRecDepth 100000
set_option maxHeartbeats 8000000
namespace K1
open PySem L2
/-! what the top has written -/
def fas : List He.Fa := [.glo "is_name", .glo "is_list", .glo "are_names", .glo "ascending_blocks", .glo "is_block", .glo "_law_fresh", .glo "_law_take", .glo "_law_one", .glo "_law_mix", .glo "_law_same", .glo "_law_names", .glo "_law_loose", .glo "_law_blocks", .glo "_law_rising", .glo "_law_is_name", .glo "_law_drawn_code", .glo "_law_fits", .glo "_law_due", .glo "_law_tried", .glo "_law_spoilt", .glo "law", .glo "Meeting", .free "isinstance", .free "list", .free "tuple", .free "len", .free "all", .free "zip", .free "int", .free "bool", .free "abs", .free "range", .free "enumerate", .free "set", .free "sorted", .free "str", .free "any", .free "repr", .keep "is_name", .keep "is_list", .keep "are_names", .keep "ascending_blocks", .keep "is_block", .keep "_law_fresh", .keep "_law_take", .keep "_law_one", .keep "_law_mix", .keep "_law_same", .keep "_law_names", .keep "_law_loose", .keep "_law_blocks", .keep "_law_rising", .keep "_law_is_name", .keep "_law_drawn_code", .keep "_law_fits", .keep "_law_due", .keep "_law_tried", .keep "_law_spoilt", .keep "law", .cls "Meeting", .mkr "Meeting", .noat "Meeting" "blocks", .noat "Meeting" "_numbers", .noat "Meeting" "names", .noat "Meeting" "code", .meth "Meeting" "__init__", .meth "Meeting" "__len__", .meth "Meeting" "__eq__", .glo "BadMeeting", .str "LETTERS" "abcdefghijklmnopqrstuvwxyz", .int "LONGEST_NAME" 8]
def fns : List He.FnD := [⟨("is_name", none), "is_name", "is_name", defArgs pIsName, defBody pIsName, defScope pIsName⟩, ⟨("is_list", none), "is_list", "is_list", defArgs pIsList, defBody pIsList, defScope pIsList⟩, ⟨("are_names", none), "are_names", "are_names", defArgs pAreNames, defBody pAreNames, defScope pAreNames⟩, ⟨("ascending_blocks", none), "ascending_blocks", "ascending_blocks", defArgs pAscendingBlocks, defBody pAscendingBlocks, defScope pAscendingBlocks⟩, ⟨("is_block", none), "is_block", "is_block", defArgs pIsBlock, defBody pIsBlock, defScope pIsBlock⟩, ⟨("_law_fresh", none), "_law_fresh", "_law_fresh", defArgs sFresh, defBody sFresh, defScope sFresh⟩, ⟨("_law_take", none), "_law_take", "_law_take", defArgs sTake, defBody sTake, defScope sTake⟩, ⟨("_law_one", none), "_law_one", "_law_one", defArgs sOne, defBody sOne, defScope sOne⟩, ⟨("_law_mix", none), "_law_mix", "_law_mix", defArgs sMix, defBody sMix, defScope sMix⟩, ⟨("_law_same", none), "_law_same", "_law_same", defArgs sSame, defBody sSame, defScope sSame⟩, ⟨("_law_names", none), "_law_names", "_law_names", defArgs sNames, defBody sNames, defScope sNames⟩, ⟨("_law_loose", none), "_law_loose", "_law_loose", defArgs sLoose, defBody sLoose, defScope sLoose⟩, ⟨("_law_blocks", none), "_law_blocks", "_law_blocks", defArgs sBlocks, defBody sBlocks, defScope sBlocks⟩, ⟨("_law_rising", none), "_law_rising", "_law_rising", defArgs sRising, defBody sRising, defScope sRising⟩, ⟨("_law_is_name", none), "_law_is_name", "_law_is_name", defArgs sIsName, defBody sIsName, defScope sIsName⟩, ⟨("_law_drawn_code", none), "_law_drawn_code", "_law_drawn_code", defArgs sDrawnCode, defBody sDrawnCode, defScope sDrawnCode⟩, ⟨("_law_fits", none), "_law_fits", "_law_fits", defArgs sFits, defBody sFits, defScope sFits⟩, ⟨("_law_due", none), "_law_due", "_law_due", defArgs sDue, defBody sDue, defScope sDue⟩, ⟨("_law_tried", none), "_law_tried", "_law_tried", defArgs sTried, defBody sTried, defScope sTried⟩, ⟨("_law_spoilt", none), "_law_spoilt", "_law_spoilt", defArgs sSpoilt, defBody sSpoilt, defScope sSpoilt⟩, ⟨("law", none), "law", "law", defArgs sLaw, defBody sLaw, defScope sLaw⟩, ⟨("Meeting", some "__init__"), "__init__", "Meeting.__init__", defArgs cMeetingInit, defBody cMeetingInit, defScope cMeetingInit⟩, ⟨("Meeting", some "__len__"), "__len__", "Meeting.__len__", defArgs cMeetingLen, defBody cMeetingLen, defScope cMeetingLen⟩, ⟨("Meeting", some "__eq__"), "__eq__", "Meeting.__eq__", defArgs cMeetingEq, defBody cMeetingEq, defScope cMeetingEq⟩, ⟨("BadMeeting", some "__init__"), "__init__", "BadMeeting.__init__", defArgs cBadMeetingInit, defBody cBadMeetingInit, defScope cBadMeetingInit⟩]
abbrev MC (K : PySem.W.Frag) : Addr := He.ga K "Meeting"
def exB0 (K : PySem.W.Frag) : Bool := decide (PySem.W.findIn K (.ref (MC K)) "__class__" = some (some (.builtin "object.__class__"))) && (decide (PySem.W.specialIn K (.builtin "object.__class__") "__get__" = some (some (.builtin "getset_descriptor.__get__"))) &&
  (decide (PySem.W.takesIn K (.builtin "object.__class__") = some true) && (decide (PySem.W.mroIn K (MC K) (.type "object") = some true) && (decide (PySem.W.kitOne K (.ref (MC K)) (.ref (MC K)) = some true) && (PySem.W.selfFirst K (MC K) && (PySem.W.notFirst K (MC K) (.ref (MC K)) && neB K (MC K) (He.ma K (MC K) "__eq__")))))))
def alB (K : PySem.W.Frag) : Bool := ["NoneType", "int", "list", "tuple"].all fun t => decide (PySem.W.kitOne K (.type t) (.ref (MC K)) = some false) && PySem.W.notFirst K (MC K) (.type t)
theorem alB_ok {K : PySem.W.Frag} (e : alB K = true) : AloneC K (MC K) := ⟨fun t ht => by
  have z := List.all_eq_true.mp e t ht
  rw [Bool.and_eq_true] at z
  exact ⟨of_decide_eq_true z.1, z.2⟩⟩
def exB (K : PySem.W.Frag) : Bool := (exB0 K && alB K) && (errB K "index" (He.ga K "BadMeeting") (He.ma K (He.ga K "BadMeeting") "__init__") && PySem.W.keepIn K (.ref (He.ma K (He.ga K "BadMeeting") "__init__")))
section
variable {P : Program} {w : World} {K : PySem.W.Frag} {mg : Str → Option Value} {h : Heap}
theorem meet_of (X : K.In h) (G : h.Ns mainGlobals mg) (c : He.SaysE fas fns K) (e : exB0 K = true) : MeetC K mg (MC K) ∧ NeC K (MC K) (He.ma K (MC K) "__eq__") := by
  obtain ⟨e1, e⟩ := He.ba e
  obtain ⟨e2, e⟩ := He.ba e
  obtain ⟨e3, e⟩ := He.ba e
  obtain ⟨e4, e⟩ := He.ba e
  obtain ⟨e5, e⟩ := He.ba e
  obtain ⟨e6, e⟩ := He.ba e
  obtain ⟨e7, e8⟩ := He.ba e
  have cl := He.cls_ok (c.fact 59 rfl)
  exact ⟨⟨(He.glo_ok X G (c.fact 21 rfl)), cl, (He.noat_ok (c.fact 61 rfl)), (He.noat_ok (c.fact 62 rfl)), (He.noat_ok (c.fact 63 rfl)), (He.noat_ok (c.fact 64 rfl)), ⟨cl, of_decide_eq_true e1, of_decide_eq_true e2, of_decide_eq_true e3, of_decide_eq_true e4, of_decide_eq_true e5⟩, e6, e7⟩, neB_ok e8⟩
theorem facts {fa : Addr} (X : K.In h) (G : h.Ns mainGlobals mg) (hfa : mg ("law" : Str) = some (.ref fa)) (c : He.SaysE fas fns K) (e : exB K = true) :
    ∃ fd : FuncData, (∀ (s : Shared) (v : Value), BindsTo s fd ⟨[v], []⟩ [("_law_script", v)]) ∧ ∀ base : Heap, K.In base → base.Ns mainGlobals mg → FnC callerA P w K mg base CX0 8 fa fd ["_law_script"] (spLaw K) := by
  obtain ⟨oc0, od0, osl0, kV0, doc0, pm0, an0, cdv0, ct0, lk0, cd0⟩ := c.def_ 0 rfl
  have F0 := fun_mk (st := pIsName) lk0 cd0 (He.keep_ok (c.fact 38 rfl))
  have b0 := F0.binds (ps := ["thing"]) fun _ _ _ _ _ _ us hl => match us, hl with | [_], _ => rfl
  obtain ⟨oc1, od1, osl1, kV1, doc1, pm1, an1, cdv1, ct1, lk1, cd1⟩ := c.def_ 1 rfl
  have F1 := fun_mk (st := pIsList) lk1 cd1 (He.keep_ok (c.fact 39 rfl))
  have b1 := F1.binds (ps := ["thing"]) fun _ _ _ _ _ _ us hl => match us, hl with | [_], _ => rfl
  obtain ⟨oc2, od2, osl2, kV2, doc2, pm2, an2, cdv2, ct2, lk2, cd2⟩ := c.def_ 2 rfl
  have F2 := fun_mk (st := pAreNames) lk2 cd2 (He.keep_ok (c.fact 40 rfl))
  have b2 := F2.binds (ps := ["thing"]) fun _ _ _ _ _ _ us hl => match us, hl with | [_], _ => rfl
  obtain ⟨oc3, od3, osl3, kV3, doc3, pm3, an3, cdv3, ct3, lk3, cd3⟩ := c.def_ 3 rfl
  have F3 := fun_mk (st := pAscendingBlocks) lk3 cd3 (He.keep_ok (c.fact 41 rfl))
  have b3 := F3.binds (ps := ["things"]) fun _ _ _ _ _ _ us hl => match us, hl with | [_], _ => rfl
  obtain ⟨oc4, od4, osl4, kV4, doc4, pm4, an4, cdv4, ct4, lk4, cd4⟩ := c.def_ 4 rfl
  have F4 := fun_mk (st := pIsBlock) lk4 cd4 (He.keep_ok (c.fact 42 rfl))
  have b4 := F4.binds (ps := ["thing", "taken"]) fun _ _ _ _ _ _ us hl => match us, hl with | [_, _], _ => rfl
  obtain ⟨oc5, od5, osl5, kV5, doc5, pm5, an5, cdv5, ct5, lk5, cd5⟩ := c.def_ 5 rfl
  have F5 := fun_mk (st := sFresh) lk5 cd5 (He.keep_ok (c.fact 43 rfl))
  have b5 := F5.binds (ps := ["_law_script"]) fun _ _ _ _ _ _ us hl => match us, hl with | [_], _ => rfl
  obtain ⟨oc6, od6, osl6, kV6, doc6, pm6, an6, cdv6, ct6, lk6, cd6⟩ := c.def_ 6 rfl
  have F6 := fun_mk (st := sTake) lk6 cd6 (He.keep_ok (c.fact 44 rfl))
  have b6 := F6.binds (ps := ["_law_state", "_law_many"]) fun _ _ _ _ _ _ us hl => match us, hl with | [_, _], _ => rfl
  obtain ⟨oc7, od7, osl7, kV7, doc7, pm7, an7, cdv7, ct7, lk7, cd7⟩ := c.def_ 7 rfl
  have F7 := fun_mk (st := sOne) lk7 cd7 (He.keep_ok (c.fact 45 rfl))
  have b7 := F7.binds (ps := ["_law_state", "_law_things"]) fun _ _ _ _ _ _ us hl => match us, hl with | [_, _], _ => rfl
  obtain ⟨oc8, od8, osl8, kV8, doc8, pm8, an8, cdv8, ct8, lk8, cd8⟩ := c.def_ 8 rfl
  have F8 := fun_mk (st := sMix) lk8 cd8 (He.keep_ok (c.fact 46 rfl))
  have b8 := F8.binds (ps := ["_law_state", "_law_things"]) fun _ _ _ _ _ _ us hl => match us, hl with | [_, _], _ => rfl
  obtain ⟨oc9, od9, osl9, kV9, doc9, pm9, an9, cdv9, ct9, lk9, cd9⟩ := c.def_ 9 rfl
  have F9 := fun_mk (st := sSame) lk9 cd9 (He.keep_ok (c.fact 47 rfl))
  have b9 := F9.binds (ps := ["_law_found", "_law_due_here"]) fun _ _ _ _ _ _ us hl => match us, hl with | [_, _], _ => rfl
  obtain ⟨oc10, od10, osl10, kV10, doc10, pm10, an10, cdv10, ct10, lk10, cd10⟩ := c.def_ 10 rfl
  have F10 := fun_mk (st := sNames) lk10 cd10 (He.keep_ok (c.fact 48 rfl))
  have b10 := F10.binds (ps := ["_law_state", "_law_many"]) fun _ _ _ _ _ _ us hl => match us, hl with | [_, _], _ => rfl
  obtain ⟨oc11, od11, osl11, kV11, doc11, pm11, an11, cdv11, ct11, lk11, cd11⟩ := c.def_ 11 rfl
  have F11 := fun_mk (st := sLoose) lk11 cd11 (He.keep_ok (c.fact 49 rfl))
  have b11 := F11.binds (ps := ["_law_state", "_law_thing"]) fun _ _ _ _ _ _ us hl => match us, hl with | [_, _], _ => rfl
  obtain ⟨oc12, od12, osl12, kV12, doc12, pm12, an12, cdv12, ct12, lk12, cd12⟩ := c.def_ 12 rfl
  have F12 := fun_mk (st := sBlocks) lk12 cd12 (He.keep_ok (c.fact 50 rfl))
  have b12 := F12.binds (ps := ["_law_names_here", "_law_code"]) fun _ _ _ _ _ _ us hl => match us, hl with | [_, _], _ => rfl
  obtain ⟨oc13, od13, osl13, kV13, doc13, pm13, an13, cdv13, ct13, lk13, cd13⟩ := c.def_ 13 rfl
  have F13 := fun_mk (st := sRising) lk13 cd13 (He.keep_ok (c.fact 51 rfl))
  have b13 := F13.binds (ps := ["_law_things"]) fun _ _ _ _ _ _ us hl => match us, hl with | [_], _ => rfl
  obtain ⟨oc14, od14, osl14, kV14, doc14, pm14, an14, cdv14, ct14, lk14, cd14⟩ := c.def_ 14 rfl
  have F14 := fun_mk (st := sIsName) lk14 cd14 (He.keep_ok (c.fact 52 rfl))
  have b14 := F14.binds (ps := ["_law_x"]) fun _ _ _ _ _ _ us hl => match us, hl with | [_], _ => rfl
  obtain ⟨oc15, od15, osl15, kV15, doc15, pm15, an15, cdv15, ct15, lk15, cd15⟩ := c.def_ 15 rfl
  have F15 := fun_mk (st := sDrawnCode) lk15 cd15 (He.keep_ok (c.fact 53 rfl))
  have b15 := F15.binds (ps := ["_law_state", "_law_many"]) fun _ _ _ _ _ _ us hl => match us, hl with | [_, _], _ => rfl
  obtain ⟨oc16, od16, osl16, kV16, doc16, pm16, an16, cdv16, ct16, lk16, cd16⟩ := c.def_ 16 rfl
  have F16 := fun_mk (st := sFits) lk16 cd16 (He.keep_ok (c.fact 54 rfl))
  have b16 := F16.binds (ps := ["_law_block", "_law_known"]) fun _ _ _ _ _ _ us hl => match us, hl with | [_, _], _ => rfl
  obtain ⟨oc17, od17, osl17, kV17, doc17, pm17, an17, cdv17, ct17, lk17, cd17⟩ := c.def_ 17 rfl
  have F17 := fun_mk (st := sDue) lk17 cd17 (He.keep_ok (c.fact 55 rfl))
  have b17 := F17.binds (ps := ["_law_blocks_here"]) fun _ _ _ _ _ _ us hl => match us, hl with | [_], _ => rfl
  obtain ⟨oc18, od18, osl18, kV18, doc18, pm18, an18, cdv18, ct18, lk18, cd18⟩ := c.def_ 18 rfl
  have F18 := fun_mk (st := sTried) lk18 cd18 (He.keep_ok (c.fact 56 rfl))
  have b18 := F18.binds (ps := ["_law_blocks_here"]) fun _ _ _ _ _ _ us hl => match us, hl with | [_], _ => rfl
  obtain ⟨oc19, od19, osl19, kV19, doc19, pm19, an19, cdv19, ct19, lk19, cd19⟩ := c.def_ 19 rfl
  have F19 := fun_mk (st := sSpoilt) lk19 cd19 (He.keep_ok (c.fact 57 rfl))
  have b19 := F19.binds (ps := ["_law_state", "_law_blocks_here"]) fun _ _ _ _ _ _ us hl => match us, hl with | [_, _], _ => rfl
  obtain ⟨oc20, od20, osl20, kV20, doc20, pm20, an20, cdv20, ct20, lk20, cd20⟩ := c.def_ 20 rfl
  have F20 := fun_mk (st := sLaw) lk20 cd20 (He.keep_ok (c.fact 58 rfl))
  have b20 := F20.binds (ps := ["_law_script"]) fun _ _ _ _ _ _ us hl => match us, hl with | [_], _ => rfl
  obtain ⟨oc21, od21, osl21, kV21, doc21, pm21, an21, cdv21, ct21, lk21, cd21⟩ := c.def_ 21 rfl
  have F21 := fun_mk (st := cMeetingInit) lk21 cd21 (He.meth_ok (c.fact 65 rfl)).kp
  have b21 := F21.binds (ps := ["self", "blocks"]) fun _ _ _ _ _ _ us hl => match us, hl with | [_, _], _ => rfl
  obtain ⟨oc22, od22, osl22, kV22, doc22, pm22, an22, cdv22, ct22, lk22, cd22⟩ := c.def_ 22 rfl
  have F22 := fun_mk (st := cMeetingLen) lk22 cd22 (He.meth_ok (c.fact 66 rfl)).kp
  have b22 := F22.binds (ps := ["self"]) fun _ _ _ _ _ _ us hl => match us, hl with | [_], _ => rfl
  obtain ⟨oc23, od23, osl23, kV23, doc23, pm23, an23, cdv23, ct23, lk23, cd23⟩ := c.def_ 23 rfl
  have F23 := fun_mk (st := cMeetingEq) lk23 cd23 (He.meth_ok (c.fact 67 rfl)).kp
  have b23 := F23.binds (ps := ["self", "other"]) fun _ _ _ _ _ _ us hl => match us, hl with | [_, _], _ => rfl
  obtain ⟨oc24, od24, osl24, kV24, doc24, pm24, an24, cdv24, ct24, lk24, cd24⟩ := c.def_ 24 rfl
  have z := hfa.symm.trans (He.glo_ok X G (c.fact 20 rfl))
  cases z
  refine ⟨PySem.W.fnOf "law" "law" (defArgs sLaw) (defBody sLaw) (defScope sLaw) .none kV20 doc20 pm20 an20 cdv20 ct20, fun s v => .of_eq rfl, fun base _ _ => ?_⟩
  obtain ⟨e, zBadMeeting⟩ := Bool.and_eq_true_iff.mp e
  obtain ⟨qBadMeeting, kBadMeeting⟩ := Bool.and_eq_true_iff.mp zBadMeeting
  obtain ⟨e, eal⟩ := Bool.and_eq_true_iff.mp e
  obtain ⟨mc, ne⟩ := meet_of X G c e
  have al := alB_ok eal
  have F24 := fun_mk (st := cBadMeetingInit) lk24 cd24 kBadMeeting
  have b24 := F24.binds (ps := ["self", "index"]) fun _ _ _ _ _ _ us hl => match us, hl with | [_, _], _ => rfl
  have erBadMeeting := errB_ok (x := "BadMeeting") (He.glo_ok X G (c.fact 68 rfl)) qBadMeeting
  have tt : TxtT mg := ⟨(He.free_ok X G (c.fact 25 rfl)), (He.free_ok X G (c.fact 30 rfl)), (He.free_ok X G (c.fact 28 rfl))⟩
  have tb : TxtB mg := ⟨(He.free_ok X G (c.fact 25 rfl)), (He.free_ok X G (c.fact 33 rfl)), (He.free_ok X G (c.fact 26 rfl)), (He.free_ok X G (c.fact 34 rfl)), (He.free_ok X G (c.fact 24 rfl)), (He.free_ok X G (c.fact 32 rfl))⟩
  have tn : TxtN mg := ⟨(He.free_ok X G (c.fact 25 rfl)), (He.free_ok X G (c.fact 33 rfl)), (He.free_ok X G (c.fact 26 rfl)), (He.free_ok X G (c.fact 36 rfl)), (He.free_ok X G (c.fact 22 rfl)), (He.free_ok X G (c.fact 35 rfl)), (He.free_ok X G (c.fact 23 rfl)), (He.free_ok X G (c.fact 24 rfl)), (He.free_ok X G (c.fact 31 rfl))⟩
  obtain ⟨uL, hL⟩ := (He.str_ok X G (c.fact 69 rfl))
  obtain ⟨uN, hN⟩ := (He.int_ok X G (c.fact 70 rfl))
  have gIL := ok_isList (P := P) (w := w) (base := base) F1 (He.free_ok X G (c.fact 23 rfl)) (He.free_ok X G (c.fact 24 rfl)) (He.free_ok X G (c.fact 22 rfl))
  have gIN := ok_isName (P := P) (w := w) (base := base) F0 (He.free_ok X G (c.fact 35 rfl)) (He.free_ok X G (c.fact 25 rfl)) (He.free_ok X G (c.fact 26 rfl)) (He.free_ok X G (c.fact 22 rfl)) ⟨_, hL, ⟨_, rfl⟩⟩ ⟨_, hN, ⟨_, rfl⟩⟩
  have gAN := ok_areNq F2 gIL (He.glo_ok X G (c.fact 1 rfl)) F1.kp b1 gIN (He.glo_ok X G (c.fact 0 rfl)) F0.kp b0 (He.free_ok X G (c.fact 26 rfl))
  have gIB := ok_isBlockQ F4 gAN (He.glo_ok X G (c.fact 2 rfl)) F2.kp b2 tb
  have gNi := ok_bmi (P := P) (w := w) (mg := mg) (base := base) F24 erBadMeeting.oex erBadMeeting.no
  have gAB := ok_ascQ F3 gIL (He.glo_ok X G (c.fact 1 rfl)) F1.kp b1 gIB (He.glo_ok X G (c.fact 4 rfl)) F4.kp b4 tb erBadMeeting gNi b24
  have gIn := ok_minitQ F21 mc gAB (He.glo_ok X G (c.fact 3 rfl)) F3.kp b3 ⟨(He.free_ok X G (c.fact 33 rfl)), (He.free_ok X G (c.fact 34 rfl)), (He.free_ok X G (c.fact 24 rfl)), (He.free_ok X G (c.fact 32 rfl))⟩
  have gLn := ok_mlen (P := P) (w := w) (base := base) F22 mc (He.free_ok X G (c.fact 25 rfl))
  have gEq := ok_meqQ (P := P) (w := w) (base := base) F23 mc al (He.free_ok X G (c.fact 22 rfl))
  have gTk := ok_take (P := P) (w := w) (base := base) F6 tt
  have gFr := ok_fresh (P := P) (w := w) (base := base) F5 (He.free_ok X G (c.fact 23 rfl))
  have gMx := ok_mix (P := P) (w := w) (base := base) F8 F6 tt (He.free_ok X G (c.fact 23 rfl)) (He.glo_ok X G (c.fact 6 rfl)) b6
  have gOn := ok_one (P := P) (w := w) (base := base) F7 F6 tt (He.glo_ok X G (c.fact 6 rfl)) b6
  have ts : TxtS mg := ⟨(He.free_ok X G (c.fact 22 rfl)), (He.free_ok X G (c.fact 23 rfl)), (He.free_ok X G (c.fact 24 rfl)), (He.free_ok X G (c.fact 25 rfl)), (He.free_ok X G (c.fact 26 rfl)), (He.free_ok X G (c.fact 27 rfl)), (He.free_ok X G (c.fact 28 rfl)), (He.free_ok X G (c.fact 29 rfl))⟩
  have gSm := same_all (P := P) (w := w) (base := base) F9 ts b9 (He.glo_ok X G (c.fact 9 rfl))
  have gNm := ok_names F10 gMx (He.glo_ok X G (c.fact 8 rfl)) F8.kp b8
  have gBl := ok_blocks (P := P) (w := w) (base := base) F12 ⟨(He.free_ok X G (c.fact 25 rfl)), (He.free_ok X G (c.fact 33 rfl)), (He.free_ok X G (c.fact 31 rfl)), (He.free_ok X G (c.fact 27 rfl))⟩
  have gLo := ok_looseQD F11 (He.glo_ok X G (c.fact 6 rfl)) F6.kp b6 gTk (He.glo_ok X G (c.fact 11 rfl)) b11 (He.free_ok X G (c.fact 23 rfl)) (He.free_ok X G (c.fact 24 rfl)) (He.free_ok X G (c.fact 22 rfl)) 3
  have gDr := ok_drawn F15 tn (He.glo_ok X G (c.fact 6 rfl)) F6.kp b6 gTk
  have gLn2 := ok_isNameL (P := P) (w := w) (base := base) F14 tn
  have gFi := ok_fitsL F16 tn (He.glo_ok X G (c.fact 14 rfl)) F14.kp b14 gLn2
  have gRi := ok_risingG (P := P) (w := w) (base := base) F13 (He.free_ok X G (c.fact 25 rfl))
  have gDu := ok_due F17 tn (He.free_ok X G (c.fact 32 rfl)) (He.glo_ok X G (c.fact 16 rfl)) F16.kp b16 gFi (He.glo_ok X G (c.fact 13 rfl)) F13.kp b13 gRi
  have gTr := ok_triedQ F18 mc erBadMeeting (He.mkr_ok (c.fact 60 rfl)) gIn b21 (He.meth_ok (c.fact 66 rfl)) gLn b22 (He.free_ok X G (c.fact 25 rfl))
  have gSp := ok_spoilt F19 tn (He.glo_ok X G (c.fact 6 rfl)) F6.kp b6 gTk (He.glo_ok X G (c.fact 7 rfl)) F7.kp b7 gOn
  exact ok_law F20 ⟨mc, al, (He.free_ok X G (c.fact 25 rfl)), (He.free_ok X G (c.fact 36 rfl)), (He.free_ok X G (c.fact 31 rfl)), (He.free_ok X G (c.fact 23 rfl)), (He.free_ok X G (c.fact 37 rfl)), ⟨_, _, (He.glo_ok X G (c.fact 6 rfl)), F6.kp, b6, gTk⟩, ⟨_, _, (He.glo_ok X G (c.fact 5 rfl)), F5.kp, b5, gFr⟩, ⟨_, _, (He.glo_ok X G (c.fact 10 rfl)), F10.kp, b10, gNm⟩, ⟨_, _, (He.glo_ok X G (c.fact 12 rfl)), F12.kp, b12, gBl⟩, ⟨_, _, (He.glo_ok X G (c.fact 15 rfl)), F15.kp, b15, gDr⟩, ⟨_, _, (He.glo_ok X G (c.fact 8 rfl)), F8.kp, b8, gMx⟩, ⟨_, _, (He.glo_ok X G (c.fact 7 rfl)), F7.kp, b7, gOn⟩, ⟨_, _, (He.glo_ok X G (c.fact 9 rfl)), F9.kp, b9, (gSm 5)⟩, ⟨_, _, (He.glo_ok X G (c.fact 11 rfl)), F11.kp, b11, gLo⟩, ⟨_, _, (He.glo_ok X G (c.fact 17 rfl)), F17.kp, b17, gDu⟩, ⟨_, _, (He.glo_ok X G (c.fact 18 rfl)), F18.kp, b18, gTr⟩, ⟨_, _, (He.glo_ok X G (c.fact 19 rfl)), F19.kp, b19, gSp⟩, ⟨_, _, (He.mkr_ok (c.fact 60 rfl)), b21, gIn⟩, ⟨_, _, (He.meth_ok (c.fact 67 rfl)), ne, b23, gEq⟩⟩
end
end K1
set_option maxRecDepth 100000
namespace K1
open PySem L2
theorem walk {l : PySem.W.OpenLaw} {q : Program} {loose : List Str} {XP : (Str → Option Value) → Heap → Prop} {YP : World → Heap → Prop} {d : DefRec} {K : Params → PySem.W.Frag} (hn : l.most = some 63) (hdf : d.params.defaults = [])
    (hY : ∀ (w : World) (h : Heap), YP w h → (K w.params).In h)
    (F : ∀ (w : World) (mg : Str → Option Value) (fa : Addr) (h : Heap), (K w.params).In h → h.Ns mainGlobals mg → mg d.name = some (.ref fa) →
      ∃ fd : FuncData, (∀ (s : Shared) (u : Value), BindsTo s fd ⟨[u], []⟩ [("_law_script", u)]) ∧ ∀ base : Heap, (K w.params).In base → base.Ns mainGlobals mg → FnC callerA l.prog w (K w.params) mg base CX0 8 fa fd ["_law_script"] (spLaw (K w.params))) :
    PySem.W.WalkO q loose XP YP l.row.toRowW d [] (fun f vs => PySem.call f vs) :=
  walk_ofG (n := 63) (k := 8) (x := "_law_script") (sp := fun w => spLaw (K w.params)) hn (by decide) hdf ⟨rfl, by decide, by decide⟩ hY F (fun _ _ a ns hl _ hS => ⟨a, ns, rfl, hS, hl, fun _ => rfl⟩)
end K1
open PySem PySem.W PyProof.Rows
set_option maxRecDepth 100000 in
set_option maxHeartbeats 0 in
theorem PySem.Challenge.cw_idlewrites_k10_meetings_made_holds : PySem.Challenge.rw_idlewrites_k10_meetings_made.Holds := by
  w_on; o_law; k_head; (case hw => w_witness2)
  k_fill
  refine K1.walk (l := PySem.Challenge.rw_idlewrites_k10_meetings_made) rfl rfl (fun w h Y => PySem.W.kIn_of Y) ?F
  case F =>
    intro w mg fa h KX G hmg
    refine' K1.facts KX G hmg ?c ?e
    case c =>
      refine (?_ : He.obsE K1.fas K1.fns _ = He.valE K1.fns)
      kernel_rfl
    case e => kernel_rfl
