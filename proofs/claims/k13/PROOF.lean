import PyProof.Rows.All
import Wide.All
import OpenK.AllK
import Wide.FinOn
import HandS.TupSets
import HandS.TupLe
import HandS.DictTup
import HandS.SetKeys
import PyProof.Rows.SortStr
import HandS.SetFor
import HandS.Strs
import PyProof.Rows.SetFrom
import HandS.Sort
import HandS.Keys
import HandS.DictComp
import HandS.Walk
import HandS.Zip
import KE.GoesMore
import KE.GoesZip
import HandS.ForMost
import KE.KDictList
import HandS.ListItems
import KE.KDictCopyH
import KE.KDictZip
import KE.KItemsList
import HandS.Exc
import HandS.ExcValue
import HandS.ForExc
import HandS.ForList
import HandS.SlotsOwn
import PyProof.InstNe
import HandS.Wide
import HandS.Comp
import HandS.Iter
import HandS.More
import HandS.Dict
import HandS.IsInst
import HandS.Small
import HandS.Text
import HandS.Steps
import HandS.Codes
import HandS.NoneIn
import HandS.TupAny
import HandS.Style
import HandS.Deep
import HandS.Flow
import HandS.Star
import HandS.Conv
import HandS.Call
import HandS.HeadHook1
import PySem.Challenge.RW_idlewrites_k13_whole_meetings_joined
set_option Elab.async false
set_option maxRecDepth 100000
set_option maxHeartbeats 2000000
/-! sets of tuples of ints and texts -/
namespace K1
open PySem PySem.Spec PyProof.Rows L2
abbrev PK := List (Addr × List Key)
abbrev hK (P : Program) (w : World) (k : List Key) : Int := tupleKeyHash (mixKind P w) k
abbrev TuK (P : Program) (w : World) (h : Heap) (k : List Key) (a : Addr) : Prop := IsTupleKey (mixKind P w) h k a
section
variable {P : Program} {w : World} {A : Around} {E : Value → Shared → Prop} {s : Shared}
theorem flat_items {k : List Key} {vs : List Value} (h : ItemsAre (mixKind P w) k vs) : ∀ v ∈ vs, v.scannable = true ∧ ∀ n, ofAClassStatement n v = pure false := by
  induction h with
  | nil => exact fun v hv => nomatch hv
  | @cons a u _ _ h1 _ ih =>
    intro v hv
    cases hv with
    | head => rcases keyIs_shape h1 with ⟨i, t, _, e⟩ | ⟨x, t, _, e⟩ <;> subst e <;> exact ⟨rfl, fun n => by cases n <;> rfl⟩
    | tail _ m => exact ih v m
theorem noClass {k : List Key} {b : Addr} {Q : Bool → Shared → Prop} (T : TuK P w s.heap k b) (q : Q false s) : wpAny (model P w) A (ofAClassStatement 8 (.ref b)) Q E s := by
  have ty := T.typeIs
  obtain ⟨o, its, n, at_, _, dt, all⟩ := T
  have flat := flat_items all
  unfold ofAClassStatement
  refine wpAny_bind (wpAny_typeOf ty ?_)
  dsimp only
  simp only [show (("tuple" : String) == "tuple") = true from by decide, if_true]
  try refine wpAny_bind (wpAny_pure ?_)
  try simp only [Bool.not_true, Bool.false_eq_true, if_false]
  refine wpAny_bind (m := seqItems? (.ref b)) (wpAny_seqItems at_ dt ?_)
  dsimp only
  refine wpAny_bind (m := forIn its _ _) ?_
  rw [← Array.forIn_toList]
  refine wpAny_forIn_list _ (fun l r z => (r.1 = none ∧ z = s) ∧ ∀ v ∈ l, v ∈ its.toList) _ ?_ ?_ _ _ ⟨⟨rfl, rfl⟩, fun _ m => m⟩
  · rintro v l r z ⟨⟨e, rfl⟩, sub⟩
    rw [(flat v (sub v (.head _))).2]
    refine wpAny_bind (wpAny_pure ?_)
    rw [if_neg Bool.false_ne_true]
    exact wpAny_pure ⟨⟨rfl, rfl⟩, fun u m => sub u (.tail _ m)⟩
  · rintro ⟨r, u⟩ z ⟨⟨e, rfl⟩, _⟩
    cases (show r = none from e)
    exact wpAny_pure q
theorem someHash {k : List Key} {b : Addr} {Q : Bool → Shared → Prop} (T : TuK P w s.heap k b) (q : ∀ c, Q c s) : wpAny (model P w) A (hashByValue 8 (.ref b)) Q E s := by
  have ty := T.typeIs
  obtain ⟨o, its, n, at_, _, dt, all⟩ := T
  have flat := flat_items all
  unfold hashByValue
  refine wpAny_bind (wpAny_specialOf ty F.slot_tuple_hash.lookup ?_)
  refine wpAny_bind (m := seqItems? (.ref b)) (wpAny_seqItems at_ dt ?_)
  refine wpAny_bind (m := forIn its _ _) ?_
  rw [← Array.forIn_toList]
  refine wpAny_forIn_list _ (fun l r z => (r.1 = none ∧ z = s) ∧ ∀ v ∈ l, v ∈ its.toList) _ ?_ ?_ _ _ ⟨⟨rfl, rfl⟩, fun _ m => m⟩
  · rintro v l r z ⟨⟨e, rfl⟩, sub⟩
    rw [hashByValue_scannable _ (flat v (sub v (.head _))).1]
    refine wpAny_bind (wpAny_pure ?_)
    cases plainKind v with
    | true => exact wpAny_pure ⟨⟨rfl, rfl⟩, fun u m => sub u (.tail _ m)⟩
    | false => exact wpAny_pure (wpAny_pure (q false))
  · rintro ⟨r, u⟩ z ⟨⟨e, rfl⟩, _⟩
    cases (show r = none from e)
    exact wpAny_pure (q true)
theorem unseen {k : List Key} {b : Addr} {Q : Bool → Shared → Prop} (T : TuK P w s.heap k b) {ys : List Value} (hy : ∀ y ∈ ys, ∃ j c, y = Value.ref c ∧ TuK P w s.heap j c) (q : Q false s) :
    wpAny (model P w) A (searchCouldBeSeen (.ref b) ys) Q E s := by
  unfold searchCouldBeSeen
  refine wpAny_bind (wpAny_forIn_list _ (fun l r z => (r.1 = none ∧ z = s) ∧ ∀ v ∈ l, v ∈ ys) _ ?_ ?_ _ _ ⟨⟨rfl, rfl⟩, fun _ m => m⟩)
  · rintro v l r z ⟨⟨e, rfl⟩, sub⟩
    obtain ⟨j, c, rfl, T'⟩ := hy v (sub v (.head _))
    have go : ∀ u ∈ l, u ∈ ys := fun u m => sub u (.tail _ m)
    dsimp only
    by_cases hv : (b == c || (carriedByValue (.ref b) && carriedByValue (.ref c))) = true
    · rw [if_pos hv]
      exact wpAny_pure ⟨⟨rfl, rfl⟩, go⟩
    · rw [if_neg hv]
      refine wpAny_bind (wpAny_eqIsQuiet_tuple T (wp_if_neg (by decide) (wpAny_bind (wpAny_eqIsQuiet_tuple T' (wp_if_neg (by decide) (wpAny_bind (noClass T (wp_if_neg (by decide) (wpAny_bind (noClass T' (wp_if_neg (by decide) ?_)))))))))))
      exact wpAny_pure ⟨⟨rfl, rfl⟩, go⟩
  · rintro ⟨r, u⟩ z ⟨⟨e, rfl⟩, _⟩
    cases (show r = none from e)
    exact wpAny_pure q
end
end K1
set_option linter.all false
set_option maxRecDepth 100000
set_option maxHeartbeats 2000000
namespace K1
open PySem PySem.Spec PyProof.Rows L2
/-- the c-th stop of a search -/
abbrev stopN (t : SetTable) (h : Int) (c : Nat) : SetTable.Probe := nth t.mask (runAt t.mask (SetTable.bits h % (t.mask + 1)) (SetTable.bits h)) c
theorem stop_plain (t : SetTable) (h : Int) : ∀ c, (stopN t h c).dummy = none
  | 0 => rfl
  | c + 1 => by
    have z := stop_plain t h c
    unfold stopN at z ⊢
    rw [nth_succ]
    unfold adv
    split <;> exact z
/-- what a probe finds from the c-th stop on; K is the first free one -/
theorem probe_from {t : SetTable} {hs : List Int} (T : TabOk t hs) {ha : Nat → Int} {h : Int} {K : Nat} (hf : K < 10 * SetTable.turns t.mask) (hK : way t.mask h K ∉ t.place.toList) (hb : ∀ c, c < K → way t.mask h c ∈ t.place.toList) {c : Nat} (hc : c ≤ K) :
    (∃ d i, c ≤ d ∧ d < K ∧ t.place.toList[i]? = some (way t.mask h d) ∧ ha i = h ∧ (∀ e j, c ≤ e → e < d → t.place.toList[j]? = some (way t.mask h e) → ha j ≠ h) ∧ t.probe ha h (stopN t h c) = some (.candidate (way t.mask h d) i (stopN t h (d + 1)))) ∨
    ((∀ e j, c ≤ e → e < K → t.place.toList[j]? = some (way t.mask h e) → ha j ≠ h) ∧ t.probe ha h (stopN t h c) = some (.empty (way t.mask h K) none)) := by
  have to : ∀ q, nth t.mask (stopN t h c) q = stopN t h (c + q) := fun q => (nth_add t.mask c _ q).symm
  have z := go_spec t T.ris T.dm ha h (10 * SetTable.turns t.mask) (K - c) (stopN t h c) (stop_plain t h c) (by omega)
  simp only [to] at z
  have eK : c + (K - c) = K := by omega
  rw [eK] at z
  rcases z (fun q hq => hb (c + q) (by omega)) hK with ⟨q, i, a1, a2, a3, a4, a5⟩ | ⟨a1, a2⟩
  · refine .inl ⟨c + q, i, by omega, by omega, a2, a3, fun e j h1 h2 h3 => ?_, a5⟩
    refine a4 (e - c) j (by omega) ?_
    rw [show c + (e - c) = e by omega]
    exact h3
  · refine .inr ⟨fun e j h1 h2 h3 => ?_, a2⟩
    refine a1 (e - c) j (by omega) ?_
    rw [show c + (e - c) = e by omega]
    exact h3
def rowK (P : Program) (w : World) (L : PK) : List (Int × Value) := L.map fun p => (hK P w p.2, Value.ref p.1)
def hashes (P : Program) (w : World) (L : PK) : List Int := L.map fun p => hK P w p.2
def keysK (L : PK) : List (List Key) := L.map (·.2)
/-- the set at a of these tuples, in their rows' order -/
structure StK (P : Program) (w : World) (h : Heap) (a : Addr) (L : PK) (es : Array (Int × Value)) (ep : Nat) (t : SetTable) : Prop where
  at_ : ∃ o, o.ExactSet ∧ h.get? a = some o ∧ o.data = .set es ep t
  row : es.toList = rowK P w L
  tab : TabOk t (hashes P w L)
  one : (keysK L).Nodup
  tup : ∀ p ∈ L, TuK P w h p.2 p.1
  led : w.params.followText "set-order" = true ∨ t.led = true
  room : L.length * 5 < t.mask * 3
  few : L.length < 64
section
variable {P : Program} {w : World} {A : Around} {E : Value → Shared → Prop} {s : Shared} {a : Addr} {L : PK} {es : Array (Int × Value)} {ep : Nat} {t : SetTable}
theorem row_len {L : PK} {es : Array (Int × Value)} (h : es.toList = rowK P w L) : es.size = L.length := by
  rw [← Array.length_toList, h, rowK, List.length_map]
theorem hashes_len (L : PK) : (hashes P w L).length = L.length := List.length_map _
theorem fits_of {L : PK} {es : Array (Int × Value)} {t : SetTable} (h : es.toList = rowK P w L) (T : TabOk t (hashes P w L)) (hl : L.length ≤ t.mask) : t.fits es.size = true := by
  have z := T.sz
  rw [hashes_len] at z
  unfold SetTable.fits SetTable.fill
  rw [T.dm, row_len h, z]
  simp [hl]
theorem StK.fit (R : StK P w s.heap a L es ep t) : t.fits es.size = true := fits_of R.row R.tab (by have := R.room; omega)
theorem row_at {L : PK} {es : Array (Int × Value)} (h : es.toList = rowK P w L) {i : Nat} {p : Addr × List Key} (hp : L[i]? = some p) : es[i]? = some (hK P w p.2, Value.ref p.1) := by
  rw [← Array.getElem?_toList, h, rowK, List.getElem?_map, hp] <;> rfl
theorem search_one {x : Addr} {k : List Key} (R : StK P w s.heap a L es ep t) (T : TuK P w s.heap k x) (hu : A.units < cLine) {K : Nat} (hf : K < 10 * SetTable.turns t.mask) (hK' : way t.mask (hK P w k) K ∉ t.place.toList)
    (hb : ∀ c, c < K → way t.mask (hK P w k) c ∈ t.place.toList) {Q : SetFound → Shared → Prop} (yes : k ∈ keysK L → Q (.there none) s) (no : k ∉ keysK L → Q (.free (way t.mask (hK P w k) K) false) s) :
    ∀ (f c : Nat) (st : Option SetTable.Probe), st.getD (t.probeStart (hK P w k)) = stopN t (hK P w k) c → c ≤ K → K - c < f → (∀ (i : Nat) p, L[i]? = some p → p.2 = k → ∃ e, c ≤ e ∧ e < K ∧ t.place.toList[i]? = some (way t.mask (hK P w k) e)) →
      wpAny (model P w) A (setSearchFrom a (.ref x) (hK P w k) true f st) Q E s := by
  intro f
  induction f with
  | zero => exact fun _ _ _ _ z => absurd z (Nat.not_lt_zero _)
  | succ f ih =>
    intro c st est hc hl within
    obtain ⟨o, ex, at_, dt⟩ := R.at_
    have agree : ∀ (i : Nat) p, L[i]? = some p → (fun i => (es[i]?.map (·.1)).getD 0) i = hK P w p.2 := fun i p hp => by
      show (es[i]?.map (·.1)).getD 0 = _
      rw [row_at R.row hp] <;> rfl
    rw [setSearchFrom_succ]
    refine wpAny_bind (m := setState a) (wpAny_setState_of at_ dt R.fit ?_)
    dsimp only
    have odd : ¬ t.gaveWay = true := by
      unfold SetTable.gaveWay
      rw [mask_odd R.tab.mok]
      decide
    rw [if_neg odd]
    try refine wpAny_bind (wpAny_pure ?_)
    rw [est]
    rcases probe_from R.tab hf hK' hb hc (ha := fun i => (es[i]?.map (·.1)).getD 0) with ⟨d, i, h1, h2, h3, h4, h5, h6⟩ | ⟨h1, h2⟩
    · rw [h6]
      dsimp only
      have il : i < L.length := by
        have z := (List.getElem?_eq_some_iff.mp h3).1
        rw [Array.length_toList, R.tab.sz, hashes_len] at z
        exact z
      obtain ⟨p, hp⟩ : ∃ p, L[i]? = some p := ⟨_, List.getElem?_eq_getElem il⟩
      have pm := List.mem_of_getElem? hp
      have live : t.slot (way t.mask (hK P w k) d) = .live i := slot_live R.tab.ris h3
      have go : wpAny (model P w) A (searchRest a (.ref x) (hK P w k) true f es t (way t.mask (hK P w k) d) i (stopN t (hK P w k) (d + 1))) Q E s := by
        unfold searchRest
        rw [row_at R.row hp]
        dsimp only
        refine wpAny_bind (wpAny_holding (wpAny_eqBool_tuple hu (R.tup p pm) T (wpAny_bind (m := setState a) (wpAny_setState_of at_ dt R.fit ?_))))
        dsimp only
        by_cases ek : p.2 = k
        · rw [if_pos (by simp [ek])]
          exact wpAny_pure (yes (List.mem_map.mpr ⟨p, pm, ek⟩))
        · rw [if_neg (by simp [ek])]
          try refine wpAny_bind (wpAny_pure ?_)
          rw [sameMem]
          dsimp only
          simp only [if_true, live, row_at R.row hp]
          refine wpAny_bind (wpAny_isSame_ref_self (wpAny_bind (wpAny_pure ?_)))
          simp only [if_true]
          rw [if_neg (by simp [ek])]
          refine ih (d + 1) _ rfl h2 (by omega) fun j q hq eq => ?_
          obtain ⟨e, e1, e2, e3⟩ := within j q hq eq
          refine ⟨e, ?_, e2, e3⟩
          rcases Nat.lt_trichotomy e d with c1 | c1 | c1
          · exact absurd ((agree j q hq).trans (congrArg _ eq)) (h5 e j e1 c1 e3)
          · subst c1
            have z := slot_live R.tab.ris e3
            rw [live] at z
            cases z
            rw [hp] at hq
            cases hq
            exact absurd eq ek
          · exact c1
      cases hled : t.led with
      | true =>
        rw [if_neg (by decide)]
        try refine wpAny_bind (wpAny_pure ?_)
        exact go
      | false =>
        rw [if_pos (by decide)]
        refine wpAny_bind (m := searchCouldBeSeen _ _) (unseen T (fun y hy => ?_) (wp_if_neg (by decide) ?_))
        · obtain ⟨e, m1, rfl⟩ := List.mem_map.mp hy
          have m2 : e ∈ es.toList := by
            have z : e ∈ es ∧ e.1 = hK P w k := by simpa using m1
            simpa using z.1
          rw [R.row] at m2
          obtain ⟨q, hq, rfl⟩ := List.mem_map.mp m2
          exact ⟨q.2, q.1, rfl, R.tup q hq⟩
        · try refine wpAny_bind (wpAny_pure ?_)
          exact go
    · rw [h2]
      dsimp only
      refine wpAny_pure (no fun m => ?_)
      obtain ⟨p, hp, ek⟩ := List.mem_map.mp m
      obtain ⟨j, hj, ej⟩ := List.getElem_of_mem hp
      have hq : L[j]? = some p := by rw [List.getElem?_eq_getElem hj, ej]
      obtain ⟨e, e1, e2, e3⟩ := within j p hq ek
      exact h1 e j e1 e2 e3 ((agree j p hq).trans (congrArg _ ek))
theorem search_k {x : Addr} {k : List Key} (R : StK P w s.heap a L es ep t) (T : TuK P w s.heap k x) (hu : A.units < cLine) {Q : SetFound → Shared → Prop} (yes : k ∈ keysK L → Q (.there none) s)
    (no : ∀ K, k ∉ keysK L → way t.mask (hK P w k) K ∉ t.place.toList → (∀ c, c < K → way t.mask (hK P w k) c ∈ t.place.toList) → Q (.free (way t.mask (hK P w k) K) false) s) :
    wpAny (model P w) A (setSearch a (.ref x) (hK P w k) true) Q E s := by
  have room := R.room
  obtain ⟨K, k1, k2, k3⟩ := R.tab.first (by rw [hashes_len]; omega) (hK P w k)
  have big : K < 100000 := by
    have z : SetTable.turns t.mask ≤ 142 := by
      unfold SetTable.turns
      rcases R.tab.mok with e | e | e <;> rw [e] <;> decide
    omega
  unfold setSearch
  refine search_one R T hu k1 k2 k3 yes (fun n => no K n k2 k3) 100000 0 none rfl (Nat.zero_le _) (by omega) fun i p hp ek => ?_
  have hi : (hashes P w L)[i]? = some (hK P w k) := by
    rw [hashes, List.getElem?_map, hp, ← ek] <;> rfl
  have li : i < t.place.toList.length := by
    rw [Array.length_toList, R.tab.sz]
    exact (List.getElem?_eq_some_iff.mp hi).1
  obtain ⟨e, e1, e2⟩ := R.tab.before k2 hi (List.getElem?_eq_getElem li)
  exact ⟨e, Nat.zero_le _, e1, by rw [e2]; exact List.getElem?_eq_getElem li⟩
end
end K1
set_option linter.all false
set_option maxRecDepth 100000
set_option maxHeartbeats 2000000
namespace K1
open PySem PySem.Spec PyProof.Rows L2
section
variable {P : Program} {w : World} {A : Around} {E : Value → Shared → Prop} {s : Shared} {a : Addr} {L : PK} {es : Array (Int × Value)} {ep : Nat} {t : SetTable}
theorem tuK_but {h h' : Heap} {k : List Key} {o : Obj} {b : Addr} (T : TuK P w h k b) (at_ : h.get? a = some o) (dt : o.data = .set es ep t) (sb : Heap.SameBut a h h') : TuK P w h' k b := by
  obtain ⟨o2, its, n, g, c, d, r⟩ := T
  refine ⟨o2, its, n, (sb.2 b ?_).trans g, c, d, r⟩
  intro e
  subst e
  rw [at_] at g
  cases g
  rw [dt] at d
  cases d
theorem tab_plain {hs : List Int} (T : TabOk t hs) (b : Bool) : TabOk { t with plain := b } hs := ⟨T.ris, T.dm, T.sz, T.mok, T.bd, T.reach⟩
theorem in_perm {α : Type} (M : List α) (i : Nat) (x : α) : (M.take i ++ x :: M.drop i).Perm (x :: M) := by
  have z : (M.take i ++ x :: M.drop i).Perm (x :: (M.take i ++ M.drop i)) := List.perm_middle
  rwa [List.take_append_drop] at z
/-- rows in another order -/
theorem row_order {L : PK} {es : Array (Int × Value)} {od : Array Nat} (hr : es.toList = rowK P w L) (hp : od.toList.Perm (List.range L.length)) :
    ∃ M : PK, (od.filterMap (es[·]?)).toList = rowK P w M ∧ M.Perm L ∧ hashes P w M = od.toList.map fun i => (es.map (·.1)).getD i 0 := by
  have one : ∀ i (h : i < L.length), es[i]? = some (hK P w L[i].2, Value.ref L[i].1) := fun i h => row_at hr (List.getElem?_eq_getElem h)
  have sz := row_len hr
  have all : ∀ l : List Nat, (∀ i ∈ l, i < L.length) → l.filterMap (fun i => es[i]?) = rowK P w (l.filterMap fun i => L[i]?) ∧ hashes P w (l.filterMap fun i => L[i]?) = l.map fun i => (es.map (·.1)).getD i 0 := by
    intro l
    induction l with
    | nil => exact fun _ => ⟨rfl, rfl⟩
    | cons i l ih =>
      intro hl
      have hi := hl i (.head _)
      obtain ⟨a1, a2⟩ := ih fun j m => hl j (.tail _ m)
      rw [List.filterMap_cons_some (one i hi), List.filterMap_cons_some (List.getElem?_eq_getElem hi), a1]
      refine ⟨rfl, ?_⟩
      rw [List.map_cons, ← a2]
      have z : (es.map (·.1)).getD i 0 = hK P w L[i].2 := by
        simp [Array.getD_eq_getD_getElem?, one i hi]
      rw [z]
      rfl
  obtain ⟨a1, a2⟩ := all od.toList fun i m => List.mem_range.mp (hp.mem_iff.mp m)
  refine ⟨od.toList.filterMap fun i => L[i]?, by simpa using a1, ?_, a2⟩
  have q : ∀ n, n ≤ L.length → (List.range n).filterMap (fun i => L[i]?) = L.take n := by
    intro n
    induction n with
    | zero => exact fun _ => rfl
    | succ n ih =>
      intro hn
      rw [List.range_succ, List.filterMap_append, ih (Nat.le_of_succ_le hn), List.take_add_one, List.getElem?_eq_getElem hn]
      simp [List.getElem?_eq_getElem hn]
  have z := hp.filterMap fun i => L[i]?
  rw [q L.length (Nat.le_refl _), List.take_length] at z
  exact z
theorem at_new {h : Heap} {o : Obj} (ex : o.ExactSet) (at1 : h.get? a = some { o with data := .set es ep t }) : ∃ o', o'.ExactSet ∧ h.get? a = some o' ∧ o'.data = .set es ep t :=
  ⟨{ o with data := .set es ep t }, ⟨ex.1, ex.2.1, ex.2.2⟩, at1, rfl⟩
theorem relay_k (ob : ∃ o, o.ExactSet ∧ s.heap.get? a = some o ∧ o.data = .set es ep t) (row : es.toList = rowK P w L) (T : TabOk t (hashes P w L)) (fl : L.length ≤ t.mask) (nd : (keysK L).Nodup) (tup : ∀ p ∈ L, TuK P w s.heap p.2 p.1)
    (ld : w.params.followText "set-order" = true ∨ t.led = true) (few : L.length < 64) {want M : Nat} (hw : SetTable.sizeAbove want - 1 = M) (hM : MaskOk M) (h128 : SetTable.sizeAbove want ≤ 128) (hn : L.length * 5 < M * 3) {Q : Unit → Shared → Prop}
    (q : ∀ h' L' es' ep' t', Heap.SameBut a s.heap h' → StK P w h' a L' es' ep' t' → L'.Perm L → Q () { s with heap := h' }) : wpAny (model P w) A (setRelay a want) Q E s := by
  obtain ⟨o, ex, at_, dt⟩ := ob
  have sz := row_len row
  obtain ⟨t', od, e, hp, T', em, el, _, _⟩ := relaid_ok t (hs := es.map (·.1)) hw hM (by rw [Array.size_map, sz]; omega)
  rw [Array.size_map, sz] at hp
  obtain ⟨M', r1, r2, r3⟩ := row_order row hp
  rw [← r3] at T'
  have s2 : (od.filterMap (es[·]?)).size = es.size := by rw [row_len r1, r2.length_eq, sz]
  rw [setRelay_eq]
  refine wpAny_bind (m := setState a) (wpAny_setState_of at_ dt (fits_of row T fl) ?_)
  dsimp only
  rw [if_neg (by rw [sizeLine_eq]; omega)]
  try refine wpAny_bind (wpAny_pure ?_)
  rw [e]
  dsimp only
  refine wpAny_bind (wp_if_neg (by rw [s2]; simp) ?_)
  try refine wpAny_bind (wpAny_pure ?_)
  refine wpAny_pure ?_
  dsimp only
  refine wpAny_storeSet_of at_ dt ?_ (by rw [s2, sz, sizeLine_eq]; omega)
  have sb : Heap.SameBut a s.heap (s.heap.update a (Obj.putSet (od.filterMap (es[·]?)) t')) := Heap.SameBut.update ..
  refine q _ M' _ (ep + 1) t' sb ⟨at_new ex (store_at at_ dt), r1, T', (r2.map _).nodup_iff.mpr nd, fun p hp => tuK_but (tup p (r2.mem_iff.mp hp)) at_ dt sb, ?_, ?_, ?_⟩ r2
  · rw [el]
    exact ld
  · rw [r2.length_eq, em]
    exact hn
  · rw [r2.length_eq]
    exact few
theorem add_k {x : Addr} {k : List Key} (R : StK P w s.heap a L es ep t) (T : TuK P w s.heap k x) (hu : A.units < cLine) (hl : L.length + 1 < 64) {Q : Bool → Shared → Prop}
    (q : ∀ b h' L' es' ep' t', Heap.SameBut a s.heap h' → StK P w h' a L' es' ep' t' → (k ∈ keysK L → L' = L) → (k ∉ keysK L → L'.Perm ((x, k) :: L)) → Q b { s with heap := h' }) :
    wpAny (model P w) A (setAddHashed a (.ref x) (hK P w k)) Q E s := by
  obtain ⟨o, ex, at_, dt⟩ := R.at_
  have sz := row_len R.row
  have room := R.room
  unfold setAddHashed
  rw [show (100000 : Nat) = 99999 + 1 from rfl, setAddHashedIn_succ]
  refine wpAny_holding (wpAny_bind (m := setState a) (wpAny_setState_of at_ dt R.fit ?_))
  dsimp only
  rw [if_neg (by simp [byScan, Value.scannable])]
  try refine wpAny_bind (wpAny_pure ?_)
  refine wpAny_bind (search_k R T hu (fun m => ?_) fun K m h1 h2 => ?_)
  · dsimp only
    exact wpAny_pure (q false s.heap L es ep t (Heap.SameBut.refl a _) R (fun _ => rfl) fun n => absurd m n)
  · dsimp only
    refine wpAny_bind (m := setState a) (wpAny_setState_of at_ dt R.fit ?_)
    dsimp only
    obtain ⟨q1, q2, q3, q4, q5, q6, q7, q8, q9⟩ := R.tab.put h1 h2
    generalize t.put (way t.mask (hK P w k) K) = pt at q1 q3 q4 q5 q6 q7 q8 q9 ⊢
    obtain ⟨t1, j⟩ := pt
    dsimp only at q1 q3 q4 q5 q6 q7 q8 q9 ⊢
    subst q1
    generalize SetTable.below t.place (way t.mask (hK P w k) K) = i at q2 q3 ⊢
    have r1 : (SetTable.insertAt es i (hK P w k, Value.ref x)).toList = rowK P w (L.take i ++ (x, k) :: L.drop i) := by
      rw [SetTable.toList_insertAt, R.row]
      unfold rowK
      rw [List.map_append, List.map_cons, List.map_take, List.map_drop]
    have pm := in_perm L i (x, k)
    have hh : hashes P w (L.take i ++ (x, k) :: L.drop i) = (hashes P w L).take i ++ hK P w k :: (hashes P w L).drop i := by
      unfold hashes
      rw [List.map_append, List.map_cons, List.map_take, List.map_drop]
    rw [← hh] at q3
    rw [hashes_len] at q9
    generalize SetTable.insertAt es i (hK P w k, Value.ref x) = es1 at r1 ⊢
    generalize L.take i ++ (x, k) :: L.drop i = L1 at pm q3 r1
    have len := pm.length_eq
    rw [List.length_cons] at len
    have nd1 : (keysK L1).Nodup := by
      have z : (keysK L1).Perm (keysK ((x, k) :: L)) := by unfold keysK; exact pm.map _
      exact z.nodup_iff.mpr (List.nodup_cons.mpr ⟨m, R.one⟩)
    have sz1 := row_len r1
    have onward : ∀ b : Bool, ∀ t2 : SetTable, TabOk t2 (hashes P w L1) → t2.mask = t.mask → t2.led = t.led → t2.fill = L.length + 1 → wpAny (model P w) A (do
        storeSet a es1 t2
        if (!false && t2.tooFull) = true then do
          setRelay a (SetTable.grown (es.size + 1))
          pure true
        else pure true) Q E s := fun b t2 T2 em el ef => by
      refine wpAny_bind (wpAny_storeSet_of at_ dt ?_ (by rw [sz1, len, sizeLine_eq]; omega))
      have sb : Heap.SameBut a s.heap (s.heap.update a (Obj.putSet es1 t2)) := Heap.SameBut.update ..
      have at1 := store_at (es' := es1) (t' := t2) at_ dt
      generalize s.heap.update a (Obj.putSet es1 t2) = h1 at sb at1 ⊢
      have tup1 : ∀ p ∈ L1, TuK P w h1 p.2 p.1 := fun p hp => by
        rcases List.mem_cons.mp (pm.mem_iff.mp hp) with e | e
        · subst e
          exact tuK_but T at_ dt sb
        · exact tuK_but (R.tup p e) at_ dt sb
      have ld1 : w.params.followText "set-order" = true ∨ t2.led = true := by rw [el]; exact R.led
      have full : t2.tooFull = decide ((L.length + 1) * 5 ≥ t.mask * 3) := by
        unfold SetTable.tooFull
        rw [ef, em]
      by_cases c : (L.length + 1) * 5 ≥ t.mask * 3
      · rw [if_pos (by rw [full]; simpa using c), sz]
        have two : (t.mask = 7 ∧ L.length = 4) ∨ (t.mask = 31 ∧ L.length = 18) := by
          rcases R.tab.mok with e | e | e <;> rw [e] at c room
          · exact .inl ⟨e, by omega⟩
          · exact .inr ⟨e, by omega⟩
          · omega
        have fin : ∀ M, SetTable.sizeAbove (SetTable.grown (L.length + 1)) - 1 = M → MaskOk M → SetTable.sizeAbove (SetTable.grown (L.length + 1)) ≤ 128 → (L.length + 1) * 5 < M * 3 →
            wpAny (model P w) A (do
              setRelay a (SetTable.grown (L.length + 1))
              pure true) Q E { s with heap := h1 } := fun M b1 b2 b3 b4 => by
          refine wpAny_bind (relay_k (s := { s with heap := h1 }) (at_new ex at1) r1 T2 (by rw [em, len]; rcases two with ⟨e, e'⟩ | ⟨e, e'⟩ <;> omega) nd1 tup1 ld1 (by omega) b1 b2 b3 (by rw [len]; exact b4) ?_)
          intro h2 L2 es2 ep2 t3 sb2 R2 pm2
          exact wpAny_pure (q true h2 L2 es2 ep2 t3 (sb.trans sb2) R2 (fun z => absurd z m) fun _ => pm2.trans pm)
        rcases two with ⟨_, e⟩ | ⟨_, e⟩
        · exact fin 31 (by rw [e, size_20]) (.inr (.inl rfl)) (by rw [e, size_20]; decide) (by omega)
        · exact fin 127 (by rw [e, size_76]) (.inr (.inr rfl)) (by rw [e, size_76]; decide) (by omega)
      · rw [if_neg (by rw [full]; simpa using c)]
        exact wpAny_pure (q true h1 L1 es1 (ep + 1) t2 sb ⟨at_new ex at1, r1, T2, nd1, tup1, ld1, by rw [len, em]; omega, by omega⟩ (fun z => absurd z m) fun _ => pm)
    cases hpl : t1.plain with
    | true =>
      rw [if_pos rfl]
      refine wpAny_bind (someHash T fun c => ?_)
      cases c with
      | true => exact onward true t1 q3 q4 q5 q9
      | false => exact onward true _ (tab_plain q3 false) q4 q5 q9
    | false =>
      rw [if_neg Bool.false_ne_true]
      refine wpAny_bind (wpAny_pure ?_)
      exact onward true t1 q3 q4 q5 q9
end
end K1
set_option linter.all false
set_option maxRecDepth 100000
namespace K1
open PySem
/-! ### strict total orders, and what is ascending by them -/
structure Tot {α : Type} (lt : α → α → Bool) : Prop where
  irr : ∀ a, lt a a = false
  tr : ∀ a b c, lt a b = true → lt b c = true → lt a c = true
  tot : ∀ a b, lt a b = false → lt b a = false → a = b
section
variable {α : Type} {lt : α → α → Bool}
theorem Tot.asym (T : Tot lt) {a b : α} (h : lt a b = true) : lt b a = false := by
  cases e : lt b a with
  | false => rfl
  | true =>
    have z := T.tr a b a h e
    rw [T.irr] at z
    cases z
/-- at most -/
theorem Tot.le_lt (T : Tot lt) {a b c : α} (h : lt b a = false) (k : lt b c = true) : lt a c = true := by
  cases e : lt a b with
  | true => exact T.tr a b c e k
  | false =>
    have z := T.tot a b e h
    rw [z]
    exact k
theorem Tot.le_le (T : Tot lt) {a b c : α} (h : lt b a = false) (k : lt c b = false) : lt c a = false := by
  cases e : lt c a with
  | false => rfl
  | true =>
    have z := T.le_lt k e
    rw [h] at z
    cases z
/-- by the number of those below -/
def rank (lt : α → α → Bool) (L : List α) (x : α) : Nat := (L.filter fun y => lt y x).length
theorem filter_le {p q : α → Bool} : ∀ (L : List α), (∀ x ∈ L, p x = true → q x = true) → (L.filter p).length ≤ (L.filter q).length
  | [], _ => Nat.le_refl _
  | a :: r, h => by
    have ih := filter_le r fun x m => h x (.tail _ m)
    have ha := h a (.head _)
    rw [List.filter_cons, List.filter_cons]
    cases e : p a with
    | false =>
      cases q a with
      | false => simpa using ih
      | true => simp only [Bool.false_eq_true, if_false, if_true, List.length_cons]; omega
    | true =>
      rw [ha e]
      simp only [if_true, List.length_cons]
      omega
theorem filter_lt {p q : α → Bool} : ∀ (L : List α), (∀ x ∈ L, p x = true → q x = true) → (∃ x ∈ L, p x = false ∧ q x = true) → (L.filter p).length < (L.filter q).length
  | [], _, h => by
    obtain ⟨x, m, _⟩ := h
    cases m
  | a :: r, h, k => by
    have le := filter_le r fun x m => h x (.tail _ m)
    have ha := h a (.head _)
    rw [List.filter_cons, List.filter_cons]
    obtain ⟨x, m, h1, h2⟩ := k
    cases m with
    | head =>
      rw [h1, h2]
      simp only [Bool.false_eq_true, if_false, if_true, List.length_cons]
      omega
    | tail _ m =>
      have ih := filter_lt r (fun x m => h x (.tail _ m)) ⟨x, m, h1, h2⟩
      cases e : p a with
      | false =>
        cases q a with
        | false => simpa using ih
        | true => simp only [Bool.false_eq_true, if_false, if_true, List.length_cons]; omega
      | true =>
        rw [ha e]
        simp only [if_true, List.length_cons]
        omega
theorem rank_lt (T : Tot lt) {L : List α} {x : α} (m : x ∈ L) (y : α) : lt x y = decide (rank lt L x < rank lt L y) := by
  cases e : lt x y with
  | true => exact (decide_eq_true (filter_lt L (fun z _ h => T.tr z x y h e) ⟨x, m, T.irr x, e⟩)).symm
  | false =>
    refine (decide_eq_false ?_).symm
    have z := filter_le (p := fun z => lt z y) (q := fun z => lt z x) L fun z _ h => by
      cases c : lt z x with
      | true => rfl
      | false =>
        have w := T.le_le e c
        rw [h] at w
        cases w
    unfold rank
    omega
/-! ### ascending lists -/
def Asc1 (lt : α → α → Bool) (L : List α) : Prop := L.Pairwise fun a b => lt a b = true
theorem asc_same (T : Tot lt) : ∀ {L M : List α}, Asc1 lt L → Asc1 lt M → (∀ x, x ∈ L ↔ x ∈ M) → L = M
  | [], [], _, _, _ => rfl
  | [], b :: M, _, _, h => absurd ((h b).mpr (.head _)) (by simp)
  | a :: L, [], _, _, h => absurd ((h a).mp (.head _)) (by simp)
  | a :: L, b :: M, hL, hM, h => by
    obtain ⟨l1, l2⟩ := List.pairwise_cons.mp hL
    obtain ⟨m1, m2⟩ := List.pairwise_cons.mp hM
    have e : a = b := by
      rcases List.mem_cons.mp ((h a).mp (.head _)) with z | z
      · exact z
      · rcases List.mem_cons.mp ((h b).mpr (.head _)) with w | w
        · exact w.symm
        · have u := T.asym (m1 a z)
          rw [l1 b w] at u
          cases u
    subst e
    rw [asc_same T l2 m2 fun x => ?_]
    have z := h x
    constructor
    · intro m
      rcases List.mem_cons.mp (z.mp (.tail _ m)) with w | w
      · subst w
        have u := l1 x m
        rw [T.irr] at u
        cases u
      · exact w
    · intro m
      rcases List.mem_cons.mp (z.mpr (.tail _ m)) with w | w
      · subst w
        have u := m1 x m
        rw [T.irr] at u
        cases u
      · exact w
theorem asc_nodup (T : Tot lt) {L : List α} (h : Asc1 lt L) : L.Nodup := List.Pairwise.imp (fun {a b} q e => by
  subst e
  rw [T.irr] at q
  cases q) h
/-- put in its place, if it isn't there -/
def ins1 (lt : α → α → Bool) (x : α) : List α → List α
  | [] => [x]
  | y :: r => if lt x y = true then x :: y :: r else if lt y x = true then y :: ins1 lt x r else y :: r
def asc (lt : α → α → Bool) : List α → List α
  | [] => []
  | x :: r => ins1 lt x (asc lt r)
theorem mem_ins1 (T : Tot lt) {x z : α} : ∀ {L : List α}, z ∈ ins1 lt x L ↔ z = x ∨ z ∈ L
  | [] => by simp [ins1]
  | y :: r => by
    have ih := mem_ins1 T (x := x) (z := z) (L := r)
    unfold ins1
    split
    · simp
    · rename_i c
      split
      · rw [List.mem_cons, ih, List.mem_cons]
        constructor
        · rintro (h | h | h)
          · exact .inr (.inl h)
          · exact .inl h
          · exact .inr (.inr h)
        · rintro (h | h | h)
          · exact .inr (.inl h)
          · exact .inl h
          · exact .inr (.inr h)
      · rename_i d
        have e := T.tot x y (by simpa using c) (by simpa using d)
        subst e
        simp
theorem asc_ins1 (T : Tot lt) {x : α} : ∀ {L : List α}, Asc1 lt L → Asc1 lt (ins1 lt x L)
  | [], _ => List.pairwise_singleton _ _
  | y :: r, h => by
    obtain ⟨h1, h2⟩ := List.pairwise_cons.mp h
    unfold ins1
    split
    · rename_i c
      refine List.pairwise_cons.mpr ⟨fun z m => ?_, h⟩
      rcases List.mem_cons.mp m with e | e
      · rw [e]; exact c
      · exact T.tr x y z c (h1 z e)
    · split
      · rename_i d
        refine List.pairwise_cons.mpr ⟨fun z m => ?_, asc_ins1 T h2⟩
        rcases (mem_ins1 T).mp m with e | e
        · rw [e]; exact d
        · exact h1 z e
      · exact h
theorem asc_asc (T : Tot lt) : ∀ L : List α, Asc1 lt (asc lt L)
  | [] => .nil
  | _ :: r => asc_ins1 T (asc_asc T r)
theorem mem_asc (T : Tot lt) {z : α} : ∀ {L : List α}, z ∈ asc lt L ↔ z ∈ L
  | [] => Iff.rfl
  | x :: r => by
    show z ∈ ins1 lt x (asc lt r) ↔ _
    rw [mem_ins1 T, mem_asc T, List.mem_cons]
theorem asc_of (T : Tot lt) {L M : List α} (h : Asc1 lt M) (m : ∀ x, x ∈ M ↔ x ∈ L) : M = asc lt L := asc_same T h (asc_asc T L) fun x => (m x).trans (mem_asc T).symm
theorem asc_id (T : Tot lt) {L : List α} (h : Asc1 lt L) : asc lt L = L := (asc_of T h fun _ => Iff.rfl).symm
theorem asc_mem (T : Tot lt) {L M : List α} (h : ∀ x, x ∈ L ↔ x ∈ M) : asc lt L = asc lt M := asc_of T (asc_asc T L) fun x => (mem_asc T).trans (h x)
theorem asc_perm (T : Tot lt) {L : List α} (nd : L.Nodup) : (asc lt L).Perm L := (List.perm_ext_iff_of_nodup (asc_nodup T (asc_asc T L)) nd).mpr fun _ => mem_asc T
theorem asc_len (T : Tot lt) {L : List α} (nd : L.Nodup) : (asc lt L).length = L.length := (asc_perm T nd).length_eq
end
/-! ### texts -/
def ltS (x y : Str) : Bool := decide (x.cps.toList < y.cps.toList)
theorem cps_inj {x y : Str} (h : x.cps.toList = y.cps.toList) : x = y := by
  obtain ⟨⟨x⟩⟩ := x
  obtain ⟨⟨y⟩⟩ := y
  exact congrArg (fun z : List Nat => Str.mk ⟨z⟩) h
theorem tot_ltS : Tot ltS where
  irr a := decide_eq_false (List.lt_irrefl _)
  tr a b c h k := decide_eq_true (List.lt_trans (of_decide_eq_true h) (of_decide_eq_true k))
  tot a b h k := cps_inj (List.le_antisymm (List.not_lt.mp (of_decide_eq_false k)) (List.not_lt.mp (of_decide_eq_false h)))
/-! ### lists by the order of their items -/
section
variable {α : Type} [DecidableEq α] {lt : α → α → Bool}
def lexL (lt : α → α → Bool) : List α → List α → Bool
  | [], [] => false
  | [], _ :: _ => true
  | _ :: _, [] => false
  | x :: r, y :: q => if x = y then lexL lt r q else lt x y
theorem lexL_cons {x y : α} {r q : List α} : lexL lt (x :: r) (y :: q) = if x = y then lexL lt r q else lt x y := rfl
theorem tot_lex (T : Tot lt) : Tot (lexL lt) where
  irr a := by
    induction a with
    | nil => rfl
    | cons x r ih => rw [lexL_cons, if_pos rfl]; exact ih
  tr a b c h k := by
    induction a generalizing b c with
    | nil =>
      cases b with
      | nil => exact k
      | cons y q =>
        cases c with
        | nil => cases k
        | cons z s => rfl
    | cons x r ih =>
      cases b with
      | nil => cases h
      | cons y q =>
        cases c with
        | nil => cases k
        | cons z s =>
          rw [lexL_cons] at h k ⊢
          by_cases e : x = y
          · subst e
            rw [if_pos rfl] at h
            by_cases e' : x = z
            · rw [if_pos e'] at k ⊢
              exact ih _ _ h k
            · rw [if_neg e'] at k ⊢
              exact k
          · rw [if_neg e] at h
            by_cases e' : y = z
            · subst e'
              rw [if_neg e]
              exact h
            · rw [if_neg e'] at k
              have t := T.tr x y z h k
              by_cases e2 : x = z
              · subst e2
                rw [T.irr] at t
                cases t
              · rw [if_neg e2]
                exact t
  tot a b h k := by
    induction a generalizing b with
    | nil =>
      cases b with
      | nil => rfl
      | cons y q => cases h
    | cons x r ih =>
      cases b with
      | nil => cases k
      | cons y q =>
        rw [lexL_cons] at h k
        by_cases e : x = y
        · subst e
          rw [if_pos rfl] at h k
          rw [ih _ h k]
        · rw [if_neg e] at h
          rw [if_neg (fun z => e z.symm)] at k
          exact absurd (T.tot x y h k) e
end
end K1
set_option linter.all false
set_option maxRecDepth 100000
set_option maxHeartbeats 3200000
/-! set(x), x a list or a tuple, whatever the set is said to be -/
namespace K1
open PySem PySem.Spec PyProof.Rows L2
section
variable {P : Program} {w : World} {A : Around} {E : Value → Shared → Prop} {s : Shared}
theorem fill_gen {R : Result → Shared → Prop} {I T : Addr} {fp wr : List Addr} {G : Array GenState → Array GenState → Prop} {n : Nat} {Pv : Nat → Value → Prop} {St : Nat → Shared → Prop} (W : WalksS P w A.in1 I fp wr G n Pv St) (nT : T ∉ fp) {S : Nat → Heap → Prop}
    (fr : ∀ i h h', S i h → (∀ b o, b ∉ wr → h.get? b = some o → h'.get? b = some o) → S i h')
    (add : ∀ (s : Shared) (i : Nat) (v : Value) (Q : Bool → Shared → Prop) (E : Value → Shared → Prop), i < n → Pv i v → S i s.heap → (∀ b h' tk, s.toks ≤ tk → Heap.SameBut T s.heap h' → S (i + 1) h' → Q b { s with heap := h', toks := tk }) → wpAny (model P w) A.in1 (setAdd T v) Q E s) :
    ∀ (j i : Nat) (s : Shared), i + j = n → St i s → S i s.heap → (∀ s', Moved (T :: wr) G s s' → S n s'.heap → R (.ok (.ret .none)) s') → codeAny (model P w) A (.builtin "set.update.loop" ⟨[.ref T, .ref I], []⟩) R s := by
  have wT : T ∉ wr := fun z => nT (W.sub _ z)
  have wide : ∀ b ∈ wr, b ∈ T :: wr := fun b z => .tail _ z
  intro j
  induction j with
  | zero =>
    intro i s e st hS k
    obtain rfl : i = n := by omega
    refine codeAny_builtin PyProof.Rows.F.entry_set_update_loop ?_
    rw [Around.under_plainId PyProof.Rows.F.plain_set_update_loop]
    refine wpAny_bind (m := pyNext (.ref I)) (W.done s _ _ st fun s' mv => wpAny_pure (k s' (mv.mono wide) (fr _ _ _ hS fun b o hb e => mv.heap b o hb e)))
  | succ j ih =>
    intro i s e st hS k
    refine codeAny_builtin PyProof.Rows.F.entry_set_update_loop ?_
    rw [Around.under_plainId PyProof.Rows.F.plain_set_update_loop]
    refine wpAny_bind (m := pyNext (.ref I)) (W.item i s _ _ (by omega) st fun v s' pv st' mv => ?_)
    show wpAny _ A.in1 (holding [v] (setAdd T v) >>= _) _ _ s'
    refine wpAny_bind (wpAny_holding (add s' i v _ _ (by omega) pv (fr _ _ _ hS fun b o hb e => mv.heap b o hb e) fun b h2 tk le sb hS2 => ?_))
    refine wpAny_pure ⟨plainId_quiet PyProof.Rows.F.plain_set_update_loop _, ih (i + 1) _ (by omega) (W.frame _ s' _ _ st' le fun b hb o q => ?_) hS2 fun s2 mv2 hS3 => k s2 (Moved.trans W.gtrans ((mv.mono wide).then_heap le fun b o hb q => ?_) mv2) hS3⟩
    · exact (sb.2 b fun z => nT (z ▸ hb)).trans q
    · exact (sb.2 b fun z => hb (z ▸ .head _)).trans q
abbrev setW (w : World) : Obj := { cls := .type "set", dict := none, data := .set #[] 0 (.fresh 0 0 (!w.params.followText "set-order")) }
theorem call_setG {v : Value} {R : Heap → Prop} {Q : Value → Shared → Prop}
    (up : ∀ (A' : Around) (Q' : Unit → Shared → Prop) (E' : Value → Shared → Prop), A'.handled = A.handled → A'.units ≤ A.units + 2 → (∀ h' tk, R h' → (∀ b o, b < s.heap.objs.size → s.heap.get? b = some o → h'.get? b = some o) → Q' () { s with heap := h', toks := tk }) →
      wpAny (model P w) A' (Builtin.Frozenset.updateFrom "set.__init__" s.heap.objs.size v) Q' E' { s with heap := s.heap.push (setW w) })
    (k : ∀ h' tk, R h' → (∀ b o, b < s.heap.objs.size → s.heap.get? b = some o → h'.get? b = some o) → Q (.ref s.heap.objs.size) { s with heap := h', toks := tk }) :
    wpAny (model P w) A (call (.type "set") [v]) Q E s := by
  have ⟨mc, ml, mro⟩ := PySem.F.called_set.mro
  have m1 := PySem.F.called_set.made
  have m2 := PySem.F.called_set.sub
  have m3 := PySem.F.called_set.notType
  have m4 := PySem.F.called_set.canCreate
  have m5 := PySem.F.typeCall_set_1 v
  refine wpAny_call (codeAny_of_tree (show wpAny _ _ (callAny (.type "set") _) _ _ _ from wpAny_pure ⟨Code.quiet_builtin _ (by decide +kernel), codeAny_builtin PySem.F.entry_type_call ?_⟩))
  rw [Around.under_plain (weight_type_call_type "set" [v] []) rfl]
  repeat any_goals (first | wp_step | assumption)
  refine codeAny_mono (code_set_led1 v (E := E) (Q₁ := fun u t => u = .ref s.heap.objs.size ∧ t = { s with heap := s.heap.push (setW w) }) ⟨rfl, rfl⟩) fun r t hr => ?_
  match r, hr with
  | .error e, hr => exact hr
  | .ok (.ret u), hr =>
    obtain ⟨rfl, rfl⟩ := hr
    have at_ : (s.heap.push (setW w)).get? s.heap.objs.size = some (setW w) := Heap.get?_push_size _ rfl
    have ty : Shared.TypeIs { s with heap := s.heap.push (setW w) } (.ref s.heap.objs.size) "set" := ⟨_, at_, rfl⟩
    have i1 := PySem.F.called_set.init.lookup
    have i2 := PySem.F.called_set.init.bind (.ref s.heap.objs.size)
    repeat any_goals (first | wp_step | assumption)
    refine codeAny_mono (codeAny_call_builtin (R := wants (fun r t => r = .none ∧ ∃ h' tk, t = { s with heap := h', toks := tk } ∧ R h' ∧ ∀ b o, b < s.heap.objs.size → s.heap.get? b = some o → h'.get? b = some o) E)
      PySem.F.called_set.init.plain PySem.F.entry_set_init (check_set_init_1 ty ?_)) fun r2 t2 hr2 => ?_
    · unfold Builtin.«set.__init__» noKeywords
      generalize Builtin.Frozenset.updateFrom "set.__init__" = U at up ⊢
      wp_walk
      refine up _ _ _ ?_ ?_ fun h' tk hR kp => ?_
      · first | rfl | simp
      · first | exact Nat.le_refl _ | (simp only [Around.in1]; omega) | (show _ ≤ _; omega)
      · show wpAny _ _ (ret Value.none) _ _ _
        exact wpAny_pure ⟨rfl, h', tk, rfl, hR, kp⟩
    · match r2, hr2 with
      | .error e, hr2 => exact hr2
      | .ok (.ret u), hr2 =>
        obtain ⟨rfl, h', tk, rfl, hR, kp⟩ := hr2
        repeat any_goals (first | wp_step | assumption)
        exact k _ _ hR kp
      | .ok .next, hr2 => exact hr2.elim
      | .ok .brk, hr2 => exact hr2.elim
      | .ok .cont, hr2 => exact hr2.elim
  | .ok .next, hr => exact hr.elim
  | .ok .brk, hr => exact hr.elim
  | .ok .cont, hr => exact hr.elim
end
end K1
set_option linter.all false
set_option maxRecDepth 100000
set_option maxHeartbeats 3200000
namespace K1
open PySem PySem.Spec PyProof.Rows L2
section
variable {P : Program} {w : World} {A : Around} {E : Value → Shared → Prop} {s : Shared}
/-- what the set is said to be holds while what is older, and it, stands -/
def Firm (N : Nat) (S : Nat → Heap → Prop) : Prop := ∀ i h h', S i h → (∀ b o, b < N → h.get? b = some o → h'.get? b = some o) → S i h'
/-- adding the items one by one -/
def Adds (P : Program) (w : World) (u : Nat) (T : Addr) (n : Nat) (Pv : Nat → Value → Prop) (S : Nat → Heap → Prop) : Prop :=
  ∀ (A : Around) (s : Shared) (i : Nat) (v : Value) (Q : Bool → Shared → Prop) (E : Value → Shared → Prop), A.units ≤ u → i < n → Pv i v → S i s.heap → (∀ b h' tk, s.toks ≤ tk → Heap.SameBut T s.heap h' → S (i + 1) h' → Q b { s with heap := h', toks := tk }) → wpAny (model P w) A (setAdd T v) Q E s
theorem up_list {l : Addr} {items : Array Value} {S : Nat → Heap → Prop} {Q : Unit → Shared → Prop} (hh : A.handled = none) (hl : s.heap.IsList l items) (h0 : S 0 (s.heap.push (setW w))) (fr : Firm (s.heap.objs.size + 1) S)
    (ad : Adds P w (A.units + 2) s.heap.objs.size items.size (fun i v => items[i]? = some v) S)
    (k : ∀ h' tk, S items.size h' → (∀ b o, b < s.heap.objs.size → s.heap.get? b = some o → h'.get? b = some o) → Q () { s with heap := h', toks := tk }) :
    wpAny (model P w) A (Builtin.Frozenset.updateFrom "set.__init__" s.heap.objs.size (.ref l)) Q E { s with heap := s.heap.push (setW w) } := by
  obtain ⟨ol, at_l, cl, nl, dl⟩ := hl
  obtain ⟨ocls, od, odat, osl⟩ := ol
  dsimp only at cl dl
  subst cl dl
  have lz : l < s.heap.objs.size := Heap.lt_size at_l
  have up : (s.heap.push (setW w)).get? l = some ⟨.type "list", od, .seq items nl, osl⟩ := Heap.get?_push_of_some _ at_l
  have b1 := PySem.F.sub_list_set
  have b2 := PySem.F.sub_list_frozenset
  have b3 : (Value.type "list" == Value.type "dict") = false := by decide
  have il : (s.heap.push (setW w)).IsList l items := ⟨_, up, rfl, nl, rfl⟩
  unfold Builtin.Frozenset.updateFrom
  generalize hPI : pyIter = PI
  wp_walk
  subst hPI
  refine wpAny_pyIter_list il (wpAny_bind (wpAny_runValue ?_))
  have hz : (s.heap.push (setW w)).objs.size = s.heap.objs.size + 1 := Heap.size_push ..
  have ni : l ≠ (s.heap.push (setW w)).objs.size := Nat.ne_of_lt (by rw [hz]; exact Nat.lt_succ_of_lt lz)
  have nT : s.heap.objs.size ∉ [(s.heap.push (setW w)).objs.size, l] := by
    simp only [List.mem_cons, List.not_mem_nil, or_false]
    rintro (e | e)
    · exact Nat.ne_of_lt (by rw [hz]; exact Nat.lt_succ_self _) e
    · exact Nat.ne_of_gt lz e
  have frr : ∀ i h h', S i h → (∀ b o, b ∉ [(s.heap.push (setW w)).objs.size] → h.get? b = some o → h'.get? b = some o) → S i h' := fun i h h' a b => fr i h h' a fun c o hc e => b c o (by rw [hz, List.mem_singleton]; omega) e
  refine fill_gen (S := S) ((Walks.list (show A.in1.handled = none by simp [hh]) _ l ni items).toS) nT frr (fun s i v Q E hi pv hS kk => ad _ s i v Q E (by show A.units + 1 ≤ A.units + 2; omega) hi pv hS kk) items.size 0 _ (by omega) ?_ ?_ fun s' mv hS => ?_
  · exact ⟨⟨_, Heap.get?_push_size _ rfl, rfl, rfl⟩, il.push _⟩
  · exact fr _ _ _ h0 fun b o _ e => Heap.get?_push_of_some _ e
  obtain ⟨h', g', d', tk, os⟩ := s'
  obtain rfl : g' = s.gens := mv.gens
  obtain rfl : d' = s.drawn := mv.drawn
  obtain rfl : os = s.os := mv.os
  show wpAny _ _ _ _ _ _
  refine wpAny_pure (k h' tk hS fun b o hb e => mv.heap b o ?_ (Heap.get?_push_of_some _ (Heap.get?_push_of_some _ e)))
  simp only [List.mem_cons, List.not_mem_nil, or_false]
  rintro (e | e)
  · exact Nat.ne_of_lt hb e
  · exact Nat.ne_of_lt (by rw [hz]; exact Nat.lt_succ_of_lt hb) e
theorem up_tup {l : Addr} {items : Array Value} {S : Nat → Heap → Prop} {Q : Unit → Shared → Prop} (hh : A.handled = none) (hl : s.heap.IsTuple l items) (h0 : S 0 (s.heap.push (setW w))) (fr : Firm (s.heap.objs.size + 1) S)
    (ad : Adds P w (A.units + 2) s.heap.objs.size items.size (fun i v => items[i]? = some v) S)
    (k : ∀ h' tk, S items.size h' → (∀ b o, b < s.heap.objs.size → s.heap.get? b = some o → h'.get? b = some o) → Q () { s with heap := h', toks := tk }) :
    wpAny (model P w) A (Builtin.Frozenset.updateFrom "set.__init__" s.heap.objs.size (.ref l)) Q E { s with heap := s.heap.push (setW w) } := by
  obtain ⟨ol, at_l, cl, nl, dl⟩ := hl
  obtain ⟨ocls, od, odat, osl⟩ := ol
  dsimp only at cl dl
  subst cl dl
  have lz : l < s.heap.objs.size := Heap.lt_size at_l
  have up : (s.heap.push (setW w)).get? l = some ⟨.type "tuple", od, .seq items nl, osl⟩ := Heap.get?_push_of_some _ at_l
  have b1 := PySem.F.sub_tuple_set
  have b2 := PySem.F.sub_tuple_frozenset
  have b3 : (Value.type "tuple" == Value.type "dict") = false := by decide
  have il : (s.heap.push (setW w)).IsTuple l items := ⟨_, up, rfl, nl, rfl⟩
  unfold Builtin.Frozenset.updateFrom
  generalize hPI : pyIter = PI
  wp_walk
  subst hPI
  refine wpAny_pyIter_tuple il (wpAny_bind (wpAny_runValue ?_))
  have hz : (s.heap.push (setW w)).objs.size = s.heap.objs.size + 1 := Heap.size_push ..
  have ni : l ≠ (s.heap.push (setW w)).objs.size := Nat.ne_of_lt (by rw [hz]; exact Nat.lt_succ_of_lt lz)
  have nT : s.heap.objs.size ∉ [(s.heap.push (setW w)).objs.size, l] := by
    simp only [List.mem_cons, List.not_mem_nil, or_false]
    rintro (e | e)
    · exact Nat.ne_of_lt (by rw [hz]; exact Nat.lt_succ_self _) e
    · exact Nat.ne_of_gt lz e
  have frr : ∀ i h h', S i h → (∀ b o, b ∉ [(s.heap.push (setW w)).objs.size] → h.get? b = some o → h'.get? b = some o) → S i h' := fun i h h' a b => fr i h h' a fun c o hc e => b c o (by rw [hz, List.mem_singleton]; omega) e
  refine fill_gen (S := S) ((Walks.tuple (show A.in1.handled = none by simp [hh]) _ l ni items).toS) nT frr (fun s i v Q E hi pv hS kk => ad _ s i v Q E (by show A.units + 1 ≤ A.units + 2; omega) hi pv hS kk) items.size 0 _ (by omega) ?_ ?_ fun s' mv hS => ?_
  · exact ⟨⟨_, Heap.get?_push_size _ rfl, rfl, rfl⟩, il.push _⟩
  · exact fr _ _ _ h0 fun b o _ e => Heap.get?_push_of_some _ e
  obtain ⟨h', g', d', tk, os⟩ := s'
  obtain rfl : g' = s.gens := mv.gens
  obtain rfl : d' = s.drawn := mv.drawn
  obtain rfl : os = s.os := mv.os
  show wpAny _ _ _ _ _ _
  refine wpAny_pure (k h' tk hS fun b o hb e => mv.heap b o ?_ (Heap.get?_push_of_some _ (Heap.get?_push_of_some _ e)))
  simp only [List.mem_cons, List.not_mem_nil, or_false]
  rintro (e | e)
  · exact Nat.ne_of_lt hb e
  · exact Nat.ne_of_lt (by rw [hz]; exact Nat.lt_succ_of_lt hb) e
/-- set(xs), a list or a tuple -/
theorem set_of {l : Addr} {items : Array Value} {S : Nat → Heap → Prop} {Q : Value → Shared → Prop} (hh : A.handled = none) (hl : s.heap.IsList l items ∨ s.heap.IsTuple l items) (h0 : S 0 (s.heap.push (setW w))) (fr : Firm (s.heap.objs.size + 1) S)
    (ad : Adds P w (A.units + 4) s.heap.objs.size items.size (fun i v => items[i]? = some v) S)
    (k : ∀ h' tk, S items.size h' → (∀ b o, b < s.heap.objs.size → s.heap.get? b = some o → h'.get? b = some o) → Q (.ref s.heap.objs.size) { s with heap := h', toks := tk }) :
    wpAny (model P w) A (call (.type "set") [.ref l]) Q E s := by
  refine call_setG (R := S items.size) (fun A' Q' E' ha hu kk => ?_) k
  have ad' : Adds P w (A'.units + 2) s.heap.objs.size items.size (fun i v => items[i]? = some v) S := fun B s i v Q E hb => ad B s i v Q E (by omega)
  rcases hl with hl | hl
  · exact up_list (ha.trans hh) hl h0 fr ad' kk
  · exact up_tup (ha.trans hh) hl h0 fr ad' kk
end
end K1
set_option linter.all false
set_option maxRecDepth 100000
set_option maxHeartbeats 3200000
/-! sets of ints and texts, to the model's exactness: made of a list, a tuple or a dict; their len; sorted -/
namespace K1
open PySem PySem.Spec PyProof.Rows L2
def kOf : Value → Key
  | .int i _ => .inl i
  | .str x _ => .inr x
  | _ => .inl 0
theorem kOf_rel {k : Key} {v : Value} (r : RelV (kV k) v) : kOf v = k := by
  cases k with
  | inl i =>
    obtain ⟨t, rfl⟩ := r
    rfl
  | inr x =>
    obtain ⟨t, rfl⟩ := r
    rfl
theorem kOf_is {k : Key} {v : Value} (h : keyIs k v = true) : kOf v = k ∧ v.scannable = true := by
  rcases keyIs_shape h with ⟨i, t, rfl, rfl⟩ | ⟨x, t, rfl, rfl⟩ <;> exact ⟨rfl, rfl⟩
def FineE (w : World) (e : Int × Value) : Prop := keyIs (kOf e.2) e.2 = true ∧ e.1 = keyH w (kOf e.2)
/-- the set at a has just these keys, each once -/
structure SX0 (w : World) (h : Heap) (a : Addr) (ks : List Key) (es : Array (Int × Value)) (ep : Nat) (t : SetTable) : Prop where
  at_ : ∃ o, o.ExactSet ∧ h.get? a = some o ∧ o.data = .set es ep t
  fine : ∀ e ∈ es.toList, FineE w e
  perm : (es.toList.map fun e => kOf e.2).Perm ks
  one : ks.Nodup
  few : ks.length < 4000
  fit : t.fits es.size = true
  ris : Ris t.place.toList
  led : w.params.followText "set-order" = true ∨ t.led = true
def SX (w : World) (h : Heap) (a : Addr) (ks : List Key) : Prop := ∃ es ep t, SX0 w h a ks es ep t
theorem at_set {h : Heap} {a : Addr} {o : Obj} {es : Array (Int × Value)} {ep : Nat} {t : SetTable} (ex : o.ExactSet) (e : h.get? a = some { o with data := .set es ep t }) : ∃ o', o'.ExactSet ∧ h.get? a = some o' ∧ o'.data = .set es ep t :=
  ⟨{ o with data := .set es ep t }, ⟨ex.1, ex.2.1, ex.2.2⟩, e, rfl⟩
section
variable {P : Program} {w : World} {A : Around} {E : Value → Shared → Prop} {s : Shared} {a : Addr} {ks : List Key} {es : Array (Int × Value)} {ep : Nat} {t : SetTable}
theorem SX.at {h h' : Heap} (x : SX w h a ks) (k : ∀ o, h.get? a = some o → h'.get? a = some o) : SX w h' a ks := by
  obtain ⟨es, ep, t, x⟩ := x
  obtain ⟨o, x1, x2, x3⟩ := x.at_
  exact ⟨es, ep, t, ⟨⟨o, x1, k o x2, x3⟩, x.fine, x.perm, x.one, x.few, x.fit, x.ris, x.led⟩⟩
theorem SX0.size (x : SX0 w s.heap a ks es ep t) : es.size = ks.length := by
  have z := x.perm.length_eq
  rw [List.length_map, Array.length_toList] at z
  exact z
theorem SX0.elems (x : SX0 w s.heap a ks es ep t) : ElemsOf (mixKind P w) es.toList := fun e he => ⟨⟨kOf e.2, (x.fine e he).1, (x.fine e he).2⟩, (kOf_is (x.fine e he).1).2⟩
theorem SX0.bound (x : SX0 w s.heap a ks es ep t) : es.size < scanBound := by
  rw [x.size]
  have := x.few
  unfold scanBound
  omega
open Classical in
theorem SX0.setOf (x : SX0 w s.heap a ks es ep t) : s.heap.SetOf (mixKind P w) a (fun k => decide (k ∈ ks)) ks.length := by
  obtain ⟨o, x1, x2, x3⟩ := x.at_
  refine ⟨o, es, ep, t, x2, x1, x3, x.elems, fun k => ?_, x.bound, x.fit, x.size⟩
  rw [decide_eq_true_eq, ← x.perm.mem_iff, List.mem_map]
  constructor
  · rintro ⟨e, he, rfl⟩
    exact ⟨e, he, (x.fine e he).1⟩
  · rintro ⟨e, he, hk⟩
    exact ⟨e, he, (kOf_is hk).1⟩
open Classical in
noncomputable def addK (k : Key) (ks : List Key) : List Key := if k ∈ ks then ks else k :: ks
theorem mem_addK {k j : Key} {ks : List Key} : j ∈ addK k ks ↔ j = k ∨ j ∈ ks := by
  unfold addK
  split
  · rename_i c
    exact ⟨.inr, fun h => h.elim (fun e => e ▸ c) id⟩
  · exact List.mem_cons
theorem len_addK (k : Key) (ks : List Key) : (addK k ks).length ≤ ks.length + 1 := by
  unfold addK
  split
  · omega
  · exact Nat.le_refl _
theorem tail_x {g : Bool → Sem Unit} (hg : ∀ (b : Bool) (s' : Shared) (Q' : Unit → Shared → Prop), Q' () s' → wpAny (model P w) A (g b) Q' E s') {o : Obj} (ex : o.ExactSet) (at_ : s.heap.get? a = some o) (dt : o.data = .set es ep t)
    {es1 : Array (Int × Value)} {t2 : SetTable} {k1 : List Key} (fine : ∀ e ∈ es1.toList, FineE w e) (pm : (es1.toList.map fun e => kOf e.2).Perm k1) (nd : k1.Nodup) (few : k1.length < 4000) (fit : t2.fits es1.size = true) (ris : Ris t2.place.toList)
    (led : w.params.followText "set-order" = true ∨ t2.led = true) {wd : Bool} {R : Option Bool → Shared → Prop} (q : ∀ h', Heap.SameBut a s.heap h' → SX w h' a k1 → R (some true) { s with heap := h' }) :
    wpAny (model P w) A (do
        storeSet a es1 t2
        if (!wd && t2.tooFull) = true then do
            g (relayAll t2 es1 (SetTable.grown es1.size)).2.2
            storeSet a (relayAll t2 es1 (SetTable.grown es1.size)).1 (relayAll t2 es1 (SetTable.grown es1.size)).2.1
            pure (some true)
          else pure (some true)) R E s := by
  have sz : es1.size < scanBound := by
    have z := pm.length_eq
    rw [List.length_map, Array.length_toList] at z
    rw [z]
    unfold scanBound
    omega
  refine wpAny_bind (wpAny_storeSet_of at_ dt ?_ (fits_of_scanBound sz))
  have at1 := store_at (es' := es1) (t' := t2) at_ dt
  have sb1 := Heap.SameBut.update s.heap a (Obj.putSet es1 t2)
  have ex1 : Obj.ExactSet { o with data := .set es1 (ep + 1) t2 } := ⟨ex.1, ex.2.1, ex.2.2⟩
  split
  · have p2 := relayAll_perm t2 es1 (SetTable.grown es1.size)
    have f2 := relayAll_fits t2 es1 (SetTable.grown es1.size)
    have r2 := relayAll_ris t2 es1 (SetTable.grown es1.size)
    have l2 := relayAll_led t2 es1 (SetTable.grown es1.size)
    generalize relayAll t2 es1 (SetTable.grown es1.size) = Z at p2 f2 r2 l2 ⊢
    obtain ⟨es2, t3, gv⟩ := Z
    dsimp only at p2 f2 r2 l2 ⊢
    have s2 : es2.size = es1.size := by rw [← Array.length_toList, p2.length_eq, Array.length_toList]
    refine wpAny_bind (hg _ _ _ (wpAny_bind (wpAny_storeSet_of at1 rfl ?_ (fits_of_scanBound (by rw [s2]; exact sz)))))
    have at2 := store_at (es' := es2) (t' := t3) at1 rfl
    refine wpAny_pure (q _ (sb1.trans (Heap.SameBut.update _ a _)) ⟨es2, _, t3, ⟨at_set (o := o) ex at2, fun e he => fine e (p2.mem_iff.mp he), (p2.map _).trans pm, nd, few, f2, r2, ?_⟩⟩)
    rw [l2]
    exact led
  · exact wpAny_pure (q _ sb1 ⟨es1, _, t2, ⟨at_set ex at1, fine, pm, nd, few, fit, ris, led⟩⟩)
theorem add_x {k : Key} {v : Value} {Q : Bool → Shared → Prop} (x : SX w s.heap a ks) (rv : RelV (kV k) v) (room : ks.length + 1 < 4000)
    (q : ∀ b h', Heap.SameBut a s.heap h' → SX w h' a (addK k ks) → Q b { s with heap := h' }) : wpAny (model P w) A (setAddHashed a v (keyH w k)) Q E s := by
  obtain ⟨es, ep, t, x⟩ := x
  obtain ⟨o, ex, at_, dt⟩ := x.at_
  have is_ : (mixKind P w).is k v = true := kV_is rv
  have sc : v.scannable = true := key_scan rv
  have kv := kOf_rel rv
  unfold setAddHashed setAddHashedIn
  refine wpAny_holding (wpAny_bind (m := setState a) (wpAny_setState_of at_ dt x.fit ?_))
  dsimp only
  rw [byScan_of (knd := mixKind P w) sc x.bound x.elems]
  simp only [↓reduceIte]
  unfold setAddByScan
  refine wpAny_bind (wpAny_bind (wpAny_rule (wpAny_bind (wpAny_setScan_of (knd := mixKind P w) is_ at_ dt x.fit x.elems ?_))))
  cases fi : List.findIdx? (fun e => (mixKind P w).is k e.2) es.toList with
  | some j =>
    dsimp only
    obtain ⟨hj, pj, _⟩ := List.findIdx?_eq_some_iff_getElem.mp fi
    have m : k ∈ ks := x.perm.mem_iff.mp (List.mem_map.mpr ⟨es.toList[j], List.getElem_mem hj, (kOf_is pj).1⟩)
    have z := q false s.heap (Heap.SameBut.refl a _)
    rw [addK, if_pos m] at z
    exact wpAny_pure (wpAny_pure (z ⟨es, ep, t, x⟩))
  | none =>
    dsimp only
    have m : k ∉ ks := fun m => by
      obtain ⟨e, he, ek⟩ := List.mem_map.mp (x.perm.mem_iff.mpr m)
      have c := List.findIdx?_eq_none_iff.mp fi e he
      have f := (x.fine e he).1
      rw [ek] at f
      exact absurd (f.symm.trans c) (by decide)
    have z := fun h' => q true h'
    rw [addK, if_neg m] at z
    have gw : ∀ (b : Bool) {s' : Shared} {Q' : Unit → Shared → Prop}, Q' () s' → wpAny (model P w) A (match b with | true => rule "set.scan.the-table-gave-way" | false => pure ()) Q' E s' := fun b _ _ h => by
      cases b
      · exact wpAny_pure h
      · exact wpAny_rule h
    have pm := layNew_perm t es ((mixKind P w).hash k) v
    have f1 := layNew_fits t es ((mixKind P w).hash k) v
    have r1 := layNew_ris t es ((mixKind P w).hash k) v x.ris
    have l1 := layNew_led t es ((mixKind P w).hash k) v
    have eh : (mixKind P w).hash k = keyH w k := rfl
    rw [eh] at pm f1 r1 l1
    generalize layNew t es (keyH w k) v = Z at pm f1 r1 l1 ⊢
    obtain ⟨es1, t1, wd, gv⟩ := Z
    dsimp only at pm f1 r1 l1 ⊢
    rw [Array.toList_push] at pm
    have pc : es1.toList.Perm ((keyH w k, v) :: es.toList) := pm.trans (List.perm_append_singleton _ _)
    have pk : (es1.toList.map fun e => kOf e.2).Perm (k :: ks) := by
      have y := pc.map fun e : Int × Value => kOf e.2
      rw [List.map_cons] at y
      have y2 : (kOf v :: es.toList.map fun e => kOf e.2).Perm (k :: ks) := by rw [kv]; exact x.perm.cons k
      exact y.trans y2
    have fine1 : ∀ e ∈ es1.toList, FineE w e := fun e he => by
      rcases List.mem_cons.mp (pc.mem_iff.mp he) with y | y
      · subst y
        exact ⟨by rw [kv]; exact is_, by rw [kv]⟩
      · exact x.fine e y
    have nd1 : (k :: ks).Nodup := List.nodup_cons.mpr ⟨m, x.one⟩
    have led1 : w.params.followText "set-order" = true ∨ t1.led = true := by rw [l1]; exact x.led
    refine wpAny_bind (gw _ ?_)
    split
    · refine wpAny_bind ?_
      rw [hashByValue_scannable 8 sc]
      refine wpAny_pure (tail_x ?_ ex at_ dt fine1 pk nd1 room ?_ ?_ ?_ fun h' sb y => wpAny_pure (z h' sb y))
      · intro b _ _ h
        cases b
        · exact wpAny_pure h
        · exact wpAny_rule h
      · split
        · exact f1
        · exact SetTable.fits_plain_off f1
      · split <;> exact r1
      · split <;> exact led1
    · refine wpAny_bind (wpAny_pure ?_)
      simp only [↓reduceIte]
      refine tail_x ?_ ex at_ dt fine1 pk nd1 room f1 r1 led1 fun h' sb y => wpAny_pure (z h' sb y)
      intro b _ _ h
      cases b
      · exact wpAny_pure h
      · exact wpAny_rule h
theorem new_x {h : Heap} (at_ : h.get? a = some (setW w)) : SX w h a [] := by
  refine ⟨#[], 0, .fresh 0 0 (!w.params.followText "set-order"), ?_⟩
  refine ⟨⟨_, ⟨rfl, rfl, rfl⟩, at_, rfl⟩, (fun e he => nomatch he), List.Perm.refl _, List.nodup_nil, (by decide), (by rfl), List.Pairwise.nil, ?_⟩
  show _ ∨ (!w.params.followText "set-order") = true
  cases w.params.followText "set-order"
  · exact .inr rfl
  · exact .inl rfl
/-- what is in the set when the first i of the keys are in -/
def InX (w : World) (T : Addr) (all : List Key) (i : Nat) (h : Heap) : Prop := ∃ D, SX w h T D ∧ D.length ≤ i ∧ ∀ k, k ∈ D ↔ k ∈ all.take i
theorem firm_x {T : Addr} {all : List Key} : Firm (T + 1) (InX w T all) := fun i h h' ⟨D, x, r⟩ k => ⟨D, x.at fun o e => k T o (Nat.lt_succ_self _) e, r⟩
theorem InX.next {T : Addr} {all : List Key} {i : Nat} {k : Key} {h' : Heap} {D : List Key} (hk : all[i]? = some k) (x : SX w h' T (addK k D)) (l : D.length ≤ i) (m : ∀ j, j ∈ D ↔ j ∈ all.take i) : InX w T all (i + 1) h' := by
  refine ⟨_, x, Nat.le_trans (len_addK k D) (Nat.succ_le_succ l), fun j => ?_⟩
  rw [mem_addK, m j, List.take_add_one, hk, List.mem_append]
  simp only [Option.toList_some, List.mem_singleton]
  exact Or.comm
theorem adds_x {u : Nat} {T : Addr} {items : Array Value} {all : List Key} (rel : Vals (all.map kV) items.toList) (few : all.length < 3999) : Adds P w u T items.size (fun i v => items[i]? = some v) (InX w T all) := by
  intro A s i v Q E _ hi pv ⟨D, x, l, m⟩ q
  have q1 : items.toList[i]? = some v := by rw [Array.getElem?_toList]; exact pv
  have sz : all.length = items.size := by
    have z : (all.map kV).length = items.toList.length := rel.length
    rw [List.length_map] at z
    rw [z]
    exact Array.length_toList
  have li : i < all.length := by omega
  have hk : all[i]? = some all[i] := List.getElem?_eq_getElem li
  obtain ⟨u, q2, r⟩ := rel.get (i := i) (x := kV all[i]) (by rw [List.getElem?_map, hk]; rfl)
  rw [q1] at q2
  cases q2
  unfold setAdd
  refine wpAny_holding (wpAny_bind ((mixKind P w).pyHash (k := all[i]) (kV_is r) ?_))
  exact add_x (s := { s with toks := s.toks + 1 }) x r (by omega) fun b h' sb y => q b h' (s.toks + 1) (Nat.le_succ _) sb (InX.next hk y l m)
theorem call_set_x {l : Addr} {items : Array Value} {all : List Key} {Q : Value → Shared → Prop} (hh : A.handled = none) (hl : s.heap.IsList l items ∨ s.heap.IsTuple l items) (rel : Vals (all.map kV) items.toList) (few : all.length < 3999)
    (k : ∀ h' tk D, SX w h' s.heap.objs.size D → (∀ j, j ∈ D ↔ j ∈ all) → (∀ b o, s.heap.get? b = some o → h'.get? b = some o) → Q (.ref s.heap.objs.size) { s with heap := h', toks := tk }) :
    wpAny (model P w) A (call (.type "set") [.ref l]) Q E s := by
  have sz : all.length = items.size := by
    have z : (all.map kV).length = items.toList.length := rel.length
    rw [List.length_map] at z
    rw [z]
    exact Array.length_toList
  refine set_of (S := InX w s.heap.objs.size all) hh hl ⟨[], new_x (Heap.get?_push_size _ rfl), Nat.le_refl _, fun j => by simp⟩ firm_x (adds_x rel few) fun h' tk ⟨D, x, _, m⟩ kp => ?_
  rw [← sz, List.take_length] at m
  exact k h' tk D x m fun b o e => kp b o (Heap.lt_size e) e
end
end K1
set_option linter.all false
set_option maxRecDepth 100000
set_option maxHeartbeats 3200000
namespace K1
open PySem PySem.Spec PyProof.Rows L2
theorem rel_is {k : Key} {v : Value} (h : keyIs k v = true) : RelV (kV k) v := by
  rcases keyIs_shape h with ⟨i, t, rfl, rfl⟩ | ⟨x, t, rfl, rfl⟩
  · exact ⟨t, rfl⟩
  · exact ⟨t, rfl⟩
theorem live_none (m : Nat) : liveOf m (Array.replicate (m + 1) none) = [] := by
  unfold liveOf
  rw [List.filterMap_eq_nil_iff]
  intro j hj
  have z : (Array.replicate (m + 1) (none : Option Nat)).getD j none = none := by
    rw [Array.getD_eq_getD_getElem?, Array.getElem?_replicate]
    split <;> rfl
  rw [z]
  rfl
theorem above_all : ((List.range 61).all fun n => decide (SetTable.sizeAbove (n * 2) ≤ 128)) = true := by decide +kernel
theorem above_le {n : Nat} (h : n ≤ 60) : SetTable.sizeAbove (n * 2) ≤ 128 := of_decide_eq_true (List.all_eq_true.mp above_all n (List.mem_range.mpr (by omega)))
section
variable {P : Program} {w : World} {A : Around} {E : Value → Shared → Prop} {s : Shared} {a : Addr}
theorem room_x {n : Nat} {es : Array (Int × Value)} {ep : Nat} {t : SetTable} {Q : Unit → Shared → Prop} (x : SX0 w s.heap a [] es ep t) (hn : n ≤ 60) (q : ∀ h', Heap.SameBut a s.heap h' → SX w h' a [] → Q () { s with heap := h' }) :
    wpAny (model P w) A (setRoomFor a n) Q E s := by
  obtain ⟨o, ex, at_, dt⟩ := x.at_
  have sz := x.size
  have z : es = #[] := Array.eq_empty_of_size_eq_zero sz
  subst z
  have pl : t.place.size = 0 := by
    have f := x.fit
    unfold SetTable.fits at f
    rw [Bool.and_eq_true, beq_iff_eq] at f
    exact f.1
  unfold setRoomFor
  refine wpAny_bind (m := setState a) (wpAny_setState_of at_ dt x.fit ?_)
  dsimp only
  unfold SetTable.roomFor
  by_cases c : (t.fill + n) * 5 ≥ t.mask * 3
  · rw [if_pos c]
    dsimp only
    rw [pl, Nat.zero_add, setRelay_eq]
    refine wpAny_bind (m := setState a) (wpAny_setState_of at_ dt x.fit ?_)
    dsimp only
    have b := above_le hn
    rw [if_neg (by rw [sizeLine_eq]; omega)]
    try refine wpAny_bind (wpAny_pure ?_)
    rw [relaid_eq, layClean_eq]
    simp only [Array.map_empty, List.foldl_nil, Option.map_some, Option.bind_some, live_none, List.map_nil]
    refine wpAny_bind (wp_if_neg (by simp) ?_)
    try refine wpAny_bind (wpAny_pure ?_)
    refine wpAny_pure ?_
    dsimp only
    refine wpAny_storeSet_of at_ dt ?_ (by rw [sizeLine_eq]; simp)
    refine q _ (Heap.SameBut.update ..) ⟨_, _, _, ⟨at_set (o := o) ex (store_at at_ dt), (fun e he => by simp at he), (by simp), List.nodup_nil, (by decide), ?_, ?_, x.led⟩⟩
    · simp [SetTable.fits, SetTable.fill, tabOf, live_none]
    · simp [tabOf, live_none, Ris]
  · rw [if_neg c]
    exact wpAny_pure (q s.heap (Heap.SameBut.refl a _) ⟨_, ep, t, x⟩)
open AutoSeq1 (wpAny_loadPart') in
theorem up_dict {d : Addr} {kvs : List (Key × Value)} {Q : Unit → Shared → Prop} (hd : s.heap.DictOf (mixKind P w) d kvs) (nm : (d == sysModules) = false) (few : kvs.length ≤ 60)
    (k : ∀ h' tk D, SX w h' s.heap.objs.size D → (∀ j, j ∈ D ↔ j ∈ kvs.map (·.1)) → (∀ b o, b < s.heap.objs.size → s.heap.get? b = some o → h'.get? b = some o) → Q () { s with heap := h', toks := tk }) :
    wpAny (model P w) A (Builtin.Frozenset.updateFrom "set.__init__" s.heap.objs.size (.ref d)) Q E { s with heap := s.heap.push (setW w) } := by
  obtain ⟨⟨cl, od, dt, sl⟩, es, ep, at_, ⟨c1, c2, c3⟩, dd, ok, prs, nd⟩ := hd
  dsimp only at c1 c2 c3 dd
  subst c1 dd
  have lz : d < s.heap.objs.size := Heap.lt_size at_
  have b1 := PySem.F.sub_dict_set
  have b2 := PySem.F.sub_dict_frozenset
  have b3 : (Value.type "dict" == Value.type "dict") = true := by decide
  have sz : es.size = kvs.length := by rw [← Array.length_toList, prs.length]
  obtain ⟨h0, e0⟩ : ∃ h0, h0 = s.heap.push (setW w) := ⟨_, rfl⟩
  have up : h0.get? d = some ⟨.type "dict", od, .dict es ep, sl⟩ := by rw [e0]; exact Heap.get?_push_of_some _ at_
  have x0 : SX0 w h0 s.heap.objs.size [] #[] 0 (.fresh 0 0 (!w.params.followText "set-order")) := by
    rw [e0]
    refine ⟨⟨_, ⟨rfl, rfl, rfl⟩, Heap.get?_push_size _ rfl, rfl⟩, (fun e he => nomatch he), List.Perm.refl _, List.nodup_nil, (by decide), (by rfl), List.Pairwise.nil, ?_⟩
    show _ ∨ (!w.params.followText "set-order") = true
    cases w.params.followText "set-order"
    · exact .inr rfl
    · exact .inl rfl
  have old : ∀ b o, s.heap.get? b = some o → h0.get? b = some o := fun b o e => by rw [e0]; exact Heap.get?_push_of_some _ e
  rw [← e0]
  generalize hT : s.heap.objs.size = T at x0 k lz
  unfold Builtin.Frozenset.updateFrom
  generalize hRF : setRoomFor = RF
  wp_walk using wpAny_loadPart' up
  subst hRF
  refine room_x (s := { s with heap := h0 }) x0 (by omega) fun h1 sb1 x1 => ?_
  have dT : ∀ {h : Heap}, Heap.SameBut T h0 h → h.get? d = some ⟨.type "dict", od, .dict es ep, sl⟩ := fun sb => (sb.2 d (Nat.ne_of_lt lz)).trans up
  refine wpAny_bind (m := dictEntries d) (wpAny_dictEntries (dT sb1) rfl ?_)
  refine wpAny_bind (m := forIn _ _ _) ?_
  rw [Std.Legacy.Range.forIn_eq_forIn_range']
  simp only [Std.Legacy.Range.size, Nat.sub_zero, Nat.add_sub_cancel, Nat.div_one]
  refine wpAny_forIn_list _ (fun rest _ s' => ∃ i h', rest = List.range' i (es.size - i) ∧ i ≤ es.size ∧ s' = { s with heap := h' } ∧ InX w T (kvs.map (·.1)) i h' ∧ Heap.SameBut T h0 h') _ ?_ ?_ _ _ ⟨0, h1, rfl, Nat.zero_le _, rfl, ⟨[], x1, Nat.le_refl _, fun j => by simp⟩, sb1⟩
  · rintro y rest _ s' ⟨i, h2, er, hi, rfl, ⟨D, x2, l2, m2⟩, sb2⟩
    have lt : i < es.size := by
      rcases Nat.lt_or_ge i es.size with c | c
      · exact c
      · rw [Nat.sub_eq_zero_of_le c] at er
        cases er
    have e1 : es.size - i = (es.size - (i + 1)) + 1 := by omega
    rw [e1, List.range'_succ] at er
    obtain ⟨rfl, rfl⟩ : y = i ∧ rest = List.range' (i + 1) (es.size - (i + 1)) := by
      injection er with a1 a2
      exact ⟨a1, a2⟩
    have hy : es[y]? = some es[y] := Array.getElem?_eq_getElem lt
    obtain ⟨kv, hkv, isk⟩ : ∃ kv, kvs[y]? = some kv ∧ (mixKind P w).is kv.1 es[y].key = true := by
      have all : ∀ {l : List DictEntry} {m : List (Key × Value)}, Pairs (mixKind P w) l m → ∀ (i : Nat) e, l[i]? = some e → ∃ kv, m[i]? = some kv ∧ (mixKind P w).is kv.1 e.key = true := by
        intro l m q
        induction q with
        | nil => exact fun i e h => by simp at h
        | cons q1 q2 _ ih =>
          intro i e h
          cases i with
          | zero =>
            simp only [List.getElem?_cons_zero, Option.some.injEq] at h
            subst h
            exact ⟨_, rfl, q1⟩
          | succ i => exact ih i e (by simpa using h)
      exact all prs y _ (by rw [Array.getElem?_toList]; exact hy)
    obtain ⟨k0, isk0, hh⟩ := ok es[y] (Array.getElem_mem lt)
    have ek : k0 = kv.1 := (mixKind P w).inj _ _ _ isk0 isk
    subst ek
    refine wpAny_bind (m := dictEntries d) (wpAny_dictEntries (dT sb2) rfl ?_)
    rw [hy]
    dsimp only
    rw [hh]
    have hk : (kvs.map (·.1))[y]? = some kv.1 := by rw [List.getElem?_map, hkv]; rfl
    have few2 : D.length + 1 < 4000 := by omega
    refine wpAny_bind (wpAny_holding (add_x (s := { s with heap := h2 }) x2 (rel_is isk) few2 fun b h3 sb3 x3 => ?_))
    refine wpAny_bind (m := dictEpoch d) (wpAny_dictEpoch (dT (sb2.trans sb3)) rfl ?_)
    refine wp_if_neg (by simp) ?_
    exact wpAny_pure ⟨y + 1, h3, rfl, lt, rfl, InX.next hk x3 l2 m2, sb2.trans sb3⟩
  · rintro _ s' ⟨i, h2, er, hi, rfl, ⟨D, x2, l2, m2⟩, sb2⟩
    have e1 : i = es.size := by
      have z := congrArg List.length er
      rw [List.length_nil, List.length_range'] at z
      omega
    subst e1
    have tk : (kvs.map (·.1)).take es.size = kvs.map (·.1) := List.take_of_length_le (by rw [List.length_map]; omega)
    rw [tk] at m2
    exact wpAny_pure (k h2 s.toks D x2 m2 fun b o hb e => (sb2.2 b (Nat.ne_of_lt hb)).trans (old b o e))
end
end K1
set_option linter.all false
set_option maxRecDepth 100000
set_option maxHeartbeats 3200000
namespace K1
open PySem PySem.Spec PyProof.Rows L2
def txt : Value → Str
  | .str x _ => x
  | _ => Str.empty
def txK : Key → Str
  | .inr x => x
  | .inl _ => Str.empty
theorem map_txK (l : List Str) : (l.map (Sum.inr : Str → Key)).map txK = l := by
  induction l with
  | nil => rfl
  | cons a r ih => rw [List.map_cons, List.map_cons, ih]; rfl
section
variable {P : Program} {w : World} {A : Around} {E : Value → Shared → Prop} {s : Shared} {a : Addr}
theorem strs_all : ∀ {vs : List Value}, (∀ v ∈ vs, ∃ x t, v = Value.str x t) → StrsAre vs (vs.map txt)
  | [], _ => .nil
  | v :: r, h => by
    obtain ⟨x, t, rfl⟩ := h v (.head _)
    exact .cons x t (strs_all fun u m => h u (.tail _ m))
theorem kind_txt {vs : List Value} {rk : Value → Int} (h2 : 2 ≤ vs.length) (all : ∀ v ∈ vs, ∃ x t, v = Value.str x t) (hr : ∀ u ∈ vs, ∀ v ∈ vs, ltS (txt u) (txt v) = decide (rk u < rk v)) (Q : SortKind → Shared → Prop)
    (k : ∀ κ, TS.Cmp P w A s κ (pairsOf vs) rk → Q κ s) : wpAny (model P w) A (keyKind' vs.toArray) Q E s := by
  obtain ⟨v1, v2, r, rfl⟩ : ∃ v1 v2 r, vs = v1 :: v2 :: r := by
    match vs, h2 with
    | v1 :: v2 :: r, _ => exact ⟨v1, v2, r, rfl⟩
  rw [keyKind_strs (strs_all all)]
  refine wpAny_pure (k _ fun p q hp hq Q' E' q' => ?_)
  rw [pairsOf_toList] at hp hq
  have mp := (mem_zip_self hp).2
  have mq := (mem_zip_self hq).2
  obtain ⟨x, t, ex⟩ := all _ mp
  obtain ⟨y, u, ey⟩ := all _ mq
  rw [← hr _ mp _ mq, ex, ey] at q'
  rw [ex, ey, keyLt'_oneType]
  exact oneLt_str q'
theorem sort_txt {a : Addr} {vs : List Value} {n : Nat} {rk : Value → Int} {Q : Value → Shared → Prop} (ho : s.heap.get? a = some (seqObj "list" vs.toArray n)) (h64 : vs.length < 64) (all : ∀ v ∈ vs, ∃ x t, v = Value.str x t)
    (hr : ∀ u ∈ vs, ∀ v ∈ vs, ltS (txt u) (txt v) = decide (rk u < rk v))
    (k : ∀ out : Array Value, out.toList.Perm vs → out.toList.Pairwise (fun u v => rk u ≤ rk v) → Q .none { s with heap := sortedHeap s.heap a vs out }) :
    wpAny (model P w) A (call (.builtin "list.sort") [.ref a]) Q E s := by
  refine wpAny_call_entry slot_list_sort ⟨_, ho, rfl⟩ entry_list_sort (SK.plain_sort (r := rk) ho h64 (fun h2 Q' q' => kind_txt h2 all hr Q' q') fun ps out h1 h2 h3 => ?_) (args_list_sort _)
  obtain ⟨p, o⟩ := TS.out_rank h1 h2 h3
  exact ⟨_, rfl, k out p o⟩
theorem sorted_x {ss : List Str} {Q : Value → Shared → Prop} (x : SX w s.heap a (ss.map Sum.inr)) (h64 : ss.length < 64) (hh : A.handled = none)
    (q : ∀ s' d (out : Array Value) c, (∀ b o, s.heap.get? b = some o → s'.heap.get? b = some o) → s'.gens = s.gens → s'.os = s.os → s.heap.objs.size ≤ d → s'.heap.get? d = some (seqObj "list" out c) → Vals ((asc ltS ss).map V.str) out.toList → Q (.ref d) s') :
    wpAny (model P w) A (call (.builtin "sorted") [.ref a]) Q E s := by
  obtain ⟨es, ep, t, x⟩ := x
  obtain ⟨o, ex, at_, dt⟩ := x.at_
  refine Calls.call_function_entry kind_sorted plain_sorted entry_sorted (args_sorted1 _) ?_
  unfold Builtin.«sorted»
  refine wpAny_bind (m := checkCount "sorted" 1 1 _) (wpAny_pure (wpAny_bind (collect_set (A := A.in1) hh ⟨o, at_, ex.1, dt⟩ x.fit x.bound x.ris x.led fun s1 vs k1 z1 g1 o1 pm => ?_)))
  have all : ∀ v ∈ vs, ∃ x t, v = Value.str x t := fun v hv => by
    obtain ⟨e, he, rfl⟩ := List.mem_map.mp (pm.mem_iff.mp hv)
    have f := (x.fine e he).1
    have m : kOf e.2 ∈ ss.map Sum.inr := x.perm.mem_iff.mp (List.mem_map.mpr ⟨e, he, rfl⟩)
    obtain ⟨y, _, ey⟩ := List.mem_map.mp m
    rw [← ey] at f
    rcases keyIs_shape f with ⟨i, t, e1, _⟩ | ⟨z, t, _, e2⟩
    · cases e1
    · exact ⟨z, t, e2⟩
  have pt : (vs.map txt).Perm ss := by
    have y : (vs.map txt).Perm (es.toList.map fun e => txt e.2) := by
      have z := pm.map txt
      rw [List.map_map] at z
      exact z
    have y2 : (es.toList.map fun e => (Sum.inr (txt e.2) : Key)) = es.toList.map fun e => kOf e.2 := List.map_congr_left fun e he => by
      obtain ⟨z, t, e2⟩ := all e.2 (pm.mem_iff.mpr (List.mem_map.mpr ⟨e, he, rfl⟩))
      rw [e2]
      rfl
    have y3 := x.perm
    rw [← y2] at y3
    have y4 : ((es.toList.map fun e => txt e.2).map (Sum.inr : Str → Key)).Perm (ss.map Sum.inr) := by
      rw [List.map_map]
      exact y3
    have y5 := y4.map txK
    rw [map_txK, map_txK] at y5
    exact y.trans y5
  have vl : vs.length < 64 := by
    have z := pt.length_eq
    rw [List.length_map] at z
    omega
  refine wpAny_bind (wpAny_newList ?_ (by rw [sizeLine_eq]; omega))
  have top : (s1.heap.push (seqObj "list" vs.toArray 0)).get? s1.heap.objs.size = some (seqObj "list" vs.toArray 0) := Heap.get?_push_size _ rfl
  generalize hh2 : s1.heap.push (seqObj "list" vs.toArray 0) = h2 at top ⊢
  have nd : ss.Nodup := by
    have z := x.one
    exact List.Pairwise.of_map Sum.inr (fun _ _ ne e => ne (by rw [e])) z
  refine wpAny_bind (wpAny_holding (sort_txt (s := { s1 with heap := h2 }) (rk := fun v => (rank ltS ss (txt v) : Int)) top vl all (fun u hu v hv => ?_) fun out p1 p2 => ?_))
  · rw [rank_lt tot_ltS (pt.mem_iff.mp (List.mem_map.mpr ⟨u, hu, rfl⟩)) (txt v)]
    exact decide_eq_decide.mpr (by omega)
  · obtain ⟨c, hc⟩ := sortedHeap_at (vs := vs) (out := out) top
    have allo : ∀ v ∈ out.toList, ∃ x t, v = Value.str x t := fun v hv => all v (p1.mem_iff.mp hv)
    have po : (out.toList.map txt).Perm ss := (p1.map txt).trans pt
    have asc1 : Asc1 ltS (out.toList.map txt) := by
      have ndo : (out.toList.map txt).Nodup := po.nodup_iff.mpr nd
      unfold Asc1
      rw [List.pairwise_map]
      have z : out.toList.Pairwise fun u v => rank ltS ss (txt u) ≤ rank ltS ss (txt v) ∧ txt u ≠ txt v := List.Pairwise.and (p2.imp fun h => Int.ofNat_le.mp h) (List.pairwise_map.mp ndo)
      refine List.Pairwise.imp_of_mem (fun {u v} hu hv h => ?_) z
      have mv := po.mem_iff.mp (List.mem_map.mpr ⟨v, hv, rfl⟩)
      cases c1 : ltS (txt u) (txt v) with
      | true => rfl
      | false =>
        cases c2 : ltS (txt v) (txt u) with
        | false => exact absurd (tot_ltS.tot _ _ c1 c2) h.2
        | true =>
          rw [rank_lt tot_ltS mv] at c2
          have := of_decide_eq_true c2
          omega
    have fin : out.toList.map txt = asc ltS ss := asc_of tot_ltS asc1 fun y => po.mem_iff
    refine wpAny_pure ⟨_, rfl, q _ s1.heap.objs.size out c (fun b u e => ?_) g1 o1 z1 hc ?_⟩
    · have q := k1 b u e
      have lt := Heap.lt_size q
      show (sortedHeap h2 s1.heap.objs.size vs out).get? b = some u
      rw [sortedHeap_old (Nat.ne_of_lt lt) (by rw [← hh2, size_push']; exact Nat.lt_succ_of_lt lt), ← hh2]
      exact Heap.get?_push_of_some _ q
    · rw [← fin]
      have vals : ∀ l : List Value, (∀ v ∈ l, ∃ x t, v = Value.str x t) → Vals ((l.map txt).map V.str) l := by
        intro l
        induction l with
        | nil => exact fun _ => .nil
        | cons v r ih =>
          intro h
          obtain ⟨x, t, rfl⟩ := h v (.head _)
          exact .cons ⟨t, rfl⟩ (ih fun u m => h u (.tail _ m))
      exact vals _ allo
end
/-! ### the rules -/
def KS (w : World) (a : Addr) (D : List Key) : HO := .ext fun h => SX w h a D
theorem ks_new {w : World} {P : Program} {H : Hp} {h : Heap} {a : Addr} {D : List Key} (x : SX w h a D) : ObjOk P w H h a (KS w a D) := by
  have ⟨_, _, _, y⟩ := x
  have ⟨o, _, at_, _⟩ := y.at_
  exact ⟨x, ⟨o, at_⟩, fun _ _ p k => p.at k⟩
/-- a list, a tuple or a dict of these texts and ints -/
def KeysIn (K : PySem.W.Frag) (H : Hp) (l : Addr) (ks : List Key) : Prop := SqL K H l (ks.map kV) ∨ SqT K H l (ks.map kV) ∨ ∃ kvs, H l = some (.dK kvs) ∧ ks = kvs.map (·.1) ∧ kvs.length ≤ 60
section
variable {X : Cx}
def rSetX (K : PySem.W.Frag) (w : World) : List V → Hp → VK → Prop := fun xs H Q => ∃ (l : Addr) (ks : List Key), xs = [.ref l] ∧ KeysIn K H l ks ∧ ks.length < 3000 ∧ ∀ a D, H a = none → D.Nodup → (∀ k, k ∈ D ↔ k ∈ ks) → Q (.ref a) (upd H a (KS w a D))
theorem cr_setX (hc : X.calm = true) : CallR X (.type "set") (rSetX X.K X.w) := by
  intro pins s σ H xs us Q I r h
  obtain ⟨l, ks, rfl, hl, few, q⟩ := h
  rw [Vals.ref1 r]
  have fin : ∀ h' tk D, SX X.w h' s.heap.objs.size D → (∀ j, j ∈ D ↔ j ∈ ks) → (∀ b o, s.heap.get? b = some o → h'.get? b = some o) → EP X pins σ Q (.ref s.heap.objs.size) { s with heap := h', toks := tk } := fun h' tk D x m kp => by
    have ⟨_, _, _, y⟩ := x
    exact ⟨.ref s.heap.objs.size, upd H s.heap.objs.size (KS X.w s.heap.objs.size D), I.laid (t' := tk) kp (Nat.le_refl _) (ks_new x), rfl, q _ D (I.hok.fresh (Nat.le_refl _)) y.one m⟩
  rcases hl with hl | hl | ⟨kvs, hd, ek, fd⟩
  · obtain ⟨its, rv, pl, hz⟩ := I.list hl
    exact call_set_x (I.ok.hd hc) (.inl pl.isList) (by simpa using rv) (by omega) fin
  · obtain ⟨its, rv, pl, hz⟩ := I.tuple hl
    exact call_set_x (I.ok.hd hc) (.inr (show s.heap.IsTuple l its.toArray from pl)) (by simpa using rv) (by omega) fin
  · obtain ⟨z, nm, vs, rel, dd⟩ := dk_of I.hok hd
    have ev : vs.map (·.1) = kvs.map (·.1) := by
      have all : ∀ {a : List (Key × V)} {b : List (Key × Value)}, KV a b → b.map (·.1) = a.map (·.1) := by
        intro a b z
        induction z with
        | nil => rfl
        | cons _ _ ih => simp_all
      exact all rel
    have lv : vs.length ≤ 60 := by
      have z := congrArg List.length ev
      rw [List.length_map, List.length_map] at z
      omega
    refine call_setG (R := fun h' => ∃ D, SX X.w h' s.heap.objs.size D ∧ ∀ j, j ∈ D ↔ j ∈ ks) (fun A' Q' E' _ _ kk => up_dict dd nm lv fun h' tk D x m kp => kk h' tk ⟨D, x, fun j => ?_⟩ kp) fun h' tk ⟨D, x, m⟩ kp => fin h' tk D x m fun b o e => kp b o (Heap.lt_size e) e
    rw [m j, ev, ek]
/-- len of such a set -/
theorem call_lenX : CallR X (.builtin "len") (fun xs H Q => ∃ (a : Addr) (D : List Key), xs = [.ref a] ∧ H a = some (KS X.w a D) ∧ Q (.int (D.length : Nat)) H) := by
  intro pins s σ H xs us Q I r h
  obtain ⟨a, D, rfl, ha, q⟩ := h
  rw [Vals.ref1 r]
  obtain ⟨es, ep, t, x⟩ := (show SX X.w s.heap a D from (I.hok a _ ha).1)
  obtain ⟨o, ex, at_, dt⟩ := x.at_
  have b := x.few
  refine call_len_set at_ ex dt x.fit (by rw [x.size]; omega) ⟨.int (D.length : Nat), H, I.tok _, ⟨_, by rw [x.size]⟩, q⟩
/-- sorted(s), s a set of texts -/
def rSortedX (w : World) : List V → Hp → VK → Prop := fun xs H Q => ∃ (a : Addr) (D : List Key) (ss : List Str), xs = [.ref a] ∧ H a = some (KS w a D) ∧ D = ss.map Sum.inr ∧ ss.length < 64 ∧ ∀ p, H p = none → Q (.ref p) (upd H p (.lst ((asc ltS ss).map V.str)))
theorem cr_sortedX (hc : X.calm = true) : CallR X (.builtin "sorted") (rSortedX X.w) := by
  intro pins s σ H xs us Q I r h
  obtain ⟨a, D, ss, rfl, ha, rfl, few, q⟩ := h
  rw [Vals.ref1 r]
  have x : SX X.w s.heap a (ss.map Sum.inr) := (I.hok a _ ha).1
  have nd : ss.Nodup := by
    obtain ⟨_, _, _, y⟩ := x
    exact List.Pairwise.of_map Sum.inr (fun _ _ ne e => ne (by rw [e])) y.one
  refine sorted_x x few (I.ok.hd hc) fun s' d out c k g o hd hg rel => ?_
  have nn : H d = none := I.hok.fresh hd
  have zl : ((asc ltS ss).map V.str).length ≤ sizeLine := by
    rw [List.length_map, asc_len tot_ltS nd, sizeLine_eq]
    omega
  have J : Inv X pins σ (upd H d (.lst ((asc ltS ss).map V.str))) { s with heap := s'.heap, gens := s'.gens, drawn := s'.drawn, toks := s'.toks } :=
    I.call (ch := []) (Un.laid k hd nn) (I.hok.laid k hd ⟨zl, out.toList, c, rel, hg⟩) (g ▸ I.bare) fun _ z => nomatch z
  obtain ⟨hp, gs, dr, tk, os⟩ := s'
  obtain ⟨hp0, gs0, dr0, tk0, os0⟩ := s
  cases o
  exact ⟨.ref d, _, J, rfl, q d nn⟩
end
end K1
set_option linter.all false
set_option maxRecDepth 100000
set_option maxHeartbeats 3200000
namespace K1
open PySem PySem.Spec PyProof.Rows L2
section
variable {P : Program} {w : World} {A : Around} {E : Value → Shared → Prop} {s : Shared}
theorem tuK_keep {h h' : Heap} {k : List Key} {b : Addr} (T : TuK P w h k b) (q : ∀ o, h.get? b = some o → h'.get? b = some o) : TuK P w h' k b := by
  obtain ⟨o, its, n, g, r⟩ := T
  exact ⟨o, its, n, q o g, r⟩
theorem stK_new {h : Heap} {a : Addr} (at_ : h.get? a = some (setW w)) : StK P w h a [] #[] 0 (.fresh 0 0 (!w.params.followText "set-order")) := by
  refine ⟨⟨_, ⟨rfl, rfl, rfl⟩, at_, rfl⟩, rfl, ⟨List.Pairwise.nil, rfl, rfl, .inl rfl, fun x hx => ?_, fun i h j hi => ?_⟩, List.nodup_nil, (fun p hp => nomatch hp), ?_, ?_, by decide⟩
  · cases hx
  · cases hi
  · show _ ∨ (!w.params.followText "set-order") = true
    cases w.params.followText "set-order"
    · exact .inr rfl
    · exact .inl rfl
  · show 0 * 5 < 7 * 3
    decide
/-- what is in the set when the first i of the tuples are in -/
structure InT (P : Program) (w : World) (T : Addr) (all : PK) (i : Nat) (h : Heap) : Prop where
  set : ∃ L es ep t, StK P w h T L es ep t ∧ L.length ≤ i ∧ (∀ p ∈ L, p ∈ all.take i) ∧ ∀ p ∈ all.take i, p.2 ∈ keysK L
  old : ∀ p ∈ all, TuK P w h p.2 p.1 ∧ p.1 < T
theorem firm_t {T : Addr} {all : PK} : Firm (T + 1) (InT P w T all) := fun i h h' x k => by
  obtain ⟨L, es, ep, t, y, l, m1, m2⟩ := x.set
  have old : ∀ p ∈ all, TuK P w h' p.2 p.1 ∧ p.1 < T := fun p hp => ⟨tuK_keep (x.old p hp).1 fun o e => k _ o (Nat.lt_succ_of_lt (x.old p hp).2) e, (x.old p hp).2⟩
  obtain ⟨o, x1, x2, x3⟩ := y.at_
  exact ⟨⟨L, es, ep, t, ⟨⟨o, x1, k T o (Nat.lt_succ_self _) x2, x3⟩, y.row, y.tab, y.one, fun p hp => (old p (List.mem_of_mem_take (m1 p hp))).1, y.led, y.room, y.few⟩, l, m1, m2⟩, old⟩
theorem adds_t {u : Nat} {T : Addr} {items : Array Value} {all : PK} (rel : items.toList = all.map fun p => Value.ref p.1) (few : all.length < 63) (hu : u < cLine) : Adds P w u T items.size (fun i v => items[i]? = some v) (InT P w T all) := by
  intro A s i v Q E ul hi pv x q
  obtain ⟨L, es, ep, t, y, l, m1, m2⟩ := x.set
  have sz : items.size = all.length := by
    have z := congrArg List.length rel
    rw [Array.length_toList, List.length_map] at z
    exact z
  have li : i < all.length := by omega
  have hk : all[i]? = some all[i] := List.getElem?_eq_getElem li
  generalize all[i] = p at hk
  have ev : v = .ref p.1 := by
    have q1 : items.toList[i]? = some v := by rw [Array.getElem?_toList]; exact pv
    rw [rel, List.getElem?_map, hk] at q1
    injection q1 with q1
    exact q1.symm
  subst ev
  have pm := List.mem_of_getElem? hk
  have tk : all.take (i + 1) = all.take i ++ [p] := by rw [List.take_add_one, hk]; rfl
  unfold setAdd
  refine wpAny_holding (wpAny_bind (wpAny_pyHash_tuple (Nat.lt_of_le_of_lt ul hu) (x.old p pm).1 ?_))
  refine add_k (s := { s with toks := s.toks + (p.2.length + 1) }) y (x.old p pm).1 (Nat.lt_of_le_of_lt ul hu) (by omega) fun b h' L' es' ep' t' sb y' c1 c2 => q b h' _ (Nat.le_add_right _ _) sb ⟨⟨L', es', ep', t', y', ?_⟩, fun r hr => ⟨?_, (x.old r hr).2⟩⟩
  · rcases Classical.em (p.2 ∈ keysK L) with c | c
    · rw [c1 c, tk]
      refine ⟨by omega, fun r hr => List.mem_append_left _ (m1 r hr), fun r hr => ?_⟩
      rcases List.mem_append.mp hr with z | z
      · exact m2 r z
      · rw [List.mem_singleton.mp z]
        exact c
    · have pm2 := c2 c
      have ek : (keysK L').Perm (keysK ((p.1, p.2) :: L)) := by unfold keysK; exact pm2.map _
      refine ⟨by rw [pm2.length_eq, List.length_cons]; omega, fun r hr => ?_, fun r hr => ?_⟩
      · rw [tk]
        rcases List.mem_cons.mp (pm2.mem_iff.mp hr) with z | z
        · rw [z]
          exact List.mem_append_right _ (.head _)
        · exact List.mem_append_left _ (m1 r z)
      · rw [tk] at hr
        rw [ek.mem_iff]
        rcases List.mem_append.mp hr with z | z
        · exact .tail _ (m2 r z)
        · rw [List.mem_singleton.mp z]
          exact .head _
  · refine tuK_keep (x.old r hr).1 fun o e => (sb.2 r.1 (Nat.ne_of_lt (x.old r hr).2)).trans e
theorem call_set_t {l : Addr} {items : Array Value} {all : PK} {Q : Value → Shared → Prop} (hh : A.handled = none) (hl : s.heap.IsList l items ∨ s.heap.IsTuple l items) (rel : items.toList = all.map fun p => Value.ref p.1) (few : all.length < 63) (tup : ∀ p ∈ all, TuK P w s.heap p.2 p.1) (hu : A.units + 4 < cLine)
    (k : ∀ h' tk L es ep t, StK P w h' s.heap.objs.size L es ep t → (∀ p ∈ L, p ∈ all) → (∀ p ∈ all, p.2 ∈ keysK L) → (∀ b o, s.heap.get? b = some o → h'.get? b = some o) → Q (.ref s.heap.objs.size) { s with heap := h', toks := tk }) :
    wpAny (model P w) A (call (.type "set") [.ref l]) Q E s := by
  have sz : items.size = all.length := by
    have z := congrArg List.length rel
    rw [Array.length_toList, List.length_map] at z
    exact z
  refine set_of (S := InT P w s.heap.objs.size all) hh hl ⟨⟨[], _, _, _, stK_new (Heap.get?_push_size _ rfl), Nat.le_refl _, (fun p hp => nomatch hp), fun p hp => by simp at hp⟩, fun p hp => ⟨tuK_keep (tup p hp) fun o e => Heap.get?_push_of_some _ e, ?_⟩⟩ firm_t (adds_t rel few hu) fun h' tk x kp => ?_
  · obtain ⟨o, _, _, g, _⟩ := tup p hp
    exact Heap.lt_size g
  · obtain ⟨L, es, ep, t, y, _, m1, m2⟩ := x.set
    rw [sz, List.take_length] at m1 m2
    exact k h' tk L es ep t y m1 m2 fun b o e => kp b o (Heap.lt_size e) e
/-! ### sorted -/
/-- the texts of a tuple, read off the heap -/
def txtsOf (h : Heap) : Value → List Str
  | .ref a => match h.get? a with
    | some o => match o.data with
      | .seq xs _ => xs.toList.map txt
      | _ => []
    | none => []
  | _ => []
theorem items_txt {k : List Str} : ∀ {vs : List Value}, ItemsAre (mixKind P w) (k.map Sum.inr) vs → StrsAre vs k := by
  induction k with
  | nil =>
    intro vs h
    cases h
    exact .nil
  | cons x r ih =>
    intro vs h
    cases h with
    | cons h1 h2 =>
      rcases keyIs_shape (show keyIs (Sum.inr x) _ = true from h1) with ⟨i, t, e, _⟩ | ⟨y, t, e, rfl⟩
      · cases e
      · cases e
        exact .cons x t (ih h2)
theorem strs_txt {vs : List Value} {k : List Str} (h : StrsAre vs k) : vs.map txt = k := by
  induction h with
  | nil => rfl
  | cons x t _ ih => rw [List.map_cons, ih]; rfl
theorem txtsOf_tup {h : Heap} {k : List Str} {a : Addr} (T : TuK P w h (k.map Sum.inr) a) : txtsOf h (.ref a) = k := by
  obtain ⟨o, its, n, g, _, d, r⟩ := T
  unfold txtsOf
  simp only [g, d]
  exact strs_txt (items_txt r)
theorem oneLt_txt (c : Bool) {x y : Str} {t u : Tok} {Q : Bool → Shared → Prop} (h : Q (ltS x y) s) : wpAny (model P w) A (oneLt' c (.str x t) (.str y u)) Q E s := by
  cases c with
  | true => exact oneLt_str h
  | false => exact PySem.W.kat_one _ _ (PyProof.Rows.lt_str (Q := PySem.W.BoolBack Q) (show Q _ s from h))
theorem lex_txt {b : Bool} {Q : Bool → Shared → Prop} {us : List Value} {ns : List Str} (hu : StrsAre us ns) : ∀ {ts : List Value} {ms : List Str} {f : Bool} (i : Nat), StrsAre ts ms → f = decide (us.length < ts.length) → Q (lexL ltS ns ms) s →
    PySem.W.KatLex P w A b f Q (us.zip ts) i s := by
  induction hu with
  | nil =>
    intro ts ms f i ht hf q
    subst hf
    cases ht with
    | nil => exact PySem.W.kat_nil q
    | cons y t r => exact PySem.W.kat_nil q
  | @cons x t0 us ns hu ih =>
    intro ts ms f i ht hf q
    subst hf
    cases ht with
    | nil => exact PySem.W.kat_nil q
    | @cons y t1 ts ms ht =>
      refine PySem.W.kat_cons (r := us.zip ts) (wpAny_eqBool_str ?_)
      rw [lexL_cons] at q
      by_cases c : x = y
      · rw [if_pos c] at q
        rw [decide_eq_true c]
        exact PySem.W.kat_yes (ih (i + 1) ht (by simp) q)
      · rw [if_neg c] at q
        rw [decide_eq_false c]
        exact PySem.W.kat_no (oneLt_txt _ q)
def TxtTups (P : Program) (w : World) (h : Heap) (vs : List Value) : Prop := ∀ v ∈ vs, ∃ a k, v = .ref a ∧ TuK P w h (k.map Sum.inr) a ∧ k ≠ []
theorem heads_txt {h : Heap} : ∀ {vs : List Value}, TxtTups P w h vs → ∃ fs, PySem.W.KatTups h vs fs ∧ fs.length = vs.length ∧ ∀ f ∈ fs, ∃ n t, f = Value.str n t := by
  intro vs
  induction vs with
  | nil => intro _; exact ⟨[], .nil, rfl, fun _ hf => nomatch hf⟩
  | cons v vs ih =>
    intro x
    obtain ⟨fs, a1, a2, a3⟩ := ih fun u hu => x u (.tail _ hu)
    obtain ⟨a, k, rfl, ⟨o, its, n, g, c, d, r⟩, ne⟩ := x v (.head _)
    have st := items_txt r
    obtain ⟨its⟩ := its
    cases st with
    | nil => exact absurd rfl ne
    | @cons y t us ns hi =>
      refine ⟨.str y t :: fs, .cons g c d rfl a1, congrArg Nat.succ a2, fun f hf => ?_⟩
      rcases List.mem_cons.mp hf with z | z
      · exact ⟨y, t, z⟩
      · exact a3 f z
theorem kind_tt {vs : List Value} {rk : Value → Int} (h2 : 2 ≤ vs.length) (x : TxtTups P w s.heap vs) (hr : ∀ u ∈ vs, ∀ v ∈ vs, lexL ltS (txtsOf s.heap u) (txtsOf s.heap v) = decide (rk u < rk v)) (Q : SortKind → Shared → Prop)
    (k : ∀ κ, TS.Cmp P w A s κ (pairsOf vs) rk → Q κ s) : wpAny (model P w) A (keyKind' vs.toArray) Q E s := by
  obtain ⟨fs, a1, a2, a3⟩ := heads_txt x
  refine PySem.W.kat_kind (T := .type "str") a1 (by omega) (fun f hf => ?_) rfl (k _ fun p q hp hq Q' E' q' => ?_)
  · obtain ⟨n, t, z⟩ := a3 f hf
    rw [z]
    exact PySem.W.Looks.of_pure rfl
  · rw [pairsOf_toList] at hp hq
    have mp := (mem_zip_self hp).2
    have mq := (mem_zip_self hq).2
    rw [← hr _ mp _ mq] at q'
    obtain ⟨a, n, ea, tn, _⟩ := x _ mp
    obtain ⟨b, m, eb, tm, _⟩ := x _ mq
    rw [ea, eb, txtsOf_tup tn, txtsOf_tup tm] at q'
    obtain ⟨o, us, n1, g, c, d, r⟩ := tn
    obtain ⟨o', ts, n2, g', c', d', r'⟩ := tm
    rw [ea, eb]
    exact PySem.W.kat_lt g d g' d' (lex_txt (items_txt r) 0 (items_txt r') (by rw [Array.length_toList, Array.length_toList]) q')
theorem sort_tt {a : Addr} {vs : List Value} {n : Nat} {rk : Value → Int} {Q : Value → Shared → Prop} (ho : s.heap.get? a = some (seqObj "list" vs.toArray n)) (h64 : vs.length < 64) (x : TxtTups P w s.heap vs)
    (hr : ∀ u ∈ vs, ∀ v ∈ vs, lexL ltS (txtsOf s.heap u) (txtsOf s.heap v) = decide (rk u < rk v))
    (k : ∀ out : Array Value, out.toList.Perm vs → out.toList.Pairwise (fun u v => rk u ≤ rk v) → Q .none { s with heap := sortedHeap s.heap a vs out }) :
    wpAny (model P w) A (call (.builtin "list.sort") [.ref a]) Q E s := by
  have stay : ∀ {b : Addr} {ks : List Key}, TuK P w s.heap ks b → TuK P w (TS.midHeap s.heap a vs) ks b := fun {b ks} t => by
    obtain ⟨o, its, m, g, c, d, r⟩ := t
    refine ⟨o, its, m, TS.midHeap_old (fun z => ?_) g, c, d, r⟩
    rw [z, ho] at g
    cases g
    have c2 : Value.type "list" = Value.type "tuple" := c
    exact absurd c2 (by decide)
  have x2 : TxtTups P w (TS.midHeap s.heap a vs) vs := fun v hv => by
    obtain ⟨b, ks, e, t, ne⟩ := x v hv
    exact ⟨b, ks, e, stay t, ne⟩
  have same : ∀ v ∈ vs, txtsOf (TS.midHeap s.heap a vs) v = txtsOf s.heap v := fun v hv => by
    obtain ⟨b, ks, rfl, t, ne⟩ := x v hv
    rw [txtsOf_tup t, txtsOf_tup (stay t)]
  refine wpAny_call_entry slot_list_sort ⟨_, ho, rfl⟩ entry_list_sort (SK.plain_sort (r := rk) ho h64 (fun h2 Q' q' => kind_tt (s := { s with heap := TS.midHeap s.heap a vs }) h2 x2 (fun u hu v hv => by rw [same u hu, same v hv]; exact hr u hu v hv) Q' q') fun ps out h1 h2 h3 => ?_) (args_list_sort _)
  obtain ⟨p, o⟩ := TS.out_rank h1 h2 h3
  exact ⟨_, rfl, k out p o⟩
end
end K1
set_option linter.all false
set_option maxRecDepth 100000
set_option maxHeartbeats 3200000
namespace K1
open PySem PySem.Spec PyProof.Rows L2
/-- tuples of texts, each at its place -/
abbrev TL := List (Addr × List Str)
def upT (M : TL) : PK := M.map fun p => (p.1, p.2.map Sum.inr)
def refT (M : TL) : List V := M.map fun p => V.ref p.1
def rowT (M : TL) : List (List Str) := M.map (·.2)
def AtT (K : PySem.W.Frag) (H : Hp) (M : TL) : Prop := ∀ p ∈ M, SqT K H p.1 (p.2.map V.str)
theorem inr_inj {a b : List Str} (h : a.map (Sum.inr : Str → Key) = b.map Sum.inr) : a = b := by
  have z := congrArg (List.map txK) h
  rwa [map_txK, map_txK] at z
theorem map_str (k : List Str) : k.map V.str = (k.map (Sum.inr : Str → Key)).map kV := by
  rw [List.map_map]
  rfl
theorem keys_up (M : TL) : keysK (upT M) = (rowT M).map fun k => k.map Sum.inr := by
  unfold keysK upT rowT
  rw [List.map_map, List.map_map]
  rfl
theorem nodup_up {M : TL} (h : (keysK (upT M)).Nodup) : (rowT M).Nodup := by
  rw [keys_up] at h
  exact List.Pairwise.of_map _ (fun _ _ ne e => ne (by rw [e])) h
/-- what is among lifted ones is lifted -/
theorem down {M : TL} : ∀ {L : PK}, (∀ p ∈ L, p ∈ upT M) → ∃ N : TL, L = upT N ∧ ∀ p ∈ N, p ∈ M
  | [], _ => ⟨[], rfl, fun _ h => nomatch h⟩
  | p :: L, h => by
    obtain ⟨N, e, k⟩ := down fun q hq => h q (.tail _ hq)
    obtain ⟨q, hq, eq⟩ := List.mem_map.mp (h p (.head _))
    refine ⟨q :: N, by rw [e, ← eq]; rfl, fun r hr => ?_⟩
    rcases List.mem_cons.mp hr with z | z
    · rw [z]; exact hq
    · exact k r z
theorem mem_up {M : TL} {p : Addr × List Str} : (p.1, p.2.map Sum.inr) ∈ upT M ↔ p ∈ M := by
  unfold upT
  rw [List.mem_map]
  constructor
  · rintro ⟨q, hq, e⟩
    injection e with e1 e2
    have e3 := inr_inj e2
    have : q = p := Prod.ext e1 e3
    rw [← this]
    exact hq
  · exact fun h => ⟨p, h, rfl⟩
theorem up_inj {M N : TL} (h : upT M = upT N) : M = N := by
  induction M generalizing N with
  | nil =>
    cases N with
    | nil => rfl
    | cons _ _ => cases h
  | cons p r ih =>
    cases N with
    | nil => cases h
    | cons q s =>
      have h1 : (p.1, p.2.map (Sum.inr : Str → Key)) :: upT r = (q.1, q.2.map Sum.inr) :: upT s := h
      injection h1 with a b
      injection a with a1 a2
      rw [ih b, Prod.ext a1 (inr_inj a2)]
/-- the set of tuples at a, but for the tuples -/
def St0 (P : Program) (w : World) (h : Heap) (a : Addr) (L : PK) : Prop := ∃ es ep t, (∃ o : Obj, o.ExactSet ∧ h.get? a = some o ∧ o.data = .set es ep t) ∧ es.toList = rowK P w L ∧ TabOk t (hashes P w L) ∧ (keysK L).Nodup ∧ (w.params.followText "set-order" = true ∨ t.led = true) ∧ L.length * 5 < t.mask * 3 ∧ L.length < 64
def TO (P : Program) (w : World) (a : Addr) (M : TL) : HO := .ext fun h => St0 P w h a (upT M)
section
variable {P : Program} {w : World} {A : Around} {E : Value → Shared → Prop} {s : Shared} {a : Addr}
theorem StK.zero {h : Heap} {L : PK} {es : Array (Int × Value)} {ep : Nat} {t : SetTable} (x : StK P w h a L es ep t) : St0 P w h a L := ⟨es, ep, t, x.at_, x.row, x.tab, x.one, x.led, x.room, x.few⟩
theorem St0.full {h : Heap} {L : PK} (x : St0 P w h a L) (tup : ∀ p ∈ L, TuK P w h p.2 p.1) : ∃ es ep t, StK P w h a L es ep t := by
  obtain ⟨es, ep, t, x1, x2, x3, x4, x5, x6, x7⟩ := x
  exact ⟨es, ep, t, x1, x2, x3, x4, tup, x5, x6, x7⟩
theorem to_new {H : Hp} {h : Heap} {M : TL} (x : St0 P w h a (upT M)) : ObjOk P w H h a (TO P w a M) := by
  have ⟨_, _, _, ⟨o, _, g, _⟩, _⟩ := x
  refine ⟨x, ⟨o, g⟩, fun h1 h2 p k => ?_⟩
  have ⟨es, ep, t, ⟨o, x1, x2, x3⟩, r⟩ := (show St0 P w h1 a (upT M) from p)
  exact ⟨es, ep, t, ⟨o, x1, k o x2, x3⟩, r⟩
theorem perm_back {α β : Type} (f : α → β) : ∀ {l : List β} {m : List β}, l.Perm m → ∀ ys : List α, ys.map f = m → ∃ xs : List α, xs.Perm ys ∧ xs.map f = l := by
  intro l m h
  induction h with
  | nil =>
    intro ys e
    exact ⟨ys, .refl _, e⟩
  | cons x _ ih =>
    intro ys e
    cases ys with
    | nil => cases e
    | cons y r =>
      rw [List.map_cons] at e
      injection e with e1 e2
      obtain ⟨xs, p, q⟩ := ih r e2
      exact ⟨y :: xs, p.cons y, by rw [List.map_cons, e1, q]⟩
  | swap x y l =>
    intro ys e
    match ys, e with
    | u :: v :: r, e =>
      rw [List.map_cons, List.map_cons] at e
      injection e with e1 e2
      injection e2 with e2 e3
      exact ⟨v :: u :: r, .swap _ _ _, by rw [List.map_cons, List.map_cons, e1, e2, e3]⟩
  | trans _ _ ih1 ih2 =>
    intro ys e
    obtain ⟨xs, p, q⟩ := ih2 ys e
    obtain ⟨zs, p2, q2⟩ := ih1 xs q
    exact ⟨zs, p2.trans p, q2⟩
theorem sorted_tt {M : TL} {Q : Value → Shared → Prop} (x : St0 P w s.heap a (upT M)) (tup : ∀ p ∈ upT M, TuK P w s.heap p.2 p.1) (ne : ∀ p ∈ M, p.2 ≠ []) (hh : A.handled = none)
    (q : ∀ s' d (out : Array Value) c (N : TL), (∀ b o, s.heap.get? b = some o → s'.heap.get? b = some o) → s'.gens = s.gens → s'.os = s.os → s.heap.objs.size ≤ d → s'.heap.get? d = some (seqObj "list" out c) → out.toList = N.map (fun p => Value.ref p.1) → N.Perm M → Asc1 (lexL ltS) (rowT N) → Q (.ref d) s') :
    wpAny (model P w) A (call (.builtin "sorted") [.ref a]) Q E s := by
  obtain ⟨es, ep, t, x⟩ := x.full tup
  obtain ⟨o, ex, at_, dt⟩ := x.at_
  have few := x.few
  have sz := row_len x.row
  refine Calls.call_function_entry kind_sorted plain_sorted entry_sorted (args_sorted1 _) ?_
  unfold Builtin.«sorted»
  refine wpAny_bind (m := checkCount "sorted" 1 1 _) (wpAny_pure (wpAny_bind (collect_set (A := A.in1) hh ⟨o, at_, ex.1, dt⟩ x.fit (by rw [sz]; unfold scanBound; omega) x.tab.ris x.led fun s1 vs k1 z1 g1 o1 pm => ?_)))
  have rows : es.toList.map (·.2) = M.map fun p => Value.ref p.1 := by
    rw [x.row, rowK, upT, List.map_map, List.map_map]
    rfl
  rw [rows] at pm
  have lM : (upT M).length = M.length := List.length_map _
  rw [lM] at few
  have vl : vs.length < 64 := by
    rw [pm.length_eq, List.length_map]
    exact few
  have mem : ∀ v ∈ vs, ∃ p ∈ M, Value.ref p.1 = v := fun v hv => List.mem_map.mp (pm.mem_iff.mp hv)
  refine wpAny_bind (wpAny_newList ?_ (by rw [sizeLine_eq]; omega))
  have top : (s1.heap.push (seqObj "list" vs.toArray 0)).get? s1.heap.objs.size = some (seqObj "list" vs.toArray 0) := Heap.get?_push_size _ rfl
  have tI : ∀ p ∈ M, TuK P w (s1.heap.push (seqObj "list" vs.toArray 0)) (p.2.map Sum.inr) p.1 := fun p hp => tuK_keep (tup _ (mem_up.mpr hp)) fun u e => Heap.get?_push_of_some _ (k1 _ u e)
  generalize hh2 : s1.heap.push (seqObj "list" vs.toArray 0) = h2 at top tI ⊢
  have tx : ∀ p ∈ M, txtsOf h2 (.ref p.1) = p.2 := fun p hp => txtsOf_tup (tI p hp)
  have T2 : Tot (lexL ltS) := tot_lex tot_ltS
  have nd := nodup_up x.one
  refine wpAny_bind (wpAny_holding (sort_tt (P := P) (w := w) (s := { s1 with heap := h2 }) (rk := fun v => (rank (lexL ltS) (rowT M) (txtsOf h2 v) : Int)) top vl (fun v hv => ?_) (fun u hu v hv => ?_) fun out p1 p2 => ?_))
  · obtain ⟨p, hp, rfl⟩ := mem v hv
    exact ⟨p.1, p.2, rfl, tI p hp, ne p hp⟩
  · obtain ⟨p, hp, rfl⟩ := mem u hu
    have m : txtsOf h2 (.ref p.1) ∈ rowT M := by rw [tx p hp]; exact List.mem_map.mpr ⟨p, hp, rfl⟩
    show lexL ltS (txtsOf h2 (.ref p.1)) (txtsOf h2 v) = _
    rw [rank_lt T2 m]
    exact decide_eq_decide.mpr (by omega)
  · obtain ⟨c, hc⟩ := sortedHeap_at (vs := vs) (out := out) top
    obtain ⟨N, pN, eN⟩ := perm_back (fun p : Addr × List Str => Value.ref p.1) (p1.trans pm) M rfl
    have rN : ∀ p ∈ N, txtsOf h2 (.ref p.1) = p.2 := fun p hp => tx p (pN.mem_iff.mp hp)
    have asc1 : Asc1 (lexL ltS) (rowT N) := by
      have ndN : (rowT N).Nodup := by
        have z : (rowT N).Perm (rowT M) := by unfold rowT; exact pN.map _
        exact z.nodup_iff.mpr nd
      rw [← eN, List.pairwise_map] at p2
      unfold Asc1 rowT
      rw [List.pairwise_map]
      have z := List.Pairwise.and p2 (List.pairwise_map.mp (show (N.map (·.2)).Nodup from ndN))
      refine List.Pairwise.imp_of_mem (fun {u v} hu hv h => ?_) z
      obtain ⟨h1, h3⟩ := h
      rw [rN u hu, rN v hv] at h1
      have mv : v.2 ∈ rowT M := List.mem_map.mpr ⟨v, pN.mem_iff.mp hv, rfl⟩
      cases c1 : lexL ltS u.2 v.2 with
      | true => rfl
      | false =>
        cases c2 : lexL ltS v.2 u.2 with
        | false => exact absurd (T2.tot _ _ c1 c2) h3
        | true =>
          rw [rank_lt T2 mv] at c2
          have := of_decide_eq_true c2
          omega
    refine wpAny_pure ⟨_, rfl, q _ s1.heap.objs.size out c N (fun b u e => ?_) g1 o1 z1 hc eN.symm pN asc1⟩
    have q := k1 b u e
    have lt := Heap.lt_size q
    show (sortedHeap h2 s1.heap.objs.size vs out).get? b = some u
    rw [sortedHeap_old (Nat.ne_of_lt lt) (by rw [← hh2, size_push']; exact Nat.lt_succ_of_lt lt), ← hh2]
    exact Heap.get?_push_of_some _ q
end
section
variable {X : Cx}
theorem Inv.tuk {pins : List (Addr × Obj)} {σ : L2.St} {H : Hp} {s : Shared} {b : Addr} {k : List Key} (I : Inv X pins σ H s) (h : SqT X.K H b (k.map kV)) : TuK X.prog X.w s.heap k b := by
  obtain ⟨its, r, ⟨o, g, c, n, d⟩, _⟩ := I.tuple h
  exact ⟨o, its.toArray, n, g, c, d, by simpa using items_are r⟩
theorem at_up {pins : List (Addr × Obj)} {σ : L2.St} {H : Hp} {s : Shared} {M : TL} (I : Inv X pins σ H s) (h : AtT X.K H M) : ∀ p ∈ upT M, TuK X.prog X.w s.heap p.2 p.1 := fun p hp => by
  obtain ⟨q, hq, rfl⟩ := List.mem_map.mp hp
  exact Inv.tuk I (by rw [← map_str]; exact h q hq)
theorem vals_refT : ∀ M : TL, Vals (refT M) (M.map fun p => Value.ref p.1)
  | [] => .nil
  | _ :: r => .cons rfl (vals_refT r)
theorem refT_vals : ∀ {M : TL} {us : List Value}, Vals (refT M) us → us = M.map fun p => Value.ref p.1
  | [], _, .nil => rfl
  | p :: r, _, .cons z t => by
    cases z
    rw [refT_vals t]
    rfl
/-- set(xs), xs a list or a tuple of tuples of texts -/
def rSetTT (K : PySem.W.Frag) (P : Program) (w : World) : List V → Hp → VK → Prop := fun xs H Q => ∃ (l : Addr) (M : TL), xs = [.ref l] ∧ (SqL K H l (refT M) ∨ SqT K H l (refT M)) ∧ AtT K H M ∧ M.length < 63 ∧
  ∀ a N, H a = none → (∀ p ∈ N, p ∈ M) → (∀ p ∈ M, p.2 ∈ rowT N) → (rowT N).Nodup → Q (.ref a) (upd H a (TO P w a N))
theorem cr_setTT (hc : X.calm = true) (hu : X.A.units + 4 < cLine) : CallR X (.type "set") (rSetTT X.K X.prog X.w) := by
  intro pins s σ H xs us Q I r h
  obtain ⟨l, M, rfl, hl, at_, few, q⟩ := h
  rw [Vals.ref1 r]
  have fin : ∀ h' tk L es ep t, StK X.prog X.w h' s.heap.objs.size L es ep t → (∀ p ∈ L, p ∈ upT M) → (∀ p ∈ upT M, p.2 ∈ keysK L) → (∀ b o, s.heap.get? b = some o → h'.get? b = some o) → EP X pins σ Q (.ref s.heap.objs.size) { s with heap := h', toks := tk } := fun h' tk L es ep t x m1 m2 kp => by
    obtain ⟨N, rfl, sub⟩ := down m1
    refine ⟨.ref s.heap.objs.size, upd H s.heap.objs.size (TO X.prog X.w s.heap.objs.size N), I.laid (t' := tk) kp (Nat.le_refl _) (to_new x.zero), rfl, q _ N (I.hok.fresh (Nat.le_refl _)) sub (fun p hp => ?_) (nodup_up x.one)⟩
    have z := m2 _ (mem_up.mpr hp)
    rw [keys_up] at z
    obtain ⟨k, hk, e⟩ := List.mem_map.mp z
    rw [← inr_inj e]
    exact hk
  have lM : (upT M).length = M.length := List.length_map _
  have rows : M.map (fun p => Value.ref p.1) = (upT M).map fun p => Value.ref p.1 := by
    unfold upT
    rw [List.map_map]
    rfl
  rcases hl with hl | hl
  · obtain ⟨its, rv, pl, hz⟩ := I.list hl
    exact call_set_t (all := upT M) (I.ok.hd hc) (.inl pl.isList) (by rw [← rows]; simpa using refT_vals rv) (by omega) (at_up I at_) hu fin
  · obtain ⟨its, rv, pl, hz⟩ := I.tuple hl
    exact call_set_t (all := upT M) (I.ok.hd hc) (.inr (show s.heap.IsTuple l its.toArray from pl)) (by rw [← rows]; simpa using refT_vals rv) (by omega) (at_up I at_) hu fin
/-- sorted(s), s such a set, none of the tuples empty -/
def rSortedTT (K : PySem.W.Frag) (P : Program) (w : World) : List V → Hp → VK → Prop := fun xs H Q => ∃ (a : Addr) (M : TL), xs = [.ref a] ∧ H a = some (TO P w a M) ∧ AtT K H M ∧ (∀ p ∈ M, p.2 ≠ []) ∧ ∀ N p, H p = none → N.Perm M → Asc1 (lexL ltS) (rowT N) → Q (.ref p) (upd H p (.lst (refT N)))
theorem cr_sortedTT (hc : X.calm = true) : CallR X (.builtin "sorted") (rSortedTT X.K X.prog X.w) := by
  intro pins s σ H xs us Q I r h
  obtain ⟨a, M, rfl, ha, at_, ne, q⟩ := h
  rw [Vals.ref1 r]
  have x : St0 X.prog X.w s.heap a (upT M) := (I.hok a _ ha).1
  have fM : M.length < 64 := by
    obtain ⟨_, _, _, _, _, _, _, _, _, z⟩ := x
    have lM : (upT M).length = M.length := List.length_map _
    omega
  refine sorted_tt x (at_up I at_) ne (I.ok.hd hc) fun s' d out c N k g o hd hg e pN asc1 => ?_
  have nn : H d = none := I.hok.fresh hd
  have zl : (refT N).length ≤ sizeLine := by
    unfold refT
    rw [List.length_map, pN.length_eq, sizeLine_eq]
    omega
  have rel : Vals (refT N) out.toList := by rw [e]; exact vals_refT N
  have J : Inv X pins σ (upd H d (.lst (refT N))) { s with heap := s'.heap, gens := s'.gens, drawn := s'.drawn, toks := s'.toks } :=
    I.call (ch := []) (Un.laid k hd nn) (I.hok.laid k hd ⟨zl, out.toList, c, rel, hg⟩) (g ▸ I.bare) fun _ z => nomatch z
  obtain ⟨hp, gs, dr, tk, os⟩ := s'
  obtain ⟨hp0, gs0, dr0, tk0, os0⟩ := s
  cases o
  exact ⟨.ref d, _, J, rfl, q N d nn pN asc1⟩
end
end K1
set_option linter.all false
set_option maxRecDepth 100000
set_option maxHeartbeats 2000000
/-! {k: v for t0 in i0 for t1 in i1}, keys ints and texts -/
namespace K1
open PySem PySem.Spec PyProof.Rows L2
theorem if_go {α : Type} {M : Model} {A : Around} {E : Value → Shared → Prop} {s : Shared} {x y : Sem α} {Q : α → Shared → Prop} (h : wpAny M A x Q E s) : wpAny M A (if true = true then x else y) Q E s := by
  rw [if_pos rfl]
  exact h
abbrev D2 (kx vx t0 i0 t1 i1 : Expr) (sc : Scope) (pos : Pos) : Expr := .DictComp kx vx [⟨t0, i0, [], 0⟩, ⟨t1, i1, [], 0⟩] sc pos
theorem turn_out (kx vx t0 i0 t1 i1 : Expr) (sc : Scope) (pos : Pos) (it acc : Value) (env : Env) : compTurn (D2 kx vx t0 i0 t1 i1 sc pos) 0 it acc env = (do
    standAt i0.pos
    match ← pyNext it with
    | none => pure (.done .next)
    | some v => do
      letOwnedTupleGo t0 it v
      assign t0 env v
      let mut go := true
      for c in ([] : List Expr) do
        if go then go ← isTrue c env (eval c env)
      if go then
        let x ← eval i1 env
        standAt i1.pos
        let x ← foldedSetIterable i1 env x
        let _ ← runOwn (.compStart (D2 kx vx t0 i0 t1 i1 sc pos) 1 (← holding [x] (pyIter x)) acc env) env
      again (.compLoop (D2 kx vx t0 i0 t1 i1 sc pos) 0 it acc env)) := by rfl
theorem turn_in (kx vx t0 i0 t1 i1 : Expr) (sc : Scope) (pos : Pos) (it : Value) (D : Addr) (env : Env) : compTurn (D2 kx vx t0 i0 t1 i1 sc pos) 1 it (.ref D) env = (do
    standAt i1.pos
    match ← pyNext it with
    | none => pure (.done .next)
    | some v => do
      letOwnedTupleGo t1 it v
      assign t1 env v
      let mut go := true
      for c in ([] : List Expr) do
        if go then go ← isTrue c env (eval c env)
      if go then
        (do
          let a ← eval kx env
          let b ← holding [a] (eval vx env)
          standAt { kx.pos with endLine := vx.pos.endLine, endCol := vx.pos.endCol }
          holding [a, b] (dictSet D a b))
      again (.compLoop (D2 kx vx t0 i0 t1 i1 sc pos) 1 it (.ref D) env)) := by rfl
section
variable {prog : Program} {w : World} {A : Around} {R : Result → Shared → Prop} {s : Shared} {kx vx t0 i0 t1 i1 : Expr} {sc : Scope} {pos : Pos} {it acc : Value} {D : Addr} {env : Env}
/-- what is raised within is noted -/
abbrev Noted (prog : Program) (w : World) (A : Around) (R : Result → Shared → Prop) (env : Env) : Value → Shared → Prop := notedBy (model prog w) A env fun e s' => R (.error e) s'
theorem loop_out (hs : ∀ x, foldedSetIterable i1 env x = pure x) (I : Nat → Shared → Prop)
    (turn : ∀ n s, I n s → wpAny (model prog w) A (pyNext it) (fun r s1 => match r with
      | none => R (.ok .next) s1
      | some v => wpAny (model prog w) A (letOwnedTupleGo t0 it v) (fun _ s2 => wpAny (model prog w) A (assign t0 env v) (fun _ s3 => wpAny (model prog w) A (eval i1 env) (fun x s4 => wpAny (model prog w) A (pyIter x) (fun j s5 =>
          codeAny (model prog w) A (.compStart (D2 kx vx t0 i0 t1 i1 sc pos) 1 j acc env) (fun r s' => match r with
            | .ok _ => ∃ m, m < n ∧ I m s'
            | .error _ => False) s5) (Noted prog w A R env) s4) (Noted prog w A R env) s3) (Noted prog w A R env) s2) (Noted prog w A R env) s1) (Noted prog w A R env) s)
    (n : Nat) (h : I n s) : codeAny (model prog w) A (.compLoop (D2 kx vx t0 i0 t1 i1 sc pos) 0 it acc env) R s := by
  refine codeAny_loop rfl I (fun n s hI => ?_) n h
  show wpAny _ A ((compTurn (D2 kx vx t0 i0 t1 i1 sc pos) 0 it acc env).onRaise (fun x => do noteFrame x env; theTreesLotGoes x)) _ _ s
  refine wpAny_noted ?_
  rw [turn_out]
  refine wpAny_bind (wpAny_standAt (wpAny_bind (wpAny_mono (turn n s hI) (fun r s1 h1 => ?_) fun _ _ z => z)))
  cases r with
  | none => exact wpAny_pure h1
  | some v =>
    refine wpAny_bind (wpAny_mono h1 (fun _ s2 h2 => wpAny_bind (wpAny_mono h2 (fun _ s3 h3 => ?_) fun _ _ z => z)) fun _ _ z => z)
    refine wpAny_bind (m := forIn _ _ _) ?_
    rw [List.forIn_nil]
    refine wpAny_pure (if_go ?_)
    refine wpAny_bind (wpAny_mono h3 (fun x s4 h4 => ?_) fun _ _ z => z)
    refine wpAny_bind (wpAny_standAt (wpAny_bind (wpAny_of_eq (hs x) (wpAny_bind (wpAny_holding (wpAny_mono h4 (fun j s5 h5 => ?_) fun _ _ z => z))))))
    refine wpAny_bind (wpAny_runOwn ?_)
    rw [Around.mark_none]
    refine codeAny_mono h5 fun r s' hr => ?_
    cases r with
    | ok f =>
      first
        | exact wpAny_pure ⟨rfl, hr⟩
        | exact wpAny_bind (wpAny_pure (wpAny_pure ⟨rfl, hr⟩))
    | error e => exact hr.elim
theorem loop_in (I : Nat → Shared → Prop)
    (turn : ∀ n s, I n s → wpAny (model prog w) A (pyNext it) (fun r s1 => match r with
      | none => R (.ok .next) s1
      | some v => wpAny (model prog w) A (letOwnedTupleGo t1 it v) (fun _ s2 => wpAny (model prog w) A (assign t1 env v) (fun _ s3 => wpAny (model prog w) A (eval kx env) (fun a s4 => wpAny (model prog w) A (eval vx env) (fun b s5 =>
          wpAny (model prog w) A (dictSet D a b) (fun _ s6 => ∃ m, m < n ∧ I m s6) (Noted prog w A R env) s5) (Noted prog w A R env) s4) (Noted prog w A R env) s3) (Noted prog w A R env) s2) (Noted prog w A R env) s1) (Noted prog w A R env) s)
    (n : Nat) (h : I n s) : codeAny (model prog w) A (.compLoop (D2 kx vx t0 i0 t1 i1 sc pos) 1 it (.ref D) env) R s := by
  refine codeAny_loop rfl I (fun n s hI => ?_) n h
  show wpAny _ A ((compTurn (D2 kx vx t0 i0 t1 i1 sc pos) 1 it (.ref D) env).onRaise (fun x => do noteFrame x env; theTreesLotGoes x)) _ _ s
  refine wpAny_noted ?_
  rw [turn_in]
  refine wpAny_bind (wpAny_standAt (wpAny_bind (wpAny_mono (turn n s hI) (fun r s1 h1 => ?_) fun _ _ z => z)))
  cases r with
  | none => exact wpAny_pure h1
  | some v =>
    refine wpAny_bind (wpAny_mono h1 (fun _ s2 h2 => wpAny_bind (wpAny_mono h2 (fun _ s3 h3 => ?_) fun _ _ z => z)) fun _ _ z => z)
    refine wpAny_bind (m := forIn _ _ _) ?_
    rw [List.forIn_nil]
    refine wpAny_pure (if_go ?_)
    exact wpAny_bind (wpAny_bind (wpAny_mono h3 (fun a s4 h4 => wpAny_bind (wpAny_holding (wpAny_mono h4 (fun b s5 h5 => wpAny_bind (wpAny_standAt (wpAny_holding (wpAny_mono h5 (fun _ s6 h6 => wpAny_pure ⟨rfl, h6⟩) fun _ _ z => z)))) fun _ _ z => z))) fun _ _ z => z))
theorem start_in (h0 : codeAny (model prog w) A (.compLoop (D2 kx vx t0 i0 t1 i1 sc pos) 1 it acc env) R s)
    (h : wpAny (model prog w) A (pyIter it) (fun j s' => codeAny (model prog w) A (.compLoop (D2 kx vx t0 i0 t1 i1 sc pos) 1 j acc env) R s') (Noted prog w A R env) s) :
    codeAny (model prog w) A (.compStart (D2 kx vx t0 i0 t1 i1 sc pos) 1 it acc env) R s := by
  refine codeAny_of_tree ?_
  show wpAny _ _ ((compStart (D2 kx vx t0 i0 t1 i1 sc pos) 1 it acc env).onRaise (fun x => do noteFrame x env; standAt theWindowsPlace)) _ _ s
  refine wpAny_notedAt ?_
  unfold compStart
  refine wpAny_bind (m := ask) (wpAny_askSetting (wpAny_ite ?_))
  split
  · first
      | exact wpAny_bind (wpAny_pure (wpAny_pure (And.intro rfl h0)))
      | exact wpAny_pure (And.intro rfl h0)
  · first
      | exact wpAny_bind (wpAny_rule (wpAny_bind (wpAny_standAt (wpAny_bind (wpAny_mono h (fun j s' z => wpAny_pure (And.intro rfl z)) fun _ _ x => x)))))
      | (refine wpAny_bind (wpAny_rule ?_); show wpAny _ _ (standAt i1.pos >>= _) _ _ s; exact wpAny_bind (wpAny_standAt (wpAny_bind (wpAny_mono h (fun j s' z => wpAny_pure (And.intro rfl z)) fun _ _ x => x))))
end
end K1
set_option linter.all false
set_option maxRecDepth 100000
set_option maxHeartbeats 2000000
namespace K1
open PySem PySem.Spec PyProof.Rows L2
/-- the second clause: from the heap that it begins with to what Nx says -/
def tDcIn (wi1 : TI) (g1 : TG) (tk tv : TE) (vs1 : List Nat) (D : Addr) (Nx : Hp → Prop) (σ2 : L2.St) (H3 : Hp) : Prop := wi1 σ2 H3 fun J1 H4 => ∃ W1 : Nat → Nat → Hp → Prop, (∃ m, W1 0 m H4) ∧ ∀ j k H, W1 j k H →
  (J1.stop j H ∧ Nx H) ∨ (J1.go j H ∧ ∃ N1 : Hp → Prop, (∀ H', N1 H' → ∃ k', k' < k ∧ W1 (j + 1) k' H') ∧ ∀ x H', J1.yld j H x H' → g1 x (wipe σ2 vs1) H' fun σ3 H5 => wipe σ3 vs1 = wipe σ2 vs1 ∧ tk σ3 H5 fun a H6 => tv σ3 H6 fun b H7 =>
    ∃ kvs k, a = kV k ∧ H7 D = some (.dK kvs) ∧ kvs.length < sizeLine ∧ N1 (upd H7 D (.dK (putK kvs k b))))
def tDc2 (wi : TI) (g : TG) (wi1 : TI) (g1 : TG) (tk tv : TE) (vs vs1 : List Nat) : TE := fun σ H Q => wi σ H fun J H1 => ∀ D, H1 D = none → ∃ W : Nat → Nat → Hp → Prop, (∃ m, W 0 m (upd H1 D (.dK []))) ∧ ∀ i m H, W i m H →
  (J.stop i H ∧ Q (.ref D) H) ∨ (J.go i H ∧ ∃ Nx : Hp → Prop, (∀ H', Nx H' → ∃ m', m' < m ∧ W (i + 1) m' H') ∧ ∀ x H', J.yld i H x H' → g x (wipe σ vs) H' fun σ2 H2 => wipe σ2 vs = wipe σ vs ∧ tDcIn wi1 g1 tk tv vs1 D Nx σ2 H2)
section
variable {X : Cx} {kx vx t0 i0 t1 i1 : Expr} {scope : Scope} {own : List (Str × Nat)} {vs1 : List Nat} {pos : Pos} {wi wi1 : TI} {g g1 : TG} {tk tv : TE}
theorem pe_dc2 (hc : X.calm = true) (hN : X.N.Nodup) (hi : PI X t0 i0 wi) (ok : BlkOk X.N X.env.scope scope own) (hv : ∀ i ∈ vs1, i ∈ own.map (·.2))
    (pg : ∀ (s : Shared) (H : Hp) (C : Addr) (cl : List (Str × Addr)) (fp : List Addr), PG (X.blk s H scope (compEnvC scope cl C X.env) fp) t0 g)
    (pj : ∀ (s : Shared) (H : Hp) (C : Addr) (cl : List (Str × Addr)) (fp : List Addr), PI (X.blk s H scope (compEnvC scope cl C X.env) fp) t1 i1 wi1)
    (pg1 : ∀ (s : Shared) (H : Hp) (C : Addr) (cl : List (Str × Addr)) (fp : List Addr), PG (X.blk s H scope (compEnvC scope cl C X.env) fp) t1 g1)
    (pk : ∀ (s : Shared) (H : Hp) (C : Addr) (cl : List (Str × Addr)) (fp : List Addr), PE (X.blk s H scope (compEnvC scope cl C X.env) fp) kx tk)
    (pv' : ∀ (s : Shared) (H : Hp) (C : Addr) (cl : List (Str × Addr)) (fp : List Addr), PE (X.blk s H scope (compEnvC scope cl C X.env) fp) vx tv)
    (fs : ∀ x, foldedSetIterable i0 X.env x = pure x := by intro _; rfl) (fs1 : ∀ env x, foldedSetIterable i1 env x = pure x := by intro _ _; rfl) :
    PE X (D2 kx vx t0 i0 t1 i1 scope pos) (tDc2 wi g wi1 g1 tk tv (own.map (·.2)) vs1) := by
  refine ⟨fun pins s σ H Q I h => ?_⟩
  unfold D2
  rw [arm_eval_DictComp]
  have clo : ∀ y ∈ scope.names, y.2 = .free → ∃ c, X.env.cells.lookup y.1 = some c := fun y hy e =>
    (ok.free y hy e).elim (fun z => I.ok.has _ (.inl z)) fun z => I.ok.has _ (.inr z)
  refine wpAny_comprehension_free (use := _) rfl fs (closure_ok clo) ok.kind (fun y hy e => by rw [ok.uniq y hy, e]) (thn (hi.run pins s σ H _ I h) fun _ s1 z1 => thn z1 fun _ s2 z2 => ?_)
  obtain ⟨it, fp, tn, J, H2, rfl, I2, T, st2, f2, q⟩ := z2
  refine wpAny_newObj_type (newEnv_comp ?_)
  have free2 : H2 s2.heap.objs.size = none := I2.hok.fresh (Nat.le_refl _)
  obtain ⟨W, ⟨m0, w0⟩, turn⟩ := q s2.heap.objs.size free2
  have below : ∀ b ∈ fp, b < s2.heap.objs.size := fun b hb => (T.obj _ _ st2 b hb).elim fun o z => Heap.lt_size z.1
  obtain ⟨s3, e3⟩ : ∃ s3 : Shared, s3 = { s2 with heap := s2.heap.push { cls := .type "dict", data := .dict #[] } } := ⟨_, rfl⟩
  have h3 : s3.heap = s2.heap.push { cls := .type "dict", data := .dict #[] } := by rw [e3]
  have keep3 : ∀ b o, s2.heap.get? b = some o → s3.heap.get? b = some o := fun b o e => by rw [h3]; exact Heap.get?_push_of_some _ e
  obtain ⟨D, eD⟩ : ∃ D, D = s2.heap.objs.size := ⟨_, rfl⟩
  rw [← eD] at w0 turn free2
  have I3 : Inv X pins σ (upd H2 D (.dK [])) s3 := by
    rw [e3, eD]
    exact I2.laid (t' := s2.toks) (fun b o e => Heap.get?_push_of_some _ e) (Nat.le_refl _) (dk_empty s2.heap I2.big)
  obtain ⟨H3, eH⟩ : ∃ H3, H3 = upd H2 D (.dK []) := ⟨_, rfl⟩
  rw [← eH] at I3 w0
  have f3 : ∀ b ∈ fp, FpOk X pins H3 b ∧ b < s3.heap.objs.size := fun b hb => by
    have lt := below b hb
    have nD : H3 b = none := by
      rw [eH, upd_ne (by rw [eD]; exact Nat.ne_of_lt lt)]
      exact (f2 b hb).1
    exact ⟨⟨nD, (f2 b hb).2⟩, by rw [h3, Heap.size_push]; exact Nat.lt_succ_of_lt lt⟩
  have st3 : tn 0 s3.heap := T.keep _ _ _ st2 fun b _ o e => keep3 b o e
  have I4 := block_start I3 ok hN f3
  have G := pg s3 H3 s3.heap.objs.size (cellsFrom (s3.heap.objs.size + 1) scope.names (cloFrom X.env.cells scope.names [])) fp
  have Jj := pj s3 H3 s3.heap.objs.size (cellsFrom (s3.heap.objs.size + 1) scope.names (cloFrom X.env.cells scope.names [])) fp
  have G1 := pg1 s3 H3 s3.heap.objs.size (cellsFrom (s3.heap.objs.size + 1) scope.names (cloFrom X.env.cells scope.names [])) fp
  have Kk := pk s3 H3 s3.heap.objs.size (cellsFrom (s3.heap.objs.size + 1) scope.names (cloFrom X.env.cells scope.names [])) fp
  have Vv := pv' s3 H3 s3.heap.objs.size (cellsFrom (s3.heap.objs.size + 1) scope.names (cloFrom X.env.cells scope.names [])) fp
  rw [← h3, ← eD]
  show codeAny _ _ (.compStart (D2 kx vx t0 i0 t1 i1 scope pos) 0 (.ref it) (.ref D) (compEnvC scope (cellsFrom (s3.heap.objs.size + 1) scope.names (cloFrom X.env.cells scope.names [])) s3.heap.objs.size X.env)) _ _
  obtain ⟨ce, ec⟩ : ∃ ce, ce = compEnvC scope (cellsFrom (s3.heap.objs.size + 1) scope.names (cloFrom X.env.cells scope.names [])) s3.heap.objs.size X.env := ⟨_, rfl⟩
  have cL : ce.locals = s3.heap.objs.size := by rw [ec]; rfl
  rw [← ec] at I4 G Jj G1 Kk Vv ⊢
  obtain ⟨s4, e4⟩ : ∃ s4 : Shared, s4 = { s3 with heap := pushCells (s3.heap.push { cls := .type "dict", data := .dict #[] }) scope.names } := ⟨_, rfl⟩
  have es : ({ s2 with heap := pushCells (s3.heap.push { cls := .type "dict", data := .dict #[] }) scope.names } : Shared) = s4 := by rw [e4, e3]
  rw [es]
  rw [← e4] at I4
  have st4 : tn 0 s4.heap := T.keep _ _ _ st3 fun b _ o e => by rw [e4]; exact pushCells_keeps _ _ _ _ (Heap.get?_push_of_some _ e)
  have fpNow : ∀ {σ' : L2.St} {H' : Hp} {s' : Shared}, Inv (X.blk s3 H3 scope ce fp) [] σ' H' s' → (∀ b ∈ fp, H' b = none) → ∀ b ∈ fp, FpOk (X.blk s3 H3 scope ce fp) [] H' b := fun J' hn b hb =>
    ⟨hn b hb, (J'.ok.exf b hb).1, J'.ok.exfs b hb, .inl hb, fun x c e => (J'.ok.exf b hb).2 x c e, fun p hp => nomatch (show p ∈ ([] : List (Addr × Obj)) from hp)⟩
  refine codeAny_compStart_dict ?_ (T.self X.A 0 _ _ _ st4 ?_)
  all_goals
    refine loop_out (fs1 ce) (fun n s' => ∃ i H', Inv (X.blk s3 H3 scope ce fp) [] (wipe σ (own.map (·.2))) H' s' ∧ tn i s'.heap ∧ (∀ b ∈ fp, H' b = none) ∧ W i n H') ?_ m0 ⟨0, H3, I4, st4, fun b hb => (f3 b hb).1.1, w0⟩
    rintro n s5 ⟨i, H5, I5, st5, n5, w5⟩
    rcases turn i n H5 w5 with ⟨stop, qq⟩ | ⟨go, Nx, hNx, step⟩
    · refine thnF (T.done (X.blk s3 H3 scope ce fp) rfl rfl rfl hc i [] s5 _ H5 (fun _ _ => False) I5 (fpNow I5 n5) st5 stop) fun r s6 ⟨hr, I6⟩ => ?_
      subst hr
      have I7 : Inv X pins σ H5 s6 := I3.call' (ch := fp) I6.os I6.base I6.hok I6.bare fun b hb =>
        have f := (f3 b hb).1.2
        ⟨f.2.2.1, f.1, f.2.2.2.1, f.2.2.2.2⟩
      obtain ⟨m, hn, _⟩ := I6.loc
      have hn' : s6.heap.Ns ce.locals m := hn
      have nC : H5 ce.locals = none := I6.free
      rw [cL] at hn' nC
      obtain ⟨g0, g1, g2, g3, g4, g5⟩ := I3.fpOk (Nat.le_refl _) nC
      exact ⟨m, hn', fun h2 sb => ⟨.ref D, H5, I7.turned (t' := s6.toks) (fun b o hb e => (sb.2 b hb).trans e) g0 g1 g3 g4 g5, rfl, qq⟩⟩
    · refine thnF (T.item (X.blk s3 H3 scope ce fp) rfl rfl rfl hc i [] s5 _ H5 (fun _ _ => False) I5 (fpNow I5 n5) st5 go) fun r s6 ⟨u, hr, z6⟩ => ?_
      subst hr
      refine thnF z6 fun _ s7 ⟨x, H7, I7, r7, y7, st7, n7⟩ => ?_
      refine thnF (G.run _ s7 _ H7 x u _ (I7.pinned (fpNow I7 n7) (T.obj _ _ st7)) r7 (step x H7 y7)) fun _ s8 ⟨σ8, H8, I8, hw8, q8⟩ => ?_
      have l8 : (wipe σ (own.map (·.2))).length = σ8.length := by rw [← hw8, wipe_length]
      have k9 : ∀ (j : Nat) v, (wipe σ (own.map (·.2)))[j]? = some (some v) → (wipe σ8 vs1)[j]? = some (some v) := fun j v e => by
        rw [← hw8] at e
        obtain ⟨e1, e2⟩ := wipe_some e
        rw [wipe_out fun z => e2 (hv j z)]
        exact e1
      have again : ∀ {s' : Shared} {H' : Hp}, Inv (X.blk s3 H3 scope ce fp) ([] ++ pinsAt fp s7.heap) (wipe σ8 vs1) H' s' → Nx H' → ∃ m, m < n ∧ ∃ i H', Inv (X.blk s3 H3 scope ce fp) [] (wipe σ (own.map (·.2))) H' s' ∧ tn i s'.heap ∧ (∀ b ∈ fp, H' b = none) ∧ W i m H' := fun {s' H'} J' nx => by
        obtain ⟨m', lt, w'⟩ := hNx H' nx
        have pinned : ∀ b ∈ fp, ∀ o, s7.heap.get? b = some o → s'.heap.get? b = some o ∧ H' b = none := fun b hb o e =>
          have z := J'.pin (b, o) (List.mem_append_right _ (List.mem_append_right _ (mem_pinsAt hb e)))
          ⟨z.1, z.2.1⟩
        refine ⟨m', lt, i + 1, H', (J'.unpinned (pins := [])).weak (l8.trans (wipe_length _ _).symm) k9, T.keep _ _ _ st7 fun b hb o e => (pinned b hb o e).1, fun b hb => ?_, w'⟩
        exact (T.obj _ _ st7 b hb).elim fun o z => (pinned b hb o z.1).2
      refine thnF (Jj.run _ s8 σ8 H8 _ I8 q8) fun _ s9 z9 => thnF z9 fun _ s10 z10 => ?_
      obtain ⟨it1, fp1, tn1, J1, H10, e1, I10, T1, st10, f10, W1, ⟨m1, w1⟩, turn1⟩ := z10
      subst e1
      have fp1Now : ∀ {H' : Hp}, (∀ b ∈ fp1, H' b = none) → ∀ b ∈ fp1, FpOk (X.blk s3 H3 scope ce fp) ([] ++ pinsAt fp s7.heap) H' b := fun hn b hb => ⟨hn b hb, (f10 b hb).2⟩
      have inner : codeAny (model X.prog X.w) X.A (.compLoop (D2 kx vx t0 i0 t1 i1 scope pos) 1 (.ref it1) (.ref D) ce) (fun r s' => match r with
          | .ok _ => ∃ m, m < n ∧ ∃ i H', Inv (X.blk s3 H3 scope ce fp) [] (wipe σ (own.map (·.2))) H' s' ∧ tn i s'.heap ∧ (∀ b ∈ fp, H' b = none) ∧ W i m H'
          | .error _ => False) s10 := by
        refine loop_in (fun k s' => ∃ j H', Inv (X.blk s3 H3 scope ce fp) ([] ++ pinsAt fp s7.heap) (wipe σ8 vs1) H' s' ∧ tn1 j s'.heap ∧ (∀ b ∈ fp1, H' b = none) ∧ W1 j k H') ?_ m1 ⟨0, H10, I10.weak (wipe_length _ _) (fun j v e => (wipe_some e).1), st10, fun b hb => (f10 b hb).1, w1⟩
        rintro k s11 ⟨j, H11, I11, st11, n11, w11⟩
        rcases turn1 j k H11 w11 with ⟨stop1, nx1⟩ | ⟨go1, N1, hN1, step1⟩
        · refine thnF (T1.done (X.blk s3 H3 scope ce fp) rfl rfl rfl hc j _ s11 (wipe σ8 vs1) H11 (fun _ _ => False) I11 (fp1Now n11) st11 stop1) fun r s12 ⟨hr, I12⟩ => ?_
          subst hr
          exact again I12 nx1
        · refine thnF (T1.item (X.blk s3 H3 scope ce fp) rfl rfl rfl hc j _ s11 (wipe σ8 vs1) H11 (fun _ _ => False) I11 (fp1Now n11) st11 go1) fun r s12 ⟨u1, hr, z12⟩ => ?_
          subst hr
          refine thnF z12 fun _ s13 ⟨x1, H13, I13, r13, y13, st13, n13⟩ => ?_
          refine thnF (G1.run _ s13 (wipe σ8 vs1) H13 x1 u1 _ (I13.pinned (fp1Now n13) (T1.obj _ _ st13)) r13 (step1 x1 H13 y13)) fun _ s14 ⟨σ14, H14, I14, hw14, q14⟩ => ?_
          have again1 : ∀ {s' : Shared} {H' : Hp}, Inv (X.blk s3 H3 scope ce fp) (([] ++ pinsAt fp s7.heap) ++ pinsAt fp1 s13.heap) σ14 H' s' → N1 H' → ∃ m, m < k ∧ ∃ j H', Inv (X.blk s3 H3 scope ce fp) ([] ++ pinsAt fp s7.heap) (wipe σ8 vs1) H' s' ∧ tn1 j s'.heap ∧ (∀ b ∈ fp1, H' b = none) ∧ W1 j m H' := fun {s' H'} J' nx => by
            obtain ⟨m', lt, w'⟩ := hN1 H' nx
            have pinned : ∀ b ∈ fp1, ∀ o, s13.heap.get? b = some o → s'.heap.get? b = some o ∧ H' b = none := fun b hb o e =>
              have z := J'.pin (b, o) (List.mem_append_right _ (List.mem_append_right _ (mem_pinsAt hb e)))
              ⟨z.1, z.2.1⟩
            refine ⟨m', lt, j + 1, H', J'.unpinned.weak (by rw [← hw14, wipe_length]) (fun j v e => by rw [← hw14] at e; exact (wipe_some e).1), T1.keep _ _ _ st13 fun b hb o e => (pinned b hb o e).1, fun b hb => ?_, w'⟩
            exact (T1.obj _ _ st13 b hb).elim fun o z => (pinned b hb o z.1).2
          refine thnF (Kk.run _ s14 σ14 H14 _ I14 q14) fun z s15 ⟨yk, H15, I15, r15, q15⟩ => ?_
          refine thnF (Vv.run _ s15 σ14 H15 _ I15 q15) fun z' s16 ⟨yv, H16, I16, r16, kvs, kk, ek, hD, hz, nx⟩ => ?_
          subst ek
          exact d_dictSet (X := X.blk s3 H3 scope ce fp) I16 hD hz r15 r16 fun s17 I17 => again1 I17 nx
      exact start_in inner (T1.self X.A 0 _ _ _ st10 inner)
end
/-- over two walks: Pv by the outer turn and the heap, Pi by both -/
theorem dc2_it {J : It} {n : Nat} {G : Hp → Prop} {Y : Nat → Hp → V → Hp → Prop} (w : Walk J n G Y) {g : TG} {wi1 : TI} {g1 : TG} {tk tv : TE} {vs vs1 : List Nat} {σ : L2.St} {H1 : Hp} {D : Addr} {Qd : Hp → Prop} (Pv : Nat → Hp → Prop) (h0 : Pv 0 (upd H1 D (.dK []))) (hG : ∀ i H, i ≤ n → Pv i H → G H)
    (hs : ∀ i x H H', i < n → Pv i H → Y i H x H' → g x (wipe σ vs) H' fun σ2 H2 => wipe σ2 vs = wipe σ vs ∧ tDcIn wi1 g1 tk tv vs1 D (Pv (i + 1)) σ2 H2) (hd : ∀ H, Pv n H → Qd H) :
    ∃ W : Nat → Nat → Hp → Prop, (∃ m, W 0 m (upd H1 D (.dK []))) ∧ ∀ i m H, W i m H →
      (J.stop i H ∧ Qd H) ∨ (J.go i H ∧ ∃ Nx : Hp → Prop, (∀ H', Nx H' → ∃ m', m' < m ∧ W (i + 1) m' H') ∧ ∀ x H', J.yld i H x H' → g x (wipe σ vs) H' fun σ2 H2 => wipe σ2 vs = wipe σ vs ∧ tDcIn wi1 g1 tk tv vs1 D Nx σ2 H2) := by
  refine ⟨fun i m H => (m + i = n) ∧ Pv i H, ⟨n, rfl, h0⟩, ?_⟩
  rintro i m H ⟨e, p⟩
  have q := hG i H (by omega) p
  rcases Nat.lt_or_ge i n with c | c
  · exact .inr ⟨w.goes i H c q, Pv (i + 1), fun H' p' => ⟨m - 1, by omega, by omega, p'⟩, fun x H' y => hs i x H H' c p (w.yields i H x H' c q y)⟩
  · obtain rfl : i = n := by omega
    exact .inl ⟨w.stops H q, hd H p⟩
theorem dcIn_it {J1 : It} {n : Nat} {G : Hp → Prop} {Y : Nat → Hp → V → Hp → Prop} (w : Walk J1 n G Y) {g1 : TG} {tk tv : TE} {vs1 : List Nat} {D : Addr} {Nx : Hp → Prop} {σ2 : L2.St} {H4 : Hp} (Pv : Nat → Hp → Prop) (h0 : Pv 0 H4) (hG : ∀ i H, i ≤ n → Pv i H → G H)
    (hs : ∀ i x H H', i < n → Pv i H → Y i H x H' → g1 x (wipe σ2 vs1) H' fun σ3 H5 => wipe σ3 vs1 = wipe σ2 vs1 ∧ tk σ3 H5 fun a H6 => tv σ3 H6 fun b H7 => ∃ kvs k, a = kV k ∧ H7 D = some (.dK kvs) ∧ kvs.length < sizeLine ∧ Pv (i + 1) (upd H7 D (.dK (putK kvs k b)))) (hd : ∀ H, Pv n H → Nx H) :
    ∃ W1 : Nat → Nat → Hp → Prop, (∃ m, W1 0 m H4) ∧ ∀ j k H, W1 j k H →
      (J1.stop j H ∧ Nx H) ∨ (J1.go j H ∧ ∃ N1 : Hp → Prop, (∀ H', N1 H' → ∃ k', k' < k ∧ W1 (j + 1) k' H') ∧ ∀ x H', J1.yld j H x H' → g1 x (wipe σ2 vs1) H' fun σ3 H5 => wipe σ3 vs1 = wipe σ2 vs1 ∧ tk σ3 H5 fun a H6 => tv σ3 H6 fun b H7 =>
        ∃ kvs k, a = kV k ∧ H7 D = some (.dK kvs) ∧ kvs.length < sizeLine ∧ N1 (upd H7 D (.dK (putK kvs k b)))) := by
  refine ⟨fun i m H => (m + i = n) ∧ Pv i H, ⟨n, rfl, h0⟩, ?_⟩
  rintro i m H ⟨e, p⟩
  have q := hG i H (by omega) p
  rcases Nat.lt_or_ge i n with c | c
  · exact .inr ⟨w.goes i H c q, Pv (i + 1), fun H' p' => ⟨m - 1, by omega, by omega, p'⟩, fun x H' y => hs i x H H' c p (w.yields i H x H' c q y)⟩
  · obtain rfl : i = n := by omega
    exact .inl ⟨w.stops H q, hd H p⟩
end K1
set_option linter.all false
set_option maxRecDepth 100000
set_option maxHeartbeats 2000000
/-! zip of two sequences, each a list or a tuple -/
namespace K1
open PySem PySem.Spec PyProof.Rows L2
open Sem (wp)
open AutoSeq1 (wpAny_loadPart')
/-- a tuple (true) or a list (false) -/
def SqB (K : PySem.W.Frag) (t : Bool) (H : Hp) (a : Addr) (xs : List V) : Prop := if t = true then SqT K H a xs else SqL K H a xs
def IsB (t : Bool) (h : Heap) (a : Addr) (items : Array Value) : Prop := if t = true then h.IsTuple a items else h.IsList a items
def itB (t : Bool) : String := if t = true then "tuple_iterator" else "list_iterator"
def IterB (t : Bool) (h : Heap) (it a : Addr) (i : Nat) : Prop := if t = true then h.IsTupleIter it a i else h.IsListIter it a i
theorem IsB.push {t : Bool} {h : Heap} {a : Addr} {items : Array Value} (x : IsB t h a items) (o : Obj) : IsB t (h.push o) a items := by
  cases t with
  | true => exact Heap.IsTuple.push (show h.IsTuple a items from x) o
  | false => exact Heap.IsList.push (show h.IsList a items from x) o
theorem IsB.live {t : Bool} {h : Heap} {a : Addr} {items : Array Value} (x : IsB t h a items) : a < h.objs.size := by
  cases t with
  | true =>
    obtain ⟨o, e, _⟩ := (show h.IsTuple a items from x)
    exact Heap.lt_size e
  | false =>
    obtain ⟨o, e, _⟩ := (show h.IsList a items from x)
    exact Heap.lt_size e
theorem IterB.live {t : Bool} {h : Heap} {it a : Addr} {i : Nat} (x : IterB t h it a i) : ∃ o cl vs, h.get? it = some o ∧ o.data = .fields vs ∧ o.cls = .type cl := by
  cases t with
  | true =>
    obtain ⟨o, e, c, d⟩ := (show h.IsTupleIter it a i from x)
    exact ⟨o, _, _, e, d, c⟩
  | false =>
    obtain ⟨o, e, c, d⟩ := (show h.IsListIter it a i from x)
    exact ⟨o, _, _, e, d, c⟩
theorem IterB.at {t : Bool} {h h' : Heap} {it a : Addr} {i : Nat} (x : IterB t h it a i) (k : ∀ o, h.get? it = some o → h'.get? it = some o) : IterB t h' it a i := by
  cases t with
  | true => exact Heap.IsTupleIter.at (show h.IsTupleIter it a i from x) k
  | false => exact Heap.IsListIter.at (show h.IsListIter it a i from x) k
theorem IsB.at {t : Bool} {h h' : Heap} {a : Addr} {items : Array Value} (x : IsB t h a items) (k : ∀ o, h.get? a = some o → h'.get? a = some o) : IsB t h' a items := by
  cases t with
  | true => exact Heap.IsTuple.at (show h.IsTuple a items from x) k
  | false => exact Heap.IsList.at (show h.IsList a items from x) k
section
variable {prog : Program} {w : World} {A : Around} {E : Value → Shared → Prop} {s : Shared}
theorem iter_B {t : Bool} {a : Addr} {items : Array Value} {Q : Value → Shared → Prop} (x : IsB t s.heap a items) (q : Q (.ref s.heap.objs.size) { s with heap := s.heap.push { cls := .type (itB t), data := .fields #[.ref a, .int 0 0] } }) : wpAny (model prog w) A (pyIter (.ref a)) Q E s := by
  cases t with
  | true => exact wpAny_pyIter_tuple (show s.heap.IsTuple a items from x) q
  | false => exact wpAny_pyIter_list (show s.heap.IsList a items from x) q
theorem draws_B (hh : A.handled = none) (t : Bool) (it a : Addr) (ne : a ≠ it) (items : Array Value) : Draws prog w A it [it, a] items.size (fun i v => items[i]? = some v) (fun i h => IterB t h it a i ∧ IsB t h a items) := by
  cases t with
  | true => exact Draws.tuple hh it a ne items
  | false => exact Draws.list hh it a ne items
abbrev zB1 (h : Heap) (t1 : Bool) (a : Addr) : Heap := h.push { cls := .type (itB t1), data := .fields #[.ref a, .int 0 0] }
abbrev zB2 (h : Heap) (t1 t2 : Bool) (a b : Addr) : Heap := (zB1 h t1 a).push { cls := .type (itB t2), data := .fields #[.ref b, .int 0 0] }
abbrev zB3 (h : Heap) (t1 t2 : Bool) (a b : Addr) : Heap := (zB2 h t1 t2 a b).push { cls := .type "tuple", data := .seq #[.ref h.objs.size, .ref (zB1 h t1 a).objs.size] }
abbrev zB4 (h : Heap) (t1 t2 : Bool) (a b : Addr) : Heap := (zB3 h t1 t2 a b).push { cls := .type "tuple", data := .seq #[.none, .none] }
abbrev zB5 (h : Heap) (t1 t2 : Bool) (a b : Addr) : Heap := (zB4 h t1 t2 a b).push { cls := .type "zip", data := .fields #[.none, .bool false, .bool false, .ref (zB2 h t1 t2 a b).objs.size, .ref (zB3 h t1 t2 a b).objs.size] }
theorem meets_zB (t1 t2 : Bool) (a b : Addr) (xs ys : Array Value) :
    Meets (Builtin.«zip.__new__» ⟨[.type "zip", .ref a, .ref b], []⟩) (fun _ R s => IsB t1 s.heap a xs ∧ IsB t2 s.heap b ys ∧ R (.ok (.ret (.ref (zB4 s.heap t1 t2 a b).objs.size))) { s with heap := zB5 s.heap t1 t2 a b }) :=
  .of_wp fun prog w A R s h => by
    obtain ⟨hp, g, d, tk, os⟩ := s
    obtain ⟨h1, h2, h⟩ := h
    have sub := sub_zip
    have L1 : IsB t1 (Shared.heap ⟨hp, g, d, tk, os⟩) a xs := h1
    have L2 : IsB t2 (Shared.heap ⟨hp.push { cls := .type (itB t1), data := .fields #[.ref a, .int 0 0] }, g, d, tk, os⟩) b ys := IsB.push h2 _
    wp_walk using iter_B L1, iter_B L2
    exact ⟨_, rfl, h⟩
theorem call_zB {t1 t2 : Bool} {a b : Addr} {xs ys : Array Value} {Q : Value → Shared → Prop} (h1 : IsB t1 s.heap a xs) (h2 : IsB t2 s.heap b ys)
    (k : ∀ h', IsZip h' (s.heap.objs.size + 4) (s.heap.objs.size + 2) (s.heap.objs.size + 3) .none → IsPair h' (s.heap.objs.size + 2) (.ref s.heap.objs.size) (.ref (s.heap.objs.size + 1)) → IsPair h' (s.heap.objs.size + 3) .none .none →
      IterB t1 h' s.heap.objs.size a 0 → IterB t2 h' (s.heap.objs.size + 1) b 0 → (∀ c o, s.heap.get? c = some o → h'.get? c = some o) → Q (.ref (s.heap.objs.size + 4)) { s with heap := h' }) :
    wpAny (model prog w) A (call (.type "zip") [.ref a, .ref b]) Q E s := by
  refine callType_new F.called_zip (by decide) (F.typeCall_zip_2 _ _) (F.newCall_zip_2 _ _) (fun obj => F.args_object_init_3 obj _ _) F.entry_zip_new (meets_zB t1 t2 a b xs ys) ⟨h1, h2, ?_⟩
  have z1 : (zB1 s.heap t1 a).objs.size = s.heap.objs.size + 1 := Heap.size_push ..
  have z2 : (zB2 s.heap t1 t2 a b).objs.size = s.heap.objs.size + 2 := by rw [Heap.size_push, z1]
  have z3 : (zB3 s.heap t1 t2 a b).objs.size = s.heap.objs.size + 3 := by rw [Heap.size_push, z2]
  have z4 : (zB4 s.heap t1 t2 a b).objs.size = s.heap.objs.size + 4 := by rw [Heap.size_push, z3]
  have up : ∀ {h : Heap} {o : Obj} {c : Addr} {p : Obj}, h.get? c = some p → (h.push o).get? c = some p := fun e => Heap.get?_push_of_some _ e
  have g5 : (zB5 s.heap t1 t2 a b).get? (zB4 s.heap t1 t2 a b).objs.size = some _ := Heap.get?_push_size _ rfl
  have g4 : (zB5 s.heap t1 t2 a b).get? (zB3 s.heap t1 t2 a b).objs.size = some _ := up (Heap.get?_push_size _ rfl)
  have g3 : (zB5 s.heap t1 t2 a b).get? (zB2 s.heap t1 t2 a b).objs.size = some _ := up (up (Heap.get?_push_size _ rfl))
  have g2 : (zB5 s.heap t1 t2 a b).get? (zB1 s.heap t1 a).objs.size = some _ := up (up (up (Heap.get?_push_size _ rfl)))
  have g1 : (zB5 s.heap t1 t2 a b).get? s.heap.objs.size = some _ := up (up (up (up (Heap.get?_push_size _ rfl))))
  have i1 : IterB t1 (zB5 s.heap t1 t2 a b) s.heap.objs.size a 0 := by
    cases t1 with
    | true => exact ⟨_, g1, rfl, rfl⟩
    | false => exact ⟨_, g1, rfl, rfl⟩
  have i2 : IterB t2 (zB5 s.heap t1 t2 a b) (zB1 s.heap t1 a).objs.size b 0 := by
    cases t2 with
    | true => exact ⟨_, g2, rfl, rfl⟩
    | false => exact ⟨_, g2, rfl, rfl⟩
  show _ ∧ _
  rw [z2, z3, z4] at g5
  rw [z1, z2] at g3
  rw [z3] at g4
  rw [z1] at i2
  rw [z4]
  exact ⟨⟨_, g5, rfl⟩, k _ g5 g3 g4 i1 i2 fun c o x => up (up (up (up (up x))))⟩
end
theorem SqB.get {X : Cx} {pins : List (Addr × Obj)} {σ : L2.St} {H : Hp} {s : Shared} {t : Bool} {a : Addr} {xs : List V} (I : Inv X pins σ H s) (h : SqB X.K t H a xs) : ∃ its : List Value, Vals xs its ∧ IsB t s.heap a its.toArray := by
  cases t with
  | true =>
    obtain ⟨its, rv, p, _⟩ := I.tuple (show SqT X.K H a xs from h)
    exact ⟨its, rv, p⟩
  | false =>
    obtain ⟨its, rv, p, _⟩ := I.list (show SqL X.K H a xs from h)
    exact ⟨its, rv, p.isList⟩
theorem SqB.inj {X : Cx} {pins : List (Addr × Obj)} {σ : L2.St} {H : Hp} {s : Shared} {t : Bool} {a : Addr} {xs ys : List V} (I : Inv X pins σ H s) (h : SqB X.K t H a xs) (h' : SqB X.K t H a ys) : xs = ys := by
  cases t with
  | true => exact I.tuple_inj (show SqT X.K H a xs from h) h'
  | false => exact I.list_inj (show SqL X.K H a xs from h) h'
def ItzB (K : PySem.W.Frag) (t1 t2 : Bool) (a b : Addr) : It :=
  ⟨fun i H => ∃ (xs ys : List V) (x y : V), SqB K t1 H a xs ∧ SqB K t2 H b ys ∧ xs[i]? = some x ∧ ys[i]? = some y,
    fun i H v H' => ∃ T x y, v = .ref T ∧ H T = none ∧ H' = upd H T (.tup [x, y]) ∧ (∀ xs, SqB K t1 H a xs → xs[i]? = some x) ∧ ∀ ys, SqB K t2 H b ys → ys[i]? = some y,
    fun i H => ∃ xs ys : List V, SqB K t1 H a xs ∧ SqB K t2 H b ys ∧ i ≤ xs.length ∧ i ≤ ys.length ∧ (i = xs.length ∨ i = ys.length)⟩
theorem turn_zB {P : Program} {w : World} {K : PySem.W.Frag} {elts : List Expr} {kk : Nat} {tpos : Pos} {t1 t2 : Bool} {a b z TI TO i1 i2 : Addr} (D : ZipApart z TI TO i1 i2 a b) :
    Turn P w K (.Tuple elts kk tpos) (ItzB K t1 t2 a b) [z, TI, TO, i1, i2] z (fun i h => IsZip h z TI TO .none ∧ IsPair h TI (.ref i1) (.ref i2) ∧ (∃ x y, IsPair h TO x y) ∧ IterB t1 h i1 a i ∧ IterB t2 h i2 b i) where
  mem := by simp
  obj := fun i h st c hc => by
    obtain ⟨hz, hTI, ⟨x, y, hTO⟩, h1, h2⟩ := st
    obtain ⟨o1, _, _, e1, d1, _⟩ := h1.live
    obtain ⟨o2, _, _, e2, d2, _⟩ := h2.live
    have e' : c = z ∨ c = TI ∨ c = TO ∨ c = i1 ∨ c = i2 := by simpa using hc
    rcases e' with q | q | q | q | q
    · rw [q]; exact ⟨_, hz, fun v q => nomatch q⟩
    · rw [q]; exact ⟨_, hTI, fun v q => nomatch q⟩
    · rw [q]; exact ⟨_, hTO, fun v q => nomatch q⟩
    · rw [q]; exact ⟨o1, e1, fun v q => by rw [d1] at q; cases q⟩
    · rw [q]; exact ⟨o2, e2, fun v q => by rw [d2] at q; cases q⟩
  keep := fun i h h' st k => by
    obtain ⟨hz, hTI, ⟨x, y, hTO⟩, h1, h2⟩ := st
    exact ⟨k z (by simp) _ hz, k TI (by simp) _ hTI, ⟨x, y, k TO (by simp) _ hTO⟩, h1.at fun o q => k i1 (by simp) o q, h2.at fun o q => k i2 (by simp) o q⟩
  item := by
    intro X hP hw hK hc i pins s σ H E I hf st hg
    subst hP hw hK
    obtain ⟨hz, hTI, ⟨x0, y0, hTO⟩, h1, h2⟩ := st
    obtain ⟨xs, ys, x, y, hqx, hqy, hx, hy⟩ := hg
    obtain ⟨its, rv, p⟩ := hqx.get I
    obtain ⟨its2, rv2, p2⟩ := hqy.get I
    obtain ⟨u, hu, ru⟩ := rv.get hx
    obtain ⟨u2, hu2, ru2⟩ := rv2.get hy
    have hzl : z < s.heap.objs.size := Heap.lt_size hz
    have S : ZipSep2 z TI TO i1 i2 [i1, a] [i2, b] := ⟨D.TIz, D.TOz, D.TITO, D.TIi1, by simp, by simp [D.i1z.symm, D.l1z.symm], by simp [D.TOi1, D.l1TO.symm], D.TIi2, by simp, by simp [D.i2z.symm, D.l2z.symm], by simp [D.TOi2, D.l2TO.symm], by simp [D.i12, D.l2i1.symm], by simp [D.i12.symm, D.l1i2.symm]⟩
    have hh := I.ok.hd hc
    have l1 : i < its.length := (List.getElem?_eq_some_iff.mp hu).1
    have l2 : i < its2.length := (List.getElem?_eq_some_iff.mp hu2).1
    refine wpAny_pyNext_zipD2_item S (draws_B (A := X.A.in1) hh t1 i1 a D.l1i1 its.toArray) (draws_B (A := X.A.in1) hh t2 i2 b D.l2i2 its2.toArray) hz hTI hTO ⟨h1, p⟩ ⟨h2, p2⟩ (by simpa using l1) (by simpa using l2) fun x1 x2 h' tk px1 px2 z' TO' st1' st2' hT hsz hk => ?_
    have e1 : x1 = u := by
      have q : its[i]? = some x1 := by simpa using px1
      rw [hu] at q
      exact (Option.some.inj q).symm
    have e2 : x2 = u2 := by
      have q : its2[i]? = some x2 := by simpa using px2
      rw [hu2] at q
      exact (Option.some.inj q).symm
    subst e1 e2
    refine ⟨_, rfl, wpAny_letOwnedTupleGo_zip (s := { s with heap := h', toks := tk }) z' fun h'' z'' sb => ?_⟩
    have hT2 : h''.get? s.heap.objs.size = some { cls := .type "tuple", data := .seq #[x1, x2] } := (sb.2 _ (Nat.ne_of_gt hzl)).trans hT
    have new : ObjOk X.prog X.w (upd H s.heap.objs.size (.tup [x, y])) h'' s.heap.objs.size (.tup [x, y]) :=
      ⟨by show 2 ≤ sizeLine; decide, [x1, x2], .cons ru (.cons ru2 .nil), ⟨_, hT2, rfl, _, rfl⟩⟩
    have I1 : Inv X pins σ (upd H s.heap.objs.size (.tup [x, y])) { s with heap := h'', toks := tk } :=
      I.turnedNew (t' := tk) (ch := [z, TI, TO, i1, i2]) (fun c o hb q => (sb.2 c (fun q' => hb (by simp [q']))).trans (hk c o (fun q' => hb (by simp [q'])) (fun q' => hb (by simp [q'])) (fun q' => hb (by simp [q'])) (fun q' => hb (by simp [q'])) q)) hf (Nat.le_refl _) new
    refine ⟨.ref s.heap.objs.size, _, I1, rfl, ⟨_, x, y, rfl, I.hok.fresh (Nat.le_refl _), rfl, fun l hl => by rw [hl.inj I hqx]; exact hx, fun l hl => by rw [hl.inj I hqy]; exact hy⟩, ⟨z'', ?_, ⟨x1, x2, ?_⟩, ?_, ?_⟩, fun c hcm => ?_⟩
    · exact (sb.2 _ D.TIz).trans (hk _ _ D.TIz D.TITO D.TIi1 D.TIi2 hTI)
    · exact (sb.2 _ D.TOz).trans TO'
    · exact st1'.1.at fun o q => (sb.2 _ D.i1z).trans q
    · exact st2'.1.at fun o q => (sb.2 _ D.i2z).trans q
    · have hlt : c < s.heap.objs.size := by
        obtain ⟨o1, _, _, g1, _, _⟩ := h1.live
        obtain ⟨o2, _, _, g2, _, _⟩ := h2.live
        have e' : c = z ∨ c = TI ∨ c = TO ∨ c = i1 ∨ c = i2 := by simpa using hcm
        rcases e' with q | q | q | q | q
        · rw [q]; exact hzl
        · rw [q]; exact Heap.lt_size hTI
        · rw [q]; exact Heap.lt_size hTO
        · rw [q]; exact Heap.lt_size g1
        · rw [q]; exact Heap.lt_size g2
      rw [upd_ne (Nat.ne_of_lt hlt)]
      exact (hf c hcm).1
  done := by
    intro X hP hw hK hc i pins s σ H E I hf st hg
    subst hP hw hK
    obtain ⟨hz, hTI, ⟨x0, y0, hTO⟩, h1, h2⟩ := st
    obtain ⟨xs, ys, hqx, hqy, le1, le2, hend⟩ := hg
    obtain ⟨its, rv, p⟩ := hqx.get I
    obtain ⟨its2, rv2, p2⟩ := hqy.get I
    have l1 := rv.length
    have l2 := rv2.length
    have S : ZipSep2 z TI TO i1 i2 [i1, a] [i2, b] := ⟨D.TIz, D.TOz, D.TITO, D.TIi1, by simp, by simp [D.i1z.symm, D.l1z.symm], by simp [D.TOi1, D.l1TO.symm], D.TIi2, by simp, by simp [D.i2z.symm, D.l2z.symm], by simp [D.TOi2, D.l2TO.symm], by simp [D.i12, D.l2i1.symm], by simp [D.i12.symm, D.l1i2.symm]⟩
    have hh := I.ok.hd hc
    refine wpAny_pyNext_zipD2_end S (draws_B (A := X.A.in1) hh t1 i1 a D.l1i1 its.toArray) (draws_B (A := X.A.in1) hh t2 i2 b D.l2i2 its2.toArray) hz hTI hTO ⟨h1, p⟩ ⟨h2, p2⟩ (by simp; omega) (by simp; omega) (by simp; omega) fun h' tk hk => ⟨rfl, I.turnedL (t' := tk) (ch := [z, TI, TO, i1, i2]) (fun c o hb q =>
      hk c o (fun q' => hb (by simp [q'])) (fun q' => hb (by simp [q'])) (fun q' => hb (by simp [q'])) (fun q' => hb (by simp [q'])) q) hf⟩
  self := fun A i s Q E st h => wpAny_pyIter_zip st.1 h
def iZipB (K : PySem.W.Frag) (ta : TA) : TI := fun σ H R => ta σ H fun vs H1 => ∃ t1 t2 a b xs ys, vs = [.ref a, .ref b] ∧ SqB K t1 H1 a xs ∧ SqB K t2 H1 b ys ∧ R (ItzB K t1 t2 a b) H1
theorem pi_zB {X : Cx} {e e2 : Expr} {ta : TA} {p pos tpos : Pos} {elts : List Expr} {kk : Nat} (hg : Gl X "zip") (hm : X.mg "zip" = none) (ha : PA X [e, e2] ta)
    (hs : starEach [e, e2] X.env = (false, eval e X.env) :: starEach [e2] X.env := by rfl) (hpl : (backTo pos (starEach [e2] X.env)).any (·.1) = false := by rfl) :
    PI X (.Tuple elts kk tpos) (.Call (.Name "zip" p) [e, e2] [] pos) (iZipB X.K ta) := by
  refine ⟨fun pins s σ H R I h => ?_⟩
  refine Call_ (ld_blt I hg hm PyProof.Rows.boot_zip (PyProof.Rows.callWith_type1 (thn (ha.run pos pins s σ H _ I h) fun us s1 ⟨vs, H1, I1, r1, q1⟩ => ?_) hs hpl))
  obtain ⟨t1, t2, a, b, xs, ys, ex, hqx, hqy, q⟩ := q1
  subst ex
  cases r1 with
  | cons r rr =>
    cases rr with
    | cons r' rr =>
      cases rr
      cases r
      cases r'
      have five : ∀ c, c ∈ [s1.heap.objs.size + 4, s1.heap.objs.size + 2, s1.heap.objs.size + 3, s1.heap.objs.size, s1.heap.objs.size + 1] → FpOk X pins H1 c := fun c hcm => by
        have hle : s1.heap.objs.size ≤ c := by
          simp only [List.mem_cons, List.not_mem_nil, or_false] at hcm
          omega
        exact I1.fpOk hle (I1.hok.fresh hle)
      obtain ⟨its, rv, p1⟩ := hqx.get I1
      obtain ⟨its2, rv2, p2⟩ := hqy.get I1
      refine call_zB p1 p2 fun h' hz hTI hTO h1 h2 hk => wpAny_pyIter_zip hz ?_
      have I2 : Inv X pins σ H1 { s1 with heap := h' } := I1.kept (t' := s1.toks) hk
      exact ⟨s1.heap.objs.size + 4, [s1.heap.objs.size + 4, s1.heap.objs.size + 2, s1.heap.objs.size + 3, s1.heap.objs.size, s1.heap.objs.size + 1], _, _, H1, rfl, I2, turn_zB (PySem.W.ktu_apart s1.heap.objs.size a b p1.live p2.live), ⟨hz, hTI, ⟨_, _, hTO⟩, h1, h2⟩, five, q⟩
theorem walk_zB {K : PySem.W.Frag} {t1 t2 : Bool} {a b : Addr} {xs ys : List V} {n : Nat} (hn : n = min xs.length ys.length) : Walk (ItzB K t1 t2 a b) n (fun H => SqB K t1 H a xs ∧ SqB K t2 H b ys) (YPair (fun i => xs[i]?) (fun i => ys[i]?)) := by
  subst hn
  refine ⟨fun i _ hi q => ?_, fun _ q => ⟨xs, ys, q.1, q.2, by omega, by omega, by omega⟩, fun i H v H' _ q y => ?_⟩
  · have h1 : i < xs.length := by omega
    have h2 : i < ys.length := by omega
    exact ⟨xs, ys, xs[i], ys[i], q.1, q.2, by simp [h1], by simp [h2]⟩
  · obtain ⟨T, x, z, h1, h2, h3, h4, h5⟩ := y
    exact ⟨T, x, z, h1, h2, h3, h4 xs q.1, h5 ys q.2⟩
end K1
set_option maxRecDepth 100000
set_option maxHeartbeats 2000000
namespace K1
open PySem PySem.Spec PyProof.Rows L2
open Sem (wp)
open AutoSeq1 (wpAny_loadPart')
/-! ### enumerate of a tuple -/
theorem meets_enumT (l : Addr) (items : Array Value) (n : Nat) (dct : Option Addr) (sl : Array (Option Value)) :
    Meets (Builtin.«enumerate.__new__» ⟨[.type "enumerate", .ref l], []⟩) (fun _ R s => s.heap.get? l = some { cls := .type "tuple", dict := dct, data := .seq items n, slots := sl } ∧
      R (.ok (.ret (.ref (s.heap.push { cls := .type "tuple_iterator", data := .fields #[.ref l, .int 0 0] }).objs.size)))
        { s with heap := (s.heap.push { cls := .type "tuple_iterator", data := .fields #[.ref l, .int 0 0] }).push { cls := .type "enumerate", data := .fields #[.none, .bool false, .ref s.heap.objs.size, rawInt 0, .none, .none] } }) :=
  .of_wp fun prog w A R s h => by
    obtain ⟨hp, g, d, tk, os⟩ := s; obtain ⟨hl, h⟩ := h
    have hsub := sub_enumerate
    have hL : Heap.IsTuple (Shared.heap ⟨hp, g, d, tk, os⟩) l items := ⟨_, hl, rfl, n, rfl⟩
    wp_walk using wpAny_loadPart' hl
    refine wpAny_stack_any fun st => wpAny_pure ?_
    split
    · rename_i c _ _ _ _ _
      cases (c == Value.type "enumerate")
      · wp_walk using wpAny_loadPart' hl, wpAny_pyIter_tuple hL
        exact ⟨_, rfl, h⟩
      · wp_walk using wpAny_loadPart' hl, wpAny_pyIter_tuple hL
        exact ⟨_, rfl, h⟩
    · wp_walk using wpAny_loadPart' hl, wpAny_pyIter_tuple hL
      exact ⟨_, rfl, h⟩
section
variable {prog : Program} {w : World} {A : Around} {E : Value → Shared → Prop} {s : Shared}
theorem call_enumT {l : Addr} {items : Array Value} {Q : Value → Shared → Prop} (hL : s.heap.IsTuple l items)
    (h : ∀ h', IsEnum h' (s.heap.objs.size + 1) s.heap.objs.size 0 .none → h'.IsTupleIter s.heap.objs.size l 0 → h'.objs.size = s.heap.objs.size + 2 →
      (∀ b o, s.heap.get? b = some o → h'.get? b = some o) → Q (.ref (s.heap.objs.size + 1)) { s with heap := h' }) :
    wpAny (model prog w) A (call (.type "enumerate") [.ref l]) Q E s := by
  obtain ⟨⟨c, dct, dt, sl⟩, hl, hc, n, hd⟩ := hL
  replace hc : c = .type "tuple" := hc
  replace hd : dt = .seq items n := hd
  subst hc hd
  refine callType_new F.called_enumerate (by decide) (F.typeCall_enumerate_1 _) (F.newCall_enumerate_1 _) (fun obj => F.args_object_init_2 obj _) F.entry_enumerate_new
    (meets_enumT l items n dct sl) ⟨hl, ?_⟩
  have hz : (s.heap.push { cls := .type "tuple_iterator", data := .fields #[.ref l, .int 0 0] }).objs.size = s.heap.objs.size + 1 := Heap.size_push ..
  show _ ∧ _
  rw [hz]
  have he : IsEnum ((s.heap.push { cls := .type "tuple_iterator", data := .fields #[.ref l, .int 0 0] }).push
      { cls := .type "enumerate", data := .fields #[.none, .bool false, .ref s.heap.objs.size, rawInt 0, .none, .none] }) (s.heap.objs.size + 1) s.heap.objs.size 0 .none := by
    have := Heap.get?_push_size (s.heap.push { cls := .type "tuple_iterator", data := .fields #[.ref l, .int 0 0] })
      (o := { cls := .type "enumerate", data := .fields #[.none, .bool false, .ref s.heap.objs.size, rawInt 0, .none, .none] }) rfl
    rw [hz] at this; exact this
  refine ⟨⟨_, he, rfl⟩, h _ he ⟨_, Heap.get?_push_of_some _ (Heap.get?_push_size _ rfl), rfl, rfl⟩ (by rw [Heap.size_push, hz]) fun b o x => Heap.get?_push_of_some _ (Heap.get?_push_of_some _ x)⟩
end
/-- the tuple at a, each item in a new pair -/
def IteT (K : PySem.W.Frag) (a : Addr) : It :=
  ⟨fun i H => ∃ (xs : List V) (x : V), SqT K H a xs ∧ xs[i]? = some x, fun i H v H' => ∃ T x, v = .ref T ∧ H T = none ∧ H' = upd H T (.tup [.int (i : Nat), x]) ∧ ∀ xs, SqT K H a xs → xs[i]? = some x, fun i H => ∃ xs : List V, SqT K H a xs ∧ xs.length ≤ i⟩
theorem draws_end {prog : Program} {w : World} {A : Around} (hh : A.handled = none) (it t : Addr) (items : Array Value) {i : Nat} (hi : items[i]? = none) :
    Draws prog w A it [it, t] i (fun _ _ => False) (fun j h => j = i ∧ h.IsTupleIter it t i ∧ h.IsTuple t items) where
  live := fun _ _ st => let ⟨o, ho, _⟩ := st.2.1; ⟨o, ho⟩
  frame := fun _ _ _ st hk => ⟨st.1, st.2.1.at fun o e => hk it (by simp) o e, st.2.2.at fun o e => hk t (by simp) o e⟩
  item := fun j s Q E hj st _ => absurd st.1 (Nat.ne_of_lt hj)
  done := fun s Q E st hE => wpAny_nextOf_tuple_end hh st.2.1 st.2.2 hi hE
theorem turn_enumT {P : Program} {w : World} {K : PySem.W.Frag} {elts : List Expr} {kk : Nat} {tpos : Pos} (a e it : Addr) :
    Turn P w K (.Tuple elts kk tpos) (IteT K a) [e, it] e (fun i h => (∃ old, IsEnum h e it ((i : Nat) : Int) old) ∧ h.IsTupleIter it a i ∧ e ≠ it) where
  mem := by simp
  obj := fun i h st b hb => by
    obtain ⟨⟨old, he⟩, ⟨o, ho, hc, hd⟩, _⟩ := st
    have e' : b = e ∨ b = it := by simpa using hb
    rcases e' with z | z
    · rw [z]; exact ⟨_, he, fun v q => nomatch q⟩
    · rw [z]; exact ⟨o, ho, fun v q => by rw [hd] at q; cases q⟩
  keep := fun i h h' st k => let ⟨⟨old, he⟩, hi, hne⟩ := st; ⟨⟨old, k e (by simp) _ he⟩, hi.at fun o q => k it (by simp) o q, hne⟩
  item := by
    intro X hP hw hK hc i pins s σ H E I hf st hg
    subst hP hw hK
    obtain ⟨⟨old, he⟩, hit, hne⟩ := st
    obtain ⟨xs, x, hq, hx⟩ := hg
    obtain ⟨its, rv, p, hz⟩ := I.tuple hq
    obtain ⟨u, hu, ru⟩ := rv.get hx
    have pt : s.heap.IsTuple a its.toArray := p
    have hel : e < s.heap.objs.size := Heap.lt_size he
    have hil : it < s.heap.objs.size := by obtain ⟨_, q, _⟩ := hit; exact Heap.lt_size q
    have nai : a ≠ it := fun z => by
      obtain ⟨o, h1, h2, _⟩ := pt
      obtain ⟨o2, h3, h4, _⟩ := hit
      rw [z, h3] at h1
      cases h1
      rw [h4] at h2
      exact absurd h2 (by decide)
    have nae : e ≠ a := fun z => by
      obtain ⟨o, h1, h2, _⟩ := pt
      have h3 : s.heap.get? e = some _ := he
      rw [← z, h3] at h1
      cases h1
      have h5 : Value.type "enumerate" = Value.type "tuple" := h2
      exact absurd h5 (by decide)
    have hl : i < its.toArray.size := by
      have := (List.getElem?_eq_some_iff.mp hu).1
      simpa using this
    refine wpAny_pyNext_enum_itemD (Draws.tuple (A := X.A.in1) (I.ok.hd hc) it a nai its.toArray) he ⟨hit, pt⟩ hl hne (by simp [hne, nae]) fun x' h' tk px ho hst hT hsz hk => ?_
    obtain rfl : x' = u := by
      have e1 : its.toArray[i]? = some u := by simpa using hu
      rw [e1] at px
      exact (Option.some.inj px).symm
    refine ⟨_, rfl, wpAny_letOwnedTupleGo_enum (s := { s with heap := h', toks := tk + 1 }) ho fun h'' he' sb => ?_⟩
    have hT2 : h''.get? s.heap.objs.size = some { cls := .type "tuple", data := .seq #[.int i tk, x'] } := (sb.2 _ (Nat.ne_of_gt hel)).trans hT
    have new : ObjOk X.prog X.w (upd H s.heap.objs.size (.tup [.int (i : Nat), x])) h'' s.heap.objs.size (.tup [.int (i : Nat), x]) :=
      ⟨by show 2 ≤ sizeLine; decide, [.int i tk, x'], .cons ⟨_, rfl⟩ (.cons ru .nil), ⟨_, hT2, rfl, _, rfl⟩⟩
    have I1 : Inv X pins σ (upd H s.heap.objs.size (.tup [.int (i : Nat), x])) { s with heap := h'', toks := tk + 1 } :=
      I.turnedNew (ch := [e, it]) (fun b ob hb q => (sb.2 b (fun z => hb (by simp [z]))).trans (hk b ob (fun z => hb (by simp [z])) (fun z => hb (by simp [z])) q)) hf (Nat.le_refl _) new
    refine ⟨.ref s.heap.objs.size, _, I1, rfl, ⟨_, x, rfl, I.hok.fresh (Nat.le_refl _), rfl, fun ys hy => by rw [I.tuple_inj hy hq]; exact hx⟩, ⟨⟨x', ?_⟩, hst.1.at fun o q => (sb.2 it (Ne.symm hne)).trans q, hne⟩, fun b hb => ?_⟩
    · have e1 : ((i + 1 : Nat) : Int) = (i : Int) + 1 := by omega
      rw [e1]; exact he'
    · have hb' : b < s.heap.objs.size := by
        have e' : b = e ∨ b = it := by simpa using hb
        rcases e' with z | z
        · rw [z]; exact hel
        · rw [z]; exact hil
      rw [upd_ne (Nat.ne_of_lt hb')]
      exact (hf b hb).1
  done := by
    intro X hP hw hK hc i pins s σ H E I hf st hg
    subst hP hw hK
    obtain ⟨⟨old, he⟩, hit, hne⟩ := st
    obtain ⟨xs, hq, hx⟩ := hg
    obtain ⟨its, rv, p, hz⟩ := I.tuple hq
    obtain ⟨f0, f1, f2, f3, f4, f5⟩ := hf it (by simp)
    have hl := rv.length
    exact wpAny_pyNext_enum_endD (draws_end (A := X.A.in1) (i := i) (I.ok.hd hc) it a its.toArray (by simp; omega)) he ⟨rfl, hit, p⟩ fun h' eb => ⟨rfl, I.turned (t' := s.toks) (fun b o hb q => eb b o hb q) f0 f1 f3 f4 f5⟩
  self := fun A i s Q E st h => let ⟨⟨_, he⟩, _⟩ := st; wpAny_pyIter_enum he h
def iEnumT (K : PySem.W.Frag) (ta : TA) : TI := fun σ H R => ta σ H fun vs H1 => ∃ a xs, vs = [.ref a] ∧ SqT K H1 a xs ∧ R (IteT K a) H1
theorem pi_enumT {X : Cx} {e : Expr} {ta : TA} {p pos tpos : Pos} {elts : List Expr} {kk : Nat} (hg : Gl X "enumerate") (hm : X.mg "enumerate" = none) (ha : PA X [e] ta) (hs : starEach [e] X.env = [(false, eval e X.env)] := by rfl) :
    PI X (.Tuple elts kk tpos) (.Call (.Name "enumerate" p) [e] [] pos) (iEnumT X.K ta) := by
  refine ⟨fun pins s σ H R I h => ?_⟩
  refine Call_ (ld_blt I hg hm boot_enumerate (PyProof.Rows.callWith_type1 (thn (ha.run pos pins s σ H _ I h) fun us s1 ⟨vs, H1, I1, r1, q1⟩ => ?_) hs rfl))
  obtain ⟨a, xs, ex, hq, q⟩ := q1
  subst ex
  cases r1 with
  | cons r rr =>
    cases rr
    cases r
    obtain ⟨its, rv, p', hz⟩ := I1.tuple hq
    refine call_enumT p' fun h' he hit hsz hk => wpAny_pyIter_enum he ?_
    have I2 : Inv X pins σ H1 { s1 with heap := h' } := I1.kept (t' := s1.toks) hk
    refine ⟨s1.heap.objs.size + 1, [s1.heap.objs.size + 1, s1.heap.objs.size], _, _, H1, rfl, I2, turn_enumT a (s1.heap.objs.size + 1) s1.heap.objs.size, ⟨⟨.none, he⟩, hit, Nat.succ_ne_self _⟩, fun b hb => ?_, q⟩
    have e' : b = s1.heap.objs.size + 1 ∨ b = s1.heap.objs.size := by simpa using hb
    have hle : s1.heap.objs.size ≤ b := by
      rcases e' with z | z
      · rw [z]; exact Nat.le_add_right _ _
      · rw [z]; exact Nat.le_refl _
    exact I1.fpOk hle (I1.hok.fresh hle)
theorem walk_enumT {K : PySem.W.Frag} {a : Addr} {xs : List V} : Walk (IteT K a) xs.length (fun H => SqT K H a xs) (YPair (fun i => some (.int (i : Nat))) (fun i => xs[i]?)) := by
  refine ⟨fun i _ hi q => ⟨xs, xs[i], q, by simp [hi]⟩, fun _ q => ⟨xs, q, Nat.le_refl _⟩, fun i H v H' _ q y => ?_⟩
  obtain ⟨T, x, h1, h2, h3, h4⟩ := y
  exact ⟨T, .int (i : Nat), x, h1, h2, h3, rfl, h4 xs q⟩
end K1
set_option linter.all false
set_option maxRecDepth 100000
/-! rules whose reading names the written part, told for use within a comprehension's block; list comprehensions of two clauses over walks -/
namespace K1
open PySem L2
section
variable {X : Cx} {K : PySem.W.Frag}
theorem ix_tupK (h : X.K = K) : IxR X (rIxT K) := by subst h; exact ix_tup
theorem ix_listK (h : X.K = K) : IxR X (rIxL K) := by subst h; exact ix_list
theorem pe_fldK {e : Expr} {ta : TE} {f : Str} {pos : Pos} (h : X.K = K) (he : PE X e ta) (hb : attributeBase e f X.env (eval e X.env) = eval e X.env := by rfl) : PE X (.Attribute e f pos) (tFld K ta f) := by subst h; exact pe_fld he hb
theorem pi_tupK {tg l : Expr} {tl : TE} (h : X.K = K) (hl : PE X l tl) : PI X tg l (iTup K tl) := by subst h; exact pi_tup hl
theorem pi_listK {tg l : Expr} {tl : TE} (h : X.K = K) (hl : PE X l tl) : PI X tg l (iList K tl) := by subst h; exact pi_list hl
theorem call_lenK2 (h : X.K = K) : CallR X (.builtin "len") (fun xs H Q => ∃ p ys, xs = [.ref p] ∧ (SqL K H p ys ∨ SqT K H p ys) ∧ Q (.int ys.length) H) := by subst h; exact call_len_seq
end
/-- the second clause -/
def tLcIn (wi1 : TI) (g1 : TG) (tt1 : TT) (te : TE) (vs1 : List Nat) (D : Addr) (Nx : Hp → Prop) (σ2 : L2.St) (H3 : Hp) : Prop := wi1 σ2 H3 fun J1 H4 => ∃ W1 : Nat → Nat → Hp → Prop, (∃ m, W1 0 m H4) ∧ ∀ j k H, W1 j k H →
  (J1.stop j H ∧ Nx H) ∨ (J1.go j H ∧ ∃ N1 : Hp → Prop, (∀ H', N1 H' → ∃ k', k' < k ∧ W1 (j + 1) k' H') ∧ ∀ x H', J1.yld j H x H' → g1 x (wipe σ2 vs1) H' fun σ3 H5 => wipe σ3 vs1 = wipe σ2 vs1 ∧ tt1 σ3 H5 fun b H6 =>
    if b = true then te σ3 H6 fun y H7 => ∃ acc, H7 D = some (.lst acc) ∧ acc.length < sizeLine ∧ N1 (upd H7 D (.lst (acc ++ [y]))) else N1 H6)
def tLcTwo (wi : TI) (g : TG) (tt : TT) (wi1 : TI) (g1 : TG) (tt1 : TT) (te : TE) (vs vs1 : List Nat) : TE := fun σ H Q => wi σ H fun J H1 => ∀ D, H1 D = none → ∃ W : Nat → Nat → Hp → Prop, (∃ m, W 0 m (upd H1 D (.lst []))) ∧ ∀ i m H, W i m H →
  (J.stop i H ∧ Q (.ref D) H) ∨ (J.go i H ∧ ∃ Nx : Hp → Prop, (∀ H', Nx H' → ∃ m', m' < m ∧ W (i + 1) m' H') ∧ ∀ x H', J.yld i H x H' → g x (wipe σ vs) H' fun σ2 H2 => wipe σ2 vs = wipe σ vs ∧ tt σ2 H2 fun b H3 =>
    if b = true then tLcIn wi1 g1 tt1 te vs1 D Nx σ2 H3 else Nx H3)
theorem pe_lcTwo {X : Cx} {elt tg iter tg1 iter1 : Expr} {ifs ifs1 : List Expr} {scope : Scope} {own : List (Str × Nat)} {vs1 : List Nat} {pos : Pos} {wi wi1 : TI} {g g1 : TG} {tt tt1 : TT} {te : TE} (hc : X.calm = true) (hN : X.N.Nodup) (hi : PI X tg iter wi) (ok : BlkOk X.N X.env.scope scope own) (hv : ∀ i ∈ vs1, i ∈ own.map (·.2))
    (pg : ∀ (s : Shared) (H : Hp) (C : Addr) (cl : List (Str × Addr)) (fp : List Addr), PG (X.blk s H scope (compEnvC scope cl C X.env) fp) tg g) (pt : ∀ (s : Shared) (H : Hp) (C : Addr) (cl : List (Str × Addr)) (fp : List Addr), PTs (X.blk s H scope (compEnvC scope cl C X.env) fp) ifs tt)
    (pj : ∀ (s : Shared) (H : Hp) (C : Addr) (cl : List (Str × Addr)) (fp : List Addr), PI (X.blk s H scope (compEnvC scope cl C X.env) fp) tg1 iter1 wi1)
    (pg1 : ∀ (s : Shared) (H : Hp) (C : Addr) (cl : List (Str × Addr)) (fp : List Addr), PG (X.blk s H scope (compEnvC scope cl C X.env) fp) tg1 g1) (pt1 : ∀ (s : Shared) (H : Hp) (C : Addr) (cl : List (Str × Addr)) (fp : List Addr), PTs (X.blk s H scope (compEnvC scope cl C X.env) fp) ifs1 tt1)
    (pe : ∀ (s : Shared) (H : Hp) (C : Addr) (cl : List (Str × Addr)) (fp : List Addr), PE (X.blk s H scope (compEnvC scope cl C X.env) fp) elt te) (fs : ∀ x, foldedSetIterable iter X.env x = pure x := by intro _; rfl) (fs1 : ∀ env x, foldedSetIterable iter1 env x = pure x := by intro _ _; rfl) :
    PE X (.ListComp elt [⟨tg, iter, ifs, 0⟩, ⟨tg1, iter1, ifs1, 0⟩] scope pos) (tLcTwo wi g tt wi1 g1 tt1 te (own.map (·.2)) vs1) :=
  pe_lc2 hc hN hi ok hv pg pt pj pg1 pt1 pe fs fs1
section
variable {J : It} {n : Nat} {G : Hp → Prop} {Y : Nat → Hp → V → Hp → Prop} {g g1 : TG} {tt tt1 : TT} {wi1 : TI} {te : TE} {vs vs1 : List Nat} {σ σ2 : L2.St} {H1 H4 : Hp} {D : Addr} {Qd Nx : Hp → Prop}
theorem lc2_it (w : Walk J n G Y) (Pv : Nat → Hp → Prop) (h0 : Pv 0 (upd H1 D (.lst []))) (hG : ∀ i H, i ≤ n → Pv i H → G H)
    (hs : ∀ i x H H', i < n → Pv i H → Y i H x H' → g x (wipe σ vs) H' fun σ2 H2 => wipe σ2 vs = wipe σ vs ∧ tt σ2 H2 fun b H3 => if b = true then tLcIn wi1 g1 tt1 te vs1 D (Pv (i + 1)) σ2 H3 else Pv (i + 1) H3) (hd : ∀ H, Pv n H → Qd H) :
    ∃ W : Nat → Nat → Hp → Prop, (∃ m, W 0 m (upd H1 D (.lst []))) ∧ ∀ i m H, W i m H →
      (J.stop i H ∧ Qd H) ∨ (J.go i H ∧ ∃ Nx : Hp → Prop, (∀ H', Nx H' → ∃ m', m' < m ∧ W (i + 1) m' H') ∧ ∀ x H', J.yld i H x H' → g x (wipe σ vs) H' fun σ2 H2 => wipe σ2 vs = wipe σ vs ∧ tt σ2 H2 fun b H3 =>
        if b = true then tLcIn wi1 g1 tt1 te vs1 D Nx σ2 H3 else Nx H3) := by
  refine ⟨fun i m H => (m + i = n) ∧ Pv i H, ⟨n, rfl, h0⟩, ?_⟩
  rintro i m H ⟨e, p⟩
  have q := hG i H (by omega) p
  rcases Nat.lt_or_ge i n with c | c
  · exact .inr ⟨w.goes i H c q, Pv (i + 1), fun H' p' => ⟨m - 1, by omega, by omega, p'⟩, fun x H' y => hs i x H H' c p (w.yields i H x H' c q y)⟩
  · obtain rfl : i = n := by omega
    exact .inl ⟨w.stops H q, hd H p⟩
theorem lcIn_it (w : Walk J n G Y) (Pv : Nat → Hp → Prop) (h0 : Pv 0 H4) (hG : ∀ i H, i ≤ n → Pv i H → G H)
    (hs : ∀ i x H H', i < n → Pv i H → Y i H x H' → g1 x (wipe σ2 vs1) H' fun σ3 H5 => wipe σ3 vs1 = wipe σ2 vs1 ∧ tt1 σ3 H5 fun b H6 =>
      if b = true then te σ3 H6 fun y H7 => ∃ acc, H7 D = some (.lst acc) ∧ acc.length < sizeLine ∧ Pv (i + 1) (upd H7 D (.lst (acc ++ [y]))) else Pv (i + 1) H6) (hd : ∀ H, Pv n H → Nx H) :
    ∃ W1 : Nat → Nat → Hp → Prop, (∃ m, W1 0 m H4) ∧ ∀ j k H, W1 j k H →
      (J.stop j H ∧ Nx H) ∨ (J.go j H ∧ ∃ N1 : Hp → Prop, (∀ H', N1 H' → ∃ k', k' < k ∧ W1 (j + 1) k' H') ∧ ∀ x H', J.yld j H x H' → g1 x (wipe σ2 vs1) H' fun σ3 H5 => wipe σ3 vs1 = wipe σ2 vs1 ∧ tt1 σ3 H5 fun b H6 =>
        if b = true then te σ3 H6 fun y H7 => ∃ acc, H7 D = some (.lst acc) ∧ acc.length < sizeLine ∧ N1 (upd H7 D (.lst (acc ++ [y]))) else N1 H6) := by
  refine ⟨fun i m H => (m + i = n) ∧ Pv i H, ⟨n, rfl, h0⟩, ?_⟩
  rintro i m H ⟨e, p⟩
  have q := hG i H (by omega) p
  rcases Nat.lt_or_ge i n with c | c
  · exact .inr ⟨w.goes i H c q, Pv (i + 1), fun H' p' => ⟨m - 1, by omega, by omega, p'⟩, fun x H' y => hs i x H H' c p (w.yields i H x H' c q y)⟩
  · obtain rfl : i = n := by omega
    exact .inl ⟨w.stops H q, hd H p⟩
end
end K1
set_option linter.all false
set_option maxRecDepth 100000
set_option maxHeartbeats 1000000
/-! list(d.values()), d a dict whose keys are ints and texts -/
namespace K1
open PySem PySem.Spec PyProof.Rows L2
def tListVals (te : TE) : TE := fun σ H Q => te σ H fun x H1 => ∃ (d : Addr) (kvs : List (Key × V)), x = .ref d ∧ H1 d = some (.dK kvs) ∧ ∀ p, H1 p = none → Q (.ref p) (upd H1 p (.lst (kvs.map (·.2))))
theorem vals_at {kvs : List (Key × V)} {vs : List (Key × Value)} {ys : List Value} (h : KV kvs vs) (l : ys.length = vs.length) (k : ∀ (j : Nat) (v : Value), ys[j]? = some v → ∃ q, vs[j]? = some (q, v)) : Vals (kvs.map (·.2)) ys := by
  induction h generalizing ys with
  | nil =>
    have e : ys = [] := List.eq_nil_of_length_eq_zero l
    subst e
    exact .nil
  | cons h t ih =>
    cases ys with
    | nil => cases l
    | cons y r =>
      refine .cons ?_ (ih (by simpa using l) fun j v e => ?_)
      · obtain ⟨q, e⟩ := k 0 y rfl
        have e' := Option.some.inj e
        rw [e'] at h
        exact h.2
      · exact k (j + 1) v e
theorem pe_listVals {X : Cx} {e : Expr} {te : TE} {p apos cpos pos : Pos} (hc : X.calm = true) (he : PE X e te) (hg : Gl X "list") (hm : X.mg "list" = none) (hv : bootBuiltins "list" = some (.type "list")) (hbase : attributeBase e "values" X.env (eval e X.env) = eval e X.env := by rfl) (hline : (apos.endLine == cpos.line) = true := by rfl)
    (hs : starEach [.Call (.Attribute e "values" apos) [] [] cpos] X.env = (false, eval (.Call (.Attribute e "values" apos) [] [] cpos) X.env) :: starEach [] X.env := by rfl) :
    PE X (.Call (.Name "list" p) [.Call (.Attribute e "values" apos) [] [] cpos] [] pos) (tListVals te) := by
  refine ⟨fun pins s σ H Q I hq => ?_⟩
  refine wpAny_Call_Name_kw (ld_blt I hg hm hv ?_)
  refine PyProof.Rows.callWith_type1 ?_ hs rfl
  rw [hs]
  show wpAny _ _ (spliced ((false, eval (.Call (.Attribute e "values" apos) [] [] cpos) X.env) :: backTo pos (starEach [] X.env))) _ _ s
  refine Calls.spliced_cons ?_
  refine wpAny_Call_method (T := "dict") (id := "dict.values") hbase rfl hline F.plainAttrs_dict F.slot_dict_values F.type_dict_values (thn (he.run pins s σ H _ I hq) fun u s1 ⟨x, H1, I1, rx, d, kvs, ex, hd, q⟩ => ?_)
  subst ex
  obtain rfl : u = Value.ref d := rx
  obtain ⟨hz, hs0, vs, kv, hdo⟩ := I1.hok d _ hd
  obtain ⟨ep, hat⟩ := hdo.dictAt
  have lk : kvs.length = vs.length := Paired.length kv
  have I2 : Inv X pins σ H1 { s1 with heap := s1.heap.push { cls := .type "dict_values", data := .fields #[.ref d] } } := I1.kept (t' := s1.toks) fun b ob q => Heap.get?_push_of_some _ q
  refine ⟨hdo.typeIs, hdo.mapOf.noDict, ?_⟩
  show wpAny _ _ (callWith cpos (.builtin "dict.values") [.ref d] [] []) _ X.xe s1
  refine method_meetsIn F.slot_dict_values F.entry_dict_values rfl (PySem.evalArgs_none ⟨rfl, hdo.typeIs, F.args_dict_values_1 _, _, meets_dict_values (mixKind X.prog X.w) d hs0, ⟨vs, hdo⟩, ?_⟩)
  refine Calls.spliced_nil ?_
  refine PySem.W.kdl_call (PySem.W.kdl_values (knd := mixKind X.prog X.w) (kvs := vs) (ep := ep)) (I1.ok.hd hc) ⟨⟨_, Heap.get?_push_size _ rfl, rfl, rfl⟩, hat.push _⟩ (by omega) fun h' tk acc c hk hS hacc => ?_
  have rv : Vals (kvs.map (·.2)) acc.toList := vals_at kv (by rw [Array.length_toList]; exact hacc.1) fun j v e => hacc.2 j v (by rw [← Array.getElem?_toList]; exact e)
  refine ⟨.ref _, _, I2.laid (t' := tk) (o := .lst (kvs.map (·.2))) hk (Nat.le_refl _) ?_, rfl, q _ (I2.hok.fresh (Nat.le_refl _))⟩
  exact ⟨by rw [List.length_map]; exact hz, acc.toList, c, rv, by rw [Array.toArray_toList]; exact hS⟩
end K1
set_option linter.all false
set_option maxRecDepth 100000
set_option maxHeartbeats 1000000
/-! list(d.values()), d a dict whose keys are tuples -/
namespace K1
open PySem PySem.Spec PyProof.Rows L2
def tListValsT (te : TE) : TE := fun σ H Q => te σ H fun x H1 => ∃ (d : Addr) (kvs : List (List Key × V)), x = .ref d ∧ H1 d = some (.dT kvs) ∧ ∀ p, H1 p = none → Q (.ref p) (upd H1 p (.lst (kvs.map (·.2))))
theorem valsT_at {κ : Type} {F : (List Key × V) → κ → Prop} {g : κ → Value} (hg : ∀ p q, F p q → RelV p.2 (g q)) {kvs : List (List Key × V)} {xs : List κ} {ys : List Value} (h : Paired F kvs xs) (l : ys.length = xs.length) (k : ∀ (j : Nat) (v : Value), ys[j]? = some v → (xs[j]?).map g = some v) : Vals (kvs.map (·.2)) ys := by
  induction h generalizing ys with
  | nil =>
    have e : ys = [] := List.eq_nil_of_length_eq_zero l
    subst e
    exact .nil
  | cons h t ih =>
    cases ys with
    | nil => cases l
    | cons y r =>
      refine .cons ?_ (ih (by simpa using l) fun j v e => k (j + 1) v e)
      have e := k 0 y rfl
      have e' := Option.some.inj e
      rw [← e']
      exact hg _ _ h
theorem pe_listValsT {X : Cx} {e : Expr} {te : TE} {p apos cpos pos : Pos} (hc : X.calm = true) (he : PE X e te) (hg : Gl X "list") (hm : X.mg "list" = none) (hv : bootBuiltins "list" = some (.type "list")) (hbase : attributeBase e "values" X.env (eval e X.env) = eval e X.env := by rfl) (hline : (apos.endLine == cpos.line) = true := by rfl)
    (hs : starEach [.Call (.Attribute e "values" apos) [] [] cpos] X.env = (false, eval (.Call (.Attribute e "values" apos) [] [] cpos) X.env) :: starEach [] X.env := by rfl) :
    PE X (.Call (.Name "list" p) [.Call (.Attribute e "values" apos) [] [] cpos] [] pos) (tListValsT te) := by
  refine ⟨fun pins s σ H Q I hq => ?_⟩
  refine wpAny_Call_Name_kw (ld_blt I hg hm hv ?_)
  refine PyProof.Rows.callWith_type1 ?_ hs rfl
  rw [hs]
  show wpAny _ _ (spliced ((false, eval (.Call (.Attribute e "values" apos) [] [] cpos) X.env) :: backTo pos (starEach [] X.env))) _ _ s
  refine Calls.spliced_cons ?_
  refine wpAny_Call_method (T := "dict") (id := "dict.values") hbase rfl hline F.plainAttrs_dict F.slot_dict_values F.type_dict_values (thn (he.run pins s σ H _ I hq) fun u s1 ⟨x, H1, I1, rx, d, kvs, ex, hd, q⟩ => ?_)
  subst ex
  obtain rfl : u = Value.ref d := rx
  obtain ⟨hz, hs0, xs, r, o, es, ep, h1, h2, h3, h4, h5⟩ := I1.hok d _ hd
  have raw : s1.heap.DictRaw d es ep := ⟨o, h1, h2, h3⟩
  have lk : kvs.length = xs.length := Paired.length r
  have le : es.size = xs.length := by rw [← Array.length_toList, h4, List.length_map]
  have I2 : Inv X pins σ H1 { s1 with heap := s1.heap.push { cls := .type "dict_values", data := .fields #[.ref d] } } := I1.kept (t' := s1.toks) fun b ob q => Heap.get?_push_of_some _ q
  refine ⟨raw.typeIs, fun x hx => ⟨o, by cases hx; exact h1, h2.2.1⟩, ?_⟩
  show wpAny _ _ (callWith cpos (.builtin "dict.values") [.ref d] [] []) _ X.xe s1
  refine method_meetsIn F.slot_dict_values F.entry_dict_values rfl (PySem.evalArgs_none ⟨rfl, raw.typeIs, F.args_dict_values_1 _, _, PySem.meets_dict_values_raw (prog := X.prog) (w := X.w) d hs0, ⟨es, ep, raw⟩, ?_⟩)
  refine Calls.spliced_nil ?_
  refine PySem.W.kdl_call PySem.KdlSrc.rawValues (I1.ok.hd hc) ⟨⟨_, Heap.get?_push_size _ rfl, rfl, rfl⟩, raw.push _⟩ (by omega) fun h' tk acc c hk hS hacc => ?_
  have rv : Vals (kvs.map (·.2)) acc.toList := valsT_at (g := fun q => q.2.2) (fun _ _ q => q.2.2) r (by rw [Array.length_toList, hacc.1, le]) fun j v e => by
    obtain ⟨hi, ev⟩ := hacc.2 j v (by rw [← Array.getElem?_toList]; exact e)
    have ej : es[j]? = (xs[j]?).map (entryOfKey (tupleKind (mixKind X.prog X.w))) := by rw [← Array.getElem?_toList, h4, List.getElem?_map]
    rw [Array.getElem?_eq_getElem hi] at ej
    obtain ⟨y, hy, e2⟩ := Option.map_eq_some_iff.mp ej.symm
    rw [hy, ev, ← e2]
    rfl
  refine ⟨.ref _, _, I2.laid (t' := tk) (o := .lst (kvs.map (·.2))) hk (Nat.le_refl _) ?_, rfl, q _ (I2.hok.fresh (Nat.le_refl _))⟩
  exact ⟨by rw [List.length_map]; exact hz, acc.toList, c, rv, by rw [Array.toArray_toList]; exact hS⟩
end K1
set_option linter.all false
set_option maxRecDepth 100000
set_option maxHeartbeats 1000000
/-! list(zip(a, b)), a and b lists or tuples -/
namespace K1
open PySem PySem.Spec PyProof.Rows L2
theorem nolen_zip : typeLookup (.type "zip") "__len__" = pure none := by rw [typeLookup_type, builtinLookup_eq_fast]; kernel_rfl
theorem nohint_zip : typeLookup (.type "zip") "__length_hint__" = pure none := by rw [typeLookup_type, builtinLookup_eq_fast]; kernel_rfl
section
variable {prog : Program} {w : World} {A : Around} {E : Value → Shared → Prop} {s : Shared} {z TI TO i1 i2 a b S : Addr} {t1 t2 : Bool} {xs ys : Array Value}
theorem zipB_held {T : Addr} {f : Bool} {oT : Obj} {k : Nat} {Q : Value → Shared → Prop} (D : ZipApart z TI TO i1 i2 a b) (hh : A.handled = none)
    (hz : IsZipHeld s.heap z TI TO T f) (hT : s.heap.get? T = some oT) (hTI : PySem.IsPair s.heap TI (.ref i1) (.ref i2))
    (h1 : IterB t1 s.heap i1 a k) (h2 : IterB t2 s.heap i2 b k) (hl1 : IsB t1 s.heap a xs) (hl2 : IsB t2 s.heap b ys) (hx : k < xs.size) (hy : k < ys.size)
    (hQ : ∀ x y h' tk, xs[k]? = some x → ys[k]? = some y → IsZipHeld h' z TI TO T true → IterB t1 h' i1 a (k + 1) → IterB t2 h' i2 b (k + 1) → PySem.IsPair h' s.heap.objs.size x y → h'.objs.size = s.heap.objs.size + 1 →
      (∀ c o, c ≠ z → c ≠ i1 → c ≠ i2 → s.heap.get? c = some o → h'.get? c = some o) → Q (.ref s.heap.objs.size) { s with heap := h', toks := tk }) :
    wpAny (model prog w) A (Builtin.«zip.__next__» ⟨[.ref z], []⟩) (fun fin s' => ∃ v, fin = .done (.ret v) ∧ Q v s') E s := by
  show wpAny _ _ (field (.ref z) 2 >>= _) _ _ _
  refine wpAny_bind (wpAny_field hz rfl (x := .bool false) rfl ?_)
  show wpAny _ _ (field (.ref z) 3 >>= _) _ _ _
  refine wpAny_bind (wpAny_field hz rfl (x := .ref TI) rfl ?_)
  refine wpAny_bind (wpAny_seqItems hTI rfl ?_)
  show wpAny _ _ (Builtin.SmallTypes.ownedTupleIsFree (.ref z) >>= _) _ _ _
  refine wpAny_bind (wpAny_tupleHeld_zip hz hT fun h₁ hz₁ hs₁ => ?_)
  simp only [Bool.false_eq_true, if_false]
  refine wpAny_bind ?_
  rw [← Array.forIn_toList]
  simp only [List.forIn_cons, List.forIn_nil]
  refine wpAny_bind (wpAny_bind (wpAny_holding ?_))
  show wpAny _ _ (Builtin.SmallTypes.nextOf (.ref i1) >>= _) _ _ _
  refine wpAny_bind ((draws_B hh t1 i1 a D.l1i1 xs).item k { s with heap := h₁ } _ _ hx ⟨h1.at fun o e => hs₁.extBut _ _ D.i1z e, hl1.at fun o e => hs₁.extBut _ _ D.l1z e⟩ fun x h₂ tk₂ ex st₂ hs₂ => wpAny_pure ?_)
  refine wpAny_pure ?_
  refine wpAny_bind (wpAny_bind (wpAny_holding ?_))
  show wpAny _ _ (Builtin.SmallTypes.nextOf (.ref i2) >>= _) _ _ _
  refine wpAny_bind ((draws_B hh t2 i2 b D.l2i2 ys).item k { s with heap := h₂, toks := tk₂ } _ _ hy ⟨h2.at fun o e => hs₂.extBut _ _ D.i12.symm (hs₁.extBut _ _ D.i2z e), hl2.at fun o e => hs₂.extBut _ _ D.l2i1 (hs₁.extBut _ _ D.l2z e)⟩ fun y h₃ tk₃ ey st₃ hs₃ => wpAny_pure ?_)
  refine wpAny_pure (wpAny_pure ?_)
  show wpAny _ _ (newTuple [x, y] >>= _) _ _ _
  refine wpAny_bind (wpAny_newTuple ?_)
  have hsz : h₃.objs.size = s.heap.objs.size := by rw [hs₃.1, hs₂.1, hs₁.1]
  have hz₃ : IsZipHeld h₃ z TI TO T true := hs₃.extBut _ _ D.i2z.symm (hs₂.extBut _ _ D.i1z.symm hz₁)
  have hk : ∀ c o, c ≠ z → c ≠ i1 → c ≠ i2 → s.heap.get? c = some o → h₃.get? c = some o := fun c o c1 c2 c3 e => hs₃.extBut _ _ c3 (hs₂.extBut _ _ c2 (hs₁.extBut _ _ c1 e))
  have h1₃ : IterB t1 h₃ i1 a (k + 1) := st₂.1.at fun o e => hs₃.extBut _ _ D.i12 e
  refine wpAny_pure ⟨_, rfl, ?_⟩
  show Q (.ref h₃.objs.size) _
  have hp : PySem.IsPair (h₃.push { cls := .type "tuple", data := .seq #[x, y] }) h₃.objs.size x y := Heap.get?_push_size _ rfl
  have hz4 : (h₃.push { cls := .type "tuple", data := .seq #[x, y] }).objs.size = h₃.objs.size + 1 := Heap.size_push ..
  rw [hsz] at hp hz4 ⊢
  exact hQ x y _ _ ex ey (Heap.get?_push_of_some _ hz₃) (h1₃.at fun o e => Heap.get?_push_of_some _ e) (st₃.1.at fun o e => Heap.get?_push_of_some _ e) hp hz4 fun c o c1 c2 c3 e => Heap.get?_push_of_some _ (hk c o c1 c2 c3 e)
theorem zipB_held_end {T : Addr} {f : Bool} {oT : Obj} {k : Nat} {Q : Fin → Shared → Prop} (D : ZipApart z TI TO i1 i2 a b) (hh : A.handled = none)
    (hz : IsZipHeld s.heap z TI TO T f) (hT : s.heap.get? T = some oT) (hTI : PySem.IsPair s.heap TI (.ref i1) (.ref i2))
    (h1 : IterB t1 s.heap i1 a k) (h2 : IterB t2 s.heap i2 b k) (hl1 : IsB t1 s.heap a xs) (hl2 : IsB t2 s.heap b ys) (hx : k ≤ xs.size) (hy : k ≤ ys.size) (hend : k = xs.size ∨ k = ys.size)
    (hE : ∀ h' tk e, (∀ c o, c ≠ z → c ≠ i1 → c ≠ i2 → s.heap.get? c = some o → h'.get? c = some o) → (∃ o, h'.get? e = some o ∧ o.cls = .type "StopIteration") → E (.ref e) { s with heap := h', toks := tk }) :
    wpAny (model prog w) A (Builtin.«zip.__next__» ⟨[.ref z], []⟩) Q E s := by
  show wpAny _ _ (field (.ref z) 2 >>= _) _ _ _
  refine wpAny_bind (wpAny_field hz rfl (x := .bool false) rfl ?_)
  show wpAny _ _ (field (.ref z) 3 >>= _) _ _ _
  refine wpAny_bind (wpAny_field hz rfl (x := .ref TI) rfl ?_)
  refine wpAny_bind (wpAny_seqItems hTI rfl ?_)
  show wpAny _ _ (Builtin.SmallTypes.ownedTupleIsFree (.ref z) >>= _) _ _ _
  refine wpAny_bind (wpAny_tupleHeld_zip hz hT fun h₁ hz₁ hs₁ => ?_)
  simp only [Bool.false_eq_true, if_false]
  refine wpAny_bind ?_
  rw [← Array.forIn_toList]
  simp only [List.forIn_cons, List.forIn_nil]
  refine wpAny_bind (wpAny_bind (wpAny_holding ?_))
  show wpAny _ _ (Builtin.SmallTypes.nextOf (.ref i1) >>= _) _ _ _
  by_cases q : k = xs.size
  · subst q
    refine wpAny_bind ((draws_B hh t1 i1 a D.l1i1 xs).done { s with heap := h₁ } _ _ ⟨h1.at fun o e => hs₁.extBut _ _ D.i1z e, hl1.at fun o e => hs₁.extBut _ _ D.l1z e⟩ fun h₂ e hs₂ he => ?_)
    exact hE h₂ _ e (fun c o c1 c2 _ x => hs₂ _ _ c2 (hs₁.extBut _ _ c1 x)) he
  · have q2 := hend.resolve_left q
    subst q2
    refine wpAny_bind ((draws_B hh t1 i1 a D.l1i1 xs).item ys.size { s with heap := h₁ } _ _ (by omega) ⟨h1.at fun o e => hs₁.extBut _ _ D.i1z e, hl1.at fun o e => hs₁.extBut _ _ D.l1z e⟩ fun x h₂ tk₂ ex st₂ hs₂ => wpAny_pure ?_)
    refine wpAny_pure ?_
    refine wpAny_bind (wpAny_bind (wpAny_holding ?_))
    show wpAny _ _ (Builtin.SmallTypes.nextOf (.ref i2) >>= _) _ _ _
    refine wpAny_bind ((draws_B hh t2 i2 b D.l2i2 ys).done { s with heap := h₂, toks := tk₂ } _ _ ⟨h2.at fun o e => hs₂.extBut _ _ D.i12.symm (hs₁.extBut _ _ D.i2z e), hl2.at fun o e => hs₂.extBut _ _ D.l2i1 (hs₁.extBut _ _ D.l2z e)⟩ fun h₃ e hs₃ he => ?_)
    exact hE h₃ _ e (fun c o c1 c2 c3 x => hs₃ _ _ c3 (hs₂.extBut _ _ c2 (hs₁.extBut _ _ c1 x))) he
end
end K1
set_option linter.all false
set_option maxRecDepth 100000
set_option maxHeartbeats 1000000
namespace K1
open PySem PySem.Spec PyProof.Rows L2
def StZ (t1 t2 : Bool) (z TI TO i1 i2 a b S : Addr) (xs ys : Array Value) (i : Nat) (h : Heap) : Prop :=
  PySem.IsPair h TI (.ref i1) (.ref i2) ∧ IterB t1 h i1 a i ∧ IterB t2 h i2 b i ∧ IsB t1 h a xs ∧ IsB t2 h b ys ∧
  ((IsZip h z TI TO .none ∧ ∃ u v, PySem.IsPair h TO u v) ∨ ∃ T f oT, IsZipHeld h z TI TO T f ∧ h.get? T = some oT ∧ T ≠ z ∧ T ≠ i1 ∧ T ≠ i2 ∧ T ≠ S)
/-- the cells of the zip lie ahead of S -/
structure LowZ (z TI TO i1 i2 a b S : Addr) : Prop where
  z : z < S
  TI : TI < S
  TO : TO < S
  i1 : i1 < S
  i2 : i2 < S
  a : a < S
  b : b < S
section
variable {prog : Program} {w : World} {A : Around} {E : Value → Shared → Prop} {s : Shared} {z TI TO i1 i2 a b S : Addr} {t1 t2 : Bool} {xs ys : Array Value} {i : Nat}
theorem StZ.keep {h h' : Heap} (x : StZ t1 t2 z TI TO i1 i2 a b S xs ys i h) (L : LowZ z TI TO i1 i2 a b S) (hk : ∀ c o, c ≠ S → h.get? c = some o → h'.get? c = some o) : StZ t1 t2 z TI TO i1 i2 a b S xs ys i h' := by
  obtain ⟨hTI, h1, h2, hl1, hl2, hz⟩ := x
  refine ⟨hk _ _ (Nat.ne_of_lt L.TI) hTI, h1.at fun o e => hk _ o (Nat.ne_of_lt L.i1) e, h2.at fun o e => hk _ o (Nat.ne_of_lt L.i2) e, hl1.at fun o e => hk _ o (Nat.ne_of_lt L.a) e, hl2.at fun o e => hk _ o (Nat.ne_of_lt L.b) e, ?_⟩
  rcases hz with ⟨hz, u, v, hTO⟩ | ⟨T, f, oT, hz, hT, r1, r2, r3, r4⟩
  · exact .inl ⟨hk _ _ (Nat.ne_of_lt L.z) hz, u, v, hk _ _ (Nat.ne_of_lt L.TO) hTO⟩
  · exact .inr ⟨T, f, oT, hk _ _ (Nat.ne_of_lt L.z) hz, hk _ _ r4 hT, r1, r2, r3, r4⟩
theorem sepZ (D : ZipApart z TI TO i1 i2 a b) : ZipSep2 z TI TO i1 i2 [i1, a] [i2, b] :=
  ⟨D.TIz, D.TOz, D.TITO, D.TIi1, by simp, by simp [D.i1z.symm, D.l1z.symm], by simp [D.TOi1, D.l1TO.symm], D.TIi2, by simp, by simp [D.i2z.symm, D.l2z.symm], by simp [D.TOi2, D.l2TO.symm], by simp [D.i12, D.l2i1.symm], by simp [D.i12.symm, D.l1i2.symm]⟩
theorem zl_item {Q : Option Value → Shared → Prop} (D : ZipApart z TI TO i1 i2 a b) (hh : A.handled = none) (st : StZ t1 t2 z TI TO i1 i2 a b S xs ys i s.heap) (hx : i < xs.size) (hy : i < ys.size) (hS : S < s.heap.objs.size)
    (hQ : ∀ x y h' tk, xs[i]? = some x → ys[i]? = some y → StZ t1 t2 z TI TO i1 i2 a b S xs ys (i + 1) h' → PySem.IsPair h' s.heap.objs.size x y → h'.objs.size = s.heap.objs.size + 1 →
      (∀ c o, c ≠ z → c ≠ TO → c ≠ i1 → c ≠ i2 → s.heap.get? c = some o → h'.get? c = some o) → Q (some (.ref s.heap.objs.size)) { s with heap := h', toks := tk }) :
    wpAny (model prog w) A (pyNext (.ref z)) Q E s := by
  obtain ⟨hTI, h1, h2, hl1, hl2, hz⟩ := st
  have hh1 : A.in1.handled = none := hh
  have lt : ∀ {c o}, s.heap.get? c = some o → s.heap.objs.size ≠ c := fun e => Nat.ne_of_gt (Heap.lt_size e)
  have n1 : s.heap.objs.size ≠ i1 := let ⟨_, _, _, e, _⟩ := h1.live; lt e
  have n2 : s.heap.objs.size ≠ i2 := let ⟨_, _, _, e, _⟩ := h2.live; lt e
  rcases hz with ⟨hz, u, v, hTO⟩ | ⟨T, f, oT, hz, hT, r1, r2, r3, r4⟩
  · refine wpAny_pyNext_zipD2_item (sepZ D) (draws_B hh1 t1 i1 a D.l1i1 xs) (draws_B hh1 t2 i2 b D.l2i2 ys) hz hTI hTO ⟨h1, hl1⟩ ⟨h2, hl2⟩ hx hy fun x y h' tk ex ey z' TO' st1 st2 hT hsz hk => ?_
    refine hQ x y h' tk ex ey ⟨hk _ _ D.TIz D.TITO D.TIi1 D.TIi2 hTI, st1.1, st2.1, st1.2, st2.2, .inr ⟨s.heap.objs.size, false, _, z', hT, lt hz, n1, n2, Nat.ne_of_gt hS⟩⟩ hT hsz hk
  · have hTy : s.TypeIs (.ref z) "zip" := ⟨_, hz, rfl⟩
    unfold pyNext
    refine wpAny_bind (wpAny_attempt (wpAny_callSpecial?_slot (name := Str.ofString "__next__") hTy F.slot_zip_next
      (wpAny_call_entry F.slot_zip_next hTy F.entry_zip_next
        (zipB_held D hh1 hz hT hTI h1 h2 hl1 hl2 hx hy fun x y h' tk ex ey a1 a3 a4 a5 a6 hk => wpAny_pure (hQ x y h' tk ex ey ⟨hk _ _ D.TIz D.TIi1 D.TIi2 hTI, a3, a4, hl1.at fun o e => hk _ o D.l1z D.l1i1 D.l1i2 e, hl2.at fun o e => hk _ o D.l2z D.l2i1 D.l2i2 e,
          .inr ⟨T, true, oT, a1, hk _ _ r1 r2 r3 hT, r1, r2, r3, r4⟩⟩ a5 a6 fun c o c1 _ c3 c4 e => hk c o c1 c3 c4 e)) (F.args_zip_next_1 _))))
theorem zl_done {Q : Option Value → Shared → Prop} (D : ZipApart z TI TO i1 i2 a b) (hh : A.handled = none) (st : StZ t1 t2 z TI TO i1 i2 a b S xs ys (min xs.size ys.size) s.heap)
    (hQ : ∀ h' tk, (∀ c o, c ≠ z → c ≠ TO → c ≠ i1 → c ≠ i2 → s.heap.get? c = some o → h'.get? c = some o) → Q none { s with heap := h', toks := tk }) :
    wpAny (model prog w) A (pyNext (.ref z)) Q E s := by
  obtain ⟨hTI, h1, h2, hl1, hl2, hz⟩ := st
  have hh1 : A.in1.handled = none := hh
  have l1 : min xs.size ys.size ≤ xs.size := Nat.min_le_left _ _
  have l2 : min xs.size ys.size ≤ ys.size := Nat.min_le_right _ _
  have le : min xs.size ys.size = xs.size ∨ min xs.size ys.size = ys.size := by omega
  rcases hz with ⟨hz, u, v, hTO⟩ | ⟨T, f, oT, hz, hT, r1, r2, r3, r4⟩
  · exact wpAny_pyNext_zipD2_end (sepZ D) (draws_B hh1 t1 i1 a D.l1i1 xs) (draws_B hh1 t2 i2 b D.l2i2 ys) hz hTI hTO ⟨h1, hl1⟩ ⟨h2, hl2⟩ l1 l2 le hQ
  · have hTy : s.TypeIs (.ref z) "zip" := ⟨_, hz, rfl⟩
    unfold pyNext
    refine wpAny_bind (wpAny_attempt (wpAny_callSpecial?_slot (name := Str.ofString "__next__") hTy F.slot_zip_next
      (wpAny_call_entry F.slot_zip_next hTy F.entry_zip_next
        (zipB_held_end D hh1 hz hT hTI h1 h2 hl1 hl2 l1 l2 le fun h' tk e hk he => ?_) (F.args_zip_next_1 _))))
    obtain ⟨o, ho, hc⟩ := he
    refine wpAny_bind (wpAny_isInstance (T := "StopIteration") (b := true) ⟨o, ho, hc⟩ isSubtype_stop ?_)
    exact wpAny_pure (hQ _ _ fun c o c1 _ c3 c4 e => hk c o c1 c3 c4 e)
/-- the tuples that were given out -/
structure ZlG (xs ys : Array Value) (lo : Addr) (h : Heap) (as : List Addr) : Prop where
  rise : as.Pairwise (· < ·)
  above : ∀ a ∈ as, lo < a
  pairs : ∀ (j : Nat) (a : Addr), as[j]? = some a → ∃ x y, xs[j]? = some x ∧ ys[j]? = some y ∧ PySem.IsPair h a x y
theorem ZlG.there {lo : Addr} {h : Heap} {as : List Addr} (g : ZlG xs ys lo h as) {c : Addr} (ha : c ∈ as) : c < h.objs.size := by
  obtain ⟨j, hj⟩ := List.mem_iff_getElem?.mp ha
  obtain ⟨_, _, _, _, e⟩ := g.pairs j c hj
  exact Heap.lt_size e
theorem zl_loop {R : Result → Shared → Prop} (D : ZipApart z TI TO i1 i2 a b) (L : LowZ z TI TO i1 i2 a b S) (hh : A.handled = none) (hn : min xs.size ys.size ≤ sizeLine) (res : Value) {h₁ : Heap}
    (hR : ∀ h' tk acc c as, (∀ q o, q ≠ S → q ≠ z → q ≠ TO → q ≠ i1 → q ≠ i2 → h₁.get? q = some o → h'.get? q = some o) → h'.get? S = some { cls := .type "list", dict := none, data := .seq acc c, slots := #[] } → as.length = min xs.size ys.size → ZlG xs ys S h' as →
      acc.toList = as.map Value.ref → R (.ok (.ret res)) { s with heap := h', toks := tk }) :
    ∀ (k i : Nat) (h : Heap) (tk c : Nat) (acc : Array Value) (as : List Addr), min xs.size ys.size - i = k → i ≤ min xs.size ys.size → StZ t1 t2 z TI TO i1 i2 a b S xs ys i h → (∀ q o, q ≠ S → q ≠ z → q ≠ TO → q ≠ i1 → q ≠ i2 → h₁.get? q = some o → h.get? q = some o) →
      h.get? S = some { cls := .type "list", dict := none, data := .seq acc c, slots := #[] } → acc.toList = as.map Value.ref → as.length = i → ZlG xs ys S h as →
      codeAny (model prog w) A (.builtin "list.extend.loop" ⟨[.ref S, .ref z, res], []⟩) R { s with heap := h, toks := tk } := by
  have off : ∀ {q : Addr}, S < q → q ≠ z ∧ q ≠ TO ∧ q ≠ i1 ∧ q ≠ i2 := fun {q} hq => ⟨Nat.ne_of_gt (Nat.lt_trans L.z hq), Nat.ne_of_gt (Nat.lt_trans L.TO hq), Nat.ne_of_gt (Nat.lt_trans L.i1 hq), Nat.ne_of_gt (Nat.lt_trans L.i2 hq)⟩
  have offS : S ≠ z ∧ S ≠ TO ∧ S ≠ i1 ∧ S ≠ i2 := ⟨Nat.ne_of_gt L.z, Nat.ne_of_gt L.TO, Nat.ne_of_gt L.i1, Nat.ne_of_gt L.i2⟩
  intro k
  induction k with
  | zero =>
    intro i h tk c acc as hk hi hst hkeep hS hacc hal hG
    have hin : i = min xs.size ys.size := by omega
    subst hin
    refine codeAny_builtin PySem.F.entry_extend_loop ?_
    rw [Around.under_plainId PySem.F.plain_extend_loop _]
    show wpAny _ A.in1 (pyNext (.ref z) >>= _) _ _ _
    refine wpAny_bind (zl_done (s := { s with heap := h, toks := tk }) (A := A.in1) D hh hst fun h' tk' he => ?_)
    refine wpAny_pure (hR h' tk' acc c as (fun q o h1 h2 h3 h4 h5 e => he q o h2 h3 h4 h5 (hkeep q o h1 h2 h3 h4 h5 e)) (he S _ offS.1 offS.2.1 offS.2.2.1 offS.2.2.2 hS) (by omega) ⟨hG.rise, hG.above, fun j q hj => ?_⟩ hacc)
    obtain ⟨x, y, e1, e2, e3⟩ := hG.pairs j q hj
    obtain ⟨o1, o2, o3, o4⟩ := off (hG.above q (List.mem_of_getElem? hj))
    exact ⟨x, y, e1, e2, he q _ o1 o2 o3 o4 e3⟩
  | succ k ih =>
    intro i h tk c acc as hk hi hst hkeep hS hacc hal hG
    have hlt : i < min xs.size ys.size := by omega
    have hsz : acc.size = i := by rw [← Array.length_toList, hacc, List.length_map, hal]
    refine codeAny_builtin PySem.F.entry_extend_loop ?_
    rw [Around.under_plainId PySem.F.plain_extend_loop _]
    show wpAny _ A.in1 (pyNext (.ref z) >>= _) _ _ _
    refine wpAny_bind (zl_item (s := { s with heap := h, toks := tk }) (A := A.in1) (S := S) D hh hst (by omega) (by omega) (Heap.lt_size hS) fun x y h' tk' ex ey hst' ht hz hkp => ?_)
    dsimp only at ht hz hkp ⊢
    have hS' := hkp S _ offS.1 offS.2.1 offS.2.2.1 offS.2.2.2 hS
    have up : ∀ q o, q ≠ S → h'.get? q = some o → (h'.update S (Obj.mapSeq (·.push (Value.ref h.objs.size)))).get? q = some o := fun q o hb e => (Heap.get?_update_other _ _ (Ne.symm hb)).trans e
    have hSl : S < h.objs.size := Heap.lt_size hS
    show wpAny _ A.in1 (updateSeq S (·.push (Value.ref h.objs.size)) >>= _) _ _ _
    refine wpAny_bind ?_
    refine wpAny_updateSeq hS' rfl (wpAny_pure ⟨plainId_quiet PySem.F.plain_extend_loop _, ih (i + 1) _ tk' _ (acc.push (Value.ref h.objs.size)) (as ++ [h.objs.size]) (by omega) hlt (hst'.keep L up)
      (fun q o h1 h2 h3 h4 h5 e => up q o h1 (hkp q o h2 h3 h4 h5 (hkeep q o h1 h2 h3 h4 h5 e))) (Heap.get?_update_self _ hS' rfl) (by rw [Array.toList_push, hacc, List.map_append]; rfl) (by rw [List.length_append, hal]; rfl) ⟨?_, ?_, ?_⟩⟩) (by rw [hsz]; omega) (by show (acc.push (Value.ref h.objs.size)).size ≤ sizeLine + 1; rw [Array.size_push, hsz]; omega)
    · refine List.pairwise_append.mpr ⟨hG.rise, List.pairwise_singleton _ _, fun q ha r hb => ?_⟩
      rw [List.mem_singleton.mp hb]
      exact hG.there ha
    · intro q ha
      rcases List.mem_append.mp ha with ha | ha
      · exact hG.above q ha
      · rw [List.mem_singleton.mp ha]; exact hSl
    · intro j q hj
      rcases Nat.lt_trichotomy j as.length with h1 | h1 | h1
      · rw [List.getElem?_append_left h1] at hj
        obtain ⟨x', y', e1, e2, e3⟩ := hG.pairs j q hj
        have hb := hG.above q (List.mem_of_getElem? hj)
        obtain ⟨o1, o2, o3, o4⟩ := off hb
        exact ⟨x', y', e1, e2, up q _ (Nat.ne_of_gt hb) (hkp q _ o1 o2 o3 o4 e3)⟩
      · subst h1
        have hb : h.objs.size = q := by simpa using hj
        subst hb
        rw [hal]
        exact ⟨x, y, ex, ey, up _ _ (Nat.ne_of_gt hSl) ht⟩
      · have hnone : (as ++ [h.objs.size])[j]? = none := List.getElem?_eq_none (by rw [List.length_append, List.length_singleton]; omega)
        rw [hnone] at hj; cases hj
end
end K1
set_option linter.all false
set_option maxRecDepth 100000
set_option maxHeartbeats 1000000
namespace K1
open PySem PySem.Spec PyProof.Rows L2
def StZ0 (t1 t2 : Bool) (z TI TO i1 i2 a b : Addr) (xs ys : Array Value) (h : Heap) : Prop :=
  IsZip h z TI TO .none ∧ PySem.IsPair h TI (.ref i1) (.ref i2) ∧ (∃ u v, PySem.IsPair h TO u v) ∧ IterB t1 h i1 a 0 ∧ IterB t2 h i2 b 0 ∧ IsB t1 h a xs ∧ IsB t2 h b ys
section
variable {prog : Program} {w : World} {A : Around} {E : Value → Shared → Prop} {s : Shared} {z TI TO i1 i2 a b S : Addr} {t1 t2 : Bool} {xs ys : Array Value}
theorem StZ0.keep {h h' : Heap} (x : StZ0 t1 t2 z TI TO i1 i2 a b xs ys h) (L : LowZ z TI TO i1 i2 a b S) (hk : ∀ c o, c ≠ S → h.get? c = some o → h'.get? c = some o) : StZ0 t1 t2 z TI TO i1 i2 a b xs ys h' := by
  obtain ⟨hz, hTI, ⟨u, v, hTO⟩, h1, h2, hl1, hl2⟩ := x
  exact ⟨hk _ _ (Nat.ne_of_lt L.z) hz, hk _ _ (Nat.ne_of_lt L.TI) hTI, ⟨u, v, hk _ _ (Nat.ne_of_lt L.TO) hTO⟩, h1.at fun o e => hk _ o (Nat.ne_of_lt L.i1) e, h2.at fun o e => hk _ o (Nat.ne_of_lt L.i2) e, hl1.at fun o e => hk _ o (Nat.ne_of_lt L.a) e, hl2.at fun o e => hk _ o (Nat.ne_of_lt L.b) e⟩
theorem StZ0.st {h : Heap} (x : StZ0 t1 t2 z TI TO i1 i2 a b xs ys h) : StZ t1 t2 z TI TO i1 i2 a b S xs ys 0 h := by
  obtain ⟨hz, hTI, hTO, h1, h2, hl1, hl2⟩ := x
  exact ⟨hTI, h1, h2, hl1, hl2, .inl ⟨hz, hTO⟩⟩
theorem zl_extend {R : Result → Shared → Prop} (D : ZipApart z TI TO i1 i2 a b) (L : LowZ z TI TO i1 i2 a b S) (hh : A.handled = none) (hn : min xs.size ys.size ≤ sizeLine) (hst : StZ0 t1 t2 z TI TO i1 i2 a b xs ys s.heap) (res : Value) (c₀ : Nat)
    (hS : s.heap.get? S = some { cls := .type "list", data := .seq #[] c₀ })
    (hR : ∀ h' tk acc c as, (∀ q o, q ≠ S → q ≠ z → q ≠ TO → q ≠ i1 → q ≠ i2 → s.heap.get? q = some o → h'.get? q = some o) → h'.get? S = some { cls := .type "list", dict := none, data := .seq acc c, slots := #[] } → as.length = min xs.size ys.size → ZlG xs ys S h' as →
      acc.toList = as.map Value.ref → R (.ok (.ret res)) { s with heap := h', toks := tk }) :
    wpAny (model prog w) A.in1 (Builtin.List.listExtendWith (.ref S) (.ref z) res)
      (fun fin s' => match fin with | .done f => R (.ok f) s' | .again c' => c'.quiet = true ∧ codeAny (model prog w) A c' R s') (fun e s' => R (.error e) s') s := by
  have key : ∀ (h : Heap) (c₁ tk : Nat), (∀ q o, q ≠ S → s.heap.get? q = some o → h.get? q = some o) → h.get? S = some { cls := .type "list", data := .seq #[] c₁ } →
      codeAny (model prog w) A (.builtin "list.extend.loop" ⟨[.ref S, .ref z, res], []⟩) R { s with heap := h, toks := tk } := by
    intro h c₁ tk hk hS₁
    exact zl_loop (s := s) (h₁ := s.heap) D L hh hn res hR (min xs.size ys.size) 0 h tk c₁ #[] [] (Nat.sub_zero _) (Nat.zero_le _) (hst.keep L hk).st (fun q o hb _ _ _ _ e => hk q o hb e) hS₁ rfl rfl
      ⟨List.Pairwise.nil, (fun _ ha => nomatch ha), (fun j q hj => by simp at hj)⟩
  have hT : s.TypeIs (.ref z) "zip" := ⟨_, hst.1, rfl⟩
  unfold Builtin.List.listExtendWith
  refine wpAny_bind (wpAny_typeOf (T := "zip") hT ?_)
  have h1 : Builtin.List.listSameRef (.ref S) (.ref z) = false := by
    have : S ≠ z := Nat.ne_of_gt L.z
    simp [Builtin.List.listSameRef, this]
  have h2 : (Value.type "zip" == Value.type "list") = false := by decide
  have h3 : (Value.type "zip" == Value.type "tuple") = false := by decide
  simp only [h1, h2, h3, Bool.or_false, Bool.false_eq_true, if_false]
  refine wpAny_bind (wpAny_pyIter_zip hst.1 ?_)
  refine wpAny_bind (wpAny_holding ?_)
  unfold Builtin.List.listLengthHint
  refine wpAny_bind (wpAny_specialOf hT nolen_zip ?_)
  show wpAny _ A.in1 (specialOf (Value.ref z) (Str.ofString "__length_hint__") >>= _) _ _ _
  refine wpAny_bind (wpAny_specialOf hT nohint_zip ?_)
  refine wpAny_pure ?_
  show wpAny _ A.in1 (rule "list.extend.makes-room" >>= fun _ => Builtin.List.listTouch (.ref S) >>= fun _ =>
    again (.builtin "list.extend.loop" ⟨[.ref S, .ref z, res], []⟩)) _ _ _
  refine wpAny_bind (wpAny_rule ?_)
  refine wpAny_bind ?_
  show wpAny _ A.in1 (updateSeq S (·.push .none) >>= fun _ => updateSeq S (·.pop)) _ _ _
  refine wpAny_bind (wpAny_updateSeq hS rfl ?_)
  have hS₂ := Heap.get?_update_self (Obj.mapSeq (·.push Value.none)) hS rfl
  refine wpAny_updateSeq (hz := by seq_fits) hS₂ rfl ?_
  have hS₃ := Heap.get?_update_self (Obj.mapSeq (·.pop)) hS₂ rfl
  refine wpAny_pure ⟨plainId_quiet PySem.F.plain_extend_loop _, key _ _ _ (fun q o hb e => ?_) hS₃⟩
  exact (Heap.get?_update_other _ _ (Ne.symm hb)).trans ((Heap.get?_update_other _ _ (Ne.symm hb)).trans e)
theorem zl_init {R : Result → Shared → Prop} (D : ZipApart z TI TO i1 i2 a b) (L : LowZ z TI TO i1 i2 a b S) (hh : A.handled = none) (hn : min xs.size ys.size ≤ sizeLine) (hst : StZ0 t1 t2 z TI TO i1 i2 a b xs ys s.heap)
    (hS : s.heap.get? S = some { cls := .type "list", data := .seq #[] })
    (hR : ∀ h' tk acc c as, (∀ q o, q ≠ S → q ≠ z → q ≠ TO → q ≠ i1 → q ≠ i2 → s.heap.get? q = some o → h'.get? q = some o) → h'.get? S = some { cls := .type "list", dict := none, data := .seq acc c, slots := #[] } → as.length = min xs.size ys.size → ZlG xs ys S h' as →
      acc.toList = as.map Value.ref → R (.ok (.ret .none)) { s with heap := h', toks := tk }) :
    wpAny (model prog w) A.in1 (Builtin.«list.__init__» ⟨[.ref S, .ref z], []⟩)
      (fun fin s' => match fin with | .done f => R (.ok f) s' | .again c' => c'.quiet = true ∧ codeAny (model prog w) A c' R s') (fun e s' => R (.error e) s') s := by
  show wpAny _ _ (do let old ← Builtin.List.listItems (.ref S); Builtin.List.listUpdate (.ref S) (fun _ => #[]); letGo old.toList.reverse; Builtin.List.listExtendWith (.ref S) (.ref z) .none) _ _ s
  refine wpAny_bind ?_
  unfold Builtin.List.listItems
  refine wpAny_bind (wpAny_seqItems hS rfl (wpAny_pure ?_))
  show wpAny _ _ (updateSeq S (fun _ => #[]) >>= fun _ => letGo (#[] : Array Value).toList.reverse >>= fun _ => Builtin.List.listExtendWith (.ref S) (.ref z) .none) _ _ s
  refine wpAny_bind (wpAny_updateSeq hS rfl ?_)
  have hS₂ := Heap.get?_update_self (Obj.mapSeq (fun _ => (#[] : Array Value))) hS rfl
  have oth : ∀ q o, q ≠ S → s.heap.get? q = some o → (s.heap.update S (Obj.mapSeq (fun _ => (#[] : Array Value)))).get? q = some o :=
    fun q o hb e => (Heap.get?_update_other _ _ (Ne.symm hb)).trans e
  refine wpAny_bind (wpAny_letGo ?_)
  refine zl_extend D L hh hn (hst.keep L oth) .none _ hS₂ fun h' tk acc c as hk hS' hl hG hacc => ?_
  exact hR h' tk acc c as (fun q o h1 h2 h3 h4 h5 e => hk q o h1 h2 h3 h4 h5 (oth q o h1 e)) hS' hl hG hacc
theorem zl_call {Q : Value → Shared → Prop} (D : ZipApart z TI TO i1 i2 a b) (L : LowZ z TI TO i1 i2 a b s.heap.objs.size) (hh : A.handled = none) (hn : min xs.size ys.size ≤ sizeLine) (hst : StZ0 t1 t2 z TI TO i1 i2 a b xs ys s.heap)
    (hQ : ∀ h' tk acc c as, (∀ q o, q ≠ z → q ≠ TO → q ≠ i1 → q ≠ i2 → s.heap.get? q = some o → h'.get? q = some o) → h'.get? s.heap.objs.size = some { cls := .type "list", dict := none, data := .seq acc c, slots := #[] } → as.length = min xs.size ys.size → ZlG xs ys s.heap.objs.size h' as →
      acc.toList = as.map Value.ref → Q (.ref s.heap.objs.size) { s with heap := h', toks := tk }) :
    wpAny (model prog w) A (call (.type "list") [.ref z]) Q E s := by
  refine callType_codes (Q₁ := fun obj s₁ => obj = .ref s.heap.objs.size ∧ s₁ = { s with heap := s.heap.push { cls := .type "list", data := .seq #[] } }) PySem.F.called_list (PySem.F.typeCall_list_1 _) PySem.F.entry_list_init
    (code_list_new _ ⟨rfl, rfl⟩) fun obj s₁ h₁ => ?_
  obtain ⟨rfl, rfl⟩ := h₁
  have hS : (s.heap.push { cls := .type "list", data := .seq #[] }).get? s.heap.objs.size = some { cls := .type "list", data := .seq #[] } := Heap.get?_push_size _ rfl
  refine ⟨⟨_, hS, rfl⟩, PySem.F.args_list_init_2 _ _, zl_init (A := A.in1) D L hh hn (hst.keep L fun q o _ e => Heap.get?_push_of_some _ e) hS (fun h' tk acc c as hk hS' hl hG hacc => ?_)⟩
  exact ⟨rfl, hQ h' tk acc c as (fun q o h1 h2 h3 h4 e => hk q o (Nat.ne_of_lt (Heap.lt_size e)) h1 h2 h3 h4 (Heap.get?_push_of_some _ e)) hS' hl hG hacc⟩
end
end K1
set_option linter.all false
set_option maxRecDepth 100000
set_option maxHeartbeats 1000000
namespace K1
open PySem PySem.Spec PyProof.Rows L2
theorem vals_refs : ∀ as : List Addr, Vals (as.map V.ref) (as.map Value.ref)
  | [] => .nil
  | a :: as => .cons rfl (vals_refs as)
theorem get_out {h : Heap} {a : Addr} (e : h.objs.size ≤ a) : h.get? a = none := by
  cases q : h.get? a with
  | none => rfl
  | some o => exact absurd (Heap.lt_size q) (Nat.not_lt.mpr e)
section
variable {X : Cx} {pins : List (Addr × Obj)} {σ : L2.St} {H1 : Hp} {s1 : Shared}
theorem lay_tups (I1 : Inv X pins σ H1 s1) {h' : Heap} {tk : Nat} (hk : ∀ q o, s1.heap.get? q = some o → h'.get? q = some o) {S : Addr} (hS0 : s1.heap.objs.size ≤ S) {as : List Addr} {xs ys : List V} {its its2 : List Value} (rv : Vals xs its) (rv2 : Vals ys its2)
    {acc : Array Value} {c : Nat} (hS : h'.get? S = some { cls := .type "list", dict := none, data := .seq acc c, slots := #[] }) (hacc : acc.toList = as.map Value.ref) (g : ZlG its.toArray its2.toArray S h' as) (hl : as.length ≤ sizeLine) :
    ∃ H2, Inv X pins σ H2 { s1 with heap := h', toks := tk } ∧ (∀ b o, H1 b = some o → H2 b = some o) ∧ H2 S = some (.lst (as.map V.ref)) ∧ ∀ (i : Nat) (r : Addr) (x y : V), as[i]? = some r → xs[i]? = some x → ys[i]? = some y → H1 r = none ∧ H2 r = some (.tup [x, y]) := by
  have hSz : s1.heap.get? S = none := get_out hS0
  have step : ∀ k, k ≤ as.length → ∃ (G : Heap) (Hk : Hp), (∀ b, (b < s1.heap.objs.size ∨ b = S ∨ b ∈ as.take k) → G.get? b = h'.get? b) ∧ (∀ b, ¬ (b < s1.heap.objs.size ∨ b = S ∨ b ∈ as.take k) → G.get? b = none) ∧
      Inv X pins σ Hk { s1 with heap := G, toks := tk } ∧ (∀ b, b ≠ S → b ∉ as.take k → Hk b = H1 b) ∧ Hk S = some (.lst (as.map V.ref)) ∧
      ∀ (i : Nat) (r : Addr) (x y : V), i < k → as[i]? = some r → xs[i]? = some x → ys[i]? = some y → Hk r = some (.tup [x, y]) := by
    intro k
    induction k with
    | zero =>
      intro _
      obtain ⟨G, g1, g2⟩ := restrict h' fun b => decide (b < s1.heap.objs.size ∨ b = S ∨ b ∈ as.take 0)
      have q1 : ∀ b, (b < s1.heap.objs.size ∨ b = S ∨ b ∈ as.take 0) → G.get? b = h'.get? b := fun b hb => g1 b (decide_eq_true hb)
      refine ⟨G, upd H1 S (.lst (as.map V.ref)), q1, fun b hb => g2 b (decide_eq_false hb), I1.laidN (t' := tk) (fun b u e => (q1 b (.inl (Heap.lt_size e))).trans (hk b u e)) hSz (I1.hok.fresh hS0) ?_, fun b hb _ => upd_ne hb, upd_same, fun i r x y hi => absurd hi (Nat.not_lt_zero _)⟩
      exact ⟨by rw [List.length_map]; exact hl, acc.toList, c, by rw [hacc]; exact vals_refs as, by rw [Array.toArray_toList, q1 S (.inr (.inl rfl))]; exact hS⟩
    | succ k ih =>
      intro hk1
      obtain ⟨G, Hk, q1, q2, Ik, q3, q4, q5⟩ := ih (by omega)
      have hr : as[k]? = some as[k] := List.getElem?_eq_getElem (by omega)
      generalize as[k] = r at hr
      obtain ⟨u, v, eu, ev, ht⟩ := g.pairs k r hr
      have eu : its[k]? = some u := by simpa using eu
      have ev : its2[k]? = some v := by simpa using ev
      have lx : k < xs.length := by rw [rv.length]; exact (List.getElem?_eq_some_iff.mp eu).1
      have ly : k < ys.length := by rw [rv2.length]; exact (List.getElem?_eq_some_iff.mp ev).1
      have hx : xs[k]? = some xs[k] := List.getElem?_eq_getElem lx
      have hy : ys[k]? = some ys[k] := List.getElem?_eq_getElem ly
      generalize xs[k] = x at hx
      generalize ys[k] = y at hy
      obtain ⟨u', hu', ru⟩ := rv.get hx
      obtain ⟨v', hv', rw'⟩ := rv2.get hy
      obtain rfl : u' = u := Option.some.inj (hu'.symm.trans eu)
      obtain rfl : v' = v := Option.some.inj (hv'.symm.trans ev)
      have et : as.take (k + 1) = as.take k ++ [r] := by rw [List.take_add_one, hr]; rfl
      have rS : S < r := g.above r (List.mem_of_getElem? hr)
      have rnew : r ∉ as.take k := fun hm => by
        obtain ⟨j, hj, e⟩ := List.mem_iff_getElem.mp hm
        rw [List.length_take] at hj
        rw [List.getElem_take] at e
        obtain ⟨hk2, e2⟩ := List.getElem?_eq_some_iff.mp hr
        have := List.pairwise_iff_getElem.mp g.rise j k (by omega) hk2 (by omega)
        rw [e, e2] at this
        exact Nat.lt_irrefl _ this
      have rout : ¬ (r < s1.heap.objs.size ∨ r = S ∨ r ∈ as.take k) := by
        rintro (h | h | h)
        · exact Nat.lt_irrefl _ (Nat.lt_trans (Nat.lt_of_lt_of_le h hS0) rS)
        · exact Nat.ne_of_gt rS h
        · exact rnew h
      obtain ⟨G', g1, g2⟩ := restrict h' fun b => decide (b < s1.heap.objs.size ∨ b = S ∨ b ∈ as.take (k + 1))
      have p1 : ∀ b, (b < s1.heap.objs.size ∨ b = S ∨ b ∈ as.take (k + 1)) → G'.get? b = h'.get? b := fun b hb => g1 b (decide_eq_true hb)
      have up : ∀ b, (b < s1.heap.objs.size ∨ b = S ∨ b ∈ as.take k) → (b < s1.heap.objs.size ∨ b = S ∨ b ∈ as.take (k + 1)) := fun b hb => hb.imp id fun h => h.imp id fun h => by rw [et]; exact List.mem_append_left _ h
      have rin : r < s1.heap.objs.size ∨ r = S ∨ r ∈ as.take (k + 1) := .inr (.inr (by rw [et]; simp))
      have Hr : Hk r = none := by
        rw [q3 r (Nat.ne_of_gt rS) rnew]
        exact I1.hok.fresh (Nat.le_of_lt (Nat.lt_of_le_of_lt hS0 rS))
      refine ⟨G', upd Hk r (.tup [x, y]), p1, fun b hb => g2 b (decide_eq_false hb), Ik.laidN (t' := tk) (fun b o e => ?_) (q2 r rout) Hr ?_, fun b hb hm => ?_, ?_, fun i r' x' y' hi h1 h2 h3 => ?_⟩
      · by_cases q : b < s1.heap.objs.size ∨ b = S ∨ b ∈ as.take k
        · exact (p1 b (up b q)).trans ((q1 b q).symm.trans e)
        · have z := (q2 b q).symm.trans e
          cases z
      · exact ⟨by show 2 ≤ sizeLine; decide, [u', v'], .cons ru (.cons rw' .nil), ⟨_, (p1 r rin).trans ht, rfl, _, rfl⟩⟩
      · rw [et] at hm
        have n1 : b ∉ as.take k := fun h => hm (List.mem_append_left _ h)
        have n2 : b ≠ r := fun h => hm (by rw [h]; simp)
        rw [upd_ne n2]
        exact q3 b hb n1
      · rw [upd_ne (Nat.ne_of_lt rS)]
        exact q4
      · rcases Nat.lt_or_ge i k with hik | hik
        · have : r' ≠ r := fun e => rnew (by
            rw [← e]
            refine List.mem_iff_getElem?.mpr ⟨i, ?_⟩
            rw [List.getElem?_take, if_pos hik]
            exact h1)
          rw [upd_ne this]
          exact q5 i r' x' y' hik h1 h2 h3
        · obtain rfl : i = k := by omega
          obtain rfl : r' = r := Option.some.inj (h1.symm.trans hr)
          obtain rfl : x' = x := Option.some.inj (h2.symm.trans hx)
          obtain rfl : y' = y := Option.some.inj (h3.symm.trans hy)
          exact upd_same
  obtain ⟨G, H2, q1, q2, I2, q3, q4, q5⟩ := step as.length (Nat.le_refl _)
  rw [List.take_length] at q1 q2 q3
  refine ⟨H2, I2.kept (t' := tk) fun b o e => ?_, fun b o e => ?_, q4, fun i r x y h1 h2 h3 => ⟨?_, q5 i r x y (List.getElem?_eq_some_iff.mp h1).1 h1 h2 h3⟩⟩
  · by_cases q : b < s1.heap.objs.size ∨ b = S ∨ b ∈ as
    · exact (q1 b q).symm.trans e
    · have z := (q2 b q).symm.trans e
      cases z
  · have n1 : b ≠ S := fun z => by
      have := I1.hok.fresh hS0
      rw [z, this] at e
      cases e
    have n2 : b ∉ as := fun z => by
      have := I1.hok.fresh (a := b) (Nat.le_of_lt (Nat.lt_of_le_of_lt hS0 (g.above b z)))
      rw [this] at e
      cases e
    rw [q3 b n1 n2]
    exact e
  · exact I1.hok.fresh (Nat.le_of_lt (Nat.lt_of_le_of_lt hS0 (g.above r (List.mem_of_getElem? h1))))
def tListZip (K : PySem.W.Frag) (ta : TA) : TE := fun σ H Q => ta σ H fun vs H1 => ∃ (t1 t2 : Bool) (a b : Addr) (xs ys : List V), vs = [.ref a, .ref b] ∧ SqB K t1 H1 a xs ∧ SqB K t2 H1 b ys ∧ xs.length ≤ sizeLine ∧
  ∀ (p : Addr) (rs : List Addr) (H2 : Hp), (∀ b o, H1 b = some o → H2 b = some o) → H1 p = none → H2 p = some (.lst (rs.map V.ref)) → rs.length = min xs.length ys.length → (∀ (i : Nat) (r : Addr) (x y : V), rs[i]? = some r → xs[i]? = some x → ys[i]? = some y → H1 r = none ∧ H2 r = some (.tup [x, y])) → Q (.ref p) H2
theorem pe_listZip {e e2 : Expr} {ta : TA} {p p2 cpos pos : Pos} (hc : X.calm = true) (hg : Gl X "list") (hm : X.mg "list" = none) (hv : bootBuiltins "list" = some (.type "list")) (hgz : Gl X "zip") (hmz : X.mg "zip" = none) (ha : PA X [e, e2] ta)
    (hs : starEach [.Call (.Name "zip" p2) [e, e2] [] cpos] X.env = (false, eval (.Call (.Name "zip" p2) [e, e2] [] cpos) X.env) :: starEach [] X.env := by rfl)
    (hs2 : starEach [e, e2] X.env = (false, eval e X.env) :: starEach [e2] X.env := by rfl) (hpl : (backTo cpos (starEach [e2] X.env)).any (·.1) = false := by rfl) :
    PE X (.Call (.Name "list" p) [.Call (.Name "zip" p2) [e, e2] [] cpos] [] pos) (tListZip X.K ta) := by
  refine ⟨fun pins s σ H Q I hq => ?_⟩
  refine wpAny_Call_Name_kw (ld_blt I hg hm hv ?_)
  refine PyProof.Rows.callWith_type1 ?_ hs rfl
  rw [hs]
  show wpAny _ _ (spliced ((false, eval (.Call (.Name "zip" p2) [e, e2] [] cpos) X.env) :: backTo pos (starEach [] X.env))) _ _ s
  refine Calls.spliced_cons ?_
  refine Call_ (ld_blt I hgz hmz PyProof.Rows.boot_zip (PyProof.Rows.callWith_type1 (thn (ha.run cpos pins s σ H _ I hq) fun us s1 ⟨vs, H1, I1, r1, q1⟩ => ?_) hs2 hpl))
  obtain ⟨t1, t2, a, b, xs, ys, ex, hqx, hqy, few, q⟩ := q1
  subst ex
  cases r1 with
  | cons r rr =>
    cases rr with
    | cons r' rr =>
      cases rr
      cases r
      cases r'
      obtain ⟨its, rv, p1⟩ := hqx.get I1
      obtain ⟨its2, rv2, p2⟩ := hqy.get I1
      refine call_zB p1 p2 fun h' hz hTI hTO h1 h2 hk => ?_
      refine Calls.spliced_nil ?_
      have l1 := rv.length
      have l2 := rv2.length
      have z4 : s1.heap.objs.size + 4 < h'.objs.size := Heap.lt_size hz
      have s0 : s1.heap.objs.size < h'.objs.size := Nat.lt_of_le_of_lt (Nat.le_add_right _ 4) z4
      have la := p1.live
      have lb := p2.live
      refine zl_call (s := { s1 with heap := h' }) (xs := its.toArray) (ys := its2.toArray) (t1 := t1) (t2 := t2) (PySem.W.ktu_apart s1.heap.objs.size a b p1.live p2.live) ⟨z4, ?_, ?_, ?_, ?_, ?_, ?_⟩ (I1.ok.hd hc) ?_ ⟨hz, hTI, ⟨_, _, hTO⟩, h1, h2, p1.at fun o e => hk _ o e, p2.at fun o e => hk _ o e⟩ fun h'' tk acc c as hk2 hS hl g hacc => ?_
      · exact Nat.lt_trans (Nat.add_lt_add_left (by decide) _) z4
      · exact Nat.lt_trans (Nat.add_lt_add_left (by decide) _) z4
      · exact s0
      · exact Nat.lt_trans (Nat.add_lt_add_left (by decide) _) z4
      · exact Nat.lt_trans la s0
      · exact Nat.lt_trans lb s0
      · simp only [List.size_toArray]
        omega
      · have keep : ∀ c o, s1.heap.get? c = some o → h''.get? c = some o := fun c o e => by
          have lc := Heap.lt_size e
          exact hk2 c o (Nat.ne_of_lt (Nat.lt_of_lt_of_le lc (Nat.le_add_right _ _))) (Nat.ne_of_lt (Nat.lt_of_lt_of_le lc (Nat.le_add_right _ _))) (Nat.ne_of_lt lc) (Nat.ne_of_lt (Nat.lt_of_lt_of_le lc (Nat.le_add_right _ _))) (hk c o e)
        have hl' : as.length = min xs.length ys.length := by
          rw [hl, l1, l2]
          simp
        obtain ⟨H2, I2, s2, e1, e2⟩ := lay_tups (tk := tk) I1 keep (S := h'.objs.size) (Nat.le_of_lt s0) rv rv2 hS hacc g (by omega)
        exact ⟨.ref h'.objs.size, H2, I2, rfl, q _ as H2 s2 (I1.hok.fresh (Nat.le_of_lt s0)) e1 hl' e2⟩
end
end K1
set_option linter.all false
namespace K1
/-! ### numbers that sink until none does -/
def stepJ (E : Nat → Nat → Bool) (f : List Nat) (k j : Nat) : List Nat := if E j k = true then f.set k (min (f.getD j 0) (f.getD k 0)) else f
def rowJ (E : Nat → Nat → Bool) (f : List Nat) (k j : Nat) : List Nat := (List.range j).foldl (fun f j => stepJ E f k j) f
def roundJ (E : Nat → Nat → Bool) (n : Nat) (f : List Nat) (k : Nat) : List Nat := (List.range k).foldl (fun f k => rowJ E f k n) f
def joinJ (E : Nat → Nat → Bool) (n : Nat) (f : List Nat) (t : Nat) : List Nat := (List.range t).foldl (fun f _ => roundJ E n f n) f
section
variable {E : Nat → Nat → Bool} {n : Nat}
theorem rowJ_succ (f : List Nat) (k j : Nat) : rowJ E f k (j + 1) = stepJ E (rowJ E f k j) k j := by
  unfold rowJ
  rw [List.range_succ, List.foldl_append]
  rfl
theorem roundJ_succ (f : List Nat) (k : Nat) : roundJ E n f (k + 1) = rowJ E (roundJ E n f k) k n := by
  unfold roundJ
  rw [List.range_succ, List.foldl_append]
  rfl
theorem joinJ_succ (f : List Nat) (t : Nat) : joinJ E n f (t + 1) = roundJ E n (joinJ E n f t) n := by
  unfold joinJ
  rw [List.range_succ, List.foldl_append]
  rfl
theorem getD_setJ (f : List Nat) (k v i : Nat) (hk : k < f.length) : (f.set k v).getD i 0 = if i = k then v else f.getD i 0 := by
  rw [List.getD_eq_getElem?_getD, List.getElem?_set, List.getD_eq_getElem?_getD]
  by_cases e : k = i
  · subst e
    rw [if_pos rfl, if_pos hk, if_pos rfl]
    rfl
  · rw [if_neg e, if_neg fun h => e h.symm]
theorem stepJ_len (f : List Nat) (k j : Nat) : (stepJ E f k j).length = f.length := by
  unfold stepJ
  split
  · exact List.length_set ..
  · rfl
theorem rowJ_len (f : List Nat) (k : Nat) : ∀ j, (rowJ E f k j).length = f.length
  | 0 => rfl
  | j + 1 => by rw [rowJ_succ, stepJ_len, rowJ_len f k j]
theorem roundJ_len (f : List Nat) : ∀ k, (roundJ E n f k).length = f.length
  | 0 => rfl
  | k + 1 => by rw [roundJ_succ, rowJ_len, roundJ_len f k]
theorem joinJ_len (f : List Nat) : ∀ t, (joinJ E n f t).length = f.length
  | 0 => rfl
  | t + 1 => by rw [joinJ_succ, roundJ_len, joinJ_len f t]
theorem stepJ_get (f : List Nat) (k j i : Nat) (hk : k < f.length) : (stepJ E f k j).getD i 0 = if i = k ∧ E j k = true then min (f.getD j 0) (f.getD k 0) else f.getD i 0 := by
  unfold stepJ
  by_cases e : E j k = true
  · rw [if_pos e, getD_setJ _ _ _ _ hk]
    by_cases q : i = k
    · rw [if_pos q, if_pos ⟨q, e⟩]
    · rw [if_neg q, if_neg fun h => q h.1]
  · rw [if_neg e, if_neg fun h => e h.2]
/-- behind the first j of row k -/
theorem rowJ_all (f : List Nat) (k : Nat) (hk : k < f.length) : ∀ j, (∀ i, i ≠ k → (rowJ E f k j).getD i 0 = f.getD i 0) ∧ (rowJ E f k j).getD k 0 ≤ f.getD k 0 ∧ (∀ j', j' < j → E j' k = true → (rowJ E f k j).getD k 0 ≤ f.getD j' 0) ∧
    (∃ l, (rowJ E f k j).getD k 0 = f.getD l 0 ∧ (l = k ∨ E l k = true ∧ l < j))
  | 0 => ⟨fun _ _ => rfl, Nat.le_refl _, fun _ h => absurd h (Nat.not_lt_zero _), k, rfl, .inl rfl⟩
  | j + 1 => by
    obtain ⟨h1, h2, h3, l, h4, h5⟩ := rowJ_all f k hk j
    have lk : k < (rowJ E f k j).length := by rw [rowJ_len]; exact hk
    rw [rowJ_succ]
    refine ⟨fun i hi => ?_, ?_, fun j' hj' e => ?_, ?_⟩
    · rw [stepJ_get _ _ _ _ lk, if_neg fun h => hi h.1]
      exact h1 i hi
    · rw [stepJ_get _ _ _ _ lk]
      split
      · exact Nat.le_trans (Nat.min_le_right _ _) h2
      · exact h2
    · rw [stepJ_get _ _ _ _ lk]
      rcases Nat.lt_or_ge j' j with g | g
      · split
        · exact Nat.le_trans (Nat.min_le_right _ _) (h3 j' g e)
        · exact h3 j' g e
      · have : j' = j := by omega
        subst this
        rw [if_pos ⟨rfl, e⟩]
        by_cases q : j' = k
        · subst q
          exact Nat.le_trans (Nat.min_le_right _ _) h2
        · rw [h1 j' q]
          exact Nat.min_le_left _ _
    · rw [stepJ_get _ _ _ _ lk]
      split
      · rename_i e
        rcases Nat.le_total ((rowJ E f k j).getD j 0) ((rowJ E f k j).getD k 0) with g | g
        · rw [Nat.min_eq_left g]
          by_cases q : j = k
          · subst q; rw [h4]
            exact ⟨l, rfl, h5.imp id fun h => ⟨h.1, by omega⟩⟩
          · rw [h1 j q]
            exact ⟨j, rfl, .inr ⟨e.2, by omega⟩⟩
        · rw [Nat.min_eq_right g, h4]
          exact ⟨l, rfl, h5.imp id fun h => ⟨h.1, by omega⟩⟩
      · rw [h4]
        exact ⟨l, rfl, h5.imp id fun h => ⟨h.1, by omega⟩⟩
/-- joined by a row of pairs -/
inductive Conn (E : Nat → Nat → Bool) (n : Nat) : Nat → Nat → Prop where
  | refl (i : Nat) : Conn E n i i
  | step {i j k : Nat} : Conn E n i j → j < n → k < n → E j k = true → Conn E n i k
theorem Conn.trans {i j k : Nat} (a : Conn E n i j) (b : Conn E n j k) : Conn E n i k := by
  induction b with
  | refl => exact a
  | step _ h1 h2 e ih => exact .step ih h1 h2 e
theorem Conn.symm (sy : ∀ i j, E i j = E j i) {i j : Nat} (a : Conn E n i j) : Conn E n j i := by
  induction a with
  | refl => exact .refl _
  | step _ h1 h2 e ih => exact (Conn.step (.refl _) h2 h1 (by rw [sy]; exact e)).trans ih
/-- one round: nothing grows, each falls to its neighbours at leastJ, all stay within what is joined -/
theorem roundJ_all (f : List Nat) (hf : f.length = n) : ∀ k, k ≤ n → (∀ i, (roundJ E n f k).getD i 0 ≤ f.getD i 0) ∧ (∀ k' j, k' < k → j < n → E j k' = true → (roundJ E n f k).getD k' 0 ≤ f.getD j 0) ∧ (∀ i, k ≤ i → (roundJ E n f k).getD i 0 = f.getD i 0) ∧
    ((∀ i, i < n → Conn E n (f.getD i 0) i) → ∀ i, i < n → Conn E n ((roundJ E n f k).getD i 0) i)
  | 0, _ => ⟨fun _ => Nat.le_refl _, fun _ _ h => absurd h (Nat.not_lt_zero _), fun _ _ => rfl, fun h => h⟩
  | k + 1, hk => by
    obtain ⟨h1, h2, h3, h4⟩ := roundJ_all f hf k (by omega)
    have lk : k < (roundJ E n f k).length := by rw [roundJ_len, hf]; omega
    obtain ⟨r1, r2, r3, l, r4, r5⟩ := rowJ_all (E := E) (roundJ E n f k) k lk n
    rw [roundJ_succ]
    refine ⟨fun i => ?_, fun k' j hk' hj e => ?_, fun i hi => ?_, fun c i hi => ?_⟩
    · by_cases q : i = k
      · subst q
        exact Nat.le_trans r2 (h1 _)
      · rw [r1 i q]
        exact h1 i
    · by_cases q : k' = k
      · subst q
        exact Nat.le_trans (r3 j hj e) (h1 j)
      · rw [r1 k' q]
        exact h2 k' j (by omega) hj e
    · rw [r1 i (by omega)]
      exact h3 i (by omega)
    · by_cases q : i = k
      · subst q
        rw [r4]
        rcases r5 with rfl | ⟨e, hl⟩
        · exact h4 c _ hi
        · exact .step (h4 c l hl) hl hi e
      · rw [r1 i q]
        exact h4 c i hi
def closedJ (E : Nat → Nat → Bool) (n : Nat) (f : List Nat) : Prop := ∀ i j, i < n → j < n → E i j = true → f.getD i 0 = f.getD j 0
theorem crossJ {P : Nat → Prop} {a b : Nat} (c : Conn E n a b) (ha : P a) (hb : ¬ P b) : ∃ i j, i < n ∧ j < n ∧ E i j = true ∧ P i ∧ ¬ P j ∧ Conn E n a i ∧ Conn E n a j := by
  induction c with
  | refl => exact absurd ha hb
  | @step j k c h1 h2 e ih =>
    by_cases q : P j
    · exact ⟨j, k, h1, h2, e, q, hb, c, .step c h1 h2 e⟩
    · exact ih q
theorem leastJ {P : Nat → Prop} : ∀ m, P m → ∃ l, P l ∧ ∀ i, P i → l ≤ i := by
  intro m
  induction m using Nat.strongRecOn with
  | ind m ih =>
    intro h
    by_cases q : ∃ i, i < m ∧ P i
    · obtain ⟨i, hi, pi⟩ := q
      exact ih i hi pi
    · exact ⟨m, h, fun i pi => by
        rcases Nat.lt_or_ge i m with g | g
        · exact absurd ⟨i, g, pi⟩ q
        · exact g⟩
open Classical in
/-- those that have come downJ -/
noncomputable def downJ (E : Nat → Nat → Bool) (n : Nat) (f : List Nat) : Nat := ((List.range n).filter fun i => decide (∀ l, Conn E n l i → f.getD i 0 ≤ l)).length
structure JInv (E : Nat → Nat → Bool) (n : Nat) (f : List Nat) : Prop where
  len : f.length = n
  conn : ∀ i, i < n → Conn E n (f.getD i 0) i
  le : ∀ i, i < n → f.getD i 0 ≤ i
theorem JInv.round {f : List Nat} (h : JInv E n f) : JInv E n (roundJ E n f n) := by
  obtain ⟨r1, _, _, r4⟩ := roundJ_all (E := E) f h.len n (Nat.le_refl _)
  exact ⟨by rw [roundJ_len, h.len], r4 h.conn, fun i hi => Nat.le_trans (r1 i) (h.le i hi)⟩
theorem closed_of_down (sy : ∀ i j, E i j = E j i) {f : List Nat} (h : JInv E n f) (d : ∀ i, i < n → ∀ l, Conn E n l i → f.getD i 0 ≤ l) : closedJ E n f := by
  intro i j hi hj e
  have c1 : Conn E n (f.getD j 0) i := (h.conn j hj).trans (.step (.refl _) hj hi (by rw [sy]; exact e))
  have c2 : Conn E n (f.getD i 0) j := (h.conn i hi).trans (.step (.refl _) hi hj e)
  exact Nat.le_antisymm (d i hi _ c1) (d j hj _ c2)
open Classical in
theorem filterJ_grow {L : List Nat} {p q : Nat → Bool} (h : ∀ x ∈ L, p x = true → q x = true) : (L.filter p).length ≤ (L.filter q).length := by
  induction L with
  | nil => simp
  | cons a L ih =>
    have ih := ih fun x hx => h x (.tail _ hx)
    have ha := h a (.head _)
    cases e : p a with
    | true => simp [List.filter_cons, e, ha e]; exact ih
    | false =>
      cases e2 : q a with
      | true => simp [List.filter_cons, e, e2]; omega
      | false => simp [List.filter_cons, e, e2]; exact ih
theorem filterJ_more {L : List Nat} {p q : Nat → Bool} (h : ∀ x ∈ L, p x = true → q x = true) (m : ∃ x ∈ L, p x = false ∧ q x = true) : (L.filter p).length < (L.filter q).length := by
  induction L with
  | nil =>
    obtain ⟨x, hx, _⟩ := m
    cases hx
  | cons a L ih =>
    obtain ⟨x, hx, px, qx⟩ := m
    have hL := fun x hx => h x (.tail _ hx)
    have g := filterJ_grow hL
    rcases List.mem_cons.mp hx with rfl | hx
    · simp [List.filter_cons, px, qx]
      omega
    · have ih := ih hL ⟨x, hx, px, qx⟩
      cases e : p a with
      | true => simp [List.filter_cons, e, h a (.head _) e]; exact ih
      | false =>
        cases e2 : q a with
        | true => simp [List.filter_cons, e, e2]; omega
        | false => simp [List.filter_cons, e, e2]; exact ih
theorem down_le (f : List Nat) : downJ E n f ≤ n := by
  unfold downJ
  refine Nat.le_trans (List.length_filter_le _ _) ?_
  rw [List.length_range]
  exact Nat.le_refl _
open Classical in
theorem down_grows (sy : ∀ i j, E i j = E j i) {f : List Nat} (h : JInv E n f) (no : ¬ ∀ i, i < n → ∀ l, Conn E n l i → f.getD i 0 ≤ l) : downJ E n f < downJ E n (roundJ E n f n) := by
  obtain ⟨r1, r2, _, _⟩ := roundJ_all (E := E) f h.len n (Nat.le_refl _)
  unfold downJ
  refine filterJ_more (fun x _ px => ?_) ?_
  · rw [decide_eq_true_eq] at px ⊢
    exact fun l c => Nat.le_trans (r1 x) (px l c)
  · have : ∃ i, i < n ∧ ¬ ∀ l, Conn E n l i → f.getD i 0 ≤ l := by
      apply Classical.byContradiction
      intro q
      exact no fun i hi l c => Classical.byContradiction fun w => q ⟨i, hi, fun z => w (z l c)⟩
    obtain ⟨i, hi, bad⟩ := this
    obtain ⟨m, cm, lm⟩ := leastJ (P := fun l => Conn E n l i) i (.refl i)
    have hm : m < n := Nat.lt_of_le_of_lt (lm i (.refl i)) hi
    have gm : ∀ l, Conn E n l m → f.getD m 0 ≤ l := fun l c => Nat.le_trans (h.le m hm) (lm l (c.trans cm))
    obtain ⟨a, b, ha, hb, e, pa, pb, ca, cb⟩ := crossJ (P := fun x => ∀ l, Conn E n l x → f.getD x 0 ≤ l) cm gm bad
    refine ⟨b, List.mem_range.mpr hb, ?_, ?_⟩
    · rw [decide_eq_false_iff_not]
      exact pb
    · rw [decide_eq_true_eq]
      intro l c
      have s1 := r2 b a hb ha e
      have s2 := pa l (c.trans (.step (.refl _) hb ha (by rw [sy]; exact e)))
      exact Nat.le_trans s1 s2
theorem join_down (sy : ∀ i j, E i j = E j i) {f : List Nat} (h : JInv E n f) : ∀ t, JInv E n (joinJ E n f t) ∧ ((∀ i, i < n → ∀ l, Conn E n l i → (joinJ E n f t).getD i 0 ≤ l) ∨ t ≤ downJ E n (joinJ E n f t))
  | 0 => ⟨h, .inr (Nat.zero_le _)⟩
  | t + 1 => by
    obtain ⟨g, d⟩ := join_down sy h t
    rw [joinJ_succ]
    refine ⟨g.round, ?_⟩
    by_cases q : ∀ i, i < n → ∀ l, Conn E n l i → (joinJ E n f t).getD i 0 ≤ l
    · obtain ⟨r1, _⟩ := roundJ_all (E := E) (joinJ E n f t) g.len n (Nat.le_refl _)
      exact .inl fun i hi l c => Nat.le_trans (r1 i) (q i hi l c)
    · have := down_grows sy g q
      exact .inr (by have := d.resolve_left q; omega)
open Classical in
theorem down_full {f : List Nat} (e : n ≤ downJ E n f) : ∀ i, i < n → ∀ l, Conn E n l i → f.getD i 0 ≤ l := by
  have key : (List.range n).filter (fun i => decide (∀ l, Conn E n l i → f.getD i 0 ≤ l)) = List.range n := by
    refine List.filter_eq_self.mpr ?_
    have : ((List.range n).filter (fun i => decide (∀ l, Conn E n l i → f.getD i 0 ≤ l))).length = (List.range n).length := Nat.le_antisymm (List.length_filter_le _ _) (by rw [List.length_range]; exact e)
    exact List.length_filter_eq_length_iff.mp this
  intro i hi
  have m : i ∈ (List.range n).filter (fun i => decide (∀ l, Conn E n l i → f.getD i 0 ≤ l)) := by rw [key]; exact List.mem_range.mpr hi
  exact of_decide_eq_true (List.mem_filter.mp m).2
theorem rangeJ_inv : JInv E n (List.range n) := by
  have g : ∀ i, i < n → (List.range n).getD i 0 = i := fun i hi => by
    rw [List.getD_eq_getElem?_getD, List.getElem?_range hi]
    rfl
  exact ⟨List.length_range, fun i hi => by rw [g i hi]; exact .refl i, fun i hi => by rw [g i hi]; exact Nat.le_refl _⟩
/-- at the end two numbers are one exactly where the things are joined -/
theorem join_iff (sy : ∀ i j, E i j = E j i) {i j : Nat} (hi : i < n) (hj : j < n) : (joinJ E n (List.range n) n).getD i 0 = (joinJ E n (List.range n) n).getD j 0 ↔ Conn E n i j := by
  obtain ⟨g, d⟩ := join_down sy (rangeJ_inv (E := E) (n := n)) n
  have all : ∀ i, i < n → ∀ l, Conn E n l i → (joinJ E n (List.range n) n).getD i 0 ≤ l := d.elim id down_full
  have cl := closed_of_down sy g all
  constructor
  · intro e
    have c1 := g.conn i hi
    have c2 := g.conn j hj
    rw [e] at c1
    exact (c1.symm sy).trans c2
  · intro c
    clear hi
    induction c with
    | refl => rfl
    | step c h1 h2 e ih => exact (ih h1).trans (cl _ _ h1 h2 e)
end
end K1
set_option maxRecDepth 100000
namespace K1
open PySem L2
/-- the top's statements by their places -/
def top (i : Nat) : Stmt := PySem.Challenge.pw_idlewrites_k13_whole_meetings_joined.main.body.getD i (.Pass ⟨0, 0, 0, 0⟩)
abbrev cBadMeetingInit : Stmt := inClass (top 2) 0
abbrev cNoNameInit : Stmt := inClass (top 3) 0
abbrev pIsName : Stmt := top 8
abbrev pIsList : Stmt := top 9
abbrev pAreNames : Stmt := top 10
abbrev cMeetingInit : Stmt := inClass (top 12) 0
abbrev cMeetingOne : Stmt := inClass (top 12) 1
abbrev cMeetingLen : Stmt := inClass (top 12) 2
abbrev cMeetingEq : Stmt := inClass (top 12) 3
abbrev cMeetingAnd : Stmt := inClass (top 12) 4
abbrev cMeetingOr : Stmt := inClass (top 12) 5
abbrev cMeetingLe : Stmt := inClass (top 12) 6
abbrev cMeetingLt : Stmt := inClass (top 12) 7
abbrev cMeetingGe : Stmt := inClass (top 12) 8
abbrev cMeetingGt : Stmt := inClass (top 12) 9
abbrev cMeetingCheckNames : Stmt := inClass (top 12) 10
abbrev cMeetingPartsFiner : Stmt := inClass (top 12) 11
abbrev pAscendingBlocks : Stmt := top 13
abbrev pIsBlock : Stmt := top 14
abbrev pGrouped : Stmt := top 15
abbrev pUnited : Stmt := top 16
abbrev sFresh : Stmt := top 18
abbrev sTake : Stmt := top 19
abbrev sMix : Stmt := top 20
abbrev sSame : Stmt := top 21
abbrev sNames : Stmt := top 22
abbrev sBlocks : Stmt := top 23
abbrev sRising : Stmt := top 24
abbrev sJoined : Stmt := top 25
abbrev sAs : Stmt := top 26
abbrev sLaw : Stmt := top 27
end K1
set_option maxRecDepth 100000
set_option maxHeartbeats 400000
/-! operators that a class of the program defines, its instances ordinary ones -/
namespace K1
open PySem PySem.Spec PyProof.Rows L2
section
variable {X : Cx} {CX : CXT} {E : XK} {C g : Addr} {fd : FuncData} {ps : List Str} {sp : Sp} {k : Nat}
/-- an instance of the class at C stands at a -/
def Ins (H : Hp) (a C : Addr) : Prop := ∃ dx fs, H a = some (.ins C dx fs)
theorem ins_inst {pins : List (Addr × Obj)} {σ : L2.St} {H : Hp} {s : Shared} {a : Addr} (I : Inv X pins σ H s) (h : Ins H a C) : ∃ dx od, PySem.W.InstAt s.heap a (PySem.W.instObj C dx) C (some od) := by
  obtain ⟨dx, fs, e⟩ := h
  obtain ⟨mA, O, _⟩ := ins_get I.hok e
  obtain ⟨od, J, _⟩ := O.look
  exact ⟨dx, od, J⟩
theorem op_two {op : Operator} (M : Meth X.K C (PySem.dunder op.info.2) g) (sf : PySem.W.selfFirst X.K C = true) (F : FnOk X.prog X.w X.K X.mg X.base CX k g fd ps sp) (hr : Room k X.A) (hb : Binds X.K fd ps []) (hx : Passes CX X E) :
    OpR X (binaryOp op) (fun x y H Q => ∃ a b, x = .ref a ∧ y = .ref b ∧ Ins H a C ∧ Ins H b C ∧ sp [x, y] H Q E) := by
  intro pins s σ H x y v u Q I rx ry h
  obtain ⟨a, b, rfl, rfl, ha, hb', q⟩ := h
  cases (show v = Value.ref a from rx)
  cases (show u = Value.ref b from ry)
  obtain ⟨_, _, J⟩ := ins_inst I ha
  obtain ⟨_, _, J'⟩ := ins_inst I hb'
  obtain ⟨m, fr⟩ := I.fr
  refine PySem.W.binop_K fr I.ok.mod.kin J J'.type sf M.at_ M.fn ?_
  refine thn (run_fn (us := [.ref a, .ref b]) (vs := [.ref a, .ref b]) F hr hb .nil hx I (.cons rfl (.cons rfl .nil)) (by rw [List.append_nil]; exact q)) fun r s' z => ?_
  obtain ⟨z', H', I', rz, qz⟩ := z
  exact SlX.cmpback rz ⟨z', H', I', rz, qz⟩
theorem op_cmp {op : CmpOp} (hop : ∀ a b, compareOp op a b = richCompare op a b) (M : Meth X.K C (cmpInfo op).2.1 g) (nf : PySem.W.notFirst X.K C (.ref C) = true) (F : FnOk X.prog X.w X.K X.mg X.base CX k g fd ps sp) (hr : Room k X.A) (hb : Binds X.K fd ps []) (hx : Passes CX X E) :
    OpR X (compareOp op) (fun x y H Q => ∃ a b, x = .ref a ∧ y = .ref b ∧ Ins H a C ∧ Ins H b C ∧ sp [x, y] H Q E) := by
  intro pins s σ H x y v u Q I rx ry h
  obtain ⟨a, b, rfl, rfl, ha, hb', q⟩ := h
  cases (show v = Value.ref a from rx)
  cases (show u = Value.ref b from ry)
  obtain ⟨_, _, J⟩ := ins_inst I ha
  obtain ⟨_, _, J'⟩ := ins_inst I hb'
  obtain ⟨m, fr⟩ := I.fr
  rw [hop]
  refine PySem.W.cmp_K (op := op) (tb := .ref C) hr.units0 fr I.ok.mod.kin J J'.type nf M.at_ M.fn ?_
  refine thn (run_fn (us := [.ref a, .ref b]) (vs := [.ref a, .ref b]) F hr hb .nil hx I (.cons rfl (.cons rfl .nil)) (by rw [List.append_nil]; exact q)) fun r s' z => ?_
  obtain ⟨z', H', I', rz, qz⟩ := z
  exact SlX.cmpback rz ⟨z', H', I', rz, qz⟩
/-- x in y, y an instance of a class that defines it; its def hands back a truth -/
theorem op_has (M : Meth X.K C "__contains__" g) (F : FnOk X.prog X.w X.K X.mg X.base CX k g fd ps sp) (hr : Room k X.A) (hb : Binds X.K fd ps []) (hx : Passes CX X E) :
    OpR X (compareOp .In) (fun x y H Q => ∃ b, y = .ref b ∧ Ins H b C ∧ sp [y, x] H (fun v H' => ∃ t, v = .bl t ∧ Q (.bl t) H') E) := by
  intro pins s σ H x y v u Q I rx ry h
  obtain ⟨b, rfl, hb', q⟩ := h
  cases (show u = Value.ref b from ry)
  obtain ⟨_, _, J⟩ := ins_inst I hb'
  obtain ⟨m, fr⟩ := I.fr
  refine PySem.W.in_K fr I.ok.mod.kin J M.at_ M.fn ?_
  refine thn (run_fn (us := [.ref b, v]) (vs := [.ref b, x]) F hr hb .nil hx I (.cons rfl (.cons rx .nil)) (by rw [List.append_nil]; exact q)) fun r s' z => ?_
  obtain ⟨z', H', I', rz, t, rfl, qz⟩ := z
  cases (show r = Value.bool t from rz)
  exact wpAny_pure ⟨.bl t, H', I', rfl, qz⟩
theorem op_hasnt (M : Meth X.K C "__contains__" g) (F : FnOk X.prog X.w X.K X.mg X.base CX k g fd ps sp) (hr : Room k X.A) (hb : Binds X.K fd ps []) (hx : Passes CX X E) :
    OpR X (compareOp .NotIn) (fun x y H Q => ∃ b, y = .ref b ∧ Ins H b C ∧ sp [y, x] H (fun v H' => ∃ t, v = .bl t ∧ Q (.bl (!t)) H') E) := by
  intro pins s σ H x y v u Q I rx ry h
  obtain ⟨b, rfl, hb', q⟩ := h
  cases (show u = Value.ref b from ry)
  obtain ⟨_, _, J⟩ := ins_inst I hb'
  obtain ⟨m, fr⟩ := I.fr
  refine PySem.W.notIn_K fr I.ok.mod.kin J M.at_ M.fn ?_
  refine thn (run_fn (us := [.ref b, v]) (vs := [.ref b, x]) F hr hb .nil hx I (.cons rfl (.cons rx .nil)) (by rw [List.append_nil]; exact q)) fun r s' z => ?_
  obtain ⟨z', H', I', rz, t, rfl, qz⟩ := z
  cases (show r = Value.bool t from rz)
  exact wpAny_pure ⟨.bl (!t), H', I', rfl, qz⟩
end
/-! ### !=, by an own == alone -/
/-- the class at C has no base of the program's; its own == is at g, it has no != -/
structure NeC (K : PySem.W.Frag) (C g : Addr) : Prop where
  cls : ∃ nm q N bs hdct sn sub ab col dd k0 k1 k2 k3 k5 newId, K.lookup C = some (excClassObj nm q C N bs [.type "object"] hdct sn sub ab col dd k0 k1 k2 k3 k5 newId) ∧ PySem.W.nsOkIn K N = true ∧
    PySem.W.nsIn K N "__eq__" = some (some (.ref g)) ∧ PySem.W.nsIn K N "__ne__" = some none
  fn : ∃ o, K.lookup g = some o ∧ o.cls = .type "function"
def neB (K : PySem.W.Frag) (C g : Addr) : Bool := (match K.lookup C with
  | some ⟨.type "type", _, .cls cd, sl⟩ => (match cd.mro, sl.toList with
    | [.ref D, .type "object"], [_, _, _, _, some (.builtin _), _] => D == C && !cd.hasDel && PySem.W.nsOkIn K cd.ns && decide (PySem.W.nsIn K cd.ns "__eq__" = some (some (.ref g))) && decide (PySem.W.nsIn K cd.ns "__ne__" = some none)
    | _, _ => false)
  | _ => false) && (match K.lookup g with
  | some o => decide (o.cls = .type "function")
  | none => false)
theorem neB_ok {K : PySem.W.Frag} {C g : Addr} (q : neB K C g = true) : NeC K C g := by
  obtain ⟨q, r⟩ := Bool.and_eq_true_iff.mp q
  refine ⟨?_, ?_⟩
  · split at q
    · rename_i dd cd sl look
      split at q
      · rename_i D k0 k1 k2 k3 n k5 mro slots
        simp only [Bool.and_eq_true, beq_iff_eq, Bool.not_eq_true', decide_eq_true_eq] at q
        obtain ⟨⟨⟨⟨rfl, q2⟩, q3⟩, q4⟩, q5⟩ := q
        obtain ⟨nm, bs, ms, ns, qn, hd, sn, sub, ab, col, del⟩ := cd
        dsimp only at mro q2 q3 q4 q5
        subst mro q2
        obtain ⟨sll⟩ := sl
        dsimp only at slots
        subst slots
        exact ⟨nm, qn, ns, bs, hd, sn, sub, ab, col, dd, k0, k1, k2, k3, k5, n, look, q3, q4, q5⟩
      · cases q
    · cases q
  · split at r
    · rename_i o e
      exact ⟨o, e, of_decide_eq_true r⟩
    · cases r
theorem ns_at {K : PySem.W.Frag} {h : Heap} {N : Addr} {m : Str → Option Value} {n : Str} {v : Value} (X : K.In h) (G : h.Ns N m) (e : PySem.W.nsIn K N n = some (some v)) : m n = some v := by
  obtain ⟨o, es, ep, look, dt, _, at_⟩ := G
  unfold PySem.W.nsIn at e
  split at e
  · rename_i c d es' n' sl q
    have z := X _ _ q
    rw [look] at z
    cases z
    cases dt
    split at e
    · rename_i en there
      cases e
      rw [← at_]
      unfold nsFind findBy
      rw [← Array.find?_toList, there] <;> rfl
    · split at e <;> cases e
  · cases e
section
variable {X : Cx} {CX : CXT} {E : XK} {C g : Addr} {fd : FuncData} {ps : List Str} {sp : Sp} {k : Nat}
/-- the callee runs within a builtin's call -/
theorem run_in {pins : List (Addr × Obj)} {σ : L2.St} {H : Hp} {s : Shared} {A : Around} {Q : VK} {us : List Value} {vs : List V} (F : FnOk X.prog X.w X.K X.mg X.base CX k g fd ps sp) (hr : Room k A) (e0 : Env0 X.prog X.w X.K X.mg X.base A X.stack s H) (hb : Binds X.K fd ps [])
    (hx : Passes CX X E) (I : Inv X pins σ H s) (r : Vals vs us) (q : sp vs H Q E) : wpAny (model X.prog X.w) A (call (.ref g) us) (EP X pins σ Q) X.xe s := by
  have l : (us ++ []).length = ps.length := by
    rw [List.append_nil, ← r.length]
    exact F.len _ _ _ _ q
  refine wpAny_call (codeAny_mono (F.run A X.stack s H ⟨us, []⟩ (us ++ []) vs Q E hr e0 (hb s us I.kIn l) (by rw [List.append_nil]; exact r) q) fun z s' back => ?_)
  cases z with
  | error e => exact hx pins σ H s e s' I back
  | ok fl =>
    cases fl with
    | ret u => exact I.after back
    | next => exact False.elim back
    | brk => exact False.elim back
    | cont => exact False.elim back
theorem op_unlike (N : NeC X.K C g) (F : FnOk X.prog X.w X.K X.mg X.base CX k g fd ps sp) (hr : Room (k + 1) X.A) (hb : Binds X.K fd ps []) (hx : Passes CX X E) :
    OpR X (compareOp .NotEq) (fun x y H Q => ∃ a b, x = .ref a ∧ y = .ref b ∧ Ins H a C ∧ Ins H b C ∧ sp [x, y] H (fun v H' => ∃ t, v = .bl t ∧ Q (.bl (!t)) H') E) := by
  intro pins s σ H x y v u Q I rx ry h
  obtain ⟨a, b, rfl, rfl, ha, hb', q⟩ := h
  cases (show v = Value.ref a from rx)
  cases (show u = Value.ref b from ry)
  obtain ⟨_, _, J⟩ := ins_inst I ha
  obtain ⟨_, _, J'⟩ := ins_inst I hb'
  obtain ⟨nm, qn, ns, bs, hdct, sn, sub, ab, col, dd, k0, k1, k2, k3, k5, nI, look, ok, eq, ne⟩ := N.cls
  obtain ⟨of, gat, gcl⟩ := N.fn
  have G : s.heap.Ns ns (s.heap.nsMap ns) := .of_isNs (PySem.W.isNs_of_in I.kIn ok)
  have hC := I.kIn _ _ look
  have hg := I.kIn _ _ gat
  have m1 := ns_at I.kIn G eq
  have m2 := PySem.W.ns_none_of I.kIn G ne
  have mro := PySem.F.cmp_object.mro
  have lk := PySem.F.cmp_object.eq.lookup
  have Z : s.heap.OwnEqNoNe a C g "object" [.type "object"] := by
    exact ⟨_, of, nm, qn, ns, bs, hdct, sn, sub, ab, col, dd, k0, k1, k2, k3, k5, nI, s.heap.nsMap ns, some (.builtin "object.__eq__"), J.at_, J.cls, hC, G, m1, hg, gcl, mro, lk, m2⟩
  obtain ⟨hp, gs, dr, tk, os⟩ := s
  refine compareOp_ne_ownEq PySem.F.cmp_object Z J'.at_ J'.cls (hu_of hr) ?_
  have two : Vals [V.ref a, V.ref b] [Value.ref a, Value.ref b] := .cons (show L2.RelV (V.ref a) (Value.ref a) from rfl) (.cons (show L2.RelV (V.ref b) (Value.ref b) from rfl) .nil)
  refine wpAny_mono (run_in F hr.in1 I.env0.in1 hb hx I two q) (fun r s' z => ?_) fun _ _ e => e
  obtain ⟨v', H', I', rv, t, rfl, qz⟩ := z
  cases (show r = Value.bool t from rv)
  exact ⟨t, rfl, .bl (!t), H', I', rfl, qz⟩
end
end K1
set_option maxRecDepth 100000
set_option maxHeartbeats 400000
/-! len(x), x an instance of a class that defines it -/
namespace K1
open PySem PySem.Spec PyProof.Rows L2
section
variable {X : Cx} {CX : CXT} {E : XK} {C g : Addr} {fd : FuncData} {ps : List Str} {sp : Sp} {k : Nat}
theorem call_lenOwn (M : Meth X.K C "__len__" g) (F : FnOk X.prog X.w X.K X.mg X.base CX k g fd ps sp) (hr : Room (k + 1) X.A) (hb : Binds X.K fd ps []) (hx : Passes CX X E) :
    CallR X (.builtin "len") (fun xs H Q => ∃ a, xs = [.ref a] ∧ Ins H a C ∧ sp [.ref a] H (fun v H' => ∃ n : Nat, v = .int n ∧ n < 100000 ∧ Q (.int n) H') E) := by
  intro pins s σ H xs us Q I r h
  obtain ⟨a, rfl, ha, q⟩ := h
  rw [Vals.ref1 r]
  obtain ⟨_, _, J⟩ := ins_inst I ha
  refine Calls.call_function_entry kind_len plain_len entry_len (args_len1 _) ?_
  unfold Builtin.«len»
  refine wpAny_bind (m := oneArg "len" _) (wpAny_pure ?_)
  refine wpAny_bind (m := callSpecial? (.ref a) "__len__") (PySem.W.special_fn I.kIn J M.at_ (beq_iff_eq.mp M.fn) ?_)
  refine wpAny_mono (run_in F hr.in1 I.env0.in1 hb hx I (.cons (show L2.RelV (V.ref a) (Value.ref a) from rfl) .nil) q) (fun u s' z => ?_) fun _ _ e => e
  obtain ⟨v, H', I', rv, n, rfl, hn, qz⟩ := z
  obtain ⟨t, rfl⟩ := rv
  refine wpAny_bind (wpAny_holding (wpAny_pure ?_))
  refine wpAny_bind (wpAny_letGo ?_)
  show wpAny _ _ (if ((n : Nat) : Int) < 0 then _ else _) _ _ _
  rw [if_neg (by omega)]
  show wpAny _ _ (if ((n : Nat) : Int) ≥ 2 ^ 63 then _ else _) _ _ _
  rw [if_neg (by have : (2 : Int) ^ 63 = 9223372036854775808 := by decide
                 omega)]
  exact wpAny_bind (wpAny_mkInt (wpAny_pure ⟨_, rfl, .int n, H', I'.tok _, ⟨_, rfl⟩, qz⟩))
end
end K1
set_option maxRecDepth 100000
namespace K1
open PySem L2
/-- while, by a word, a measure, and what stands behind it -/
theorem while_to {c : TT} {tb : TS} {D : Ends} {σ : L2.St} {H : Hp} (Pv Pe : L2.St → Hp → Prop) (μ : L2.St → Hp → Nat) (h0 : Pv σ H)
    (hs : (∀ σ H, Pe σ H → D.nx σ H) → ∀ σ H, Pv σ H → c σ H fun b H1 => if b = true then
      ∃ N : L2.St → Hp → Prop, (∀ σ' H', N σ' H' → ∃ m', m' < μ σ H ∧ (m' = μ σ' H' ∧ Pv σ' H')) ∧ tb { D with nx := N, ct := N, bk := D.nx } σ H1 else D.nx σ H1)
    (hd : ∀ σ H, Pe σ H → D.nx σ H) : tWhile c tb D σ H := by
  refine ⟨fun m σ H => m = μ σ H ∧ Pv σ H, ⟨_, rfl, h0⟩, ?_⟩
  rintro m σ H ⟨rfl, p⟩
  exact hs hd σ H p
/-- the spring: its cells, how many are read, the great one at hand, the mix of the small ones, the turns -/
structure Spr (H : Hp) (st l : Addr) (cs : List Int) (n : Nat) : Prop where
  ex : ∃ (i k : Nat) (c h : Int), H st = some (.lst [.ref l, .int i, .int c, .int h, .int k]) ∧ i ≤ cs.length ∧ 0 ≤ c ∧ 0 ≤ h ∧ h < 2147483647 ∧ k ≤ n
  ls : H l = some (.lst (cs.map V.int))
  ln : cs.length ≤ 63
  ne : st ≠ l
def spTake : Sp := fun vs H Q _ => ∃ (st l : Addr) (cs : List Int) (n : Nat) (m : Int), vs = [.ref st, .int m] ∧ 0 < m ∧ m < 1000000 ∧ n < 1000000 ∧ Spr H st l cs n ∧
  ∀ (r : Int) (H' : Hp), 0 ≤ r → r < m → Spr H' st l cs (n + 1) → (∀ b, b ≠ st → H' b = H b) → Q (.int r) H'
theorem mixB {a b : Int} (h0 : 0 ≤ a) (h1 : a < 1000000007) (h2 : 0 ≤ b) (h3 : b ≤ 1000000) : (a + 31 * b).natAbs < 2 ^ 64 := by omega
structure TxtT (mg : Str → Option Value) : Prop where
  len : mg "len" = none
  abs : mg "abs" = none
  int : mg "int" = none
/-- between two turns of the loop -/
def WT (H : Hp) (st l : Addr) (cs : List Int) (m : Int) (t : Nat) (σ : L2.St) (H2 : Hp) : Prop := ∃ (i : Nat) (c h : Int) (v : Option V), σ = [some (.ref st), some (.int m), v, none, none, none] ∧
  H2 st = some (.lst [.ref l, .int i, .int c, .int h, .int (t + 1)]) ∧ i ≤ cs.length ∧ 0 ≤ c ∧ 0 ≤ h ∧ h < 2147483647 ∧ (∀ b, b ≠ st → H2 b = H b)
def left (n : Nat) : Option HO → Nat
  | some (.lst [_, .int i, _, _, _]) => n - i.toNat
  | _ => 0
theorem left_at {n i : Nat} {a c d e : V} {o : Option HO} (h : o = some (.lst [a, .int i, c, d, e])) : left n o = n - i := by
  rw [h]
  rfl
section
variable {P : Program} {w : World} {K : PySem.W.Frag} {mg : Str → Option Value} {base : Heap}
theorem scT : FnScope ["_law_state", "_law_many", "_law_cell", "_law_digit", "_law_one", "_law_two"] ["_law_state", "_law_many"] (defScope sTake) := ⟨rfl, rfl, rfl, by decide +kernel, rfl, by decide +kernel, by decide +kernel⟩
theorem ok_take {f : Addr} {fd : FuncData} (F : Fun K "_law_take" "_law_take" sTake f fd) (T : TxtT mg) : FnOk P w K mg base CX0 1 f fd ["_law_state", "_law_many"] spTake := by
  refine F.ok scT (fun vs H Q E h => ?_) (fun cdv A outer s H vs Q E hr h => ?_)
  · obtain ⟨st, l, cs, n, m, rfl, _⟩ := h
    rfl
  · obtain ⟨st, l, cs, n, m, rfl, hm0, hm1, hn, S, k⟩ := h
    obtain ⟨⟨i, t, c, h, hs, hi, hc, h0, h1, ht⟩, hl, hln, hne⟩ := S
    refine ⟨_, pss_cons (ps_asg (pe_op op_add (pe_ix ix_list (pv 0) pe_int (fun _ _ => rfl)) pe_int) (pg_sub (pv 0) pe_int set_list))
      (pss_cons (ps_while PassesOwn.never
          (pw_and (pt_cmpR op_eq (pe_ix ix_list (pv 0) pe_int (fun _ _ => rfl)) pe_int (nomark _))
            (pw_and1 (pt_cmpR op_lt (pe_ix ix_list (pv 0) pe_int (fun _ _ => rfl)) (pe_callB call_len_seq (by rfl) T.len PySem.boot_len (pa_cons (pe_ix ix_list (pv 0) pe_int (fun _ _ => rfl)) pa_nil)) (nomark _)))).pt
          (pss_cons (ps_set (i := 2) scT.nd rfl (.inl rfl) (pe_callB call_abs (by rfl) T.abs (by decide +kernel) (pa_cons (pe_ix ix_list (pe_ix ix_list (pv 0) pe_int (fun _ _ => rfl)) (pe_ix ix_list (pv 0) pe_int (fun _ _ => rfl)) (fun _ _ => rfl)) pa_nil)))
          (pss_cons (ps_asg (pe_op op_add (pe_ix ix_list (pv 0) pe_int (fun _ _ => rfl)) pe_int) (pg_sub (pv 0) pe_int set_list))
          (pss_one (ps_if (pt_cmpR op_ge (pv 2) (pe_op op_pow pe_int pe_int) (nomark _))
            (pss_one (ps_asg (pv 2) (pg_sub (pv 0) pe_int set_list)))
            (pss_one (ps_asg (pe_op op_mod (pe_callTy call_int1 (by rfl) T.int (by decide +kernel) (pa_cons (pe_op op_add (pe_op op_add (pe_op op_mul (pe_ix ix_list (pv 0) pe_int (fun _ _ => rfl)) pe_int) (pv 2)) pe_int) pa_nil)) pe_int) (pg_sub (pv 0) pe_int set_list))))))))
      (pss_cons (ps_if (pt_cmpR op_gt (pe_ix ix_list (pv 0) pe_int (fun _ _ => rfl)) pe_int (nomark _))
          (pss_cons (ps_set (i := 3) scT.nd rfl (.inl rfl) (pe_op op_mod (pe_callTy call_int1 (by rfl) T.int (by decide +kernel) (pa_cons (pe_ix ix_list (pv 0) pe_int (fun _ _ => rfl)) pa_nil)) (pv 1)))
          (pss_cons (ps_asg (pe_op op_fdivW (pe_ix ix_list (pv 0) pe_int (fun _ _ => rfl)) (pv 1)) (pg_sub (pv 0) pe_int set_list))
          (pss_one (ps_ret (pv 3)))))
          pss_nil)
      (pss_cons (ps_set (i := 4) scT.nd rfl (.inl rfl) (pe_op op_mod (pe_callTy call_int1 (by rfl) T.int (by decide +kernel) (pa_cons (pe_op op_pow (pe_op op_add (pe_op op_add (pe_ix ix_list (pv 0) pe_int (fun _ _ => rfl)) (pe_op op_mul pe_int (pe_ix ix_list (pv 0) pe_int (fun _ _ => rfl)))) pe_int) pe_int) pa_nil)) pe_int))
      (pss_cons (ps_set (i := 5) scT.nd rfl (.inl rfl) (pe_op op_mod (pe_callTy call_int1 (by rfl) T.int (by decide +kernel) (pa_cons (pe_op op_pow (pe_op op_add (pv 4) (pe_op op_mul pe_int (pe_ix ix_list (pv 0) pe_int (fun _ _ => rfl)))) pe_int) pa_nil)) pe_int))
      (pss_one (ps_ret (pe_op op_mod (pe_callTy call_int1 (by rfl) T.int (by decide +kernel) (pa_cons (pe_op op_fdiv (pv 5) pe_int) pa_nil)) (pv 1)))))))), ?_⟩
    -- state[4] = state[4] + 1
    refine ⟨_, rfl, _, _, _, _, rfl, rfl, SqL.of hs, rfl, _, _, rfl, rfl, _, rfl, _, _, _, _, rfl, rfl, hs, rfl, ?_⟩
    -- the while
    refine while_to (WT H st l cs m t) (WT H st l cs m t) (fun _ H2 => left cs.length (H2 st)) ⟨i, c, h, _, rfl, upd_same, hi, hc, h0, h1, fun b hb => upd_ne hb⟩ ?_ ?_
    · intro hd
      rintro σ H2 ⟨i, c, h, v, rfl, hs2, hi, hc, h0, h1, hk⟩
      have hl2 : H2 l = some (.lst (cs.map V.int)) := by rw [hk l hne.symm]; exact hl
      refine ⟨_, rfl, _, _, _, _, rfl, rfl, SqL.of hs2, rfl, rfl, _, rfl, ite2 (fun e => ?_) fun e => ?_⟩
      · have ec : c = 0 := by simpa using e
        subst ec
        refine ⟨_, rfl, _, _, _, _, rfl, rfl, SqL.of hs2, rfl, _, rfl, _, _, _, _, rfl, rfl, SqL.of hs2, rfl, _, _, rfl, .inl (SqL.of hl2), _, _, rfl, rfl, _, rfl, ite2 (fun e2 => ?_) fun e2 => ?_⟩
        · have hlt : i < cs.length := by
            have := of_decide_eq_true e2
            rw [List.length_map] at this
            omega
          have hz : (cs.map V.int)[i]? = some (.int cs[i]) := by rw [List.getElem?_map, List.getElem?_eq_getElem hlt]; rfl
          have eL : left cs.length (H2 st) = cs.length - i := left_at hs2
          refine ⟨fun σ' H' => WT H st l cs m t σ' H' ∧ left cs.length (H' st) < left cs.length (H2 st), fun σ' H' n => ⟨_, n.2, rfl, n.1⟩, ?_⟩
          -- cell = abs(state[0][state[1]])
          refine ⟨_, rfl, _, _, _, _, rfl, rfl, SqL.of hs2, rfl, _, rfl, _, _, _, _, rfl, rfl, SqL.of hs2, rfl, _, _, _, _, rfl, rfl, SqL.of hl2, atI_nat hz, _, rfl, ?_⟩
          -- state[1] = state[1] + 1
          refine ⟨_, rfl, _, _, _, _, rfl, rfl, SqL.of hs2, rfl, _, _, rfl, rfl, _, rfl, _, _, _, _, rfl, rfl, hs2, rfl, ?_⟩
          have hup : ∀ o b, b ≠ st → upd H2 st o b = H b := fun o b hb => by rw [upd_ne hb]; exact hk b hb
          have ha : 0 ≤ (if cs[i] < 0 then -cs[i] else cs[i]) := by split <;> omega
          -- if cell >= 10 ** 18
          refine ⟨_, rfl, _, _, rfl, rfl, ⟨by decide, by decide, by decide⟩, _, _, rfl, rfl, _, rfl, ite2 (fun e3 => ?_) fun e3 => ?_⟩
          · refine ⟨_, rfl, _, rfl, _, _, _, _, rfl, rfl, upd_same, rfl, ⟨⟨i + 1, _, h, _, rfl, upd_same, hlt, ha, h0, h1, fun b hb => by rw [upd_ne hb]; exact hup _ b hb⟩, ?_⟩⟩
            rw [eL]
            exact Nat.lt_of_le_of_lt (Nat.le_of_eq (left_at (i := i + 1) upd_same)) (by omega)
          · refine ⟨_, rfl, _, _, _, _, rfl, rfl, SqL.of upd_same, rfl, _, _, rfl, rfl, .inr (by decide), _, rfl, _, _, rfl, rfl, _, _, rfl, rfl, .inl ⟨_, rfl, _, _, rfl, rfl, (by show (0 : Int) < 2147483647; decide), _, rfl, _, _, _, _, rfl, rfl, upd_same, rfl, ?_⟩⟩
            refine ⟨⟨i + 1, 0, _, _, rfl, upd_same, hlt, Int.le_refl _, Int.emod_nonneg _ (by decide), Int.emod_lt_of_pos _ (by decide), fun b hb => by rw [upd_ne hb]; exact hup _ b hb⟩, ?_⟩
            rw [eL]
            exact Nat.lt_of_le_of_lt (Nat.le_of_eq (left_at (i := i + 1) upd_same)) (by omega)
        · exact hd _ _ ⟨i, 0, h, v, rfl, hs2, hi, hc, h0, h1, hk⟩
      · exact hd _ _ ⟨i, c, h, v, rfl, hs2, hi, hc, h0, h1, hk⟩
    · rintro σ H2 ⟨i, c, h, v, rfl, hs2, hi, hc, h0, h1, hk⟩
      have mk : ∀ (c' : Int) H', 0 ≤ c' → H' st = some (.lst [.ref l, .int i, .int c', .int h, .int (t + 1)]) → (∀ b, b ≠ st → H' b = H b) → Spr H' st l cs (n + 1) := fun c' H' hc' e1 e2 =>
        ⟨⟨i, t + 1, c', h, e1, hi, hc', h0, h1, by omega⟩, by rw [e2 l hne.symm]; exact hl, hln, hne⟩
      -- if state[2] > 0
      refine ⟨_, rfl, _, _, _, _, rfl, rfl, SqL.of hs2, rfl, _, _, rfl, rfl, _, rfl, ite2 (fun e => ?_) fun e => ?_⟩
      · have hw : CDivW c m := wide_div (b := 64) hm0 (by omega) (by decide) (by decide)
        refine ⟨_, rfl, _, _, _, _, rfl, rfl, SqL.of hs2, rfl, .inl ⟨_, rfl, _, rfl, _, _, rfl, rfl, hm0, ?_⟩⟩
        refine ⟨_, rfl, _, _, _, _, rfl, rfl, SqL.of hs2, rfl, _, rfl, _, _, rfl, rfl, hw, _, rfl, _, _, _, _, rfl, rfl, hs2, rfl, _, rfl, ?_⟩
        exact k _ _ (Int.emod_nonneg _ (by omega)) (Int.emod_lt_of_pos _ hm0) (mk _ _ (Int.ediv_nonneg hc (by omega)) upd_same fun b hb => by rw [upd_ne hb]; exact hk b hb) fun b hb => by rw [upd_ne hb]; exact hk b hb
      · -- the mix
        refine ⟨_, rfl, _, _, _, _, rfl, rfl, SqL.of hs2, rfl, _, rfl, _, _, _, _, rfl, rfl, SqL.of hs2, rfl, _, _, rfl, rfl, .inl (by decide), _, _, rfl, rfl, _, _, rfl, rfl, _, _, rfl, rfl, ⟨by decide, by decide, by omega⟩, .inl ⟨_, rfl, _, _, rfl, rfl, (by show (0 : Int) < 1000000007; decide), ?_⟩⟩
        refine ⟨_, rfl, _, rfl, _, _, _, _, rfl, rfl, SqL.of hs2, rfl, _, _, rfl, rfl, .inl (by decide), _, _, rfl, rfl, _, _, rfl, rfl, ⟨by decide, by decide, ?_⟩, .inl ⟨_, rfl, _, _, rfl, rfl, (by show (0 : Int) < 998244353; decide), ?_⟩⟩
        · exact mixB (Int.emod_nonneg _ (by decide)) (Int.emod_lt_of_pos _ (by decide)) (by omega) (by omega)
        refine ⟨_, rfl, _, _, rfl, rfl, ⟨by decide, by decide⟩, .inl ⟨_, rfl, _, rfl, _, _, rfl, rfl, hm0, ?_⟩⟩
        exact k _ _ (Int.emod_nonneg _ (by omega)) (Int.emod_lt_of_pos _ hm0) (mk _ _ hc hs2 hk) hk
end
def spFresh (K : PySem.W.Frag) : Sp := fun vs H Q _ => ∃ (a : Addr) (ns : List Int), vs = [.ref a] ∧ SqL K H a (ns.map V.int) ∧ ns.length ≤ 63 ∧ ∀ (st l : Addr) (cs : List Int) (H' : Hp), Same H H' → Spr H' st l cs 0 → H st = none → Q (.ref st) H'
def spOne : Sp := fun vs H Q _ => ∃ (st l a : Addr) (cs : List Int) (n : Nat) (xs : List V), vs = [.ref st, .ref a] ∧ H a = some (.lst xs) ∧ a ≠ st ∧ 0 < xs.length ∧ xs.length < 1000 ∧ n < 1000000 ∧ Spr H st l cs n ∧
  ∀ (x : V) (H' : Hp), x ∈ xs → Spr H' st l cs (n + 1) → (∀ b, b ≠ st → H' b = H b) → Q x H'
theorem same_new {H : Hp} {p : Addr} (h : H p = none) (o : HO) : Same H (upd H p o) := fun b u q => by rw [upd_ne (ne_of_none q h)]; exact q
theorem sz {n : Nat} (h : n ≤ 1000) : n ≤ sizeLine := Nat.le_of_lt (small1000 h)
theorem Spr.mono {H H' : Hp} {st l : Addr} {cs : List Int} {n : Nat} (S : Spr H st l cs n) (s : Same H H') : Spr H' st l cs n := by
  obtain ⟨⟨i, k, c, h, e, q⟩, h2, h3, h4⟩ := S
  exact ⟨⟨i, k, c, h, s _ _ e, q⟩, s _ _ h2, h3, h4⟩
theorem Spr.not {H : Hp} {st l b : Addr} {cs : List Int} {n : Nat} (S : Spr H st l cs n) (h : H b = none) : b ≠ st := by
  obtain ⟨⟨i, k, c, m, e, q⟩, _⟩ := S
  exact (ne_of_none e h).symm
theorem same_new2 {H : Hp} {p : Addr} (h : H p = none) (o o' : HO) : Same H (upd (upd H p o) p o') := fun b u q => by
  rw [upd_ne (ne_of_none q h), upd_ne (ne_of_none q h)]
  exact q
section
variable {P : Program} {w : World} {K : PySem.W.Frag} {mg : Str → Option Value} {base : Heap}
theorem scF : FnScope ["_law_script"] ["_law_script"] (defScope sFresh) := ⟨rfl, rfl, rfl, by decide +kernel, rfl, by decide +kernel, by decide +kernel⟩
theorem cut_ints (ns : List Int) (lo hi : Option Int) : ∃ cs : List Int, cutV (ns.map V.int) lo hi = cs.map V.int ∧ cs.length ≤ ns.length := by
  refine ⟨(ns.drop (HT.sIx (ns.map V.int).length 0 lo)).take (HT.sIx (ns.map V.int).length (ns.map V.int).length hi - HT.sIx (ns.map V.int).length 0 lo), ?_, ?_⟩
  · rw [List.map_take, List.map_drop]
    rfl
  · rw [List.length_take, List.length_drop]
    omega
theorem ok_fresh {f : Addr} {fd : FuncData} (F : Fun K "_law_fresh" "_law_fresh" sFresh f fd) (hl : mg "list" = none) : FnOk P w K mg base CX0 1 f fd ["_law_script"] (spFresh K) := by
  refine F.ok scF (fun vs H Q E h => ?_) (fun cdv A outer s H vs Q E hr h => ?_)
  · obtain ⟨a, ns, rfl, _⟩ := h
    rfl
  · obtain ⟨a, ns, rfl, hS, hn, k⟩ := h
    refine ⟨_, pss_one (ps_ret (pe_lst (pa_cons (pe_callTy call_list_of (by rfl) hl (by decide +kernel) (pa_cons (pe_slice sl_list (pv 0) po_none (po_some pe_int)) pa_nil)) (pa_cons pe_int (pa_cons pe_int (pa_cons pe_int (pa_cons pe_int pa_nil))))))), ?_⟩
    obtain ⟨cs, e1, e2⟩ := cut_ints ns none (some 40)
    refine ⟨_, rfl, _, rfl, a, _, rfl, hS, fun p np => ?_⟩
    refine ⟨p, _, rfl, .inl (SqL.of upd_same), fun l nl => ⟨sz (Nat.le_of_ble_eq_true rfl), fun st nst => ?_⟩⟩
    have s1 : Same H (upd H p (.lst (cutV (ns.map V.int) none (some 40)))) := same_new np _
    have ne : l ≠ st := ne_of_none upd_same nst
    refine k st l cs _ ((s1.trans (same_new nl _)).trans (same_new nst _)) ⟨⟨0, 0, 0, 0, upd_same, Nat.zero_le _, Int.le_refl _, Int.le_refl _, by decide, Nat.le_refl _⟩, ?_, Nat.le_trans e2 hn, ne.symm⟩ ((s1.trans (same_new nl _)).free nst)
    rw [upd_ne ne, upd_same, e1]
end
/-- all but the state stands as it stood -/
def But (st : Addr) (H H' : Hp) : Prop := ∀ b o, b ≠ st → H b = some o → H' b = some o
theorem But.refl (st : Addr) (H : Hp) : But st H H := fun _ _ _ h => h
theorem But.trans {st : Addr} {H H1 H2 : Hp} (a : But st H H1) (b : But st H1 H2) : But st H H2 := fun c o n h => b c o n (a c o n h)
theorem But.of {st : Addr} {H H' : Hp} (s : Same H H') : But st H H' := fun b o _ h => s b o h
theorem But.eq {st : Addr} {H H' : Hp} (k : ∀ b, b ≠ st → H' b = H b) : But st H H' := fun b o n h => by
  rw [k b n]
  exact h
theorem But.free {st : Addr} {H H' : Hp} (k : But st H H') {p : Addr} (hp : H' p = none) (n : p ≠ st) : H p = none := by
  cases q : H p with
  | none => rfl
  | some o =>
    rw [k p o n q] at hp
    cases hp
end K1
set_option maxRecDepth 100000
set_option maxHeartbeats 1000000
namespace K1
open PySem L2
/-! ### data that is compared -/
def off (st : Addr) (H : Hp) : Hp := fun b => if b = st then none else H b
theorem off_ne {st b : Addr} {H : Hp} (h : b ≠ st) : off st H b = H b := if_neg h
theorem off_some {st b : Addr} {H : Hp} {o : HO} (h : off st H b = some o) : b ≠ st ∧ H b = some o := by
  by_cases e : b = st
  · rw [e, off, if_pos rfl] at h
    cases h
  · exact ⟨e, by rw [off_ne e] at h; exact h⟩
theorem But.off {st : Addr} {H H' : Hp} (k : But st H H') : Same (off st H) (off st H') := fun b o h => by
  obtain ⟨n, e⟩ := off_some h
  rw [off_ne n]
  exact k b o n e
theorem off_same {st : Addr} {H : Hp} : Same (off st H) H := fun b o h => (off_some h).2
theorem tup_mono {K : PySem.W.Frag} {H H' : Hp} {a : Addr} {xs : List V} (e : Same H H') (h : SqT K H a xs) : SqT K H' a xs := by
  rcases h with (h | ⟨o, h⟩) | h
  · exact .inl (.inl (e _ _ h))
  · exact .inl (.inr ⟨o, e _ _ h⟩)
  · exact .inr h
mutual
theorem dp_mono {K : PySem.W.Frag} {H H' : Hp} (s : Same H H') : ∀ {d : PyData} {v : V}, Dp K H v d → Dp K H' v d
  | _, _, .non => .non
  | _, _, .bl b => .bl b
  | _, _, .int i => .int i
  | _, _, .str x => .str x
  | _, _, .lst h k => .lst (s.seq h) (dpAll_mono s k)
  | _, _, .tup h k => .tup (tup_mono s h) (dpAll_mono s k)
theorem dpAll_mono {K : PySem.W.Frag} {H H' : Hp} (s : Same H H') : ∀ {ds : List PyData} {vs : List V}, DpAll K H vs ds → DpAll K H' vs ds
  | _, _, .nil => .nil
  | _, _, .cons h k => .cons (dp_mono s h) (dpAll_mono s k)
end
/-- data of small depth, as == asks it -/
def Okd (d : PyData) : Prop := d.canLay0 = true ∧ d.depth ≤ 40
theorem okd_all : ∀ {ds : List PyData}, (∀ d ∈ ds, Okd d) → PyData.canLayAll0 ds = true ∧ PyData.depthAll ds ≤ 40
  | [], _ => ⟨by simp only [PyData.canLayAll0], by simp only [PyData.depthAll]; omega⟩
  | d :: r, h => by
    obtain ⟨h1, h2⟩ := h d (List.mem_cons_self ..)
    obtain ⟨h3, h4⟩ := okd_all (ds := r) fun e he => h e (List.mem_cons_of_mem _ he)
    refine ⟨by simp only [PyData.canLayAll0, h1, h3, Bool.and_true], ?_⟩
    simp only [PyData.depthAll]
    omega
theorem okd_list {ds : List PyData} (h : ∀ d ∈ ds, Okd d) : SeqAt.shaped (.list ds) = true := by
  obtain ⟨h1, h2⟩ := okd_all h
  unfold SeqAt.shaped
  rw [Bool.and_eq_true]
  refine ⟨by simp only [PyData.canLay0, h1], decide_eq_true ?_⟩
  simp only [PyData.depth]
  omega
theorem dpAll_len {K : PySem.W.Frag} {H : Hp} : ∀ {vs : List V} {ds : List PyData}, DpAll K H vs ds → vs.length = ds.length
  | _, _, .nil => rfl
  | _, _, .cons _ k => congrArg Nat.succ (dpAll_len k)
theorem dpAll_erase {K : PySem.W.Frag} {H : Hp} : ∀ {vs : List V} {ds : List PyData} (k : Nat), DpAll K H vs ds → DpAll K H (vs.eraseIdx k) (ds.eraseIdx k)
  | _, _, _, .nil => .nil
  | _, _, 0, .cons _ t => t
  | _, _, k + 1, .cons h t => .cons h (dpAll_erase k t)
theorem eqv_nil (ds : List PyData) : PyData.eqv (.list ds) (.list []) = decide (ds.length = 0) := by
  cases ds with
  | nil => decide +kernel
  | cons d r => simp [PyData.eqv, PyData.eqvAll]
/-- the lists that == asks, each item of small depth -/
def DataL (K : PySem.W.Frag) (H : Hp) (xs : List V) : Prop := ∃ ds, DpAll K H xs ds ∧ ∀ d ∈ ds, Okd d
theorem DataL.mono {K : PySem.W.Frag} {H H' : Hp} {xs : List V} (h : DataL K H xs) (s : Same H H') : DataL K H' xs := by
  obtain ⟨ds, h1, h2⟩ := h
  exact ⟨ds, dpAll_mono s h1, h2⟩
theorem DataL.erase {K : PySem.W.Frag} {H : Hp} {xs : List V} (h : DataL K H xs) (k : Nat) : DataL K H (xs.eraseIdx k) := by
  obtain ⟨ds, h1, h2⟩ := h
  exact ⟨ds.eraseIdx k, dpAll_erase k h1, fun d hd => h2 d (List.mem_of_mem_eraseIdx hd)⟩
/-- the same things in another order, in a new list -/
def spMix (K : PySem.W.Frag) : Sp := fun vs H Q _ => ∃ (st l a : Addr) (cs : List Int) (n : Nat) (xs : List V), vs = [.ref st, .ref a] ∧ (SqL K H a xs ∨ SqT K H a xs) ∧ xs.length ≤ 900 ∧ n + xs.length < 1000000 ∧ Spr H st l cs n ∧ DataL K (off st H) xs ∧
  ∀ (p : Addr) (ys : List V) (H' : Hp), ys.Perm xs → H' p = some (.lst ys) → Spr H' st l cs (n + xs.length) → But st H H' → H p = none → Q (.ref p) H'
def lenAt : Option HO → Nat
  | some (.lst xs) => xs.length
  | _ => 0
theorem seq_nat {n : Nat} {r : Int} (h0 : 0 ≤ r) (h1 : r < n) : seqIndex? r n = some r.toNat := (ixN_seq (n := n) (i := r) (j := r.toNat) (by unfold ixN; rw [if_pos h0, if_pos h1])).1
theorem erase_perm {α : Type} : ∀ {l : List α} {k : Nat} {y : α}, l[k]? = some y → (y :: l.eraseIdx k).Perm l
  | a :: r, 0, y, h => by
    have e : a = y := Option.some.inj h
    subst e
    exact List.Perm.refl _
  | a :: r, k + 1, y, h => (List.Perm.swap a y _).trans (List.Perm.cons a (erase_perm (l := r) (k := k) (by simpa using h)))
theorem perm_one {xs ys zs : List V} {k : Nat} {y : V} (h : (zs ++ ys).Perm xs) (e : ys[k]? = some y) : ((zs ++ [y]) ++ ys.eraseIdx k).Perm xs := by
  rw [List.append_assoc]
  exact (List.Perm.append_left zs (erase_perm e)).trans h
section
variable {P : Program} {w : World} {K : PySem.W.Frag} {mg : Str → Option Value} {base : Heap}
abbrev NMix : List Str := ["_law_state", "_law_things", "_law_left", "_law_found"]
theorem scMix : FnScope NMix ["_law_state", "_law_things"] (defScope sMix) := ⟨rfl, rfl, rfl, by decide +kernel, rfl, by decide +kernel, by decide +kernel⟩
theorem ok_mix {f fT : Addr} {fd fdT : FuncData} (F : Fun K "_law_mix" "_law_mix" sMix f fd) (FT : Fun K "_law_take" "_law_take" sTake fT fdT) (T : TxtT mg) (hl : mg "list" = none) (gT : mg "_law_take" = some (.ref fT)) (bT : Binds K fdT ["_law_state", "_law_many"] []) :
    FnOk P w K mg base CX0 2 f fd ["_law_state", "_law_things"] (spMix K) := by
  have GT : FnOk P w K mg base CX0 1 fT fdT ["_law_state", "_law_many"] spTake := ok_take FT T
  refine F.ok scMix (fun vs H Q E h => ?_) (fun cdv A outer s H vs Q E hr h => ?_)
  · obtain ⟨st, l, a, cs, n, xs, rfl, _⟩ := h
    rfl
  · obtain ⟨st, l, a, cs, n, xs, rfl, ha, hz, hn, S, D, k⟩ := h
    refine ⟨_, pss_cons (ps_par (i := 2) (j := 3) rfl scMix.nd rfl rfl (by decide) rfl rfl (pa_cons (pe_callTy call_list_of (by rfl) hl (by decide +kernel) (pa_cons (pv 1) pa_nil)) (pa_cons (pe_lst pa_nil) pa_nil)) (by rfl))
      (pss_cons (ps_while PassesOwn.never (pt_cmpR (op_neD hr.units) (pv 2) (pe_lst pa_nil) (nomark _))
        (pss_one (ps_expr (pe_bm PySem.F.plainAttrs_list PySem.F.slot_list_append PySem.F.type_list_append mt_append (pv 3)
          (pa_cons (pe_bm PySem.F.plainAttrs_list PySem.F.slot_list_pop PySem.F.type_list_pop mt_popAt (pv 2) (pa_cons (pe_call GT hr (by rfl) gT FT.kp bT .nil pass0 (pa_cons (pv 0) (pa_cons (pe_callB call_len_seq (by rfl) T.len PySem.boot_len (pa_cons (pv 2) pa_nil)) pa_nil))) pa_nil)) pa_nil)))))
      (pss_one (ps_ret (pv 3)))), ?_⟩
    refine ⟨_, rfl, a, xs, rfl, ha, fun l2 m2 => ⟨sz (Nat.le_of_ble_eq_true rfl), fun f m3 => ⟨_, _, rfl, ?_⟩⟩⟩
    have e2 := S.not m2
    have s2 := same_new m2 (.lst xs)
    have e3 := (S.mono s2).not m3
    have n3 := s2.free m3
    have e23 : l2 ≠ f := ne_of_none upd_same m3
    have s3 := s2.trans (same_new m3 (.lst []))
    refine while_to (fun σ H2 => ∃ ys zs, σ = [some (.ref st), some (.ref a), some (.ref l2), some (.ref f)] ∧ H2 l2 = some (.lst ys) ∧ H2 f = some (.lst zs) ∧ (zs ++ ys).Perm xs ∧ Spr H2 st l cs (n + zs.length) ∧ But st H H2 ∧ DataL K (off st H) ys)
      (fun σ H2 => ∃ zs, σ = [some (.ref st), some (.ref a), some (.ref l2), some (.ref f)] ∧ H2 f = some (.lst zs) ∧ zs.Perm xs ∧ Spr H2 st l cs (n + zs.length) ∧ But st H H2) (fun _ H2 => lenAt (H2 l2))
      ⟨xs, [], rfl, by rw [upd_ne e23]; exact upd_same, upd_same, List.Perm.refl _, S.mono s3, But.of s3, D⟩ ?_ ?_
    · intro hd
      rintro σ H2 ⟨ys, zs, rfl, h2, h3, pm, S2, bt, D2⟩
      have hlen : zs.length + ys.length = xs.length := by
        have q := pm.length_eq
        rw [List.length_append] at q
        exact q
      obtain ⟨ds, dp, dk⟩ := id D2
      have hdl := dpAll_len dp
      refine ⟨_, rfl, sz (Nat.le_of_ble_eq_true rfl), fun q nq => ?_⟩
      have sq := same_new nq (.lst [])
      refine ⟨.list ds, .list [], .lst (SqL.of (sq _ _ h2)) (dpAll_mono ((bt.off.trans off_same).trans sq) dp), .lst (SqL.of upd_same) .nil, okd_list dk, okd_list (ds := []) (fun _ h => nomatch h), _, rfl, ite2 (fun c => ?_) fun c => ?_⟩
      · have hy : ys.length ≠ 0 := by
          rw [eqv_nil] at c
          rw [hdl]
          simpa using c
        refine ⟨fun σ' H' => (∃ ys zs, σ' = [some (.ref st), some (.ref a), some (.ref l2), some (.ref f)] ∧ H' l2 = some (.lst ys) ∧ H' f = some (.lst zs) ∧ (zs ++ ys).Perm xs ∧ Spr H' st l cs (n + zs.length) ∧ But st H H' ∧ DataL K (off st H) ys) ∧ lenAt (H' l2) < lenAt (H2 l2), fun σ' H' q => ⟨_, q.2, rfl, q.1⟩, ?_⟩
        refine ⟨_, rfl, .inl ⟨rfl, _, SqL.of (sq _ _ h3)⟩, _, rfl, .inl ⟨rfl, _, SqL.of (sq _ _ h2)⟩, _, rfl, _, rfl, l2, ys, rfl, .inl (SqL.of (sq _ _ h2)), st, l, cs, n + zs.length, _, rfl, by omega, by omega, by omega, S2.mono sq, fun r H4 r0 r1 S4 hk => ?_⟩
        have g2 : H4 l2 = some (.lst ys) := by
          rw [hk l2 e2]
          exact sq _ _ h2
        have g3 : H4 f = some (.lst zs) := by
          rw [hk f e3]
          exact sq _ _ h3
        have rk : r.toNat < ys.length := by omega
        have ey : ys[r.toNat]? = some ys[r.toNat] := List.getElem?_eq_getElem rk
        refine ⟨l2, ys, r, r.toNat, _, rfl, rfl, g2, by omega, by omega, seq_nat r0 r1, ey, f, zs, _, rfl, rfl, by rw [upd_ne e23.symm]; exact g3, small1000 (by omega), ?_⟩
        have b4 : But st H2 H4 := (But.of sq).trans (But.eq hk)
        have b5 : ∀ o o', But st H (upd (upd H4 l2 o) f o') := fun o o' b u nb hb => by
          rw [upd_ne (ne_of_none hb n3), upd_ne (ne_of_none hb m2)]
          exact (bt.trans b4) b u nb hb
        refine ⟨⟨_, _, rfl, by rw [upd_ne e23]; exact upd_same, upd_same, perm_one pm ey, ?_, b5 _ _, ?_⟩, ?_⟩
        · rw [List.length_append]
          obtain ⟨⟨i, t, c, m, es, q1, q2, q3, q4, q5⟩, ls, ln, ne⟩ := S4
          refine ⟨⟨i, t, c, m, by rw [upd_ne e3.symm, upd_ne e2.symm]; exact es, q1, q2, q3, q4, ?_⟩, ?_, ln, ne⟩
          · show t ≤ n + (zs.length + 1)
            omega
          · rw [upd_ne (ne_of_none S.ls n3), upd_ne (ne_of_none S.ls m2)]
            exact ls
        · exact D2.erase r.toNat
        · show lenAt (upd (upd H4 l2 _) f _ l2) < lenAt (H2 l2)
          rw [upd_ne e23, upd_same, h2]
          show (ys.eraseIdx r.toNat).length < ys.length
          rw [List.length_eraseIdx_of_lt rk]
          omega
      · have hy : ys = [] := by
          rw [eqv_nil] at c
          have z : ds.length = 0 := by simpa using c
          exact List.eq_nil_of_length_eq_zero (by rw [hdl]; exact z)
        subst hy
        rw [List.append_nil] at pm
        exact hd _ _ ⟨zs, rfl, sq _ _ h3, pm, S2.mono sq, bt.trans (But.of sq)⟩
    · rintro σ H2 ⟨zs, rfl, h3, pm, S2, bt⟩
      refine ⟨_, rfl, k f zs H2 pm h3 ?_ bt n3⟩
      rw [pm.length_eq] at S2
      exact S2
end
end K1
set_option maxRecDepth 100000
set_option maxHeartbeats 1000000
namespace K1
open PySem L2
def nm16 : List Str := ["a", "b", "c", "x", "y", "zz", "part", "put", "else", "abcdefgh", "main", "copy", "catch", "t", "rest", "if"]
def unS : V → Str
  | .str z => z
  | _ => ""
theorem un_map : ∀ zs : List Str, (zs.map V.str).map unS = zs
  | [] => rfl
  | _ :: r => congrArg _ (un_map r)
theorem perm_strs {ys : List V} {zs : List Str} (h : ys.Perm (zs.map V.str)) : ∃ ws : List Str, ys = ws.map V.str ∧ ws.Perm zs := by
  refine ⟨ys.map unS, ?_, ?_⟩
  · have all : ∀ y ∈ ys, ∃ z, y = V.str z := fun y hy => by
      obtain ⟨z, _, e⟩ := List.mem_map.mp (h.mem_iff.mp hy)
      exact ⟨z, e.symm⟩
    clear h
    induction ys with
    | nil => rfl
    | cons y r ih =>
      obtain ⟨z, rfl⟩ := all y (List.mem_cons_self ..)
      have q := ih fun y hy => all y (List.mem_cons_of_mem _ hy)
      show V.str z :: r = V.str z :: (r.map unS).map V.str
      rw [← q]
  · have q := h.map unS
    rw [un_map] at q
    exact q
theorem strs_data {K : PySem.W.Frag} {H : Hp} : ∀ zs : List Str, (∀ z ∈ zs, PyData.strOk z = true) → DataL K H (zs.map V.str)
  | [], _ => ⟨[], .nil, fun _ h => nomatch h⟩
  | z :: r, h => by
    obtain ⟨ds, h1, h2⟩ := strs_data (K := K) (H := H) r fun y hy => h y (List.mem_cons_of_mem _ hy)
    refine ⟨.str z :: ds, .cons (.str z) h1, fun d hd => ?_⟩
    rcases List.mem_cons.mp hd with e | e
    · subst e
      exact ⟨by simp only [PyData.canLay0]; exact h z (List.mem_cons_self ..), by simp only [PyData.depth]; omega⟩
    · exact h2 d e
theorem nm16_ok : ∀ z ∈ nm16, PyData.strOk z = true := by
  have q : nm16.all PyData.strOk = true := by decide +kernel
  exact List.all_eq_true.mp q
theorem nm16_nd : nm16.Nodup := by decide +kernel
theorem cut_to {α : Type} (f : α → V) (zs : List α) {m : Int} (h : 0 ≤ m) : cutV (zs.map f) none (some m) = (zs.take m.toNat).map f := by
  have e : m = (m.toNat : Int) := by omega
  rw [e]
  unfold cutV
  rw [HT.sIx_none, HT.sIx_nat, List.drop_zero, List.length_map, Nat.sub_zero, ← List.map_take, Int.toNat_natCast]
  congr 1
  rcases Nat.le_total m.toNat zs.length with q | q
  · rw [Nat.min_eq_left q]
  · rw [Nat.min_eq_right q, List.take_of_length_le (Nat.le_refl _), List.take_of_length_le q]
theorem cut_mid {α : Type} (f : α → V) (zs : List α) {i j : Int} (h0 : 0 ≤ i) (h1 : i ≤ j) : cutV (zs.map f) (some i) (some j) = ((zs.drop i.toNat).take (j.toNat - i.toNat)).map f := by
  have ei : i = (i.toNat : Int) := by omega
  have ej : j = (j.toNat : Int) := by omega
  rw [ei, ej]
  unfold cutV
  rw [HT.sIx_nat, HT.sIx_nat, List.length_map, ← List.map_drop, ← List.map_take, Int.toNat_natCast, Int.toNat_natCast]
  congr 1
  rcases Nat.le_total i.toNat zs.length with p | p
  · rw [Nat.min_eq_left p]
    rcases Nat.le_total j.toNat zs.length with q | q
    · rw [Nat.min_eq_left q]
    · rw [Nat.min_eq_right q, List.take_of_length_le (by rw [List.length_drop]; omega), List.take_of_length_le (by rw [List.length_drop]; omega)]
  · rw [Nat.min_eq_right p, List.drop_eq_nil_of_le (Nat.le_refl _), List.drop_eq_nil_of_le p, List.take_nil, List.take_nil]
/-- m of the sixteen names, in some order -/
def spNames : Sp := fun vs H Q _ => ∃ (st l : Addr) (cs : List Int) (n : Nat) (m : Int), vs = [.ref st, .int m] ∧ 0 ≤ m ∧ m ≤ 16 ∧ n < 900000 ∧ Spr H st l cs n ∧
  ∀ (p : Addr) (zs : List Str) (H' : Hp), zs.Nodup → (∀ z ∈ zs, z ∈ nm16) → zs.length = m.toNat → H' p = some (.lst (zs.map V.str)) → Spr H' st l cs (n + 16) → But st H H' → H p = none → Q (.ref p) H'
section
variable {P : Program} {w : World} {K : PySem.W.Frag} {mg : Str → Option Value} {base : Heap}
theorem scNames : FnScope ["_law_state", "_law_many", "_law_some"] ["_law_state", "_law_many"] (defScope sNames) := ⟨rfl, rfl, rfl, by decide +kernel, rfl, by decide +kernel, by decide +kernel⟩
theorem ok_names {f fM : Addr} {fd fdM : FuncData} (F : Fun K "_law_names" "_law_names" sNames f fd) (GM : FnOk P w K mg base CX0 2 fM fdM ["_law_state", "_law_things"] (spMix K)) (gM : mg "_law_mix" = some (.ref fM)) (kM : PySem.W.keepIn K (.ref fM) = true) (bM : Binds K fdM ["_law_state", "_law_things"] []) :
    FnOk P w K mg base CX0 3 f fd ["_law_state", "_law_many"] spNames := by
  refine F.ok scNames (fun vs H Q E h => ?_) (fun cdv A outer s H vs Q E hr h => ?_)
  · obtain ⟨st, l, cs, n, m, rfl, _⟩ := h
    rfl
  · obtain ⟨st, l, cs, n, m, rfl, h0, h16, hn, S, k⟩ := h
    refine ⟨_, pss_cons (ps_set (i := 2) scNames.nd rfl (.inl rfl) (pe_lst (pa_cons pe_str (pa_cons pe_str (pa_cons pe_str (pa_cons pe_str (pa_cons pe_str (pa_cons pe_str (pa_cons pe_str (pa_cons pe_str (pa_cons pe_str (pa_cons pe_str pa_nil))))))))))))
      (pss_one (ps_ret (pe_slice sl_list (pe_call GM hr (by rfl) gM kM bM .nil pass0 (pa_cons (pv 0) (pa_cons (pe_op op_cat (pv 2) (pe_lst (pa_cons pe_str (pa_cons pe_str (pa_cons pe_str (pa_cons pe_str (pa_cons pe_str (pa_cons pe_str pa_nil)))))))) pa_nil))) po_none (po_some (pv 1))))), ?_⟩
    refine ⟨sz (Nat.le_of_ble_eq_true rfl), fun p1 m1 => ⟨_, rfl, _, rfl, sz (Nat.le_of_ble_eq_true rfl), fun p2 m2 => ⟨p1, p2, _, _, rfl, rfl, by rw [upd_ne (ne_of_none upd_same m2)]; exact upd_same, upd_same, sz (Nat.le_of_ble_eq_true rfl), fun p3 m3 => ?_⟩⟩⟩
    have s3 := ((same_new m1 (.lst [.str "a", .str "b", .str "c", .str "x", .str "y", .str "zz", .str "part", .str "put", .str "else", .str "abcdefgh"])).trans (same_new m2 (.lst [.str "main", .str "copy", .str "catch", .str "t", .str "rest", .str "if"]))).trans (same_new m3 (.lst (nm16.map V.str)))
    refine ⟨st, l, p3, cs, n, nm16.map V.str, rfl, .inl (SqL.of upd_same), Nat.le_of_ble_eq_true rfl, by show n + 16 < 1000000; omega, S.mono s3, strs_data _ nm16_ok, fun p ys H4 pm hp S4 bt np => ?_⟩
    obtain ⟨zs, rfl, pz⟩ := perm_strs pm
    refine ⟨_, rfl, m, rfl, p, _, rfl, SqL.of hp, fun q nq => ?_⟩
    have hm : ∀ z ∈ zs.take m.toNat, z ∈ nm16 := fun z hz => pz.mem_iff.mp (List.mem_of_mem_take hz)
    have hl : zs.length = 16 := pz.length_eq
    refine k q (zs.take m.toNat) _ ((pz.nodup_iff.mpr nm16_nd).sublist (List.take_sublist _ _)) hm (by rw [List.length_take]; omega) (by rw [upd_same, cut_to _ _ h0]) (S4.mono (same_new nq _)) ((But.of s3).trans (bt.trans (But.of (same_new nq _)))) ?_
    exact ((But.of s3).trans bt).free nq (S4.not nq)
end
end K1
set_option maxRecDepth 100000
set_option maxHeartbeats 1000000
namespace K1
open PySem L2
/-! ### the program's kinds -/
def abc : Str := "abcdefghijklmnopqrstuvwxyz"
/-- spelled as a name -/
def nameOk (z : Str) : Bool := decide (1 ≤ (z.length : Int)) && decide ((z.length : Int) ≤ 8) && z.cps.toList.all fun c => decide (c ∈ abc.cps.toList)
theorem nm16_name : ∀ z ∈ nm16, nameOk z = true := by
  have q : nm16.all nameOk = true := by decide +kernel
  exact List.all_eq_true.mp q
theorem TyX.mono {K : PySem.W.Frag} {H H' : Hp} {x : V} {t : Value} (s : Same H H') (h : TyX K H x t) : TyX K H' x t := by
  cases h with
  | base b =>
    refine .base ?_
    cases b with
    | non => exact .non
    | bl y => exact .bl y
    | int i => exact .int i
    | str y => exact .str y
    | flt y => exact .flt y
    | lst e => exact .lst (s _ _ e)
    | frz e => exact .frz (s _ _ e)
    | tup e => exact .tup (s _ _ e)
    | dK e => exact .dK (s _ _ e)
    | dT e => exact .dT (s _ _ e)
    | ins e a b c d f => exact .ins (s _ _ e) a b c d f
  | byt b => exact .byt b
  | set e => exact .set (s _ _ e)
  | kList e c => exact .kList e c
  | kTuple e c => exact .kTuple e c
  | kDict e c => exact .kDict e c
  | fTuple e => exact .fTuple (s _ _ e)
  | fDict e => exact .fDict (s _ _ e)
def spIsList (K : PySem.W.Frag) : Sp := fun vs H Q _ => ∃ (x : V) (t : Value) (b : Bool), vs = [x] ∧ TyX K H x t ∧ PySem.W.kitAny K t [.type "list", .type "tuple"] = some b ∧ ∀ H', Same H H' → Q (.bl b) H'
def spIsName (K : PySem.W.Frag) : Sp := fun vs H Q _ => ∃ (x : V) (t : Value), vs = [x] ∧ TyX K H x t ∧ ((∃ z, x = .str z ∧ z.length ≤ 900 ∧ ∀ H', Same H H' → Q (.bl (nameOk z)) H') ∨ (PySem.W.kitOne K t (.type "str") = some false ∧ Q (.bl false) H))
section
variable {P : Program} {w : World} {K : PySem.W.Frag} {mg : Str → Option Value} {base : Heap}
theorem scIL : FnScope ["thing"] ["thing"] (defScope pIsList) := ⟨rfl, rfl, rfl, by decide +kernel, rfl, by decide +kernel, by decide +kernel⟩
theorem scIN : FnScope ["thing", "letter"] ["thing"] (defScope pIsName) := ⟨rfl, rfl, rfl, by decide +kernel, rfl, by decide +kernel, by decide +kernel⟩
theorem ok_isList {f : Addr} {fd : FuncData} (F : Fun K "is_list" "is_list" pIsList f fd) (hl : mg "list" = none) (ht : mg "tuple" = none) (hi : mg "isinstance" = none) : FnOk P w K mg base CX0 1 f fd ["thing"] (spIsList K) := by
  refine F.ok scIL (fun vs H Q E h => ?_) (fun cdv A outer s H vs Q E hr h => ?_)
  · obtain ⟨x, t, b, rfl, _⟩ := h
    rfl
  · obtain ⟨x, t, b, rfl, ty, kb, k⟩ := h
    refine ⟨_, pss_one (ps_ret (pe_callB call_isiT (by rfl) hi (by decide +kernel) (pa_cons (pv 0) (pa_cons (pe_tup (pa_cons (pe_bltn (v := .ty "list") (by rfl) hl (by decide +kernel) rfl) (pa_cons (pe_bltn (v := .ty "tuple") (by rfl) ht (by decide +kernel) rfl) pa_nil))) pa_nil)))), ?_⟩
    refine ⟨_, rfl, sz (Nat.le_of_ble_eq_true rfl), fun t m => ⟨_, t, _, _, _, b, rfl, upd_same, .cons (.ty _) (.cons (.ty _) .nil), TyX.mono (same_new m _) ty, kb, k _ (same_new m _)⟩⟩
theorem ok_isName {f : Addr} {fd : FuncData} (F : Fun K "is_name" "is_name" pIsName f fd) (hs : mg "str" = none) (hl : mg "len" = none) (ha : mg "all" = none) (hi : mg "isinstance" = none) (gL : ∃ u, mg "LETTERS" = some u ∧ RelV (.str abc) u) (gN : ∃ u, mg "LONGEST_NAME" = some u ∧ RelV (.int 8) u) : FnOk P w K mg base CX0 1 f fd ["thing"] (spIsName K) := by
  obtain ⟨uL, hL, rL⟩ := gL
  obtain ⟨uN, hN, rN⟩ := gN
  refine F.ok scIN (fun vs H Q E h => ?_) (fun cdv A outer s H vs Q E hr h => ?_)
  · obtain ⟨x, t, rfl, _⟩ := h
    rfl
  · obtain ⟨x, t, rfl, ty, h⟩ := h
    refine ⟨_, pss_cons (ps_if (pw_or (pt_not (pt_val (pe_callB call_isi (by rfl) hi (by decide +kernel) (pa_cons (pv 0) (pa_cons (pe_bltn (v := .ty "str") (by rfl) hs (by decide +kernel) rfl) pa_nil)))))
        (pw_or1 (pt_not (pt_chain op_le op_le pe_int (pe_callB call_len_str (by rfl) hl PySem.boot_len (pa_cons (pv 0) pa_nil)) (pe_glob (by rfl) hN rN))))).pt (pss_one (ps_ret pe_bl)) pss_nil)
      (pss_one (ps_ret (pe_callB (cr_all rfl) (by rfl) ha (by decide +kernel) (pa_cons (pe_lc (own := [("letter", 1)]) (g := gName 1) (tt := tYes) rfl scIN.nd (pi_str (pv 0)) (blkOk_by (N := ["thing", "letter"]) (sc := defScope pIsName) (by decide +kernel)) (fun _ _ _ _ _ => pg_name (i := 1) scIN.nd rfl (Or.inl rfl)) (fun _ _ _ _ _ => pts_nil)
        (fun _ _ _ _ _ => pe_cmpR op_inS (pv 1) (pe_glob (by rfl) hL rL) rfl)) pa_nil)))), ?_⟩
    rcases h with ⟨z, rfl, hz, k⟩ | ⟨kf, k⟩
    · obtain rfl : t = .type "str" := by
        cases ty with
        | base b =>
          cases b
          rfl
      refine ⟨_, rfl, _, _, _, _, true, rfl, .ty _, ty, kit_ty (by decide +kernel), _, rfl, iteF ?_⟩
      refine ⟨_, rfl, z, rfl, Nat.le_of_lt (small1000 (by omega)), _, _, rfl, rfl, _, rfl, ?_⟩
      refine ite2 (fun c1 => ⟨_, _, rfl, rfl, _, rfl, ?_⟩) fun c1 => ⟨_, rfl, iteT ?_⟩
      · by_cases c2 : (z.length : Int) ≤ 8
        · rw [decide_eq_true c2]
          refine iteF ?_
          refine ⟨_, rfl, z, rfl, fun D nD => ?_⟩
          refine lc_it walk_str (fun i H9 => H9 D = some (.lst (((z.cps.toList.take i).map fun c => decide (c ∈ abc.cps.toList)).map V.bl)) ∧ Same H H9) ⟨upd_same, same_new nD _⟩ (fun _ _ _ _ => trivial) ?_ ?_
          · rintro i x H9 H10 hi ⟨h9, s9⟩ ⟨rfl, c, hc, rfl⟩
            refine ⟨rfl, _, rfl, c, abc, rfl, rfl, _, h9, ?_, ?_, ?_⟩
            · rw [List.length_map, List.length_map, List.length_take]
              have hz2 : z.cps.size ≤ 900 := hz
              exact small1000 (by omega)
            · have e : z.cps.toList[i]? = some c := by simpa using hc
              rw [upd_same, List.take_add_one, e]
              simp only [Option.toList_some, List.map_append, List.map_cons, List.map_nil]
            · intro b o hb
              rw [upd_ne (ne_of_none hb nD)]
              exact s9 b o hb
          · rintro H9 ⟨h9, s9⟩
            refine ⟨D, _, rfl, SqL.of h9, ?_⟩
            have e := k H9 s9
            have eq : nameOk z = ((z.cps.toList.take z.cps.size).map fun c => decide (c ∈ abc.cps.toList)).all id := by
              unfold nameOk
              rw [c1, decide_eq_true c2, Bool.true_and, Bool.true_and, List.take_of_length_le (by simp), List.all_map]
              rfl
            rw [eq] at e
            exact e
        · rw [decide_eq_false c2]
          refine iteT ?_
          have e := k H (Same.refl H)
          unfold nameOk at e
          rw [decide_eq_false c2, Bool.and_false, Bool.false_and] at e
          exact e
      · have e := k H (Same.refl H)
        unfold nameOk at e
        have c3 : decide (1 ≤ (z.length : Int)) = false := by simpa using c1
        rw [c3, Bool.false_and, Bool.false_and] at e
        exact e
    · refine ⟨_, rfl, _, _, _, _, false, rfl, .ty _, ty, kf, _, rfl, iteT ?_⟩
      exact iteT k
end
end K1
set_option linter.all false
set_option maxRecDepth 100000
set_option maxHeartbeats 1000000
namespace K1
open PySem L2
/-! ### lists of names -/
/-- the lists stand, each with its names -/
def LiT (H : Hp) (B : TL) : Prop := ∀ p ∈ B, H p.1 = some (.lst (p.2.map V.str))
theorem LiT.mono {H H' : Hp} {B : TL} (h : LiT H B) (s : Same H H') : LiT H' B := fun p hp => s _ _ (h p hp)
def TuT (H : Hp) (M : TL) : Prop := ∀ p ∈ M, H p.1 = some (.tup (p.2.map V.str))
theorem TuT.mono {H H' : Hp} {B : TL} (h : TuT H B) (s : Same H H') : TuT H' B := fun p hp => s _ _ (h p hp)
theorem TuT.at {K : PySem.W.Frag} {H : Hp} {M : TL} (h : TuT H M) : AtT K H M := fun p hp => SqT.of (h p hp)
theorem nameOk_len {z : Str} (h : nameOk z = true) : z.length ≤ 8 := by
  unfold nameOk at h
  rw [Bool.and_eq_true, Bool.and_eq_true] at h
  have := of_decide_eq_true h.1.2
  omega
def spAreN : Sp := fun vs H Q _ => ∃ (a : Addr) (ss : List Str), vs = [.ref a] ∧ H a = some (.lst (ss.map V.str)) ∧ (∀ z ∈ ss, nameOk z = true) ∧ ss.length ≤ 100 ∧ ∀ H', Same H H' → Q (.bl true) H'
def hasKey (kvs : List (Key × V)) (x : Str) : Bool := (valV kvs (.inr x)).isSome
def spIsBlock : Sp := fun vs H Q _ => ∃ (a d : Addr) (ss : List Str) (kvs : List (Key × V)), vs = [.ref a, .ref d] ∧ H a = some (.lst (ss.map V.str)) ∧ H d = some (.dK kvs) ∧ (∀ z ∈ ss, nameOk z = true) ∧ ss ≠ [] ∧ ss.Nodup ∧ ss.length ≤ 100 ∧ (∀ z ∈ ss, hasKey kvs z = false) ∧
  ∀ H', Same H H' → Q (.bl true) H'
section
variable {P : Program} {w : World} {K : PySem.W.Frag} {mg : Str → Option Value} {base : Heap}
theorem scAN : FnScope ["thing", "item"] ["thing"] (defScope pAreNames) := ⟨rfl, rfl, rfl, by decide +kernel, rfl, by decide +kernel, by decide +kernel⟩
theorem all_true (n : Nat) : (List.replicate n true).all id = true := List.all_eq_true.mpr fun b hb => (List.mem_replicate.mp hb).2
theorem ok_areNames {f fL fI : Addr} {fd fdL fdI : FuncData} (F : Fun K "are_names" "are_names" pAreNames f fd) (GL : FnOk P w K mg base CX0 1 fL fdL ["thing"] (spIsList K)) (gL : mg "is_list" = some (.ref fL)) (kL : PySem.W.keepIn K (.ref fL) = true) (bL : Binds K fdL ["thing"] [])
    (GI : FnOk P w K mg base CX0 1 fI fdI ["thing"] (spIsName K)) (gI : mg "is_name" = some (.ref fI)) (kI : PySem.W.keepIn K (.ref fI) = true) (bI : Binds K fdI ["thing"] []) (ha : mg "all" = none) : FnOk P w K mg base CX0 2 f fd ["thing"] spAreN := by
  refine F.ok scAN (fun vs H Q E h => ?_) (fun cdv A outer s H vs Q E hr h => ?_)
  · obtain ⟨a, ss, rfl, _⟩ := h
    rfl
  · obtain ⟨a, ss, rfl, hb, nm, hl, k⟩ := h
    refine ⟨_, pss_one (ps_ret (pe_and (pe_call GL hr (by rfl) gL kL bL .nil pass0 (pa_cons (pv 0) pa_nil)) (pe_one (pe_callB (cr_all rfl) (by rfl) ha (by decide +kernel) (pa_cons (pe_lc (own := [("item", 1)]) (g := gName 1) (tt := tYes) rfl scAN.nd (pi_list (pv 0)) (blkOk_by (N := ["thing", "item"]) (sc := defScope pAreNames) (by decide +kernel))
      (fun _ _ _ _ _ => pg_name (i := 1) scAN.nd rfl (Or.inl rfl)) (fun _ _ _ _ _ => pts_nil) (fun _ _ _ _ _ => pe_call GI hr (by rfl) gI kI bI .nil pass0 (pa_cons (pv 1) pa_nil))) pa_nil))))), ?_⟩
    refine ⟨_, rfl, _, _, true, rfl, .base (.lst hb), kitAny_cons (kit_ty (r := true) (by decide +kernel)) (fun e => nomatch e) (fun _ => rfl), fun H1 s1 => ⟨_, rfl, iteT ?_⟩⟩
    refine ⟨_, rfl, a, rfl, ⟨_, SqL.of (s1 _ _ hb)⟩, fun D nD => ?_⟩
    refine lc_list (xs := ss.map V.str) (fun i H9 => H9 D = some (.lst (List.replicate i (.bl true))) ∧ Same H1 H9) ⟨upd_same, same_new nD _⟩ (fun i H9 _ h9 => SqL.of ((s1.trans h9.2) _ _ hb)) ?_ ?_
    · rintro i x H9 hx ⟨h9, s9⟩
      rw [List.getElem?_map] at hx
      obtain ⟨z, hz, rfl⟩ := Option.map_eq_some_iff.mp hx
      have li : i < ss.length := (List.getElem?_eq_some_iff.mp hz).1
      have nz := nm z (List.mem_of_getElem? hz)
      refine ⟨rfl, _, rfl, _, _, rfl, .base (.str z), .inl ⟨z, rfl, Nat.le_trans (nameOk_len nz) (by decide), fun H10 s10 => ⟨_, s10 _ _ h9, small1000 (by rw [List.length_replicate]; omega), ?_, ?_⟩⟩⟩
      · rw [nz, upd_same, List.replicate_succ']
      · intro c o hc
        rw [upd_ne (ne_of_none hc nD)]
        exact s10 _ _ (s9 _ _ hc)
    · rintro H9 ⟨h9, s9⟩
      refine ⟨D, List.replicate ss.length true, rfl, SqL.of (by rw [h9, List.map_replicate, List.length_map]), ?_⟩
      rw [all_true]
      exact k _ (s1.trans s9)
theorem iteDF {c A B : Prop} [Decidable c] (hc : ¬ c) (h : B) : if decide c = true then A else B := by
  rw [decide_eq_false hc]
  exact iteF h
abbrev NBl : List Str := ["thing", "taken", "name"]
theorem scBl : FnScope NBl ["thing", "taken"] (defScope pIsBlock) := ⟨rfl, rfl, rfl, by decide +kernel, rfl, by decide +kernel, by decide +kernel⟩
structure TxtB (mg : Str → Option Value) : Prop where
  len : mg "len" = none
  set : mg "set" = none
  all : mg "all" = none
  sorted : mg "sorted" = none
  tuple : mg "tuple" = none
  enum : mg "enumerate" = none
theorem strs_keys (K : PySem.W.Frag) {H : Hp} {a : Addr} {ss : List Str} (h : H a = some (.lst (ss.map V.str))) : KeysIn K H a (ss.map Sum.inr) := .inl (by rw [← map_str]; exact SqL.of h)
theorem nodup_inr {ss : List Str} (h : ss.Nodup) : (ss.map (Sum.inr : Str → Key)).Nodup := List.pairwise_map.mpr (h.imp fun ne e => ne (by injection e))
theorem len_of_mem {α : Type} [DecidableEq α] {l D : List α} (h1 : l.Nodup) (h2 : D.Nodup) (m : ∀ x, x ∈ D ↔ x ∈ l) : D.length = l.length := ((List.perm_ext_iff_of_nodup h2 h1).mpr m).length_eq
theorem ok_isBlock {f fA : Addr} {fd fdA : FuncData} (F : Fun K "is_block" "is_block" pIsBlock f fd) (GA : FnOk P w K mg base CX0 2 fA fdA ["thing"] spAreN) (gA : mg "are_names" = some (.ref fA)) (kA : PySem.W.keepIn K (.ref fA) = true) (bA : Binds K fdA ["thing"] []) (T : TxtB mg) : FnOk P w K mg base CX0 3 f fd ["thing", "taken"] spIsBlock := by
  refine F.ok scBl (fun vs H Q E h => ?_) (fun cdv A outer s H vs Q E hr h => ?_)
  · obtain ⟨a, d, ss, kvs, rfl, _⟩ := h
    rfl
  · obtain ⟨a, d, ss, kvs, rfl, ha, hd, nm, ne, nd, hl, no, k⟩ := h
    refine ⟨_, pss_cons (ps_if (pw_or (pt_not (pt_val (pe_call GA hr (by rfl) gA kA bA .nil pass0 (pa_cons (pv 0) pa_nil))))
        (pw_or (pt_cmpR op_eq (pe_callB call_len_seq (by rfl) T.len PySem.boot_len (pa_cons (pv 0) pa_nil)) pe_int (nomark _))
          (pw_or1 (pt_cmpR op_ne (pe_callB call_lenX (by rfl) T.len PySem.boot_len (pa_cons (pe_callTy (cr_setX rfl) (by rfl) T.set (by decide +kernel) (pa_cons (pv 0) pa_nil)) pa_nil)) (pe_callB call_len_seq (by rfl) T.len PySem.boot_len (pa_cons (pv 0) pa_nil)) (nomark _))))).pt pss_never pss_nil)
      (pss_one (ps_ret (pe_callB (cr_all rfl) (by rfl) T.all (by decide +kernel) (pa_cons (pe_lc (own := [("name", 2)]) (g := gName 2) (tt := tYes) rfl scBl.nd (pi_list (pv 0)) (blkOk_by (N := NBl) (sc := defScope pIsBlock) (by decide +kernel))
        (fun _ _ _ _ _ => pg_name (i := 2) scBl.nd rfl (Or.inl rfl)) (fun _ _ _ _ _ => pts_nil) (fun _ _ _ _ _ => pe_cmp (pc_dnotin (Nat.lt_of_le_of_lt (Nat.add_le_add_left (by decide) _) hr.units) (pv 2) (pv 1)))) pa_nil)))), ?_⟩
    have l0 : (ss.map V.str).length ≠ 0 := by
      rw [List.length_map]
      exact fun e => ne (List.eq_nil_of_length_eq_zero e)
    refine ⟨_, rfl, a, ss, rfl, ha, nm, hl, fun H1 s1 => ⟨_, rfl, iteF ?_⟩⟩
    refine ⟨_, rfl, a, _, rfl, .inl (SqL.of (s1 _ _ ha)), rfl, _, rfl, iteDF (fun e => l0 (by injection e with e; exact Int.ofNat.inj e)) ?_⟩
    refine ⟨_, rfl, a, _, rfl, strs_keys K (s1 _ _ ha), by rw [List.length_map]; omega, fun st D ns ndD mD => ⟨st, D, rfl, upd_same, _, rfl, a, _, rfl, .inl (SqL.of (same_new ns _ _ _ (s1 _ _ ha))), rfl, _, rfl, ?_⟩⟩
    have eL : D.length = (ss.map V.str).length := by
      rw [List.length_map, ← List.length_map (f := (Sum.inr : Str → Key)) (as := ss)]
      exact len_of_mem (nodup_inr nd) ndD mD
    refine iteNS (by rw [eL]) ?_
    have s2 : Same H (upd H1 st (KS w st D)) := s1.trans (same_new ns _)
    refine ⟨_, rfl, a, rfl, ⟨_, SqL.of (s2 _ _ ha)⟩, fun L nL => ?_⟩
    refine lc_list (xs := ss.map V.str) (fun i H9 => H9 L = some (.lst (List.replicate i (.bl true))) ∧ Same H H9) ⟨upd_same, s2.trans (same_new nL _)⟩ (fun i H9 _ h9 => SqL.of (h9.2 _ _ ha)) ?_ ?_
    · rintro i x H9 hx ⟨h9, s9⟩
      rw [List.getElem?_map] at hx
      obtain ⟨z, hz, rfl⟩ := Option.map_eq_some_iff.mp hx
      have li : i < ss.length := (List.getElem?_eq_some_iff.mp hz).1
      have nz : (valV kvs (.inr z)).isSome = false := no z (List.mem_of_getElem? hz)
      refine ⟨rfl, _, rfl, _, rfl, d, _, rfl, DGet.k (k := Sum.inr z) (s9 _ _ hd), ?_⟩
      rw [nz]
      refine ⟨_, h9, small1000 (by rw [List.length_replicate]; omega), by rw [upd_same, List.replicate_succ']; rfl, fun c o hc => ?_⟩
      rw [upd_ne (ne_of_none hc (s2.free nL))]
      exact s9 _ _ hc
    · rintro H9 ⟨h9, s9⟩
      refine ⟨L, List.replicate ss.length true, rfl, SqL.of (by rw [h9, List.map_replicate, List.length_map]), ?_⟩
      rw [all_true]
      exact k _ s9
end
end K1
set_option linter.all false
set_option maxRecDepth 100000
set_option maxHeartbeats 1000000
namespace K1
open PySem L2
def lexS : List Str → List Str → Bool := lexL ltS
theorem tot_lexS : Tot lexS := tot_lex tot_ltS
/-- the rows of a meeting: its blocks ascending, and in their order -/
def rowsOf (B : List (List Str)) : List (List Str) := asc lexS (B.map (asc ltS))
/-- blocks that make a meeting -/
structure GoodB (B : List (List Str)) : Prop where
  nm : ∀ b ∈ B, ∀ z ∈ b, nameOk z = true
  ne : ∀ b ∈ B, b ≠ []
  nd : ∀ b ∈ B, b.Nodup
  dis : B.Pairwise fun b c => ∀ z ∈ b, z ∉ c
  few : B.length ≤ 20
  low : ∀ b ∈ B, b.length ≤ 20
  tot : B.flatten.length ≤ 60
theorem rowT_len (M : TL) : (rowT M).length = M.length := List.length_map _
theorem refT_len (M : TL) : (refT M).length = M.length := List.length_map _
theorem rowT_app (M N : TL) : rowT (M ++ N) = rowT M ++ rowT N := List.map_append ..
theorem refT_app (M N : TL) : refT (M ++ N) = refT M ++ refT N := List.map_append ..
theorem hasKey_put (kvs : List (Key × V)) (z x : Str) (v : V) : hasKey (putK kvs (.inr z) v) x = (decide (x = z) || hasKey kvs x) := by
  unfold hasKey
  rw [valV_put]
  by_cases e : x = z
  · subst e
    simp
  · rw [if_neg (fun q : (Sum.inr x : Key) = Sum.inr z => e (by injection q)), decide_eq_false e, Bool.false_or]
def spAscB : Sp := fun vs H Q _ => ∃ (a : Addr) (B : TL), vs = [.ref a] ∧ H a = some (.lst (refT B)) ∧ LiT H B ∧ GoodB (rowT B) ∧
  ∀ (t : Addr) (M : TL) (H' : Hp), Same H H' → H t = none → H' t = some (.tup (refT M)) → TuT H' M → rowT M = rowsOf (rowT B) → Q (.ref t) H'
section
variable {P : Program} {w : World} {K : PySem.W.Frag} {mg : Str → Option Value} {base : Heap}
abbrev NAb : List Str := ["things", "blocks", "taken", "index", "thing", "name"]
theorem scAb : FnScope NAb ["things"] (defScope pAscendingBlocks) := ⟨rfl, rfl, rfl, by decide +kernel, rfl, by decide +kernel, by decide +kernel⟩
/-- between two turns of the loop over the blocks -/
structure AbW (H : Hp) (a Lb Td : Addr) (B : TL) (i : Nat) (σ : L2.St) (H9 : Hp) : Prop where
  ex : ∃ (M : TL) (kvs : List (Key × V)) (x3 x4 x5 : Option V), σ = [some (.ref a), some (.ref Lb), some (.ref Td), x3, x4, x5] ∧ H9 Lb = some (.lst (refT M)) ∧ TuT H9 M ∧ rowT M = ((rowT B).take i).map (asc ltS) ∧
    H9 Td = some (.dK kvs) ∧ kvs.length ≤ 20 * i ∧ ∀ x, hasKey kvs x = true ↔ ∃ b ∈ (rowT B).take i, x ∈ b
  old : Same H H9
theorem ok_ascB {f fL fB : Addr} {fd fdL fdB : FuncData} (F : Fun K "ascending_blocks" "ascending_blocks" pAscendingBlocks f fd) (GL : FnOk P w K mg base CX0 1 fL fdL ["thing"] (spIsList K)) (gL : mg "is_list" = some (.ref fL)) (kL : PySem.W.keepIn K (.ref fL) = true) (bL : Binds K fdL ["thing"] [])
    (GB : FnOk P w K mg base CX0 3 fB fdB ["thing", "taken"] spIsBlock) (gB : mg "is_block" = some (.ref fB)) (kB : PySem.W.keepIn K (.ref fB) = true) (bB : Binds K fdB ["thing", "taken"] []) (T : TxtB mg) : FnOk P w K mg base CX0 4 f fd ["things"] spAscB := by
  refine F.ok scAb (fun vs H Q E h => ?_) (fun cdv A outer s H vs Q E hr h => ?_)
  · obtain ⟨a, B, rfl, _⟩ := h
    rfl
  · obtain ⟨a, B, rfl, ha, hB, good, k⟩ := h
    have hu := hu_of hr
    refine ⟨_, pss_cons (ps_if (pt_not (pt_val (pe_call GL (hr.mono (by decide)) (by rfl) gL kL bL .nil pass0 (pa_cons (pv 0) pa_nil)))) pss_never pss_nil)
      (pss_cons (ps_set (i := 1) scAb.nd rfl (.inl rfl) (pe_lst pa_nil))
      (pss_cons (ps_set (i := 2) scAb.nd rfl (.inl rfl) pe_dnewK)
      (pss_cons (ps_for PassesOwn.never rfl (pi_enum (by rfl) T.enum (pa_cons (pv 0) pa_nil)) (pg_tup rfl (pgs_cons (pg_name (i := 3) scAb.nd rfl (Or.inl rfl)) (pgs_cons (pg_name (i := 4) scAb.nd rfl (Or.inl rfl)) pgs_nil)))
        (pss_cons (ps_if (pt_not (pt_val (pe_call GB hr (by rfl) gB kB bB .nil pass0 (pa_cons (pv 4) (pa_cons (pv 2) pa_nil))))) pss_never pss_nil)
        (pss_cons (ps_for PassesOwn.never rfl (pi_list (pv 4)) (pg_name (i := 5) scAb.nd rfl (Or.inl rfl)) (pss_one (ps_dput hu (pv 2) (pv 5) pe_bl rfl)))
        (pss_one (ps_expr (pe_bm PySem.F.plainAttrs_list PySem.F.slot_list_append PySem.F.type_list_append mt_append (pv 1)
          (pa_cons (pe_callTy call_tuple_of (by rfl) T.tuple (by decide +kernel) (pa_cons (pe_callB (cr_sortedX rfl) (by rfl) T.sorted (by decide +kernel) (pa_cons (pe_callTy (cr_setX rfl) (by rfl) T.set (by decide +kernel) (pa_cons (pv 4) pa_nil)) pa_nil)) pa_nil)) pa_nil)))))))
      (pss_one (ps_ret (pe_callTy call_tuple_of (by rfl) T.tuple (by decide +kernel) (pa_cons (pe_callB (cr_sortedTT rfl) (by rfl) T.sorted (by decide +kernel) (pa_cons (pe_callTy (cr_setTT rfl (Nat.lt_of_le_of_lt (Nat.add_le_add_left (by decide) _) hr.units)) (by rfl) T.set (by decide +kernel) (pa_cons (pv 1) pa_nil)) pa_nil)) pa_nil))))))), ?_⟩
    refine ⟨_, rfl, _, _, true, rfl, .base (.lst ha), kitAny_cons (kit_ty (r := true) (by decide +kernel)) (fun e => nomatch e) (fun _ => rfl), fun H1 s1 => ⟨_, rfl, iteF ?_⟩⟩
    refine ⟨sz (Nat.le_of_ble_eq_true rfl), fun Lb nLb => fun Td nTd => ?_⟩
    have s2 := s1.trans (same_new nLb (.lst []))
    have s3 := s2.trans (same_new nTd (.dK []))
    have n1 : H Lb = none := s1.free nLb
    have n2 : H Td = none := s2.free nTd
    have neq : Lb ≠ Td := ne_of_none upd_same nTd
    refine ⟨_, rfl, a, refT B, rfl, SqL.of (s3 _ _ ha), ?_⟩
    refine for_it walk_enum (AbW H a Lb Td B) ⟨⟨[], [], none, none, none, rfl, by rw [upd_ne neq]; exact upd_same, (fun p hp => nomatch hp), rfl, upd_same, Nat.le_refl _, fun x => by simp [hasKey, valV]⟩, s3⟩ (fun i σ H9 _ p => SqL.of (p.old _ _ ha)) ?_ ?_
    · rintro i x σ H9 H10 hi ⟨⟨M, kvs, x3, x4, x5, rfl, hLb, hM, eM, hTd, lk, mk⟩, s9⟩ ⟨T0, u, v, rfl, nT0, rfl, eu, ev⟩
      rw [refT_len] at hi
      have hp : B[i]? = some B[i] := List.getElem?_eq_getElem hi
      generalize B[i] = p at hp
      have pm := List.mem_of_getElem? hp
      have rp : (rowT B)[i]? = some p.2 := by rw [rowT, List.getElem?_map, hp]; rfl
      have pr : p.2 ∈ rowT B := List.mem_of_getElem? rp
      obtain rfl : v = .ref p.1 := by
        have ev2 : (refT B)[i]? = some v := ev
        rw [refT, List.getElem?_map, hp] at ev2
        exact (Option.some.inj ev2).symm
      cases eu
      have s10 : Same H9 (upd H9 T0 (.tup [.int (i : Nat), .ref p.1])) := same_new nT0 _
      generalize hH10 : upd H9 T0 (.tup [.int (i : Nat), .ref p.1]) = H10 at s10
      have e10 : H10 T0 = some (.tup [.int (i : Nat), .ref p.1]) := by rw [← hH10]; exact upd_same
      have hpp : H p.1 = some (.lst (p.2.map V.str)) := hB p pm
      refine ⟨T0, [.int (i : Nat), .ref p.1], rfl, SqT.of e10, rfl, _, [.ref p.1], rfl, .ref p.1, [], rfl, rfl, ?_⟩
      -- if not is_block(thing, taken)
      refine ⟨_, rfl, _, rfl, p.1, Td, p.2, kvs, rfl, s10 _ _ (s9 _ _ hpp), s10 _ _ hTd, good.nm _ pr, good.ne _ pr, good.nd _ pr, Nat.le_trans (good.low _ pr) (by decide), fun z hz => ?_, fun H11 s11 => ⟨_, rfl, iteF ?_⟩⟩
      · cases c : hasKey kvs z with
        | false => rfl
        | true =>
          obtain ⟨b, hb, hzb⟩ := (mk z).mp c
          obtain ⟨j, hj, ej⟩ := List.getElem_of_mem hb
          rw [List.length_take] at hj
          have hj2 : j < i := by omega
          rw [List.getElem_take] at ej
          have q := List.pairwise_iff_getElem.mp good.dis j i (by omega) (by rw [rowT_len]; exact hi) hj2
          have ei : (rowT B)[i]'(by rw [rowT_len]; exact hi) = p.2 := by
            have := List.getElem?_eq_getElem (l := rowT B) (i := i) (by rw [rowT_len]; exact hi)
            rw [rp] at this
            exact (Option.some.inj this).symm
          rw [ei, ej] at q
          exact absurd hz (q z hzb)
      · have t1 : Same H9 H11 := s10.trans s11
        -- for name in thing
        refine ⟨_, rfl, p.1, rfl, ⟨_, SqL.of (t1 _ _ (s9 _ _ hpp))⟩, ?_⟩
        refine for_list (xs := p.2.map V.str) (fun j σ H12 => ∃ kv2 y5, σ = [some (.ref a), some (.ref Lb), some (.ref Td), some (.int (i : Nat)), some (.ref p.1), y5] ∧ H12 Td = some (.dK kv2) ∧ kv2.length ≤ 20 * i + j ∧ (∀ x, hasKey kv2 x = true ↔ (hasKey kvs x = true ∨ x ∈ p.2.take j)) ∧ ∀ b o, b ≠ Td → H11 b = some o → H12 b = some o)
          ⟨kvs, _, rfl, t1 _ _ hTd, by omega, fun x => by simp, fun _ _ _ h => h⟩ (fun j σ H12 _ q => ?_) ?_ ?_
        · obtain ⟨kv2, y5, _, _, _, _, fr⟩ := q
          exact SqL.of (fr p.1 _ (fun e => by rw [← e, hpp] at n2; cases n2) (t1 _ _ (s9 _ _ hpp)))
        · rintro j x σ H12 hx ⟨kv2, y5, rfl, h12, l12, m12, fr⟩
          rw [List.getElem?_map] at hx
          obtain ⟨z, hz, rfl⟩ := Option.map_eq_some_iff.mp hx
          have lj : j < p.2.length := (List.getElem?_eq_some_iff.mp hz).1
          have lo := good.low _ pr
          have fw := good.few
          rw [rowT_len] at fw
          refine ⟨_, rfl, _, rfl, Td, _, rfl, DPut.k (k := Sum.inr z) h12 (small1000 (by omega)), ?_⟩
          refine ⟨putK kv2 (.inr z) (.bl true), _, rfl, upd_same, Nat.le_trans (length_putK _ _ _) (by omega), fun x => ?_, fun b o nb hb => by rw [upd_ne nb]; exact fr b o nb hb⟩
          rw [hasKey_put, Bool.or_eq_true, decide_eq_true_eq, m12 x, List.take_add_one, hz, List.mem_append]
          simp only [Option.toList_some, List.mem_singleton]
          constructor
          · rintro (e | e | e)
            · exact .inr (.inr e)
            · exact .inl e
            · exact .inr (.inl e)
          · rintro (e | e | e)
            · exact .inr (.inl e)
            · exact .inr (.inr e)
            · exact .inl e
        · rintro σ H12 ⟨kv2, y5, rfl, h12, l12, m12, fr⟩
          rw [List.length_map] at l12 m12
          rw [List.take_length] at m12
          have lo := good.low _ pr
          have fL : H12 Lb = some (.lst (refT M)) := fr Lb _ neq (t1 _ _ hLb)
          have fp : H12 p.1 = some (.lst (p.2.map V.str)) := fr p.1 _ (fun e => by rw [← e, hpp] at n2; cases n2) (t1 _ _ (s9 _ _ hpp))
          have sH : Same H H12 := fun b o hb => fr b o (fun e => by rw [e, n2] at hb; cases hb) (t1 _ _ (s9 _ _ hb))
          have fM : TuT H12 M := fun q hq => fr q.1 _ (fun e => by
            have z := hM q hq
            rw [e, hTd] at z
            cases z) (t1 _ _ (hM q hq))
          refine ⟨_, rfl, .inl ⟨rfl, _, SqL.of fL⟩, _, rfl, p.1, _, rfl, strs_keys K fp, by rw [List.length_map]; omega, fun st D nst ndD mD => ?_⟩
          -- the set's texts
          obtain ⟨ss, eD, nss, mss⟩ : ∃ ss : List Str, D = ss.map Sum.inr ∧ ss.Nodup ∧ ∀ z, z ∈ ss ↔ z ∈ p.2 := by
            refine ⟨D.map txK, ?_, ?_, fun z => ?_⟩
            · rw [List.map_map]
              refine (List.map_id D).symm.trans (List.map_congr_left fun k hk => ?_)
              obtain ⟨z, _, e⟩ := List.mem_map.mp ((mD k).mp hk)
              rw [← e]
              rfl
            · refine List.pairwise_map.mpr (List.Pairwise.imp_of_mem (fun {k j} hk hj ne e => ne ?_) ndD)
              obtain ⟨z, _, e1⟩ := List.mem_map.mp ((mD k).mp hk)
              obtain ⟨y, _, e2⟩ := List.mem_map.mp ((mD j).mp hj)
              rw [← e1, ← e2] at e ⊢
              exact congrArg Sum.inr e
            · rw [List.mem_map]
              constructor
              · rintro ⟨k, hk, rfl⟩
                obtain ⟨y, hy, e⟩ := List.mem_map.mp ((mD k).mp hk)
                rw [← e]
                exact hy
              · exact fun h => ⟨.inr z, (mD _).mpr (List.mem_map.mpr ⟨z, h, rfl⟩), rfl⟩
          have lss : ss.length = p.2.length := len_of_mem (good.nd _ pr) nss mss
          have eA : asc ltS ss = asc ltS p.2 := asc_mem tot_ltS mss
          have s13 : Same H12 (upd H12 st (KS w st D)) := same_new nst _
          refine ⟨st, D, ss, rfl, upd_same, eD, by omega, fun q nq => ?_⟩
          have s14 := s13.trans (same_new nq (.lst ((asc ltS ss).map V.str)))
          refine ⟨q, _, rfl, .inl ⟨SqL.of upd_same, fun r nr => ?_⟩⟩
          rw [eA] at nr s14 ⊢
          have s15 := s14.trans (same_new nr (.tup ((asc ltS p.2).map V.str)))
          have fw := good.few
          rw [rowT_len] at fw
          have lM : M.length = i := by
            have z := congrArg List.length eM
            rw [rowT_len, List.length_map, List.length_take, rowT_len] at z
            omega
          refine ⟨Lb, _, _, rfl, rfl, s15 _ _ fL, small1000 (by rw [refT_len]; omega), ?_⟩
          have nLr : Lb ≠ r := ne_of_none (s14 _ _ fL) nr
          refine ⟨⟨M ++ [(r, asc ltS p.2)], kv2, some (.int (i : Nat)), some (.ref p.1), y5, rfl, ?_, ?_, ?_, ?_, ?_, fun x => ?_⟩, fun b o hb => ?_⟩
          · rw [upd_same, refT_app]
            rfl
          · intro z hz
            have nz : ∀ {z : Addr × List Str}, z ∈ M → z.1 ≠ Lb := fun {z} hz e => by
              have y := fM z hz
              rw [e, fL] at y
              cases y
            rcases List.mem_append.mp hz with h | h
            · rw [upd_ne (nz h)]
              exact s15 _ _ (fM z h)
            · rw [List.mem_singleton.mp h, upd_ne nLr.symm]
              exact upd_same
          · rw [rowT_app, eM, List.take_add_one, rp, List.map_append]
            rfl
          · rw [upd_ne neq.symm]
            exact s15 _ _ h12
          · omega
          · rw [m12 x, mk x, List.take_add_one, rp]
            simp only [Option.toList_some, List.mem_append, List.mem_singleton]
            constructor
            · rintro (⟨b, hb, hx⟩ | h)
              · exact ⟨b, .inl hb, hx⟩
              · exact ⟨_, .inr rfl, h⟩
            · rintro ⟨b, hb | rfl, hx⟩
              · exact .inl ⟨b, hb, hx⟩
              · exact .inr hx
          · rw [upd_ne (ne_of_none hb n1)]
            exact s15 _ _ (sH _ _ hb)
    · rintro σ H9 ⟨⟨M, kvs, x3, x4, x5, rfl, hLb, hM, eM, hTd, lk, mk⟩, s9⟩
      rw [refT_len] at eM
      have fw := good.few
      rw [List.take_of_length_le (by rw [rowT_len]; exact Nat.le_refl _)] at eM
      have lM : M.length ≤ 20 := by
        have z := congrArg List.length eM
        rw [rowT_len, List.length_map] at z
        omega
      refine ⟨_, rfl, Lb, M, rfl, .inl (SqL.of hLb), hM.at, by omega, fun st N nst sub cov ndN => ?_⟩
      have s10 : Same H9 (upd H9 st (TO P w st N)) := same_new nst _
      have hN : TuT H9 N := fun p hp => hM p (sub p hp)
      have ne0 : ∀ p ∈ N, p.2 ≠ [] := fun p hp e => by
        have m : p.2 ∈ rowT M := List.mem_map.mpr ⟨p, sub p hp, rfl⟩
        rw [eM] at m
        obtain ⟨b, hb, eb⟩ := List.mem_map.mp m
        rw [e] at eb
        have lb := asc_len tot_ltS (good.nd b hb)
        rw [eb] at lb
        exact good.ne b hb (List.eq_nil_of_length_eq_zero lb.symm)
      refine ⟨st, N, rfl, upd_same, (hN.mono s10).at, ne0, fun O q nq pO aO => ?_⟩
      have s11 := s10.trans (same_new nq (.lst (refT O)))
      refine ⟨q, _, rfl, .inl ⟨SqL.of upd_same, fun r nr => ?_⟩⟩
      have s12 := s11.trans (same_new nr (.tup (refT O)))
      refine k r O _ (s9.trans s12) ((s9.trans s11).free nr) upd_same (TuT.mono (fun p hp => hN p (pO.mem_iff.mp hp)) s12) ?_
      unfold rowsOf
      refine asc_of tot_lexS aO fun b => ?_
      have pr : (rowT O).Perm (rowT N) := by unfold rowT; exact pO.map _
      rw [pr.mem_iff, ← eM]
      constructor
      · intro h
        obtain ⟨p, hp, rfl⟩ := List.mem_map.mp h
        exact List.mem_map.mpr ⟨p, sub p hp, rfl⟩
      · intro h
        obtain ⟨p, hp, rfl⟩ := List.mem_map.mp h
        exact cov p hp
end
end K1
set_option linter.all false
set_option maxRecDepth 100000
set_option maxHeartbeats 1000000
namespace K1
open PySem L2
/-! ### the mathematics of a meeting -/
/-- the number of the block in which a name stands -/
def numOf (R : List (List Str)) (x : Str) : Option Nat := R.findIdx? fun b => decide (x ∈ b)
def namesOf (R : List (List Str)) : List Str := asc ltS R.flatten
def codeOf (R : List (List Str)) : List Int := (namesOf R).map fun x => (((numOf R x).getD 0 : Nat) : Int)
structure GoodR (R : List (List Str)) : Prop where
  good : GoodB R
  up : ∀ b ∈ R, Asc1 ltS b
  upR : Asc1 lexS R
theorem numOf_snoc (R : List (List Str)) (b : List Str) (x : Str) : numOf (R ++ [b]) x = match numOf R x with
    | some k => some k
    | none => if x ∈ b then some R.length else none := by
  unfold numOf
  rw [List.findIdx?_append]
  cases R.findIdx? (fun b => decide (x ∈ b)) with
  | some k => rfl
  | none =>
    by_cases e : x ∈ b
    · simp [e]
    · simp [e]
theorem numOf_some {R : List (List Str)} {x : Str} {k : Nat} (h : numOf R x = some k) : ∃ b, R[k]? = some b ∧ x ∈ b := by
  obtain ⟨hk, hx, _⟩ := List.findIdx?_eq_some_iff_getElem.mp h
  exact ⟨R[k], List.getElem?_eq_getElem hk, of_decide_eq_true hx⟩
theorem numOf_none {R : List (List Str)} {x : Str} (h : numOf R x = none) : ∀ b ∈ R, x ∉ b := fun b hb hx => by
  have z := List.findIdx?_eq_none_iff.mp h b hb
  rw [decide_eq_true hx] at z
  cases z
theorem numOf_mem {R : List (List Str)} {x : Str} : (numOf R x).isSome = true ↔ x ∈ R.flatten := by
  rw [List.mem_flatten]
  constructor
  · intro h
    obtain ⟨k, hk⟩ := Option.isSome_iff_exists.mp h
    obtain ⟨b, hb, hx⟩ := numOf_some hk
    exact ⟨b, List.mem_of_getElem? hb, hx⟩
  · rintro ⟨b, hb, hx⟩
    cases h : numOf R x with
    | some k => rfl
    | none => exact absurd hx (numOf_none h b hb)
theorem dis_at {B : List (List Str)} (d : B.Pairwise fun b c => ∀ z ∈ b, z ∉ c) {i j : Nat} {b c : List Str} (hb : B[i]? = some b) (hc : B[j]? = some c) {z : Str} (h1 : z ∈ b) (h2 : z ∈ c) : i = j := by
  have li := (List.getElem?_eq_some_iff.mp hb).1
  have lj := (List.getElem?_eq_some_iff.mp hc).1
  have eb : B[i] = b := Option.some.inj ((List.getElem?_eq_getElem li).symm.trans hb)
  have ec : B[j] = c := Option.some.inj ((List.getElem?_eq_getElem lj).symm.trans hc)
  have q := List.pairwise_iff_getElem.mp d
  rcases Nat.lt_trichotomy i j with h | h | h
  · have w := q i j li lj h
    rw [eb, ec] at w
    exact absurd h2 (w z h1)
  · exact h
  · have w := q j i lj li h
    rw [eb, ec] at w
    exact absurd h1 (w z h2)
theorem numOf_at {R : List (List Str)} (d : R.Pairwise fun b c => ∀ z ∈ b, z ∉ c) {k : Nat} {b : List Str} {x : Str} (hb : R[k]? = some b) (hx : x ∈ b) : numOf R x = some k := by
  have m : (numOf R x).isSome = true := numOf_mem.mpr (List.mem_flatten.mpr ⟨b, List.mem_of_getElem? hb, hx⟩)
  obtain ⟨j, hj⟩ := Option.isSome_iff_exists.mp m
  obtain ⟨c, hc, hxc⟩ := numOf_some hj
  rw [hj, dis_at d hc hb hxc hx]
/-- two names stand in one block -/
def oneB (B : List (List Str)) (x y : Str) : Prop := ∃ b ∈ B, x ∈ b ∧ y ∈ b
theorem num_one {R : List (List Str)} (d : R.Pairwise fun b c => ∀ z ∈ b, z ∉ c) {x y : Str} (hx : x ∈ R.flatten) : numOf R x = numOf R y ↔ oneB R x y := by
  constructor
  · intro e
    obtain ⟨k, hk⟩ := Option.isSome_iff_exists.mp (numOf_mem.mpr hx)
    obtain ⟨b, hb, h1⟩ := numOf_some hk
    rw [hk] at e
    obtain ⟨c, hc, h2⟩ := numOf_some e.symm
    rw [hb] at hc
    cases hc
    exact ⟨b, List.mem_of_getElem? hb, h1, h2⟩
  · rintro ⟨b, hb, h1, h2⟩
    obtain ⟨k, hk, ek⟩ := List.getElem_of_mem hb
    have hb' : R[k]? = some b := by rw [List.getElem?_eq_getElem hk, ek]
    rw [numOf_at d hb' h1, numOf_at d hb' h2]
theorem mem_ascS {x : Str} {b : List Str} : x ∈ asc ltS b ↔ x ∈ b := mem_asc tot_ltS
theorem asc_dis {B : List (List Str)} (d : B.Pairwise fun b c => ∀ z ∈ b, z ∉ c) : (B.map (asc ltS)).Pairwise fun b c => ∀ z ∈ b, z ∉ c :=
  List.pairwise_map.mpr (d.imp fun h z hz hc => h z (mem_ascS.mp hz) (mem_ascS.mp hc))
theorem dis_nodup {B : List (List Str)} (d : B.Pairwise fun b c => ∀ z ∈ b, z ∉ c) (ne : ∀ b ∈ B, b ≠ []) : B.Nodup := by
  refine List.Pairwise.imp_of_mem (fun {b c} hb hc h e => ?_) d
  subst e
  cases b with
  | nil => exact ne _ hb rfl
  | cons x r => exact h x (.head _) (.head _)
theorem flat_len_perm {B C : List (List Str)} (p : B.Perm C) : B.flatten.length = C.flatten.length := (List.Perm.flatten p).length_eq
theorem asc_ne {B : List (List Str)} (nd : ∀ b ∈ B, b.Nodup) (ne : ∀ b ∈ B, b ≠ []) : ∀ b ∈ B.map (asc ltS), b ≠ [] := fun b hb e => by
  obtain ⟨c, hc, rfl⟩ := List.mem_map.mp hb
  have l := asc_len tot_ltS (nd c hc)
  rw [e] at l
  exact ne c hc (List.eq_nil_of_length_eq_zero l.symm)
theorem flat_asc : ∀ {B : List (List Str)}, (∀ b ∈ B, b.Nodup) → (B.map (asc ltS)).flatten.length = B.flatten.length
  | [], _ => rfl
  | b :: B, nd => by
    rw [List.map_cons, List.flatten_cons, List.flatten_cons, List.length_append, List.length_append, flat_asc fun c hc => nd c (.tail _ hc), asc_len tot_ltS (nd b (.head _))]
theorem rows_perm {B : List (List Str)} (g : GoodB B) : (rowsOf B).Perm (B.map (asc ltS)) := asc_perm tot_lexS (dis_nodup (asc_dis g.dis) (asc_ne g.nd g.ne))
theorem good_rows {B : List (List Str)} (g : GoodB B) : GoodR (rowsOf B) := by
  have p := rows_perm g
  have mem : ∀ b ∈ rowsOf B, ∃ c ∈ B, asc ltS c = b := fun b hb => List.mem_map.mp (p.mem_iff.mp hb)
  refine ⟨⟨fun b hb z hz => ?_, fun b hb => asc_ne g.nd g.ne b (p.mem_iff.mp hb), fun b hb => ?_, ?_, ?_, fun b hb => ?_, ?_⟩, fun b hb => ?_, asc_asc tot_lexS _⟩
  · obtain ⟨c, hc, rfl⟩ := mem b hb
    exact g.nm c hc z (mem_ascS.mp hz)
  · obtain ⟨c, hc, rfl⟩ := mem b hb
    exact asc_nodup tot_ltS (asc_asc tot_ltS c)
  · exact (List.Perm.pairwise_iff (fun {b c} h z hz hc => h z hc hz) p).mpr (asc_dis g.dis)
  · rw [p.length_eq, List.length_map]
    exact g.few
  · obtain ⟨c, hc, rfl⟩ := mem b hb
    rw [asc_len tot_ltS (g.nd c hc)]
    exact g.low c hc
  · rw [flat_len_perm p, flat_asc g.nd]
    exact g.tot
  · obtain ⟨c, hc, rfl⟩ := mem b hb
    exact asc_asc tot_ltS c
theorem one_rows {B : List (List Str)} (g : GoodB B) {x y : Str} : oneB (rowsOf B) x y ↔ oneB B x y := by
  have p := rows_perm g
  constructor
  · rintro ⟨b, hb, h1, h2⟩
    obtain ⟨c, hc, rfl⟩ := List.mem_map.mp (p.mem_iff.mp hb)
    exact ⟨c, hc, mem_ascS.mp h1, mem_ascS.mp h2⟩
  · rintro ⟨c, hc, h1, h2⟩
    exact ⟨asc ltS c, p.mem_iff.mpr (List.mem_map.mpr ⟨c, hc, rfl⟩), mem_ascS.mpr h1, mem_ascS.mpr h2⟩
theorem mem_rows {B : List (List Str)} (g : GoodB B) {x : Str} : x ∈ (rowsOf B).flatten ↔ x ∈ B.flatten := by
  have z := one_rows g (x := x) (y := x)
  rw [List.mem_flatten, List.mem_flatten]
  constructor
  · rintro ⟨b, hb, hx⟩
    obtain ⟨c, hc, h, _⟩ := z.mp ⟨b, hb, hx, hx⟩
    exact ⟨c, hc, h⟩
  · rintro ⟨b, hb, hx⟩
    obtain ⟨c, hc, h, _⟩ := z.mpr ⟨b, hb, hx, hx⟩
    exact ⟨c, hc, h⟩
/-! ### the object -/
structure MeetO (C : Addr) (H : Hp) (a : Addr) (R : List (List Str)) (dx t d n c : Addr) (M : TL) (kvs : List (Key × V)) : Prop where
  ob : H a = some (.ins C dx [("blocks", .ref t), ("_numbers", .ref d), ("names", .ref n), ("code", .ref c)])
  bl : H t = some (.tup (refT M))
  tu : TuT H M
  row : rowT M = R
  nu : H d = some (.dK kvs)
  num : ∀ x, valV kvs (.inr x) = (numOf R x).map fun k => V.int (k : Nat)
  na : H n = some (.tup ((namesOf R).map V.str))
  co : H c = some (.tup ((codeOf R).map V.int))
  good : GoodR R
/-- the Meeting with these rows stands at a -/
def MeetAt (C : Addr) (H : Hp) (a : Addr) (R : List (List Str)) : Prop := ∃ dx t d n c M kvs, MeetO C H a R dx t d n c M kvs
theorem MeetAt.mono {C : Addr} {H H' : Hp} {a : Addr} {R : List (List Str)} (h : MeetAt C H a R) (s : Same H H') : MeetAt C H' a R := by
  obtain ⟨dx, t, d, n, c, M, kvs, o⟩ := h
  exact ⟨dx, t, d, n, c, M, kvs, s _ _ o.ob, s _ _ o.bl, o.tu.mono s, o.row, s _ _ o.nu, o.num, s _ _ o.na, s _ _ o.co, o.good⟩
theorem MeetAt.ins {C : Addr} {H : Hp} {a : Addr} {R : List (List Str)} (h : MeetAt C H a R) : Ins H a C := by
  obtain ⟨dx, t, d, n, c, M, kvs, o⟩ := h
  exact ⟨dx, _, o.ob⟩
theorem MeetAt.good {C : Addr} {H : Hp} {a : Addr} {R : List (List Str)} (h : MeetAt C H a R) : GoodR R := by
  obtain ⟨dx, t, d, n, c, M, kvs, o⟩ := h
  exact o.good
/-- what the class Meeting is -/
structure MeetC (K : PySem.W.Frag) (mg : Str → Option Value) (C : Addr) : Prop where
  glob : mg "Meeting" = some (.ref C)
  cls : Cls K C
  nb : NoAttr K C "blocks"
  nu : NoAttr K C "_numbers"
  nn : NoAttr K C "names"
  nc : NoAttr K C "code"
  isC : C8.InsC K C
  sf : PySem.W.selfFirst K C = true
  nf : PySem.W.notFirst K C (.ref C) = true
def spMInit (C : Addr) : Sp := fun vs H Q _ => ∃ (x a dx : Addr) (B : TL), vs = [.ref x, .ref a] ∧ H x = some (.ins C dx []) ∧ H a = some (.lst (refT B)) ∧ LiT H B ∧ GoodB (rowT B) ∧
  ∀ (H' : Hp), (∀ b o, b ≠ x → H b = some o → H' b = some o) → MeetAt C H' x (rowsOf (rowT B)) → Q .non H'
theorem key_mem {kvs : List (Key × V)} {k : Key} : k ∈ kvs.map (·.1) ↔ (valV kvs k).isSome = true := by
  rw [← valV_any, List.any_eq_true, List.mem_map]
  constructor
  · rintro ⟨p, hp, rfl⟩
    exact ⟨p, hp, by simp⟩
  · rintro ⟨p, hp, e⟩
    exact ⟨p, hp, of_decide_eq_true e⟩
end K1
set_option linter.all false
set_option maxRecDepth 100000
set_option maxHeartbeats 1000000
namespace K1
open PySem L2
theorem nodup_leK {α : Type} [DecidableEq α] : ∀ {l D : List α}, l.Nodup → (∀ x ∈ l, x ∈ D) → l.length ≤ D.length
  | [], _, _, _ => Nat.zero_le _
  | x :: r, D, nd, h => by
    obtain ⟨n1, n2⟩ := List.nodup_cons.mp nd
    have mx := h x (.head _)
    have q := nodup_leK (l := r) (D := D.erase x) n2 fun y hy => (List.mem_erase_of_ne fun e => n1 (by rw [← e]; exact hy)).mpr (h y (.tail _ hy))
    rw [List.length_erase_of_mem mx] at q
    have p := List.length_pos_of_mem mx
    rw [List.length_cons]
    omega
structure TxtM (mg : Str → Option Value) : Prop where
  set : mg "set" = none
  sorted : mg "sorted" = none
  tuple : mg "tuple" = none
  enum : mg "enumerate" = none
section
variable {P : Program} {w : World} {K : PySem.W.Frag} {mg : Str → Option Value} {base : Heap} {C : Addr}
abbrev NMi : List Str := ["self", "blocks", "number", "block", "name"]
theorem scMi : FnScope NMi ["self", "blocks"] (defScope cMeetingInit) := ⟨rfl, rfl, rfl, by decide +kernel, rfl, by decide +kernel, by decide +kernel⟩
theorem ok_minit {f fA : Addr} {fd fdA : FuncData} (F : Fun K "__init__" "Meeting.__init__" cMeetingInit f fd) (c : MeetC K mg C) (GA : FnOk P w K mg base CX0 4 fA fdA ["things"] spAscB) (gA : mg "ascending_blocks" = some (.ref fA)) (kA : PySem.W.keepIn K (.ref fA) = true) (bA : Binds K fdA ["things"] []) (T : TxtM mg) :
    FnOk P w K mg base CX0 5 f fd ["self", "blocks"] (spMInit C) := by
  refine F.ok scMi (fun vs H Q E h => ?_) (fun cdv A outer s H vs Q E hr h => ?_)
  · obtain ⟨x, a, dx, B, rfl, _⟩ := h
    rfl
  · obtain ⟨x, a, dx, B, rfl, hx, ha, hB, good, k⟩ := h
    have hu := hu_of hr
    refine ⟨_, pss_cons (ps_fld (pv 0) (pe_call GA hr (by rfl) gA kA bA .nil pass0 (pa_cons (pv 1) pa_nil)) rfl)
      (pss_cons (ps_fld (pv 0) (pe_dc2 (own := [("number", 2), ("block", 3), ("name", 4)]) (vs1 := [4]) (g := gTup K 2 (gCons (gName 2) (gCons (gName 3) gNil))) (g1 := gName 4) (wi1 := iTup K (tVar 3)) rfl scMi.nd (pi_enumT (by rfl) T.enum (pa_cons (pe_fld (pv 0) rfl) pa_nil)) (blkOk_by (N := NMi) (sc := defScope cMeetingInit) (by decide +kernel)) (by decide)
          (fun _ _ _ _ _ => pg_tup rfl (pgs_cons (pg_name (i := 2) scMi.nd rfl (Or.inl rfl)) (pgs_cons (pg_name (i := 3) scMi.nd rfl (Or.inl rfl)) pgs_nil)))
          (fun _ _ _ _ _ => pi_tup (pv 3)) (fun _ _ _ _ _ => pg_name (i := 4) scMi.nd rfl (Or.inl rfl)) (fun _ _ _ _ _ => pv 4) (fun _ _ _ _ _ => pv 2)) rfl)
      (pss_cons (ps_fld (pv 0) (pe_callTy call_tuple_of (by rfl) T.tuple (by decide +kernel) (pa_cons (pe_callB (cr_sortedX rfl) (by rfl) T.sorted (by decide +kernel) (pa_cons (pe_callTy (cr_setX rfl) (by rfl) T.set (by decide +kernel) (pa_cons (pe_fld (pv 0) rfl) pa_nil)) pa_nil)) pa_nil)) rfl)
      (pss_one (ps_fld (pv 0) (pe_callTy call_tuple_of (by rfl) T.tuple (by decide +kernel) (pa_cons (pe_lc (own := [("name", 4)]) (g := gName 4) (tt := tYes) (te := tDGet (tFld K (tVar 0) "_numbers") (tVar 4)) rfl scMi.nd (pi_tup (pe_fld (pv 0) rfl)) (blkOk_by (N := NMi) (sc := defScope cMeetingInit) (by decide +kernel))
          (fun _ _ _ _ _ => pg_name (i := 4) scMi.nd rfl (Or.inl rfl)) (fun _ _ _ _ _ => pts_nil) (fun _ _ _ _ _ => pe_dget hu (pe_fld (pv 0) rfl) (pv 4) (fun _ _ => rfl))) pa_nil)) rfl)))), ?_⟩
    -- self.blocks
    refine ⟨_, rfl, a, B, rfl, ha, hB, good, fun t M H1 s1 nt ht hM eM => ?_⟩
    have gr := good_rows good
    rw [← eM] at gr
    refine ⟨_, rfl, x, C, dx, [], rfl, s1 _ _ hx, c.cls, c.nb, by decide, ?_⟩
    have ntx : t ≠ x := fun e => by rw [e, hx] at nt; cases nt
    have x2 : upd H1 x (.ins C dx (putF "blocks" (.ref t) [])) x = some (.ins C dx [("blocks", .ref t)]) := upd_same
    have b2 : ∀ b o, b ≠ x → H1 b = some o → upd H1 x (.ins C dx (putF "blocks" (.ref t) [])) b = some o := fun b o n hb => by rw [upd_ne n]; exact hb
    generalize upd H1 x (.ins C dx (putF "blocks" (.ref t) [])) = H2 at x2 b2 ⊢
    have t2 : H2 t = some (.tup (refT M)) := b2 t _ ntx ht
    have M2 : TuT H2 M := fun p hp => b2 p.1 _ (fun e => by
      have z := hM p hp
      rw [e, s1 _ _ hx] at z
      cases z) (hM p hp)
    -- self._numbers
    refine ⟨_, rfl, x, C, dx, _, _, rfl, x2, c.cls, c.nb, rfl, t, refT M, rfl, SqT.of t2, fun D nD => ?_⟩
    have nDx : D ≠ x := fun e => by rw [e, x2] at nD; cases nD
    refine dc2_it (walk_enumT (xs := refT M)) (fun i H9 => ∃ kvs, H9 D = some (.dK kvs) ∧ kvs.length ≤ ((rowT M).take i).flatten.length ∧ (∀ x, valV kvs (.inr x) = (numOf ((rowT M).take i) x).map fun k => V.int (k : Nat)) ∧ (∀ k ∈ kvs.map (·.1), ∃ x, k = .inr x) ∧ ∀ b o, H2 b = some o → H9 b = some o)
      ⟨[], upd_same, Nat.zero_le _, fun x => by simp [valV, numOf], fun k hk => (by simp at hk), fun b o hb => by rw [upd_ne (ne_of_none hb nD)]; exact hb⟩ (fun i H9 _ ⟨kvs, _, _, _, _, q⟩ => SqT.of (q _ _ t2)) ?_ ?_
    · rintro i y H9 H10 hi ⟨kvs, hD, lk, vk, ik, s9⟩ ⟨T0, u, v, rfl, nT0, e10, eu, ev⟩
      rw [refT_len] at hi
      have hp : M[i]? = some M[i] := List.getElem?_eq_getElem hi
      generalize M[i] = p at hp
      have pm := List.mem_of_getElem? hp
      have rp : (rowT M)[i]? = some p.2 := by rw [rowT, List.getElem?_map, hp]; rfl
      have pr : p.2 ∈ rowT M := List.mem_of_getElem? rp
      obtain rfl : v = .ref p.1 := by
        have ev2 : (refT M)[i]? = some v := ev
        rw [refT, List.getElem?_map, hp] at ev2
        exact (Option.some.inj ev2).symm
      cases eu
      have s10 : Same H9 H10 := by rw [e10]; exact same_new nT0 _
      have g10 : H10 T0 = some (.tup [.int (i : Nat), .ref p.1]) := by rw [e10]; exact upd_same
      have ft : ((rowT M).take (i + 1)).flatten.length = ((rowT M).take i).flatten.length + p.2.length := by
        rw [List.take_add_one, rp, List.flatten_append, List.length_append]
        simp
      have tot : ((rowT M).take (i + 1)).flatten.length ≤ 60 := by
        refine Nat.le_trans ?_ gr.good.tot
        have e : (rowT M) = (rowT M).take (i + 1) ++ (rowT M).drop (i + 1) := (List.take_append_drop _ _).symm
        have e2 := congrArg (fun l : List (List Str) => l.flatten.length) e
        simp only [List.flatten_append, List.length_append] at e2
        omega
      refine ⟨T0, [.int (i : Nat), .ref p.1], rfl, SqT.of g10, rfl, _, [.ref p.1], rfl, .ref p.1, [], rfl, rfl, rfl, ?_⟩
      refine ⟨_, rfl, p.1, rfl, ⟨_, SqT.of (s10 _ _ (s9 _ _ (M2 p pm)))⟩, ?_⟩
      refine dcIn_it (walk_tup (xs := p.2.map V.str)) (fun j H12 => ∃ kv2, H12 D = some (.dK kv2) ∧ kv2.length ≤ kvs.length + j ∧ (∀ x, valV kv2 (.inr x) = match numOf ((rowT M).take i) x with
          | some k => some (V.int (k : Nat))
          | none => if x ∈ p.2.take j then some (V.int (i : Nat)) else none) ∧ (∀ k ∈ kv2.map (·.1), ∃ x, k = .inr x) ∧ ∀ b o, H2 b = some o → H12 b = some o)
        ⟨kvs, s10 _ _ hD, Nat.le_refl _, fun x => by rw [vk x]; cases numOf ((rowT M).take i) x <;> simp, ik, fun b o hb => s10 _ _ (s9 _ _ hb)⟩ (fun j H12 _ ⟨_, _, _, _, _, q⟩ => SqT.of (q _ _ (M2 p pm))) ?_ ?_
      · rintro j y H12 H13 hj ⟨kv2, h12, l12, v12, i12, s12⟩ ⟨rfl, hy⟩
        rw [List.getElem?_map] at hy
        obtain ⟨z, hz, rfl⟩ := Option.map_eq_some_iff.mp hy
        have lj : j < p.2.length := (List.getElem?_eq_some_iff.mp hz).1
        refine ⟨rfl, _, rfl, _, rfl, kv2, .inr z, rfl, h12, small1000 (by omega), putK kv2 (.inr z) (.int (i : Nat)), upd_same, Nat.le_trans (length_putK _ _ _) (by omega), fun x => ?_, fun k hk => ?_, fun b o hb => ?_⟩
        · have hzi : numOf ((rowT M).take i) z = none := by
            cases c1 : numOf ((rowT M).take i) z with
            | none => rfl
            | some k =>
              obtain ⟨b, hb, hzb⟩ := numOf_some c1
              have hk : k < i := by
                have := (List.getElem?_eq_some_iff.mp hb).1
                rw [List.length_take] at this
                omega
              rw [List.getElem?_take_of_lt hk] at hb
              have := dis_at gr.good.dis hb rp hzb (List.mem_of_getElem? hz)
              omega
          rw [valV_put, List.take_add_one, hz]
          by_cases e : x = z
          · subst e
            rw [if_pos rfl, hzi]
            simp
          · rw [if_neg (fun q : (Sum.inr x : Key) = Sum.inr z => e (by injection q)), v12 x]
            cases numOf ((rowT M).take i) x with
            | some k => rfl
            | none => simp [e]
        · rw [key_mem, valV_put] at hk
          by_cases e : k = .inr z
          · exact ⟨z, e⟩
          · rw [if_neg e] at hk
            exact i12 k (key_mem.mpr hk)
        · rw [upd_ne (ne_of_none hb nD)]
          exact s12 b o hb
      · rintro H12 ⟨kv2, h12, l12, v12, i12, s12⟩
        rw [List.length_map] at l12 v12
        rw [List.take_length] at v12
        refine ⟨kv2, h12, by omega, fun x => ?_, i12, s12⟩
        rw [v12 x, List.take_add_one, rp]
        have e : ((rowT M).take i ++ (some p.2).toList) = (rowT M).take i ++ [p.2] := rfl
        have li : ((rowT M).take i).length = i := by
          rw [List.length_take, rowT_len]
          omega
        rw [e, numOf_snoc, li]
        cases numOf ((rowT M).take i) x with
        | some k => rfl
        | none =>
          by_cases h : x ∈ p.2
          · simp [h]
          · simp [h]
    · rintro H9 ⟨kvs, hD, lk, vk, ik, s9⟩
      rw [refT_len, List.take_of_length_le (by rw [rowT_len]; exact Nat.le_refl _)] at lk vk
      have s9' := s9
      refine ⟨_, rfl, x, C, dx, _, rfl, s9 _ _ x2, c.cls, c.nu, (by show 1 < 1000; decide), ?_⟩
      have x4 : upd H9 x (.ins C dx (putF "_numbers" (.ref D) [("blocks", .ref t)])) x = some (.ins C dx [("blocks", .ref t), ("_numbers", .ref D)]) := upd_same
      have b4 : ∀ b o, b ≠ x → H9 b = some o → upd H9 x (.ins C dx (putF "_numbers" (.ref D) [("blocks", .ref t)])) b = some o := fun b o n hb => by rw [upd_ne n]; exact hb
      generalize upd H9 x (.ins C dx (putF "_numbers" (.ref D) [("blocks", .ref t)])) = H4 at x4 b4 ⊢
      have D4 : H4 D = some (.dK kvs) := b4 D _ nDx hD
      -- self.names
      have tot := gr.good.tot
      refine ⟨_, rfl, x, C, dx, _, _, rfl, x4, c.cls, c.nu, rfl, D, kvs.map (·.1), rfl, .inr (.inr ⟨kvs, D4, rfl, by omega⟩), by rw [List.length_map]; omega, fun st DD nst ndD mD => ?_⟩
      have eDD : DD = (DD.map txK).map Sum.inr := by
        rw [List.map_map]
        refine (List.map_id DD).symm.trans (List.map_congr_left fun k hk => ?_)
        obtain ⟨z, e⟩ := ik k ((mD k).mp hk)
        rw [e]
        rfl
      have mSS : ∀ z, z ∈ DD.map txK ↔ z ∈ (rowT M).flatten := fun z => by
        rw [← numOf_mem, ← Option.isSome_map (f := fun k : Nat => V.int (k : Nat)), ← vk z, ← key_mem, ← mD, List.mem_map]
        constructor
        · rintro ⟨k, hk, rfl⟩
          obtain ⟨y, e⟩ := ik k ((mD k).mp hk)
          rw [e] at hk ⊢
          exact hk
        · exact fun h => ⟨.inr z, h, rfl⟩
      have lSS : (DD.map txK).length < 64 := by
        rw [List.length_map]
        have z : DD.length ≤ (kvs.map (·.1)).length := nodup_leK ndD fun k hk => (mD k).mp hk
        rw [List.length_map] at z
        omega
      have eN : asc ltS (DD.map txK) = namesOf (rowT M) := asc_mem tot_ltS mSS
      generalize hKO : KS _ st DD = KO
      have s5 : Same H4 (upd H4 st KO) := same_new nst _
      refine ⟨st, DD, DD.map txK, rfl, by rw [hKO]; exact upd_same, eDD, lSS, fun q nq => ?_⟩
      rw [eN] at *
      have s6 := s5.trans (same_new nq (.lst ((namesOf (rowT M)).map V.str)))
      refine ⟨q, _, rfl, .inl ⟨SqL.of upd_same, fun r nr => ?_⟩⟩
      have s7 := s6.trans (same_new nr (.tup ((namesOf (rowT M)).map V.str)))
      have r7 : upd (upd (upd H4 st KO) q (.lst ((namesOf (rowT M)).map V.str))) r (.tup ((namesOf (rowT M)).map V.str)) r = some (.tup ((namesOf (rowT M)).map V.str)) := upd_same
      generalize upd (upd (upd H4 st KO) q (.lst ((namesOf (rowT M)).map V.str))) r (.tup ((namesOf (rowT M)).map V.str)) = H7 at s7 r7
      have nrx : r ≠ x := fun e => by
        have z := s6 _ _ x4
        rw [← e, nr] at z
        cases z
      refine ⟨_, rfl, x, C, dx, _, rfl, s7 _ _ x4, c.cls, c.nn, (by show 2 < 1000; decide), ?_⟩
      have x8 : upd H7 x (.ins C dx (putF "names" (.ref r) [("blocks", .ref t), ("_numbers", .ref D)])) x = some (.ins C dx [("blocks", .ref t), ("_numbers", .ref D), ("names", .ref r)]) := upd_same
      have b8 : ∀ b o, b ≠ x → H7 b = some o → upd H7 x (.ins C dx (putF "names" (.ref r) [("blocks", .ref t), ("_numbers", .ref D)])) b = some o := fun b o n hb => by rw [upd_ne n]; exact hb
      generalize upd H7 x (.ins C dx (putF "names" (.ref r) [("blocks", .ref t), ("_numbers", .ref D)])) = H8 at x8 b8 ⊢
      have r8 : H8 r = some (.tup ((namesOf (rowT M)).map V.str)) := b8 r _ nrx r7
      have D8 : H8 D = some (.dK kvs) := b8 D _ nDx (s7 _ _ D4)
      have lN : (namesOf (rowT M)).length ≤ 60 := by
        have z : (namesOf (rowT M)).length ≤ (rowT M).flatten.length := nodup_leK (asc_nodup tot_ltS (asc_asc tot_ltS _)) fun k hk => mem_ascS.mp hk
        omega
      -- self.code
      refine ⟨_, rfl, x, C, dx, _, _, rfl, x8, c.cls, c.nn, rfl, r, rfl, ⟨_, SqT.of r8⟩, fun L nL => ?_⟩
      refine lc_tup (xs := (namesOf (rowT M)).map V.str) (fun i H9 => H9 L = some (.lst (((codeOf (rowT M)).take i).map V.int)) ∧ Same H8 H9) ⟨upd_same, same_new nL _⟩ (fun i H9 _ h9 => SqT.of (h9.2 _ _ r8)) ?_ ?_
      · rintro i y H9 hy ⟨h9, s9⟩
        rw [List.getElem?_map] at hy
        obtain ⟨z, hz, rfl⟩ := Option.map_eq_some_iff.mp hy
        have li : i < (namesOf (rowT M)).length := (List.getElem?_eq_some_iff.mp hz).1
        have mz : z ∈ (rowT M).flatten := mem_ascS.mp (List.mem_of_getElem? hz)
        obtain ⟨kk, hk⟩ := Option.isSome_iff_exists.mp (numOf_mem.mpr mz)
        have ev : valV kvs (.inr z) = some (.int (kk : Nat)) := by rw [vk z, hk]; rfl
        have ec : (codeOf (rowT M))[i]? = some ((kk : Nat) : Int) := by
          rw [codeOf, List.getElem?_map, hz]
          simp [hk]
        refine ⟨rfl, _, rfl, x, C, dx, _, _, rfl, s9 _ _ x8, c.cls, c.nu, rfl, _, rfl, D, .int (kk : Nat), rfl, by rw [← ev]; exact DGet.k (k := Sum.inr z) (s9 _ _ D8), _, h9, ?_, ?_, fun b o hb => ?_⟩
        · rw [List.length_map, List.length_take]
          exact small1000 (by omega)
        · rw [upd_same, List.take_add_one, ec]
          simp
        · rw [upd_ne (ne_of_none hb nL)]
          exact s9 _ _ hb
      · rintro H9 ⟨h9, s9⟩
        have lc : (codeOf (rowT M)).length = (namesOf (rowT M)).length := List.length_map _
        rw [List.length_map, ← lc, List.take_length] at h9
        refine ⟨L, _, rfl, .inl ⟨SqL.of h9, fun r2 nr2 => ?_⟩⟩
        have s10 := s9.trans (same_new nr2 (.tup ((codeOf (rowT M)).map V.int)))
        refine ⟨_, rfl, x, C, dx, _, rfl, s10 _ _ x8, c.cls, c.nc, (by show 3 < 1000; decide), ?_⟩
        have nr2x : r2 ≠ x := fun e => by
          have z := s9 _ _ x8
          rw [← e, nr2] at z
          cases z
        have fin : ∀ b o, b ≠ x → H8 b = some o → upd (upd H9 r2 (.tup ((codeOf (rowT M)).map V.int))) x (.ins C dx [("blocks", .ref t), ("_numbers", .ref D), ("names", .ref r), ("code", .ref r2)]) b = some o := fun b o n hb => by
          rw [upd_ne n]
          exact s10 _ _ hb
        have all : ∀ b o, b ≠ x → H1 b = some o → H8 b = some o := fun b o n hb => b8 b o n (s7 _ _ (b4 b o n (s9' b o (b2 b o n hb))))
        rw [← eM] at k
        refine k _ (fun b o n hb => fin b o n (all b o n (s1 _ _ hb))) ⟨dx, t, D, r, r2, M, kvs, upd_same, fin t _ ntx (all t _ ntx ht), fun p hp => ?_, rfl, fin D _ nDx D8, vk, fin r _ nrx r8, ?_, gr⟩
        · have npx : p.1 ≠ x := fun e => by
            have z := hM p hp
            rw [e, s1 _ _ hx] at z
            cases z
          exact fin p.1 _ npx (all p.1 _ npx (hM p hp))
        · rw [upd_ne nr2x]
          exact upd_same
end
end K1
set_option linter.all false
set_option maxRecDepth 100000
set_option maxHeartbeats 1000000
namespace K1
open PySem L2
/-! ### one, the orders, ==, len: where nothing is raised -/
def sameNum (R : List (List Str)) (x y : Str) : Bool := decide (numOf R x = numOf R y)
def finer (R S : List (List Str)) : Bool := R.all fun b => b.all fun z => sameNum S (b.headD "") z
def spOneM (C : Addr) : Sp := fun vs H Q _ => ∃ (a : Addr) (R : List (List Str)) (x y : Str), vs = [.ref a, .str x, .str y] ∧ MeetAt C H a R ∧ x ∈ R.flatten ∧ y ∈ R.flatten ∧ ∀ H', Same H H' → Q (.bl (sameNum R x y)) H'
def spCheckM (C : Addr) : Sp := fun vs H Q _ => ∃ (a b : Addr) (R S : List (List Str)), vs = [.ref a, .ref b] ∧ MeetAt C H a R ∧ MeetAt C H b S ∧ namesOf R = namesOf S ∧ ∀ H', Same H H' → Q .non H'
/-- two meetings of the same names compared -/
def spCmpM (C : Addr) (g : List (List Str) → List (List Str) → Bool) : Sp := fun vs H Q _ => ∃ (a b : Addr) (R S : List (List Str)), vs = [.ref a, .ref b] ∧ MeetAt C H a R ∧ MeetAt C H b S ∧ namesOf R = namesOf S ∧ ∀ H', Same H H' → Q (.bl (g R S)) H'
def spEqM (C : Addr) : Sp := fun vs H Q _ => ∃ (a b : Addr) (R S : List (List Str)), vs = [.ref a, .ref b] ∧ MeetAt C H a R ∧ MeetAt C H b S ∧ ∀ H', Same H H' → Q (.bl (decide (R = S))) H'
def spLenM (C : Addr) : Sp := fun vs H Q _ => ∃ (a : Addr) (R : List (List Str)), vs = [.ref a] ∧ MeetAt C H a R ∧ Q (.int (R.length : Nat)) H
structure TxtO (mg : Str → Option Value) : Prop where
  isi : mg "isinstance" = none
  str : mg "str" = none
  len : mg "len" = none
  all : mg "all" = none
/-! texts and their rows as data -/
def dS (ss : List Str) : PyData := .tuple (ss.map .str)
theorem dp_strs {K : PySem.W.Frag} {H : Hp} : ∀ ss : List Str, DpAll K H (ss.map V.str) (ss.map PyData.str)
  | [] => .nil
  | x :: r => .cons (.str x) (dp_strs r)
theorem eqv_strs : ∀ a b : List Str, PyData.eqvAll (a.map PyData.str) (b.map PyData.str) = decide (a = b)
  | [], [] => by simp [PyData.eqvAll]
  | [], _ :: _ => by simp [PyData.eqvAll]
  | _ :: _, [] => by simp [PyData.eqvAll]
  | x :: r, y :: q => by
    have ih := eqv_strs r q
    simp only [List.map_cons, PyData.eqvAll, PyData.eqv, ih]
    by_cases e : x = y <;> by_cases e2 : r = q <;> simp [e, e2]
theorem eqv_dS (a b : List Str) : PyData.eqv (dS a) (dS b) = decide (a = b) := by
  unfold dS
  simp only [PyData.eqv]
  exact eqv_strs a b
theorem eqv_rows : ∀ a b : List (List Str), PyData.eqvAll (a.map dS) (b.map dS) = decide (a = b)
  | [], [] => by simp [PyData.eqvAll]
  | [], _ :: _ => by simp [PyData.eqvAll]
  | _ :: _, [] => by simp [PyData.eqvAll]
  | x :: r, y :: q => by
    have ih := eqv_rows r q
    simp only [List.map_cons, PyData.eqvAll, eqv_dS, ih]
    by_cases e : x = y <;> by_cases e2 : r = q <;> simp [e, e2]
theorem abc_low : ∀ c ∈ abc.cps.toList, c < 1114112 := by
  have q : abc.cps.toList.all (fun c => decide (c < 1114112)) = true := by decide +kernel
  exact fun c hc => of_decide_eq_true (List.all_eq_true.mp q c hc)
theorem name_strOk {z : Str} (h : nameOk z = true) : PyData.strOk z = true := by
  unfold nameOk at h
  rw [Bool.and_eq_true] at h
  unfold PyData.strOk
  rw [← Array.all_toList]
  exact List.all_eq_true.mpr fun c hc => decide_eq_true (abc_low c (of_decide_eq_true (List.all_eq_true.mp h.2 c hc)))
theorem okd_str {z : Str} (h : nameOk z = true) : Okd (.str z) := ⟨by simp only [PyData.canLay0]; exact name_strOk h, by simp only [PyData.depth]; omega⟩
theorem okd_strs {ss : List Str} (h : ∀ z ∈ ss, nameOk z = true) : PyData.canLayAll0 (ss.map PyData.str) = true ∧ PyData.depthAll (ss.map PyData.str) ≤ 2 := by
  induction ss with
  | nil => exact ⟨by simp only [List.map_nil, PyData.canLayAll0], by simp only [List.map_nil, PyData.depthAll]; omega⟩
  | cons x r ih =>
    obtain ⟨h1, h2⟩ := ih fun z hz => h z (.tail _ hz)
    have h3 := (okd_str (h x (.head _))).1
    refine ⟨by simp only [List.map_cons, PyData.canLayAll0, h1, h3, Bool.and_true], ?_⟩
    simp only [List.map_cons, PyData.depthAll, PyData.depth]
    omega
theorem okd_dS {ss : List Str} (h : ∀ z ∈ ss, nameOk z = true) : PyData.canLay0 (dS ss) = true ∧ PyData.depth (dS ss) ≤ 3 := by
  obtain ⟨h1, h2⟩ := okd_strs h
  unfold dS
  exact ⟨by simp only [PyData.canLay0, h1], by simp only [PyData.depth]; omega⟩
theorem sh_dS {ss : List Str} (h : ∀ z ∈ ss, nameOk z = true) : SeqAt.shaped (dS ss) = true := by
  obtain ⟨h1, h2⟩ := okd_dS h
  unfold SeqAt.shaped
  rw [h1, decide_eq_true (Nat.le_trans h2 (by decide))]
  rfl
theorem sh_rows {R : List (List Str)} (h : ∀ b ∈ R, ∀ z ∈ b, nameOk z = true) : SeqAt.shaped (.tuple (R.map dS)) = true := by
  obtain ⟨h1, h2⟩ := okd_all (ds := R.map dS) fun d hd => by
    obtain ⟨b, hb, rfl⟩ := List.mem_map.mp hd
    exact ⟨(okd_dS (h b hb)).1, Nat.le_trans (okd_dS (h b hb)).2 (by decide)⟩
  unfold SeqAt.shaped
  rw [Bool.and_eq_true]
  refine ⟨by simp only [PyData.canLay0, h1], decide_eq_true ?_⟩
  simp only [PyData.depth]
  omega
theorem dp_rows {K : PySem.W.Frag} {H : Hp} : ∀ {M : TL}, TuT H M → DpAll K H (refT M) ((rowT M).map dS)
  | [], _ => .nil
  | p :: r, h => .cons (.tup (SqT.of (h p (.head _))) (dp_strs p.2)) (dp_rows fun q hq => h q (.tail _ hq))
theorem names_ok {R : List (List Str)} (g : GoodR R) : ∀ z ∈ namesOf R, nameOk z = true := fun z hz => by
  obtain ⟨b, hb, hzb⟩ := List.mem_flatten.mp (mem_ascS.mp hz)
  exact g.good.nm b hb z hzb
section
variable {P : Program} {w : World} {K : PySem.W.Frag} {mg : Str → Option Value} {base : Heap} {C : Addr}
abbrev NOn : List Str := ["self", "name", "other", "thing"]
theorem scOn : FnScope NOn ["self", "name", "other"] (defScope cMeetingOne) := ⟨rfl, rfl, rfl, by decide +kernel, rfl, by decide +kernel, by decide +kernel⟩
theorem ok_one_ {f : Addr} {fd : FuncData} (F : Fun K "one" "Meeting.one" cMeetingOne f fd) (c : MeetC K mg C) (T : TxtO mg) : FnOk P w K mg base CX0 1 f fd ["self", "name", "other"] (spOneM C) := by
  refine F.ok scOn (fun vs H Q E h => ?_) (fun cdv A outer s H vs Q E hr h => ?_)
  · obtain ⟨a, R, x, y, rfl, _⟩ := h
    rfl
  · obtain ⟨a, R, x, y, rfl, ma, hx, hy, k⟩ := h
    have hu := hu_of hr
    refine ⟨_, pss_cons (ps_for PassesOwn.never rfl (pi_tup (pe_tup (pa_cons (pv 1) (pa_cons (pv 2) pa_nil)))) (pg_name (i := 3) scOn.nd rfl (Or.inl rfl))
        (pss_one (ps_if (pw_or (pt_not (pt_val (pe_callB call_isi (by rfl) T.isi (by decide +kernel) (pa_cons (pv 3) (pa_cons (pe_bltn (v := .ty "str") (by rfl) T.str (by decide +kernel) rfl) pa_nil)))))
          (pw_or1 (pt_cmp (pc_dnotin hu (pv 3) (pe_fld (pv 0) rfl))))).pt pss_never pss_nil)))
      (pss_one (ps_ret (pe_cmpR op_eq (pe_dget hu (pe_fld (pv 0) rfl) (pv 1) (fun _ _ => rfl)) (pe_dget hu (pe_fld (pv 0) rfl) (pv 2) (fun _ _ => rfl)) (nomark _)))), ?_⟩
    obtain ⟨dx, t, d, n, cc, M, kvs, o⟩ := ma
    have val : ∀ {z : Str}, z ∈ R.flatten → ∃ k : Nat, numOf R z = some k ∧ valV kvs (.inr z) = some (.int (k : Nat)) := fun {z} hz => by
      obtain ⟨k, hk⟩ := Option.isSome_iff_exists.mp (numOf_mem.mpr hz)
      exact ⟨k, hk, by rw [o.num z, hk]; rfl⟩
    refine ⟨_, rfl, _, rfl, sz (Nat.le_of_ble_eq_true rfl), fun tp ntp => ⟨tp, rfl, ⟨_, SqT.of upd_same⟩, ?_⟩⟩
    have s1 : Same H (upd H tp (.tup [.str x, .str y])) := same_new ntp _
    refine for_tup (xs := [.str x, .str y]) (fun i σ H9 => (∃ v, σ = [some (.ref a), some (.str x), some (.str y), v]) ∧ H9 = upd H tp (.tup [.str x, .str y])) ⟨⟨_, rfl⟩, rfl⟩ (fun i σ H9 _ h9 => by rw [h9.2]; exact SqT.of upd_same) ?_ ?_
    · rintro i v σ H9 hv ⟨⟨v', rfl⟩, rfl⟩
      have hz : ∃ z, v = .str z ∧ z ∈ R.flatten := by
        have m := List.mem_of_getElem? hv
        simp only [List.mem_cons, List.not_mem_nil, or_false] at m
        rcases m with rfl | rfl
        · exact ⟨x, rfl, hx⟩
        · exact ⟨y, rfl, hy⟩
      obtain ⟨z, rfl, mz⟩ := hz
      obtain ⟨kk, hk, ev⟩ := val mz
      refine ⟨_, rfl, _, .ty "str", .type "str", .type "str", true, rfl, .ty _, .base (.str z), kit_ty (by decide +kernel), _, rfl, iteF ?_⟩
      refine ⟨_, rfl, _, rfl, a, C, dx, _, _, rfl, s1 _ _ o.ob, c.cls, c.nu, rfl, d, _, rfl, DGet.k (k := Sum.inr z) (s1 _ _ o.nu), ?_⟩
      rw [ev]
      exact ⟨_, rfl, iteF ⟨⟨_, rfl⟩, rfl⟩⟩
    · rintro σ H9 ⟨⟨v', rfl⟩, rfl⟩
      obtain ⟨kx, hkx, ex⟩ := val hx
      obtain ⟨ky, hky, ey⟩ := val hy
      refine ⟨_, rfl, a, C, dx, _, _, rfl, s1 _ _ o.ob, c.cls, c.nu, rfl, _, rfl, d, .int (kx : Nat), rfl, by rw [← ex]; exact DGet.k (k := Sum.inr x) (s1 _ _ o.nu), ?_⟩
      refine ⟨_, rfl, a, C, dx, _, _, rfl, s1 _ _ o.ob, c.cls, c.nu, rfl, _, rfl, d, .int (ky : Nat), rfl, by rw [← ey]; exact DGet.k (k := Sum.inr y) (s1 _ _ o.nu), rfl, ?_⟩
      have e : decide (V.int (kx : Nat) = V.int (ky : Nat)) = sameNum R x y := by
        unfold sameNum
        rw [hkx, hky]
        exact decide_eq_decide.mpr ⟨fun q => by injection q with q; rw [Int.ofNat.inj q], fun q => by injection q with q; rw [q]⟩
      show Q (.bl (decide (V.int (kx : Nat) = V.int (ky : Nat)))) _
      rw [e]
      exact k _ s1
theorem scCh : FnScope ["self", "other"] ["self", "other"] (defScope cMeetingCheckNames) := ⟨rfl, rfl, rfl, by decide +kernel, rfl, by decide +kernel, by decide +kernel⟩
theorem ok_check {f : Addr} {fd : FuncData} (F : Fun K "_check_names" "Meeting._check_names" cMeetingCheckNames f fd) (c : MeetC K mg C) : FnOk P w K mg base CX0 1 f fd ["self", "other"] (spCheckM C) := by
  refine F.ok scCh (fun vs H Q E h => ?_) (fun cdv A outer s H vs Q E hr h => ?_)
  · obtain ⟨a, b, R, S, rfl, _⟩ := h
    rfl
  · obtain ⟨a, b, R, S, rfl, ma, mb, en, k⟩ := h
    refine ⟨_, pss_one (ps_if (pt_cmpR (op_neD hr.units) (pe_fld (pv 0) rfl) (pe_fld (pv 1) rfl) (nomark _)) pss_never pss_nil), ?_⟩
    obtain ⟨dx, t, d, n, cc, M, kvs, o⟩ := ma
    obtain ⟨dx', t', d', n', cc', M', kvs', o'⟩ := mb
    refine ⟨_, rfl, a, C, dx, _, _, rfl, o.ob, c.cls, c.nn, rfl, _, rfl, b, C, dx', _, _, rfl, o'.ob, c.cls, c.nn, rfl, dS (namesOf R), dS (namesOf S), .tup (SqT.of o.na) (dp_strs _), .tup (SqT.of o'.na) (dp_strs _), sh_dS (names_ok o.good), sh_dS (names_ok o'.good), _, rfl, ?_⟩
    rw [eqv_dS, en, decide_eq_true rfl]
    exact iteF (k _ (Same.refl H))
end
end K1
set_option linter.all false
set_option maxRecDepth 100000
set_option maxHeartbeats 1000000
namespace K1
open PySem L2
theorem names_flat {R S : List (List Str)} (e : namesOf R = namesOf S) {z : Str} (h : z ∈ R.flatten) : z ∈ S.flatten := mem_ascS.mp (show z ∈ namesOf S by rw [← e]; exact mem_ascS.mpr h)
def finL (R S : List (List Str)) : List Bool := R.flatMap fun b => b.map fun z => sameNum S (b.headD "") z
theorem finL_all (R S : List (List Str)) : (finL R S).all id = finer R S := by
  unfold finL finer
  rw [List.all_flatMap]
  refine congrArg (fun f => R.all f) (funext fun b => ?_)
  rw [List.all_map]
  rfl
def lessM (R S : List (List Str)) : Bool := finer R S && !decide (R = S)
section
variable {P : Program} {w : World} {K : PySem.W.Frag} {mg : Str → Option Value} {base : Heap} {C : Addr}
abbrev NPf : List Str := ["self", "other", "block", "name"]
theorem scPf : FnScope NPf ["self", "other"] (defScope cMeetingPartsFiner) := ⟨rfl, rfl, rfl, by decide +kernel, rfl, by decide +kernel, by decide +kernel⟩
theorem ok_finer {f gC gO : Addr} {fd fdC fdO : FuncData} (F : Fun K "_parts_finer" "Meeting._parts_finer" cMeetingPartsFiner f fd) (c : MeetC K mg C) (MC : Meth K C "_check_names" gC) (GC : FnOk P w K mg base CX0 1 gC fdC ["self", "other"] (spCheckM C)) (bC : Binds K fdC ["self", "other"] [])
    (MO : Meth K C "one" gO) (GO : FnOk P w K mg base CX0 1 gO fdO ["self", "name", "other"] (spOneM C)) (bO : Binds K fdO ["self", "name", "other"] []) (ha : mg "all" = none) : FnOk P w K mg base CX0 2 f fd ["self", "other"] (spCmpM C finer) := by
  refine F.ok scPf (fun vs H Q E h => ?_) (fun cdv A outer s H vs Q E hr h => ?_)
  · obtain ⟨a, b, R, S, rfl, _⟩ := h
    rfl
  · obtain ⟨a, b, R, S, rfl, ma, mb, en, k⟩ := h
    refine ⟨_, pss_cons (ps_expr (pe_meth (pv 0) c.cls MC GC hr bC .nil pass0 (pa_cons (pv 1) pa_nil)))
      (pss_one (ps_ret (pe_callB (cr_all rfl) (by rfl) ha (by decide +kernel) (pa_cons (pe_lcTwo (own := [("block", 2), ("name", 3)]) (vs1 := [3]) (g := gName 2) (g1 := gName 3) (tt := tYes) (tt1 := tYes) (wi1 := iTup K (tVar 2)) rfl scPf.nd (pi_tup (pe_fld (pv 0) rfl)) (blkOk_by (N := NPf) (sc := defScope cMeetingPartsFiner) (by decide +kernel)) (by decide)
        (fun _ _ _ _ _ => pg_name (i := 2) scPf.nd rfl (Or.inl rfl)) (fun _ _ _ _ _ => pts_nil) (fun _ _ _ _ _ => pi_tupK rfl (pv 2)) (fun _ _ _ _ _ => pg_name (i := 3) scPf.nd rfl (Or.inl rfl)) (fun _ _ _ _ _ => pts_nil)
        (fun _ _ _ _ _ => pe_meth (pv 1) c.cls MO GO hr bO .nil pass0 (pa_cons (pe_ix (ix_tupK (K := K) rfl) (pv 2) pe_int (fun _ _ => rfl)) (pa_cons (pv 3) pa_nil)))) pa_nil)))), ?_⟩
    obtain ⟨dx, t, d, n, cc, M, kvs, o⟩ := id ma
    obtain ⟨dx', t', d', n', cc', M', kvs', o'⟩ := id mb
    have gr := o.good.good
    refine ⟨_, rfl, a, dx, _, rfl, o.ob, rfl, _, rfl, a, b, R, S, rfl, ma, mb, en, fun H1 s1 => ?_⟩
    refine ⟨_, rfl, a, C, dx, _, _, rfl, s1 _ _ o.ob, c.cls, c.nb, rfl, t, rfl, ⟨_, SqT.of (s1 _ _ o.bl)⟩, fun D nD => ?_⟩
    have nD0 : H D = none := s1.free nD
    have cut : ∀ i, i < R.length → (finL (R.take (i + 1)) S).length ≤ 60 := fun i _ => by
      refine Nat.le_trans ?_ gr.tot
      unfold finL
      have e : R = R.take (i + 1) ++ R.drop (i + 1) := (List.take_append_drop _ _).symm
      have e2 : R.flatten.length = (R.take (i + 1)).flatten.length + (R.drop (i + 1)).flatten.length := by
        conv => lhs; rw [e]
        rw [List.flatten_append, List.length_append]
      have e3 : ∀ L : List (List Str), (L.flatMap fun b => b.map fun z => sameNum S (b.headD "") z).length = L.flatten.length := by
        intro L
        induction L with
        | nil => rfl
        | cons b r ih => rw [List.flatMap_cons, List.flatten_cons, List.length_append, List.length_append, List.length_map, ih]
      rw [e3]
      omega
    refine lc2_it (walk_tup (xs := refT M)) (fun i H9 => H9 D = some (.lst ((finL (R.take i) S).map V.bl)) ∧ Same H H9) ⟨by rw [List.take_zero]; exact upd_same, s1.trans (same_new nD _)⟩ (fun i H9 _ h9 => SqT.of (h9.2 _ _ o.bl)) ?_ ?_
    · rintro i y H9 H10 hi ⟨h9, s9⟩ ⟨rfl, hy⟩
      rw [refT_len] at hi
      have hp : M[i]? = some M[i] := List.getElem?_eq_getElem hi
      generalize M[i] = p at hp
      have pm := List.mem_of_getElem? hp
      have rp : R[i]? = some p.2 := by rw [← o.row, rowT, List.getElem?_map, hp]; rfl
      have pr : p.2 ∈ R := List.mem_of_getElem? rp
      have li : i < R.length := (List.getElem?_eq_some_iff.mp rp).1
      obtain rfl : y = .ref p.1 := by
        rw [refT, List.getElem?_map, hp] at hy
        exact (Option.some.inj hy).symm
      have tk : R.take (i + 1) = R.take i ++ [p.2] := by rw [List.take_add_one, rp]; rfl
      have ct := cut i li
      have ef : finL (R.take (i + 1)) S = finL (R.take i) S ++ p.2.map fun z => sameNum S (p.2.headD "") z := by
        rw [tk]
        unfold finL
        rw [List.flatMap_append]
        simp
      obtain ⟨z0, r0, e0⟩ : ∃ z0 r0, p.2 = z0 :: r0 := by
        cases e : p.2 with
        | nil => exact absurd e (gr.ne _ pr)
        | cons z r => exact ⟨z, r, rfl⟩
      have hd : p.2.headD "" = z0 := by rw [e0]; rfl
      have inS : ∀ z ∈ p.2, z ∈ S.flatten := fun z hz => names_flat en (List.mem_flatten.mpr ⟨_, pr, hz⟩)
      refine ⟨rfl, ?_⟩
      refine ⟨_, rfl, p.1, rfl, ⟨_, SqT.of (s9 _ _ (o.tu p pm))⟩, ?_⟩
      refine lcIn_it (walk_tup (xs := p.2.map V.str)) (fun j H12 => H12 D = some (.lst ((finL (R.take i) S ++ (p.2.take j).map fun z => sameNum S (p.2.headD "") z).map V.bl)) ∧ Same H H12)
        ⟨by rw [List.take_zero, List.map_nil, List.append_nil]; exact h9, s9⟩ (fun j H12 _ q => SqT.of (q.2 _ _ (o.tu p pm))) ?_ ?_
      · rintro j y H12 H13 hj ⟨h12, s12⟩ ⟨rfl, hy⟩
        rw [List.getElem?_map] at hy
        obtain ⟨z, hz, rfl⟩ := Option.map_eq_some_iff.mp hy
        have lj : j < p.2.length := (List.getElem?_eq_some_iff.mp hz).1
        have mz := inS z (List.mem_of_getElem? hz)
        have mh : p.2.headD "" ∈ S.flatten := inS _ (by rw [hd, e0]; exact .head _)
        refine ⟨rfl, ?_⟩
        refine ⟨_, rfl, b, dx', _, rfl, s12 _ _ o'.ob, rfl, _, rfl, p.1, _, 0, .str (p.2.headD ""), rfl, rfl, SqT.of (s12 _ _ (o.tu p pm)), ?_, _, rfl, b, S, p.2.headD "", z, rfl, mb.mono s12, mh, mz, fun H14 s14 => ⟨_, s14 _ _ h12, ?_, ?_, fun q u hq => ?_⟩⟩
        · have e1 : (p.2.map V.str)[0]? = some (.str (p.2.headD "")) := by rw [hd, e0]; rfl
          exact atI_nat (j := 0) e1
        · have z1 := congrArg List.length ef
          rw [List.length_append, List.length_map] at z1
          rw [List.length_map, List.length_append, List.length_map, List.length_take]
          exact small1000 (by omega)
        · rw [upd_same, List.take_add_one, hz]
          simp
        · rw [upd_ne (ne_of_none hq nD0)]
          exact s14 _ _ (s12 _ _ hq)
      · rintro H12 ⟨h12, s12⟩
        rw [List.length_map, List.take_length, ← ef] at h12
        exact ⟨h12, s12⟩
    · rintro H9 ⟨h9, s9⟩
      have lR : (refT M).length = R.length := by rw [refT_len, ← rowT_len, o.row]
      rw [lR, List.take_length] at h9
      refine ⟨D, finL R S, rfl, SqL.of h9, ?_⟩
      rw [finL_all]
      exact k _ s9
theorem scMe : FnScope ["self", "other"] ["self", "other"] (defScope cMeetingEq) := ⟨rfl, rfl, rfl, by decide +kernel, rfl, by decide +kernel, by decide +kernel⟩
theorem ok_meq {f : Addr} {fd : FuncData} (F : Fun K "__eq__" "Meeting.__eq__" cMeetingEq f fd) (c : MeetC K mg C) (hi : mg "isinstance" = none) : FnOk P w K mg base CX0 1 f fd ["self", "other"] (spEqM C) := by
  refine F.ok scMe (fun vs H Q E h => ?_) (fun cdv A outer s H vs Q E hr h => ?_)
  · obtain ⟨a, b, R, S, rfl, _⟩ := h
    rfl
  · obtain ⟨a, b, R, S, rfl, ma, mb, k⟩ := h
    refine ⟨_, pss_one (ps_ret (pe_and (pe_callB (C8.call_isC c.isC) (by rfl) hi (by decide +kernel) (pa_cons (pv 1) (pa_cons (pe_glob (v := .ref C) (by rfl) c.glob rfl) pa_nil))) (pe_one (pe_cmpR (op_eqD hr.units) (pe_fld (pv 0) rfl) (pe_fld (pv 1) rfl) (nomark _))))), ?_⟩
    obtain ⟨dx, t, d, n, cc, M, kvs, o⟩ := ma
    obtain ⟨dx', t', d', n', cc', M', kvs', o'⟩ := mb
    refine ⟨_, rfl, b, dx', _, rfl, o'.ob, _, rfl, iteT ?_⟩
    refine ⟨_, rfl, a, C, dx, _, _, rfl, o.ob, c.cls, c.nb, rfl, _, rfl, b, C, dx', _, _, rfl, o'.ob, c.cls, c.nb, rfl, .tuple (R.map dS), .tuple (S.map dS), .tup (SqT.of o.bl) (o.row ▸ dp_rows o.tu), .tup (SqT.of o'.bl) (o'.row ▸ dp_rows o'.tu), sh_rows o.good.good.nm, sh_rows o'.good.good.nm, ?_⟩
    have e : PyData.eqv (.tuple (R.map dS)) (.tuple (S.map dS)) = decide (R = S) := by
      simp only [PyData.eqv]
      exact eqv_rows _ _
    rw [e]
    exact k H (Same.refl H)
theorem scMl : FnScope ["self"] ["self"] (defScope cMeetingLen) := ⟨rfl, rfl, rfl, by decide +kernel, rfl, by decide +kernel, by decide +kernel⟩
theorem ok_mlen {f : Addr} {fd : FuncData} (F : Fun K "__len__" "Meeting.__len__" cMeetingLen f fd) (c : MeetC K mg C) (hl : mg "len" = none) : FnOk P w K mg base CX0 1 f fd ["self"] (spLenM C) := by
  refine F.ok scMl (fun vs H Q E h => ?_) (fun cdv A outer s H vs Q E hr h => ?_)
  · obtain ⟨a, R, rfl, _⟩ := h
    rfl
  · obtain ⟨a, R, rfl, ma, k⟩ := h
    refine ⟨_, pss_one (ps_ret (pe_callB call_len_seq (by rfl) hl PySem.boot_len (pa_cons (pe_fld (pv 0) rfl) pa_nil))), ?_⟩
    obtain ⟨dx, t, d, n, cc, M, kvs, o⟩ := ma
    refine ⟨_, rfl, a, C, dx, _, _, rfl, o.ob, c.cls, c.nb, rfl, t, refT M, rfl, .inr (SqT.of o.bl), ?_⟩
    have lR : (refT M).length = R.length := by rw [refT_len, ← rowT_len, o.row]
    rw [lR]
    exact k
structure MeetF (P : Program) (w : World) (K : PySem.W.Frag) (mg : Str → Option Value) (base : Heap) (C : Addr) : Prop where
  c : MeetC K mg C
  isi : mg "isinstance" = none
  fin : ∃ g fd, Meth K C "_parts_finer" g ∧ Binds K fd ["self", "other"] [] ∧ FnOk P w K mg base CX0 2 g fd ["self", "other"] (spCmpM C finer)
theorem scmLe : FnScope ["self", "other"] ["self", "other"] (defScope cMeetingLe) := ⟨rfl, rfl, rfl, by decide +kernel, rfl, by decide +kernel, by decide +kernel⟩
theorem ok_mLe {f : Addr} {fd : FuncData} (F : Fun K "__le__" "Meeting.__le__" cMeetingLe f fd) (T : MeetF P w K mg base C) : FnOk P w K mg base CX0 3 f fd ["self", "other"] (spCmpM C finer) := by
  obtain ⟨gF, fdF, MF, bF, GF⟩ := T.fin
  refine F.ok scmLe (fun vs H Q E h => ?_) (fun cdv A outer s H vs Q E hr h => ?_)
  · obtain ⟨a, b, R, S, rfl, _⟩ := h
    rfl
  · obtain ⟨a, b, R, S, rfl, ma, mb, en, k⟩ := h
    refine ⟨_, pss_cons (ps_if (pt_not (pt_val (pe_callB (C8.call_isC T.c.isC) (by rfl) T.isi (by decide +kernel) (pa_cons (pv 1) (pa_cons (pe_glob (v := .ref C) (by rfl) T.c.glob rfl) pa_nil))))) pss_never pss_nil)
      (pss_one (ps_ret (pe_meth (pv 0) T.c.cls MF GF (hr.mono (by decide)) bF .nil pass0 (pa_cons (pv 1) pa_nil)))), ?_⟩
    obtain ⟨dx, t, d, n, cc, M, kvs, o⟩ := id ma
    obtain ⟨dx', t', d', n', cc', M', kvs', o'⟩ := id mb
    refine ⟨_, rfl, b, dx', _, rfl, o'.ob, _, rfl, iteF ?_⟩
    refine ⟨_, rfl, a, dx, _, rfl, o.ob, rfl, _, rfl, a, b, R, S, rfl, ma, mb, en, fun H1 s1 => ?_⟩
    exact k H1 s1
theorem scmGe : FnScope ["self", "other"] ["self", "other"] (defScope cMeetingGe) := ⟨rfl, rfl, rfl, by decide +kernel, rfl, by decide +kernel, by decide +kernel⟩
theorem ok_mGe {f : Addr} {fd : FuncData} (F : Fun K "__ge__" "Meeting.__ge__" cMeetingGe f fd) (T : MeetF P w K mg base C) : FnOk P w K mg base CX0 3 f fd ["self", "other"] (spCmpM C (fun R S => finer S R)) := by
  obtain ⟨gF, fdF, MF, bF, GF⟩ := T.fin
  refine F.ok scmGe (fun vs H Q E h => ?_) (fun cdv A outer s H vs Q E hr h => ?_)
  · obtain ⟨a, b, R, S, rfl, _⟩ := h
    rfl
  · obtain ⟨a, b, R, S, rfl, ma, mb, en, k⟩ := h
    refine ⟨_, pss_cons (ps_if (pt_not (pt_val (pe_callB (C8.call_isC T.c.isC) (by rfl) T.isi (by decide +kernel) (pa_cons (pv 1) (pa_cons (pe_glob (v := .ref C) (by rfl) T.c.glob rfl) pa_nil))))) pss_never pss_nil)
      (pss_one (ps_ret (pe_meth (pv 1) T.c.cls MF GF (hr.mono (by decide)) bF .nil pass0 (pa_cons (pv 0) pa_nil)))), ?_⟩
    obtain ⟨dx, t, d, n, cc, M, kvs, o⟩ := id ma
    obtain ⟨dx', t', d', n', cc', M', kvs', o'⟩ := id mb
    refine ⟨_, rfl, b, dx', _, rfl, o'.ob, _, rfl, iteF ?_⟩
    refine ⟨_, rfl, b, dx', _, rfl, o'.ob, rfl, _, rfl, b, a, S, R, rfl, mb, ma, en.symm, fun H1 s1 => ?_⟩
    exact k H1 s1
theorem scmLt : FnScope ["self", "other"] ["self", "other"] (defScope cMeetingLt) := ⟨rfl, rfl, rfl, by decide +kernel, rfl, by decide +kernel, by decide +kernel⟩
theorem ok_mLt {f : Addr} {fd : FuncData} (F : Fun K "__lt__" "Meeting.__lt__" cMeetingLt f fd) (T : MeetF P w K mg base C) : FnOk P w K mg base CX0 3 f fd ["self", "other"] (spCmpM C lessM) := by
  obtain ⟨gF, fdF, MF, bF, GF⟩ := T.fin
  refine F.ok scmLt (fun vs H Q E h => ?_) (fun cdv A outer s H vs Q E hr h => ?_)
  · obtain ⟨a, b, R, S, rfl, _⟩ := h
    rfl
  · obtain ⟨a, b, R, S, rfl, ma, mb, en, k⟩ := h
    refine ⟨_, pss_cons (ps_if (pt_not (pt_val (pe_callB (C8.call_isC T.c.isC) (by rfl) T.isi (by decide +kernel) (pa_cons (pv 1) (pa_cons (pe_glob (v := .ref C) (by rfl) T.c.glob rfl) pa_nil))))) pss_never pss_nil)
      (pss_one (ps_ret (pe_and (pe_meth (pv 0) T.c.cls MF GF (hr.mono (by decide)) bF .nil pass0 (pa_cons (pv 1) pa_nil)) (pe_one (pe_cmpR (op_neD hr.units) (pe_fld (pv 0) rfl) (pe_fld (pv 1) rfl) (nomark _)))))), ?_⟩
    obtain ⟨dx, t, d, n, cc, M, kvs, o⟩ := id ma
    obtain ⟨dx', t', d', n', cc', M', kvs', o'⟩ := id mb
    refine ⟨_, rfl, b, dx', _, rfl, o'.ob, _, rfl, iteF ?_⟩
    refine ⟨_, rfl, a, dx, _, rfl, o.ob, rfl, _, rfl, a, b, R, S, rfl, ma, mb, en, fun H1 s1 => ?_⟩
    refine ⟨_, rfl, ?_⟩
    cases e : finer R S with
    | false =>
      have z := k H1 s1
      simp only [lessM, e, Bool.false_and] at z
      exact iteF z
    | true =>
      refine iteT ?_
      refine ⟨_, rfl, a, C, dx, _, _, rfl, s1 _ _ o.ob, T.c.cls, T.c.nb, rfl, _, rfl, b, C, dx', _, _, rfl, s1 _ _ o'.ob, T.c.cls, T.c.nb, rfl, .tuple (R.map dS), .tuple (S.map dS), .tup (SqT.of (s1 _ _ o.bl)) (o.row ▸ dp_rows (o.tu.mono s1)), .tup (SqT.of (s1 _ _ o'.bl)) (o'.row ▸ dp_rows (o'.tu.mono s1)), sh_rows o.good.good.nm, sh_rows o'.good.good.nm, ?_⟩
      have e2 : PyData.eqv (.tuple (R.map dS)) (.tuple (S.map dS)) = decide (R = S) := by
        simp only [PyData.eqv]
        exact eqv_rows _ _
      rw [e2]
      have z := k H1 s1
      simp only [lessM, e, Bool.true_and] at z
      exact z
theorem scmGt : FnScope ["self", "other"] ["self", "other"] (defScope cMeetingGt) := ⟨rfl, rfl, rfl, by decide +kernel, rfl, by decide +kernel, by decide +kernel⟩
theorem ok_mGt {f : Addr} {fd : FuncData} (F : Fun K "__gt__" "Meeting.__gt__" cMeetingGt f fd) (T : MeetF P w K mg base C) : FnOk P w K mg base CX0 3 f fd ["self", "other"] (spCmpM C (fun R S => finer S R && !decide (R = S))) := by
  obtain ⟨gF, fdF, MF, bF, GF⟩ := T.fin
  refine F.ok scmGt (fun vs H Q E h => ?_) (fun cdv A outer s H vs Q E hr h => ?_)
  · obtain ⟨a, b, R, S, rfl, _⟩ := h
    rfl
  · obtain ⟨a, b, R, S, rfl, ma, mb, en, k⟩ := h
    refine ⟨_, pss_cons (ps_if (pt_not (pt_val (pe_callB (C8.call_isC T.c.isC) (by rfl) T.isi (by decide +kernel) (pa_cons (pv 1) (pa_cons (pe_glob (v := .ref C) (by rfl) T.c.glob rfl) pa_nil))))) pss_never pss_nil)
      (pss_one (ps_ret (pe_and (pe_meth (pv 1) T.c.cls MF GF (hr.mono (by decide)) bF .nil pass0 (pa_cons (pv 0) pa_nil)) (pe_one (pe_cmpR (op_neD hr.units) (pe_fld (pv 0) rfl) (pe_fld (pv 1) rfl) (nomark _)))))), ?_⟩
    obtain ⟨dx, t, d, n, cc, M, kvs, o⟩ := id ma
    obtain ⟨dx', t', d', n', cc', M', kvs', o'⟩ := id mb
    refine ⟨_, rfl, b, dx', _, rfl, o'.ob, _, rfl, iteF ?_⟩
    refine ⟨_, rfl, b, dx', _, rfl, o'.ob, rfl, _, rfl, b, a, S, R, rfl, mb, ma, en.symm, fun H1 s1 => ?_⟩
    refine ⟨_, rfl, ?_⟩
    cases e : finer S R with
    | false =>
      have z := k H1 s1
      simp only [lessM, e, Bool.false_and] at z
      exact iteF z
    | true =>
      refine iteT ?_
      refine ⟨_, rfl, a, C, dx, _, _, rfl, s1 _ _ o.ob, T.c.cls, T.c.nb, rfl, _, rfl, b, C, dx', _, _, rfl, s1 _ _ o'.ob, T.c.cls, T.c.nb, rfl, .tuple (R.map dS), .tuple (S.map dS), .tup (SqT.of (s1 _ _ o.bl)) (o.row ▸ dp_rows (o.tu.mono s1)), .tup (SqT.of (s1 _ _ o'.bl)) (o'.row ▸ dp_rows (o'.tu.mono s1)), sh_rows o.good.good.nm, sh_rows o'.good.good.nm, ?_⟩
      have e2 : PyData.eqv (.tuple (R.map dS)) (.tuple (S.map dS)) = decide (R = S) := by
        simp only [PyData.eqv]
        exact eqv_rows _ _
      rw [e2]
      have z := k H1 s1
      simp only [lessM, e, Bool.true_and] at z
      exact z
end
end K1
set_option linter.all false
set_option maxRecDepth 100000
set_option maxHeartbeats 1000000
namespace K1
open PySem L2
/-! ### codes: names parted by numbers -/
/-- the numbers of a code are those from 0 to k - 1 -/
def CodeOk (c : List Nat) (k : Nat) : Prop := ∀ v, v ∈ c ↔ v < k
def blk (zs : List Str) (c : List Nat) (j : Nat) : List Str := ((zs.zip c).filter fun p => decide (p.2 = j)).map (·.1)
def blocksOf (zs : List Str) (c : List Nat) (k : Nat) : List (List Str) := (List.range k).map (blk zs c)
theorem mem_blk {zs : List Str} {c : List Nat} {j : Nat} {x : Str} : x ∈ blk zs c j ↔ (x, j) ∈ zs.zip c := by
  unfold blk
  rw [List.mem_map]
  constructor
  · rintro ⟨p, hp, rfl⟩
    obtain ⟨h1, h2⟩ := List.mem_filter.mp hp
    have e := of_decide_eq_true h2
    subst e
    exact h1
  · intro h
    exact ⟨(x, j), List.mem_filter.mpr ⟨h, decide_eq_true rfl⟩, rfl⟩
theorem zip_key {α β : Type} {zs : List α} {c : List β} (nd : zs.Nodup) {x : α} {a b : β} (h1 : (x, a) ∈ zs.zip c) (h2 : (x, b) ∈ zs.zip c) : a = b := by
  obtain ⟨i, hi, e1⟩ := List.getElem_of_mem h1
  obtain ⟨j, hj, e2⟩ := List.getElem_of_mem h2
  rw [List.getElem_zip] at e1 e2
  have x1 : zs[i]'(by rw [List.length_zip] at hi; omega) = x := congrArg Prod.fst e1
  have x2 : zs[j]'(by rw [List.length_zip] at hj; omega) = x := congrArg Prod.fst e2
  have ij : i = j := (List.getElem_inj nd).mp (x1.trans x2.symm)
  subst ij
  exact (congrArg Prod.snd e1).symm.trans (congrArg Prod.snd e2)
theorem zip_fst_sub {α β : Type} : ∀ (zs : List α) (c : List β), ((zs.zip c).map (·.1)).Sublist zs
  | [], _ => List.Sublist.refl _
  | z :: r, [] => List.nil_sublist _
  | z :: r, a :: c => (zip_fst_sub r c).cons₂ z
theorem blk_sub (zs : List Str) (c : List Nat) (j : Nat) : (blk zs c j).Sublist zs := ((List.filter_sublist (p := fun p : Str × Nat => decide (p.2 = j)) (l := zs.zip c)).map _).trans (zip_fst_sub zs c)
theorem code_le {c : List Nat} {k : Nat} (h : CodeOk c k) : k ≤ c.length := by
  have := nodup_leK (l := List.range k) (D := c) List.nodup_range fun x hx => (h x).mpr (List.mem_range.mp hx)
  rwa [List.length_range] at this
theorem zip_of_code {zs : List Str} {c : List Nat} (e : zs.length = c.length) {j : Nat} (h : j ∈ c) : ∃ x, (x, j) ∈ zs.zip c := by
  obtain ⟨i, hi, ej⟩ := List.getElem_of_mem h
  refine ⟨zs[i]'(by omega), List.mem_iff_getElem.mpr ⟨i, by rw [List.length_zip]; omega, ?_⟩⟩
  rw [List.getElem_zip, ej]
theorem zip_of_name {zs : List Str} {c : List Nat} (e : zs.length = c.length) {x : Str} (h : x ∈ zs) : ∃ j, (x, j) ∈ zs.zip c := by
  obtain ⟨i, hi, ej⟩ := List.getElem_of_mem h
  refine ⟨c[i]'(by omega), List.mem_iff_getElem.mpr ⟨i, by rw [List.length_zip]; omega, ?_⟩⟩
  rw [List.getElem_zip, ej]
theorem flat_le {α : Type} {n : Nat} : ∀ {B : List (List α)}, (∀ b ∈ B, b.length ≤ n) → B.flatten.length ≤ B.length * n
  | [], _ => by simp
  | b :: B, h => by
    have h1 := h b (.head _)
    have h2 := flat_le (n := n) (B := B) fun c hc => h c (.tail _ hc)
    rw [List.flatten_cons, List.length_append, List.length_cons, Nat.add_mul, Nat.one_mul]
    omega
theorem good_blocks {zs : List Str} {c : List Nat} {k : Nat} (nd : zs.Nodup) (nm : ∀ z ∈ zs, nameOk z = true) (e : zs.length = c.length) (h : CodeOk c k) (few : zs.length ≤ 7) : GoodB (blocksOf zs c k) := by
  have kl := code_le h
  have bl : ∀ j, (blk zs c j).length ≤ 7 := fun j => Nat.le_trans (blk_sub zs c j).length_le few
  refine ⟨fun b hb z hz => ?_, fun b hb => ?_, fun b hb => ?_, ?_, ?_, fun b hb => ?_, ?_⟩
  · obtain ⟨j, _, rfl⟩ := List.mem_map.mp hb
    exact nm z ((blk_sub zs c j).mem hz)
  · obtain ⟨j, hj, rfl⟩ := List.mem_map.mp hb
    obtain ⟨x, hx⟩ := zip_of_code e ((h j).mpr (List.mem_range.mp hj))
    exact List.ne_nil_of_mem (mem_blk.mpr hx)
  · obtain ⟨j, _, rfl⟩ := List.mem_map.mp hb
    exact nd.sublist (blk_sub zs c j)
  · refine List.pairwise_map.mpr ((List.nodup_range (n := k)).imp fun {i j} ne z h1 h2 => ne ?_)
    exact zip_key nd (mem_blk.mp h1) (mem_blk.mp h2)
  · rw [blocksOf, List.length_map, List.length_range]
    omega
  · obtain ⟨j, _, rfl⟩ := List.mem_map.mp hb
    exact Nat.le_trans (bl j) (by decide)
  · refine Nat.le_trans (flat_le (n := 7) fun b hb => ?_) ?_
    · obtain ⟨j, _, rfl⟩ := List.mem_map.mp hb
      exact bl j
    · rw [blocksOf, List.length_map, List.length_range]
      omega
theorem one_blocks {zs : List Str} {c : List Nat} {k : Nat} (h : CodeOk c k) {x y : Str} : oneB (blocksOf zs c k) x y ↔ ∃ j, (x, j) ∈ zs.zip c ∧ (y, j) ∈ zs.zip c := by
  constructor
  · rintro ⟨b, hb, h1, h2⟩
    obtain ⟨j, _, rfl⟩ := List.mem_map.mp hb
    exact ⟨j, mem_blk.mp h1, mem_blk.mp h2⟩
  · rintro ⟨j, h1, h2⟩
    exact ⟨blk zs c j, List.mem_map.mpr ⟨j, List.mem_range.mpr ((h j).mp (List.of_mem_zip h1).2), rfl⟩, mem_blk.mpr h1, mem_blk.mpr h2⟩
theorem mem_blocks {zs : List Str} {c : List Nat} {k : Nat} (e : zs.length = c.length) (h : CodeOk c k) {x : Str} : x ∈ (blocksOf zs c k).flatten ↔ x ∈ zs := by
  rw [List.mem_flatten]
  constructor
  · rintro ⟨b, hb, hx⟩
    obtain ⟨j, _, rfl⟩ := List.mem_map.mp hb
    exact (blk_sub zs c j).mem hx
  · intro hx
    obtain ⟨j, hj⟩ := zip_of_name e hx
    obtain ⟨b, hb, h1, _⟩ := (one_blocks (zs := zs) h).mpr ⟨j, hj, hj⟩
    exact ⟨b, hb, h1⟩
/-! ### rows that are finer, and equal ones -/
theorem one_refl {R : List (List Str)} {x : Str} (h : x ∈ R.flatten) : oneB R x x := by
  obtain ⟨b, hb, hx⟩ := List.mem_flatten.mp h
  exact ⟨b, hb, hx, hx⟩
theorem finer_iff {R S : List (List Str)} (gR : GoodR R) (gS : GoodR S) (e : ∀ x, x ∈ R.flatten → x ∈ S.flatten) : finer R S = true ↔ ∀ x y, oneB R x y → oneB S x y := by
  have key : finer R S = true ↔ ∀ b ∈ R, ∀ z ∈ b, oneB S (b.headD "") z := by
    unfold finer
    rw [List.all_eq_true]
    refine forall_congr' fun b => forall_congr' fun hb => ?_
    rw [List.all_eq_true]
    refine forall_congr' fun z => forall_congr' fun hz => ?_
    unfold sameNum
    rw [decide_eq_true_eq]
    refine num_one gS.good.dis (e _ (List.mem_flatten.mpr ⟨b, hb, ?_⟩))
    cases b with
    | nil => exact absurd rfl (gR.good.ne _ hb)
    | cons x r => exact .head _
  rw [key]
  constructor
  · rintro h x y ⟨b, hb, hx, hy⟩
    have h1 := h b hb x hx
    have h2 := h b hb y hy
    obtain ⟨c, hc, c1, c2⟩ := h1
    obtain ⟨d, hd, d1, d2⟩ := h2
    obtain ⟨i, hi, ei⟩ := List.getElem_of_mem hc
    obtain ⟨j, hj, ej⟩ := List.getElem_of_mem hd
    have ij := dis_at gS.good.dis (List.getElem?_eq_getElem hi) (List.getElem?_eq_getElem hj) (z := b.headD "") (by rw [ei]; exact c1) (by rw [ej]; exact d1)
    subst ij
    have cd : c = d := ei.symm.trans ej
    subst cd
    exact ⟨c, hc, c2, d2⟩
  · intro h b hb z hz
    refine h _ _ ⟨b, hb, ?_, hz⟩
    cases b with
    | nil => exact nomatch hz
    | cons x r => exact .head _
theorem row_of_one {R S : List (List Str)} (gR : GoodR R) (gS : GoodR S) (h : ∀ x y, oneB R x y ↔ oneB S x y) {b : List Str} (hb : b ∈ R) : b ∈ S := by
  obtain ⟨x, r, rfl⟩ : ∃ x r, b = x :: r := by
    cases b with
    | nil => exact absurd rfl (gR.good.ne _ hb)
    | cons x r => exact ⟨x, r, rfl⟩
  obtain ⟨c, hc, hx, _⟩ := (h x x).mp ⟨_, hb, .head _, .head _⟩
  have uniq : ∀ {T : List (List Str)}, GoodR T → ∀ {p q : List Str}, p ∈ T → q ∈ T → ∀ {z : Str}, z ∈ p → z ∈ q → p = q := by
    intro T gT p q hp hq z hz1 hz2
    obtain ⟨i, hi, ei⟩ := List.getElem_of_mem hp
    obtain ⟨j, hj, ej⟩ := List.getElem_of_mem hq
    have ij := dis_at gT.good.dis (List.getElem?_eq_getElem hi) (List.getElem?_eq_getElem hj) (z := z) (by rw [ei]; exact hz1) (by rw [ej]; exact hz2)
    subst ij
    exact ei.symm.trans ej
  have e : x :: r = c := by
    refine asc_same tot_ltS (gR.up _ hb) (gS.up _ hc) fun z => ⟨fun hz => ?_, fun hz => ?_⟩
    · obtain ⟨d, hd, d1, d2⟩ := (h x z).mp ⟨_, hb, .head _, hz⟩
      have dc := uniq gS hd hc d1 hx
      exact dc ▸ d2
    · obtain ⟨d, hd, d1, d2⟩ := (h x z).mpr ⟨_, hc, hx, hz⟩
      have dc := uniq gR hd hb d1 (.head _)
      exact dc ▸ d2
  rw [e]
  exact hc
theorem rows_same {R S : List (List Str)} (gR : GoodR R) (gS : GoodR S) : R = S ↔ ∀ x y, oneB R x y ↔ oneB S x y := by
  constructor
  · rintro rfl x y
    exact Iff.rfl
  · intro h
    exact asc_same tot_lexS gR.upR gS.upR fun b => ⟨fun hb => row_of_one gR gS h hb, fun hb => row_of_one gS gR (fun x y => (h x y).symm) hb⟩
theorem rows_eq {R S : List (List Str)} (gR : GoodR R) (gS : GoodR S) (e : ∀ x, x ∈ R.flatten ↔ x ∈ S.flatten) : decide (R = S) = (finer R S && finer S R) := by
  refine Bool.eq_iff_iff.mpr ?_
  rw [decide_eq_true_eq, Bool.and_eq_true, finer_iff gR gS fun x => (e x).mp, finer_iff gS gR fun x => (e x).mpr, rows_same gR gS]
  exact ⟨fun h => ⟨fun x y => (h x y).mp, fun x y => (h x y).mpr⟩, fun h x y => ⟨h.1 x y, h.2 x y⟩⟩
/-! ### pairs of names that stand in one block -/
def pairsAt (zs : List Str) (c : List Nat) (k : Nat) : List (Str × Str) := ((List.range k).filter fun j => decide (c.getD j 0 = c.getD k 0)).map fun j => (zs.getD j "", zs.getD k "")
def pairsOf (zs : List Str) (c : List Nat) : List (Str × Str) := (List.range c.length).flatMap (pairsAt zs c)
theorem mem_pairs {zs : List Str} {c : List Nat} {x y : Str} : (x, y) ∈ pairsOf zs c ↔ ∃ j k, j < k ∧ k < c.length ∧ c.getD j 0 = c.getD k 0 ∧ zs.getD j "" = x ∧ zs.getD k "" = y := by
  unfold pairsOf pairsAt
  rw [List.mem_flatMap]
  constructor
  · rintro ⟨k, hk, h⟩
    obtain ⟨j, hj, e⟩ := List.mem_map.mp h
    obtain ⟨h1, h2⟩ := List.mem_filter.mp hj
    exact ⟨j, k, List.mem_range.mp h1, List.mem_range.mp hk, of_decide_eq_true h2, congrArg Prod.fst e, congrArg Prod.snd e⟩
  · rintro ⟨j, k, h1, h2, h3, h4, h5⟩
    exact ⟨k, List.mem_range.mpr h2, List.mem_map.mpr ⟨j, List.mem_filter.mpr ⟨List.mem_range.mpr h1, decide_eq_true h3⟩, by rw [h4, h5]⟩⟩
def lowOf (P Q : List (Str × Str)) : Bool := P.all fun p => decide (p ∈ Q)
theorem zip_at {zs : List Str} {c : List Nat} (e : zs.length = c.length) {x : Str} {v : Nat} : (x, v) ∈ zs.zip c ↔ ∃ i, i < c.length ∧ zs.getD i "" = x ∧ c.getD i 0 = v := by
  constructor
  · intro h
    obtain ⟨i, hi, q⟩ := List.getElem_of_mem h
    rw [List.length_zip] at hi
    rw [List.getElem_zip] at q
    refine ⟨i, by omega, ?_, ?_⟩
    · rw [List.getD_eq_getElem?_getD, List.getElem?_eq_getElem (by omega)]
      exact congrArg Prod.fst q
    · rw [List.getD_eq_getElem?_getD, List.getElem?_eq_getElem (by omega)]
      exact congrArg Prod.snd q
  · rintro ⟨i, hi, h1, h2⟩
    rw [List.getD_eq_getElem?_getD, List.getElem?_eq_getElem (by omega)] at h1 h2
    refine List.mem_iff_getElem.mpr ⟨i, by rw [List.length_zip]; omega, ?_⟩
    rw [List.getElem_zip]
    exact Prod.ext h1 h2
theorem getD_inj {zs : List Str} (nd : zs.Nodup) {i j : Nat} (hi : i < zs.length) (hj : j < zs.length) (h : zs.getD i "" = zs.getD j "") : i = j := by
  rw [List.getD_eq_getElem?_getD, List.getD_eq_getElem?_getD, List.getElem?_eq_getElem hi, List.getElem?_eq_getElem hj] at h
  exact (List.getElem_inj nd).mp h
theorem low_iff {zs : List Str} {c d : List Nat} (nd : zs.Nodup) (e : zs.length = c.length) (e2 : zs.length = d.length) : lowOf (pairsOf zs c) (pairsOf zs d) = true ↔ ∀ x y, (∃ v, (x, v) ∈ zs.zip c ∧ (y, v) ∈ zs.zip c) → ∃ v, (x, v) ∈ zs.zip d ∧ (y, v) ∈ zs.zip d := by
  unfold lowOf
  rw [List.all_eq_true]
  constructor
  · rintro h x y ⟨v, hx, hy⟩
    obtain ⟨i, hi, xi, ci⟩ := (zip_at e).mp hx
    obtain ⟨j, hj, yj, cj⟩ := (zip_at e).mp hy
    have go : ∀ i j, i < j → j < c.length → c.getD i 0 = c.getD j 0 → d.getD i 0 = d.getD j 0 := by
      intro i j l lj q
      have p := of_decide_eq_true (h _ (mem_pairs.mpr ⟨i, j, l, lj, q, rfl, rfl⟩))
      obtain ⟨i', j', l', lj', q', h1, h2⟩ := mem_pairs.mp p
      rw [← getD_inj nd (by omega) (by omega) h1, ← getD_inj nd (by omega) (by omega) h2]
      exact q'
    refine ⟨d.getD i 0, (zip_at e2).mpr ⟨i, by omega, xi, rfl⟩, (zip_at e2).mpr ⟨j, by omega, yj, ?_⟩⟩
    rcases Nat.lt_trichotomy i j with l | l | l
    · exact (go i j l hj (ci.trans cj.symm)).symm
    · rw [l]
    · exact go j i l hi (cj.trans ci.symm)
  · rintro h ⟨x, y⟩ hp
    obtain ⟨i, j, l, lj, q, rfl, rfl⟩ := mem_pairs.mp hp
    obtain ⟨v, h1, h2⟩ := h _ _ ⟨c.getD i 0, (zip_at e).mpr ⟨i, by omega, rfl, rfl⟩, (zip_at e).mpr ⟨j, by omega, rfl, q.symm⟩⟩
    obtain ⟨i', hi', a1, a2⟩ := (zip_at e2).mp h1
    obtain ⟨j', hj', b1, b2⟩ := (zip_at e2).mp h2
    have ei := getD_inj nd (by omega) (by omega) a1
    have ej := getD_inj nd (by omega) (by omega) b1
    subst ei ej
    exact decide_eq_true (mem_pairs.mpr ⟨i', j', l, hj', a2.trans b2.symm, rfl, rfl⟩)
/-- the meeting that a code makes -/
def rowsC (zs : List Str) (c : List Nat) (k : Nat) : List (List Str) := rowsOf (blocksOf zs c k)
theorem low_finer {zs : List Str} {c d : List Nat} {k l : Nat} (nd : zs.Nodup) (nm : ∀ z ∈ zs, nameOk z = true) (few : zs.length ≤ 7) (e : zs.length = c.length) (e2 : zs.length = d.length) (h1 : CodeOk c k) (h2 : CodeOk d l) : finer (rowsC zs c k) (rowsC zs d l) = lowOf (pairsOf zs c) (pairsOf zs d) := by
  have g1 := good_blocks nd nm e h1 few
  have g2 := good_blocks nd nm e2 h2 few
  refine Bool.eq_iff_iff.mpr ?_
  unfold rowsC
  rw [finer_iff (good_rows g1) (good_rows g2) fun x hx => (mem_rows g2).mpr ((mem_blocks e2 h2).mpr ((mem_blocks e h1).mp ((mem_rows g1).mp hx))), low_iff nd e e2]
  refine forall_congr' fun x => forall_congr' fun y => ?_
  rw [one_rows g1, one_rows g2, one_blocks h1, one_blocks h2]
theorem names_rowsC {zs : List Str} {c d : List Nat} {k l : Nat} (nd : zs.Nodup) (nm : ∀ z ∈ zs, nameOk z = true) (few : zs.length ≤ 7) (e : zs.length = c.length) (e2 : zs.length = d.length) (h1 : CodeOk c k) (h2 : CodeOk d l) : namesOf (rowsC zs c k) = namesOf (rowsC zs d l) := by
  have g1 := good_blocks nd nm e h1 few
  have g2 := good_blocks nd nm e2 h2 few
  refine asc_mem tot_ltS fun x => ?_
  rw [show x ∈ (rowsC zs c k).flatten ↔ x ∈ zs from (mem_rows g1).trans (mem_blocks e h1), show x ∈ (rowsC zs d l).flatten ↔ x ∈ zs from (mem_rows g2).trans (mem_blocks e2 h2)]
theorem eq_rowsC {zs : List Str} {c d : List Nat} {k l : Nat} (nd : zs.Nodup) (nm : ∀ z ∈ zs, nameOk z = true) (few : zs.length ≤ 7) (e : zs.length = c.length) (e2 : zs.length = d.length) (h1 : CodeOk c k) (h2 : CodeOk d l) : decide (rowsC zs c k = rowsC zs d l) = (lowOf (pairsOf zs c) (pairsOf zs d) && lowOf (pairsOf zs d) (pairsOf zs c)) := by
  have g1 := good_blocks nd nm e h1 few
  have g2 := good_blocks nd nm e2 h2 few
  rw [← low_finer nd nm few e e2 h1 h2, ← low_finer nd nm few e2 e h2 h1]
  unfold rowsC
  rw [rows_eq (good_rows g1) (good_rows g2) fun x => by
    rw [show x ∈ (rowsOf (blocksOf zs c k)).flatten ↔ x ∈ zs from (mem_rows g1).trans (mem_blocks e h1), show x ∈ (rowsOf (blocksOf zs d l)).flatten ↔ x ∈ zs from (mem_rows g2).trans (mem_blocks e2 h2)]]
end K1
set_option linter.all false
set_option maxRecDepth 100000
set_option maxHeartbeats 1000000
namespace K1
open PySem L2
/-- the scope of the comprehension that a def returns -/
def lcScope (s : Stmt) : Scope := match defBody s with
  | [.Return (some (.ListComp _ _ sc _)) _] => sc
  | [_, .Return (some (.ListComp _ _ sc _)) _] => sc
  | _ => defScope s
def codeV (c : List Nat) : List V := c.map fun (n : Nat) => V.int n
def cK (n : Nat) : Key := Sum.inl (n : Int)
theorem cK_inj {a b : Nat} (h : cK a = cK b) : a = b := by
  unfold cK at h
  injection h with h
  exact Int.ofNat.inj h
theorem codeV_keys (c : List Nat) : (c.map cK).map kV = codeV c := by
  rw [List.map_map]
  rfl
theorem len_code {c : List Nat} {k : Nat} (h : CodeOk c k) {D : List Key} (nd : D.Nodup) (m : ∀ x, x ∈ D ↔ x ∈ c.map cK) : D.length = k := by
  have e := len_of_mem (l := (List.range k).map cK) (D := D) (List.pairwise_map.mpr ((List.nodup_range (n := k)).imp fun ne e => ne (cK_inj e))) nd fun x => by
    rw [m, List.mem_map, List.mem_map]
    constructor
    · rintro ⟨v, hv, e⟩
      exact ⟨v, List.mem_range.mpr ((h v).mp hv), e⟩
    · rintro ⟨v, hv, e⟩
      exact ⟨v, (h v).mpr (List.mem_range.mp hv), e⟩
  rwa [List.length_map, List.length_range] at e
structure BlF (mg : Str → Option Value) : Prop where
  len : mg "len" = none
  set : mg "set" = none
  range : mg "range" = none
  zip : mg "zip" = none
def spBlocks : Sp := fun vs H Q _ => ∃ (a b : Addr) (zs : List Str) (c : List Nat) (k : Nat), vs = [.ref a, .ref b] ∧ H a = some (.lst (zs.map V.str)) ∧ H b = some (.tup (codeV c)) ∧ CodeOk c k ∧ zs.length = c.length ∧ zs.length ≤ 7 ∧
  ∀ (p : Addr) (B : TL) (H' : Hp), Same H H' → H p = none → H' p = some (.lst (refT B)) → LiT H' B → (∀ q ∈ B, H q.1 = none) → rowT B = blocksOf zs c k → Q (.ref p) H'
section
variable {P : Program} {w : World} {K : PySem.W.Frag} {mg : Str → Option Value} {base : Heap}
abbrev NBk : List Str := ["_law_names_here", "_law_code", "_law_k", "_law_name", "_law_x"]
theorem scBk : FnScope NBk ["_law_names_here", "_law_code"] (defScope sBlocks) := ⟨rfl, rfl, rfl, by decide +kernel, rfl, by decide +kernel, by decide +kernel⟩
theorem ok_blocks {f : Addr} {fd : FuncData} (F : Fun K "_law_blocks" "_law_blocks" sBlocks f fd) (T : BlF mg) : FnOk P w K mg base CX0 1 f fd ["_law_names_here", "_law_code"] spBlocks := by
  refine F.ok scBk (fun vs H Q E h => ?_) (fun cdv A outer s H vs Q E hr h => ?_)
  · obtain ⟨a, b, zs, c, k, rfl, _⟩ := h
    rfl
  · obtain ⟨a, b, zs, c, k, rfl, ha, hb, ck, el, few, kk⟩ := h
    refine ⟨_, pss_one (ps_ret (pe_lc (own := [("_law_k", 2)]) (g := gName 2) (tt := tYes) (te := tLc (iZipB K (tCons (tVar 0) (tCons (tVar 1) tNil))) (gTup K 2 (gCons (gName 3) (gCons (gName 4) gNil))) (tTest (tOp rEq (tVar 4) (tVar 2))) (tVar 3) [3, 4]) rfl scBk.nd
        (pi_range1 (by rfl) T.range (pa_cons (pe_callB call_lenX (by rfl) T.len PySem.boot_len (pa_cons (pe_callTy (cr_setX rfl) (by rfl) T.set (by decide +kernel) (pa_cons (pv 1) pa_nil)) pa_nil)) pa_nil))
        (blkOk_by (N := NBk) (sc := defScope sBlocks) (by decide +kernel))
        (fun _ _ _ _ _ => pg_name (i := 2) scBk.nd rfl (Or.inr rfl)) (fun _ _ _ _ _ => pts_nil)
        (fun _ _ _ _ _ => pe_lc (own := [("_law_name", 3), ("_law_x", 4)]) rfl scBk.nd
          (pi_zB (by rfl) T.zip (pa_cons (pv 0) (pa_cons (pv 1) pa_nil)))
          (blkOk_by (N := NBk) (sc := relS (lcScope sBlocks) (defScope sBlocks)) (by decide +kernel))
          (fun _ _ _ _ _ => pg_tup rfl (pgs_cons (pg_name (i := 3) scBk.nd rfl (Or.inl rfl)) (pgs_cons (pg_name (i := 4) scBk.nd rfl (Or.inl rfl)) pgs_nil)))
          (fun _ _ _ _ _ => pts_one (pt_cmpR op_eq (pv 4) (pv 2) (nomark _)))
          (fun _ _ _ _ _ => pv 3)))), ?_⟩
    refine ⟨_, rfl, b, c.map cK, rfl, .inr (.inl (SqT.of (by rw [codeV_keys]; exact hb))), by rw [List.length_map]; omega, fun st Ds nst ndD mD => ⟨st, Ds, rfl, upd_same, ?_⟩⟩
    have eL : Ds.length = k := len_code ck ndD mD
    have kl := code_le ck
    rw [eL]
    generalize KS _ st Ds = KO
    have s1 : Same H (upd H st KO) := same_new nst _
    generalize upd H st KO = H1 at *
    refine ⟨(k : Nat), rfl, by omega, by omega, fun D nD => ?_⟩
    have n0 : H D = none := s1.free nD
    have s2 := s1.trans (same_new nD (.lst []))
    refine lc_range (lo := 0) (n := k) (fun i H9 => ∃ B : TL, H9 D = some (.lst (refT B)) ∧ LiT H9 B ∧ rowT B = (List.range i).map (blk zs c) ∧ (∀ q ∈ B, H q.1 = none ∧ q.1 ≠ D) ∧ Same H H9) ⟨[], upd_same, (fun _ h => nomatch h), rfl, (fun _ h => nomatch h), s2⟩ ?_ ?_
    · rintro i H9 hi ⟨B, hD, hL, eB, nB, s9⟩
      refine ⟨rfl, ?_⟩
      refine ⟨_, rfl, _, rfl, false, true, a, b, zs.map V.str, codeV c, rfl, SqL.of (s9 _ _ ha), SqT.of (s9 _ _ hb), fun D2 nD2 => ?_⟩
      refine lc_it (walk_zB (n := zs.length) (by rw [codeV, List.length_map, List.length_map]; omega)) (fun j H12 => H12 D2 = some (.lst (((((zs.zip c).take j).filter fun p => decide (p.2 = i)).map (·.1)).map V.str)) ∧ Same H9 H12)
        ⟨upd_same, same_new nD2 _⟩ (fun j H12 _ q => ⟨SqL.of (q.2 _ _ (s9 _ _ ha)), SqT.of (q.2 _ _ (s9 _ _ hb))⟩) ?_ ?_
      · rintro j v H12 H13 hj ⟨h12, s12⟩ ⟨T0, x, y, rfl, nT0, rfl, ex, ey⟩
        have ex : (zs.map V.str)[j]? = some x := ex
        have ey : (codeV c)[j]? = some y := ey
        rw [List.getElem?_map] at ex
        obtain ⟨z, hz, rfl⟩ := Option.map_eq_some_iff.mp ex
        rw [codeV, List.getElem?_map] at ey
        obtain ⟨n, hn, rfl⟩ := Option.map_eq_some_iff.mp ey
        have zn : (zs.zip c)[j]? = some (z, n) := List.getElem?_zip_eq_some.mpr ⟨hz, hn⟩
        have s13 : Same H12 (upd H12 T0 (.tup [.str z, .int n])) := same_new nT0 _
        refine ⟨T0, [.str z, .int n], rfl, SqT.of upd_same, rfl, _, [.int n], rfl, .int n, [], rfl, rfl, ?_⟩
        refine ⟨rfl, ?_⟩
        have h13 : upd H12 T0 (.tup [.str z, .int n]) D2 = some (.lst (((((zs.zip c).take j).filter fun p => decide (p.2 = i)).map (·.1)).map V.str)) := s13 _ _ h12
        have s14 := s12.trans s13
        generalize upd H12 T0 (.tup [.str z, .int n]) = H13 at h13 s14
        have tk : (zs.zip c).take (j + 1) = (zs.zip c).take j ++ [(z, n)] := by rw [List.take_add_one, zn]; rfl
        refine ⟨_, rfl, _, rfl, rfl, _, rfl, ite2 (fun e => ?_) fun e => ?_⟩
        · have ni : n = i := by
            have e := of_decide_eq_true e
            injection e with e
            omega
          refine ⟨_, rfl, _, h13, ?_, ?_, fun q o hq => ?_⟩
          · rw [List.length_map, List.length_map]
            refine small1000 (Nat.le_trans (List.length_filter_le _ _) ?_)
            rw [List.length_take]
            omega
          · rw [upd_same, tk, List.filter_append, List.filter_cons, if_pos (decide_eq_true ni)]
            simp
          · rw [upd_ne (ne_of_none hq nD2)]
            exact s14 _ _ hq
        · refine ⟨?_, s14⟩
          have ni : ¬ n = i := fun q => e (by rw [q]; simp)
          rw [h13, tk, List.filter_append, List.filter_cons, if_neg (by simpa using ni)]
          simp
      · rintro H12 ⟨h12, s12⟩
        have ez : (zs.zip c).take zs.length = zs.zip c := List.take_of_length_le (by rw [List.length_zip]; omega)
        rw [ez] at h12
        have nd2 : H D2 = none := s9.free nD2
        have dne : D ≠ D2 := ne_of_none hD nD2
        refine ⟨refT B, s12 _ _ hD, small1000 (by
          have := congrArg List.length eB
          rw [rowT_len, List.length_map, List.length_range] at this
          rw [refT_len]
          omega), B ++ [(D2, blk zs c i)], by rw [upd_same, refT_app]; rfl, fun q hq => ?_, ?_, fun q hq => ?_, fun q o hq => ?_⟩
        · rcases List.mem_append.mp hq with m | m
          · rw [upd_ne (nB q m).2]
            exact s12 _ _ (hL q m)
          · obtain rfl := List.mem_singleton.mp m
            rw [upd_ne dne.symm]
            exact h12
        · rw [rowT_app, eB, List.range_succ, List.map_append]
          rfl
        · rcases List.mem_append.mp hq with m | m
          · exact nB q m
          · obtain rfl := List.mem_singleton.mp m
            exact ⟨nd2, dne.symm⟩
        · rw [upd_ne (ne_of_none hq n0)]
          exact s12 _ _ (s9 _ _ hq)
    · rintro H9 ⟨B, hD, hL, eB, nB, s9⟩
      exact kk D B H9 s9 n0 hD hL (fun q hq => (nB q hq).1) eB
end
end K1
set_option linter.all false
set_option maxRecDepth 100000
set_option maxHeartbeats 1000000
namespace K1
open PySem L2
theorem Spr.no {H : Hp} {st l : Addr} {cs : List Int} {n : Nat} {b : Addr} {o : HO} (S : Spr H st l cs n) (h : H b = some o) (ho : ∀ xs, o ≠ .lst xs) : b ≠ st := by
  obtain ⟨⟨i, k, c, g, e, _⟩, _⟩ := S
  intro z
  rw [z, e] at h
  exact ho _ (Option.some.inj h).symm
theorem Spr.up {H : Hp} {st l : Addr} {cs : List Int} {n m : Nat} (S : Spr H st l cs n) (h : n ≤ m) : Spr H st l cs m := by
  obtain ⟨⟨i, k, c, g, e, q1, q2, q3, q4, q5⟩, r1, r2, r3⟩ := S
  exact ⟨⟨i, k, c, g, e, q1, q2, q3, q4, Nat.le_trans q5 h⟩, r1, r2, r3⟩
theorem Spr.upd {H : Hp} {st l D : Addr} {cs : List Int} {n : Nat} {o : HO} (S : Spr H st l cs n) (h1 : D ≠ st) (h2 : D ≠ l) : Spr (upd H D o) st l cs n := by
  obtain ⟨⟨i, k, c, g, e, q⟩, r1, r2, r3⟩ := S
  exact ⟨⟨i, k, c, g, by rw [upd_ne h1.symm]; exact e, q⟩, by rw [upd_ne h2.symm]; exact r1, r2, r3⟩
/-- one of a tuple's things -/
def spOneT : Sp := fun vs H Q _ => ∃ (st l a : Addr) (cs : List Int) (n : Nat) (xs : List V), vs = [.ref st, .ref a] ∧ H a = some (.tup xs) ∧ 0 < xs.length ∧ xs.length < 1000 ∧ n < 1000000 ∧ Spr H st l cs n ∧
  ∀ (x : V) (H' : Hp), x ∈ xs → Spr H' st l cs (n + 1) → (∀ b, b ≠ st → H' b = H b) → Q x H'
/-- t + u, the right one not empty and new -/
def rCatN (K : PySem.W.Frag) : R2 := fun x y H Q => ∃ a b xs ys, x = .ref a ∧ y = .ref b ∧ SqT K H a xs ∧ H b = some (.tup ys) ∧ ys ≠ [] ∧ xs.length + ys.length ≤ sizeLine ∧ ∀ t H', H' t = some (.tup (xs ++ ys)) → (t = b ∨ H t = none) → Same H H' → Q (.ref t) H'
theorem op_catN {X : Cx} {K : PySem.W.Frag} (h : X.K = K := by rfl) : OpR X (binaryOp .Add) (rCatN K) := by
  subst h
  intro pins s σ H x y v u Q I rx ry h
  obtain ⟨a, b, xs, ys, rfl, rfl, ha, hb, ne, hz, q⟩ := h
  exact op_catA pins s σ H _ _ v u Q I rx ry ⟨a, b, xs, ys, rfl, rfl, ha, SqT.of hb, hz, fun e => q b H (by rw [e]; exact hb) (.inl rfl) (Same.refl H), fun _ e => absurd e ne, fun _ _ p np => q p _ upd_same (.inr np) (same_new np _)⟩
end K1
set_option maxRecDepth 100000
set_option maxHeartbeats 4000000
namespace K1
open PySem L2
/-- a flat value, or a flat dict, beside itself -/
inductive Sc (K : PySem.W.Frag) (H : Hp) : V → String → Prop where
  | non : Sc K H .non "NoneType"
  | str (z : Str) : Sc K H (.str z) "str"
  | dic {a : Addr} {kvs : List (Key × V)} : H a = some (.dK kvs) → (kvs.map (·.1)).Nodup → (∀ p ∈ kvs, flatB p.2 = true) → Sc K H (.ref a) "dict"
def SameV (K : PySem.W.Frag) (H : Hp) : Nat → V → V → Prop
  | 0, _, _ => False
  | n + 1, x, y => (∃ i, x = .int i ∧ y = .int i) ∨ (∃ b, x = .bl b ∧ y = .bl b) ∨ (x = y ∧ ∃ nm, Sc K H x nm) ∨
    ∃ (a b : Addr) (xs ys : List V), x = .ref a ∧ y = .ref b ∧ ((H a = some (.lst xs) ∧ H b = some (.lst ys)) ∨ (H a = some (.tup xs) ∧ H b = some (.tup ys))) ∧ xs.length = ys.length ∧ xs.length ≤ 1000 ∧
      ∀ (i : Nat) (u v : V), xs[i]? = some u → ys[i]? = some v → SameV K H n u v
theorem Sc.mono {K : PySem.W.Frag} {H H' : Hp} {x : V} {nm : String} (h : Sc K H x nm) (s : Same H H') : Sc K H' x nm := by
  cases h with
  | non => exact .non
  | str z => exact .str z
  | dic h1 h2 h3 => exact .dic (s _ _ h1) h2 h3
theorem SameV.mono {K : PySem.W.Frag} {H H' : Hp} (s : Same H H') : ∀ {n : Nat} {x y : V}, SameV K H n x y → SameV K H' n x y
  | 0, _, _, h => (show False from h).elim
  | _ + 1, _, _, h => h.imp_right fun h => h.imp_right fun h => Or.imp (fun ⟨e, nm, h⟩ => ⟨e, nm, h.mono s⟩) (fun ⟨a, b, xs, ys, e1, e2, h, l1, l2, k⟩ =>
    ⟨a, b, xs, ys, e1, e2, Or.imp (fun q => ⟨s _ _ q.1, s _ _ q.2⟩) (fun q => ⟨s _ _ q.1, s _ _ q.2⟩) h, l1, l2, fun i u v h1 h2 => SameV.mono s (k i u v h1 h2)⟩) h
def spSame (K : PySem.W.Frag) (n : Nat) : Sp := fun vs H Q _ => ∃ (x y : V), vs = [x, y] ∧ SameV K H n x y ∧ ∀ H', Same H H' → Q (.bl true) H'
theorem iteD {c A B : Prop} [Decidable c] (hc : c) (h : A) : if decide c = true then A else B := by
  rw [decide_eq_true hc]
  exact iteT h
theorem kitA2 {K : PySem.W.Frag} {a b c : String} {r s : Bool} (h1 : kitB a b = some r) (h2 : kitB a c = some s) : PySem.W.kitAny K (.type a) [.type b, .type c] = some (r || s) := by
  refine kitAny_cons (kit_ty h1) (fun e => ?_) (fun e => by rw [e]; rfl)
  subst e
  rw [Bool.false_or]
  exact kitAny_cons (kit_ty h2) (fun e => by subst e; exact kitAny_nil) (fun e => by rw [e])
theorem kitA3 {K : PySem.W.Frag} {a b c d : String} {r s t : Bool} (h1 : kitB a b = some r) (h2 : kitB a c = some s) (h3 : kitB a d = some t) : PySem.W.kitAny K (.type a) [.type b, .type c, .type d] = some (r || (s || t)) := by
  refine kitAny_cons (kit_ty h1) (fun e => ?_) (fun e => by rw [e]; rfl)
  subst e
  rw [Bool.false_or]
  exact kitA2 h2 h3
theorem same_cases {K : PySem.W.Frag} {H : Hp} {n : Nat} {x y : V} (S : SameV K H (n + 1) x y) {R : Prop}
    (num : ∀ (v : V) (nm : String) (bb : Bool), x = v → y = v → (∀ H, TyX K H v (.type nm)) → kitB nm "list" = some false → kitB nm "tuple" = some false → kitB nm "int" = some true → kitB nm "bool" = some bb → scal v v = true → R)
    (flat : ∀ (nm : String), x = y → Sc K H x nm → R)
    (seq : ∀ (nm : String) (a b : Addr) (xs ys : List V), x = .ref a → y = .ref b → kitB nm "list" = some (nm == "list") → kitB nm "tuple" = some (nm == "tuple") → (nm == "list" || nm == "tuple") = true →
      (∀ H', Same H H' → TyX K H' x (.type nm)) → (∀ H', Same H H' → TyX K H' y (.type nm)) → ((H a = some (.lst xs) ∧ H b = some (.lst ys)) ∨ (H a = some (.tup xs) ∧ H b = some (.tup ys))) →
      xs.length = ys.length → xs.length ≤ 1000 → (∀ (i : Nat) (u v : V), xs[i]? = some u → ys[i]? = some v → SameV K H n u v) → R) : R := by
  rcases S with ⟨i, e1, e2⟩ | ⟨b, e1, e2⟩ | ⟨e, nm, h⟩ | ⟨a, b, xs, ys, e1, e2, h, l1, l2, q⟩
  · exact num _ "int" false e1 e2 (fun _ => .base (.int i)) (by decide +kernel) (by decide +kernel) (by decide +kernel) (by decide +kernel) rfl
  · exact num _ "bool" true e1 e2 (fun _ => .base (.bl b)) (by decide +kernel) (by decide +kernel) (by decide +kernel) (by decide +kernel) rfl
  · exact flat nm e h
  · rcases h with h | h
    · exact seq "list" a b xs ys e1 e2 (by decide +kernel) (by decide +kernel) rfl (fun H' s => by rw [e1]; exact .base (.lst (s _ _ h.1))) (fun H' s => by rw [e2]; exact .base (.lst (s _ _ h.2))) (.inl h) l1 l2 q
    · exact seq "tuple" a b xs ys e1 e2 (by decide +kernel) (by decide +kernel) rfl (fun H' s => by rw [e1]; exact .base (.tup (s _ _ h.1))) (fun H' s => by rw [e2]; exact .base (.tup (s _ _ h.2))) (.inr h) l1 l2 q
theorem Sc.ty {K : PySem.W.Frag} {H : Hp} {x : V} {nm : String} (h : Sc K H x nm) : TyX K H x (.type nm) := by
  cases h with
  | non => exact .base .non
  | str z => exact .base (.str z)
  | dic h _ _ => exact .base (.dK h)
theorem Sc.kit {K : PySem.W.Frag} {H : Hp} {x : V} {nm : String} (h : Sc K H x nm) : kitB nm "list" = some false ∧ kitB nm "tuple" = some false ∧ kitB nm "int" = some false := by
  cases h <;> exact ⟨by decide +kernel, by decide +kernel, by decide +kernel⟩
/-- both in step: the pairs of a zip of two lists, of two tuples -/
theorem walk_zipT {K : PySem.W.Frag} {a b : Addr} {xs ys : List V} {n : Nat} (h1 : n = xs.length) (h2 : n = ys.length) : Walk (RZ.ItzT K a b) n (fun H => SqT K H a xs ∧ SqT K H b ys) (YPair (fun i => xs[i]?) (fun i => ys[i]?)) := by
  refine ⟨fun i _ hi q => ?_, fun _ q => ⟨xs, ys, q.1, q.2, .inl (by omega)⟩, fun i H v H' _ q y => ?_⟩
  · have l1 : i < xs.length := by omega
    have l2 : i < ys.length := by omega
    exact ⟨xs, ys, xs[i], ys[i], q.1, q.2, by simp [l1], by simp [l2]⟩
  · obtain ⟨t, u, v, e1, e2, e3, e4, e5⟩ := y
    exact ⟨t, u, v, e1, e2, e3, e4 xs q.1, e5 ys q.2⟩
structure TxtS (mg : Str → Option Value) : Prop where
  isi : mg "isinstance" = none
  list : mg "list" = none
  tuple : mg "tuple" = none
  len : mg "len" = none
  all : mg "all" = none
  zip : mg "zip" = none
  int : mg "int" = none
  bool : mg "bool" = none
section
variable {P : Program} {w : World} {K : PySem.W.Frag} {mg : Str → Option Value} {base : Heap}
abbrev NS : List Str := ["_law_found", "_law_due", "_law_x", "_law_y"]
theorem scS : FnScope NS ["_law_found", "_law_due"] (defScope sSame) := ⟨rfl, rfl, rfl, by decide +kernel, rfl, by decide +kernel, by decide +kernel⟩
theorem ok_same {n : Nat} {f : Addr} {fd : FuncData} (F : Fun K "_law_same" "_law_same" sSame f fd) (T : TxtS mg) (G : FnOk P w K mg base CX0 n f fd ["_law_found", "_law_due"] (spSame K n)) (bG : Binds K fd ["_law_found", "_law_due"] []) (gG : mg "_law_same" = some (.ref f)) :
    FnOk P w K mg base CX0 (n + 1) f fd ["_law_found", "_law_due"] (spSame K (n + 1)) := by
  refine F.ok scS (fun vs H Q E h => ?_) (fun cdv A outer s H vs Q E hr h => ?_)
  · obtain ⟨x, y, rfl, _⟩ := h
    rfl
  · obtain ⟨x, y, rfl, S, k⟩ := h
    refine ⟨_, pss_cons (ps_if (pt_val (pe_callB call_isiT (by rfl) T.isi (by decide +kernel) (pa_cons (pv 1) (pa_cons (pe_tup (pa_cons (pe_bltn (v := .ty "list") (by rfl) T.list (by decide +kernel) rfl) (pa_cons (pe_bltn (v := .ty "tuple") (by rfl) T.tuple (by decide +kernel) rfl) pa_nil))) pa_nil))))
        (pss_cons (ps_if (pw_or (pt_cmpR op_ne (pe_callB call_isi (by rfl) T.isi (by decide +kernel) (pa_cons (pv 0) (pa_cons (pe_bltn (v := .ty "list") (by rfl) T.list (by decide +kernel) rfl) pa_nil)))
                (pe_callB call_isi (by rfl) T.isi (by decide +kernel) (pa_cons (pv 1) (pa_cons (pe_bltn (v := .ty "list") (by rfl) T.list (by decide +kernel) rfl) pa_nil))) (nomark _))
              (pw_or1 (pt_cmpR op_ne (pe_callB call_isi (by rfl) T.isi (by decide +kernel) (pa_cons (pv 0) (pa_cons (pe_bltn (v := .ty "tuple") (by rfl) T.tuple (by decide +kernel) rfl) pa_nil)))
                (pe_callB call_isi (by rfl) T.isi (by decide +kernel) (pa_cons (pv 1) (pa_cons (pe_bltn (v := .ty "tuple") (by rfl) T.tuple (by decide +kernel) rfl) pa_nil))) (nomark _)))).pt (pss_one (ps_ret pe_bl)) pss_nil)
          (pss_one (ps_ret (pe_and (pe_cmpR op_eq (pe_callB call_len_seq (by rfl) T.len PySem.boot_len (pa_cons (pv 0) pa_nil)) (pe_callB call_len_seq (by rfl) T.len PySem.boot_len (pa_cons (pv 1) pa_nil)) (nomark _))
            (pe_one (pe_callB (cr_all rfl) (by rfl) T.all (by decide +kernel) (pa_cons (pe_lc (own := [("_law_x", 2), ("_law_y", 3)]) (g := gTup K 2 (gCons (gName 2) (gCons (gName 3) gNil))) (tt := tYes) rfl scS.nd (RZ.pi_zipA (by rfl) T.zip (pa_cons (pv 0) (pa_cons (pv 1) pa_nil))) (blkOk_by (N := NS) (sc := defScope sSame) (by decide +kernel))
              (fun _ _ _ _ _ => pg_tup rfl (pgs_cons (pg_name (i := 2) scS.nd rfl (Or.inl rfl)) (pgs_cons (pg_name (i := 3) scS.nd rfl (Or.inl rfl)) pgs_nil))) (fun _ _ _ _ _ => pts_nil)
              (fun _ _ _ _ _ => pe_call G hr rfl gG F.kp bG .nil pass0 (pa_cons (pv 2) (pa_cons (pv 3) pa_nil)))) pa_nil)))))))
        pss_nil)
      (pss_cons (ps_if (pt_val (pe_callB call_isi (by rfl) T.isi (by decide +kernel) (pa_cons (pv 1) (pa_cons (pe_bltn (v := .ty "int") (by rfl) T.int (by decide +kernel) rfl) pa_nil))))
        (pss_one (ps_ret (pe_and (pe_callB call_isi (by rfl) T.isi (by decide +kernel) (pa_cons (pv 0) (pa_cons (pe_bltn (v := .ty "int") (by rfl) T.int (by decide +kernel) rfl) pa_nil)))
          (pe_and (pe_cmpR op_eq (pe_callB call_isi (by rfl) T.isi (by decide +kernel) (pa_cons (pv 0) (pa_cons (pe_bltn (v := .ty "bool") (by rfl) T.bool (by decide +kernel) rfl) pa_nil))) (pe_callB call_isi (by rfl) T.isi (by decide +kernel) (pa_cons (pv 1) (pa_cons (pe_bltn (v := .ty "bool") (by rfl) T.bool (by decide +kernel) rfl) pa_nil))) (nomark _))
            (pe_one (pe_cmpR op_eq (pv 0) (pv 1) (nomark _)))))))
        pss_nil)
      (pss_one (ps_ret (pe_and (pe_cmpR op_isBl (pe_callB call_isiT (by rfl) T.isi (by decide +kernel) (pa_cons (pv 0) (pa_cons (pe_tup (pa_cons (pe_bltn (v := .ty "int") (by rfl) T.int (by decide +kernel) rfl) (pa_cons (pe_bltn (v := .ty "list") (by rfl) T.list (by decide +kernel) rfl) (pa_cons (pe_bltn (v := .ty "tuple") (by rfl) T.tuple (by decide +kernel) rfl) pa_nil)))) pa_nil))) pe_bl (nomark _))
        (pe_one (pe_cmpR (OpR.or op_eq (op_eq_dict (Nat.lt_of_le_of_lt (Nat.le_add_right _ 64) hr.units))) (pv 0) (pv 1) (nomark _))))))), ?_⟩
    refine same_cases S ?num ?flat ?seq
    case num =>
      intro v nm bb e1 e2 ty k1 k2 k3 k4 sc
      subst e1 e2
      refine ⟨_, rfl, sz (Nat.le_of_ble_eq_true rfl), fun tp ntp => ⟨_, tp, [.ty "list", .ty "tuple"], .type nm, [.type "list", .type "tuple"], _, rfl, upd_same, .cons (.ty _) (.cons (.ty _) .nil), ty _, kitA2 k1 k2, _, rfl, iteF ?_⟩⟩
      refine ⟨_, rfl, _, .ty "int", .type nm, .type "int", _, rfl, .ty _, ty _, kit_ty k3, _, rfl, iteT ?_⟩
      refine ⟨_, rfl, _, .ty "int", .type nm, .type "int", _, rfl, .ty _, ty _, kit_ty k3, _, rfl, iteT ?_⟩
      refine ⟨_, rfl, _, .ty "bool", .type nm, .type "bool", _, rfl, .ty _, ty _, kit_ty k4, _, rfl, _, .ty "bool", .type nm, .type "bool", _, rfl, .ty _, ty _, kit_ty k4, rfl, _, rfl, iteD rfl ?_⟩
      refine ⟨_, rfl, _, rfl, sc, ?_⟩
      rw [decide_eq_true rfl]
      exact k _ (same_new ntp _)
    case flat =>
      intro nm e h
      subst e
      obtain ⟨k1, k2, k3⟩ := h.kit
      refine ⟨_, rfl, sz (Nat.le_of_ble_eq_true rfl), fun tp ntp => ⟨_, tp, [.ty "list", .ty "tuple"], .type nm, [.type "list", .type "tuple"], _, rfl, upd_same, .cons (.ty _) (.cons (.ty _) .nil), (h.mono (same_new ntp _)).ty, kitA2 k1 k2, _, rfl, iteF ?_⟩⟩
      refine ⟨_, rfl, _, .ty "int", .type nm, .type "int", _, rfl, .ty _, (h.mono (same_new ntp _)).ty, kit_ty k3, _, rfl, iteF ?_⟩
      refine ⟨_, rfl, sz (Nat.le_of_ble_eq_true rfl), fun t2 n2 => ?_⟩
      have s2 : Same H (upd _ t2 (.tup [.ty "int", .ty "list", .ty "tuple"])) := (same_new ntp _).trans (same_new n2 _)
      refine ⟨_, t2, [.ty "int", .ty "list", .ty "tuple"], .type nm, [.type "int", .type "list", .type "tuple"], _, rfl, upd_same, .cons (.ty _) (.cons (.ty _) (.cons (.ty _) .nil)), (h.mono s2).ty, kitA3 k3 k1 k2, _, _, rfl, rfl, _, rfl, iteD rfl ?_⟩
      refine ⟨_, rfl, _, rfl, ?_⟩
      cases h with
      | non => exact .inl ⟨rfl, by rw [decide_eq_true rfl]; exact k _ s2⟩
      | str z => exact .inl ⟨rfl, by rw [decide_eq_true rfl]; exact k _ s2⟩
      | dic h1 h2 h3 => exact .inr ⟨_, _, _, rfl, rfl, s2 _ _ h1, s2 _ _ h1, h2, h3, k _ s2⟩
    case seq => 
      intro nm a b xs ys e1 e2 k1 k2 k3 tx ty hb l1 l2 q
      refine ⟨_, rfl, sz (Nat.le_of_ble_eq_true rfl), fun tp ntp => ⟨_, tp, [.ty "list", .ty "tuple"], .type nm, [.type "list", .type "tuple"], _, rfl, upd_same, .cons (.ty _) (.cons (.ty _) .nil), ty _ (same_new ntp _), kitA2 k1 k2, _, rfl, ?_⟩⟩
      rw [k3]
      refine iteT ?_
      refine ⟨_, rfl, _, .ty "list", .type nm, .type "list", _, rfl, .ty _, tx _ (same_new ntp _), kit_ty k1, _, rfl, _, .ty "list", .type nm, .type "list", _, rfl, .ty _, ty _ (same_new ntp _), kit_ty k1, rfl, _, rfl, iteNS rfl ?_⟩
      refine ⟨_, rfl, _, .ty "tuple", .type nm, .type "tuple", _, rfl, .ty _, tx _ (same_new ntp _), kit_ty k2, _, rfl, _, .ty "tuple", .type nm, .type "tuple", _, rfl, .ty _, ty _ (same_new ntp _), kit_ty k2, rfl, _, rfl, iteNS rfl ?_⟩
      subst e1 e2
      have sq : ∀ H', Same H H' → (SqL K H' a xs ∨ SqT K H' a xs) ∧ (SqL K H' b ys ∨ SqT K H' b ys) := fun H' s => by
        rcases hb with ⟨h1, h2⟩ | ⟨h1, h2⟩
        · exact ⟨.inl (SqL.of (s _ _ h1)), .inl (SqL.of (s _ _ h2))⟩
        · exact ⟨.inr (SqT.of (s _ _ h1)), .inr (SqT.of (s _ _ h2))⟩
      refine ⟨_, rfl, a, xs, rfl, (sq _ (same_new ntp _)).1, _, rfl, b, ys, rfl, (sq _ (same_new ntp _)).2, rfl, _, rfl, iteD (by rw [l1]) ?_⟩
      have turn : ∀ (D : Addr) (i : Nat) (H2 H3 : Hp) (T : Addr) (u v : V), H2 T = none → H3 = upd H2 T (.tup [u, v]) → Same H H2 → H2 D = some (.lst (List.replicate i (.bl true))) → i < xs.length → SameV K H n u v →
          Same H H3 ∧ H3 D = some (.lst (List.replicate i (.bl true))) ∧ H3 T = some (.tup [u, v]) ∧ SameV K H3 n u v := fun D i H2 H3 T u v nT e s hD hi h => by
        subst e
        have s3 := s.trans (same_new nT (.tup [u, v]))
        exact ⟨s3, by rw [upd_ne (ne_of_none hD nT)]; exact hD, upd_same, h.mono s3⟩
      have fin : ∀ (D : Addr) (H2 : Hp), H2 D = some (.lst (List.replicate xs.length (.bl true))) → SqL K H2 D ((List.replicate xs.length true).map V.bl) := fun D H2 h => SqL.of (by rw [List.map_replicate]; exact h)
      have eall : (List.replicate xs.length true).all id = true := by rw [List.all_eq_true]; intro b hb; exact (List.mem_replicate.mp hb).2
      refine ⟨_, rfl, _, rfl, a, b, xs, ys, rfl, ?_⟩
      rcases hb with ⟨h1, h2⟩ | ⟨h1, h2⟩
      · refine .inl ⟨SqL.of ((same_new ntp _) _ _ h1), SqL.of ((same_new ntp _) _ _ h2), fun D nD => ?_⟩
        refine lc_it (walk_zip (n := xs.length) (by omega)) (fun i H2 => Same H H2 ∧ H2 D = some (.lst (List.replicate i (.bl true)))) ⟨(same_new ntp _).trans (same_new nD _), upd_same⟩ (fun i H2 _ p => ⟨SqL.of (p.1 _ _ h1), SqL.of (p.1 _ _ h2)⟩) ?_ ?_
        · rintro i x H2 H3 hi ⟨s, hD⟩ ⟨t, u, v, rfl, nt, e, eu, ev⟩
          obtain ⟨s3, d3, t3, q3⟩ := turn D i H2 H3 t u v nt e s hD hi (q i u v eu ev)
          refine ⟨t, [u, v], rfl, SqT.of t3, rfl, u, [v], rfl, v, [], rfl, rfl, rfl, ?_⟩
          refine ⟨_, rfl, _, rfl, u, v, rfl, q3, fun H4 s4 => ⟨_, s4 _ _ d3, ?_, ?_⟩⟩
          · rw [List.length_replicate]
            exact small1000 (by omega)
          · have n0 : H D = none := (same_new ntp _).free nD
            refine ⟨fun z o hz => ?_, by rw [upd_same, List.replicate_succ']⟩
            rw [upd_ne (ne_of_none hz n0)]
            exact s4 _ _ (s3 _ _ hz)
        · rintro H2 ⟨s, hD⟩
          refine ⟨D, List.replicate xs.length true, rfl, fin D H2 hD, ?_⟩
          rw [eall]
          exact k _ s
      · refine .inr ⟨SqT.of ((same_new ntp _) _ _ h1), SqT.of ((same_new ntp _) _ _ h2), fun D nD => ?_⟩
        refine lc_it (walk_zipT (n := xs.length) rfl l1) (fun i H2 => Same H H2 ∧ H2 D = some (.lst (List.replicate i (.bl true)))) ⟨(same_new ntp _).trans (same_new nD _), upd_same⟩ (fun i H2 _ p => ⟨SqT.of (p.1 _ _ h1), SqT.of (p.1 _ _ h2)⟩) ?_ ?_
        · rintro i x H2 H3 hi ⟨s, hD⟩ ⟨t, u, v, rfl, nt, e, eu, ev⟩
          obtain ⟨s3, d3, t3, q3⟩ := turn D i H2 H3 t u v nt e s hD hi (q i u v eu ev)
          refine ⟨t, [u, v], rfl, SqT.of t3, rfl, u, [v], rfl, v, [], rfl, rfl, rfl, ?_⟩
          refine ⟨_, rfl, _, rfl, u, v, rfl, q3, fun H4 s4 => ⟨_, s4 _ _ d3, ?_, ?_⟩⟩
          · rw [List.length_replicate]
            exact small1000 (by omega)
          · have n0 : H D = none := (same_new ntp _).free nD
            refine ⟨fun z o hz => ?_, by rw [upd_same, List.replicate_succ']⟩
            rw [upd_ne (ne_of_none hz n0)]
            exact s4 _ _ (s3 _ _ hz)
        · rintro H2 ⟨s, hD⟩
          refine ⟨D, List.replicate xs.length true, rfl, fin D H2 hD, ?_⟩
          rw [eall]
          exact k _ s
theorem same_none {f : Addr} {fd : FuncData} : FnOk P w K mg base CX0 0 f fd ["_law_found", "_law_due"] (spSame K 0) := by
  have no : ∀ vs H Q E, ¬ spSame K 0 vs H Q E := fun vs H Q E h => by
    obtain ⟨x, y, _, S, _⟩ := h
    exact S
  exact ⟨fun vs H Q E h => absurd h (no vs H Q E), fun A outer s H args us vs Q E _ _ _ _ h => absurd h (no vs H Q E)⟩
theorem same_all {f : Addr} {fd : FuncData} (F : Fun K "_law_same" "_law_same" sSame f fd) (T : TxtS mg) (bG : Binds K fd ["_law_found", "_law_due"] []) (gG : mg "_law_same" = some (.ref f)) :
    ∀ n : Nat, FnOk P w K mg base CX0 n f fd ["_law_found", "_law_due"] (spSame K n)
  | 0 => same_none
  | n + 1 => ok_same F T (same_all F T bG gG n) bG gG
end
end K1
set_option linter.all false
set_option maxRecDepth 100000
set_option maxHeartbeats 1000000
namespace K1
open PySem L2
theorem code_nil : CodeOk [] 0 := fun v => ⟨fun h => (nomatch h), fun h => absurd h (Nat.not_lt_zero _)⟩
theorem code_snoc {c : List Nat} {k r : Nat} (h : CodeOk c k) (hr : r ≤ k) : ∃ k', CodeOk (c ++ [r]) k' := by
  rcases Nat.lt_or_ge r k with l | l
  · refine ⟨k, fun v => ?_⟩
    rw [List.mem_append, h v, List.mem_singleton]
    omega
  · refine ⟨k + 1, fun v => ?_⟩
    rw [List.mem_append, h v, List.mem_singleton]
    omega
theorem code_kept {J F M : List Nat} (nd : M.Nodup) (mem : ∀ z, z ∈ M ↔ z ∈ J) (l : F.length = J.length) (h : ∀ (i z : Nat), J[i]? = some z → ∃ j : Nat, F[i]? = some j ∧ M[j]? = some z) : CodeOk F M.length := by
  intro v
  constructor
  · intro hv
    obtain ⟨i, hi, rfl⟩ := List.getElem_of_mem hv
    obtain ⟨j, e1, e2⟩ := h i _ (List.getElem?_eq_getElem (by omega))
    rw [List.getElem?_eq_getElem hi] at e1
    cases e1
    exact (List.getElem?_eq_some_iff.mp e2).1
  · intro hv
    obtain ⟨i, hi, e⟩ := List.getElem_of_mem ((mem _).mp (List.getElem_mem hv))
    obtain ⟨j, e1, e2⟩ := h i _ (by rw [List.getElem?_eq_getElem hi])
    obtain ⟨lj, e3⟩ := List.getElem?_eq_some_iff.mp e2
    have ij : j = v := (List.getElem_inj nd).mp (e3.trans e)
    subst ij
    exact List.mem_of_getElem? e1
theorem codeV_snoc (c : List Nat) (r : Nat) : codeV c ++ [V.int (r : Nat)] = codeV (c ++ [r]) := by
  unfold codeV
  rw [List.map_append]
  rfl
theorem codeV_len (c : List Nat) : (codeV c).length = c.length := List.length_map ..
theorem codeV_get {c : List Nat} {i : Nat} {x : V} (h : (codeV c)[i]? = some x) : ∃ n : Nat, c[i]? = some n ∧ x = .int (n : Nat) := by
  rw [codeV, List.getElem?_map] at h
  obtain ⟨n, hn, rfl⟩ := Option.map_eq_some_iff.mp h
  exact ⟨n, hn, rfl⟩
theorem codeV_mem {c : List Nat} {x : V} (h : x ∈ codeV c) : ∃ n : Nat, n ∈ c ∧ x = .int (n : Nat) := by
  obtain ⟨n, hn, rfl⟩ := List.mem_map.mp h
  exact ⟨n, hn, rfl⟩
theorem codeV_flat (c : List Nat) : (codeV c).all flatV = true := by
  rw [codeV, List.all_map, List.all_eq_true]
  intro n _
  rfl
theorem inV_code (z : Nat) (c : List Nat) : inV (.int (z : Nat)) (codeV c) = decide (z ∈ c) := by
  unfold inV codeV
  rw [List.any_map]
  induction c with
  | nil => simp
  | cons a r ih =>
    rw [List.any_cons, ih]
    have e : (fun y => eqV y (V.int (z : Nat))) (V.int (a : Nat)) = decide (a = z) := by
      show eqV (V.int (a : Nat)) (V.int (z : Nat)) = decide (a = z)
      unfold eqV
      exact decide_eq_decide.mpr ⟨fun h => by omega, fun h => by omega⟩
    show ((fun y => eqV y (V.int (z : Nat))) (V.int (a : Nat)) || _) = _
    rw [e]
    by_cases q : a = z
    · simp [q]
    · have q2 : ¬ z = a := fun h => q h.symm
      simp [q, q2]
theorem cut_code (c : List Nat) (j : Nat) : cutV (codeV c) none (some ((j : Nat) : Int)) = codeV (c.take j) := by
  unfold cutV codeV
  rw [HT.sIx_none, HT.sIx_nat, List.drop_zero, List.length_map, Nat.sub_zero, ← List.map_take]
  congr 1
  rcases Nat.le_total j c.length with h | h
  · rw [Nat.min_eq_left h]
  · rw [Nat.min_eq_right h, List.take_of_length_le (Nat.le_refl _), List.take_of_length_le h]
/-- the codes so far -/
abbrev CL := List (Addr × List Nat)
def refC (L : CL) : List V := L.map fun p => V.ref p.1
theorem refC_get {L : CL} {j : Nat} {x : V} (h : (refC L)[j]? = some x) : ∃ p, L[j]? = some p ∧ x = .ref p.1 := by
  rw [refC, List.getElem?_map] at h
  obtain ⟨p, hp, rfl⟩ := Option.map_eq_some_iff.mp h
  exact ⟨p, hp, rfl⟩
theorem refC_len (L : CL) : (refC L).length = L.length := List.length_map ..
def CdOk (H : Hp) (L : CL) (m : Nat) : Prop := ∀ p ∈ L, H p.1 = some (.tup (codeV p.2)) ∧ (∃ k, CodeOk p.2 k) ∧ p.2.length = m
theorem CdOk.mono {H H' : Hp} {L : CL} {m : Nat} (h : CdOk H L m) (s : Same H H') : CdOk H' L m := fun p hp => ⟨s _ _ (h p hp).1, (h p hp).2⟩
theorem CdOk.but {H H' : Hp} {L : CL} {m : Nat} {st l : Addr} {cs : List Int} {n : Nat} (h : CdOk H L m) (S : Spr H st l cs n) (b : But st H H') : CdOk H' L m := fun p hp => ⟨b _ _ (S.no (h p hp).1 fun _ z => by cases z) (h p hp).1, (h p hp).2⟩
theorem any_dS (ss : List (List Str)) (k : List Str) : ((ss.map dS).any fun z => PyData.eqv z (dS k)) = decide (k ∈ ss) := by
  induction ss with
  | nil => simp
  | cons a r ih =>
    rw [List.map_cons, List.any_cons, ih, eqv_dS]
    by_cases e : a = k
    · simp [e]
    · have e2 : ¬ k = a := fun h => e h.symm
      simp [e, e2]
theorem mmake_to {C p : Addr} {B : TL} {H1 : Hp} {W : Addr → Hp → Prop} {E : XK} (hp : H1 p = some (.lst (refT B))) (hB : LiT H1 B) (g : GoodB (rowT B))
    (k : ∀ (x : Addr) (H' : Hp), Same H1 H' → H1 x = none → MeetAt C H' x (rowsOf (rowT B)) → W x H') :
    ∀ x dx, H1 x = none → H1 dx = none → dx ≠ x → spMInit C (.ref x :: ([.ref p] ++ [])) (upd (upd H1 dx (.own x)) x (.ins C dx [])) (fun v H2 => v = .non ∧ W x H2) E := by
  intro x dx nx nd ne
  have s : Same H1 (upd (upd H1 dx (.own x)) x (.ins C dx [])) := fun b o hb => by rw [upd_ne (ne_of_none hb nx), upd_ne (ne_of_none hb nd)]; exact hb
  exact ⟨x, p, dx, B, rfl, upd_same, s _ _ hp, fun q hq => s _ _ (hB q hq), g, fun H' b m => ⟨rfl, k x H' (Same.made nx nd fun z o hz ne' => b z o ne' hz) nx m⟩⟩
end K1
set_option linter.all false
set_option maxRecDepth 100000
set_option maxHeartbeats 1000000
namespace K1
open PySem L2
/-- a and b, b a truth that is read without a change -/
def tAndP (ta tb : TE) : TE := fun σ H Q => ta σ H fun x H1 => ∃ c d, x = .bl c ∧ (∀ Q : VK, Q (.bl d) H1 → tb σ H1 Q) ∧ Q (.bl (c && d)) H1
open PySem.Spec PyProof.Rows in
theorem pe_andP {X : Cx} {a b : Expr} {rest : List Expr} {pos : Pos} {ta tb : TE} (ha : PE X a ta) (hb : PE X (.BoolOp .And (b :: rest) pos) tb) : PE X (.BoolOp .And (a :: b :: rest) pos) (tAndP ta tb) := by
  refine ⟨fun pins s σ H Q I h => ?_⟩
  refine BoolOp_and (thn (ha.run pins s σ H _ I h) fun v s1 ⟨x, H1, I1, r1, q1⟩ => ?_)
  obtain ⟨c, d, rfl, g, q1⟩ := q1
  cases r1
  refine wpAny_truthy_bool ?_
  cases c with
  | true => exact hb.run pins s1 σ H1 Q I1 (g Q q1)
  | false => exact ⟨.bl false, H1, I1, rfl, q1⟩
theorem units65 {k : Nat} {A : Around} (r : Room (k + 1) A) : A.units + 65 < cLine := by
  have := r.un
  omega
theorem sl_listK {X : Cx} {K : PySem.W.Frag} (h : X.K = K := by rfl) : SlR X (rSlL K) := by
  subst h
  exact sl_list
theorem op_inDK {X : Cx} {K : PySem.W.Frag} (hu : X.A.units + 65 < cLine) (h : X.K = K := by rfl) : OpR X (compareOp .In) (rInD K) := by
  subst h
  exact op_inD hu
theorem op_notInK {X : Cx} {K : PySem.W.Frag} (h : X.K = K := by rfl) : OpR X (compareOp .NotIn) (rIn K true) := by
  subst h
  exact op_notIn_seq
theorem mt_indexK {X : Cx} {K : PySem.W.Frag} (h : X.K = K := by rfl) : MtR X "list.index" (rIndex K) := by
  subst h
  exact mt_index
theorem cr_setK {X : Cx} {K : PySem.W.Frag} {w : World} (hc : X.calm = true) (h : X.K = K := by rfl) (hw : X.w = w := by rfl) : CallR X (.type "set") (rSetX K w) := by
  subst h hw
  exact cr_setX hc
theorem call_lenKS {X : Cx} {w : World} (hw : X.w = w := by rfl) : CallR X (.builtin "len") (fun xs H Q => ∃ (a : Addr) (D : List Key), xs = [.ref a] ∧ H a = some (KS w a D) ∧ Q (.int (D.length : Nat)) H) := by
  subst hw
  exact call_lenX
theorem MeetAt.keep {C : Addr} {H : Hp} {a D : Addr} {R : List (List Str)} {xs ys : List V} (h : MeetAt C H a R) (hD : H D = some (.lst xs)) : MeetAt C (L2.upd H D (.lst ys)) a R := by
  have go : ∀ {b : Addr} {o : HO}, H b = some o → (∀ zs, o ≠ .lst zs) → L2.upd H D (.lst ys) b = some o := fun {b o} hb no => by
    rw [upd_ne (fun e => by rw [e, hD] at hb; exact no _ (Option.some.inj hb).symm)]
    exact hb
  obtain ⟨dx, t, d, n, c, M, kvs, o⟩ := h
  exact ⟨dx, t, d, n, c, M, kvs, go o.ob (fun _ z => by cases z), go o.bl (fun _ z => by cases z), fun q hq => go (o.tu q hq) (fun _ z => by cases z), o.row, go o.nu (fun _ z => by cases z), o.num, go o.na (fun _ z => by cases z), go o.co (fun _ z => by cases z), o.good⟩
theorem okd_rows {R : List (List Str)} (h : ∀ b ∈ R, ∀ z ∈ b, nameOk z = true) : ∀ d ∈ R.map dS, Okd d := fun d hd => by
  obtain ⟨b, hb, rfl⟩ := List.mem_map.mp hd
  exact ⟨(okd_dS (h b hb)).1, Nat.le_trans (okd_dS (h b hb)).2 (by decide)⟩
/-- the comparisons of meetings -/
structure CmpM (P : Program) (w : World) (K : PySem.W.Frag) (mg : Str → Option Value) (base : Heap) (C : Addr) : Prop where
  c : MeetC K mg C
  le : ∃ g fd, Meth K C "__le__" g ∧ Binds K fd ["self", "other"] [] ∧ FnOk P w K mg base CX0 3 g fd ["self", "other"] (spCmpM C finer)
  lt : ∃ g fd, Meth K C "__lt__" g ∧ Binds K fd ["self", "other"] [] ∧ FnOk P w K mg base CX0 3 g fd ["self", "other"] (spCmpM C lessM)
  ge : ∃ g fd, Meth K C "__ge__" g ∧ Binds K fd ["self", "other"] [] ∧ FnOk P w K mg base CX0 3 g fd ["self", "other"] (spCmpM C fun R S => finer S R)
  gt : ∃ g fd, Meth K C "__gt__" g ∧ Binds K fd ["self", "other"] [] ∧ FnOk P w K mg base CX0 3 g fd ["self", "other"] (spCmpM C fun R S => finer S R && !decide (R = S))
  eq : ∃ g fd, Meth K C "__eq__" g ∧ NeC K C g ∧ Binds K fd ["self", "other"] [] ∧ FnOk P w K mg base CX0 1 g fd ["self", "other"] (spEqM C)
/-- what a law of meetings calls -/
structure LawN (P : Program) (w : World) (K : PySem.W.Frag) (mg : Str → Option Value) (base : Heap) (C : Addr) : Prop where
  range : mg "range" = none
  len : mg "len" = none
  set : mg "set" = none
  all : mg "all" = none
  enum : mg "enumerate" = none
  tuple : mg "tuple" = none
  take : ∃ f fd, mg "_law_take" = some (.ref f) ∧ PySem.W.keepIn K (.ref f) = true ∧ Binds K fd ["_law_state", "_law_many"] [] ∧ FnOk P w K mg base CX0 1 f fd ["_law_state", "_law_many"] spTake
  fresh : ∃ f fd, mg "_law_fresh" = some (.ref f) ∧ PySem.W.keepIn K (.ref f) = true ∧ Binds K fd ["_law_script"] [] ∧ FnOk P w K mg base CX0 1 f fd ["_law_script"] (spFresh K)
  names : ∃ f fd, mg "_law_names" = some (.ref f) ∧ PySem.W.keepIn K (.ref f) = true ∧ Binds K fd ["_law_state", "_law_many"] [] ∧ FnOk P w K mg base CX0 3 f fd ["_law_state", "_law_many"] spNames
  blocks : ∃ f fd, mg "_law_blocks" = some (.ref f) ∧ PySem.W.keepIn K (.ref f) = true ∧ Binds K fd ["_law_names_here", "_law_code"] [] ∧ FnOk P w K mg base CX0 1 f fd ["_law_names_here", "_law_code"] spBlocks
  make : ∃ g fd, Mk K C g ∧ Binds K fd ["self", "blocks"] [] ∧ FnOk P w K mg base CX0 5 g fd ["self", "blocks"] (spMInit C)
def spLaw (K : PySem.W.Frag) : Sp := fun vs H Q _ => ∃ (a : Addr) (ns : List Int), vs = [.ref a] ∧ SqL K H a (ns.map V.int) ∧ ns.length ≤ 63 ∧ ∀ H', Q (.bl true) H'
end K1
set_option linter.all false
set_option maxRecDepth 100000
set_option maxHeartbeats 1000000
namespace K1
open PySem L2
theorem same_bls {K : PySem.W.Frag} {H : Hp} {a b : Addr} {xs ys : List V} (bs : List Bool) {n : Nat} (ha : H a = some (.lst xs)) (hb : H b = some (.lst ys)) (ex : xs = bs.map V.bl) (ey : ys = bs.map V.bl) (few : bs.length ≤ 1000) : SameV K H (n + 2) (.ref a) (.ref b) := by
  subst ex ey
  refine .inr (.inr (.inr ⟨a, b, _, _, rfl, rfl, .inl ⟨ha, hb⟩, rfl, by rw [List.length_map]; exact few, fun i u v hu hv => ?_⟩))
  rw [hu] at hv
  cases hv
  rw [List.getElem?_map] at hu
  obtain ⟨c, _, rfl⟩ := Option.map_eq_some_iff.mp hu
  exact .inr (.inl ⟨c, rfl, rfl⟩)
/-- the same, and _law_same -/
structure LawS (P : Program) (w : World) (K : PySem.W.Frag) (mg : Str → Option Value) (base : Heap) (C : Addr) : Prop extends LawN P w K mg base C where
  same : ∃ f fd, mg "_law_same" = some (.ref f) ∧ PySem.W.keepIn K (.ref f) = true ∧ Binds K fd ["_law_found", "_law_due"] [] ∧ FnOk P w K mg base CX0 5 f fd ["_law_found", "_law_due"] (spSame K 5)
/-- the same, and one of a tuple's things -/
structure LawM (P : Program) (w : World) (K : PySem.W.Frag) (mg : Str → Option Value) (base : Heap) (C : Addr) : Prop extends LawS P w K mg base C where
  oneT : ∃ f fd, mg "_law_one" = some (.ref f) ∧ PySem.W.keepIn K (.ref f) = true ∧ Binds K fd ["_law_state", "_law_things"] [] ∧ FnOk P w K mg base CX0 2 f fd ["_law_state", "_law_things"] spOneT
end K1
set_option linter.all false
set_option maxRecDepth 100000
set_option maxHeartbeats 1000000
namespace K1
open PySem L2
/-! ### things by their marks -/
section
variable {κ : Type} [DecidableEq κ]
def addF (acc : List κ) (x : κ) : List κ := if x ∈ acc then acc else acc ++ [x]
/-- each of them once, in the order in which they first come -/
def firsts (c : List κ) : List κ := c.foldl addF []
theorem firsts_snoc (c : List κ) (x : κ) : firsts (c ++ [x]) = if x ∈ firsts c then firsts c else firsts c ++ [x] := by
  unfold firsts
  rw [List.foldl_append]
  rfl
theorem fold_all : ∀ (c acc : List κ), acc.Nodup → (c.foldl addF acc).Nodup ∧ ∀ x, x ∈ c.foldl addF acc ↔ x ∈ acc ∨ x ∈ c
  | [], acc, h => ⟨h, fun x => by simp⟩
  | a :: c, acc, h => by
    have h1 : (addF acc a).Nodup := by
      unfold addF
      split
      · exact h
      · rename_i no
        refine List.nodup_append.mpr ⟨h, List.nodup_cons.mpr ⟨List.not_mem_nil, List.nodup_nil⟩, fun x hx y hy e => ?_⟩
        rw [List.mem_singleton.mp hy] at e
        exact no (e ▸ hx)
    have h2 : ∀ x, x ∈ addF acc a ↔ x ∈ acc ∨ x = a := fun x => by
      unfold addF
      split
      · rename_i yes
        exact ⟨.inl, fun h => h.elim id fun h => h ▸ yes⟩
      · rw [List.mem_append, List.mem_singleton]
    obtain ⟨k1, k2⟩ := fold_all c (addF acc a) h1
    refine ⟨k1, fun x => ?_⟩
    rw [List.foldl_cons, k2, h2, List.mem_cons, or_assoc]
theorem firsts_nd (c : List κ) : (firsts c).Nodup := (fold_all c [] List.nodup_nil).1
theorem mem_firsts {c : List κ} {x : κ} : x ∈ firsts c ↔ x ∈ c := ((fold_all c [] List.nodup_nil).2 x).trans (by simp)
def putG (G : List (κ × Addr)) (n : κ) (p : Addr) : List (κ × Addr) := if n ∈ G.map (·.1) then G.map (fun g => if g.1 = n then (n, p) else g) else G ++ [(n, p)]
def findG (G : List (κ × Addr)) (n : κ) : Option Addr := (G.find? fun g => decide (g.1 = n)).map (·.2)
def entries {κ' : Type} (kf : κ → κ') (G : List (κ × Addr)) : List (κ' × V) := G.map fun g => (kf g.1, V.ref g.2)
theorem valV_entries {κ' : Type} [DecidableEq κ'] {kf : κ → κ'} (inj : ∀ a b, kf a = kf b → a = b) (n : κ) : ∀ G : List (κ × Addr), valV (entries kf G) (kf n) = (findG G n).map V.ref
  | [] => rfl
  | g :: G => by
    by_cases e : g.1 = n
    · subst e
      rw [show entries kf (g :: G) = (kf g.1, V.ref g.2) :: entries kf G from rfl, valV_pos rfl]
      simp [findG]
    · rw [show entries kf (g :: G) = (kf g.1, V.ref g.2) :: entries kf G from rfl, valV_neg (fun h => e (inj _ _ h)), valV_entries inj n G]
      simp [findG, List.find?_cons, e]
theorem putK_entries {κ' : Type} [DecidableEq κ'] {kf : κ → κ'} (inj : ∀ a b, kf a = kf b → a = b) (n : κ) (p : Addr) (G : List (κ × Addr)) : putK (entries kf G) (kf n) (.ref p) = entries kf (putG G n p) := by
  have hany : ((entries kf G).any fun kv => decide (kv.1 = kf n)) = decide (n ∈ G.map (·.1)) := by
    unfold entries
    rw [List.any_map]
    induction G with
    | nil => simp
    | cons g G ih =>
      rw [List.any_cons, ih]
      by_cases e : g.1 = n
      · subst e
        simp
      · have e1 : ¬ kf g.1 = kf n := fun h => e (inj _ _ h)
        have e2 : ¬ n = g.1 := fun h => e h.symm
        simp [e1, e2]
  unfold putK putG
  rw [hany]
  by_cases m : n ∈ G.map (·.1)
  · rw [if_pos (decide_eq_true m), if_pos m]
    unfold entries
    rw [List.map_map, List.map_map]
    refine List.map_congr_left fun g hg => ?_
    by_cases e : g.1 = n
    · subst e
      simp
    · have e1 : ¬ kf g.1 = kf n := fun h => e (inj _ _ h)
      simp [e, e1]
  · rw [if_neg (by simpa using m), if_neg m]
    unfold entries
    rw [List.map_append]
    rfl
def blkG (zs : List Str) (c : List κ) (i : Nat) (m : κ) : List Str := (((zs.zip c).take i).filter fun p => decide (p.2 = m)).map (·.1)
/-- the groups behind i turns -/
structure Gr (H : Hp) (zs : List Str) (c : List κ) (i : Nat) (G : List (κ × Addr)) : Prop where
  keys : G.map (·.1) = firsts (c.take i)
  at_ : ∀ g ∈ G, H g.2 = some (.lst ((blkG zs c i g.1).map V.str))
theorem findG_some {G : List (κ × Addr)} {n : κ} {q : Addr} (h : findG G n = some q) : (n, q) ∈ G := by
  unfold findG at h
  obtain ⟨g, hg, rfl⟩ := Option.map_eq_some_iff.mp h
  have e : g.1 = n := by simpa using List.find?_some hg
  subst e
  exact List.mem_of_find?_eq_some hg
theorem findG_none {G : List (κ × Addr)} {n : κ} (h : findG G n = none) : n ∉ G.map (·.1) := by
  unfold findG at h
  intro m
  obtain ⟨g, hg, rfl⟩ := List.mem_map.mp m
  have z := List.find?_eq_none.mp (Option.map_eq_none_iff.mp h) g hg
  simp at z
theorem blkG_step {zs : List Str} {c : List κ} {i : Nat} {z : Str} {m k : κ} (hz : zs[i]? = some z) (hm : c[i]? = some m) : blkG zs c (i + 1) k = if m = k then blkG zs c i k ++ [z] else blkG zs c i k := by
  have e : (zs.zip c)[i]? = some (z, m) := List.getElem?_zip_eq_some.mpr ⟨hz, hm⟩
  unfold blkG
  rw [List.take_add_one, e, List.filter_append, List.map_append]
  by_cases q : m = k
  · rw [if_pos q]
    simp [q]
  · rw [if_neg q]
    simp [q]
theorem Gr.step {H H' : Hp} {zs : List Str} {c : List κ} {i : Nat} {G : List (κ × Addr)} (g : Gr H zs c i G) {z : Str} {m : κ} {p : Addr} (hz : zs[i]? = some z) (hm : c[i]? = some m) (s : Same H H')
    (hp : H' p = some (.lst ((blkG zs c i m ++ [z]).map V.str))) : Gr H' zs c (i + 1) (putG G m p) := by
  have et : c.take (i + 1) = c.take i ++ [m] := by rw [List.take_add_one, hm]; rfl
  have kfirst : m ∈ G.map (·.1) ↔ m ∈ firsts (c.take i) := by rw [g.keys]
  refine ⟨?_, fun q hq => ?_⟩
  · rw [et, firsts_snoc]
    unfold putG
    by_cases e : m ∈ G.map (·.1)
    · rw [if_pos e, if_pos (kfirst.mp e), List.map_map, ← g.keys]
      refine List.map_congr_left fun x hx => ?_
      by_cases q : x.1 = m
      · simp [q]
      · simp [q]
    · rw [if_neg e, if_neg (fun h => e (kfirst.mpr h)), List.map_append, g.keys]
      rfl
  · rw [blkG_step hz hm]
    unfold putG at hq
    by_cases e : m ∈ G.map (·.1)
    · rw [if_pos e] at hq
      obtain ⟨x, hx, rfl⟩ := List.mem_map.mp hq
      by_cases q : x.1 = m
      · rw [if_pos q]
        simp only [if_true]
        exact hp
      · rw [if_neg q, if_neg (fun h => q h.symm)]
        exact s _ _ (g.at_ x hx)
    · rw [if_neg e] at hq
      rcases List.mem_append.mp hq with hq | hq
      · have nq : ¬ m = q.1 := fun h => e (h ▸ List.mem_map.mpr ⟨q, hq, rfl⟩)
        rw [if_neg nq]
        exact s _ _ (g.at_ q hq)
      · obtain rfl := List.mem_singleton.mp hq
        rw [if_pos rfl]
        exact hp
theorem Gr.old {H : Hp} {zs : List Str} {c : List κ} {i : Nat} {G : List (κ × Addr)} (g : Gr H zs c i G) {m : κ} : (∀ q, findG G m = some q → H q = some (.lst ((blkG zs c i m).map V.str))) ∧ (findG G m = none → blkG zs c i m = []) := by
  refine ⟨fun q h => g.at_ _ (findG_some h), fun h => ?_⟩
  have no : m ∉ c.take i := fun hm => findG_none h (by rw [g.keys]; exact mem_firsts.mpr hm)
  unfold blkG
  rw [List.map_eq_nil_iff, List.filter_eq_nil_iff]
  rintro ⟨x, k⟩ hx
  have hk : k ∈ c.take i := by
    obtain ⟨j, hj, e⟩ := List.getElem_of_mem hx
    rw [List.length_take, List.length_zip] at hj
    rw [List.getElem_take, List.getElem_zip] at e
    refine List.mem_iff_getElem.mpr ⟨j, by rw [List.length_take]; omega, ?_⟩
    rw [List.getElem_take]
    exact congrArg Prod.snd e
  have : ¬ k = m := fun e => no (e ▸ hk)
  simpa using this
theorem firsts_len (c : List κ) : (firsts c).length ≤ c.length := by
  have key : ∀ (c acc : List κ), (c.foldl addF acc).length ≤ acc.length + c.length := by
    intro c
    induction c with
    | nil => intro acc; simp
    | cons a c ih =>
      intro acc
      have := ih (addF acc a)
      have l : (addF acc a).length ≤ acc.length + 1 := by
        unfold addF
        split
        · omega
        · rw [List.length_append]; simp
      rw [List.foldl_cons, List.length_cons]
      omega
  have := key c []
  rw [List.length_nil, Nat.zero_add] at this
  exact this
theorem Gr.len {H : Hp} {zs : List Str} {c : List κ} {i : Nat} {G : List (κ × Addr)} (g : Gr H zs c i G) : G.length ≤ c.length := by
  have e := congrArg List.length g.keys
  rw [List.length_map] at e
  have := firsts_len (c.take i)
  rw [List.length_take] at this
  omega
theorem Gr.off {H : Hp} {zs : List Str} {c : List κ} {i : Nat} {G : List (κ × Addr)} {d : Addr} {o : HO} (g : Gr H zs c i G) (n : ∀ q ∈ G, q.2 ≠ d) : Gr (upd H d o) zs c i G := ⟨g.keys, fun q hq => by rw [upd_ne (n q hq)]; exact g.at_ q hq⟩
theorem mem_putG {G : List (κ × Addr)} {m : κ} {p : Addr} {q : κ × Addr} (h : q ∈ putG G m p) : q ∈ G ∨ q.2 = p := by
  unfold putG at h
  split at h
  · obtain ⟨x, hx, rfl⟩ := List.mem_map.mp h
    split
    · exact .inr rfl
    · exact .inl hx
  · rcases List.mem_append.mp h with h | h
    · exact .inl h
    · rw [List.mem_singleton.mp h]
      exact .inr rfl
end
end K1
set_option linter.all false
set_option maxRecDepth 100000
set_option maxHeartbeats 1000000
namespace K1
open PySem L2
/-- the names by their marks -/
def grpOf {κ : Type} [DecidableEq κ] (zs : List Str) (c : List κ) : List (List Str) := (firsts c).map fun m => blkG zs c zs.length m
def spGrpI (K : PySem.W.Frag) : Sp := fun vs H Q _ => ∃ (t1 t2 : Bool) (a b : Addr) (zs : List Str) (c : List Nat), vs = [.ref a, .ref b] ∧ SqB K t1 H a (zs.map V.str) ∧ SqB K t2 H b (codeV c) ∧ zs.length = c.length ∧ zs.length ≤ 7 ∧
  ∀ (p : Addr) (B : TL) (H' : Hp), Same H H' → H p = none → H' p = some (.lst (refT B)) → LiT H' B → (∀ q ∈ B, H q.1 = none) → rowT B = grpOf zs c → Q (.ref p) H'
section
variable {P : Program} {w : World} {K : PySem.W.Frag} {mg : Str → Option Value} {base : Heap}
theorem SqB.mono {K : PySem.W.Frag} {t : Bool} {H H' : Hp} {a : Addr} {xs : List V} (h : SqB K t H a xs) (s : Same H H') : SqB K t H' a xs := by
  cases t with
  | false => exact Same.seq s h
  | true => exact tup_mono s h
abbrev NGr : List Str := ["names", "marks", "groups", "name", "mark"]
theorem scGr : FnScope NGr ["names", "marks"] (defScope pGrouped) := ⟨rfl, rfl, rfl, by decide +kernel, rfl, by decide +kernel, by decide +kernel⟩
theorem ok_grpI {f : Addr} {fd : FuncData} (F : Fun K "grouped" "grouped" pGrouped f fd) (hz : mg "zip" = none) (hl : mg "list" = none) : FnOk P w K mg base CX0 1 f fd ["names", "marks"] (spGrpI K) := by
  refine F.ok scGr (fun vs H Q E h => ?_) (fun cdv A outer s H vs Q E hr h => ?_)
  · obtain ⟨t1, t2, a, b, zs, c, rfl, _⟩ := h
    rfl
  · obtain ⟨t1, t2, a, b, zs, c, rfl, ha, hb, el, few, kk⟩ := h
    have hu := hu_of hr
    refine ⟨_, pss_cons (ps_set (i := 2) scGr.nd rfl (.inl rfl) pe_dnewK)
      (pss_cons (ps_for PassesOwn.never rfl (pi_zB (by rfl) hz (pa_cons (pv 0) (pa_cons (pv 1) pa_nil))) (pg_tup rfl (pgs_cons (pg_name (i := 3) scGr.nd rfl (Or.inl rfl)) (pgs_cons (pg_name (i := 4) scGr.nd rfl (Or.inl rfl)) pgs_nil)))
        (pss_one (ps_asg (pe_lst (StX.pa_star (pe_dget2 hu (pv 2) (pv 4) (pe_lst pa_nil) ⟨rfl, rfl, rfl, rfl⟩) (pa_cons (pv 3) pa_nil))) (pg_sub (pv 2) (pv 4) (set_dict hu)))))
      (pss_one (ps_ret (pe_listVals rfl (pv 2) (by rfl) hl (by decide +kernel))))), ?_⟩
    intro d nd
    have s0 := same_new nd (.dK [])
    refine ⟨_, rfl, _, rfl, t1, t2, a, b, zs.map V.str, codeV c, rfl, ha.mono s0, hb.mono s0, ?_⟩
    refine for_it (walk_zB (n := zs.length) (xs := zs.map V.str) (ys := codeV c) (by rw [codeV_len, List.length_map]; omega)) (fun i σ H9 => ∃ (G : List (Nat × Addr)) (v3 v4 : Option V), σ = [some (.ref a), some (.ref b), some (.ref d), v3, v4] ∧ H9 d = some (.dK (entries cK G)) ∧ Gr H9 zs c i G ∧ (∀ g ∈ G, H g.2 = none ∧ g.2 ≠ d) ∧ Same H H9)
      ⟨[], none, none, rfl, upd_same, ⟨rfl, fun g hg => nomatch hg⟩, (fun g hg => nomatch hg), s0⟩ (fun i σ H9 _ q => by obtain ⟨G, _, _, _, _, _, _, s⟩ := q; exact ⟨ha.mono s, hb.mono s⟩) ?_ ?_
    · rintro i x σ H9 H10 hi ⟨G, v3, v4, rfl, hd, g, ng, s9⟩ ⟨T0, u, v, rfl, nT0, rfl, eu, ev⟩
      have eu : (zs.map V.str)[i]? = some u := eu
      rw [List.getElem?_map] at eu
      obtain ⟨z, hz, rfl⟩ := Option.map_eq_some_iff.mp eu
      obtain ⟨m, hm, rfl⟩ := codeV_get ev
      refine ⟨T0, [.str z, .int m], rfl, SqT.of upd_same, rfl, _, _, rfl, _, _, rfl, rfl, ?_⟩
      have sT := same_new nT0 (.tup [.str z, .int m])
      generalize upd H9 T0 (.tup [.str z, .int m]) = H10 at sT ⊢
      have hd10 := sT _ _ hd
      refine ⟨_, rfl, d, rfl, .inl ⟨_, .of hd10⟩, _, rfl, sz (Nat.zero_le _), fun e ne => ?_⟩
      have sE := same_new ne (.lst [])
      refine ⟨_, DGet.k (k := cK m) (sE _ _ hd10), ?_⟩
      rw [valV_entries (fun _ _ => cK_inj)]
      have old : ∃ q, ((findG G m).map V.ref).getD (.ref e) = .ref q ∧ upd H10 e (.lst []) q = some (.lst ((blkG zs c i m).map V.str)) := by
        obtain ⟨o1, o2⟩ := g.old (m := m)
        cases ef : findG G m with
        | some q => exact ⟨q, rfl, sE _ _ (sT _ _ (o1 q ef))⟩
        | none => exact ⟨e, rfl, by rw [o2 ef]; exact upd_same⟩
      obtain ⟨q, eq, hq⟩ := old
      rw [eq]
      refine ⟨q, _, rfl, .inr (SqL.of hq), _, rfl, sz ?_, fun p np => ?_⟩
      · rw [List.length_append, List.length_map]
        unfold blkG
        rw [List.length_map]
        have := List.length_filter_le (fun p : Str × Nat => decide (p.2 = m)) ((zs.zip c).take i)
        rw [List.length_take] at this
        simp only [List.length_cons, List.length_nil]
        omega
      rw [show (blkG zs c i m).map V.str ++ [V.str z] = (blkG zs c i m ++ [z]).map V.str from by rw [List.map_append]; rfl]
      have sP := same_new np (.lst ((blkG zs c i m ++ [z]).map V.str))
      have sA := sT.trans (sE.trans sP)
      have hp : upd (upd H10 e (.lst [])) p (.lst ((blkG zs c i m ++ [z]).map V.str)) p = some (.lst ((blkG zs c i m ++ [z]).map V.str)) := upd_same
      have npH : H p = none := s9.free (sT.free (sE.free np))
      generalize upd (upd H10 e (.lst [])) p (.lst ((blkG zs c i m ++ [z]).map V.str)) = H11 at sA hp ⊢
      have hd11 := sA _ _ hd
      have pd : p ≠ d := fun w => by rw [w, hd11] at hp; cases hp
      refine ⟨_, rfl, _, rfl, d, _, rfl, DPut.k (k := cK m) hd11 (small1000 ?_), ?_⟩
      · have := g.len
        unfold entries
        rw [List.length_map]
        omega
      · have gs := g.step hz hm sA hp
        have ng2 : ∀ x ∈ putG G m p, H x.2 = none ∧ x.2 ≠ d := fun x hx => by
          rcases mem_putG hx with h | h
          · exact ng x h
          · rw [h]
            exact ⟨npH, pd⟩
        refine ⟨putG G m p, _, _, rfl, by rw [upd_same, putK_entries fun _ _ => cK_inj], gs.off fun x hx => (ng2 x hx).2, ng2, fun b o hb => ?_⟩
        rw [upd_ne (ne_of_none hb nd)]
        exact sA _ _ (s9 _ _ hb)
    · rintro σ H9 ⟨G, v3, v4, rfl, hd, g, ng, s9⟩
      refine ⟨_, rfl, d, _, rfl, hd, fun p np => ?_⟩
      have sp := same_new np (.lst ((entries cK G).map (·.2)))
      have e1 : (entries cK G).map (·.2) = refT (G.map fun x => (x.2, blkG zs c zs.length x.1)) := by
        unfold entries refT
        rw [List.map_map, List.map_map]
        rfl
      refine kk p (G.map fun x => (x.2, blkG zs c zs.length x.1)) _ (s9.trans sp) (s9.free np) (by rw [upd_same, e1]) (fun x hx => ?_) (fun x hx => ?_) ?_
      · obtain ⟨y, hy, rfl⟩ := List.mem_map.mp hx
        exact sp _ _ (g.at_ y hy)
      · obtain ⟨y, hy, rfl⟩ := List.mem_map.mp hx
        exact (ng y hy).1
      · unfold rowT grpOf
        rw [List.map_map]
        have k := g.keys
        rw [el, List.take_length] at k
        rw [← k, List.map_map]
        rfl
end
end K1
set_option linter.all false
set_option maxRecDepth 100000
set_option maxHeartbeats 1000000
namespace K1
open PySem L2
/-- a mark of two numbers -/
def kP (m : Nat × Nat) : List Key := [.inl (m.1 : Nat), .inl (m.2 : Nat)]
theorem kP_inj : ∀ a b, kP a = kP b → a = b := by
  rintro ⟨a1, a2⟩ ⟨b1, b2⟩ h
  unfold kP at h
  injection h with h1 h2
  injection h2 with h2 _
  injection h1 with h1
  injection h2 with h2
  have h1' : (a1 : Int) = b1 := h1
  have h2' : (a2 : Int) = b2 := h2
  have e1 : a1 = b1 := by omega
  have e2 : a2 = b2 := by omega
  rw [e1, e2]
/-- at rs stand the marks c -/
structure MkT (H : Hp) (rs : List Addr) (c : List (Nat × Nat)) : Prop where
  len : rs.length = c.length
  at_ : ∀ (i : Nat) (r : Addr) (m : Nat × Nat), rs[i]? = some r → c[i]? = some m → H r = some (.tup ((kP m).map kV))
theorem MkT.mono {H H' : Hp} {rs : List Addr} {c : List (Nat × Nat)} (h : MkT H rs c) (s : Same H H') : MkT H' rs c := ⟨h.len, fun i r m e1 e2 => s _ _ (h.at_ i r m e1 e2)⟩
theorem MkT.get {H : Hp} {rs : List Addr} {c : List (Nat × Nat)} (h : MkT H rs c) {i : Nat} {v : V} (e : (rs.map V.ref)[i]? = some v) : ∃ r m, c[i]? = some m ∧ v = .ref r ∧ H r = some (.tup ((kP m).map kV)) := by
  rw [List.getElem?_map] at e
  obtain ⟨r, hr, rfl⟩ := Option.map_eq_some_iff.mp e
  have li : i < c.length := by rw [← h.len]; exact (List.getElem?_eq_some_iff.mp hr).1
  exact ⟨r, c[i], List.getElem?_eq_getElem li, rfl, h.at_ i r _ hr (List.getElem?_eq_getElem li)⟩
def spGrpT (K : PySem.W.Frag) : Sp := fun vs H Q _ => ∃ (t1 t2 : Bool) (a b : Addr) (zs : List Str) (rs : List Addr) (c : List (Nat × Nat)), vs = [.ref a, .ref b] ∧ SqB K t1 H a (zs.map V.str) ∧ SqB K t2 H b (rs.map V.ref) ∧ MkT H rs c ∧ zs.length = c.length ∧ zs.length ≤ 7 ∧
  ∀ (p : Addr) (B : TL) (H' : Hp), Same H H' → H p = none → H' p = some (.lst (refT B)) → LiT H' B → (∀ q ∈ B, H q.1 = none) → rowT B = grpOf zs c → Q (.ref p) H'
section
variable {P : Program} {w : World} {K : PySem.W.Frag} {mg : Str → Option Value} {base : Heap}
theorem ok_grpT {f : Addr} {fd : FuncData} (F : Fun K "grouped" "grouped" pGrouped f fd) (hz : mg "zip" = none) (hl : mg "list" = none) : FnOk P w K mg base CX0 1 f fd ["names", "marks"] (spGrpT K) := by
  refine F.ok scGr (fun vs H Q E h => ?_) (fun cdv A outer s H vs Q E hr h => ?_)
  · obtain ⟨t1, t2, a, b, zs, rs, c, rfl, _⟩ := h
    rfl
  · obtain ⟨t1, t2, a, b, zs, rs, c, rfl, ha, hb, mt, el, few, kk⟩ := h
    have hu := hu_of hr
    refine ⟨_, pss_cons (ps_set (i := 2) scGr.nd rfl (.inl rfl) pe_dnewT)
      (pss_cons (ps_for PassesOwn.never rfl (pi_zB (by rfl) hz (pa_cons (pv 0) (pa_cons (pv 1) pa_nil))) (pg_tup rfl (pgs_cons (pg_name (i := 3) scGr.nd rfl (Or.inl rfl)) (pgs_cons (pg_name (i := 4) scGr.nd rfl (Or.inl rfl)) pgs_nil)))
        (pss_one (ps_asg (pe_lst (StX.pa_star (pe_dget2 hu (pv 2) (pv 4) (pe_lst pa_nil) ⟨rfl, rfl, rfl, rfl⟩) (pa_cons (pv 3) pa_nil))) (pg_sub (pv 2) (pv 4) (set_dict hu)))))
      (pss_one (ps_ret (pe_listValsT rfl (pv 2) (by rfl) hl (by decide +kernel))))), ?_⟩
    intro d nd
    have s0 := same_new nd (.dT [])
    refine ⟨_, rfl, _, rfl, t1, t2, a, b, zs.map V.str, rs.map V.ref, rfl, ha.mono s0, hb.mono s0, ?_⟩
    refine for_it (walk_zB (n := zs.length) (xs := zs.map V.str) (ys := rs.map V.ref) (by rw [List.length_map, List.length_map, mt.len]; omega)) (fun i σ H9 => ∃ (G : List ((Nat × Nat) × Addr)) (v3 v4 : Option V), σ = [some (.ref a), some (.ref b), some (.ref d), v3, v4] ∧ H9 d = some (.dT (entries kP G)) ∧ Gr H9 zs c i G ∧ (∀ g ∈ G, H g.2 = none ∧ g.2 ≠ d) ∧ Same H H9)
      ⟨[], none, none, rfl, upd_same, ⟨rfl, fun g hg => nomatch hg⟩, (fun g hg => nomatch hg), s0⟩ (fun i σ H9 _ q => by obtain ⟨G, _, _, _, _, _, _, s⟩ := q; exact ⟨ha.mono s, hb.mono s⟩) ?_ ?_
    · rintro i x σ H9 H10 hi ⟨G, v3, v4, rfl, hd, g, ng, s9⟩ ⟨T0, u, v, rfl, nT0, rfl, eu, ev⟩
      have eu : (zs.map V.str)[i]? = some u := eu
      rw [List.getElem?_map] at eu
      obtain ⟨z, hz, rfl⟩ := Option.map_eq_some_iff.mp eu
      obtain ⟨r, m, hm, rfl, hr0⟩ := (mt.mono s9).get ev
      refine ⟨T0, [.str z, .ref r], rfl, SqT.of upd_same, rfl, _, _, rfl, _, _, rfl, rfl, ?_⟩
      have sT := same_new nT0 (.tup [.str z, .ref r])
      generalize upd H9 T0 (.tup [.str z, .ref r]) = H10 at sT ⊢
      have hd10 := sT _ _ hd
      refine ⟨_, rfl, d, rfl, .inr ⟨_, .of hd10⟩, _, rfl, sz (Nat.zero_le _), fun e ne => ?_⟩
      have sE := same_new ne (.lst [])
      refine ⟨_, DGet.t (k := kP m) (sE _ _ hd10) (sE _ _ (sT _ _ hr0)), ?_⟩
      rw [valV_entries (kP_inj)]
      have old : ∃ q, ((findG G m).map V.ref).getD (.ref e) = .ref q ∧ upd H10 e (.lst []) q = some (.lst ((blkG zs c i m).map V.str)) := by
        obtain ⟨o1, o2⟩ := g.old (m := m)
        cases ef : findG G m with
        | some q => exact ⟨q, rfl, sE _ _ (sT _ _ (o1 q ef))⟩
        | none => exact ⟨e, rfl, by rw [o2 ef]; exact upd_same⟩
      obtain ⟨q, eq, hq⟩ := old
      rw [eq]
      refine ⟨q, _, rfl, .inr (SqL.of hq), _, rfl, sz ?_, fun p np => ?_⟩
      · rw [List.length_append, List.length_map]
        unfold blkG
        rw [List.length_map]
        have := List.length_filter_le (fun p : Str × (Nat × Nat) => decide (p.2 = m)) ((zs.zip c).take i)
        rw [List.length_take] at this
        simp only [List.length_cons, List.length_nil]
        omega
      rw [show (blkG zs c i m).map V.str ++ [V.str z] = (blkG zs c i m ++ [z]).map V.str from by rw [List.map_append]; rfl]
      have sP := same_new np (.lst ((blkG zs c i m ++ [z]).map V.str))
      have sA := sT.trans (sE.trans sP)
      have hp : upd (upd H10 e (.lst [])) p (.lst ((blkG zs c i m ++ [z]).map V.str)) p = some (.lst ((blkG zs c i m ++ [z]).map V.str)) := upd_same
      have npH : H p = none := s9.free (sT.free (sE.free np))
      generalize upd (upd H10 e (.lst [])) p (.lst ((blkG zs c i m ++ [z]).map V.str)) = H11 at sA hp ⊢
      have hd11 := sA _ _ hd
      have pd : p ≠ d := fun w => by rw [w, hd11] at hp; cases hp
      refine ⟨_, rfl, _, rfl, d, _, rfl, DPut.t (k := kP m) hd11 (sA _ _ hr0) (small1000 ?_), ?_⟩
      · have := g.len
        unfold entries
        rw [List.length_map]
        omega
      · have gs := g.step hz hm sA hp
        have ng2 : ∀ x ∈ putG G m p, H x.2 = none ∧ x.2 ≠ d := fun x hx => by
          rcases mem_putG hx with h | h
          · exact ng x h
          · rw [h]
            exact ⟨npH, pd⟩
        refine ⟨putG G m p, _, _, rfl, by rw [upd_same, putK_entries kP_inj], gs.off fun x hx => (ng2 x hx).2, ng2, fun b o hb => ?_⟩
        rw [upd_ne (ne_of_none hb nd)]
        exact sA _ _ (s9 _ _ hb)
    · rintro σ H9 ⟨G, v3, v4, rfl, hd, g, ng, s9⟩
      refine ⟨_, rfl, d, _, rfl, hd, fun p np => ?_⟩
      have sp := same_new np (.lst ((entries kP G).map (·.2)))
      have e1 : (entries kP G).map (·.2) = refT (G.map fun x => (x.2, blkG zs c zs.length x.1)) := by
        unfold entries refT
        rw [List.map_map, List.map_map]
        rfl
      refine kk p (G.map fun x => (x.2, blkG zs c zs.length x.1)) _ (s9.trans sp) (s9.free np) (by rw [upd_same, e1]) (fun x hx => ?_) (fun x hx => ?_) ?_
      · obtain ⟨y, hy, rfl⟩ := List.mem_map.mp hx
        exact sp _ _ (g.at_ y hy)
      · obtain ⟨y, hy, rfl⟩ := List.mem_map.mp hx
        exact (ng y hy).1
      · unfold rowT grpOf
        rw [List.map_map]
        have k := g.keys
        rw [el, List.take_length] at k
        rw [← k, List.map_map]
        rfl
end
end K1
set_option linter.all false
set_option maxRecDepth 100000
set_option maxHeartbeats 1000000
namespace K1
open PySem L2
theorem op_inK {X : Cx} {K : PySem.W.Frag} (h : X.K = K := by rfl) : OpR X (compareOp .In) (rIn K false) := by
  subst h
  exact op_in_seq
theorem inV_strs (z : Str) (ss : List Str) : inV (.str z) (ss.map V.str) = decide (z ∈ ss) := by
  unfold inV
  rw [List.any_map]
  induction ss with
  | nil => simp
  | cons a r ih =>
    rw [List.any_cons, ih]
    have e : ((fun y => eqV y (V.str z)) ∘ V.str) a = decide (a = z) := by
      show eqV (V.str a) (V.str z) = decide (a = z)
      unfold eqV
      by_cases q : a = z
      · subst q
        simp
      · simp [q]
    rw [e]
    by_cases q : a = z
    · simp [q]
    · have q2 : ¬ z = a := fun h => q h.symm
      simp [q, q2]
theorem flat_strs (ss : List Str) : (ss.map V.str).all flatV = true := by
  rw [List.all_map, List.all_eq_true]
  intro z _
  rfl
/-- the marks that the names of a block have -/
def metOf (zs : List Str) (c : List Nat) (i : Nat) (ss : List Str) : List Nat := (((zs.zip c).take i).filter fun p => decide (p.1 ∈ ss)).map (·.2)
def unite (zs : List Str) (c : List Nat) (ss : List Str) : List Nat := c.map fun m => if m ∈ metOf zs c zs.length ss then (metOf zs c zs.length ss).headD 0 else m
def spUnited (K : PySem.W.Frag) : Sp := fun vs H Q _ => ∃ (t2 : Bool) (a b d : Addr) (zs : List Str) (c : List Nat) (ss : List Str), vs = [.ref a, .ref b, .ref d] ∧ SqT K H a (zs.map V.str) ∧ SqB K t2 H b (codeV c) ∧ SqT K H d (ss.map V.str) ∧ zs.length = c.length ∧ zs.length ≤ 7 ∧
  ∀ (p : Addr) (H' : Hp), Same H H' → H p = none → H' p = some (.lst (codeV (unite zs c ss))) → Q (.ref p) H'
theorem zip_get {zs : List Str} {c : List Nat} {i : Nat} {u v : V} (eu : (zs.map V.str)[i]? = some u) (ev : (codeV c)[i]? = some v) : ∃ z m, zs[i]? = some z ∧ c[i]? = some m ∧ u = .str z ∧ v = .int (m : Nat) := by
  rw [List.getElem?_map] at eu
  obtain ⟨z, hz, rfl⟩ := Option.map_eq_some_iff.mp eu
  obtain ⟨m, hm, rfl⟩ := codeV_get ev
  exact ⟨z, m, hz, hm, rfl, rfl⟩
theorem met_step {zs : List Str} {c : List Nat} {i : Nat} {ss : List Str} {z : Str} {m : Nat} (hz : zs[i]? = some z) (hm : c[i]? = some m) : metOf zs c (i + 1) ss = if z ∈ ss then metOf zs c i ss ++ [m] else metOf zs c i ss := by
  have e : (zs.zip c)[i]? = some (z, m) := List.getElem?_zip_eq_some.mpr ⟨hz, hm⟩
  unfold metOf
  rw [List.take_add_one, e, List.filter_append, List.map_append]
  by_cases q : z ∈ ss
  · rw [if_pos q]
    simp [q]
  · rw [if_neg q]
    simp [q]
theorem met_len (zs : List Str) (c : List Nat) (i : Nat) (ss : List Str) : (codeV (metOf zs c i ss)).length ≤ zs.length := by
  rw [codeV_len]
  unfold metOf
  rw [List.length_map]
  refine Nat.le_trans (List.length_filter_le _ _) ?_
  rw [List.length_take, List.length_zip]
  omega
section
variable {P : Program} {w : World} {K : PySem.W.Frag} {mg : Str → Option Value} {base : Heap}
abbrev NUn : List Str := ["names", "marks", "block", "met", "name", "mark"]
theorem scUn : FnScope NUn ["names", "marks", "block"] (defScope pUnited) := ⟨rfl, rfl, rfl, by decide +kernel, rfl, by decide +kernel, by decide +kernel⟩
theorem ok_united {f : Addr} {fd : FuncData} (F : Fun K "united" "united" pUnited f fd) (hz : mg "zip" = none) : FnOk P w K mg base CX0 1 f fd ["names", "marks", "block"] (spUnited K) := by
  refine F.ok scUn (fun vs H Q E h => ?_) (fun cdv A outer s H vs Q E hr h => ?_)
  · obtain ⟨t2, a, b, d, zs, c, ss, rfl, _⟩ := h
    rfl
  · obtain ⟨t2, a, b, d, zs, c, ss, rfl, ha, hb, hd, el, few, kk⟩ := h
    cases t2
    · have hb : SqL K H b (codeV c) := hb
      refine ⟨_, pss_cons (ps_set (i := 3) scUn.nd rfl (.inr rfl) (pe_lc (own := [("name", 4), ("mark", 5)]) (g := gTup K 2 (gCons (gName 4) (gCons (gName 5) gNil))) rfl scUn.nd (pi_zB (by rfl) hz (pa_cons (pv 0) (pa_cons (pv 1) pa_nil))) (blkOk_by (N := NUn) (sc := defScope pUnited) (by decide +kernel))
          (fun _ _ _ _ _ => pg_tup rfl (pgs_cons (pg_name (i := 4) scUn.nd rfl (Or.inl rfl)) (pgs_cons (pg_name (i := 5) scUn.nd rfl (Or.inl rfl)) pgs_nil))) (fun _ _ _ _ _ => pts_one (pt_cmpR (op_inK (K := K)) (pv 4) (pv 2) rfl)) (fun _ _ _ _ _ => pv 5)))
        (pss_one (ps_ret (pe_lc (own := [("mark", 5)]) (g := gName 5) (tt := tYes) (te := tIf (tTest (tOp (rIn K false) (tVar 5) (tVar 3))) (tOp (rIxL K) (tVar 3) (tC (.int 0))) (tVar 5)) rfl scUn.nd (pi_list (pv 1)) (blkOk_by (N := NUn) (sc := defScope pUnited) (by decide +kernel))
          (fun _ _ _ _ _ => pg_name (i := 5) scUn.nd rfl (Or.inl rfl)) (fun _ _ _ _ _ => pts_nil)
          (fun _ _ _ _ _ => pe_ifExp (pt_cmpR (op_inK (K := K)) (pv 5) (pv 3) rfl) (pe_ix (ix_listK (K := K) rfl) (pv 3) pe_int (fun _ _ => rfl)) (pv 5))))), ?_⟩
      refine ⟨_, rfl, _, rfl, true, false, a, b, zs.map V.str, codeV c, rfl, ha, hb, fun D nD => ?_⟩
      refine lc_it (walk_zB (n := zs.length) (xs := zs.map V.str) (ys := codeV c) (by rw [codeV_len, List.length_map]; omega)) (fun i H9 => H9 D = some (.lst (codeV (metOf zs c i ss))) ∧ Same H H9) ⟨upd_same, same_new nD _⟩ (fun i H9 _ q => ⟨tup_mono q.2 ha, Same.seq q.2 hb⟩) ?_ ?_
      · rintro i x H9 H10 hi ⟨h9, s9⟩ ⟨T0, u, v, rfl, nT0, rfl, eu, ev⟩
        obtain ⟨z, m, hz', hm, rfl, rfl⟩ := zip_get eu ev
        have sT := same_new nT0 (.tup [.str z, .int m])
        refine ⟨T0, [.str z, .int m], rfl, SqT.of upd_same, rfl, _, _, rfl, _, _, rfl, rfl, rfl, ?_⟩
        generalize upd H9 T0 (.tup [.str z, .int m]) = H10 at sT ⊢
        have h10 := sT _ _ h9
        refine ⟨_, rfl, _, rfl, d, _, rfl, .inr (tup_mono (s9.trans sT) hd), rfl, flat_strs ss, _, rfl, ?_⟩
        rw [show (if false = true then !inV (V.str z) (ss.map V.str) else inV (V.str z) (ss.map V.str)) = decide (z ∈ ss) from inV_strs z ss]
        refine ite2 (fun e => ?_) fun e => ?_
        · refine ⟨_, rfl, _, h10, small1000 (Nat.le_trans (met_len zs c i ss) (by omega)), ?_, fun b' o hb' => ?_⟩
          · rw [upd_same, met_step hz' hm, if_pos (of_decide_eq_true e), codeV_snoc]
          · rw [upd_ne (ne_of_none hb' nD)]
            exact sT _ _ (s9 _ _ hb')
        · refine ⟨?_, s9.trans sT⟩
          rw [met_step hz' hm, if_neg fun h => e (decide_eq_true h)]
          exact h10
      rintro H1 ⟨h1, s1⟩
      refine ⟨_, rfl, b, rfl, ⟨_, Same.seq s1 hb⟩, fun X nX => ?_⟩
      refine lc_it (walk_list (xs := codeV c)) (fun i H9 => H9 X = some (.lst (codeV ((c.take i).map fun m => if m ∈ metOf zs c zs.length ss then (metOf zs c zs.length ss).headD 0 else m))) ∧ Same H1 H9) ⟨upd_same, same_new nX _⟩ (fun i H9 _ q => Same.seq (s1.trans q.2) hb) ?_ ?_
      · rintro i x H9 H10 hi ⟨h9, s9⟩ ⟨rfl, hx⟩
        obtain ⟨m, hm, rfl⟩ := codeV_get hx
        have et : c.take (i + 1) = c.take i ++ [m] := by rw [List.take_add_one, hm]; rfl
        have li : i < c.length := (List.getElem?_eq_some_iff.mp hm).1
        have turn : ∀ v : Nat, v = (if m ∈ metOf zs c zs.length ss then (metOf zs c zs.length ss).headD 0 else m) → ∃ acc, H10 X = some (.lst acc) ∧ acc.length < sizeLine ∧ (upd H10 X (.lst (acc ++ [.int (v : Nat)]))) X = some (.lst (codeV ((c.take (i + 1)).map fun m => if m ∈ metOf zs c zs.length ss then (metOf zs c zs.length ss).headD 0 else m))) ∧ Same H1 (upd H10 X (.lst (acc ++ [.int (v : Nat)]))) := fun v ev => by
          refine ⟨_, h9, small1000 ?_, ?_, fun b' o hb' => ?_⟩
          · rw [codeV_len, List.length_map, List.length_take]
            omega
          · rw [upd_same, codeV_snoc, et, List.map_append, ev]
            rfl
          · rw [upd_ne (ne_of_none hb' nX)]
            exact s9 _ _ hb'
        refine ⟨rfl, _, rfl, _, rfl, D, _, rfl, .inl (SqL.of (s9 _ _ h1)), rfl, codeV_flat _, _, rfl, ?_⟩
        rw [show (if false = true then !inV (V.int (m : Nat)) (codeV (metOf zs c zs.length ss)) else inV (V.int (m : Nat)) (codeV (metOf zs c zs.length ss))) = decide (m ∈ metOf zs c zs.length ss) from inV_code m _]
        refine ite2 (fun e => ?_) fun e => ?_
        · have e' := of_decide_eq_true e
          obtain ⟨m0, r0, e0⟩ : ∃ m0 r0, metOf zs c zs.length ss = m0 :: r0 := by
            cases q : metOf zs c zs.length ss with
            | nil => rw [q] at e'; cases e'
            | cons m0 r0 => exact ⟨m0, r0, rfl⟩
          refine ⟨_, rfl, D, _, 0, .int (m0 : Nat), rfl, rfl, SqL.of (s9 _ _ h1), ?_, turn m0 ?_⟩
          · have : (codeV (metOf zs c zs.length ss))[0]? = some (.int (m0 : Nat)) := by rw [e0]; rfl
            exact atI_nat (j := 0) this
          · rw [if_pos e', e0]
            rfl
        · exact ⟨_, rfl, turn m (by rw [if_neg fun h => e (decide_eq_true h)])⟩
      · rintro H9 ⟨h9, s9⟩
        rw [codeV_len, List.take_length] at h9
        exact kk X H9 (s1.trans s9) (s1.free nX) h9
    · have hb : SqT K H b (codeV c) := hb
      refine ⟨_, pss_cons (ps_set (i := 3) scUn.nd rfl (.inr rfl) (pe_lc (own := [("name", 4), ("mark", 5)]) (g := gTup K 2 (gCons (gName 4) (gCons (gName 5) gNil))) rfl scUn.nd (pi_zB (by rfl) hz (pa_cons (pv 0) (pa_cons (pv 1) pa_nil))) (blkOk_by (N := NUn) (sc := defScope pUnited) (by decide +kernel))
          (fun _ _ _ _ _ => pg_tup rfl (pgs_cons (pg_name (i := 4) scUn.nd rfl (Or.inl rfl)) (pgs_cons (pg_name (i := 5) scUn.nd rfl (Or.inl rfl)) pgs_nil))) (fun _ _ _ _ _ => pts_one (pt_cmpR (op_inK (K := K)) (pv 4) (pv 2) rfl)) (fun _ _ _ _ _ => pv 5)))
        (pss_one (ps_ret (pe_lc (own := [("mark", 5)]) (g := gName 5) (tt := tYes) (te := tIf (tTest (tOp (rIn K false) (tVar 5) (tVar 3))) (tOp (rIxL K) (tVar 3) (tC (.int 0))) (tVar 5)) rfl scUn.nd (pi_tup (pv 1)) (blkOk_by (N := NUn) (sc := defScope pUnited) (by decide +kernel))
          (fun _ _ _ _ _ => pg_name (i := 5) scUn.nd rfl (Or.inl rfl)) (fun _ _ _ _ _ => pts_nil)
          (fun _ _ _ _ _ => pe_ifExp (pt_cmpR (op_inK (K := K)) (pv 5) (pv 3) rfl) (pe_ix (ix_listK (K := K) rfl) (pv 3) pe_int (fun _ _ => rfl)) (pv 5))))), ?_⟩
      refine ⟨_, rfl, _, rfl, true, true, a, b, zs.map V.str, codeV c, rfl, ha, hb, fun D nD => ?_⟩
      refine lc_it (walk_zB (n := zs.length) (xs := zs.map V.str) (ys := codeV c) (by rw [codeV_len, List.length_map]; omega)) (fun i H9 => H9 D = some (.lst (codeV (metOf zs c i ss))) ∧ Same H H9) ⟨upd_same, same_new nD _⟩ (fun i H9 _ q => ⟨tup_mono q.2 ha, tup_mono q.2 hb⟩) ?_ ?_
      · rintro i x H9 H10 hi ⟨h9, s9⟩ ⟨T0, u, v, rfl, nT0, rfl, eu, ev⟩
        obtain ⟨z, m, hz', hm, rfl, rfl⟩ := zip_get eu ev
        have sT := same_new nT0 (.tup [.str z, .int m])
        refine ⟨T0, [.str z, .int m], rfl, SqT.of upd_same, rfl, _, _, rfl, _, _, rfl, rfl, rfl, ?_⟩
        generalize upd H9 T0 (.tup [.str z, .int m]) = H10 at sT ⊢
        have h10 := sT _ _ h9
        refine ⟨_, rfl, _, rfl, d, _, rfl, .inr (tup_mono (s9.trans sT) hd), rfl, flat_strs ss, _, rfl, ?_⟩
        rw [show (if false = true then !inV (V.str z) (ss.map V.str) else inV (V.str z) (ss.map V.str)) = decide (z ∈ ss) from inV_strs z ss]
        refine ite2 (fun e => ?_) fun e => ?_
        · refine ⟨_, rfl, _, h10, small1000 (Nat.le_trans (met_len zs c i ss) (by omega)), ?_, fun b' o hb' => ?_⟩
          · rw [upd_same, met_step hz' hm, if_pos (of_decide_eq_true e), codeV_snoc]
          · rw [upd_ne (ne_of_none hb' nD)]
            exact sT _ _ (s9 _ _ hb')
        · refine ⟨?_, s9.trans sT⟩
          rw [met_step hz' hm, if_neg fun h => e (decide_eq_true h)]
          exact h10
      rintro H1 ⟨h1, s1⟩
      refine ⟨_, rfl, b, rfl, ⟨_, tup_mono s1 hb⟩, fun X nX => ?_⟩
      refine lc_it (walk_tup (xs := codeV c)) (fun i H9 => H9 X = some (.lst (codeV ((c.take i).map fun m => if m ∈ metOf zs c zs.length ss then (metOf zs c zs.length ss).headD 0 else m))) ∧ Same H1 H9) ⟨upd_same, same_new nX _⟩ (fun i H9 _ q => tup_mono (s1.trans q.2) hb) ?_ ?_
      · rintro i x H9 H10 hi ⟨h9, s9⟩ ⟨rfl, hx⟩
        obtain ⟨m, hm, rfl⟩ := codeV_get hx
        have et : c.take (i + 1) = c.take i ++ [m] := by rw [List.take_add_one, hm]; rfl
        have li : i < c.length := (List.getElem?_eq_some_iff.mp hm).1
        have turn : ∀ v : Nat, v = (if m ∈ metOf zs c zs.length ss then (metOf zs c zs.length ss).headD 0 else m) → ∃ acc, H10 X = some (.lst acc) ∧ acc.length < sizeLine ∧ (upd H10 X (.lst (acc ++ [.int (v : Nat)]))) X = some (.lst (codeV ((c.take (i + 1)).map fun m => if m ∈ metOf zs c zs.length ss then (metOf zs c zs.length ss).headD 0 else m))) ∧ Same H1 (upd H10 X (.lst (acc ++ [.int (v : Nat)]))) := fun v ev => by
          refine ⟨_, h9, small1000 ?_, ?_, fun b' o hb' => ?_⟩
          · rw [codeV_len, List.length_map, List.length_take]
            omega
          · rw [upd_same, codeV_snoc, et, List.map_append, ev]
            rfl
          · rw [upd_ne (ne_of_none hb' nX)]
            exact s9 _ _ hb'
        refine ⟨rfl, _, rfl, _, rfl, D, _, rfl, .inl (SqL.of (s9 _ _ h1)), rfl, codeV_flat _, _, rfl, ?_⟩
        rw [show (if false = true then !inV (V.int (m : Nat)) (codeV (metOf zs c zs.length ss)) else inV (V.int (m : Nat)) (codeV (metOf zs c zs.length ss))) = decide (m ∈ metOf zs c zs.length ss) from inV_code m _]
        refine ite2 (fun e => ?_) fun e => ?_
        · have e' := of_decide_eq_true e
          obtain ⟨m0, r0, e0⟩ : ∃ m0 r0, metOf zs c zs.length ss = m0 :: r0 := by
            cases q : metOf zs c zs.length ss with
            | nil => rw [q] at e'; cases e'
            | cons m0 r0 => exact ⟨m0, r0, rfl⟩
          refine ⟨_, rfl, D, _, 0, .int (m0 : Nat), rfl, rfl, SqL.of (s9 _ _ h1), ?_, turn m0 ?_⟩
          · have : (codeV (metOf zs c zs.length ss))[0]? = some (.int (m0 : Nat)) := by rw [e0]; rfl
            exact atI_nat (j := 0) this
          · rw [if_pos e', e0]
            rfl
        · exact ⟨_, rfl, turn m (by rw [if_neg fun h => e (decide_eq_true h)])⟩
      · rintro H9 ⟨h9, s9⟩
        rw [codeV_len, List.take_length] at h9
        exact kk X H9 (s1.trans s9) (s1.free nX) h9
end
end K1
set_option linter.all false
set_option maxRecDepth 100000
set_option maxHeartbeats 1000000
namespace K1
open PySem L2
section
variable {κ : Type} [DecidableEq κ]
theorem mem_blkG {zs : List Str} {c : List κ} {m : κ} {x : Str} : x ∈ blkG zs c zs.length m ↔ (x, m) ∈ zs.zip c := by
  unfold blkG
  rw [List.take_of_length_le (by rw [List.length_zip]; omega), List.mem_map]
  constructor
  · rintro ⟨p, hp, rfl⟩
    obtain ⟨h1, h2⟩ := List.mem_filter.mp hp
    have e := of_decide_eq_true h2
    subst e
    exact h1
  · intro h
    exact ⟨(x, m), List.mem_filter.mpr ⟨h, decide_eq_true rfl⟩, rfl⟩
theorem blkG_sub (zs : List Str) (c : List κ) (m : κ) : (blkG zs c zs.length m).Sublist zs := by
  unfold blkG
  rw [List.take_of_length_le (by rw [List.length_zip]; omega)]
  exact ((List.filter_sublist (p := fun p : Str × κ => decide (p.2 = m)) (l := zs.zip c)).map _).trans (zip_fst_sub zs c)
theorem mem_zip_map {zs : List Str} {f : Str → κ} {x : Str} {m : κ} : (x, m) ∈ zs.zip (zs.map f) ↔ x ∈ zs ∧ f x = m := by
  induction zs with
  | nil => simp
  | cons a r ih =>
    rw [List.map_cons, List.zip_cons_cons, List.mem_cons, List.mem_cons, ih]
    constructor
    · rintro (h | ⟨h1, h2⟩)
      · cases h
        exact ⟨.inl rfl, rfl⟩
      · exact ⟨.inr h1, h2⟩
    · rintro ⟨h1 | h1, h2⟩
      · subst h1
        exact .inl (by rw [h2])
      · exact .inr ⟨h1, h2⟩
theorem one_grp {zs : List Str} {f : Str → κ} {x y : Str} : oneB (grpOf zs (zs.map f)) x y ↔ x ∈ zs ∧ y ∈ zs ∧ f x = f y := by
  constructor
  · rintro ⟨b, hb, h1, h2⟩
    obtain ⟨m, _, rfl⟩ := List.mem_map.mp hb
    obtain ⟨a1, a2⟩ := mem_zip_map.mp (mem_blkG.mp h1)
    obtain ⟨b1, b2⟩ := mem_zip_map.mp (mem_blkG.mp h2)
    exact ⟨a1, b1, a2.trans b2.symm⟩
  · rintro ⟨h1, h2, e⟩
    exact ⟨_, List.mem_map.mpr ⟨f x, mem_firsts.mpr (List.mem_map.mpr ⟨x, h1, rfl⟩), rfl⟩, mem_blkG.mpr (mem_zip_map.mpr ⟨h1, rfl⟩), mem_blkG.mpr (mem_zip_map.mpr ⟨h2, e.symm⟩)⟩
theorem good_grp {zs : List Str} {f : Str → κ} (nd : zs.Nodup) (nm : ∀ z ∈ zs, nameOk z = true) (few : zs.length ≤ 7) : GoodB (grpOf zs (zs.map f)) := by
  have bl : ∀ m, (blkG zs (zs.map f) zs.length m).length ≤ 7 := fun m => Nat.le_trans (blkG_sub zs _ m).length_le few
  have lf : (firsts (zs.map f)).length ≤ 7 := by
    have := firsts_len (zs.map f)
    rw [List.length_map] at this
    omega
  refine ⟨fun b hb z hz => ?_, fun b hb => ?_, fun b hb => ?_, ?_, ?_, fun b hb => ?_, ?_⟩
  · obtain ⟨m, _, rfl⟩ := List.mem_map.mp hb
    exact nm z ((blkG_sub zs _ m).mem hz)
  · obtain ⟨m, hm, rfl⟩ := List.mem_map.mp hb
    obtain ⟨x, hx, rfl⟩ := List.mem_map.mp (mem_firsts.mp hm)
    exact List.ne_nil_of_mem (mem_blkG.mpr (mem_zip_map.mpr ⟨hx, rfl⟩))
  · obtain ⟨m, _, rfl⟩ := List.mem_map.mp hb
    exact nd.sublist (blkG_sub zs _ m)
  · refine List.pairwise_map.mpr ((firsts_nd (zs.map f)).imp fun {i j} ne z h1 h2 => ne ?_)
    exact (mem_zip_map.mp (mem_blkG.mp h1)).2.symm.trans (mem_zip_map.mp (mem_blkG.mp h2)).2
  · rw [grpOf, List.length_map]
    omega
  · obtain ⟨m, _, rfl⟩ := List.mem_map.mp hb
    exact Nat.le_trans (bl m) (by decide)
  · refine Nat.le_trans (flat_le (n := 7) fun b hb => ?_) ?_
    · obtain ⟨m, _, rfl⟩ := List.mem_map.mp hb
      exact bl m
    · rw [grpOf, List.length_map]
      omega
end
/-! ### what two meetings make -/
/-- joined by a row of steps -/
inductive JR (M : Str → Prop) (E : Str → Str → Prop) : Str → Str → Prop where
  | refl {x : Str} : M x → JR M E x x
  | step {x y z : Str} : JR M E x y → M z → E y z → JR M E x z
section
variable {M : Str → Prop} {E E' : Str → Str → Prop}
theorem JR.mem {x y : Str} (h : JR M E x y) : M x ∧ M y := by
  induction h with
  | refl m => exact ⟨m, m⟩
  | step _ m _ ih => exact ⟨ih.1, m⟩
theorem JR.trans {x y z : Str} (h : JR M E x y) (k : JR M E y z) : JR M E x z := by
  induction k with
  | refl _ => exact h
  | step _ m e ih => exact .step ih m e
theorem JR.symm (sy : ∀ x y, E x y → E y x) {x y : Str} (h : JR M E x y) : JR M E y x := by
  induction h with
  | refl m => exact .refl m
  | step k m e ih => exact (JR.step (.refl m) k.mem.2 (sy _ _ e)).trans ih
theorem JR.mono (h : ∀ x y, E x y → E' x y) {x y : Str} (k : JR M E x y) : JR M E' x y := by
  induction k with
  | refl m => exact .refl m
  | step _ m e ih => exact .step ih m (h _ _ e)
end
theorem one_symm {R : List (List Str)} {x y : Str} (h : oneB R x y) : oneB R y x := by
  obtain ⟨b, hb, h1, h2⟩ := h
  exact ⟨b, hb, h2, h1⟩
theorem one_mem {R : List (List Str)} {x y : Str} (h : oneB R x y) : x ∈ R.flatten ∧ y ∈ R.flatten := by
  obtain ⟨b, hb, h1, h2⟩ := h
  exact ⟨List.mem_flatten.mpr ⟨b, hb, h1⟩, List.mem_flatten.mpr ⟨b, hb, h2⟩⟩
/-- names that one of two meetings holds as one, and what follows from it -/
def orOne (R S : List (List Str)) : Str → Str → Prop := JR (· ∈ R.flatten) fun x y => oneB R x y ∨ oneB S x y
def numN (R : List (List Str)) (x : Str) : Nat := (numOf R x).getD 0
theorem code_num (R : List (List Str)) : (codeOf R).map V.int = codeV ((namesOf R).map (numN R)) := by
  unfold codeOf codeV numN
  rw [List.map_map, List.map_map]
  rfl
theorem mem_names {R : List (List Str)} {x : Str} : x ∈ namesOf R ↔ x ∈ R.flatten := mem_ascS
theorem numN_one {R : List (List Str)} (g : GoodR R) {x y : Str} (hx : x ∈ R.flatten) (hy : y ∈ R.flatten) : numN R x = numN R y ↔ oneB R x y := by
  rw [← num_one g.good.dis hx]
  obtain ⟨i, hi⟩ := Option.isSome_iff_exists.mp (numOf_mem.mpr hx)
  obtain ⟨j, hj⟩ := Option.isSome_iff_exists.mp (numOf_mem.mpr hy)
  unfold numN
  rw [hi, hj]
  simp
theorem names_nd (R : List (List Str)) : (namesOf R).Nodup := asc_nodup tot_ltS (asc_asc tot_ltS _)
theorem mem_met {zs : List Str} {f : Str → Nat} {ss : List Str} {m : Nat} : m ∈ metOf zs (zs.map f) zs.length ss ↔ ∃ a, a ∈ zs ∧ a ∈ ss ∧ f a = m := by
  unfold metOf
  rw [List.take_of_length_le (by rw [List.length_zip]; omega), List.mem_map]
  constructor
  · rintro ⟨⟨a, k⟩, hp, rfl⟩
    obtain ⟨h1, h2⟩ := List.mem_filter.mp hp
    obtain ⟨h3, h4⟩ := mem_zip_map.mp h1
    exact ⟨a, h3, of_decide_eq_true h2, h4⟩
  · rintro ⟨a, h1, h2, h3⟩
    exact ⟨(a, m), List.mem_filter.mpr ⟨mem_zip_map.mpr ⟨h1, h3⟩, decide_eq_true h2⟩, rfl⟩
/-- the marks once more, after a block -/
def uniteF (zs : List Str) (f : Str → Nat) (ss : List Str) (x : Str) : Nat := if f x ∈ metOf zs (zs.map f) zs.length ss then (metOf zs (zs.map f) zs.length ss).headD 0 else f x
theorem unite_map (zs : List Str) (f : Str → Nat) (ss : List Str) : unite zs (zs.map f) ss = zs.map (uniteF zs f ss) := by
  unfold unite uniteF
  rw [List.map_map]
  rfl
theorem uniteF_eq {zs : List Str} {f : Str → Nat} {ss : List Str} {x y : Str} : uniteF zs f ss x = uniteF zs f ss y ↔ f x = f y ∨ (f x ∈ metOf zs (zs.map f) zs.length ss ∧ f y ∈ metOf zs (zs.map f) zs.length ss) := by
  have hd : ∀ {m : Nat}, m ∈ metOf zs (zs.map f) zs.length ss → (metOf zs (zs.map f) zs.length ss).headD 0 ∈ metOf zs (zs.map f) zs.length ss := fun {m} h => by
    cases q : metOf zs (zs.map f) zs.length ss with
    | nil => rw [q] at h; cases h
    | cons a r => exact .head _
  unfold uniteF
  by_cases h1 : f x ∈ metOf zs (zs.map f) zs.length ss
  · by_cases h2 : f y ∈ metOf zs (zs.map f) zs.length ss
    · rw [if_pos h1, if_pos h2]
      exact ⟨fun _ => .inr ⟨h1, h2⟩, fun _ => rfl⟩
    · rw [if_pos h1, if_neg h2]
      exact ⟨fun e => absurd (e ▸ hd h1) h2, fun e => e.elim (fun e => absurd (e ▸ h1) h2) fun e => absurd e.2 h2⟩
  · by_cases h2 : f y ∈ metOf zs (zs.map f) zs.length ss
    · rw [if_neg h1, if_pos h2]
      exact ⟨fun e => absurd (e.symm ▸ hd h2) h1, fun e => e.elim (fun e => absurd (e.symm ▸ h2) h1) fun e => absurd e.1 h1⟩
    · rw [if_neg h1, if_neg h2]
      exact ⟨.inl, fun e => e.elim id fun e => absurd e.1 h1⟩
theorem unite_step {zs : List Str} {f : Str → Nat} {ss : List Str} {E : Str → Str → Prop} (sy : ∀ x y, E x y → E y x) (h : ∀ x y, x ∈ zs → y ∈ zs → (f x = f y ↔ JR (· ∈ zs) E x y)) {x y : Str} (hx : x ∈ zs) (hy : y ∈ zs) :
    uniteF zs f ss x = uniteF zs f ss y ↔ JR (· ∈ zs) (fun x y => E x y ∨ (x ∈ ss ∧ y ∈ ss)) x y := by
  constructor
  · intro e
    rcases uniteF_eq.mp e with e | ⟨h1, h2⟩
    · exact ((h x y hx hy).mp e).mono fun _ _ => .inl
    · obtain ⟨a, a1, a2, a3⟩ := mem_met.mp h1
      obtain ⟨b, b1, b2, b3⟩ := mem_met.mp h2
      have j1 := ((h x a hx a1).mp a3.symm).mono (E' := fun x y => E x y ∨ (x ∈ ss ∧ y ∈ ss)) fun _ _ => .inl
      have j2 := ((h b y b1 hy).mp b3).mono (E' := fun x y => E x y ∨ (x ∈ ss ∧ y ∈ ss)) fun _ _ => .inl
      exact (JR.step j1 b1 (.inr ⟨a2, b2⟩)).trans j2
  · intro j
    induction j with
    | refl _ => rfl
    | @step y z k m e ih =>
      have my := k.mem.2
      refine (ih my).trans (uniteF_eq.mpr ?_)
      rcases e with e | ⟨e1, e2⟩
      · exact .inl ((h _ _ my m).mpr (.step (.refl my) m e))
      · exact .inr ⟨mem_met.mpr ⟨_, my, e1, rfl⟩, mem_met.mpr ⟨_, m, e2, rfl⟩⟩
end K1
set_option linter.all false
set_option maxRecDepth 100000
set_option maxHeartbeats 1000000
set_option pp.maxSteps 800
namespace K1
open PySem L2
/-- two meetings of the same names made one -/
def spMade (C : Addr) (J : List (List Str) → List (List Str) → Str → Str → Prop) : Sp := fun vs H Q _ => ∃ (a b : Addr) (R S : List (List Str)), vs = [.ref a, .ref b] ∧ MeetAt C H a R ∧ MeetAt C H b S ∧ namesOf R = namesOf S ∧ (namesOf R).length ≤ 7 ∧
  ∀ (o : Addr) (T : List (List Str)) (H' : Hp), Same H H' → H o = none → MeetAt C H' o T → (∀ x y, oneB T x y ↔ J R S x y) → Q (.ref o) H'
def andOne (R S : List (List Str)) (x y : Str) : Prop := oneB R x y ∧ oneB S x y
structure MadeF (P : Program) (w : World) (K : PySem.W.Frag) (mg : Str → Option Value) (base : Heap) (C : Addr) : Prop where
  c : MeetC K mg C
  isi : mg "isinstance" = none
  list : mg "list" = none
  zip : mg "zip" = none
  chk : ∃ g fd, Meth K C "_check_names" g ∧ Binds K fd ["self", "other"] [] ∧ FnOk P w K mg base CX0 1 g fd ["self", "other"] (spCheckM C)
  make : ∃ g fd, Mk K C g ∧ Binds K fd ["self", "blocks"] [] ∧ FnOk P w K mg base CX0 5 g fd ["self", "blocks"] (spMInit C)
  grp : ∃ g fd, mg "grouped" = some (.ref g) ∧ PySem.W.keepIn K (.ref g) = true ∧ Binds K fd ["names", "marks"] [] ∧ FnOk P w K mg base CX0 1 g fd ["names", "marks"] (spGrpT K) ∧ FnOk P w K mg base CX0 1 g fd ["names", "marks"] (spGrpI K)
  uni : ∃ g fd, mg "united" = some (.ref g) ∧ PySem.W.keepIn K (.ref g) = true ∧ Binds K fd ["names", "marks", "block"] [] ∧ FnOk P w K mg base CX0 1 g fd ["names", "marks", "block"] (spUnited K)
section
variable {P : Program} {w : World} {K : PySem.W.Frag} {mg : Str → Option Value} {base : Heap} {C : Addr}
theorem code_get {R : List (List Str)} {i : Nat} {z : Str} (h : (namesOf R)[i]? = some z) : ((codeOf R).map V.int)[i]? = some (.int (numN R z : Nat)) := by
  rw [code_num, codeV, List.map_map, List.getElem?_map, h]
  rfl
theorem scmAnd : FnScope ["self", "other"] ["self", "other"] (defScope cMeetingAnd) := ⟨rfl, rfl, rfl, by decide +kernel, rfl, by decide +kernel, by decide +kernel⟩
theorem ok_and {f : Addr} {fd : FuncData} (F : Fun K "__and__" "Meeting.__and__" cMeetingAnd f fd) (T : MadeF P w K mg base C) : FnOk P w K mg base CX0 7 f fd ["self", "other"] (spMade C andOne) := by
  obtain ⟨gC, fdC, MC, bC, GC⟩ := T.chk
  obtain ⟨fM, fdM, MM, bM, GM⟩ := T.make
  obtain ⟨fG, fdG, gG, kG, bG, GT, GI⟩ := T.grp
  have c := T.c
  refine F.ok scmAnd (fun vs H Q E h => ?_) (fun cdv A outer s H vs Q E hr h => ?_)
  · obtain ⟨a, b, R, S, rfl, _⟩ := h
    rfl
  · obtain ⟨a, b, R, S, rfl, ma, mb, en, few, k⟩ := h
    have r1 : Room 1 _ := hr.mono (by decide)
    refine ⟨_, pss_cons (ps_if (pt_not (pt_val (pe_callB (C8.call_isC T.c.isC) (by rfl) T.isi (by decide +kernel) (pa_cons (pv 1) (pa_cons (pe_glob (v := .ref C) (by rfl) T.c.glob rfl) pa_nil))))) pss_never pss_nil)
      (pss_cons (ps_expr (pe_meth (pv 0) c.cls MC GC r1 bC .nil pass0 (pa_cons (pv 1) pa_nil)))
      (pss_one (ps_ret (pe_make MM GM hr (by rfl) c.glob bM .nil pass0 (pa_cons (pe_call GT r1 (by rfl) gG kG bG .nil pass0 (pa_cons (pe_fld (pv 0) rfl) (pa_cons (pe_listZip rfl (by rfl) T.list (by decide +kernel) (by rfl) T.zip (pa_cons (pe_fld (pv 0) rfl) (pa_cons (pe_fld (pv 1) rfl) pa_nil))) pa_nil))) pa_nil))))), ?_⟩
    obtain ⟨dx, t, d, n, cc, M, kvs, o⟩ := id ma
    obtain ⟨dx', t', d', n', cc', M', kvs', o'⟩ := id mb
    refine ⟨_, rfl, b, dx', _, rfl, o'.ob, _, rfl, iteF ?_⟩
    refine ⟨_, rfl, a, dx, _, rfl, o.ob, rfl, _, rfl, a, b, R, S, rfl, ma, mb, en, fun H1 s1 => ?_⟩
    refine ⟨_, rfl, a, C, dx, _, _, rfl, s1 _ _ o.ob, c.cls, c.nn, rfl, ?_⟩
    refine ⟨_, rfl, a, C, dx, _, _, rfl, s1 _ _ o.ob, c.cls, c.nc, rfl, _, rfl, b, C, dx', _, _, rfl, s1 _ _ o'.ob, c.cls, c.nc, rfl, ?_⟩
    have lc : ∀ R : List (List Str), ((codeOf R).map V.int).length = (namesOf R).length := fun R => by rw [code_num, codeV_len, List.length_map]
    refine ⟨true, true, cc, cc', (codeOf R).map V.int, (codeOf S).map V.int, rfl, SqT.of (s1 _ _ o.co), SqT.of (s1 _ _ o'.co), by rw [lc]; exact sz (by omega), fun p rs H2 s2 np hp lr tr => ?_⟩
    rw [lc, lc, ← en, Nat.min_self] at lr
    have s2 : Same H1 H2 := s2
    refine ⟨true, false, n, p, namesOf R, rs, (namesOf R).map fun x => (numN R x, numN S x), rfl, SqT.of (s2 _ _ (s1 _ _ o.na)), SqL.of hp, ⟨by rw [lr, List.length_map], fun i r m h1 h2 => ?_⟩, by rw [List.length_map], few, fun bp B H3 s3 nbp hbp hB fB eB => ?_⟩
    · rw [List.getElem?_map] at h2
      obtain ⟨z, hz, rfl⟩ := Option.map_eq_some_iff.mp h2
      exact (tr i r _ _ h1 (code_get hz) (code_get (by rw [← en]; exact hz))).2
    · have nm := names_ok o.good
      have g : GoodB (rowT B) := by rw [eB]; exact good_grp (names_nd R) nm few
      refine mmake_to hbp hB g fun x H4 s4 nx mx => ?_
      have sA := ((s1.trans s2).trans s3).trans s4
      refine k x _ H4 sA (((s1.trans s2).trans s3).free nx) mx fun u v => ?_
      rw [one_rows g, eB, one_grp]
      constructor
      · rintro ⟨hu, hv, e⟩
        have hu' := names_flat en (mem_names.mp hu)
        have hv' := names_flat en (mem_names.mp hv)
        exact ⟨(numN_one o.good (mem_names.mp hu) (mem_names.mp hv)).mp (congrArg Prod.fst e), (numN_one o'.good hu' hv').mp (congrArg Prod.snd e)⟩
      · rintro ⟨h1, h2⟩
        obtain ⟨hu, hv⟩ := one_mem h1
        obtain ⟨hu', hv'⟩ := one_mem h2
        exact ⟨mem_names.mpr hu, mem_names.mpr hv, by rw [(numN_one o.good hu hv).mpr h1, (numN_one o'.good hu' hv').mpr h2]⟩
end
end K1
set_option linter.all false
set_option maxRecDepth 100000
set_option maxHeartbeats 1000000
set_option pp.maxSteps 800
namespace K1
open PySem L2
theorem JR.cong {M M' : Str → Prop} {E E' : Str → Str → Prop} (hm : ∀ x, M x ↔ M' x) (he : ∀ x y, E x y ↔ E' x y) {x y : Str} : JR M E x y ↔ JR M' E' x y := by
  have e1 : M = M' := funext fun x => propext (hm x)
  have e2 : E = E' := funext fun x => funext fun y => propext (he x y)
  rw [e1, e2]
theorem one_snoc {S : List (List Str)} {i : Nat} {ss : List Str} (h : S[i]? = some ss) {x y : Str} : oneB (S.take (i + 1)) x y ↔ oneB (S.take i) x y ∨ (x ∈ ss ∧ y ∈ ss) := by
  have e : S.take (i + 1) = S.take i ++ [ss] := by rw [List.take_add_one, h]; rfl
  rw [e]
  constructor
  · rintro ⟨b, hb, h1, h2⟩
    rcases List.mem_append.mp hb with hb | hb
    · exact .inl ⟨b, hb, h1, h2⟩
    · rw [List.mem_singleton.mp hb] at h1 h2
      exact .inr ⟨h1, h2⟩
  · rintro (⟨b, hb, h1, h2⟩ | ⟨h1, h2⟩)
    · exact ⟨b, List.mem_append_left _ hb, h1, h2⟩
    · exact ⟨ss, by simp, h1, h2⟩
def orE (R S : List (List Str)) (x y : Str) : Prop := oneB R x y ∨ oneB S x y
theorem orE_symm (R S : List (List Str)) (x y : Str) (h : orE R S x y) : orE R S y x := h.imp one_symm one_symm
theorem or_base {R : List (List Str)} (g : GoodR R) {x y : Str} (hx : x ∈ namesOf R) (hy : y ∈ namesOf R) : numN R x = numN R y ↔ JR (· ∈ namesOf R) (orE R []) x y := by
  constructor
  · intro e
    exact .step (.refl hx) hy (.inl ((numN_one g (mem_names.mp hx) (mem_names.mp hy)).mp e))
  · intro j
    clear hy
    induction j with
    | refl _ => rfl
    | @step y z k m e ih =>
      refine ih.trans ?_
      rcases e with e | ⟨b, hb, _⟩
      · exact (numN_one g (mem_names.mp k.mem.2) (mem_names.mp m)).mpr e
      · cases hb
section
variable {P : Program} {w : World} {K : PySem.W.Frag} {mg : Str → Option Value} {base : Heap} {C : Addr}
abbrev NOr : List Str := ["self", "other", "marks", "block"]
theorem scmOr : FnScope NOr ["self", "other"] (defScope cMeetingOr) := ⟨rfl, rfl, rfl, by decide +kernel, rfl, by decide +kernel, by decide +kernel⟩
theorem ok_or {f : Addr} {fd : FuncData} (F : Fun K "__or__" "Meeting.__or__" cMeetingOr f fd) (T : MadeF P w K mg base C) : FnOk P w K mg base CX0 7 f fd ["self", "other"] (spMade C orOne) := by
  obtain ⟨gC, fdC, MC, bC, GC⟩ := T.chk
  obtain ⟨fM, fdM, MM, bM, GM⟩ := T.make
  obtain ⟨fG, fdG, gG, kG, bG, GT, GI⟩ := T.grp
  obtain ⟨fU, fdU, gU, kU, bU, GU⟩ := T.uni
  have c := T.c
  refine F.ok scmOr (fun vs H Q E h => ?_) (fun cdv A outer s H vs Q E hr h => ?_)
  · obtain ⟨a, b, R, S, rfl, _⟩ := h
    rfl
  · obtain ⟨a, b, R, S, rfl, ma, mb, en, few, k⟩ := h
    have r1 : Room 1 _ := hr.mono (by decide)
    refine ⟨_, pss_cons (ps_if (pt_not (pt_val (pe_callB (C8.call_isC T.c.isC) (by rfl) T.isi (by decide +kernel) (pa_cons (pv 1) (pa_cons (pe_glob (v := .ref C) (by rfl) T.c.glob rfl) pa_nil))))) pss_never pss_nil)
      (pss_cons (ps_expr (pe_meth (pv 0) c.cls MC GC r1 bC .nil pass0 (pa_cons (pv 1) pa_nil)))
      (pss_cons (ps_set (i := 2) scmOr.nd rfl (.inl rfl) (pe_fld (pv 0) rfl))
      (pss_cons (ps_for PassesOwn.never rfl (pi_tup (pe_fld (pv 1) rfl)) (pg_name (i := 3) scmOr.nd rfl (Or.inl rfl))
        (pss_one (ps_set (i := 2) scmOr.nd rfl (.inl rfl) (pe_call GU r1 (by rfl) gU kU bU .nil pass0 (pa_cons (pe_fld (pv 0) rfl) (pa_cons (pv 2) (pa_cons (pv 3) pa_nil)))))))
      (pss_one (ps_ret (pe_make MM GM hr (by rfl) c.glob bM .nil pass0 (pa_cons (pe_call GI r1 (by rfl) gG kG bG .nil pass0 (pa_cons (pe_fld (pv 0) rfl) (pa_cons (pv 2) pa_nil))) pa_nil))))))), ?_⟩
    obtain ⟨dx, t, d, n, cc, M, kvs, o⟩ := id ma
    obtain ⟨dx', t', d', n', cc', M', kvs', o'⟩ := id mb
    refine ⟨_, rfl, b, dx', _, rfl, o'.ob, _, rfl, iteF ?_⟩
    refine ⟨_, rfl, a, dx, _, rfl, o.ob, rfl, _, rfl, a, b, R, S, rfl, ma, mb, en, fun H1 s1 => ?_⟩
    refine ⟨_, rfl, a, C, dx, _, _, rfl, s1 _ _ o.ob, c.cls, c.nc, rfl, ?_⟩
    refine ⟨_, rfl, b, C, dx', _, _, rfl, s1 _ _ o'.ob, c.cls, c.nb, rfl, t', rfl, ⟨_, SqT.of (s1 _ _ o'.bl)⟩, ?_⟩
    have few' := few
    refine for_tup (xs := refT M') (fun i σ H9 => ∃ (m : Addr) (tt : Bool) (f : Str → Nat) (v3 : Option V), σ = [some (.ref a), some (.ref b), some (.ref m), v3] ∧ SqB K tt H9 m (codeV ((namesOf R).map f)) ∧ (∀ x y, x ∈ namesOf R → y ∈ namesOf R → (f x = f y ↔ JR (· ∈ namesOf R) (orE R (S.take i)) x y)) ∧ Same H1 H9)
      ⟨cc, true, numN R, none, rfl, by rw [← code_num]; exact SqT.of (s1 _ _ o.co), fun x y hx hy => or_base o.good hx hy, Same.refl _⟩ (fun i σ H9 _ h9 => by obtain ⟨_, _, _, _, _, _, _, s⟩ := h9; exact SqT.of (s _ _ (s1 _ _ o'.bl))) ?_ ?_
    · rintro i v σ H9 hv ⟨m, tt, f, v3, rfl, hm, hf, s9⟩
      have li : i < M'.length := by
        have := (List.getElem?_eq_some_iff.mp hv).1
        rwa [refT_len] at this
      have hp : M'[i]? = some M'[i] := List.getElem?_eq_getElem li
      generalize M'[i] = p at hp
      obtain rfl : v = .ref p.1 := by
        rw [refT, List.getElem?_map, hp] at hv
        exact (Option.some.inj hv).symm
      have rp : S[i]? = some p.2 := by rw [← o'.row, rowT, List.getElem?_map, hp]; rfl
      have sA := s1.trans s9
      refine ⟨_, rfl, a, C, dx, _, _, rfl, sA _ _ o.ob, c.cls, c.nn, rfl, _, rfl, _, rfl, tt, n, m, p.1, namesOf R, (namesOf R).map f, p.2, rfl, SqT.of (sA _ _ o.na), hm, SqT.of (sA _ _ (o'.tu p (List.mem_of_getElem? hp))), by rw [List.length_map], few, fun q H10 s10 nq hq => ?_⟩
      refine ⟨q, false, uniteF (namesOf R) f p.2, _, rfl, ?_, fun x y hx hy => ?_, s9.trans s10⟩
      · rw [← unite_map]
        exact SqL.of hq
      · refine (unite_step (orE_symm R (S.take i)) hf hx hy).trans (JR.cong (fun _ => Iff.rfl) fun u v => ?_)
        unfold orE
        rw [one_snoc rp, or_assoc]
    · rintro σ H9 ⟨m, tt, f, v3, rfl, hm, hf, s9⟩
      have lS : (refT M').length = S.length := by rw [refT_len, ← rowT_len, o'.row]
      rw [lS, List.take_length] at hf
      have sA := s1.trans s9
      refine ⟨_, rfl, a, C, dx, _, _, rfl, sA _ _ o.ob, c.cls, c.nn, rfl, _, rfl, true, tt, n, m, namesOf R, (namesOf R).map f, rfl, SqT.of (sA _ _ o.na), hm, by rw [List.length_map], few, fun bp B H3 s3 nbp hbp hB fB eB => ?_⟩
      have g : GoodB (rowT B) := by rw [eB]; exact good_grp (names_nd R) (names_ok o.good) few
      refine mmake_to hbp hB g fun x H4 s4 nx mx => ?_
      refine k x _ H4 ((sA.trans s3).trans s4) ((sA.trans s3).free nx) mx fun u v => ?_
      rw [one_rows g, eB, one_grp]
      have cg : JR (· ∈ namesOf R) (orE R S) u v ↔ orOne R S u v := JR.cong (fun _ => mem_names) fun _ _ => Iff.rfl
      constructor
      · rintro ⟨hu, hv, e⟩
        exact cg.mp ((hf u v hu hv).mp e)
      · intro j
        obtain ⟨hu, hv⟩ := (cg.mpr j).mem
        exact ⟨hu, hv, (hf u v hu hv).mpr (cg.mpr j)⟩
end
end K1
set_option linter.all false
set_option maxRecDepth 100000
set_option maxHeartbeats 1000000
set_option pp.maxSteps 800
namespace K1
open PySem L2
theorem ixN_natJ {n j : Nat} (hj : j < n) : ixN n (j : Int) = some j := by
  unfold ixN
  rw [if_pos (by omega), if_pos (by omega), Int.toNat_natCast]
def edgeC (L : List (List Nat)) (j k : Nat) : Bool := L.any fun c => decide (c.getD j 0 = c.getD k 0)
def spJoined : Sp := fun vs H Q _ => ∃ (a b : Addr) (zs : List Str) (L : CL), vs = [.ref a, .ref b] ∧ H a = some (.lst (zs.map V.str)) ∧ H b = some (.lst (refC L)) ∧ (∀ p ∈ L, H p.1 = some (.tup (codeV p.2)) ∧ p.2.length = zs.length) ∧ zs.length ≤ 7 ∧ L.length ≤ 9 ∧
  ∀ (p : Addr) (H' : Hp), Same H H' → H p = none → H' p = some (.lst (codeV (joinJ (edgeC (L.map (·.2))) zs.length (List.range zs.length) zs.length))) → Q (.ref p) H'
theorem code_at {c : List Nat} {j : Nat} (h : j < c.length) : (codeV c)[j]? = some (.int (c.getD j 0 : Nat)) := by
  rw [codeV, List.getElem?_map, List.getElem?_eq_getElem h, List.getD_eq_getElem?_getD, List.getElem?_eq_getElem h]
  rfl
theorem code_set (c : List Nat) (j v : Nat) : (codeV c).set j (.int (v : Nat)) = codeV (c.set j v) := by
  unfold codeV
  rw [List.map_set]
structure TxtJ (mg : Str → Option Value) : Prop where
  list : mg "list" = none
  range : mg "range" = none
  len : mg "len" = none
  any : mg "any" = none
  min : mg "min" = none
  int : mg "int" = none
section
variable {P : Program} {w : World} {K : PySem.W.Frag} {mg : Str → Option Value} {base : Heap}
abbrev NJo : List Str := ["_law_names_here", "_law_codes", "_law_found", "_law_turn", "_law_k", "_law_j", "_law_code"]
theorem scJo : FnScope NJo ["_law_names_here", "_law_codes"] (defScope sJoined) := ⟨rfl, rfl, rfl, by decide +kernel, rfl, by decide +kernel, by decide +kernel⟩
theorem ok_joined {f : Addr} {fd : FuncData} (F : Fun K "_law_joined" "_law_joined" sJoined f fd) (T : TxtJ mg) : FnOk P w K mg base CX0 1 f fd ["_law_names_here", "_law_codes"] spJoined := by
  refine F.ok scJo (fun vs H Q E h => ?_) (fun cdv A outer s H vs Q E hr h => ?_)
  · obtain ⟨a, b, zs, L, rfl, _⟩ := h
    rfl
  · obtain ⟨a, b, zs, L, rfl, ha, hb, hL, few, fewL, kk⟩ := h
    refine ⟨_, pss_cons (ps_set (i := 2) scJo.nd rfl (.inl rfl) (pe_listRg rfl (by rfl) T.list (prg_1 (by rfl) T.range (pe_callB call_len_seq (by rfl) T.len PySem.boot_len (pa_cons (pv 0) pa_nil)))))
      (pss_cons (ps_for PassesOwn.never rfl (pi_range1 (by rfl) T.range (pa_cons (pe_callB call_len_seq (by rfl) T.len PySem.boot_len (pa_cons (pv 0) pa_nil)) pa_nil)) (pg_name (i := 3) scJo.nd rfl (Or.inl rfl))
        (pss_one (ps_for PassesOwn.never rfl (pi_range1 (by rfl) T.range (pa_cons (pe_callB call_len_seq (by rfl) T.len PySem.boot_len (pa_cons (pv 0) pa_nil)) pa_nil)) (pg_name (i := 4) scJo.nd rfl (Or.inr rfl))
          (pss_one (ps_for PassesOwn.never rfl (pi_range1 (by rfl) T.range (pa_cons (pe_callB call_len_seq (by rfl) T.len PySem.boot_len (pa_cons (pv 0) pa_nil)) pa_nil)) (pg_name (i := 5) scJo.nd rfl (Or.inr rfl))
            (pss_one (ps_if (pt_val (pe_callB (cr_any rfl) (by rfl) T.any (by decide +kernel) (pa_cons (pe_lc (own := [("_law_code", 6)]) (g := gName 6) (tt := tYes) (te := tOp rEq (tOp (rIxT K) (tVar 6) (tVar 5)) (tOp (rIxT K) (tVar 6) (tVar 4))) rfl scJo.nd (pi_list (pv 1)) (blkOk_by (N := NJo) (sc := defScope sJoined) (by decide +kernel))
                (fun _ _ _ _ _ => pg_name (i := 6) scJo.nd rfl (Or.inl rfl)) (fun _ _ _ _ _ => pts_nil) (fun _ _ _ _ _ => pe_cmpR op_eq (pe_ix (ix_tupK (K := K) rfl) (pv 6) (pv 5) (fun _ _ => rfl)) (pe_ix (ix_tupK (K := K) rfl) (pv 6) (pv 4) (fun _ _ => rfl)) (nomark _))) pa_nil)))
              (pss_one (ps_asg (pe_callB (call_min2 rfl) (by rfl) T.min (by decide +kernel) (pa_cons (pe_callTy call_int1 (by rfl) T.int (by decide +kernel) (pa_cons (pe_ix ix_list (pv 2) (pv 5) (fun _ _ => rfl)) pa_nil)) (pa_cons (pe_callTy call_int1 (by rfl) T.int (by decide +kernel) (pa_cons (pe_ix ix_list (pv 2) (pv 4) (fun _ _ => rfl)) pa_nil)) pa_nil))) (pg_sub (pv 2) (pv 4) set_list))) pss_nil)))))))
      (pss_one (ps_ret (pv 2)))), ?_⟩
    obtain ⟨n, en⟩ : ∃ n, n = zs.length := ⟨_, rfl⟩
    have lz : (zs.map V.str).length = n := by rw [List.length_map, en]
    obtain ⟨Ed, eEd⟩ : ∃ Ed, Ed = edgeC (L.map (·.2)) := ⟨_, rfl⟩
    rw [← en] at few
    rw [← en, ← eEd] at kk
    refine ⟨_, rfl, a, zs.map V.str, rfl, .inl (SqL.of ha), ((zs.map V.str).length : Nat), rfl, RgOk.of_le (by omega) (by omega) (by omega) (by omega), fun D nD => ?_⟩
    rw [lz]
    have er : rgV 0 (n : Nat) = codeV (List.range n) := by
      unfold rgV codeV
      rw [Int.sub_zero, Int.toNat_natCast]
      exact List.map_congr_left fun i _ => by rw [Int.zero_add]
    rw [er]
    have s1 := same_new nD (.lst (codeV (List.range n)))
    refine ⟨_, rfl, a, zs.map V.str, rfl, .inl (SqL.of (s1 _ _ ha)), ((zs.map V.str).length : Nat), rfl, by omega, by omega, ?_⟩
    rw [lz]
    refine for_range (n := n) (fun t σ H9 => (∃ v3 v4 v5 : Option V, σ = [some (.ref a), some (.ref b), some (.ref D), v3, v4, v5, none]) ∧ H9 D = some (.lst (codeV (joinJ Ed n (List.range n) t))) ∧ Same H H9) ⟨⟨_, _, _, rfl⟩, upd_same, s1⟩ ?_ ?_
    · rintro t σ H9 ht ⟨⟨v3, v4, v5, rfl⟩, h9, s9⟩
      have lJ : (joinJ Ed n (List.range n) t).length = n := by rw [joinJ_len, List.length_range]
      rw [joinJ_succ]
      generalize joinJ Ed n (List.range n) t = g at h9 lJ ⊢
      refine ⟨_, rfl, a, zs.map V.str, rfl, .inl (SqL.of (s9 _ _ ha)), ((zs.map V.str).length : Nat), rfl, by omega, by omega, ?_⟩
      rw [lz]
      refine for_range (n := n) (fun k σ H10 => (∃ v4 v5 : Option V, σ = [some (.ref a), some (.ref b), some (.ref D), some (.int (0 + t)), v4, v5, none]) ∧ H10 D = some (.lst (codeV (roundJ Ed n g k))) ∧ Same H H10) ⟨⟨_, _, rfl⟩, h9, s9⟩ ?_ ?_
      · rintro k σ H10 hk ⟨⟨v4, v5, rfl⟩, h10, s10⟩
        have lR : (roundJ Ed n g k).length = n := by rw [roundJ_len, lJ]
        rw [roundJ_succ]
        generalize roundJ Ed n g k = g2 at h10 lR ⊢
        refine ⟨_, rfl, a, zs.map V.str, rfl, .inl (SqL.of (s10 _ _ ha)), ((zs.map V.str).length : Nat), rfl, by omega, by omega, ?_⟩
        rw [lz]
        refine for_range (n := n) (fun j σ H11 => (∃ v5 : Option V, σ = [some (.ref a), some (.ref b), some (.ref D), some (.int (0 + t)), some (.int (0 + k)), v5, none]) ∧ H11 D = some (.lst (codeV (rowJ Ed g2 k j))) ∧ Same H H11) ⟨⟨_, rfl⟩, h10, s10⟩ ?_ ?_
        · rintro j σ H11 hj ⟨⟨v5, rfl⟩, h11, s11⟩
          have lW : (rowJ Ed g2 k j).length = n := by rw [rowJ_len, lR]
          rw [rowJ_succ]
          generalize rowJ Ed g2 k j = g3 at h11 lW ⊢
          have hb11 := s11 _ _ hb
          refine ⟨_, rfl, b, rfl, ⟨_, SqL.of hb11⟩, fun X nX => ?_⟩
          refine lc_list (xs := refC L) (fun q H12 => H12 X = some (.lst (((L.take q).map fun p => decide (p.2.getD j 0 = p.2.getD k 0)).map V.bl)) ∧ Same H11 H12) ⟨upd_same, same_new nX _⟩ (fun q H12 _ z => SqL.of (z.2 _ _ hb11)) ?_ ?_
          · rintro q x H12 hx ⟨h12, s12⟩
            obtain ⟨p, hp, rfl⟩ := refC_get hx
            obtain ⟨hp1, hp2⟩ := hL p (List.mem_of_getElem? hp)
            have hp3 := s12 _ _ (s11 _ _ hp1)
            have lq : q < L.length := (List.getElem?_eq_some_iff.mp hp).1
            refine ⟨rfl, _, rfl, _, rfl, p.1, codeV p.2, 0 + (j : Nat), _, rfl, rfl, SqT.of hp3, by rw [Int.zero_add]; exact atI_nat (j := j) (code_at (by omega)), _, rfl, _, rfl, p.1, codeV p.2, 0 + (k : Nat), _, rfl, rfl, SqT.of hp3, by rw [Int.zero_add]; exact atI_nat (j := k) (code_at (by omega)), rfl, _, h12, small1000 ?_, ?_, fun b' z hb' => ?_⟩
            · rw [List.length_map, List.length_map, List.length_take]
              omega
            · rw [upd_same, List.take_add_one, hp, List.map_append, List.map_append]
              have e : decide (V.int (p.2.getD j 0 : Nat) = V.int (p.2.getD k 0 : Nat)) = decide (p.2.getD j 0 = p.2.getD k 0) := decide_eq_decide.mpr ⟨fun h => by injection h with h; exact Int.ofNat.inj h, fun h => by rw [h]⟩
              show some (HO.lst (_ ++ [V.bl (decide (V.int (p.2.getD j 0 : Nat) = V.int (p.2.getD k 0 : Nat)))])) = _
              rw [e]
              rfl
            · rw [upd_ne (ne_of_none hb' nX)]
              exact s12 _ _ hb'
          rintro H12 ⟨h12, s12⟩
          rw [refC_len, List.take_length] at h12
          have e12 : ((L.map fun p => decide (p.2.getD j 0 = p.2.getD k 0)).any id) = Ed j k := by
            rw [eEd]
            unfold edgeC
            rw [List.any_map, List.any_map]
            rfl
          refine ⟨X, _, rfl, SqL.of h12, ?_⟩
          rw [e12]
          have hD12 := s12 _ _ h11
          have s0 := s11.trans s12
          refine ⟨_, rfl, ite2 (fun e => ?_) fun e => ?_⟩
          · refine ⟨_, rfl, _, rfl, D, codeV g3, 0 + (j : Nat), _, rfl, rfl, SqL.of hD12, by rw [Int.zero_add]; exact atI_nat (j := j) (code_at (by omega)), .inl ⟨_, rfl, ?_⟩⟩
            refine ⟨_, rfl, _, rfl, D, codeV g3, 0 + (k : Nat), _, rfl, rfl, SqL.of hD12, by rw [Int.zero_add]; exact atI_nat (j := k) (code_at (by omega)), .inl ⟨_, rfl, _, _, rfl, ?_⟩⟩
            refine ⟨_, rfl, _, rfl, D, _, 0 + (k : Nat), k, rfl, rfl, hD12, by rw [Int.zero_add]; exact ixN_natJ (by rw [codeV_len]; omega), ⟨_, rfl⟩, ?_, fun b' z hb' => ?_⟩
            · have em : (if ((g3.getD k 0 : Nat) : Int) < ((g3.getD j 0 : Nat) : Int) then ((g3.getD k 0 : Nat) : Int) else ((g3.getD j 0 : Nat) : Int)) = ((min (g3.getD j 0) (g3.getD k 0) : Nat) : Int) := by
                by_cases q : g3.getD k 0 < g3.getD j 0
                · rw [if_pos (by omega)]
                  omega
                · rw [if_neg (by omega)]
                  omega
              rw [upd_same, em, code_set]
              unfold stepJ
              rw [if_pos e]
            · rw [upd_ne (ne_of_none hb' nD)]
              exact s0 _ _ hb'
          · refine ⟨⟨_, rfl⟩, ?_, s0⟩
            unfold stepJ
            rw [if_neg e]
            exact hD12
        · rintro σ H11 ⟨⟨v5, rfl⟩, h11, s11⟩
          exact ⟨⟨_, _, rfl⟩, h11, s11⟩
      · rintro σ H10 ⟨⟨v4, v5, rfl⟩, h10, s10⟩
        exact ⟨⟨_, _, _, rfl⟩, h10, s10⟩
    · rintro σ H9 ⟨⟨v3, v4, v5, rfl⟩, h9, s9⟩
      exact ⟨_, rfl, kk D H9 s9 nD h9⟩
end
end K1
set_option linter.all false
set_option maxRecDepth 100000
set_option maxHeartbeats 1000000
namespace K1
open PySem L2
/-- those that are at most z -/
def lowS (z : Str) (R : List Str) : List Str := R.filter fun x => !ltS z x
theorem low_ins {z : Str} : ∀ {R : List Str}, Asc1 ltS R → z ∉ R → Asc1 ltS (R.take (lowS z R).length ++ [z] ++ R.drop (lowS z R).length)
  | [], _, _ => by simp [lowS, Asc1]
  | x :: r, u, no => by
    obtain ⟨u1, u2⟩ := List.pairwise_cons.mp u
    have nx : z ≠ x := fun e => no (e ▸ .head _)
    have nr : z ∉ r := fun h => no (.tail _ h)
    cases e : ltS z x with
    | true =>
      have hz : lowS z (x :: r) = [] := by
        unfold lowS
        rw [List.filter_eq_nil_iff]
        intro y hy
        rcases List.mem_cons.mp hy with rfl | hy
        · rw [e]; simp
        · rw [tot_ltS.tr z x y e (u1 y hy)]; simp
      rw [hz]
      refine List.pairwise_cons.mpr ⟨fun y hy => ?_, u⟩
      have hy : y ∈ x :: r := hy
      rcases List.mem_cons.mp hy with rfl | hy
      · exact e
      · exact tot_ltS.tr z x y e (u1 y hy)
    | false =>
      have xz : ltS x z = true := by
        cases q : ltS x z with
        | true => rfl
        | false => exact absurd (tot_ltS.tot z x e q) nx
      have hz : lowS z (x :: r) = x :: lowS z r := by
        unfold lowS
        rw [List.filter_cons, if_pos (by rw [e]; rfl)]
      rw [hz]
      refine List.pairwise_cons.mpr ⟨fun y hy => ?_, low_ins u2 nr⟩
      have hy : y ∈ r.take (lowS z r).length ++ [z] ++ r.drop (lowS z r).length := hy
      rcases List.mem_append.mp hy with hy | hy
      · rcases List.mem_append.mp hy with hy | hy
        · exact u1 y (List.mem_of_mem_take hy)
        · rw [List.mem_singleton.mp hy]; exact xz
      · exact u1 y (List.mem_of_mem_drop hy)
theorem mem_cut {z y : Str} {R : List Str} (n : Nat) : y ∈ R.take n ++ [z] ++ R.drop n ↔ y ∈ R ∨ y = z := by
  rw [List.mem_append, List.mem_append, List.mem_singleton]
  conv => rhs; rw [← List.take_append_drop n R, List.mem_append]
  constructor
  · rintro ((h | h) | h)
    · exact .inl (.inl h)
    · exact .inr h
    · exact .inl (.inr h)
  · rintro ((h | h) | h)
    · exact .inl (.inl h)
    · exact .inr h
    · exact .inl (.inr h)
def spRisingS : Sp := fun vs H Q _ => ∃ (a : Addr) (zs : List Str), vs = [.ref a] ∧ H a = some (.lst (zs.map V.str)) ∧ zs.Nodup ∧ zs.length ≤ 50 ∧
  ∀ (f : Addr) (H' : Hp), Same H H' → H f = none → H' f = some (.lst ((asc ltS zs).map V.str)) → Q (.ref f) H'
section
variable {P : Program} {w : World} {K : PySem.W.Frag} {mg : Str → Option Value} {base : Heap}
abbrev NRi : List Str := ["_law_things", "_law_found", "_law_thing", "_law_x"]
theorem scRi : FnScope NRi ["_law_things"] (defScope sRising) := ⟨rfl, rfl, rfl, by decide +kernel, rfl, by decide +kernel, by decide +kernel⟩
theorem ok_risingS {f : Addr} {fd : FuncData} (F : Fun K "_law_rising" "_law_rising" sRising f fd) (hl : mg "len" = none) : FnOk P w K mg base CX0 1 f fd ["_law_things"] spRisingS := by
  refine F.ok scRi (fun vs H Q E h => ?_) (fun cdv A outer s H vs Q E hr h => ?_)
  · obtain ⟨a, zs, rfl, _⟩ := h
    rfl
  · obtain ⟨a, zs, rfl, ha, nd, few, k⟩ := h
    refine ⟨_, pss_cons (ps_set (i := 1) scRi.nd rfl (.inl rfl) (pe_lst pa_nil))
      (pss_cons (ps_for PassesOwn.never rfl (pi_list (pv 0)) (pg_name (i := 2) scRi.nd rfl (Or.inr rfl))
        (pss_one (ps_expr (pe_bm PySem.F.plainAttrs_list PySem.F.slot_list_insert PySem.F.type_list_insert mt_insert (pv 1)
          (pa_cons (pe_callB call_len_seq (by rfl) hl PySem.boot_len (pa_cons (pe_lc (own := [("_law_x", 3)]) (g := gName 3) rfl scRi.nd (pi_list (pv 1)) (blkOk_by (N := NRi) (sc := defScope sRising) (by decide +kernel))
            (fun _ _ _ _ _ => pg_name (i := 3) scRi.nd rfl (Or.inl rfl)) (fun _ _ _ _ _ => pts_one (pt_cmpR op_le_str (pv 3) (pv 2) (nomark _))) (fun _ _ _ _ _ => pv 3)) pa_nil)) (pa_cons (pv 2) pa_nil))))))
      (pss_one (ps_ret (pv 1)))), ?_⟩
    refine ⟨sz (Nat.le_of_ble_eq_true rfl), fun fo nf => ⟨_, rfl, a, rfl, ⟨_, SqL.of (same_new nf _ _ _ ha)⟩, ?_⟩⟩
    have s0 := same_new nf (.lst [])
    refine for_list (xs := zs.map V.str) (fun i σ H2 => ∃ (v : Option V), σ = [some (.ref a), some (.ref fo), v, none] ∧ H2 fo = some (.lst ((asc ltS (zs.take i)).map V.str)) ∧ Same H H2) ⟨_, rfl, upd_same, s0⟩
      (fun i σ H2 _ ⟨_, _, _, s2⟩ => SqL.of (s2 _ _ ha)) ?_ ?_
    · rintro i x σ H2 hx ⟨v, rfl, hf, s2⟩
      rw [List.getElem?_map] at hx
      obtain ⟨z, hz, rfl⟩ := Option.map_eq_some_iff.mp hx
      have li : i < zs.length := (List.getElem?_eq_some_iff.mp hz).1
      obtain ⟨R, eR⟩ : ∃ R, R = asc ltS (zs.take i) := ⟨_, rfl⟩
      have uR : Asc1 ltS R := by rw [eR]; exact asc_asc tot_ltS _
      have lR : R.length = i := by
        rw [eR, asc_len tot_ltS (nd.sublist (List.take_sublist _ _)), List.length_take]
        omega
      have no : z ∉ R := by
        rw [eR, mem_asc tot_ltS]
        intro m
        have ez : zs[i] = z := by
          rw [List.getElem?_eq_getElem li] at hz
          exact Option.some.inj hz
        obtain ⟨p, hp, e⟩ := List.getElem_of_mem m
        rw [List.length_take] at hp
        rw [List.getElem_take, ← ez] at e
        have := (List.getElem_inj nd).mp e
        omega
      rw [← eR] at hf
      refine ⟨_, rfl, .inl ⟨rfl, _, SqL.of hf⟩, _, rfl, fo, rfl, ⟨_, SqL.of hf⟩, fun D nD => ?_⟩
      have nDf : D ≠ fo := fun e => by rw [e, hf] at nD; cases nD
      refine lc_list (xs := R.map V.str) (fun j H9 => H9 D = some (.lst ((lowS z (R.take j)).map V.str)) ∧ Same H2 H9) ⟨upd_same, same_new nD _⟩ (fun j H9 _ h9 => SqL.of (h9.2 _ _ hf)) ?_ ?_
      · rintro j y H9 hy ⟨h9, s9⟩
        rw [List.getElem?_map] at hy
        obtain ⟨q, hq, rfl⟩ := Option.map_eq_some_iff.mp hy
        have lj : j < R.length := (List.getElem?_eq_some_iff.mp hq).1
        have et : R.take (j + 1) = R.take j ++ [q] := by rw [List.take_add_one, hq]; rfl
        refine ⟨rfl, _, rfl, _, rfl, q, z, rfl, rfl, _, rfl, ite2 (fun e => ?_) fun e => ?_⟩
        · have e' : (!ltS z q) = true := e
          refine ⟨_, rfl, _, h9, small1000 ?_, ?_, fun b o hb => ?_⟩
          · rw [List.length_map]
            refine Nat.le_trans (List.length_filter_le _ _) ?_
            rw [List.length_take]
            omega
          · rw [upd_same, et]
            unfold lowS
            rw [List.filter_append, List.filter_cons, if_pos e', List.map_append]
            rfl
          · rw [upd_ne (ne_of_none hb nD)]
            exact s9 _ _ hb
        · have e' : ¬ (!ltS z q) = true := e
          refine ⟨?_, s9⟩
          rw [et]
          unfold lowS
          rw [List.filter_append, List.filter_cons, if_neg e', List.filter_nil, List.append_nil]
          exact h9
      · rintro H9 ⟨h9, s9⟩
        rw [List.length_map, List.take_length] at h9
        have hf9 := s9 _ _ hf
        refine ⟨D, _, rfl, .inl (SqL.of h9), _, rfl, fo, _, _, _, rfl, rfl, hf9, small1000 (by rw [List.length_map]; omega), by omega, ?_, ?_⟩
        · have : (lowS z R).length ≤ R.length := List.length_filter_le _ _
          rw [List.length_map]
          omega
        · refine ⟨_, rfl, ?_, fun b o hb => ?_⟩
          · rw [upd_same, List.length_map, Int.toNat_natCast, ← List.map_take, ← List.map_drop]
            have e2 : (R.take (lowS z R).length).map V.str ++ [V.str z] ++ (R.drop (lowS z R).length).map V.str = (R.take (lowS z R).length ++ [z] ++ R.drop (lowS z R).length).map V.str := by rw [List.map_append, List.map_append]; rfl
            rw [e2]
            have e3 : R.take (lowS z R).length ++ [z] ++ R.drop (lowS z R).length = asc ltS (zs.take (i + 1)) := asc_of tot_ltS (low_ins uR no) fun y => by
              rw [mem_cut, eR, mem_asc tot_ltS, List.take_add_one, hz, List.mem_append]
              simp
            rw [e3]
          · rw [upd_ne (ne_of_none hb nf)]
            exact s9 _ _ (s2 _ _ hb)
    · rintro σ H2 ⟨v, rfl, hf, s2⟩
      rw [List.length_map, List.take_length] at hf
      exact ⟨_, rfl, k fo H2 s2 nf hf⟩
end
end K1
set_option linter.all false
set_option maxRecDepth 100000
set_option maxHeartbeats 1000000
set_option pp.maxSteps 800
namespace K1
open PySem L2
theorem same_strs {K : PySem.W.Frag} {H : Hp} {a b : Addr} {ss : List Str} {n : Nat} (h : (H a = some (.lst (ss.map V.str)) ∧ H b = some (.lst (ss.map V.str))) ∨ (H a = some (.tup (ss.map V.str)) ∧ H b = some (.tup (ss.map V.str)))) (few : ss.length ≤ 1000) : SameV K H (n + 2) (.ref a) (.ref b) := by
  refine .inr (.inr (.inr ⟨a, b, _, _, rfl, rfl, h, rfl, by rw [List.length_map]; exact few, fun i u v hu hv => ?_⟩))
  rw [hu] at hv
  cases hv
  obtain ⟨z, _, rfl⟩ := List.mem_map.mp (List.mem_of_getElem? hu)
  exact .inr (.inr (.inl ⟨rfl, _, .str z⟩))
/-- a meeting has these names, and holds those as one that have one number -/
def HasCode (T : List (List Str)) (zs : List Str) (c : List Nat) : Prop := (∀ x, x ∈ T.flatten ↔ x ∈ zs) ∧ zs.length = c.length ∧ ∀ (i j : Nat) (x y : Str) (m n : Nat), zs[i]? = some x → zs[j]? = some y → c[i]? = some m → c[j]? = some n → (oneB T x y ↔ m = n)
def spAs (K : PySem.W.Frag) (C : Addr) : Sp := fun vs H Q _ => ∃ (t : Bool) (m a b : Addr) (T : List (List Str)) (zs : List Str) (c : List Nat), vs = [.ref m, .ref a, .ref b] ∧ MeetAt C H m T ∧ H a = some (.lst (zs.map V.str)) ∧ SqB K t H b (codeV c) ∧ zs.Nodup ∧ zs.length ≤ 7 ∧ HasCode T zs c ∧ ∀ H', Same H H' → Q (.bl true) H'
structure TxtA (mg : Str → Option Value) : Prop where
  isi : mg "isinstance" = none
  tuple : mg "tuple" = none
  zip : mg "zip" = none
section
variable {P : Program} {w : World} {K : PySem.W.Frag} {mg : Str → Option Value} {base : Heap} {C : Addr}
abbrev NAs : List Str := ["_law_meeting", "_law_names_here", "_law_code", "_law_name", "_law_x", "_law_other", "_law_y"]
theorem scAs : FnScope NAs ["_law_meeting", "_law_names_here", "_law_code"] (defScope sAs) := ⟨rfl, rfl, rfl, by decide +kernel, rfl, by decide +kernel, by decide +kernel⟩
theorem ok_as {f fS fR gO : Addr} {fd fdS fdR fdO : FuncData} (F : Fun K "_law_as" "_law_as" sAs f fd) (c : MeetC K mg C) (T : TxtA mg)
    (gS : mg "_law_same" = some (.ref fS)) (kS : PySem.W.keepIn K (.ref fS) = true) (bS : Binds K fdS ["_law_found", "_law_due"] []) (GS : FnOk P w K mg base CX0 5 fS fdS ["_law_found", "_law_due"] (spSame K 5))
    (gR : mg "_law_rising" = some (.ref fR)) (kR : PySem.W.keepIn K (.ref fR) = true) (bR : Binds K fdR ["_law_things"] []) (GR : FnOk P w K mg base CX0 1 fR fdR ["_law_things"] spRisingS)
    (MO : Meth K C "one" gO) (bO : Binds K fdO ["self", "name", "other"] []) (GO : FnOk P w K mg base CX0 1 gO fdO ["self", "name", "other"] (spOneM C)) : FnOk P w K mg base CX0 7 f fd ["_law_meeting", "_law_names_here", "_law_code"] (spAs K C) := by
  refine F.ok scAs (fun vs H Q E h => ?_) (fun cdv A outer s H vs Q E hr h => ?_)
  · obtain ⟨t, m, a, b, R, zs, cs, rfl, _⟩ := h
    rfl
  · obtain ⟨t, m, a, b, R, zs, cs, rfl, mm, ha, hb, nd, few, ⟨hm, el, hc⟩, k⟩ := h
    have r1 : Room 1 _ := hr.mono (by decide)
    have r5 : Room 5 _ := hr.mono (by decide)
    have hu := hr.units
    refine ⟨_, pss_cons (ps_if (pw_or (pt_not (pt_val (pe_callB (C8.call_isC c.isC) (by rfl) T.isi (by decide +kernel) (pa_cons (pv 0) (pa_cons (pe_glob (v := .ref C) (by rfl) c.glob rfl) pa_nil)))))
        (pw_or1 (pt_not (pt_val (pe_call GS r5 (by rfl) gS kS bS .nil pass0 (pa_cons (pe_fld (pv 0) rfl) (pa_cons (pe_callTy call_tuple_of (by rfl) T.tuple (by decide +kernel) (pa_cons (pe_call GR r1 (by rfl) gR kR bR .nil pass0 (pa_cons (pv 1) pa_nil)) pa_nil)) pa_nil))))))).pt (pss_one (ps_ret pe_bl)) pss_nil)
      (pss_cons (ps_for PassesOwn.never rfl (pi_zB (by rfl) T.zip (pa_cons (pv 1) (pa_cons (pv 2) pa_nil))) (pg_tup rfl (pgs_cons (pg_name (i := 3) scAs.nd rfl (Or.inl rfl)) (pgs_cons (pg_name (i := 4) scAs.nd rfl (Or.inl rfl)) pgs_nil)))
        (pss_one (ps_for PassesOwn.never rfl (pi_zB (by rfl) T.zip (pa_cons (pv 1) (pa_cons (pv 2) pa_nil))) (pg_tup rfl (pgs_cons (pg_name (i := 5) scAs.nd rfl (Or.inl rfl)) (pgs_cons (pg_name (i := 6) scAs.nd rfl (Or.inl rfl)) pgs_nil)))
          (pss_one (ps_if (pt_cmpR op_ne (pe_meth (pv 0) c.cls MO GO r1 bO .nil pass0 (pa_cons (pv 3) (pa_cons (pv 5) pa_nil))) (pe_cmpR op_eq (pv 4) (pv 6) (nomark _)) (nomark _)) (pss_one (ps_ret pe_bl)) pss_nil)))))
      (pss_one (ps_ret pe_bl))), ?_⟩
    obtain ⟨dx, tb, d, n, cc, M, kvs, o⟩ := id mm
    refine ⟨_, rfl, m, dx, _, rfl, o.ob, _, rfl, iteF ?_⟩
    refine ⟨_, rfl, m, C, dx, _, _, rfl, o.ob, c.cls, c.nn, rfl, ?_⟩
    refine ⟨_, rfl, a, zs, rfl, ha, nd, by omega, fun f1 H1 s1 nf hf1 => ?_⟩
    refine ⟨f1, _, rfl, .inl ⟨SqL.of hf1, fun tp ntp => ?_⟩⟩
    have en : namesOf R = asc ltS zs := asc_mem tot_ltS hm
    have s2 := s1.trans (same_new ntp (.tup ((asc ltS zs).map V.str)))
    have hn2 := s2 _ _ o.na
    rw [en] at hn2
    have la : (asc ltS zs).length ≤ 1000 := by rw [asc_len tot_ltS nd]; omega
    refine ⟨_, _, rfl, same_strs (.inr ⟨hn2, upd_same⟩) la, fun H3 s3 => ⟨_, rfl, iteF ?_⟩⟩
    have sA := s2.trans s3
    have lz : (zs.map V.str).length = zs.length := List.length_map _
    refine ⟨_, rfl, _, rfl, false, t, a, b, zs.map V.str, codeV cs, rfl, SqL.of (sA _ _ ha), hb.mono sA, ?_⟩
    refine for_it (walk_zB (n := zs.length) (xs := zs.map V.str) (ys := codeV cs) (by rw [lz, codeV_len]; omega)) (fun i σ H9 => (∃ v3 v4 v5 v6 : Option V, σ = [some (.ref m), some (.ref a), some (.ref b), v3, v4, v5, v6]) ∧ Same H3 H9) ⟨⟨_, _, _, _, rfl⟩, Same.refl _⟩ (fun i σ H9 _ q => ⟨SqL.of (q.2 _ _ (sA _ _ ha)), (hb.mono sA).mono q.2⟩) ?_ ?_
    · rintro i x σ H9 H10 hi ⟨⟨v3, v4, v5, v6, rfl⟩, s9⟩ ⟨T0, u, v, rfl, nT0, rfl, eu, ev⟩
      obtain ⟨x, p, hx, hp, rfl, rfl⟩ := zip_get eu ev
      refine ⟨T0, [.str x, .int p], rfl, SqT.of upd_same, rfl, _, _, rfl, _, _, rfl, rfl, ?_⟩
      have s10 := s9.trans (same_new nT0 (.tup [.str x, .int p]))
      generalize upd H9 T0 (.tup [.str x, .int p]) = H10 at s10 ⊢
      have sB := sA.trans s10
      refine ⟨_, rfl, _, rfl, false, t, a, b, zs.map V.str, codeV cs, rfl, SqL.of (sB _ _ ha), hb.mono sB, ?_⟩
      refine for_it (walk_zB (n := zs.length) (xs := zs.map V.str) (ys := codeV cs) (by rw [lz, codeV_len]; omega)) (fun j σ H11 => (∃ v5 v6 : Option V, σ = [some (.ref m), some (.ref a), some (.ref b), some (.str x), some (.int p), v5, v6]) ∧ Same H3 H11) ⟨⟨_, _, rfl⟩, s10⟩ (fun j σ H11 _ q => ⟨SqL.of (q.2 _ _ (sA _ _ ha)), (hb.mono sA).mono q.2⟩) ?_ ?_
      · rintro j y σ H11 H12 hj ⟨⟨v5, v6, rfl⟩, s11⟩ ⟨T1, u, v, rfl, nT1, rfl, eu, ev⟩
        obtain ⟨y, q, hy, hq, rfl, rfl⟩ := zip_get eu ev
        refine ⟨T1, [.str y, .int q], rfl, SqT.of upd_same, rfl, _, _, rfl, _, _, rfl, rfl, ?_⟩
        have s12 := s11.trans (same_new nT1 (.tup [.str y, .int q]))
        generalize upd H11 T1 (.tup [.str y, .int q]) = H12 at s12 ⊢
        have sC := sA.trans s12
        have mx : x ∈ R.flatten := (hm x).mpr (List.mem_of_getElem? hx)
        have my : y ∈ R.flatten := (hm y).mpr (List.mem_of_getElem? hy)
        refine ⟨_, rfl, m, dx, _, rfl, sC _ _ o.ob, rfl, _, rfl, _, rfl, m, R, x, y, rfl, mm.mono sC, mx, my, fun H13 s13 => ?_⟩
        have e : decide (V.int (p : Nat) = V.int (q : Nat)) = sameNum R x y := by
          unfold sameNum
          refine decide_eq_decide.mpr ⟨fun h => ?_, fun h => ?_⟩
          · injection h with h
            exact (num_one o.good.good.dis mx).mpr ((hc i j x y p q hx hy hp hq).mpr (Int.ofNat.inj h))
          · rw [(hc i j x y p q hx hy hp hq).mp ((num_one o.good.good.dis mx).mp h)]
        refine ⟨_, rfl, _, rfl, rfl, rfl, _, rfl, ?_⟩
        rw [e, decide_eq_true rfl]
        exact iteF ⟨⟨_, _, rfl⟩, s12.trans s13⟩
      · rintro σ H11 ⟨⟨v5, v6, rfl⟩, s11⟩
        exact ⟨⟨_, _, _, _, rfl⟩, s11⟩
    · rintro σ H9 ⟨⟨v3, v4, v5, v6, rfl⟩, s9⟩
      exact k H9 (sA.trans s9)
end
end K1
set_option linter.all false
set_option maxRecDepth 100000
set_option maxHeartbeats 1000000
namespace K1
open PySem L2
theorem zipc_at {zs : List Str} {c : List Nat} {i : Nat} {x : Str} {m : Nat} (h1 : zs[i]? = some x) (h2 : c[i]? = some m) : (x, m) ∈ zs.zip c := List.mem_of_getElem? (List.getElem?_zip_eq_some.mpr ⟨h1, h2⟩)
theorem has_rows {zs : List Str} {c : List Nat} {k : Nat} (nd : zs.Nodup) (nm : ∀ z ∈ zs, nameOk z = true) (few : zs.length ≤ 7) (e : zs.length = c.length) (ck : CodeOk c k) : HasCode (rowsOf (blocksOf zs c k)) zs c := by
  have g := good_blocks nd nm e ck few
  refine ⟨fun x => (mem_rows g).trans (mem_blocks e ck), e, fun i j x y m n h1 h2 h3 h4 => ?_⟩
  rw [one_rows g, one_blocks ck]
  constructor
  · rintro ⟨v, h5, h6⟩
    rw [zip_key nd (zipc_at h1 h3) h5, zip_key nd (zipc_at h2 h4) h6]
  · rintro rfl
    exact ⟨_, zipc_at h1 h3, zipc_at h2 h4⟩
theorem HasCode.names {T : List (List Str)} {zs : List Str} {c : List Nat} (h : HasCode T zs c) : namesOf T = asc ltS zs := asc_mem tot_ltS h.1
theorem mem_one {T : List (List Str)} {x : Str} : x ∈ T.flatten ↔ oneB T x x := ⟨one_refl, fun h => (one_mem h).1⟩
theorem one_trans {T : List (List Str)} (g : GoodR T) {x y z : Str} (h1 : oneB T x y) (h2 : oneB T y z) : oneB T x z := by
  have a := (num_one g.good.dis (one_mem h1).1).mpr h1
  have b := (num_one g.good.dis (one_mem h2).1).mpr h2
  exact (num_one g.good.dis (one_mem h1).1).mp (a.trans b)
theorem or_in {R S T : List (List Str)} (g : GoodR T) (h1 : ∀ x y, oneB R x y → oneB T x y) (h2 : ∀ x y, oneB S x y → oneB T x y) {x y : Str} (j : orOne R S x y) : oneB T x y := by
  induction j with
  | refl m => exact h1 _ _ (one_refl m)
  | step _ _ e ih => exact one_trans g ih (e.elim (h1 _ _) (h2 _ _))
theorem or_left {R S : List (List Str)} {x y : Str} (h : oneB R x y) : orOne R S x y := .step (.refl (one_mem h).1) (one_mem h).2 (.inl h)
theorem or_right {R S : List (List Str)} (e : ∀ x, x ∈ R.flatten ↔ x ∈ S.flatten) {x y : Str} (h : oneB S x y) : orOne R S x y := .step (.refl ((e x).mpr (one_mem h).1)) ((e y).mpr (one_mem h).2) (.inr h)
theorem or_mem {R S : List (List Str)} {x y : Str} (h : orOne R S x y) : x ∈ R.flatten ∧ y ∈ R.flatten := h.mem
section
variable {R S T U W : List (List Str)} {zs : List Str} {c d : List Nat}
theorem and_mem (eR : ∀ x, x ∈ R.flatten ↔ x ∈ zs) (eS : ∀ x, x ∈ S.flatten ↔ x ∈ zs) (h : ∀ x y, oneB T x y ↔ andOne R S x y) (x : Str) : x ∈ T.flatten ↔ x ∈ zs := by
  rw [mem_one, h]
  exact ⟨fun q => (eR x).mp (one_mem q.1).1, fun q => ⟨one_refl ((eR x).mpr q), one_refl ((eS x).mpr q)⟩⟩
theorem or_memT (eR : ∀ x, x ∈ R.flatten ↔ x ∈ zs) (h : ∀ x y, oneB T x y ↔ orOne R S x y) (x : Str) : x ∈ T.flatten ↔ x ∈ zs := by
  rw [mem_one, h]
  exact ⟨fun q => (eR x).mp q.mem.1, fun q => .refl ((eR x).mpr q)⟩
def both (c d : List Nat) : List Nat := (c.zip d).map fun p => p.1 * 10 + p.2
theorem has_both (hR : HasCode R zs c) (hS : HasCode S zs d) (lc : ∀ v ∈ c, v < 10) (ld : ∀ v ∈ d, v < 10) (h : ∀ x y, oneB T x y ↔ andOne R S x y) : HasCode T zs (both c d) := by
  refine ⟨and_mem hR.1 hS.1 h, ?_, fun i j x y m n h1 h2 h3 h4 => ?_⟩
  · unfold both
    rw [List.length_map, List.length_zip, ← hR.2.1, ← hS.2.1]
    omega
  · unfold both at h3 h4
    rw [List.getElem?_map] at h3 h4
    obtain ⟨⟨p, q⟩, e1, rfl⟩ := Option.map_eq_some_iff.mp h3
    obtain ⟨⟨u, v⟩, e2, rfl⟩ := Option.map_eq_some_iff.mp h4
    obtain ⟨p1, q1⟩ := List.getElem?_zip_eq_some.mp e1
    obtain ⟨u1, v1⟩ := List.getElem?_zip_eq_some.mp e2
    have l1 := lc p (List.mem_of_getElem? p1)
    have l2 := ld q (List.mem_of_getElem? q1)
    have l3 := lc u (List.mem_of_getElem? u1)
    have l4 := ld v (List.mem_of_getElem? v1)
    rw [h, andOne, hR.2.2 i j x y p u h1 h2 p1 u1, hS.2.2 i j x y q v h1 h2 q1 v1]
    dsimp only
    constructor
    · rintro ⟨rfl, rfl⟩
      rfl
    · intro e
      exact ⟨by omega, by omega⟩
theorem getD_of {α : Type} {l : List α} {i : Nat} {v x : α} (h : l[i]? = some x) : l.getD i v = x := by rw [List.getD_eq_getElem?_getD, h]; rfl
theorem has_join (nd : zs.Nodup) (hR : HasCode R zs c) (hS : HasCode S zs d) (h : ∀ x y, oneB T x y ↔ orOne R S x y) : HasCode T zs (joinJ (edgeC [c, d]) zs.length (List.range zs.length) zs.length) := by
  have lj : (joinJ (edgeC [c, d]) zs.length (List.range zs.length) zs.length).length = zs.length := by rw [joinJ_len, List.length_range]
  refine ⟨or_memT hR.1 h, lj.symm, fun i j x y m n h1 h2 h3 h4 => ?_⟩
  have li := (List.getElem?_eq_some_iff.mp h1).1
  have lj' := (List.getElem?_eq_some_iff.mp h2).1
  have key := join_iff (E := edgeC [c, d]) (n := zs.length) (fun i j => by simp [edgeC, eq_comm]) li lj'
  rw [getD_of h3, getD_of h4] at key
  rw [key, h]
  have edge : ∀ {i j : Nat} {x y : Str}, zs[i]? = some x → zs[j]? = some y → (edgeC [c, d] i j = true ↔ oneB R x y ∨ oneB S x y) := fun {i j x y} e1 e2 => by
    have k1 := (List.getElem?_eq_some_iff.mp e1).1
    have k2 := (List.getElem?_eq_some_iff.mp e2).1
    have c1 : c[i]? = some (c.getD i 0) := by rw [List.getD_eq_getElem?_getD, List.getElem?_eq_getElem (by rw [← hR.2.1]; exact k1)]; rfl
    have c2 : c[j]? = some (c.getD j 0) := by rw [List.getD_eq_getElem?_getD, List.getElem?_eq_getElem (by rw [← hR.2.1]; exact k2)]; rfl
    have d1 : d[i]? = some (d.getD i 0) := by rw [List.getD_eq_getElem?_getD, List.getElem?_eq_getElem (by rw [← hS.2.1]; exact k1)]; rfl
    have d2 : d[j]? = some (d.getD j 0) := by rw [List.getD_eq_getElem?_getD, List.getElem?_eq_getElem (by rw [← hS.2.1]; exact k2)]; rfl
    rw [hR.2.2 i j x y _ _ e1 e2 c1 c2, hS.2.2 i j x y _ _ e1 e2 d1 d2]
    simp [edgeC]
  have k1 : ∀ j, Conn (edgeC [c, d]) zs.length i j → ∀ y, zs[j]? = some y → orOne R S x y := by
    intro j q
    induction q with
    | refl =>
      intro y e
      rw [h1] at e
      cases e
      exact .refl ((hR.1 x).mpr (List.mem_of_getElem? h1))
    | @step j k q hj hk e ih =>
      intro y e2
      have e' : zs[j]? = some zs[j] := List.getElem?_eq_getElem hj
      exact .step (ih _ e') ((hR.1 y).mpr (List.mem_of_getElem? e2)) ((edge e' e2).mp e)
  have k2 : ∀ y, orOne R S x y → ∀ j, zs[j]? = some y → Conn (edgeC [c, d]) zs.length i j := by
    intro y q
    induction q with
    | refl m =>
      intro j e
      have := (List.getElem_inj (h₀ := li) (h₁ := (List.getElem?_eq_some_iff.mp e).1) nd).mp ((List.getElem?_eq_some_iff.mp h1).2.trans (List.getElem?_eq_some_iff.mp e).2.symm)
      rw [this]
      exact .refl _
    | @step y z k m e ih =>
      intro j e2
      obtain ⟨j', hj', ej'⟩ := List.getElem_of_mem ((hR.1 y).mp k.mem.2)
      have e' : zs[j']? = some y := by rw [List.getElem?_eq_getElem hj', ej']
      exact .step (ih j' e') hj' (List.getElem?_eq_some_iff.mp e2).1 ((edge e' e2).mpr e)
  exact ⟨fun q => k2 y q j h2, fun q => k1 j q y h2⟩
theorem low_le (gT : GoodR T) (gR : GoodR R) (gS : GoodR S) (gU : GoodR U) (eT : ∀ x, x ∈ T.flatten ↔ x ∈ zs) (eR : ∀ x, x ∈ R.flatten ↔ x ∈ zs) (eS : ∀ x, x ∈ S.flatten ↔ x ∈ zs) (h : ∀ x y, oneB U x y ↔ andOne R S x y) :
    (finer T R && finer T S) = finer T U := by
  have eU := and_mem eR eS h
  refine Bool.eq_iff_iff.mpr ?_
  rw [Bool.and_eq_true, finer_iff gT gR fun x q => (eR x).mpr ((eT x).mp q), finer_iff gT gS fun x q => (eS x).mpr ((eT x).mp q), finer_iff gT gU fun x q => (eU x).mpr ((eT x).mp q)]
  exact ⟨fun q x y z => (h x y).mpr ⟨q.1 x y z, q.2 x y z⟩, fun q => ⟨fun x y z => ((h x y).mp (q x y z)).1, fun x y z => ((h x y).mp (q x y z)).2⟩⟩
theorem high_ge (gT : GoodR T) (gR : GoodR R) (gS : GoodR S) (gU : GoodR U) (eT : ∀ x, x ∈ T.flatten ↔ x ∈ zs) (eR : ∀ x, x ∈ R.flatten ↔ x ∈ zs) (eS : ∀ x, x ∈ S.flatten ↔ x ∈ zs) (h : ∀ x y, oneB U x y ↔ orOne R S x y) :
    (finer R T && finer S T) = finer U T := by
  have eU := or_memT eR h
  refine Bool.eq_iff_iff.mpr ?_
  rw [Bool.and_eq_true, finer_iff gR gT fun x q => (eT x).mpr ((eR x).mp q), finer_iff gS gT fun x q => (eT x).mpr ((eS x).mp q), finer_iff gU gT fun x q => (eT x).mpr ((eU x).mp q)]
  exact ⟨fun q x y z => or_in gT q.1 q.2 ((h x y).mp z), fun q => ⟨fun x y z => q x y ((h x y).mpr (or_left z)), fun x y z => q x y ((h x y).mpr (or_right (fun x => (eR x).trans (eS x).symm) z))⟩⟩
theorem same_and (gT : GoodR T) (gR : GoodR R) (h : ∀ x y, oneB T x y ↔ andOne R R x y) : T = R := (rows_same gT gR).mpr fun x y => (h x y).trans ⟨fun q => q.1, fun q => ⟨q, q⟩⟩
theorem same_or (gT : GoodR T) (gR : GoodR R) (h : ∀ x y, oneB T x y ↔ orOne R R x y) : T = R := (rows_same gT gR).mpr fun x y => (h x y).trans ⟨fun q => or_in gR (fun _ _ z => z) (fun _ _ z => z) q, or_left⟩
theorem and_or (gT : GoodR T) (gR : GoodR R) (hU : ∀ x y, oneB U x y ↔ orOne R S x y) (h : ∀ x y, oneB T x y ↔ andOne R U x y) : T = R := (rows_same gT gR).mpr fun x y => (h x y).trans ⟨fun q => q.1, fun q => ⟨q, (hU x y).mpr (or_left q)⟩⟩
theorem or_and (gT : GoodR T) (gR : GoodR R) (hU : ∀ x y, oneB U x y ↔ andOne R S x y) (h : ∀ x y, oneB T x y ↔ orOne R U x y) : T = R := (rows_same gT gR).mpr fun x y => (h x y).trans ⟨fun q => or_in gR (fun _ _ z => z) (fun _ _ z => ((hU _ _).mp z).1) q, or_left⟩
theorem and_swap (gT : GoodR T) (gU : GoodR U) (hU : ∀ x y, oneB U x y ↔ andOne R S x y) (h : ∀ x y, oneB T x y ↔ andOne S R x y) : T = U := (rows_same gT gU).mpr fun x y => (h x y).trans ⟨fun q => (hU x y).mpr ⟨q.2, q.1⟩, fun q => have z := (hU x y).mp q; ⟨z.2, z.1⟩⟩
theorem or_swap (gT : GoodR T) (gU : GoodR U) (e : ∀ x, x ∈ R.flatten ↔ x ∈ S.flatten) (hU : ∀ x y, oneB U x y ↔ orOne R S x y) (h : ∀ x y, oneB T x y ↔ orOne S R x y) : T = U :=
  (rows_same gT gU).mpr fun x y => (h x y).trans (Iff.trans (JR.cong (fun x => (e x).symm) fun _ _ => Or.comm) (hU x y).symm)
end
end K1
set_option linter.all false
set_option maxRecDepth 100000
set_option maxHeartbeats 1000000
set_option pp.maxSteps 600
namespace K1
open PySem L2
/-- what follows is shown once, from a fact of the value -/
def tMid (t : TE) : TE := fun σ H Q => ∃ R : VK, t σ H R ∧ ∀ x H', R x H' → Q x H'
open PySem.Spec PyProof.Rows in
theorem pe_mid {X : Cx} {e : Expr} {t : TE} (h : PE X e t) : PE X e (tMid t) := ⟨fun pins s σ H Q I ⟨R, q, k⟩ => thn (h.run pins s σ H R I q) fun v s1 ⟨x, H1, I1, r1, p⟩ => ⟨x, H1, I1, r1, k x H1 p⟩⟩
/-- the meetings made of two -/
structure JoinM (P : Program) (w : World) (K : PySem.W.Frag) (mg : Str → Option Value) (base : Heap) (C : Addr) : Prop where
  zip : mg "zip" = none
  and : ∃ g fd, Meth K C "__and__" g ∧ Binds K fd ["self", "other"] [] ∧ FnOk P w K mg base CX0 7 g fd ["self", "other"] (spMade C andOne)
  or : ∃ g fd, Meth K C "__or__" g ∧ Binds K fd ["self", "other"] [] ∧ FnOk P w K mg base CX0 7 g fd ["self", "other"] (spMade C orOne)
  joined : ∃ f fd, mg "_law_joined" = some (.ref f) ∧ PySem.W.keepIn K (.ref f) = true ∧ Binds K fd ["_law_names_here", "_law_codes"] [] ∧ FnOk P w K mg base CX0 1 f fd ["_law_names_here", "_law_codes"] spJoined
  as : ∃ f fd, mg "_law_as" = some (.ref f) ∧ PySem.W.keepIn K (.ref f) = true ∧ Binds K fd ["_law_meeting", "_law_names_here", "_law_code"] [] ∧ FnOk P w K mg base CX0 7 f fd ["_law_meeting", "_law_names_here", "_law_code"] (spAs K C)
section
variable {P : Program} {w : World} {K : PySem.W.Frag} {mg : Str → Option Value} {base : Heap} {C : Addr}
abbrev NLa : List Str := ["_law_script", "_law_state", "_law_turn", "_law_names_here", "_law_codes", "_law_k", "_law_code", "_law_m", "_law_n", "_law_third", "_law_x", "_law_y", "_law_both", "_law_low", "_law_high", "_law_same_here"]
theorem scLa : FnScope NLa ["_law_script"] (defScope sLaw) := ⟨rfl, rfl, rfl, by decide +kernel, rfl, by decide +kernel, by decide +kernel⟩
theorem ok_law {f : Addr} {fd : FuncData} (F : Fun K "law" "law" sLaw f fd) (T : LawS P w K mg base C) (M : CmpM P w K mg base C) (Jn : JoinM P w K mg base C) :
    FnOk P w K mg base CX0 10 f fd ["_law_script"] (spLaw K) := by
  obtain ⟨fT, fdT, gT, kT, bT, GT⟩ := T.take
  obtain ⟨fF, fdF, gF, kF, bF, GF⟩ := T.fresh
  obtain ⟨fN, fdN, gN, kN, bN, GN⟩ := T.names
  obtain ⟨fB, fdB, gB, kB, bB, GB⟩ := T.blocks
  obtain ⟨fM, fdM, MM, bM, GM⟩ := T.make
  obtain ⟨gle, fdle, Mle, ble, Gle⟩ := M.le
  obtain ⟨gge, fdge, Mge, bge, Gge⟩ := M.ge
  obtain ⟨geq, fdeq, Meq, Neq, beq, Geq⟩ := M.eq
  obtain ⟨gan, fdan, Man, ban, Gan⟩ := Jn.and
  obtain ⟨gor, fdor, Mor, bor, Gor⟩ := Jn.or
  obtain ⟨fJ, fdJ, gJ, kJ, bJ, GJ⟩ := Jn.joined
  obtain ⟨fA, fdA, gA, kA, bA, GA⟩ := Jn.as
  refine F.ok scLa (fun vs H Q E h => ?_) (fun cdv A outer s H vs Q E hr h => ?_)
  · obtain ⟨a, ns, rfl, _⟩ := h
    rfl
  · obtain ⟨a, ns, rfl, hS, hn, k⟩ := h
    have r1 : Room 1 _ := hr.mono (by decide)
    have r2 : Room 2 _ := hr.mono (by decide)
    have r3 : Room 3 _ := hr.mono (by decide)
    have r6 : Room 6 _ := hr.mono (by decide)
    have r7 : Room 7 _ := hr.mono (by decide)
    have hu := hr.units
    refine ⟨_, pss_cons (ps_set (i := 1) scLa.nd rfl (.inr rfl) (pe_call GF r1 (by rfl) gF kF bF .nil pass0 (pa_cons (pv 0) pa_nil)))
      (pss_cons (ps_for PassesOwn.never rfl (pi_range1 (by rfl) T.range (pa_cons pe_int pa_nil)) (pg_name (i := 2) scLa.nd rfl (Or.inl rfl)) (pss_cons (ps_asg (pe_tup (pa_cons (pe_call GN r3 (by rfl) gN kN bN .nil pass0 (pa_cons (pv 1) (pa_cons (pe_call GT r1 (by rfl) gT kT bT .nil pass0 (pa_cons (pv 1) (pa_cons pe_int pa_nil))) pa_nil))) (pa_cons (pe_lst (pa_cons (pe_tup pa_nil) (pa_cons (pe_tup pa_nil) (pa_cons (pe_tup pa_nil) pa_nil)))) pa_nil))) (pg_tup rfl (pgs_cons (pg_name (i := 3) scLa.nd rfl (Or.inr rfl)) (pgs_cons (pg_name (i := 4) scLa.nd rfl (Or.inl rfl)) pgs_nil))))
      (pss_cons (ps_for PassesOwn.never rfl (pi_range1 (by rfl) T.range (pa_cons (pe_callB call_len_seq (by rfl) T.len PySem.boot_len (pa_cons (pv 3) pa_nil)) pa_nil)) (pg_name (i := 5) scLa.nd rfl (Or.inl rfl)) (pss_one (ps_setLc (i := 4) (own := [("_law_code", 6)]) (g := gName 6) (tt := tYes)  rfl scLa.nd rfl rfl (sw_true rfl rfl rfl rfl) (pi_list (pv 4)) (blkOk_by (N := NLa) (sc := defScope sLaw) (by decide +kernel)) (fun _ _ _ _ _ => (pg_name (i := 6) scLa.nd rfl (Or.inl rfl))) (fun _ _ _ _ _ => pts_nil) (fun _ _ _ _ _ => (pe_op (op_catN (K := K)) (pv 6) (pe_tup (pa_cons (pe_call GT r1 (by rfl) gT kT bT .nil pass0 (pa_cons (pv 1) (pa_cons (pe_op op_add (pe_callB (call_lenKS (w := w)) (by rfl) T.len PySem.boot_len (pa_cons (pe_callTy (cr_setK (K := K) (w := w) rfl) (by rfl) T.set (by decide +kernel) (pa_cons (pv 6) pa_nil)) pa_nil)) pe_int) pa_nil))) pa_nil)))))))
      (pss_cons (ps_asg (pe_lc (own := [("_law_code", 6)]) (g := gName 6) (tt := tYes)  rfl scLa.nd (pi_list (pv 4)) (blkOk_by (N := NLa) (sc := defScope sLaw) (by decide +kernel)) (fun _ _ _ _ _ => (pg_name (i := 6) scLa.nd rfl (Or.inl rfl))) (fun _ _ _ _ _ => pts_nil) (fun _ _ _ _ _ => (pe_make MM GM r6 (by rfl) M.c.glob bM .nil pass0 (pa_cons (pe_call GB r1 (by rfl) gB kB bB .nil pass0 (pa_cons (pv 3) (pa_cons (pv 6) pa_nil))) pa_nil)))) (pg_unl rfl (pgs_cons (pg_name (i := 7) scLa.nd rfl (Or.inr rfl)) (pgs_cons (pg_name (i := 8) scLa.nd rfl (Or.inl rfl)) (pgs_cons (pg_name (i := 9) scLa.nd rfl (Or.inl rfl)) pgs_nil)))))
      (pss_cons (ps_setLc (i := 12) (own := [("_law_x", 10), ("_law_y", 11)]) (g := gTup K 2 (gCons (gName 10) (gCons (gName 11) gNil))) (tt := tYes)  rfl scLa.nd rfl rfl (sw_true rfl rfl rfl rfl) (pi_zB (by rfl) Jn.zip (pa_cons (pe_ix ix_list (pv 4) pe_int (fun _ _ => rfl)) (pa_cons (pe_ix ix_list (pv 4) pe_int (fun _ _ => rfl)) pa_nil))) (blkOk_by (N := NLa) (sc := defScope sLaw) (by decide +kernel)) (fun _ _ _ _ _ => (pg_tup rfl (pgs_cons (pg_name (i := 10) scLa.nd rfl (Or.inl rfl)) (pgs_cons (pg_name (i := 11) scLa.nd rfl (Or.inl rfl)) pgs_nil)))) (fun _ _ _ _ _ => pts_nil) (fun _ _ _ _ _ => (pe_op op_add (pe_op op_mul (pv 10) pe_int) (pv 11))))
      (pss_cons (ps_par (i := 13) (j := 14) rfl scLa.nd rfl rfl (by decide) rfl rfl (pa_cons (pe_op (op_two (op := .BitAnd) Man M.c.sf Gan r7 ban pass0) (pv 7) (pv 8)) (pa_cons (pe_op (op_two (op := .BitOr) Mor M.c.sf Gor r7 bor pass0) (pv 7) (pv 8)) pa_nil)) (by rfl))
      (pss_cons (ps_if (pw_or (pt_not (pt_val (pe_call GA r7 (by rfl) gA kA bA .nil pass0 (pa_cons (pv 13) (pa_cons (pv 3) (pa_cons (pv 12) pa_nil)))))) (pw_or1 (pt_not (pt_val (pe_call GA r7 (by rfl) gA kA bA .nil pass0 (pa_cons (pv 14) (pa_cons (pv 3) (pa_cons (pe_call GJ r1 (by rfl) gJ kJ bJ .nil pass0 (pa_cons (pv 3) (pa_cons (pe_slice sl_list (pv 4) po_none (po_some pe_int)) pa_nil))) pa_nil)))))))).pt (pss_one (ps_ret pe_bl)) pss_nil)
      (pss_cons (ps_if (pt_cmpR op_ne (pe_mid (pe_and (pe_cmpR (op_cmp (op := .LtE) (fun _ _ => rfl) Mle M.c.nf Gle r3 ble pass0) (pv 9) (pv 7) (nomark _)) (pe_one (pe_cmpR (op_cmp (op := .LtE) (fun _ _ => rfl) Mle M.c.nf Gle r3 ble pass0) (pv 9) (pv 8) (nomark _))))) (pe_cmpR (op_cmp (op := .LtE) (fun _ _ => rfl) Mle M.c.nf Gle r3 ble pass0) (pv 9) (pv 13) (nomark _)) (nomark _)) (pss_one (ps_ret pe_bl)) pss_nil)
      (pss_cons (ps_if (pt_cmpR op_ne (pe_mid (pe_and (pe_cmpR (op_cmp (op := .GtE) (fun _ _ => rfl) Mge M.c.nf Gge r3 bge pass0) (pv 9) (pv 7) (nomark _)) (pe_one (pe_cmpR (op_cmp (op := .GtE) (fun _ _ => rfl) Mge M.c.nf Gge r3 bge pass0) (pv 9) (pv 8) (nomark _))))) (pe_cmpR (op_cmp (op := .GtE) (fun _ _ => rfl) Mge M.c.nf Gge r3 bge pass0) (pv 9) (pv 14) (nomark _)) (nomark _)) (pss_one (ps_ret pe_bl)) pss_nil)
      (pss_cons (ps_set (i := 15) scLa.nd rfl (.inl rfl) (pe_lst (pa_cons (pe_op (op_two (op := .BitAnd) Man M.c.sf Gan r7 ban pass0) (pv 7) (pv 7)) (pa_cons (pe_op (op_two (op := .BitOr) Mor M.c.sf Gor r7 bor pass0) (pv 7) (pv 7)) (pa_cons (pe_op (op_two (op := .BitAnd) Man M.c.sf Gan r7 ban pass0) (pv 7) (pe_op (op_two (op := .BitOr) Mor M.c.sf Gor r7 bor pass0) (pv 7) (pv 8))) (pa_cons (pe_op (op_two (op := .BitOr) Mor M.c.sf Gor r7 bor pass0) (pv 7) (pe_op (op_two (op := .BitAnd) Man M.c.sf Gan r7 ban pass0) (pv 7) (pv 8))) pa_nil))))))
      (pss_cons (ps_if (pw_or (pt_not (pt_val (pe_callB (cr_all rfl) (by rfl) T.all (by decide +kernel) (pa_cons (pe_lc (own := [("_law_x", 10)]) (g := gName 10) (tt := tYes)  rfl scLa.nd (pi_list (pv 15)) (blkOk_by (N := NLa) (sc := defScope sLaw) (by decide +kernel)) (fun _ _ _ _ _ => (pg_name (i := 10) scLa.nd rfl (Or.inl rfl))) (fun _ _ _ _ _ => pts_nil) (fun _ _ _ _ _ => (pe_cmpR (op_cmp (op := .Eq) (fun _ _ => rfl) Meq M.c.nf Geq r1 beq pass0) (pv 10) (pv 7) (nomark _)))) pa_nil)))) (pw_or (pt_cmpR (op_unlike Neq Geq r2 beq pass0) (pe_op (op_two (op := .BitAnd) Man M.c.sf Gan r7 ban pass0) (pv 8) (pv 7)) (pv 13) (nomark _)) (pw_or1 (pt_cmpR (op_unlike Neq Geq r2 beq pass0) (pe_op (op_two (op := .BitOr) Mor M.c.sf Gor r7 bor pass0) (pv 8) (pv 7)) (pv 14) (nomark _))))).pt (pss_one (ps_ret pe_bl)) pss_nil)
      (pss_one (ps_if (pw_or (pt_not (pt_val (pe_call GA r7 (by rfl) gA kA bA .nil pass0 (pa_cons (pv 7) (pa_cons (pv 3) (pa_cons (pe_ix ix_list (pv 4) pe_int (fun _ _ => rfl)) pa_nil)))))) (pw_or1 (pt_not (pt_val (pe_call GA r7 (by rfl) gA kA bA .nil pass0 (pa_cons (pv 8) (pa_cons (pv 3) (pa_cons (pe_ix ix_list (pv 4) pe_int (fun _ _ => rfl)) pa_nil)))))))).pt (pss_one (ps_ret pe_bl)) pss_nil)))))))))))))
      (pss_one (ps_ret pe_bl))), ?_⟩
    refine ⟨_, rfl, a, ns, rfl, hS, hn, fun st l cs H0 s0 S0 nst => ?_⟩
    refine ⟨8, rfl, by decide, by decide, ?_⟩
    refine for_range (n := 8) (fun i σ H2 => (∃ v2 v3 v4 v5 v7 v8 v9 v12 v13 v14 v15 : Option V, σ = [some (.ref a), some (.ref st), v2, v3, v4, v5, none, v7, v8, v9, none, none, v12, v13, v14, v15]) ∧ Spr H2 st l cs (50 * i)) ⟨⟨_, _, _, _, _, _, _, _, _, _, _, rfl⟩, S0⟩ ?_ ?_
    · rintro i σ H2 hi ⟨⟨v2, v3, v4, v5, v7, v8, v9, v12, v13, v14, v15, rfl⟩, S2⟩
      -- names
      refine ⟨_, rfl, _, rfl, st, l, cs, _, 7, rfl, by decide, by decide, by omega, S2, fun m H3 m0 m1 S3 hk3 => ?_⟩
      refine ⟨st, l, cs, _, m, rfl, m0, by omega, by omega, S3, fun np zs H4 nd nm lz hnp S4 b4 nnp => ?_⟩
      have few : zs.length ≤ 7 := by omega
      have nnst := S3.not nnp
      have nmo : ∀ z ∈ zs, nameOk z = true := fun z hz => nm16_name z (nm z hz)
      -- codes
      refine ⟨sz (Nat.zero_le _), fun ta na => ⟨sz (Nat.zero_le _), fun tb nb => ⟨sz (Nat.zero_le _), fun tc nc => ⟨sz (Nat.le_of_ble_eq_true rfl), fun D nD => ?_⟩⟩⟩⟩
      have sa := same_new na (.tup [])
      have sb := sa.trans (same_new nb (.tup []))
      have sc := sb.trans (same_new nc (.tup []))
      have sD := sc.trans (same_new nD (.lst [.ref ta, .ref tb, .ref tc]))
      have nDst : D ≠ st := (S4.mono sc).not nD
      refine ⟨sz (Nat.le_of_ble_eq_true rfl), fun tp ntp => ⟨tp, [.ref np, .ref D], rfl, SqT.of upd_same, rfl, _, _, rfl, _, _, rfl, rfl, ?_⟩⟩
      have stp := same_new ntp (.tup [.ref np, .ref D])
      have sT := sD.trans stp
      refine ⟨_, rfl, np, zs.map V.str, rfl, .inl (SqL.of (sT _ _ hnp)), ?_⟩
      refine ⟨((zs.map V.str).length : Nat), rfl, by rw [List.length_map]; omega, by rw [List.length_map]; omega, ?_⟩
      rw [List.length_map]
      refine for_range (n := zs.length) (fun j σ H5 => ∃ (D : Addr) (L : CL) (v5 : Option V), σ = [some (.ref a), some (.ref st), some (.int (0 + i)), some (.ref np), some (.ref D), v5, none, v7, v8, v9, none, none, v12, v13, v14, v15] ∧
        H5 D = some (.lst (refC L)) ∧ D ≠ st ∧ D ≠ l ∧ L.length = 3 ∧ CdOk H5 L j ∧ Spr H5 st l cs (50 * i + 17 + 3 * j) ∧ H5 np = some (.lst (zs.map V.str)))
        ⟨D, [(ta, []), (tb, []), (tc, [])], v5, rfl, stp _ _ upd_same, nDst, (ne_of_none (S4.mono sc).ls nD).symm, rfl, ?_, (S4.mono sT).up (by omega), sT _ _ hnp⟩ ?_ ?_
      · intro p hp
        rcases List.mem_cons.mp hp with rfl | hp
        · exact ⟨stp _ _ ((same_new nD _) _ _ ((same_new nc _) _ _ ((same_new nb _) _ _ upd_same))), ⟨0, code_nil⟩, rfl⟩
        · rcases List.mem_cons.mp hp with rfl | hp
          · exact ⟨stp _ _ ((same_new nD _) _ _ ((same_new nc _) _ _ upd_same)), ⟨0, code_nil⟩, rfl⟩
          · obtain rfl := List.mem_singleton.mp hp
            exact ⟨stp _ _ ((same_new nD _) _ _ upd_same), ⟨0, code_nil⟩, rfl⟩
      · rintro j σ H5 hj ⟨D, L, v5, rfl, hD, nDst, nDl, lL, cd, S5, hnp5⟩
        refine ⟨_, rfl, D, rfl, ⟨_, SqL.of hD⟩, fun D2 nD2 => ?_⟩
        have n2st := S5.not nD2
        refine lc_list (xs := refC L) (fun q H9 => ∃ M : CL, H9 D2 = some (.lst (refC M)) ∧ M.length = q ∧ CdOk H9 M (j + 1) ∧ Spr H9 st l cs (50 * i + 17 + 3 * j + q) ∧ But st H5 H9) ⟨[], upd_same, rfl, (fun _ h => nomatch h), S5.mono (same_new nD2 _), But.of (same_new nD2 _)⟩ (fun q H9 _ ⟨M, _, _, _, _, b9⟩ => SqL.of (b9 _ _ nDst hD)) ?_ ?_
        · rintro q x H9 hx ⟨M, h9, lM, cM, S9, b9⟩
          obtain ⟨p, hp, rfl⟩ := refC_get hx
          have lq : q < 3 := by rw [← lL]; exact (List.getElem?_eq_some_iff.mp hp).1
          obtain ⟨hp1, ⟨k', ck⟩, lp⟩ := (cd.but S5 b9) p (List.mem_of_getElem? hp)
          have kl := code_le ck
          refine ⟨rfl, _, rfl, _, rfl, _, rfl, p.1, p.2.map cK, rfl, .inr (.inl (SqT.of (by rw [codeV_keys]; exact hp1))), by rw [List.length_map]; omega, fun s1 Ds ns1 ndD mD => ⟨s1, Ds, rfl, upd_same, ?_⟩⟩
          have eL : Ds.length = k' := len_code ck ndD mD
          rw [eL]
          generalize KS _ s1 Ds = KO
          have t1 := same_new ns1 KO
          refine ⟨_, _, rfl, rfl, st, l, cs, _, _, rfl, by omega, by omega, by omega, S9.mono t1, fun r H11 r0 r1' S11 hk11 => ?_⟩
          have b11 : But st H9 H11 := (But.of t1).trans (But.eq hk11)
          refine ⟨sz (Nat.le_of_ble_eq_true rfl), fun tp ntp => ?_⟩
          have t2 := same_new ntp (.tup [.int r])
          have b12 := b11.trans (But.of t2)
          refine ⟨p.1, tp, codeV p.2, [.int r], rfl, rfl, SqT.of (b12 _ _ (S9.no hp1 fun _ z => by cases z) hp1), upd_same, by simp, sz (by rw [codeV_len]; simp; omega), fun t H12 ht nt s12 => ?_⟩
          have b13 := b12.trans (But.of s12)
          have S12 := (S11.mono t2).mono s12
          have er : r = (r.toNat : Nat) := by omega
          have ht' : H12 t = some (.tup (codeV (p.2 ++ [r.toNat]))) := by rw [ht, ← codeV_snoc, ← er]
          have h12 := b13 _ _ n2st h9
          have tD2 : t ≠ D2 := fun e => by rw [e, h12] at ht; cases ht
          refine ⟨_, h12, small1000 (by rw [refC_len]; omega), M ++ [(t, p.2 ++ [r.toNat])], by rw [upd_same]; simp [refC], by rw [List.length_append, lM]; rfl, fun w hw => ?_, ?_, fun b o nb hb => ?_⟩
          · rcases List.mem_append.mp hw with hw | hw
            · obtain ⟨e1, e2⟩ := (cM.but S9 b13) w hw
              exact ⟨by rw [upd_ne (fun e => by rw [e, h12] at e1; cases e1)]; exact e1, e2⟩
            · obtain rfl := List.mem_singleton.mp hw
              exact ⟨by rw [upd_ne tD2]; exact ht', code_snoc ck (by omega), by rw [List.length_append, lp]; rfl⟩
          · exact (S12.up (by omega)).upd n2st (ne_of_none S5.ls nD2).symm
          · rw [upd_ne (ne_of_none hb nD2)]
            exact (b9.trans b13) b o nb hb
        · rintro H9 ⟨M, h9, lM, cM, S9, b9⟩
          rw [refC_len, lL] at lM S9
          exact ⟨D2, M, _, rfl, h9, n2st, (ne_of_none S5.ls nD2).symm, lM, cM, S9.up (by omega), b9 _ _ nnst hnp5⟩
      rintro σ H7 ⟨D, L, v5, rfl, hD7, nDst, nDl, lL, cd, S7, hnp7⟩
      obtain ⟨⟨a0, c0⟩, ⟨a1, c1⟩, ⟨a2, c2⟩, rfl⟩ : ∃ p0 p1 p2, L = [p0, p1, p2] := by
        match L, lL with
        | [p, q, r], _ => exact ⟨p, q, r, rfl⟩
      obtain ⟨ha0, ⟨k0, ck0⟩, l0⟩ := cd _ (.head _)
      obtain ⟨ha1, ⟨k1, ck1⟩, l1⟩ := cd _ (.tail _ (.head _))
      obtain ⟨ha2, ⟨k2, ck2⟩, l2⟩ := cd _ (.tail _ (.tail _ (.head _)))
      have ha0 : H7 a0 = some (.tup (codeV c0)) := ha0
      have ha1 : H7 a1 = some (.tup (codeV c1)) := ha1
      have ha2 : H7 a2 = some (.tup (codeV c2)) := ha2
      have l0 : zs.length = c0.length := Eq.symm l0
      have l1 : zs.length = c1.length := Eq.symm l1
      have l2 : zs.length = c2.length := Eq.symm l2
      have S7 := S7.up (m := 50 * i + 40) (by omega)
      clear cd hk3 b4 sa sb sc sD sT stp S3 S4 hnp nb na nc nD ntp hi m0 m1 lz
      -- the meetings
      refine ⟨_, rfl, D, rfl, ⟨_, SqL.of hD7⟩, fun D8 nD8 => ?_⟩
      refine lc_list (xs := refC [(a0, c0), (a1, c1), (a2, c2)]) (fun q H9 => ∃ O : List Addr, H9 D8 = some (.lst (O.map V.ref)) ∧ O.length = q ∧ (∀ (w : Nat) (o : Addr), O[w]? = some o → ∃ p k, [(a0, c0), (a1, c1), (a2, c2)][w]? = some p ∧ CodeOk p.2 k ∧ MeetAt C H9 o (rowsC zs p.2 k)) ∧ Same H7 H9)
        ⟨[], upd_same, rfl, fun w o h => by simp at h, same_new nD8 _⟩ (fun q H9 _ ⟨_, _, _, _, s⟩ => SqL.of (s _ _ hD7)) ?_ ?_
      · rintro q x H9 hx ⟨O, h9, lO, hO, s9⟩
        obtain ⟨p, hp, rfl⟩ := refC_get hx
        have lq : q < 3 := (List.getElem?_eq_some_iff.mp hp).1
        obtain ⟨kp, hpa, ckp, lp⟩ : ∃ kp, H7 p.1 = some (.tup (codeV p.2)) ∧ CodeOk p.2 kp ∧ zs.length = p.2.length := by
          rcases List.mem_cons.mp (List.mem_of_getElem? hp) with rfl | h
          · exact ⟨k0, ha0, ck0, l0⟩
          · rcases List.mem_cons.mp h with rfl | h
            · exact ⟨k1, ha1, ck1, l1⟩
            · obtain rfl := List.mem_singleton.mp h
              exact ⟨k2, ha2, ck2, l2⟩
        refine ⟨rfl, _, rfl, _, rfl, np, p.1, zs, p.2, kp, rfl, s9 _ _ hnp7, s9 _ _ hpa, ckp, lp, few, fun bp B H10 s10 nbp hbp hB fB eB => ?_⟩
        dsimp only [tNil]
        refine mmake_to hbp hB (by rw [eB]; exact good_blocks nd nmo lp ckp few) fun o H11 s11 no mo => ?_
        have s12 := s10.trans s11
        have h11 := s12 _ _ h9
        have s1 : Same H7 (upd H11 D8 (.lst (O.map V.ref ++ [.ref o]))) := fun b z hb => by
          rw [upd_ne (ne_of_none hb nD8)]
          exact s12 _ _ (s9 _ _ hb)
        refine ⟨_, h11, small1000 (by rw [List.length_map, lO]; omega), O ++ [o], by rw [upd_same, List.map_append]; rfl, by rw [List.length_append, lO]; rfl, fun w o' hw => ?_, s1⟩
        rcases Nat.lt_or_ge w q with g | g
        · rw [List.getElem?_append_left (by omega)] at hw
          obtain ⟨p', k', e1, e2, e3⟩ := hO w o' hw
          exact ⟨p', k', e1, e2, (e3.mono s12).keep h11⟩
        · rw [List.getElem?_append_right (by omega), lO] at hw
          have : w = q := by
            rcases Nat.eq_zero_or_pos (w - q) with z | z
            · omega
            · rw [List.getElem?_eq_none (by rw [List.length_singleton]; exact z)] at hw
              cases hw
          subst this
          rw [Nat.sub_self] at hw
          cases hw
          rw [eB] at mo
          exact ⟨p, kp, hp, ckp, mo.keep h11⟩
      rintro H9 ⟨O, h9, lO, hO, s9⟩
      have lO : O.length = 3 := lO
      obtain ⟨o0, o1, o2, rfl⟩ : ∃ o0 o1 o2, O = [o0, o1, o2] := by
        match O, lO with
        | [p, q, r], _ => exact ⟨p, q, r, rfl⟩
      obtain ⟨_, k0', e, ck0', m0⟩ := hO 0 o0 rfl
      cases Option.some.inj e
      obtain ⟨_, k1', e, ck1', m1⟩ := hO 1 o1 rfl
      cases Option.some.inj e
      obtain ⟨_, k2', e, ck2', m2⟩ := hO 2 o2 rfl
      cases Option.some.inj e
      refine ⟨D8, [.ref o0, .ref o1, .ref o2], rfl, SqL.of h9, rfl, _, _, rfl, _, _, rfl, _, _, rfl, rfl, ?_⟩
      have hc0 : HasCode (rowsC zs c0 k0') zs c0 := has_rows nd nmo few l0 ck0'
      have hc1 : HasCode (rowsC zs c1 k1') zs c1 := has_rows nd nmo few l1 ck1'
      have hc2 : HasCode (rowsC zs c2 k2') zs c2 := has_rows nd nmo few l2 ck2'
      have low0 : ∀ v ∈ c0, v < 10 := fun v hv => by have := (ck0' v).mp hv; have := code_le ck0'; omega
      have low1 : ∀ v ∈ c1, v < 10 := fun v hv => by have := (ck1' v).mp hv; have := code_le ck1'; omega
      generalize rowsC zs c0 k0' = R0 at m0 hc0
      generalize rowsC zs c1 k1' = R1 at m1 hc1
      generalize rowsC zs c2 k2' = R2 at m2 hc2
      -- what stands through all that follows
      obtain ⟨Kp, eKp⟩ : ∃ Kp : Hp → Prop, Kp = fun G => G D = some (.lst (refC [(a0, c0), (a1, c1), (a2, c2)])) ∧ G np = some (.lst (zs.map V.str)) ∧ G a0 = some (.tup (codeV c0)) ∧ G a1 = some (.tup (codeV c1)) ∧ MeetAt C G o0 R0 ∧ MeetAt C G o1 R1 ∧ MeetAt C G o2 R2 ∧ Spr G st l cs (50 * i + 40) := ⟨_, rfl⟩
      have kpm : ∀ {G G' : Hp}, Kp G → Same G G' → Kp G' := fun {G G'} h s => by
        rw [eKp] at h ⊢
        obtain ⟨h1, h2, h3, h4, h5, h6, h7, h8⟩ := h
        exact ⟨s _ _ h1, s _ _ h2, s _ _ h3, s _ _ h4, h5.mono s, h6.mono s, h7.mono s, h8.mono s⟩
      have kp : Kp H9 := by
        rw [eKp]
        exact ⟨s9 _ _ hD7, s9 _ _ hnp7, s9 _ _ ha0, s9 _ _ ha1, m0, m1, m2, S7.mono s9⟩
      have at_ : ∀ {G : Hp}, Kp G → G D = some (.lst (refC [(a0, c0), (a1, c1), (a2, c2)])) ∧ G np = some (.lst (zs.map V.str)) ∧ G a0 = some (.tup (codeV c0)) ∧ G a1 = some (.tup (codeV c1)) ∧ MeetAt C G o0 R0 ∧ MeetAt C G o1 R1 ∧ MeetAt C G o2 R2 ∧ Spr G st l cs (50 * i + 40) := fun {G} h => by rw [eKp] at h; exact h
      have g0 := m0.good
      have g1 := m1.good
      have g2 := m2.good
      clear hO h9 hnp7 hD7 ck0 ck1 ck2 ck0' ck1' ck2' S7 ha0 ha1 ha2 m0 m1 m2 eKp
      have en01 : namesOf R0 = namesOf R1 := hc0.names.trans hc1.names.symm
      have ln0 : ∀ {T : List (List Str)}, (∀ x, x ∈ T.flatten ↔ x ∈ zs) → (namesOf T).length ≤ 7 := fun {T} h => by
        rw [show namesOf T = asc ltS zs from asc_mem tot_ltS h, asc_len tot_ltS nd]
        exact few
      have nmq : ∀ {T U : List (List Str)}, (∀ x, x ∈ T.flatten ↔ x ∈ zs) → (∀ x, x ∈ U.flatten ↔ x ∈ zs) → namesOf T = namesOf U := fun {T U} h h' => asc_mem tot_ltS fun x => (h x).trans (h' x).symm
      -- both
      obtain ⟨hD, hnp, ha0, ha1, m0, m1, m2, S9⟩ := at_ kp
      refine ⟨_, rfl, D, _, 0, .ref a0, rfl, rfl, SqL.of hD, rfl, _, rfl, D, _, 0 + 1, .ref a1, rfl, rfl, SqL.of hD, rfl, true, true, a0, a1, codeV c0, codeV c1, rfl, SqT.of ha0, SqT.of ha1, fun BB nBB => ?_⟩
      have sBB := same_new nBB (.lst [])
      have lb : (both c0 c1).length = zs.length := by unfold both; rw [List.length_map, List.length_zip]; omega
      refine lc_it (walk_zB (n := zs.length) (xs := codeV c0) (ys := codeV c1) (by rw [codeV_len, codeV_len]; omega)) (fun q H12 => H12 BB = some (.lst (codeV ((both c0 c1).take q))) ∧ Same H9 H12) ⟨upd_same, sBB⟩ (fun q H12 _ z => ⟨SqT.of (z.2 _ _ ha0), SqT.of (z.2 _ _ ha1)⟩) ?_ ?_
      · rintro q x H12 H13 hq ⟨h12, s12⟩ ⟨T0, u, v, rfl, nT0, rfl, eu, ev⟩
        obtain ⟨p, hp, rfl⟩ := codeV_get eu
        obtain ⟨r, hr', rfl⟩ := codeV_get ev
        refine ⟨T0, [.int p, .int r], rfl, SqT.of upd_same, rfl, _, _, rfl, _, _, rfl, rfl, rfl, ?_⟩
        have sT := same_new nT0 (.tup [.int p, .int r])
        generalize upd H12 T0 (.tup [.int p, .int r]) = H13 at sT ⊢
        have h13 := sT _ _ h12
        have lp := low0 p (List.mem_of_getElem? hp)
        have hz : (c0.zip c1)[q]? = some (p, r) := List.getElem?_zip_eq_some.mpr ⟨hp, hr'⟩
        refine ⟨_, rfl, _, _, rfl, rfl, .inr ⟨by decide, by decide⟩, _, rfl, _, _, rfl, rfl, _, h13, small1000 (by rw [codeV_len, List.length_take]; omega), ?_, fun b z hb => ?_⟩
        · have eb : (both c0 c1).take (q + 1) = (both c0 c1).take q ++ [p * 10 + r] := by
            rw [List.take_add_one]
            unfold both
            rw [List.getElem?_map, hz]
            rfl
          rw [upd_same, eb, ← codeV_snoc]
          rfl
        · rw [upd_ne (ne_of_none hb nBB)]
          exact sT _ _ (s12 _ _ hb)
      rintro H10 ⟨hBB, s10⟩
      rw [← lb, List.take_length] at hBB
      have kp := kpm kp s10
      clear hD hnp ha0 ha1 m0 m1 m2 S9 sBB nBB s10 s9 nD8
      -- low, high
      obtain ⟨hD, hnp, ha0, ha1, m0, m1, m2, S9⟩ := at_ kp
      refine ⟨_, rfl, _, rfl, o0, o1, rfl, rfl, m0.ins, m1.ins, o0, o1, R0, R1, rfl, m0, m1, en01, ln0 hc0.1, fun lo RL G0 sG0 nlo mlo hlo => ?_⟩
      have kp := kpm kp sG0
      have hBB := sG0 _ _ hBB
      obtain ⟨hD, hnp, ha0, ha1, m0, m1, m2, S9⟩ := at_ kp
      refine ⟨_, rfl, _, rfl, o0, o1, rfl, rfl, m0.ins, m1.ins, o0, o1, R0, R1, rfl, m0, m1, en01, ln0 hc0.1, fun hi RH G1 sG1 nhi mhi hhi => ⟨_, _, rfl, ?_⟩⟩
      have kp := kpm kp sG1
      have hBB := sG1 _ _ hBB
      have mlo := mlo.mono sG1
      have gL := mlo.good
      have gH := mhi.good
      obtain ⟨hD, hnp, ha0, ha1, m0, m1, m2, S9⟩ := at_ kp
      -- as they should be
      refine ⟨_, rfl, _, rfl, _, rfl, false, lo, np, BB, RL, zs, both c0 c1, rfl, mlo, hnp, SqL.of hBB, nd, few, has_both hc0 hc1 low0 low1 hlo, fun G2 sG2 => ⟨_, rfl, iteF ?_⟩⟩
      have kp := kpm kp sG2
      have mlo := mlo.mono sG2
      have mhi := mhi.mono sG2
      obtain ⟨hD, hnp, ha0, ha1, m0, m1, m2, S9⟩ := at_ kp
      refine ⟨_, rfl, _, rfl, _, rfl, _, rfl, _, rfl, D, _, rfl, SqL.of hD, fun y ny => ?_⟩
      have ey : cutV (refC [(a0, c0), (a1, c1), (a2, c2)]) none (some 2) = refC [(a0, c0), (a1, c1)] := rfl
      rw [ey]
      have sy := same_new ny (.lst (refC [(a0, c0), (a1, c1)]))
      refine ⟨np, y, zs, [(a0, c0), (a1, c1)], rfl, sy _ _ hnp, upd_same, fun p hp => ?_, few, Nat.le_of_ble_eq_true rfl, fun jp G3 sG3 njp hjp => ?_⟩
      · rcases List.mem_cons.mp hp with rfl | hp
        · exact ⟨sy _ _ ha0, l0.symm⟩
        · obtain rfl := List.mem_singleton.mp hp
          exact ⟨sy _ _ ha1, l1.symm⟩
      have sG3 := sy.trans sG3
      have kp := kpm kp sG3
      have mlo := mlo.mono sG3
      have mhi := mhi.mono sG3
      obtain ⟨hD, hnp, ha0, ha1, m0, m1, m2, S9⟩ := at_ kp
      refine ⟨false, hi, np, jp, RH, zs, _, rfl, mhi, hnp, SqL.of hjp, nd, few, has_join nd hc0 hc1 hhi, fun G4 sG4 => ⟨_, rfl, iteF ?_⟩⟩
      have kp := kpm kp sG4
      have mlo := mlo.mono sG4
      have mhi := mhi.mono sG4
      obtain ⟨hD, hnp, ha0, ha1, m0, m1, m2, S9⟩ := at_ kp
      have memL := and_mem hc0.1 hc1.1 hlo
      have memH := or_memT hc0.1 hhi
      have en20 := nmq hc2.1 hc0.1
      have en21 := nmq hc2.1 hc1.1
      have en2L := nmq hc2.1 memL
      have en2H := nmq hc2.1 memH
      -- at most both
      refine ⟨fun x G => x = .bl (finer R2 R0 && finer R2 R1) ∧ Same G4 G, ?_, ?_⟩
      · refine ⟨_, rfl, _, rfl, o2, o0, rfl, rfl, m2.ins, m0.ins, o2, o0, R2, R0, rfl, m2, m0, en20, fun G5 s5 => ⟨_, rfl, ?_⟩⟩
        refine ite2 (fun e => ?_) fun e => ?_
        · have kp := kpm kp s5
          obtain ⟨hD, hnp, ha0, ha1, m0, m1, m2, S9⟩ := at_ kp
          refine ⟨_, rfl, _, rfl, o2, o1, rfl, rfl, m2.ins, m1.ins, o2, o1, R2, R1, rfl, m2, m1, en21, fun G6 s6 => ⟨?_, s5.trans s6⟩⟩
          rw [e]
          rfl
        · refine ⟨?_, s5⟩
          rw [Bool.not_eq_true] at e
          rw [e]
          rfl
      rintro _ G5 ⟨rfl, s5⟩
      have kp := kpm kp s5
      have mlo := mlo.mono s5
      have mhi := mhi.mono s5
      obtain ⟨hD, hnp, ha0, ha1, m0, m1, m2, S9⟩ := at_ kp
      refine ⟨_, rfl, _, rfl, o2, lo, rfl, rfl, m2.ins, mlo.ins, o2, lo, R2, RL, rfl, m2, mlo, en2L, fun G6 s6 => ⟨rfl, ?_⟩⟩
      rw [low_le g2 g0 g1 gL hc2.1 hc0.1 hc1.1 hlo, decide_eq_true rfl]
      refine ⟨_, rfl, iteF ?_⟩
      have kp := kpm kp s6
      have mlo := mlo.mono s6
      have mhi := mhi.mono s6
      obtain ⟨hD, hnp, ha0, ha1, m0, m1, m2, S9⟩ := at_ kp
      -- at least both
      refine ⟨fun x G => x = .bl (finer R0 R2 && finer R1 R2) ∧ Same G6 G, ?_, ?_⟩
      · refine ⟨_, rfl, _, rfl, o2, o0, rfl, rfl, m2.ins, m0.ins, o2, o0, R2, R0, rfl, m2, m0, en20, fun G7 s7 => ⟨_, rfl, ?_⟩⟩
        refine ite2 (fun e => ?_) fun e => ?_
        · have kp := kpm kp s7
          obtain ⟨hD, hnp, ha0, ha1, m0, m1, m2, S9⟩ := at_ kp
          refine ⟨_, rfl, _, rfl, o2, o1, rfl, rfl, m2.ins, m1.ins, o2, o1, R2, R1, rfl, m2, m1, en21, fun G8 s8 => ⟨?_, s7.trans s8⟩⟩
          have e : finer R0 R2 = true := e
          rw [e]
          rfl
        · refine ⟨?_, s7⟩
          rw [Bool.not_eq_true] at e
          have e : finer R0 R2 = false := e
          rw [e]
          rfl
      rintro _ G7 ⟨rfl, s7⟩
      have kp := kpm kp s7
      have mlo := mlo.mono s7
      have mhi := mhi.mono s7
      obtain ⟨hD, hnp, ha0, ha1, m0, m1, m2, S9⟩ := at_ kp
      refine ⟨_, rfl, _, rfl, o2, hi, rfl, rfl, m2.ins, mhi.ins, o2, hi, R2, RH, rfl, m2, mhi, en2H, fun G8 s8 => ⟨rfl, ?_⟩⟩
      rw [high_ge g2 g0 g1 gH hc2.1 hc0.1 hc1.1 hhi, decide_eq_true rfl]
      refine ⟨_, rfl, iteF ?_⟩
      have kp := kpm kp s8
      have mlo := mlo.mono s8
      have mhi := mhi.mono s8
      obtain ⟨hD, hnp, ha0, ha1, m0, m1, m2, S9⟩ := at_ kp
      -- four that are m
      refine ⟨_, rfl, _, rfl, o0, o0, rfl, rfl, m0.ins, m0.ins, o0, o0, R0, R0, rfl, m0, m0, rfl, ln0 hc0.1, fun p1 T1 G9 s9 n1 mp1 hp1 => ?_⟩
      have kp := kpm kp s9
      have mlo := mlo.mono s9
      have mhi := mhi.mono s9
      have e1 := same_and mp1.good g0 hp1
      rw [e1] at mp1
      obtain ⟨hD, hnp, ha0, ha1, m0, m1, m2, S9⟩ := at_ kp
      refine ⟨_, rfl, _, rfl, o0, o0, rfl, rfl, m0.ins, m0.ins, o0, o0, R0, R0, rfl, m0, m0, rfl, ln0 hc0.1, fun p2 T2 G10 s10 n2 mp2 hp2 => ?_⟩
      have kp := kpm kp s10
      have mlo := mlo.mono s10
      have mhi := mhi.mono s10
      have mp1 := mp1.mono s10
      have e2 := same_or mp2.good g0 hp2
      rw [e2] at mp2
      obtain ⟨hD, hnp, ha0, ha1, m0, m1, m2, S9⟩ := at_ kp
      refine ⟨_, rfl, _, rfl, _, rfl, o0, o1, rfl, rfl, m0.ins, m1.ins, o0, o1, R0, R1, rfl, m0, m1, en01, ln0 hc0.1, fun u1 U1 G11 s11 nu1 mu1 hu1 => ?_⟩
      have kp := kpm kp s11
      have mlo := mlo.mono s11
      have mhi := mhi.mono s11
      have mp1 := mp1.mono s11
      have mp2 := mp2.mono s11
      have memU1 := or_memT hc0.1 hu1
      obtain ⟨hD, hnp, ha0, ha1, m0, m1, m2, S9⟩ := at_ kp
      refine ⟨o0, u1, rfl, rfl, m0.ins, mu1.ins, o0, u1, R0, U1, rfl, m0, mu1, nmq hc0.1 memU1, ln0 hc0.1, fun p3 T3 G12 s12 n3 mp3 hp3 => ?_⟩
      have kp := kpm kp s12
      have mlo := mlo.mono s12
      have mhi := mhi.mono s12
      have mp1 := mp1.mono s12
      have mp2 := mp2.mono s12
      have e3 := and_or mp3.good g0 hu1 hp3
      rw [e3] at mp3
      obtain ⟨hD, hnp, ha0, ha1, m0, m1, m2, S9⟩ := at_ kp
      refine ⟨_, rfl, _, rfl, _, rfl, o0, o1, rfl, rfl, m0.ins, m1.ins, o0, o1, R0, R1, rfl, m0, m1, en01, ln0 hc0.1, fun u2 U2 G13 s13 nu2 mu2 hu2 => ?_⟩
      have kp := kpm kp s13
      have mlo := mlo.mono s13
      have mhi := mhi.mono s13
      have mp1 := mp1.mono s13
      have mp2 := mp2.mono s13
      have mp3 := mp3.mono s13
      have memU2 := and_mem hc0.1 hc1.1 hu2
      obtain ⟨hD, hnp, ha0, ha1, m0, m1, m2, S9⟩ := at_ kp
      refine ⟨o0, u2, rfl, rfl, m0.ins, mu2.ins, o0, u2, R0, U2, rfl, m0, mu2, nmq hc0.1 memU2, ln0 hc0.1, fun p4 T4 G14 s14 n4 mp4 hp4 => ?_⟩
      have kp := kpm kp s14
      have mlo := mlo.mono s14
      have mhi := mhi.mono s14
      have mp1 := mp1.mono s14
      have mp2 := mp2.mono s14
      have mp3 := mp3.mono s14
      have e4 := or_and mp4.good g0 hu2 hp4
      rw [e4] at mp4
      refine ⟨sz (Nat.le_of_ble_eq_true rfl), fun so nso => ?_⟩
      have sso := same_new nso (.lst [.ref p1, .ref p2, .ref p3, .ref p4])
      have hso := @upd_same G14 so (.lst [.ref p1, .ref p2, .ref p3, .ref p4])
      generalize upd G14 so (.lst [.ref p1, .ref p2, .ref p3, .ref p4]) = G15 at sso hso ⊢
      have kp := kpm kp sso
      have mlo := mlo.mono sso
      have mhi := mhi.mono sso
      have four : ∀ {w : Nat} {x : V}, [V.ref p1, V.ref p2, V.ref p3, V.ref p4][w]? = some x → ∃ o, x = .ref o ∧ MeetAt C G15 o R0 := fun {w x} h => by
        have h := List.mem_of_getElem? h
        simp only [List.mem_cons, List.not_mem_nil, or_false] at h
        rcases h with rfl | rfl | rfl | rfl
        · exact ⟨_, rfl, mp1.mono sso⟩
        · exact ⟨_, rfl, mp2.mono sso⟩
        · exact ⟨_, rfl, mp3.mono sso⟩
        · exact ⟨_, rfl, mp4.mono sso⟩
      clear mp1 mp2 mp3 mp4 mu1 mu2
      obtain ⟨hD, hnp, ha0, ha1, m0, m1, m2, S9⟩ := at_ kp
      refine ⟨_, rfl, so, rfl, ⟨_, SqL.of hso⟩, fun X nX => ?_⟩
      refine lc_list (xs := [.ref p1, .ref p2, .ref p3, .ref p4]) (fun q H12 => H12 X = some (.lst ((List.replicate q true).map V.bl)) ∧ Same G15 H12) ⟨upd_same, same_new nX _⟩ (fun q H12 _ z => SqL.of (z.2 _ _ hso)) ?_ ?_
      · rintro q x H12 hx ⟨h12, s12'⟩
        have lq : q < 4 := (List.getElem?_eq_some_iff.mp hx).1
        obtain ⟨o, rfl, mo⟩ := four hx
        refine ⟨rfl, _, rfl, _, rfl, o, o0, rfl, rfl, (mo.mono s12').ins, (m0.mono s12').ins, o, o0, R0, R0, rfl, mo.mono s12', m0.mono s12', fun H13 s13' => ?_⟩
        refine ⟨_, s13' _ _ h12, small1000 (by rw [List.length_map, List.length_replicate]; omega), ?_, fun b z hb => ?_⟩
        · rw [upd_same, decide_eq_true rfl, List.replicate_succ', List.map_append]
          rfl
        · rw [upd_ne (ne_of_none hb nX)]
          exact s13' _ _ (s12' _ _ hb)
      rintro G16 ⟨hX, s16⟩
      refine ⟨X, List.replicate 4 true, rfl, SqL.of hX, _, rfl, iteF ?_⟩
      have kp := kpm kp s16
      have mlo := mlo.mono s16
      have mhi := mhi.mono s16
      obtain ⟨hD, hnp, ha0, ha1, m0, m1, m2, S9⟩ := at_ kp
      have en10 := en01.symm
      refine ⟨_, rfl, _, rfl, o1, o0, rfl, rfl, m1.ins, m0.ins, o1, o0, R1, R0, rfl, m1, m0, en10, ln0 hc1.1, fun u1 U1 G17 s17 nu1 mu1 hu1 => ?_⟩
      have kp := kpm kp s17
      have mlo := mlo.mono s17
      have mhi := mhi.mono s17
      have e5 := and_swap mu1.good gL hlo hu1
      rw [e5] at mu1
      refine ⟨_, rfl, u1, lo, rfl, rfl, mu1.ins, mlo.ins, u1, lo, RL, RL, rfl, mu1, mlo, fun G18 s18 => ⟨_, rfl, _, rfl, ?_⟩⟩
      rw [decide_eq_true rfl]
      refine iteF ?_
      have kp := kpm kp s18
      have mhi := mhi.mono s18
      obtain ⟨hD, hnp, ha0, ha1, m0, m1, m2, S9⟩ := at_ kp
      refine ⟨_, rfl, _, rfl, o1, o0, rfl, rfl, m1.ins, m0.ins, o1, o0, R1, R0, rfl, m1, m0, en10, ln0 hc1.1, fun u2 U2 G19 s19 nu2 mu2 hu2 => ?_⟩
      have kp := kpm kp s19
      have mhi := mhi.mono s19
      have e6 := or_swap mu2.good gH (fun x => (hc0.1 x).trans (hc1.1 x).symm) hhi hu2
      rw [e6] at mu2
      refine ⟨_, rfl, u2, hi, rfl, rfl, mu2.ins, mhi.ins, u2, hi, RH, RH, rfl, mu2, mhi, fun G20 s20 => ⟨_, rfl, _, rfl, ?_⟩⟩
      rw [decide_eq_true rfl]
      refine iteF ?_
      have kp := kpm kp s20
      obtain ⟨hD, hnp, ha0, ha1, m0, m1, m2, S9⟩ := at_ kp
      -- m and n are what they were
      refine ⟨_, rfl, _, rfl, _, rfl, D, _, 0, .ref a0, rfl, rfl, SqL.of hD, rfl, true, o0, np, a0, R0, zs, c0, rfl, m0, hnp, SqT.of ha0, nd, few, hc0, fun G21 s21 => ⟨_, rfl, iteF ?_⟩⟩
      have kp := kpm kp s21
      obtain ⟨hD, hnp, ha0, ha1, m0, m1, m2, S9⟩ := at_ kp
      refine ⟨_, rfl, _, rfl, _, rfl, D, _, 0 + 1, .ref a1, rfl, rfl, SqL.of hD, rfl, true, o1, np, a1, R1, zs, c1, rfl, m1, hnp, SqT.of ha1, nd, few, hc1, fun G22 s22 => ⟨_, rfl, iteF ?_⟩⟩
      have kp := kpm kp s22
      obtain ⟨hD, hnp, ha0, ha1, m0, m1, m2, S9⟩ := at_ kp
      exact ⟨⟨_, _, _, _, _, _, _, _, _, _, _, rfl⟩, S9.up (by omega)⟩
    · rintro σ H2 ⟨⟨v2, v3, v4, v5, v7, v8, v9, v12, v13, v14, v15, rfl⟩, S2⟩
      exact k H2
end
end K1
set_option linter.all false
set_option maxRecDepth 100000
set_option maxHeartbeats 8000000
namespace K1
open PySem L2
/-! what the top has written -/
def fas : List He.Fa := [.glo "is_name", .glo "is_list", .glo "are_names", .glo "ascending_blocks", .glo "is_block", .glo "grouped", .glo "united", .glo "_law_fresh", .glo "_law_take", .glo "_law_mix", .glo "_law_same", .glo "_law_names", .glo "_law_blocks", .glo "_law_rising", .glo "_law_joined", .glo "_law_as", .glo "law", .glo "Meeting", .free "isinstance", .free "list", .free "tuple", .free "len", .free "all", .free "any", .free "zip", .free "int", .free "bool", .free "abs", .free "range", .free "enumerate", .free "set", .free "sorted", .free "str", .free "min", .keep "is_name", .keep "is_list", .keep "are_names", .keep "ascending_blocks", .keep "is_block", .keep "grouped", .keep "united", .keep "_law_fresh", .keep "_law_take", .keep "_law_mix", .keep "_law_same", .keep "_law_names", .keep "_law_blocks", .keep "_law_rising", .keep "_law_joined", .keep "_law_as", .keep "law", .cls "Meeting", .mkr "Meeting", .noat "Meeting" "blocks", .noat "Meeting" "_numbers", .noat "Meeting" "names", .noat "Meeting" "code", .meth "Meeting" "__init__", .meth "Meeting" "one", .meth "Meeting" "__eq__", .meth "Meeting" "__and__", .meth "Meeting" "__or__", .meth "Meeting" "__le__", .meth "Meeting" "__lt__", .meth "Meeting" "__ge__", .meth "Meeting" "__gt__", .meth "Meeting" "_check_names", .meth "Meeting" "_parts_finer", .str "LETTERS" "abcdefghijklmnopqrstuvwxyz", .int "LONGEST_NAME" 8]
def fns : List He.FnD := [⟨("is_name", none), "is_name", "is_name", defArgs pIsName, defBody pIsName, defScope pIsName⟩, ⟨("is_list", none), "is_list", "is_list", defArgs pIsList, defBody pIsList, defScope pIsList⟩, ⟨("are_names", none), "are_names", "are_names", defArgs pAreNames, defBody pAreNames, defScope pAreNames⟩, ⟨("ascending_blocks", none), "ascending_blocks", "ascending_blocks", defArgs pAscendingBlocks, defBody pAscendingBlocks, defScope pAscendingBlocks⟩, ⟨("is_block", none), "is_block", "is_block", defArgs pIsBlock, defBody pIsBlock, defScope pIsBlock⟩, ⟨("grouped", none), "grouped", "grouped", defArgs pGrouped, defBody pGrouped, defScope pGrouped⟩, ⟨("united", none), "united", "united", defArgs pUnited, defBody pUnited, defScope pUnited⟩, ⟨("_law_fresh", none), "_law_fresh", "_law_fresh", defArgs sFresh, defBody sFresh, defScope sFresh⟩, ⟨("_law_take", none), "_law_take", "_law_take", defArgs sTake, defBody sTake, defScope sTake⟩, ⟨("_law_mix", none), "_law_mix", "_law_mix", defArgs sMix, defBody sMix, defScope sMix⟩, ⟨("_law_same", none), "_law_same", "_law_same", defArgs sSame, defBody sSame, defScope sSame⟩, ⟨("_law_names", none), "_law_names", "_law_names", defArgs sNames, defBody sNames, defScope sNames⟩, ⟨("_law_blocks", none), "_law_blocks", "_law_blocks", defArgs sBlocks, defBody sBlocks, defScope sBlocks⟩, ⟨("_law_rising", none), "_law_rising", "_law_rising", defArgs sRising, defBody sRising, defScope sRising⟩, ⟨("_law_joined", none), "_law_joined", "_law_joined", defArgs sJoined, defBody sJoined, defScope sJoined⟩, ⟨("_law_as", none), "_law_as", "_law_as", defArgs sAs, defBody sAs, defScope sAs⟩, ⟨("law", none), "law", "law", defArgs sLaw, defBody sLaw, defScope sLaw⟩, ⟨("Meeting", some "__init__"), "__init__", "Meeting.__init__", defArgs cMeetingInit, defBody cMeetingInit, defScope cMeetingInit⟩, ⟨("Meeting", some "one"), "one", "Meeting.one", defArgs cMeetingOne, defBody cMeetingOne, defScope cMeetingOne⟩, ⟨("Meeting", some "__eq__"), "__eq__", "Meeting.__eq__", defArgs cMeetingEq, defBody cMeetingEq, defScope cMeetingEq⟩, ⟨("Meeting", some "__and__"), "__and__", "Meeting.__and__", defArgs cMeetingAnd, defBody cMeetingAnd, defScope cMeetingAnd⟩, ⟨("Meeting", some "__or__"), "__or__", "Meeting.__or__", defArgs cMeetingOr, defBody cMeetingOr, defScope cMeetingOr⟩, ⟨("Meeting", some "__le__"), "__le__", "Meeting.__le__", defArgs cMeetingLe, defBody cMeetingLe, defScope cMeetingLe⟩, ⟨("Meeting", some "__lt__"), "__lt__", "Meeting.__lt__", defArgs cMeetingLt, defBody cMeetingLt, defScope cMeetingLt⟩, ⟨("Meeting", some "__ge__"), "__ge__", "Meeting.__ge__", defArgs cMeetingGe, defBody cMeetingGe, defScope cMeetingGe⟩, ⟨("Meeting", some "__gt__"), "__gt__", "Meeting.__gt__", defArgs cMeetingGt, defBody cMeetingGt, defScope cMeetingGt⟩, ⟨("Meeting", some "_check_names"), "_check_names", "Meeting._check_names", defArgs cMeetingCheckNames, defBody cMeetingCheckNames, defScope cMeetingCheckNames⟩, ⟨("Meeting", some "_parts_finer"), "_parts_finer", "Meeting._parts_finer", defArgs cMeetingPartsFiner, defBody cMeetingPartsFiner, defScope cMeetingPartsFiner⟩]
abbrev MC (K : PySem.W.Frag) : Addr := He.ga K "Meeting"
def exB0 (K : PySem.W.Frag) : Bool := decide (PySem.W.findIn K (.ref (MC K)) "__class__" = some (some (.builtin "object.__class__"))) && (decide (PySem.W.specialIn K (.builtin "object.__class__") "__get__" = some (some (.builtin "getset_descriptor.__get__"))) &&
  (decide (PySem.W.takesIn K (.builtin "object.__class__") = some true) && (decide (PySem.W.mroIn K (MC K) (.type "object") = some true) && (decide (PySem.W.kitOne K (.ref (MC K)) (.ref (MC K)) = some true) && (PySem.W.selfFirst K (MC K) && (PySem.W.notFirst K (MC K) (.ref (MC K)) && neB K (MC K) (He.ma K (MC K) "__eq__")))))))
def exB (K : PySem.W.Frag) : Bool := exB0 K
section
variable {P : Program} {w : World} {K : PySem.W.Frag} {mg : Str → Option Value} {h : Heap}
theorem meet_of (X : K.In h) (G : h.Ns mainGlobals mg) (c : He.SaysE fas fns K) (e : exB0 K = true) : MeetC K mg (MC K) ∧ NeC K (MC K) (He.ma K (MC K) "__eq__") := by
  obtain ⟨e1, e⟩ := He.ba e
  obtain ⟨e2, e⟩ := He.ba e
  obtain ⟨e3, e⟩ := He.ba e
  obtain ⟨e4, e⟩ := He.ba e
  obtain ⟨e5, e⟩ := He.ba e
  obtain ⟨e6, e⟩ := He.ba e
  obtain ⟨e7, e8⟩ := He.ba e
  have cl := He.cls_ok (c.fact 51 rfl)
  exact ⟨⟨(He.glo_ok X G (c.fact 17 rfl)), cl, (He.noat_ok (c.fact 53 rfl)), (He.noat_ok (c.fact 54 rfl)), (He.noat_ok (c.fact 55 rfl)), (He.noat_ok (c.fact 56 rfl)), ⟨cl, of_decide_eq_true e1, of_decide_eq_true e2, of_decide_eq_true e3, of_decide_eq_true e4, of_decide_eq_true e5⟩, e6, e7⟩, neB_ok e8⟩
theorem facts {fa : Addr} (X : K.In h) (G : h.Ns mainGlobals mg) (hfa : mg ("law" : Str) = some (.ref fa)) (c : He.SaysE fas fns K) (e : exB K = true) :
    ∃ fd : FuncData, (∀ (s : Shared) (v : Value), BindsTo s fd ⟨[v], []⟩ [("_law_script", v)]) ∧ ∀ base : Heap, K.In base → base.Ns mainGlobals mg → FnOk P w K mg base CX0 10 fa fd ["_law_script"] (spLaw K) := by
  obtain ⟨oc0, od0, osl0, kV0, doc0, pm0, an0, cdv0, ct0, lk0, cd0⟩ := c.def_ 0 rfl
  have F0 := fun_mk (st := pIsName) lk0 cd0 (He.keep_ok (c.fact 34 rfl))
  have b0 := F0.binds (ps := ["thing"]) fun _ _ _ _ _ _ us hl => match us, hl with | [_], _ => rfl
  obtain ⟨oc1, od1, osl1, kV1, doc1, pm1, an1, cdv1, ct1, lk1, cd1⟩ := c.def_ 1 rfl
  have F1 := fun_mk (st := pIsList) lk1 cd1 (He.keep_ok (c.fact 35 rfl))
  have b1 := F1.binds (ps := ["thing"]) fun _ _ _ _ _ _ us hl => match us, hl with | [_], _ => rfl
  obtain ⟨oc2, od2, osl2, kV2, doc2, pm2, an2, cdv2, ct2, lk2, cd2⟩ := c.def_ 2 rfl
  have F2 := fun_mk (st := pAreNames) lk2 cd2 (He.keep_ok (c.fact 36 rfl))
  have b2 := F2.binds (ps := ["thing"]) fun _ _ _ _ _ _ us hl => match us, hl with | [_], _ => rfl
  obtain ⟨oc3, od3, osl3, kV3, doc3, pm3, an3, cdv3, ct3, lk3, cd3⟩ := c.def_ 3 rfl
  have F3 := fun_mk (st := pAscendingBlocks) lk3 cd3 (He.keep_ok (c.fact 37 rfl))
  have b3 := F3.binds (ps := ["things"]) fun _ _ _ _ _ _ us hl => match us, hl with | [_], _ => rfl
  obtain ⟨oc4, od4, osl4, kV4, doc4, pm4, an4, cdv4, ct4, lk4, cd4⟩ := c.def_ 4 rfl
  have F4 := fun_mk (st := pIsBlock) lk4 cd4 (He.keep_ok (c.fact 38 rfl))
  have b4 := F4.binds (ps := ["thing", "taken"]) fun _ _ _ _ _ _ us hl => match us, hl with | [_, _], _ => rfl
  obtain ⟨oc5, od5, osl5, kV5, doc5, pm5, an5, cdv5, ct5, lk5, cd5⟩ := c.def_ 5 rfl
  have F5 := fun_mk (st := pGrouped) lk5 cd5 (He.keep_ok (c.fact 39 rfl))
  have b5 := F5.binds (ps := ["names", "marks"]) fun _ _ _ _ _ _ us hl => match us, hl with | [_, _], _ => rfl
  obtain ⟨oc6, od6, osl6, kV6, doc6, pm6, an6, cdv6, ct6, lk6, cd6⟩ := c.def_ 6 rfl
  have F6 := fun_mk (st := pUnited) lk6 cd6 (He.keep_ok (c.fact 40 rfl))
  have b6 := F6.binds (ps := ["names", "marks", "block"]) fun _ _ _ _ _ _ us hl => match us, hl with | [_, _, _], _ => rfl
  obtain ⟨oc7, od7, osl7, kV7, doc7, pm7, an7, cdv7, ct7, lk7, cd7⟩ := c.def_ 7 rfl
  have F7 := fun_mk (st := sFresh) lk7 cd7 (He.keep_ok (c.fact 41 rfl))
  have b7 := F7.binds (ps := ["_law_script"]) fun _ _ _ _ _ _ us hl => match us, hl with | [_], _ => rfl
  obtain ⟨oc8, od8, osl8, kV8, doc8, pm8, an8, cdv8, ct8, lk8, cd8⟩ := c.def_ 8 rfl
  have F8 := fun_mk (st := sTake) lk8 cd8 (He.keep_ok (c.fact 42 rfl))
  have b8 := F8.binds (ps := ["_law_state", "_law_many"]) fun _ _ _ _ _ _ us hl => match us, hl with | [_, _], _ => rfl
  obtain ⟨oc9, od9, osl9, kV9, doc9, pm9, an9, cdv9, ct9, lk9, cd9⟩ := c.def_ 9 rfl
  have F9 := fun_mk (st := sMix) lk9 cd9 (He.keep_ok (c.fact 43 rfl))
  have b9 := F9.binds (ps := ["_law_state", "_law_things"]) fun _ _ _ _ _ _ us hl => match us, hl with | [_, _], _ => rfl
  obtain ⟨oc10, od10, osl10, kV10, doc10, pm10, an10, cdv10, ct10, lk10, cd10⟩ := c.def_ 10 rfl
  have F10 := fun_mk (st := sSame) lk10 cd10 (He.keep_ok (c.fact 44 rfl))
  have b10 := F10.binds (ps := ["_law_found", "_law_due"]) fun _ _ _ _ _ _ us hl => match us, hl with | [_, _], _ => rfl
  obtain ⟨oc11, od11, osl11, kV11, doc11, pm11, an11, cdv11, ct11, lk11, cd11⟩ := c.def_ 11 rfl
  have F11 := fun_mk (st := sNames) lk11 cd11 (He.keep_ok (c.fact 45 rfl))
  have b11 := F11.binds (ps := ["_law_state", "_law_many"]) fun _ _ _ _ _ _ us hl => match us, hl with | [_, _], _ => rfl
  obtain ⟨oc12, od12, osl12, kV12, doc12, pm12, an12, cdv12, ct12, lk12, cd12⟩ := c.def_ 12 rfl
  have F12 := fun_mk (st := sBlocks) lk12 cd12 (He.keep_ok (c.fact 46 rfl))
  have b12 := F12.binds (ps := ["_law_names_here", "_law_code"]) fun _ _ _ _ _ _ us hl => match us, hl with | [_, _], _ => rfl
  obtain ⟨oc13, od13, osl13, kV13, doc13, pm13, an13, cdv13, ct13, lk13, cd13⟩ := c.def_ 13 rfl
  have F13 := fun_mk (st := sRising) lk13 cd13 (He.keep_ok (c.fact 47 rfl))
  have b13 := F13.binds (ps := ["_law_things"]) fun _ _ _ _ _ _ us hl => match us, hl with | [_], _ => rfl
  obtain ⟨oc14, od14, osl14, kV14, doc14, pm14, an14, cdv14, ct14, lk14, cd14⟩ := c.def_ 14 rfl
  have F14 := fun_mk (st := sJoined) lk14 cd14 (He.keep_ok (c.fact 48 rfl))
  have b14 := F14.binds (ps := ["_law_names_here", "_law_codes"]) fun _ _ _ _ _ _ us hl => match us, hl with | [_, _], _ => rfl
  obtain ⟨oc15, od15, osl15, kV15, doc15, pm15, an15, cdv15, ct15, lk15, cd15⟩ := c.def_ 15 rfl
  have F15 := fun_mk (st := sAs) lk15 cd15 (He.keep_ok (c.fact 49 rfl))
  have b15 := F15.binds (ps := ["_law_meeting", "_law_names_here", "_law_code"]) fun _ _ _ _ _ _ us hl => match us, hl with | [_, _, _], _ => rfl
  obtain ⟨oc16, od16, osl16, kV16, doc16, pm16, an16, cdv16, ct16, lk16, cd16⟩ := c.def_ 16 rfl
  have F16 := fun_mk (st := sLaw) lk16 cd16 (He.keep_ok (c.fact 50 rfl))
  have b16 := F16.binds (ps := ["_law_script"]) fun _ _ _ _ _ _ us hl => match us, hl with | [_], _ => rfl
  obtain ⟨oc17, od17, osl17, kV17, doc17, pm17, an17, cdv17, ct17, lk17, cd17⟩ := c.def_ 17 rfl
  have F17 := fun_mk (st := cMeetingInit) lk17 cd17 (He.meth_ok (c.fact 57 rfl)).kp
  have b17 := F17.binds (ps := ["self", "blocks"]) fun _ _ _ _ _ _ us hl => match us, hl with | [_, _], _ => rfl
  obtain ⟨oc18, od18, osl18, kV18, doc18, pm18, an18, cdv18, ct18, lk18, cd18⟩ := c.def_ 18 rfl
  have F18 := fun_mk (st := cMeetingOne) lk18 cd18 (He.meth_ok (c.fact 58 rfl)).kp
  have b18 := F18.binds (ps := ["self", "name", "other"]) fun _ _ _ _ _ _ us hl => match us, hl with | [_, _, _], _ => rfl
  obtain ⟨oc19, od19, osl19, kV19, doc19, pm19, an19, cdv19, ct19, lk19, cd19⟩ := c.def_ 19 rfl
  have F19 := fun_mk (st := cMeetingEq) lk19 cd19 (He.meth_ok (c.fact 59 rfl)).kp
  have b19 := F19.binds (ps := ["self", "other"]) fun _ _ _ _ _ _ us hl => match us, hl with | [_, _], _ => rfl
  obtain ⟨oc20, od20, osl20, kV20, doc20, pm20, an20, cdv20, ct20, lk20, cd20⟩ := c.def_ 20 rfl
  have F20 := fun_mk (st := cMeetingAnd) lk20 cd20 (He.meth_ok (c.fact 60 rfl)).kp
  have b20 := F20.binds (ps := ["self", "other"]) fun _ _ _ _ _ _ us hl => match us, hl with | [_, _], _ => rfl
  obtain ⟨oc21, od21, osl21, kV21, doc21, pm21, an21, cdv21, ct21, lk21, cd21⟩ := c.def_ 21 rfl
  have F21 := fun_mk (st := cMeetingOr) lk21 cd21 (He.meth_ok (c.fact 61 rfl)).kp
  have b21 := F21.binds (ps := ["self", "other"]) fun _ _ _ _ _ _ us hl => match us, hl with | [_, _], _ => rfl
  obtain ⟨oc22, od22, osl22, kV22, doc22, pm22, an22, cdv22, ct22, lk22, cd22⟩ := c.def_ 22 rfl
  have F22 := fun_mk (st := cMeetingLe) lk22 cd22 (He.meth_ok (c.fact 62 rfl)).kp
  have b22 := F22.binds (ps := ["self", "other"]) fun _ _ _ _ _ _ us hl => match us, hl with | [_, _], _ => rfl
  obtain ⟨oc23, od23, osl23, kV23, doc23, pm23, an23, cdv23, ct23, lk23, cd23⟩ := c.def_ 23 rfl
  have F23 := fun_mk (st := cMeetingLt) lk23 cd23 (He.meth_ok (c.fact 63 rfl)).kp
  have b23 := F23.binds (ps := ["self", "other"]) fun _ _ _ _ _ _ us hl => match us, hl with | [_, _], _ => rfl
  obtain ⟨oc24, od24, osl24, kV24, doc24, pm24, an24, cdv24, ct24, lk24, cd24⟩ := c.def_ 24 rfl
  have F24 := fun_mk (st := cMeetingGe) lk24 cd24 (He.meth_ok (c.fact 64 rfl)).kp
  have b24 := F24.binds (ps := ["self", "other"]) fun _ _ _ _ _ _ us hl => match us, hl with | [_, _], _ => rfl
  obtain ⟨oc25, od25, osl25, kV25, doc25, pm25, an25, cdv25, ct25, lk25, cd25⟩ := c.def_ 25 rfl
  have F25 := fun_mk (st := cMeetingGt) lk25 cd25 (He.meth_ok (c.fact 65 rfl)).kp
  have b25 := F25.binds (ps := ["self", "other"]) fun _ _ _ _ _ _ us hl => match us, hl with | [_, _], _ => rfl
  obtain ⟨oc26, od26, osl26, kV26, doc26, pm26, an26, cdv26, ct26, lk26, cd26⟩ := c.def_ 26 rfl
  have F26 := fun_mk (st := cMeetingCheckNames) lk26 cd26 (He.meth_ok (c.fact 66 rfl)).kp
  have b26 := F26.binds (ps := ["self", "other"]) fun _ _ _ _ _ _ us hl => match us, hl with | [_, _], _ => rfl
  obtain ⟨oc27, od27, osl27, kV27, doc27, pm27, an27, cdv27, ct27, lk27, cd27⟩ := c.def_ 27 rfl
  have F27 := fun_mk (st := cMeetingPartsFiner) lk27 cd27 (He.meth_ok (c.fact 67 rfl)).kp
  have b27 := F27.binds (ps := ["self", "other"]) fun _ _ _ _ _ _ us hl => match us, hl with | [_, _], _ => rfl
  have z := hfa.symm.trans (He.glo_ok X G (c.fact 16 rfl))
  cases z
  refine ⟨PySem.W.fnOf "law" "law" (defArgs sLaw) (defBody sLaw) (defScope sLaw) .none kV16 doc16 pm16 an16 cdv16 ct16, fun s v => .of_eq rfl, fun base _ _ => ?_⟩
  obtain ⟨mc, ne⟩ := meet_of X G c e
  have tt : TxtT mg := ⟨(He.free_ok X G (c.fact 21 rfl)), (He.free_ok X G (c.fact 27 rfl)), (He.free_ok X G (c.fact 25 rfl))⟩
  have tb : TxtB mg := ⟨(He.free_ok X G (c.fact 21 rfl)), (He.free_ok X G (c.fact 30 rfl)), (He.free_ok X G (c.fact 22 rfl)), (He.free_ok X G (c.fact 31 rfl)), (He.free_ok X G (c.fact 20 rfl)), (He.free_ok X G (c.fact 29 rfl))⟩
  obtain ⟨uL, hL⟩ := (He.str_ok X G (c.fact 68 rfl))
  obtain ⟨uN, hN⟩ := (He.int_ok X G (c.fact 69 rfl))
  have gIL := ok_isList (P := P) (w := w) (base := base) F1 (He.free_ok X G (c.fact 19 rfl)) (He.free_ok X G (c.fact 20 rfl)) (He.free_ok X G (c.fact 18 rfl))
  have gIN := ok_isName (P := P) (w := w) (base := base) F0 (He.free_ok X G (c.fact 32 rfl)) (He.free_ok X G (c.fact 21 rfl)) (He.free_ok X G (c.fact 22 rfl)) (He.free_ok X G (c.fact 18 rfl)) ⟨_, hL, ⟨_, rfl⟩⟩ ⟨_, hN, ⟨_, rfl⟩⟩
  have gAN := ok_areNames F2 gIL (He.glo_ok X G (c.fact 1 rfl)) F1.kp b1 gIN (He.glo_ok X G (c.fact 0 rfl)) F0.kp b0 (He.free_ok X G (c.fact 22 rfl))
  have gIB := ok_isBlock F4 gAN (He.glo_ok X G (c.fact 2 rfl)) F2.kp b2 tb
  have gAB := ok_ascB F3 gIL (He.glo_ok X G (c.fact 1 rfl)) F1.kp b1 gIB (He.glo_ok X G (c.fact 4 rfl)) F4.kp b4 tb
  have gIn := ok_minit F17 mc gAB (He.glo_ok X G (c.fact 3 rfl)) F3.kp b3 ⟨(He.free_ok X G (c.fact 30 rfl)), (He.free_ok X G (c.fact 31 rfl)), (He.free_ok X G (c.fact 20 rfl)), (He.free_ok X G (c.fact 29 rfl))⟩
  have gTk := ok_take (P := P) (w := w) (base := base) F8 tt
  have gFr := ok_fresh (P := P) (w := w) (base := base) F7 (He.free_ok X G (c.fact 19 rfl))
  have gMx := ok_mix (P := P) (w := w) (base := base) F9 F8 tt (He.free_ok X G (c.fact 19 rfl)) (He.glo_ok X G (c.fact 8 rfl)) b8
  have ts : TxtS mg := ⟨(He.free_ok X G (c.fact 18 rfl)), (He.free_ok X G (c.fact 19 rfl)), (He.free_ok X G (c.fact 20 rfl)), (He.free_ok X G (c.fact 21 rfl)), (He.free_ok X G (c.fact 22 rfl)), (He.free_ok X G (c.fact 24 rfl)), (He.free_ok X G (c.fact 25 rfl)), (He.free_ok X G (c.fact 26 rfl))⟩
  have gSm := same_all (P := P) (w := w) (base := base) F10 ts b10 (He.glo_ok X G (c.fact 10 rfl))
  have gOn := ok_one_ (P := P) (w := w) (base := base) F18 mc ⟨(He.free_ok X G (c.fact 18 rfl)), (He.free_ok X G (c.fact 32 rfl)), (He.free_ok X G (c.fact 21 rfl)), (He.free_ok X G (c.fact 22 rfl))⟩
  have gCk := ok_check (P := P) (w := w) (base := base) F26 mc
  have gFi := ok_finer F27 mc (He.meth_ok (c.fact 66 rfl)) gCk b26 (He.meth_ok (c.fact 58 rfl)) gOn b18 (He.free_ok X G (c.fact 22 rfl))
  have T : MeetF P w K mg base (MC K) := ⟨mc, (He.free_ok X G (c.fact 18 rfl)), ⟨_, _, (He.meth_ok (c.fact 67 rfl)), b27, gFi⟩⟩
  have gEq := ok_meq (P := P) (w := w) (base := base) F19 mc (He.free_ok X G (c.fact 18 rfl))
  have CM : CmpM P w K mg base (MC K) := ⟨mc, ⟨_, _, (He.meth_ok (c.fact 62 rfl)), b22, ok_mLe F22 T⟩, ⟨_, _, (He.meth_ok (c.fact 63 rfl)), b23, ok_mLt F23 T⟩, ⟨_, _, (He.meth_ok (c.fact 64 rfl)), b24, ok_mGe F24 T⟩, ⟨_, _, (He.meth_ok (c.fact 65 rfl)), b25, ok_mGt F25 T⟩, ⟨_, _, (He.meth_ok (c.fact 59 rfl)), ne, b19, gEq⟩⟩
  have gNm := ok_names F11 gMx (He.glo_ok X G (c.fact 9 rfl)) F9.kp b9
  have gBl := ok_blocks (P := P) (w := w) (base := base) F12 ⟨(He.free_ok X G (c.fact 21 rfl)), (He.free_ok X G (c.fact 30 rfl)), (He.free_ok X G (c.fact 28 rfl)), (He.free_ok X G (c.fact 24 rfl))⟩
  have LN : LawN P w K mg base (MC K) := ⟨(He.free_ok X G (c.fact 28 rfl)), (He.free_ok X G (c.fact 21 rfl)), (He.free_ok X G (c.fact 30 rfl)), (He.free_ok X G (c.fact 22 rfl)), (He.free_ok X G (c.fact 29 rfl)), (He.free_ok X G (c.fact 20 rfl)), ⟨_, _, (He.glo_ok X G (c.fact 8 rfl)), F8.kp, b8, gTk⟩, ⟨_, _, (He.glo_ok X G (c.fact 7 rfl)), F7.kp, b7, gFr⟩, ⟨_, _, (He.glo_ok X G (c.fact 11 rfl)), F11.kp, b11, gNm⟩, ⟨_, _, (He.glo_ok X G (c.fact 12 rfl)), F12.kp, b12, gBl⟩, ⟨_, _, (He.mkr_ok (c.fact 52 rfl)), b17, gIn⟩⟩
  have LS : LawS P w K mg base (MC K) := ⟨LN, ⟨_, _, (He.glo_ok X G (c.fact 10 rfl)), F10.kp, b10, gSm 5⟩⟩
  have gGI := ok_grpI (P := P) (w := w) (base := base) F5 (He.free_ok X G (c.fact 24 rfl)) (He.free_ok X G (c.fact 19 rfl))
  have gGT := ok_grpT (P := P) (w := w) (base := base) F5 (He.free_ok X G (c.fact 24 rfl)) (He.free_ok X G (c.fact 19 rfl))
  have gUn := ok_united (P := P) (w := w) (base := base) F6 (He.free_ok X G (c.fact 24 rfl))
  have MF : MadeF P w K mg base (MC K) := ⟨mc, (He.free_ok X G (c.fact 18 rfl)), (He.free_ok X G (c.fact 19 rfl)), (He.free_ok X G (c.fact 24 rfl)), ⟨_, _, (He.meth_ok (c.fact 66 rfl)), b26, gCk⟩, ⟨_, _, (He.mkr_ok (c.fact 52 rfl)), b17, gIn⟩, ⟨_, _, (He.glo_ok X G (c.fact 5 rfl)), F5.kp, b5, gGT, gGI⟩, ⟨_, _, (He.glo_ok X G (c.fact 6 rfl)), F6.kp, b6, gUn⟩⟩
  have gRi := ok_risingS (P := P) (w := w) (base := base) F13 (He.free_ok X G (c.fact 21 rfl))
  have gJo := ok_joined (P := P) (w := w) (base := base) F14 ⟨(He.free_ok X G (c.fact 19 rfl)), (He.free_ok X G (c.fact 28 rfl)), (He.free_ok X G (c.fact 21 rfl)), (He.free_ok X G (c.fact 23 rfl)), (He.free_ok X G (c.fact 33 rfl)), (He.free_ok X G (c.fact 25 rfl))⟩
  have gAs := ok_as F15 mc ⟨(He.free_ok X G (c.fact 18 rfl)), (He.free_ok X G (c.fact 20 rfl)), (He.free_ok X G (c.fact 24 rfl))⟩ (He.glo_ok X G (c.fact 10 rfl)) F10.kp b10 (gSm 5) (He.glo_ok X G (c.fact 13 rfl)) F13.kp b13 gRi (He.meth_ok (c.fact 58 rfl)) b18 gOn
  have JM : JoinM P w K mg base (MC K) := ⟨(He.free_ok X G (c.fact 24 rfl)), ⟨_, _, (He.meth_ok (c.fact 60 rfl)), b20, ok_and F20 MF⟩, ⟨_, _, (He.meth_ok (c.fact 61 rfl)), b21, ok_or F21 MF⟩, ⟨_, _, (He.glo_ok X G (c.fact 14 rfl)), F14.kp, b14, gJo⟩, ⟨_, _, (He.glo_ok X G (c.fact 15 rfl)), F15.kp, b15, gAs⟩⟩
  exact ok_law F16 LS CM JM
end
end K1
set_option maxRecDepth 100000
namespace K1
open PySem L2
theorem walk {l : PySem.W.OpenLaw} {q : Program} {loose : List Str} {XP : (Str → Option Value) → Heap → Prop} {YP : World → Heap → Prop} {d : DefRec} {K : Params → PySem.W.Frag} (hn : l.most = some 63) (hdf : d.params.defaults = [])
    (hY : ∀ (w : World) (h : Heap), YP w h → (K w.params).In h)
    (F : ∀ (w : World) (mg : Str → Option Value) (fa : Addr) (h : Heap), (K w.params).In h → h.Ns mainGlobals mg → mg d.name = some (.ref fa) →
      ∃ fd : FuncData, (∀ (s : Shared) (u : Value), BindsTo s fd ⟨[u], []⟩ [("_law_script", u)]) ∧ ∀ base : Heap, (K w.params).In base → base.Ns mainGlobals mg → FnOk l.prog w (K w.params) mg base CX0 10 fa fd ["_law_script"] (spLaw (K w.params))) :
    PySem.W.WalkO q loose XP YP l.row.toRowW d [] (fun f vs => PySem.call f vs) :=
  L2.walk_of (n := 63) (k := 10) (x := "_law_script") (CX := fun _ => CX0) (sp := fun w => spLaw (K w.params)) hn (by decide) hdf ⟨rfl, by decide, by decide⟩ hY F (fun _ _ a ns hl _ hS => ⟨a, ns, rfl, hS, hl, fun _ => rfl⟩) fun _ _ _ _ _ z => z
end K1
open PySem PySem.W PyProof.Rows
set_option maxRecDepth 100000 in
set_option maxHeartbeats 0 in
theorem PySem.Challenge.cw_idlewrites_k13_whole_meetings_joined_holds : PySem.Challenge.rw_idlewrites_k13_whole_meetings_joined.Holds := by
  w_on; o_law; k_head; (case hw => w_witness2)
  k_fill
  refine K1.walk (l := PySem.Challenge.rw_idlewrites_k13_whole_meetings_joined) rfl rfl (fun w h Y => PySem.W.kIn_of Y) ?F
  case F =>
    intro w mg fa h KX G hmg
    refine' K1.facts KX G hmg ?c ?e
    case c =>
      refine (?_ : He.obsE K1.fas K1.fns _ = He.valE K1.fns)
      kernel_rfl
    case e => kernel_rfl
