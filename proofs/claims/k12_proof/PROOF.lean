import PyProof.Rows.All
import Wide.All
import OpenK.AllK
import Wide.FinOn
import HandS.TupSets
import HandS.ForMost
import HandS.SetKeys
import HandS.ForExc
import HandS.Flow
import HandS.Walk
import HandS.CallSlots
import HandS.Lambda
import KE.DataEq
import HandS.TupAny
import HandS.Codes
import HandS.IsInst
import HandS.Style
import HandS.Property
import KE.GoesEnum
import HandS.Steps
import HandS.GenCall
import HandS.GenList
import HandS.Text
import HandS.SortInts
import HandS.More
import HandS.DictComp
import HandS.Iter
import HandS.Deep
import KE.DataFind
import HandS.Wide
import KE.KDictZip
import HandS.Zip
import HandS.Conv
import HandS.ExcInit
import HandS.EndTab
import KE.KExcSuper
import KE.KExcIs
import HandS.ExcIs
import HandS.ExcField
import HandS.EndOwn
import HandS.FStr
import PySem.Challenge.RW_keywaits_k12_waits_that_suit
set_option Elab.async false
set_option linter.all false
set_option maxRecDepth 100000
set_option maxHeartbeats 4000000
/-! sets of flat tuples of texts and ints, at the library's level: what lies in one, the search, add, in -/
namespace Ws
open PySem L2
open PySem.Spec PyProof.Rows
section
variable {P : Program} {w : World} {A : Around} {E : Value → Shared → Prop} {s : Shared}
abbrev KT (P : Program) (w : World) (h : Heap) (k : List Key) (a : Addr) : Prop := IsTupleKey (mixKind P w) h k a
abbrev kh (P : Program) (w : World) (k : List Key) : Int := tupleKeyHash (mixKind P w) k
def Plain1 (v : Value) : Prop := (∃ i t, v = Value.int i t) ∨ ∃ x t, v = Value.str x t
theorem plain_items {k : List Key} {vs : List Value} (hi : ItemsAre (mixKind P w) k vs) : ∀ v ∈ vs, Plain1 v := by
  induction hi with
  | nil => intro v hv; cases hv
  | cons h1 h2 ih =>
    intro v hv
    rcases List.mem_cons.mp hv with rfl | hv
    · rcases keyIs_shape h1 with ⟨i, t, _, e⟩ | ⟨x, t, _, e⟩
      · exact .inl ⟨i, t, e⟩
      · exact .inr ⟨x, t, e⟩
    · exact ih v hv
theorem ofA_plain {v : Value} (hv : Plain1 v) (n : Nat) : ofAClassStatement n v = pure false := by
  rcases hv with ⟨i, t, rfl⟩ | ⟨x, t, rfl⟩ <;> cases n <;> rfl
theorem hashBy_plain {v : Value} (hv : Plain1 v) (n : Nat) : ∃ b, hashByValue n v = pure b := by
  rcases hv with ⟨i, t, rfl⟩ | ⟨x, t, rfl⟩
  · exact ⟨true, by cases n <;> rfl⟩
  · exact ⟨false, by cases n <;> rfl⟩
theorem ofA_key {k : List Key} {b : Addr} {Q : Bool → Shared → Prop} (hk : KT P w s.heap k b) (hQ : Q false s) : wpAny (model P w) A (ofAClassStatement 8 (.ref b)) Q E s := by
  have tyT := hk.typeIs
  obtain ⟨ob, its, sz, hob, _, hda, hit⟩ := hk
  unfold ofAClassStatement
  refine wpAny_bind (wpAny_typeOf tyT ?_)
  dsimp only
  simp only [show (("tuple" : String) == "tuple") = true by decide, if_true, Bool.not_true, Bool.false_eq_true, if_false]
  try refine wpAny_bind (wpAny_pure ?_)
  try simp only [Bool.not_true, Bool.false_eq_true, if_false]
  show wpAny _ _ (seqItems? (.ref b) >>= _) _ _ s
  refine wpAny_bind (wpAny_seqItems hob hda ?_)
  dsimp only
  refine wpAny_bind ?_
  show wpAny _ _ (forIn its _ _) _ _ s
  rw [← Array.forIn_toList]
  refine wpAny_forIn_list _ (fun todo acc s2 => acc.1 = none ∧ s2 = s ∧ ∀ v ∈ todo, Plain1 v) _ ?_ ?_ _ _ ⟨rfl, rfl, plain_items hit⟩
  · rintro v todo acc s2 ⟨hacc, rfl, hpl⟩
    rw [ofA_plain (hpl v List.mem_cons_self)]
    refine wpAny_bind (wpAny_pure ?_)
    simp only [Bool.false_eq_true, if_false]
    exact wpAny_pure ⟨rfl, rfl, fun y hy => hpl y (List.mem_cons_of_mem _ hy)⟩
  · rintro ⟨c1, c2⟩ s2 ⟨hacc, rfl, _⟩
    simp only at hacc
    subst hacc
    exact wpAny_pure hQ
theorem hashBy_key {k : List Key} {b : Addr} {Q : Bool → Shared → Prop} (hk : KT P w s.heap k b) (hQ : ∀ z, Q z s) : wpAny (model P w) A (hashByValue 8 (.ref b)) Q E s := by
  have tyT := hk.typeIs
  obtain ⟨ob, its, sz, hob, _, hda, hit⟩ := hk
  unfold hashByValue
  refine wpAny_bind (wpAny_specialOf tyT F.slot_tuple_hash.lookup ?_)
  show wpAny _ _ (seqItems? (.ref b) >>= _) _ _ s
  refine wpAny_bind (wpAny_seqItems hob hda ?_)
  refine wpAny_bind ?_
  show wpAny _ _ (forIn its _ _) _ _ s
  rw [← Array.forIn_toList]
  refine wpAny_forIn_list _ (fun todo acc s2 => acc.1 = none ∧ s2 = s ∧ ∀ v ∈ todo, Plain1 v) _ ?_ ?_ _ _ ⟨rfl, rfl, plain_items hit⟩
  · rintro v todo acc s2 ⟨hacc, rfl, hpl⟩
    obtain ⟨z, hz⟩ := hashBy_plain (hpl v List.mem_cons_self) 7
    have more : ∀ y ∈ todo, Plain1 y := fun y hy => hpl y (List.mem_cons_of_mem _ hy)
    rw [hz]
    refine wpAny_bind (wpAny_pure ?_)
    cases z
    · simp only [Bool.not_false, if_true]
      exact wpAny_pure (wpAny_pure (hQ false))
    · simp only [Bool.not_true, Bool.false_eq_true, if_false]
      exact wpAny_pure ⟨rfl, rfl, more⟩
  · rintro ⟨c1, c2⟩ s2 ⟨hacc, rfl, _⟩
    simp only at hacc
    subst hacc
    exact wpAny_pure (hQ true)
theorem seen_key {k : List Key} {b : Addr} {Q : Bool → Shared → Prop} (hk : KT P w s.heap k b) {ys : List Value} (hys : ∀ y ∈ ys, ∃ k2 c, y = Value.ref c ∧ KT P w s.heap k2 c) (hQ : Q false s) :
    wpAny (model P w) A (searchCouldBeSeen (.ref b) ys) Q E s := by
  unfold searchCouldBeSeen
  refine wpAny_bind ?_
  refine wpAny_forIn_list _ (fun todo acc s2 => acc.1 = none ∧ s2 = s ∧ ∀ y ∈ todo, ∃ k2 c, y = Value.ref c ∧ KT P w s.heap k2 c) _ ?_ ?_ _ _ ⟨rfl, rfl, hys⟩
  · rintro v todo acc s2 ⟨hacc, rfl, hpl⟩
    obtain ⟨k2, c, rfl, hc⟩ := hpl v List.mem_cons_self
    have more : ∀ y ∈ todo, ∃ k2 c, y = Value.ref c ∧ KT P w s2.heap k2 c := fun y hy => hpl y (List.mem_cons_of_mem _ hy)
    dsimp only
    by_cases same : (b == c || (carriedByValue (.ref b) && carriedByValue (.ref c))) = true
    · exact wp_if_pos same (wpAny_pure ⟨rfl, rfl, more⟩)
    · refine wp_if_neg same (wpAny_bind (wpAny_eqIsQuiet_tuple hk ?_))
      simp only [Bool.not_true, Bool.false_eq_true, if_false]
      refine wpAny_bind (wpAny_eqIsQuiet_tuple hc ?_)
      simp only [Bool.not_true, Bool.false_eq_true, if_false]
      refine wpAny_bind (ofA_key hk ?_)
      simp only [Bool.false_eq_true, if_false]
      refine wpAny_bind (ofA_key hc ?_)
      simp only [Bool.false_eq_true, if_false]
      exact wpAny_pure ⟨rfl, rfl, more⟩
  · rintro ⟨c1, c2⟩ s2 ⟨hacc, rfl, _⟩
    simp only at hacc
    subst hacc
    exact wpAny_pure hQ

/-! ### what lies in the set -/
abbrev El := Addr × List Key
def hs (P : Program) (w : World) (L : List El) : List Int := L.map fun p => kh P w p.2
def ents (P : Program) (w : World) (L : List El) : List (Int × Value) := L.map fun p => (kh P w p.2, Value.ref p.1)
/-- the object's own part (no tuple is asked for) -/
structure Tab (P : Program) (w : World) (h : Heap) (a : Addr) (L : List El) (es : Array (Int × Value)) (ep : Nat) (t : SetTable) : Prop where
  obj : ∃ o, h.get? a = some o ∧ o.ExactSet ∧ o.data = .set es ep t
  ent : es.toList = ents P w L
  tab : TabOk t (hs P w L)
  nd : (L.map (·.2)).Nodup
  led : w.params.followText "set-order" = true ∨ t.led = true
  roomy : L.length * 5 < t.mask * 3
  few : L.length < 64
def Els (P : Program) (w : World) (h : Heap) (L : List El) : Prop := ∀ p ∈ L, KT P w h p.2 p.1
variable {a : Addr} {L : List El} {es : Array (Int × Value)} {ep : Nat} {t : SetTable}
theorem size_ents {l : List El} {es : Array (Int × Value)} (e : es.toList = ents P w l) : es.size = l.length := by
  have q := congrArg List.length e
  rw [Array.length_toList] at q
  rw [q]
  exact List.length_map ..
theorem Tab.sz (T : Tab P w s.heap a L es ep t) : es.size = L.length := size_ents T.ent
theorem Tab.plc (T : Tab P w s.heap a L es ep t) : t.place.size = L.length := by
  have q := T.tab.sz
  unfold hs at q
  rw [List.length_map] at q
  exact q
theorem Tab.fits (T : Tab P w s.heap a L es ep t) : t.fits es.size = true := by
  have q1 := T.plc
  have q2 := T.sz
  have q3 := T.roomy
  unfold SetTable.fits SetTable.fill
  rw [T.tab.dm, Bool.and_eq_true, beq_iff_eq, decide_eq_true_eq]
  show t.place.size = es.size ∧ t.place.size + 0 ≤ t.mask
  omega
theorem Tab.at_ (T : Tab P w s.heap a L es ep t) {i : Nat} {p : El} (e : L[i]? = some p) : es[i]? = some (kh P w p.2, Value.ref p.1) := by
  rw [← Array.getElem?_toList, T.ent]
  unfold ents
  rw [List.getElem?_map, e]
  rfl
theorem Tab.stays (T : Tab P w s.heap a L es ep t) : ¬ t.gaveWay = true := by
  unfold SetTable.gaveWay
  rw [mask_odd T.tab.mok]
  decide
/-- the c-th step of the way of a hash -/
abbrev stepN (t : SetTable) (z : Int) (c : Nat) : SetTable.Probe := nth t.mask (runAt t.mask (SetTable.bits z % (t.mask + 1)) (SetTable.bits z)) c
theorem step_dummy (t : SetTable) (z : Int) (c : Nat) : (stepN t z c).dummy = none := by
  have gen : ∀ (n : Nat) (p : SetTable.Probe), p.dummy = none → (nth t.mask p n).dummy = none := by
    intro n
    induction n with
    | zero => exact fun _ q => q
    | succ n ih =>
      intro p q
      refine ih (adv t.mask p) ?_
      unfold adv
      split <;> exact q
  exact gen c _ rfl
theorem step_add (t : SetTable) (z : Int) (c q : Nat) : nth t.mask (stepN t z c) q = stepN t z (c + q) := (nth_add t.mask c _ q).symm
theorem step_j (t : SetTable) (z : Int) (c : Nat) : (stepN t z c).j = way t.mask z c := rfl
end
end Ws

set_option Elab.async false
set_option linter.all false
set_option maxRecDepth 100000
set_option maxHeartbeats 4000000
namespace Ws
open PySem L2
open PySem.Spec PyProof.Rows
section
variable {P : Program} {w : World} {A : Around} {E : Value → Shared → Prop} {s : Shared}
variable {a : Addr} {L : List El} {es : Array (Int × Value)} {ep : Nat} {t : SetTable}
theorem mem_same (t : SetTable) : t.sameMemory t.moves t.mask = some true := by
  unfold SetTable.sameMemory
  exact if_pos (beq_self_eq_true _)
/-- the search, from the c-th step of the way on; adding or only asking -/
theorem look_from (T : Tab P w s.heap a L es ep t) (G : Els P w s.heap L) {x : Addr} {k : List Key} {add : Bool} (hx : KT P w s.heap k x) (hu : A.units < cLine) {N : Nat} (hN : N < 10 * SetTable.turns t.mask)
    (hfree : way t.mask (kh P w k) N ∉ t.place.toList) (htaken : ∀ c, c < N → way t.mask (kh P w k) c ∈ t.place.toList) {Q : SetFound → Shared → Prop}
    (yes : k ∈ L.map (·.2) → ∀ r, (add = false → r.isSome = true) → Q (.there r) s) (no : k ∉ L.map (·.2) → Q (.free (way t.mask (kh P w k) N) false) s) :
    ∀ (fuel c : Nat) (from_ : Option SetTable.Probe), from_.getD (t.probeStart (kh P w k)) = stepN t (kh P w k) c → c ≤ N → N - c < fuel →
      (∀ (i : Nat) (p : El), L[i]? = some p → p.2 = k → ∃ d, c ≤ d ∧ d < N ∧ t.place.toList[i]? = some (way t.mask (kh P w k) d)) →
      wpAny (model P w) A (setSearchFrom a (.ref x) (kh P w k) add fuel from_) Q E s
  | 0, _, _, _, _, z, _ => absurd z (Nat.not_lt_zero _)
  | fuel + 1, c, from_, hfrom, hcN, hfu, ahead => by
    obtain ⟨ob, hob, hexs, hdat⟩ := T.obj
    rw [setSearchFrom_succ]
    refine wpAny_bind (wpAny_setState_of hob hdat T.fits ?_)
    dsimp only
    refine wp_if_neg T.stays ?_
    try refine wpAny_bind (wpAny_pure ?_)
    have jj : ∀ q, (nth t.mask (stepN t (kh P w k) c) q).j = way t.mask (kh P w k) (c + q) := fun q => by rw [step_add]
    have jN : (nth t.mask (stepN t (kh P w k) c) (N - c)).j = way t.mask (kh P w k) N := by
      rw [jj]
      congr 1
      omega
    have atH : ∀ (i : Nat) (p : El), L[i]? = some p → (fun i => (es[i]?.map (·.1)).getD 0) i = kh P w p.2 := fun i p hp => by
      show (es[i]?.map (·.1)).getD 0 = _
      rw [T.at_ hp]
      rfl
    have way1 := go_spec t T.tab.ris T.tab.dm (fun i => (es[i]?.map (·.1)).getD 0) (kh P w k) (10 * SetTable.turns t.mask) (N - c) (stepN t (kh P w k) c) (step_dummy t _ c) (by omega)
      (fun q hq => by rw [jj]; exact htaken _ (by omega)) (by rw [jN]; exact hfree)
    rcases way1 with ⟨q, i, hqN, hat, hhash, before, hprobe⟩ | ⟨before, hprobe⟩
    · rw [hfrom]
      have hprobe' : t.probe (fun i => (es[i]?.map (·.1)).getD 0) (kh P w k) (stepN t (kh P w k) c) = some (.candidate (way t.mask (kh P w k) (c + q)) i (stepN t (kh P w k) (c + (q + 1)))) := by
        rw [← jj, ← step_add]
        exact hprobe
      rw [hprobe']
      dsimp only
      rw [jj] at hat
      have hiL : i < L.length := by
        have z1 : i < t.place.toList.length := (List.getElem?_eq_some_iff.mp hat).1
        rw [Array.length_toList, T.plc] at z1
        exact z1
      obtain ⟨p, hp⟩ : ∃ p, L[i]? = some p := ⟨L[i], List.getElem?_eq_getElem hiL⟩
      have pIn : p ∈ L := List.mem_of_getElem? hp
      have hslot : t.slot (way t.mask (kh P w k) (c + q)) = .live i := slot_live T.tab.ris hat
      have tail : wpAny (model P w) A (searchRest a (.ref x) (kh P w k) add fuel es t (way t.mask (kh P w k) (c + q)) i (stepN t (kh P w k) (c + (q + 1)))) Q E s := by
        unfold searchRest
        rw [T.at_ hp]
        dsimp only
        refine wpAny_bind (wpAny_holding (wpAny_eqBool_tuple hu (G p pIn) hx ?_))
        refine wpAny_bind (wpAny_setState_of hob hdat T.fits ?_)
        dsimp only
        by_cases hpk : p.2 = k
        · have inL : k ∈ L.map (·.2) := List.mem_map.mpr ⟨p, pIn, hpk⟩
          cases add with
          | true =>
            refine wp_if_pos (by simp [hpk]) ?_
            exact wpAny_pure (yes inL none (fun z => nomatch z))
          | false =>
            refine wp_if_neg (by simp) ?_
            try refine wpAny_bind (wpAny_pure ?_)
            rw [mem_same]
            dsimp only
            simp only [if_true, hslot, T.at_ hp]
            refine wpAny_bind (wpAny_isSame_ref_self (wpAny_bind (wpAny_pure ?_)))
            simp only [if_true]
            refine wp_if_pos (by simp [hpk]) ?_
            exact wpAny_pure (yes inL (some i) fun _ => rfl)
        · refine wp_if_neg (by simp [hpk]) ?_
          try refine wpAny_bind (wpAny_pure ?_)
          rw [mem_same]
          dsimp only
          simp only [if_true, hslot, T.at_ hp]
          refine wpAny_bind (wpAny_isSame_ref_self (wpAny_bind (wpAny_pure ?_)))
          simp only [if_true]
          refine wp_if_neg (by simp [hpk]) ?_
          refine look_from T G hx hu hN hfree htaken yes no fuel (c + (q + 1)) _ rfl (by omega) (by omega) fun i2 p2 hp2 hk2 => ?_
          obtain ⟨d, d1, d2, d3⟩ := ahead i2 p2 hp2 hk2
          refine ⟨d, ?_, d2, d3⟩
          rcases Nat.lt_trichotomy d (c + q) with z | z | z
          · exact absurd ((atH i2 p2 hp2).trans (congrArg (kh P w) hk2)) (before (d - c) i2 (by omega) (by rw [jj, d3]; congr 2; omega))
          · subst z
            have s2 := slot_live T.tab.ris d3
            rw [hslot] at s2
            injection s2 with s2
            rw [← s2, hp] at hp2
            exact absurd ((congrArg Prod.snd (Option.some.inj hp2)).trans hk2) hpk
          · omega
      by_cases hled : t.led = true
      · refine wp_if_neg (by simp [hled]) ?_
        try refine wpAny_bind (wpAny_pure ?_)
        exact tail
      · refine wp_if_pos (by simp [hled]) ?_
        refine wpAny_bind (seen_key hx (fun y hy => ?_) ?_)
        · obtain ⟨e, he, rfl⟩ := List.mem_map.mp hy
          have he' : e ∈ es.toList := by
            have z : e ∈ es ∧ e.1 = kh P w k := by simpa using he
            simpa using z.1
          rw [T.ent] at he'
          obtain ⟨p2, hp2, rfl⟩ := List.mem_map.mp he'
          exact ⟨p2.2, p2.1, rfl, G p2 hp2⟩
        · refine wp_if_neg (by decide) ?_
          try refine wpAny_bind (wpAny_pure ?_)
          exact tail
    · rw [hfrom]
      have hprobe' : t.probe (fun i => (es[i]?.map (·.1)).getD 0) (kh P w k) (stepN t (kh P w k) c) = some (.empty (way t.mask (kh P w k) N) none) := by
        rw [← jN]
        exact hprobe
      rw [hprobe']
      dsimp only
      refine wpAny_pure (no fun hm => ?_)
      obtain ⟨p2, hp2, hk2⟩ := List.mem_map.mp hm
      obtain ⟨i2, hi2⟩ := List.getElem?_of_mem hp2
      obtain ⟨d, d1, d2, d3⟩ := ahead i2 p2 hi2 hk2
      exact before (d - c) i2 (by omega) (by rw [jj, d3]; congr 2; omega) ((atH i2 p2 hi2).trans (congrArg (kh P w) hk2))
theorem look_at (T : Tab P w s.heap a L es ep t) (G : Els P w s.heap L) {x : Addr} {k : List Key} {add : Bool} (hx : KT P w s.heap k x) (hu : A.units < cLine) {Q : SetFound → Shared → Prop}
    (yes : k ∈ L.map (·.2) → ∀ r, (add = false → r.isSome = true) → Q (.there r) s)
    (no : ∀ N, k ∉ L.map (·.2) → way t.mask (kh P w k) N ∉ t.place.toList → (∀ c, c < N → way t.mask (kh P w k) c ∈ t.place.toList) → Q (.free (way t.mask (kh P w k) N) false) s) :
    wpAny (model P w) A (setSearch a (.ref x) (kh P w k) add) Q E s := by
  have room := T.roomy
  obtain ⟨N, n1, n2, n3⟩ := T.tab.first (by unfold hs; rw [List.length_map]; omega) (kh P w k)
  have small : N < 100000 := by
    have z : 10 * SetTable.turns t.mask ≤ 1420 := by
      unfold SetTable.turns
      rcases T.tab.mok with q | q | q <;> omega
    omega
  unfold setSearch
  refine look_from T G hx hu n1 n2 n3 yes (fun q => no N q n2 n3) 100000 0 none rfl (Nat.zero_le _) (by omega) fun i p hp hpk => ?_
  have hi : (hs P w L)[i]? = some (kh P w k) := by
    unfold hs
    rw [List.getElem?_map, hp, ← hpk]
    rfl
  have hlt : i < t.place.toList.length := by
    rw [Array.length_toList, T.plc]
    exact (List.getElem?_eq_some_iff.mp hp).1
  have hj := List.getElem?_eq_getElem hlt
  obtain ⟨c, c1, c2⟩ := T.tab.before n2 hi hj
  exact ⟨c, Nat.zero_le _, c1, by rw [hj, c2]⟩
/-- x in the set -/
theorem has_at (T : Tab P w s.heap a L es ep t) (G : Els P w s.heap L) {x : Addr} {k : List Key} (hx : KT P w s.heap k x) (hu : A.units < cLine) {Q : Option Nat → Shared → Prop}
    (hQ : ∀ r : Option Nat, (r.isSome = true ↔ k ∈ L.map (·.2)) → Q r s) : wpAny (model P w) A (setFind a (.ref x) (kh P w k)) Q E s := by
  obtain ⟨ob, hob, hexs, hdat⟩ := T.obj
  unfold setFind
  rw [show (100000 : Nat) = 99999 + 1 from rfl]
  unfold setFindIn
  refine wpAny_bind (wpAny_setState_of hob hdat T.fits ?_)
  dsimp only
  refine wp_if_neg (by simp [byScan, Value.scannable]) ?_
  try refine wpAny_bind (wpAny_pure ?_)
  refine wpAny_bind (look_at T G hx hu (fun hm r hr => ?_) fun N hm _ _ => ?_)
  · exact wpAny_pure (hQ r ⟨fun _ => hm, fun _ => hr rfl⟩)
  · exact wpAny_pure (hQ none ⟨fun z => absurd z (by simp), fun z => absurd z hm⟩)
end
end Ws

set_option Elab.async false
set_option linter.all false
set_option maxRecDepth 100000
set_option maxHeartbeats 4000000
namespace Ws
open PySem L2
open PySem.Spec PyProof.Rows
section
variable {P : Program} {w : World} {A : Around} {E : Value → Shared → Prop} {s : Shared}
variable {a : Addr} {L : List El} {es : Array (Int × Value)} {ep : Nat} {t : SetTable}
theorem kt_kept {h h' : Heap} {k : List Key} {b : Addr} {o : Obj} (z : KT P w h k b) (ho : h.get? a = some o) (hd : o.data = .set es ep t) (sb : Heap.SameBut a h h') : KT P w h' k b := by
  obtain ⟨ob, its, n, g1, g2, g3, g4⟩ := z
  refine ⟨ob, its, n, (sb.2 b ?_).trans g1, g2, g3, g4⟩
  intro e
  rw [e, ho] at g1
  cases g1
  rw [hd] at g3
  cases g3
theorem els_kept {h h' : Heap} {o : Obj} (z : Els P w h L) (ho : h.get? a = some o) (hd : o.data = .set es ep t) (sb : Heap.SameBut a h h') : Els P w h' L := fun p hp => kt_kept (z p hp) ho hd sb
/-- the elements in another order -/
theorem turned {order : List Nat} (he : es.toList = ents P w L) (hp : order.Perm (List.range L.length)) :
    ∃ M, order.filterMap (fun i => es[i]?) = ents P w M ∧ M.Perm L ∧ hs P w M = order.map fun i => (es.map (·.1)).getD i 0 := by
  have hsz := size_ents he
  have get : ∀ i, i < L.length → ∃ p, L[i]? = some p ∧ es[i]? = some (kh P w p.2, Value.ref p.1) := fun i hi => by
    refine ⟨L[i], List.getElem?_eq_getElem hi, ?_⟩
    rw [← Array.getElem?_toList, he]
    unfold ents
    rw [List.getElem?_map, List.getElem?_eq_getElem hi]
    rfl
  have gen : ∀ l : List Nat, (∀ i ∈ l, i < L.length) → l.filterMap (fun i => es[i]?) = ents P w (l.filterMap fun i => L[i]?) ∧ hs P w (l.filterMap fun i => L[i]?) = l.map fun i => (es.map (·.1)).getD i 0 := by
    intro l
    induction l with
    | nil => exact fun _ => ⟨rfl, rfl⟩
    | cons i l ih =>
      intro hl
      obtain ⟨p, h1, h2⟩ := get i (hl i List.mem_cons_self)
      obtain ⟨e1, e2⟩ := ih fun j hj => hl j (List.mem_cons_of_mem _ hj)
      rw [List.filterMap_cons_some h2, List.filterMap_cons_some h1, e1]
      refine ⟨rfl, ?_⟩
      unfold hs at e2 ⊢
      rw [List.map_cons, List.map_cons, e2]
      congr 1
      have h3 : (es.map (·.1))[i]? = some (kh P w p.2) := by
        rw [Array.getElem?_map, h2]
        rfl
      simp [Array.getD_eq_getD_getElem?, h3]
  obtain ⟨g1, g2⟩ := gen order fun i hi => List.mem_range.mp (hp.mem_iff.mp hi)
  refine ⟨_, g1, ?_, g2⟩
  have all : (List.range L.length).filterMap (fun i => L[i]?) = L := by
    have upto : ∀ n, n ≤ L.length → (List.range n).filterMap (fun i => L[i]?) = L.take n := by
      intro n
      induction n with
      | zero => exact fun _ => rfl
      | succ n ih =>
        intro hn
        rw [List.range_succ, List.filterMap_append, ih (Nat.le_of_succ_le hn), List.take_succ]
        congr 1
    rw [upto _ (Nat.le_refl _), List.take_length]
  have h4 := hp.filterMap (fun i => L[i]?)
  rw [all] at h4
  exact h4
theorem relay (he : es.toList = ents P w L) {o : Obj} (ho : s.heap.get? a = some o) (hex : o.ExactSet) (hd : o.data = .set es ep t) (h1 : t.place.size = es.size) (h2 : t.dummies = #[]) (h3 : es.size ≤ t.mask) (nd : (L.map (·.2)).Nodup)
    (ld : w.params.followText "set-order" = true ∨ t.led = true) (few : L.length < 64) {n m : Nat} (m1 : SetTable.sizeAbove n - 1 = m) (m2 : MaskOk m) (m3 : SetTable.sizeAbove n ≤ 128) (m4 : L.length * 5 < m * 3) {Q : Unit → Shared → Prop}
    (hQ : ∀ h' L' es' ep' t', Heap.SameBut a s.heap h' → Tab P w h' a L' es' ep' t' → L'.Perm L → Q () { s with heap := h' }) : wpAny (model P w) A (setRelay a n) Q E s := by
  have hsz := size_ents he
  have ft : t.fits es.size = true := by
    unfold SetTable.fits SetTable.fill
    rw [h2, Bool.and_eq_true, beq_iff_eq, decide_eq_true_eq]
    show t.place.size = es.size ∧ t.place.size + 0 ≤ t.mask
    omega
  obtain ⟨t', order, e, hp, TT, em, el, _, _⟩ := relaid_ok t (hs := es.map (·.1)) (wanted := n) m1 m2 (by rw [Array.size_map, hsz]; omega)
  rw [Array.size_map, hsz] at hp
  obtain ⟨M, r1, r2, r3⟩ := turned he hp
  rw [← r3] at TT
  have r1' : (order.filterMap (es[·]?)).toList = ents P w M := by simpa using r1
  have s2 : (order.filterMap (es[·]?)).size = es.size := by rw [size_ents r1', r2.length_eq, hsz]
  rw [setRelay_eq]
  refine wpAny_bind (wpAny_setState_of ho hd ft ?_)
  dsimp only
  refine wp_if_neg (by rw [sizeLine_eq]; omega) ?_
  try refine wpAny_bind (wpAny_pure ?_)
  rw [e]
  dsimp only
  refine wpAny_bind ?_
  refine wp_if_neg (by rw [s2]; simp) ?_
  try refine wpAny_bind (wpAny_pure ?_)
  refine wpAny_pure ?_
  dsimp only
  refine wpAny_storeSet_of ho hd ?_ (by rw [s2, hsz, sizeLine_eq]; omega)
  refine hQ _ M (order.filterMap (es[·]?)) (ep + 1) t' (Heap.SameBut.update ..) ⟨⟨_, store_at ho hd, ⟨hex.1, hex.2.1, hex.2.2⟩, rfl⟩, r1', TT, (r2.map (·.2)).nodup_iff.mpr nd, by rw [el]; exact ld, ?_, by rw [r2.length_eq]; exact few⟩ r2
  rw [r2.length_eq, em]
  exact m4
/-- x is added -/
theorem add_to (T : Tab P w s.heap a L es ep t) (G : Els P w s.heap L) {x : Addr} {k : List Key} (hx : KT P w s.heap k x) (hu : A.units < cLine) (few : L.length + 1 < 64) {Q : Bool → Shared → Prop}
    (hQ : ∀ b h' L' es' ep' t', Heap.SameBut a s.heap h' → Tab P w h' a L' es' ep' t' → (k ∈ L.map (·.2) → L' = L) → (k ∉ L.map (·.2) → L'.Perm ((x, k) :: L)) → Q b { s with heap := h' }) :
    wpAny (model P w) A (setAddHashed a (.ref x) (kh P w k)) Q E s := by
  obtain ⟨o, ho, hex, hd⟩ := T.obj
  have hsz := T.sz
  have room := T.roomy
  unfold setAddHashed
  refine wpAny_holding ?_
  rw [show (100000 : Nat) = 99999 + 1 from rfl, setAddHashedIn_succ]
  refine wpAny_bind (wpAny_setState_of ho hd T.fits ?_)
  dsimp only
  refine wp_if_neg (by simp [byScan, Value.scannable]) ?_
  try refine wpAny_bind (wpAny_pure ?_)
  refine wpAny_bind (look_at T G hx hu (fun hm r _ => ?_) fun N hm free taken => ?_)
  · dsimp only
    exact wpAny_pure (hQ false s.heap L es ep t (Heap.SameBut.refl a s.heap) T (fun _ => rfl) fun z => absurd hm z)
  · dsimp only
    refine wpAny_bind (wpAny_setState_of ho hd T.fits ?_)
    dsimp only
    obtain ⟨p1, p2, p3, p4, p5, p6, p7, p8, p9⟩ := T.tab.put free taken
    generalize hput : t.put (way t.mask (kh P w k) N) = pt at p1 p3 p4 p5 p6 p7 p8 p9 ⊢
    obtain ⟨t0, n⟩ := pt
    dsimp only at p1 p3 p4 p5 p6 p7 p8 p9 ⊢
    have fin : ∀ t1 : SetTable, TabOk t1 ((hs P w L).take n ++ kh P w k :: (hs P w L).drop n) → t1.mask = t.mask → t1.led = t.led → t1.fill = (hs P w L).length + 1 →
        wpAny (model P w) A (storeSet a (SetTable.insertAt es n (kh P w k, Value.ref x)) t1 >>= fun _ => (do
          if !false && t1.tooFull then setRelay a (SetTable.grown (es.size + 1))
          return true)) Q E s := by
      intro t1 q1 q2 q3 q4
      have hin : (SetTable.insertAt es n (kh P w k, Value.ref x)).toList = ents P w (L.take n ++ (x, k) :: L.drop n) := by
        rw [SetTable.toList_insertAt, T.ent]
        unfold ents
        rw [List.map_append, List.map_cons, List.map_take, List.map_drop]
      have pm : (L.take n ++ (x, k) :: L.drop n).Perm ((x, k) :: L) := by
        have z : (L.take n ++ (x, k) :: L.drop n).Perm ((x, k) :: (L.take n ++ L.drop n)) := List.perm_middle
        rw [List.take_append_drop] at z
        exact z
      have hh : hs P w (L.take n ++ (x, k) :: L.drop n) = (hs P w L).take n ++ kh P w k :: (hs P w L).drop n := by
        unfold hs
        rw [List.map_append, List.map_cons, List.map_take, List.map_drop]
      rw [← hh] at q1
      have nd1 : ((L.take n ++ (x, k) :: L.drop n).map (·.2)).Nodup := by
        refine (pm.map (·.2)).nodup_iff.mpr ?_
        rw [List.map_cons]
        exact List.nodup_cons.mpr ⟨hm, T.nd⟩
      have len1 : (L.take n ++ (x, k) :: L.drop n).length = L.length + 1 := pm.length_eq
      have sz1 := size_ents hin
      rw [len1] at sz1
      generalize SetTable.insertAt es n (kh P w k, Value.ref x) = es1 at hin sz1 ⊢
      generalize L.take n ++ (x, k) :: L.drop n = L1 at pm len1 q1 nd1 hin hh
      refine wpAny_bind (wpAny_storeSet_of ho hd ?_ (by rw [sz1, sizeLine_eq]; omega))
      have sb : Heap.SameBut a s.heap (s.heap.update a (Obj.putSet es1 t1)) := Heap.SameBut.update ..
      have ho1 := store_at (es' := es1) (t' := t1) ho hd
      generalize s.heap.update a (Obj.putSet es1 t1) = h1 at sb ho1 ⊢
      have ld1 : w.params.followText "set-order" = true ∨ t1.led = true := by
        rw [q3]
        exact T.led
      have hl0 : (hs P w L).length = L.length := List.length_map ..
      by_cases full : t1.tooFull = true
      · first
          | (refine wpAny_bind ?_; refine wp_if_pos (by simp [full]) ?_)
          | (refine wp_if_pos (by simp [full]) ?_; refine wpAny_bind ?_)
        have many : (L.length + 1) * 5 ≥ t1.mask * 3 := by
          have z := full
          unfold SetTable.tooFull at z
          rw [decide_eq_true_eq, q4, hl0] at z
          exact z
        rw [hsz]
        have pl1 : t1.place.size = es1.size := by
          have z := q1.sz
          unfold hs at z
          rw [List.length_map, len1] at z
          rw [z, sz1]
        have two : (t.mask = 7 ∧ L.length = 4) ∨ (t.mask = 31 ∧ L.length = 18) := by
          rcases T.tab.mok with e | e | e
          · exact .inl ⟨e, by rw [q2, e] at many; rw [e] at room; omega⟩
          · exact .inr ⟨e, by rw [q2, e] at many; rw [e] at room; omega⟩
          · rw [q2, e] at many
            omega
        have grow : ∀ m, SetTable.sizeAbove (SetTable.grown (L.length + 1)) - 1 = m → MaskOk m → SetTable.sizeAbove (SetTable.grown (L.length + 1)) ≤ 128 → (L.length + 1) * 5 < m * 3 →
            wpAny (model P w) A (setRelay a (SetTable.grown (L.length + 1))) (fun _ s2 => wpAny (model P w) A (pure true) Q E s2) E { s with heap := h1 } := fun m z1 z2 z3 z4 => by
          refine relay (s := { s with heap := h1 }) hin ho1 ⟨hex.1, hex.2.1, hex.2.2⟩ rfl pl1 q1.dm (by rw [sz1, q2]; rcases two with ⟨e, e2⟩ | ⟨e, e2⟩ <;> omega) nd1 ld1 (by rw [len1]; exact few) z1 z2 z3 (by rw [len1]; exact z4) ?_
          intro h2 L2 es2 ep2 t2 sb2 T2 pm2
          exact wpAny_pure (hQ true h2 L2 es2 ep2 t2 (sb.trans sb2) T2 (fun z => absurd z hm) fun _ => pm2.trans pm)
        rcases two with ⟨_, e⟩ | ⟨_, e⟩
        · exact grow 31 (by rw [e, size_20]) (.inr (.inl rfl)) (by rw [e, size_20]; decide) (by omega)
        · exact grow 127 (by rw [e, size_76]) (.inr (.inr rfl)) (by rw [e, size_76]; decide) (by omega)
      · first
          | refine wp_if_neg (by simp [full]) ?_
          | (refine wpAny_bind ?_; refine wp_if_neg (by simp [full]) ?_; refine wpAny_pure ?_)
        refine wpAny_pure (hQ true h1 L1 es1 (ep + 1) t1 sb ⟨⟨_, ho1, ⟨hex.1, hex.2.1, hex.2.2⟩, rfl⟩, hin, q1, nd1, ld1, ?_, by rw [len1]; exact few⟩ (fun z => absurd z hm) fun _ => pm)
        have z := full
        unfold SetTable.tooFull at z
        rw [decide_eq_true_eq, q4, hl0] at z
        rw [len1]
        omega
    subst p1
    have okp : ∀ z : Bool, TabOk { t0 with plain := z } ((hs P w L).take (SetTable.below t.place (way t.mask (kh P w k) N)) ++ kh P w k :: (hs P w L).drop (SetTable.below t.place (way t.mask (kh P w k) N))) := fun z => ⟨p3.ris, p3.dm, p3.sz, p3.mok, p3.bd, p3.reach⟩
    by_cases hpl : t0.plain = true
    · first
        | (refine wpAny_bind ?_; refine wp_if_pos hpl ?_; refine hashBy_key hx fun z => ?_)
        | refine wp_if_pos hpl (wpAny_bind (hashBy_key hx fun z => ?_))
      cases z
      · exact fin { t0 with plain := false } (okp false) p4 p5 p9
      · exact fin t0 p3 p4 p5 p9
    · first
        | (refine wpAny_bind ?_; refine wp_if_neg hpl ?_; refine wpAny_pure ?_)
        | refine wp_if_neg hpl (wpAny_bind (wpAny_pure ?_))
      exact fin t0 p3 p4 p5 p9
end
end Ws

set_option Elab.async false
set_option linter.all false
set_option maxRecDepth 100000
set_option maxHeartbeats 4000000
/-! sets of flat tuples over the hand layer: set(), add, in -/
namespace Ws
open PySem L2
open PySem.Spec PyProof.Rows
def SetT (P : Program) (w : World) (a : Addr) (L : List El) : HO := .ext fun h => ∃ es ep t, Tab P w h a L es ep t
theorem Tab.moved {P : Program} {w : World} {h h' : Heap} {a : Addr} {L : List El} {es : Array (Int × Value)} {ep : Nat} {t : SetTable} (T : Tab P w h a L es ep t) (k : ∀ o, h.get? a = some o → h'.get? a = some o) : Tab P w h' a L es ep t :=
  ⟨let ⟨o, h1, h2⟩ := T.obj; ⟨o, k o h1, h2⟩, T.ent, T.tab, T.nd, T.led, T.roomy, T.few⟩
theorem setT_new {P : Program} {w : World} {H : Hp} {h : Heap} {a : Addr} {L : List El} {es : Array (Int × Value)} {ep : Nat} {t : SetTable} (T : Tab P w h a L es ep t) : ObjOk P w H h a (SetT P w a L) :=
  ⟨⟨es, ep, t, T⟩, let ⟨o, h1, _⟩ := T.obj; ⟨o, h1⟩, fun _ _ z k => let ⟨es, ep, t, T⟩ := z; ⟨es, ep, t, T.moved k⟩⟩
theorem fresh_tab {P : Program} {w : World} {h : Heap} {a : Addr} (e : h.get? a = some { cls := .type "set", dict := none, data := .set #[] 0 (.fresh 0 0 (!w.params.followText "set-order")) }) : Tab P w h a [] #[] 0 (.fresh 0 0 (!w.params.followText "set-order")) where
  obj := ⟨_, e, ⟨rfl, rfl, rfl⟩, rfl⟩
  ent := rfl
  tab := ⟨by first | exact trivial | (show List.Pairwise _ []; exact List.Pairwise.nil) | simp [Ris, SetTable.fresh], rfl, rfl, .inl rfl, fun x hx => by simp [SetTable.fresh] at hx, fun i hh j hi => by simp [hs] at hi⟩
  nd := List.nodup_nil
  led := by
    cases w.params.followText "set-order"
    · exact .inr rfl
    · exact .inl rfl
  roomy := by show 0 * 5 < 7 * 3; decide
  few := by decide
section
variable {P : Program} {w : World} {A : Around} {E : Value → Shared → Prop} {s : Shared} {a : Addr} {L : List El} {es : Array (Int × Value)} {ep : Nat} {t : SetTable}
theorem Tab.ty (T : Tab P w s.heap a L es ep t) : s.TypeIs (.ref a) "set" := let ⟨o, h1, h2, _⟩ := T.obj; ⟨o, h1, h2.1⟩
theorem Tab.nodict (T : Tab P w s.heap a L es ep t) : ∀ b, Value.ref a = .ref b → ∃ ob, s.heap.get? b = some ob ∧ ob.dict = none := fun b e => by
  cases e
  obtain ⟨o, h1, h2, _⟩ := T.obj
  exact ⟨o, h1, h2.2.1⟩
theorem Tab.toks {n : Nat} (T : Tab P w s.heap a L es ep t) : Tab P w ({ s with toks := n } : Shared).heap a L es ep t := T
/-- the set is asked for a tuple -/
theorem asks (T : Tab P w s.heap a L es ep t) (G : Els P w s.heap L) {x : Addr} {k : List Key} (hx : KT P w s.heap k x) (hu : A.units + 8 < cLine) {Q : Bool → Shared → Prop}
    (hQ : ∀ (r : Bool) n, (r = true ↔ k ∈ L.map (·.2)) → Q r { s with toks := n }) : wpAny (model P w) A (contains (.ref a) (.ref x)) Q E s := by
  unfold contains
  try with_reducible refine wpAny_holding ?_
  refine wpAny_bind (wpAny_specialOf T.ty F.slot_set_contains.lookup ?_)
  show wpAny _ _ (if (some (Value.builtin "set.__contains__") == some Value.none) = true then _ else _) _ E s
  refine wp_if_neg (by rw [beq_builtin_none]; exact Bool.false_ne_true) ?_
  refine wpAny_bind (wpAny_callSpecialUnlessNone?_slot (name := Str.ofString "__contains__") T.ty F.slot_set_contains
    (wpAny_call_entry F.slot_set_contains T.ty entry_set_contains ?_ (F.args_set_contains_2 _ _)))
  unfold Builtin.«frozenset.__contains__» Builtin.Frozenset.oneOther
  simp only [List.isEmpty_nil, bind_assoc]
  unfold Builtin.Frozenset.addrOf Builtin.Frozenset.withSetAsKey setContains
  refine wpAny_bind (wpAny_pure ?_)
  try dsimp only
  refine wpAny_bind (wpAny_pure ?_)
  try dsimp only
  refine wpAny_bind (wpAny_tryCatch (wpAny_holding (wpAny_bind (wpAny_pyHash_tuple ?hu hx ?_))))
  case hu => first | (show A.units + 1 < cLine; omega) | (show A.units + 1 + 1 < cLine; omega) | (show A.units < cLine; omega)
  refine wpAny_bind (has_at (k := k) (L := L) (es := es) (ep := ep) (t := t) ?hT ?hG ?hk ?hv fun r hr => ?_)
  case hT => exact T
  case hG => exact G
  case hk => exact hx
  case hv => first | (show A.units + 1 < cLine; omega) | (show A.units + 1 + 1 < cLine; omega) | (show A.units < cLine; omega)
  refine wpAny_pure ?_
  show wpAny _ _ (ret (Value.bool r.isSome)) _ _ _
  exact wpAny_pure ⟨_, rfl, wpAny_truthy_bool (hQ _ _ hr)⟩
theorem adds (T : Tab P w s.heap a L es ep t) (G : Els P w s.heap L) {x : Addr} {k : List Key} (hx : KT P w s.heap k x) (hu : A.units + 8 < cLine) (few : L.length + 1 < 64) {Q : Value → Shared → Prop}
    (hQ : ∀ n h' L' es' ep' t', Heap.SameBut a s.heap h' → Tab P w h' a L' es' ep' t' → (k ∈ L.map (·.2) → L' = L) → (k ∉ L.map (·.2) → L'.Perm ((x, k) :: L)) → Q .none { s with heap := h', toks := n }) :
    wpAny (model P w) A (call (.builtin "set.add") [.ref a, .ref x]) Q E s := by
  refine wpAny_call_entry F.slot_set_add T.ty F.entry_set_add ?_ (F.args_set_add_2 _ _)
  unfold Builtin.«set.add» Builtin.Frozenset.oneOther
  simp only [List.isEmpty_nil, bind_assoc]
  unfold Builtin.Frozenset.addrOf setAdd
  refine wpAny_bind (wpAny_pure ?_)
  try dsimp only
  refine wpAny_bind (wpAny_pure ?_)
  try dsimp only
  refine wpAny_bind (wpAny_holding (wpAny_bind (wpAny_pyHash_tuple ?hu hx ?_)))
  case hu => first | (show A.units + 1 < cLine; omega) | (show A.units + 1 + 1 < cLine; omega) | (show A.units < cLine; omega)
  refine add_to (k := k) (L := L) (es := es) (ep := ep) (t := t) ?hT ?hG ?hk ?hv few fun b h' L' es' ep' t' sb T' e1 e2 => ?_
  case hT => exact T
  case hG => exact G
  case hk => exact hx
  case hv => first | (show A.units + 1 < cLine; omega) | (show A.units + 1 + 1 < cLine; omega) | (show A.units < cLine; omega)
  show wpAny _ _ (ret Value.none) _ _ _
  exact wpAny_pure ⟨_, rfl, hQ _ h' L' es' ep' t' sb T' e1 e2⟩
end
section
variable {X : Cx}
def Known (H : Hp) (L : List El) : Prop := ∀ p ∈ L, H p.1 = some (.tup (p.2.map kV))
theorem known_els {pins : List (Addr × Obj)} {σ : L2.St} {H : Hp} {s : Shared} {L : List El} (I : L2.Inv X pins σ H s) (k : Known H L) : Els X.prog X.w s.heap L := fun p hp => key_of I.hok (k p hp)
theorem setT_at {pins : List (Addr × Obj)} {σ : L2.St} {H : Hp} {s : Shared} {a : Addr} {L : List El} (I : L2.Inv X pins σ H s) (h : H a = some (SetT X.prog X.w a L)) : ∃ es ep t, Tab X.prog X.w s.heap a L es ep t := by
  have z : ObjOk X.prog X.w H s.heap a (.ext fun h => ∃ es ep t, Tab X.prog X.w h a L es ep t) := I.hok a _ h
  exact z.1
def rSet0T (P : Program) (w : World) : List V → Hp → VK → Prop := fun xs H Q => xs = [] ∧ ∀ p, H p = none → Q (.ref p) (upd H p (SetT P w p []))
theorem cr_set0T : CallR X (.type "set") (rSet0T X.prog X.w) := by
  intro pins s σ H xs us Q I r h
  obtain ⟨rfl, q⟩ := h
  cases r
  refine setR_new fun _ => ?_
  refine ⟨.ref s.heap.objs.size, upd H s.heap.objs.size (SetT X.prog X.w s.heap.objs.size []), I.laid (t' := s.toks) (fun b u e => Heap.get?_push_of_some _ e) (Nat.le_refl _) (setT_new (fresh_tab (Heap.get?_push_size _ rfl))), rfl, q _ (I.hok.fresh (Nat.le_refl _))⟩
/-- k in found, k not in found -/
def rInT (P : Program) (w : World) (neg : Bool) : V → V → Hp → VK → Prop := fun x y H Q => ∃ b a k L, x = V.ref b ∧ y = V.ref a ∧ H b = some (.tup (List.map kV k)) ∧ H a = some (SetT P w a L) ∧ Known H L ∧ ∀ r : Bool, (r = true ↔ k ∈ L.map (·.2)) → Q (.bl (if neg then !r else r)) H
theorem or_inT (hu : X.A.units + 16 < cLine) : OpR X (compareOp .In) (rInT X.prog X.w false) := by
  intro pins s σ H x y v u Q I rx ry h
  obtain ⟨b, a, k, L, rfl, rfl, hb, ha, kn, q⟩ := h
  cases rx
  cases ry
  obtain ⟨es, ep, t, T⟩ := setT_at I ha
  show wpAny _ _ (do return Value.bool (← contains (.ref a) (.ref b))) _ _ s
  refine wpAny_bind (asks T (known_els I kn) (key_of I.hok hb) (by omega) fun r n hr => wpAny_pure ⟨.bl r, H, I.tok n, rfl, q r hr⟩)
theorem or_notInT (hu : X.A.units + 16 < cLine) : OpR X (compareOp .NotIn) (rInT X.prog X.w true) := by
  intro pins s σ H x y v u Q I rx ry h
  obtain ⟨b, a, k, L, rfl, rfl, hb, ha, kn, q⟩ := h
  cases rx
  cases ry
  obtain ⟨es, ep, t, T⟩ := setT_at I ha
  show wpAny _ _ (do return Value.bool (!(← contains (.ref a) (.ref b)))) _ _ s
  refine wpAny_bind (asks T (known_els I kn) (key_of I.hok hb) (by omega) fun r n hr => wpAny_pure ⟨.bl (!r), H, I.tok n, rfl, q r hr⟩)
/-- found.add(k) -/
def rAddT (P : Program) (w : World) : V → List V → Hp → VK → Prop := fun x xs H Q => ∃ a b k L, x = V.ref a ∧ xs = [V.ref b] ∧ H a = some (SetT P w a L) ∧ H b = some (.tup (List.map kV k)) ∧ Known H L ∧ L.length + 1 < 64 ∧
  ∀ L', (k ∈ L.map (·.2) → L' = L) → (k ∉ L.map (·.2) → L'.Perm ((b, k) :: L)) → Q .non (upd H a (SetT P w a L'))
theorem mt_addT (hu : X.A.units + 16 < cLine) : MtR X "set.add" (rAddT X.prog X.w) := by
  intro pins s σ H x xs v us Q I rx rxs h
  obtain ⟨a, b, k, L, rfl, rfl, ha, hb, kn, few, q⟩ := h
  cases rx
  cases rxs with
  | cons ry rt =>
    cases rt
    cases ry
    obtain ⟨es, ep, t, T⟩ := setT_at I ha
    refine adds T (known_els I kn) (key_of I.hok hb) (by omega) few fun n h' L' es' ep' t' sb T' e1 e2 => ?_
    have he : ∃ u, h'.get? a = some u := let ⟨o, h1, _⟩ := T'.obj; ⟨o, h1⟩
    exact ⟨.non, upd H a (SetT X.prog X.w a L'), I.write (e := a) (t' := n) (by rw [ha]; trivial) (.inl rfl) (fun c u hc hu' => (sb.2 c hc).trans hu') he (setT_new T'), rfl, q L' e1 e2⟩
def tAddT (P : Program) (w : World) (to : TE) (t : TA) : TE := fun σ H Q => to σ H fun x H1 => (∃ a L, x = V.ref a ∧ H1 a = some (SetT P w a L)) ∧ t σ H1 fun xs H2 => rAddT P w x xs H2 Q
theorem pe_addT {o e : Expr} {es : List Expr} {to : TE} {t : TA} {apos cpos : Pos} (hu : X.A.units + 16 < cLine) (ho : PE X o to) (ha : PA X (e :: es) t) (hbase : attributeBase o "add" X.env (eval o X.env) = eval o X.env)
    (hfew : ((backTo cpos (starEach (e :: es) X.env)).all (fun x => !x.1) && (backToKw cpos (keywordEach [] X.env)).all (fun x => x.1.isSome)
      && decide ((e :: es).length + ([] : List Keyword).length + (if ([] : List Keyword).isEmpty then 0 else 1) < 30)) = true)
    (hline : (apos.endLine == cpos.line) = true) (hs : starEach (e :: es) X.env = (false, eval e X.env) :: starEach es X.env) (hplain : (backTo cpos (starEach es X.env)).any (·.1) = false) :
    PE X (.Call (.Attribute o "add" apos) (e :: es) [] cpos) (tAddT X.prog X.w to t) := by
  refine ⟨fun pins s σ H Q I h => ?_⟩
  refine wpAny_Call_method_late hbase hfew hline rfl (thn (ho.run pins s σ H _ I h) fun v s1 ⟨x, H1, I1, r1, ty, q1⟩ => ?_)
  obtain ⟨a, L, rfl, hka⟩ := ty
  obtain ⟨es', ep, t', T⟩ := setT_at I1 hka
  cases r1
  refine ⟨"set", "set.add", F.plainAttrs_set, F.slot_set_add, F.type_set_add, T.ty, T.nodict, ?_⟩
  have hA := ha.run cpos pins s1 σ H1 _ I1 q1
  rw [hs] at hA ⊢
  refine Calls.callWith_builtin (by show (false || (backTo cpos (starEach es X.env)).any (·.1)) = false; rw [hplain]; rfl) (Calls.evalArgs_plain ?_)
  exact thn hA fun us s2 ⟨xs, H2, I2, rs, q2⟩ => mt_addT hu pins s2 σ H2 (.ref a) xs (.ref a) us Q I2 rfl rs q2
end
end Ws

set_option Elab.async false
set_option linter.all false
set_option maxRecDepth 100000
set_option maxHeartbeats 2000000
namespace Wl
open PySem L2

/-! ## deep values, what lies at mutable places -/
inductive Dv where
  | non | bl (b : Bool) | int (i : Int) | str (x : Str) | byt (b : Array UInt8) | ref (a : Addr) | ty (n : String)
  | tup (xs : List Dv) | lst (xs : List Dv) | rol (xs : List Dv) | rot (xs : List Dv)

mutual
inductive Rep (K : PySem.W.Frag) (I : Hp) : Dv → V → Prop
  | non : Rep K I .non .non
  | bl (b : Bool) : Rep K I (.bl b) (.bl b)
  | int (i : Int) : Rep K I (.int i) (.int i)
  | str (x : Str) : Rep K I (.str x) (.str x)
  | byt (x : Array UInt8) : Rep K I (.byt x) (.byt x)
  | ref (a : Addr) : Rep K I (.ref a) (.ref a)
  | ty (n : String) : Rep K I (.ty n) (.ty n)
  | tup {a : Addr} {vs : List V} {xs : List Dv} : I a = some (.tup vs) → RepL K I xs vs → Rep K I (.tup xs) (.ref a)
  | rot {a : Addr} {vs : List V} {xs : List Dv} : SqT K I a vs → RepL K I xs vs → Rep K I (.rot xs) (.ref a)
  | lst {a : Addr} {vs : List V} {xs : List Dv} : I a = some (.lst vs) → RepL K I xs vs → Rep K I (.lst xs) (.ref a)
  | rol {a : Addr} {vs : List V} {xs : List Dv} : SqL K I a vs → RepL K I xs vs → Rep K I (.rol xs) (.ref a)
inductive RepL (K : PySem.W.Frag) (I : Hp) : List Dv → List V → Prop
  | nil : RepL K I [] []
  | cons {d : Dv} {v : V} {ds : List Dv} {vs : List V} : Rep K I d v → RepL K I ds vs → RepL K I (d :: ds) (v :: vs)
end

inductive Mo where
  | lst (xs : List Dv)
  | dK (kvs : List (Key × Dv))
  | dT (kvs : List (List Key × Dv))
  | fdK (o : Obj) (kvs : List (Key × Dv)) (vs : List (Key × V))
  | ins (C dx : Addr) (fs : List (Str × Dv))
  | xd (fs : List (Str × Dv))
  | st (P : Program) (w : World) (ks : List (List Key))
  | tab (q : Str)
  | fn (o : Obj) (b : Addr) (q : Str)
  | oth (o : HO)
abbrev Mu := Addr → Option Mo
def mset (μ : Mu) (a : Addr) (m : Mo) : Mu := fun b => if b = a then some m else μ b
def mdel (μ : Mu) (a : Addr) : Mu := fun b => if b = a then none else μ b
theorem mset_same {μ : Mu} {a : Addr} {m : Mo} : mset μ a m a = some m := if_pos rfl
theorem mset_ne {μ : Mu} {a b : Addr} {m : Mo} (h : b ≠ a) : mset μ a m b = μ b := if_neg h
theorem mdel_same {μ : Mu} {a : Addr} : mdel μ a a = none := if_pos rfl
theorem mdel_ne {μ : Mu} {a b : Addr} (h : b ≠ a) : mdel μ a b = μ b := if_neg h
theorem mset_mset {μ : Mu} {a : Addr} {m n : Mo} : mset (mset μ a m) a n = mset μ a n := by
  funext b; unfold mset; split <;> rfl

def RepP (K : PySem.W.Frag) (I : Hp) {κ : Type} : List (κ × Dv) → List (κ × V) → Prop := Paired fun (p : κ × Dv) (q : κ × V) => p.1 = q.1 ∧ Rep K I p.2 q.2
def MRep (K : PySem.W.Frag) (I H : Hp) (a : Addr) : Mo → Prop
  | .lst xs => ∃ vs, RepL K I xs vs ∧ H a = some (.lst vs)
  | .dK kvs => ∃ vs, RepP K I kvs vs ∧ H a = some (.dK vs)
  | .dT kvs => ∃ vs, RepP K I kvs vs ∧ H a = some (.dT vs)
  | .fdK o kvs vs => RepP K I kvs vs ∧ H a = some (.frz o (.dK vs))
  | .ins C dx fs => ∃ gs, RepP K I fs gs ∧ H a = some (.ins C dx gs)
  | .xd fs => ∃ gs, RepP K I fs gs ∧ H a = some (.xd gs)
  | .st P w ks => ∃ L : List Ws.El, (L.map (·.2)).Perm ks ∧ (∀ p ∈ L, I p.1 = some (.tup (List.map kV p.2))) ∧ H a = some (Ws.SetT P w a L)
  | .tab q => ∃ ps : Array Value, H a = some (.tbl ps) ∧ TriplesOk ps.toList ∧ ∀ (pos : Pos) (cv : Value), codeAmong pos ps.toList = some cv → ∃ c, cv = .ref c ∧ I c = some (LamX.CodeO c q)
  | .fn o b q => H a = some (.ext fun h => h.get? a = some o) ∧ I b = some (LamX.CodeO b q)
  | .oth o => H a = some o

theorem same_rd {I I' : Hp} {a : Addr} {u : HO} (s : Same I I') (h : Rd I a u) : Rd I' a u := by
  rcases h with h | ⟨o, h⟩
  · exact .inl (s _ _ h)
  · exact .inr ⟨o, s _ _ h⟩
theorem same_t {K : PySem.W.Frag} {I I' : Hp} {a : Addr} {xs : List V} (s : Same I I') (h : SqT K I a xs) : SqT K I' a xs := by
  rcases h with h | h
  · exact .inl (same_rd s h)
  · exact .inr h
theorem same_l {K : PySem.W.Frag} {I I' : Hp} {a : Addr} {xs : List V} (s : Same I I') (h : SqL K I a xs) : SqL K I' a xs := by
  rcases h with h | h
  · exact .inl (same_rd s h)
  · exact .inr h
section
variable {K : PySem.W.Frag} {I I' : Hp}
mutual
theorem Rep.mono (s : Same I I') : ∀ (d : Dv) (v : V), Rep K I d v → Rep K I' d v
  | .non, _, h => by cases h; exact .non
  | .bl b, _, h => by cases h; exact .bl _
  | .int _, _, h => by cases h; exact .int _
  | .str _, _, h => by cases h; exact .str _
  | .byt _, _, h => by cases h; exact .byt _
  | .ref _, _, h => by cases h; exact .ref _
  | .ty _, _, h => by cases h; exact .ty _
  | .tup xs, _, h => by
    cases h with
    | tup h1 h2 => exact .tup (s _ _ h1) (RepL.mono s xs _ h2)
  | .rot xs, _, h => by
    cases h with
    | rot h1 h2 => exact .rot (same_t s h1) (RepL.mono s xs _ h2)
  | .lst xs, _, h => by
    cases h with
    | lst h1 h2 => exact .lst (s _ _ h1) (RepL.mono s xs _ h2)
  | .rol xs, _, h => by
    cases h with
    | rol h1 h2 => exact .rol (same_l s h1) (RepL.mono s xs _ h2)
theorem RepL.mono (s : Same I I') : ∀ (ds : List Dv) (vs : List V), RepL K I ds vs → RepL K I' ds vs
  | [], _, h => by cases h; exact .nil
  | d :: ds, _, h => by
    cases h with
    | cons h1 h2 => exact .cons (Rep.mono s d _ h1) (RepL.mono s ds _ h2)
end
theorem RepP.mono {κ : Type} (s : Same I I') : ∀ {ps : List (κ × Dv)} {qs : List (κ × V)}, RepP K I ps qs → RepP K I' ps qs
  | _, _, .nil => .nil
  | _, _, .cons h t => .cons ⟨h.1, Rep.mono s _ _ h.2⟩ (RepP.mono s t)
theorem RepL.length : ∀ {ds : List Dv} {vs : List V}, RepL K I ds vs → ds.length = vs.length
  | _, _, .nil => rfl
  | _, _, .cons _ t => by rw [List.length_cons, List.length_cons, RepL.length t]
theorem RepL.get : ∀ {ds : List Dv} {vs : List V} {i : Nat} {d : Dv}, RepL K I ds vs → ds[i]? = some d → ∃ v, vs[i]? = some v ∧ Rep K I d v
  | _, _, _, _, .nil, e => by simp at e
  | _, _, 0, _, .cons r _, e => by simp at e; subst e; exact ⟨_, rfl, r⟩
  | _, _, i + 1, _, .cons _ t, e => by
    obtain ⟨v, h1, h2⟩ := RepL.get (i := i) t (by simpa using e)
    exact ⟨v, by simpa using h1, h2⟩
theorem RepL.getV : ∀ {ds : List Dv} {vs : List V} {i : Nat} {v : V}, RepL K I ds vs → vs[i]? = some v → ∃ d, ds[i]? = some d ∧ Rep K I d v
  | _, _, _, _, .nil, e => by simp at e
  | _, _, 0, _, .cons r _, e => by simp at e; subst e; exact ⟨_, rfl, r⟩
  | _, _, i + 1, _, .cons _ t, e => by
    obtain ⟨v, h1, h2⟩ := RepL.getV (i := i) t (by simpa using e)
    exact ⟨v, by simpa using h1, h2⟩
theorem RepL.append : ∀ {ds es : List Dv} {vs us : List V}, RepL K I ds vs → RepL K I es us → RepL K I (ds ++ es) (vs ++ us)
  | _, _, _, _, .nil, s => s
  | _, _, _, _, .cons r t, s => .cons r (RepL.append t s)
theorem RepL.take : ∀ {ds : List Dv} {vs : List V} (n : Nat), RepL K I ds vs → RepL K I (ds.take n) (vs.take n)
  | _, _, 0, _ => by simp; exact .nil
  | _, _, _ + 1, .nil => .nil
  | _, _, n + 1, .cons r t => .cons r (RepL.take n t)
theorem RepL.drop : ∀ {ds : List Dv} {vs : List V} (n : Nat), RepL K I ds vs → RepL K I (ds.drop n) (vs.drop n)
  | _, _, 0, r => r
  | _, _, _ + 1, .nil => .nil
  | _, _, n + 1, .cons _ t => RepL.drop n t
theorem RepL.set {d : Dv} {v : V} (r : Rep K I d v) : ∀ {ds : List Dv} {vs : List V} (i : Nat), RepL K I ds vs → RepL K I (ds.set i d) (vs.set i v)
  | _, _, _, .nil => .nil
  | _, _, 0, .cons _ t => .cons r t
  | _, _, i + 1, .cons q t => .cons q (RepL.set r i t)
end

/-! ## the state -/
abbrev DSt := List (Option Dv)
structure SatM (K : PySem.W.Frag) (I : Hp) (μ : Mu) (H : Hp) : Prop where
  ex : Same I H
  mu : ∀ a m, μ a = some m → I a = none ∧ MRep K I H a m
structure RepS (K : PySem.W.Frag) (I : Hp) (δ : DSt) (σ : St) : Prop where
  len : δ.length = σ.length
  at_ : ∀ (i : Nat) (d : Dv), δ[i]? = some (some d) → ∃ v, σ[i]? = some (some v) ∧ Rep K I d v
theorem MRep.mono {K : PySem.W.Frag} {I I' H : Hp} {a : Addr} (s : Same I I') : ∀ {m : Mo}, MRep K I H a m → MRep K I' H a m
  | .lst _, ⟨vs, r, h⟩ => ⟨vs, RepL.mono s _ _ r, h⟩
  | .dK _, ⟨vs, r, h⟩ => ⟨vs, r.mono s, h⟩
  | .dT _, ⟨vs, r, h⟩ => ⟨vs, r.mono s, h⟩
  | .fdK _ _ _, ⟨r, h⟩ => ⟨r.mono s, h⟩
  | .ins _ _ _, ⟨vs, r, h⟩ => ⟨vs, r.mono s, h⟩
  | .xd _, ⟨vs, r, h⟩ => ⟨vs, r.mono s, h⟩
  | .st _ _ _, ⟨L, p, r, h⟩ => ⟨L, p, fun q hq => s _ _ (r q hq), h⟩
  | .tab _, ⟨ps, h, t, c⟩ => ⟨ps, h, t, fun pos cv e => let ⟨x, a, b⟩ := c pos cv e; ⟨x, a, s _ _ b⟩⟩
  | .fn _ _ _, ⟨h, c⟩ => ⟨h, s _ _ c⟩
  | .oth _, h => h
theorem MRep.at_ {K : PySem.W.Frag} {I H H' : Hp} {a : Addr} (e : H' a = H a) : ∀ {m : Mo}, MRep K I H a m → MRep K I H' a m
  | .lst _, ⟨vs, r, h⟩ => ⟨vs, r, e.trans h⟩
  | .dK _, ⟨vs, r, h⟩ => ⟨vs, r, e.trans h⟩
  | .dT _, ⟨vs, r, h⟩ => ⟨vs, r, e.trans h⟩
  | .fdK _ _ _, ⟨r, h⟩ => ⟨r, e.trans h⟩
  | .ins _ _ _, ⟨vs, r, h⟩ => ⟨vs, r, e.trans h⟩
  | .xd _, ⟨vs, r, h⟩ => ⟨vs, r, e.trans h⟩
  | .st _ _ _, ⟨L, p, r, h⟩ => ⟨L, p, r, e.trans h⟩
  | .tab _, ⟨ps, h, t, c⟩ => ⟨ps, e.trans h, t, c⟩
  | .fn _ _ _, ⟨h, c⟩ => ⟨e.trans h, c⟩
  | .oth _, h => e.trans h
theorem MRep.some {K : PySem.W.Frag} {I H : Hp} {a : Addr} : ∀ {m : Mo}, MRep K I H a m → ∃ o, H a = some o
  | .lst _, ⟨vs, _, h⟩ => ⟨_, h⟩
  | .dK _, ⟨vs, _, h⟩ => ⟨_, h⟩
  | .dT _, ⟨vs, _, h⟩ => ⟨_, h⟩
  | .fdK _ _ _, ⟨_, h⟩ => ⟨_, h⟩
  | .ins _ _ _, ⟨vs, _, h⟩ => ⟨_, h⟩
  | .xd _, ⟨vs, _, h⟩ => ⟨_, h⟩
  | .st _ _ _, ⟨_, _, _, h⟩ => ⟨_, h⟩
  | .tab _, ⟨_, h, _⟩ => ⟨_, h⟩
  | .fn _ _ _, ⟨h, _⟩ => ⟨_, h⟩
  | .oth _, h => ⟨_, h⟩
section
variable {K : PySem.W.Frag} {I I' H H' : Hp} {μ : Mu} {a p : Addr} {o : HO} {m : Mo} {δ : DSt} {σ : St}
theorem RepS.mono (s : Same I I') (r : RepS K I δ σ) : RepS K I' δ σ := ⟨r.len, fun i d e => let ⟨v, h1, h2⟩ := r.at_ i d e; ⟨v, h1, Rep.mono s _ _ h2⟩⟩
theorem RepS.set {d : Dv} {v : V} (r : RepS K I δ σ) (i : Nat) (h : Rep K I d v) : RepS K I (δ.set i (some d)) (σ.set i (some v)) := by
  refine ⟨by rw [List.length_set, List.length_set, r.len], fun j e q => ?_⟩
  rw [List.getElem?_set] at q ⊢
  by_cases hij : i = j
  · rw [if_pos hij] at q ⊢
    by_cases hl : i < δ.length
    · rw [if_pos hl] at q
      rw [if_pos (r.len ▸ hl)]
      cases q
      exact ⟨v, rfl, h⟩
    · rw [if_neg hl] at q; cases q
  · rw [if_neg hij] at q ⊢
    exact r.at_ j e q
theorem same_new {I : Hp} {p : Addr} {o : HO} (hp : I p = none) : Same I (upd I p o) := fun b u e => by
  rw [upd_ne (ne_of_none e hp)]; exact e
/-- a new object that never changes -/
theorem SatM.newI (S : SatM K I μ H) (hp : H p = none) (o : HO) : Same I (upd I p o) ∧ SatM K (upd I p o) μ (upd H p o) := by
  have h0 : I p = none := S.ex.free hp
  refine ⟨same_new h0, fun b u e => ?_, fun a m e => ?_⟩
  · by_cases hb : b = p
    · subst hb; rw [upd_same] at e ⊢; exact e
    · rw [upd_ne hb] at e ⊢; exact S.ex b u e
  · obtain ⟨h1, h2⟩ := S.mu a m e
    obtain ⟨u, hu⟩ := h2.some
    have hap : a ≠ p := ne_of_none hu hp
    exact ⟨by rw [upd_ne hap]; exact h1, (h2.at_ (upd_ne hap)).mono (same_new h0)⟩
/-- the heap grows by something of no account -/
theorem SatM.keep (S : SatM K I μ H) (h : Same H H') : SatM K I μ H' := ⟨S.ex.trans h, fun a m e => by
  obtain ⟨h1, h2⟩ := S.mu a m e
  obtain ⟨u, hu⟩ := h2.some
  exact ⟨h1, h2.at_ ((h a u hu).trans hu.symm)⟩⟩
/-- a new or changed object at a mutable place -/
theorem SatM.setM (S : SatM K I μ H) (hp : I p = none) (h : MRep K I (upd H p o) p m) : SatM K I (mset μ p m) (upd H p o) := by
  refine ⟨fun b u e => ?_, fun a n e => ?_⟩
  · rw [upd_ne (ne_of_none e hp)]; exact S.ex b u e
  · by_cases ha : a = p
    · subst ha
      rw [mset_same] at e
      cases e
      exact ⟨hp, h⟩
    · rw [mset_ne ha] at e
      obtain ⟨h1, h2⟩ := S.mu a n e
      exact ⟨h1, h2.at_ (upd_ne ha)⟩
theorem SatM.memo (S : SatM K I μ H) (e : μ p = some m) : MRep K I H p m := (S.mu p m e).2
/-- what is mutable becomes fixed -/
theorem SatM.freeze {xs : List Dv} (S : SatM K I μ H) (e : μ p = some (.lst xs)) : ∃ vs, RepL K I xs vs ∧ Same I (upd I p (.lst vs)) ∧ SatM K (upd I p (.lst vs)) (mdel μ p) H := by
  obtain ⟨h1, vs, r, h2⟩ := S.mu p _ e
  refine ⟨vs, r, same_new h1, fun b u q => ?_, fun a n q => ?_⟩
  · by_cases hb : b = p
    · subst hb; rw [upd_same] at q; cases q; exact h2
    · rw [upd_ne hb] at q; exact S.ex b u q
  · by_cases ha : a = p
    · subst ha; rw [mdel_same] at q; cases q
    · rw [mdel_ne ha] at q
      obtain ⟨k1, k2⟩ := S.mu a n q
      exact ⟨by rw [upd_ne ha]; exact k1, k2.mono (same_new h1)⟩
end
end Wl

set_option Elab.async false
set_option linter.all false
set_option maxRecDepth 100000
set_option maxHeartbeats 2000000
namespace Wl
open PySem L2

/-! ## the context by its record, readings over deep values -/
abbrev DV := Dv → Mu → Prop
abbrev DE := DSt → Mu → DV → Prop
abbrev DT := DSt → Mu → (Bool → Mu → Prop) → Prop
abbrev DA := DSt → Mu → (List Dv → Mu → Prop) → Prop
abbrev DX := Addr → Option Addr → Mu → Prop
abbrev DXS := Addr → Option Addr → DSt → Mu → Prop
structure DEnds where
  nx : DSt → Mu → Prop
  rt : DV
  bk : DSt → Mu → Prop := fun _ _ => False
  ct : DSt → Mu → Prop := fun _ _ => False
abbrev DS := DEnds → DSt → Mu → Prop
abbrev DG := Dv → DSt → Mu → (DSt → Mu → Prop) → Prop
abbrev DGs := List Dv → DSt → Mu → (DSt → Mu → Prop) → Prop
abbrev D1 := Dv → Mu → DV → Prop
abbrev D2 := Dv → Dv → Mu → DV → Prop
abbrev DC := List Dv → Mu → DV → Prop
abbrev DM := Dv → List Dv → Mu → DV → Prop

structure Sg where
  P : Program
  w : World
  K : PySem.W.Frag
  mg : Str → Option Value
  base : Heap
  k : Nat
  N : List Str
  J : Hp
  W : WX
  E2 : DXS
  tr : ∀ I C d δ μ σ H, Same J I → SatM K I μ H → RepS K I δ σ → E2 C d δ μ → W (.ref C) d σ H
  cold : Bool
structure Is (S : Sg) (X : Cx) : Prop where
  prog : X.prog = S.P
  w : X.w = S.w
  K : X.K = S.K
  mg : X.mg = S.mg
  base : X.base = S.base
  N : X.N = S.N
  calm : S.cold = false → X.calm = true
  room : S.cold = false → Room S.k X.A
  tk : Takes X S.W
  own : PassesOwn (model X.prog X.w) X.A X.env X.xe
  units : X.A.units + 64 < cLine

def Up (K : PySem.W.Frag) (I : Hp) (Q : DV) (Q' : VK) : Prop := ∀ I' d v μ' H', Same I I' → SatM K I' μ' H' → Rep K I' d v → Q d μ' → Q' v H'
def UpT (K : PySem.W.Frag) (I : Hp) (Q : Bool → Mu → Prop) (Q' : Bool → Hp → Prop) : Prop := ∀ I' b μ' H', Same I I' → SatM K I' μ' H' → Q b μ' → Q' b H'
def UpA (K : PySem.W.Frag) (I : Hp) (Q : List Dv → Mu → Prop) (Q' : List V → Hp → Prop) : Prop := ∀ I' ds vs μ' H', Same I I' → SatM K I' μ' H' → RepL K I' ds vs → Q ds μ' → Q' vs H'
def UpS (K : PySem.W.Frag) (I : Hp) (Q : DSt → Mu → Prop) (Q' : St → Hp → Prop) : Prop := ∀ I' δ' σ' μ' H', Same I I' → SatM K I' μ' H' → RepS K I' δ' σ' → Q δ' μ' → Q' σ' H'
structure UpE (K : PySem.W.Frag) (I : Hp) (D : DEnds) (D' : Ends) : Prop where
  nx : UpS K I D.nx D'.nx
  rt : Up K I D.rt D'.rt
  bk : UpS K I D.bk D'.bk
  ct : UpS K I D.ct D'.ct
section
variable {K : PySem.W.Frag} {I I' : Hp}
theorem Up.mono {Q : DV} {Q' : VK} (s : Same I I') (u : Up K I Q Q') : Up K I' Q Q' := fun I2 d v μ H e => u I2 d v μ H (s.trans e)
theorem UpT.mono {Q : Bool → Mu → Prop} {Q' : Bool → Hp → Prop} (s : Same I I') (u : UpT K I Q Q') : UpT K I' Q Q' := fun I2 d μ H e => u I2 d μ H (s.trans e)
theorem UpS.mono {Q : DSt → Mu → Prop} {Q' : St → Hp → Prop} (s : Same I I') (u : UpS K I Q Q') : UpS K I' Q Q' := fun I2 d v μ H e => u I2 d v μ H (s.trans e)
theorem UpE.mono {D : DEnds} {D' : Ends} (s : Same I I') (u : UpE K I D D') : UpE K I' D D' := ⟨u.nx.mono s, u.rt.mono s, u.bk.mono s, u.ct.mono s⟩
end

def RE (S : Sg) (te : TE) (t : DE) : Prop := ∀ I δ μ σ H, Same S.J I → SatM S.K I μ H → RepS S.K I δ σ → ∀ Q Q', t δ μ Q → Up S.K I Q Q' → te σ H Q'
def RT (S : Sg) (tt : TT) (t : DT) : Prop := ∀ I δ μ σ H, Same S.J I → SatM S.K I μ H → RepS S.K I δ σ → ∀ Q Q', t δ μ Q → UpT S.K I Q Q' → tt σ H Q'
def RA (S : Sg) (ta : TA) (t : DA) : Prop := ∀ I δ μ σ H, Same S.J I → SatM S.K I μ H → RepS S.K I δ σ → ∀ Q Q', t δ μ Q → UpA S.K I Q Q' → ta σ H Q'
def RS (S : Sg) (ts : TS) (t : DS) : Prop := ∀ I δ μ σ H, Same S.J I → SatM S.K I μ H → RepS S.K I δ σ → ∀ D D', t D δ μ → UpE S.K I D D' → ts D' σ H
def RG (S : Sg) (g : TG) (t : DG) : Prop := ∀ I δ μ σ H d v, Same S.J I → SatM S.K I μ H → RepS S.K I δ σ → Rep S.K I d v → ∀ Q Q', t d δ μ Q → UpS S.K I Q Q' → g v σ H Q'
def RGs (S : Sg) (g : TGs) (t : DGs) : Prop := ∀ I δ μ σ H ds vs, Same S.J I → SatM S.K I μ H → RepS S.K I δ σ → RepL S.K I ds vs → ∀ Q Q', t ds δ μ Q → UpS S.K I Q Q' → g vs σ H Q'
def R2v (S : Sg) (r : R2) (f : D2) : Prop := ∀ I μ H, Same S.J I → SatM S.K I μ H → ∀ dx dy x y, Rep S.K I dx x → Rep S.K I dy y → ∀ Q Q', f dx dy μ Q → Up S.K I Q Q' → r x y H Q'
def R1v (S : Sg) (r : V → Hp → VK → Prop) (f : D1) : Prop := ∀ I μ H, Same S.J I → SatM S.K I μ H → ∀ dx x, Rep S.K I dx x → ∀ Q Q', f dx μ Q → Up S.K I Q Q' → r x H Q'
def RCv (S : Sg) (r : List V → Hp → VK → Prop) (f : DC) : Prop := ∀ I μ H, Same S.J I → SatM S.K I μ H → ∀ ds vs, RepL S.K I ds vs → ∀ Q Q', f ds μ Q → Up S.K I Q Q' → r vs H Q'
def RMv (S : Sg) (r : V → List V → Hp → VK → Prop) (f : DM) : Prop := ∀ I μ H, Same S.J I → SatM S.K I μ H → ∀ dx x ds vs, Rep S.K I dx x → RepL S.K I ds vs → ∀ Q Q', f dx ds μ Q → Up S.K I Q Q' → r x vs H Q'

section
variable (S : Sg) {ι : Type} (F : ι → Cx)
def WE (e : Expr) (t : DE) : Prop := ∃ te, (∀ i, Is S (F i) → PE (F i) e te) ∧ RE S te t
def WT (e : Expr) (t : DT) : Prop := ∃ te, (∀ i, Is S (F i) → PT (F i) e te) ∧ RT S te t
def WW (e : Expr) (t : DT) : Prop := ∃ te, (∀ i, Is S (F i) → PW (F i) e te) ∧ RT S te t
def WA (es : List Expr) (t : DA) : Prop := ∃ te, (∀ i, Is S (F i) → PA (F i) es te) ∧ RA S te t
def WS (st : Stmt) (t : DS) : Prop := ∃ te, (∀ i, Is S (F i) → PS (F i) st te) ∧ RS S te t
def WSs (st : List Stmt) (t : DS) : Prop := ∃ te, (∀ i, Is S (F i) → PSs (F i) st te) ∧ RS S te t
def WG (e : Expr) (t : DG) : Prop := ∃ te, (∀ i, Is S (F i) → PG (F i) e te) ∧ RG S te t
def WGs (es : List Expr) (t : DGs) : Prop := ∃ te, (∀ i, Is S (F i) → PGs (F i) es te) ∧ RGs S te t
/-- operations, by values; they may ask the room -/
def WO (f : Value → Value → Sem Value) (t : D2) : Prop := ∃ r, (∀ X, Is S X → OpR X f r) ∧ R2v S r t
def WU (f : Value → Sem Value) (t : D1) : Prop := ∃ r, (∀ X, Is S X → UnR X f r) ∧ R1v S r t
def WC (f : Value) (t : DC) : Prop := ∃ r, (∀ X, Is S X → CallR X f r) ∧ RCv S r t
end

/-! ## names and constants -/
section
variable {S : Sg} {ι : Type} {F : ι → Cx} {pos : Pos}
def vV (i : Nat) : DE := fun δ μ Q => ∃ d, δ[i]? = some (some d) ∧ Q d μ
def vC (d : Dv) : DE := fun _ μ Q => Q d μ
theorem we_var (i : Nat) {x : Str} (hN : S.N[i]? = some x := by rfl) (hv : ∀ j, Vis (F j).env.scope x := by first | exact fun _ => .inl rfl | exact fun _ => .inr (.inl rfl) | exact fun _ => .inr (.inr rfl))
    (hd : (x == ("__debug__" : Str)) = false := by decide) (hcd : (x == ("__classdict__" : Str)) = false := by decide) : WE S F (.Name x pos) (vV i) :=
  ⟨tVar i, fun j hj => pe_var (hj.N ▸ hN) (hv j) hd hcd, fun I δ μ σ H _ SM RS Q Q' ⟨d, e, q⟩ u => let ⟨v, h1, h2⟩ := RS.at_ i d e; ⟨v, h1, u I d v μ H (Same.refl I) SM h2 q⟩⟩
theorem re_c {d : Dv} {v : V} (h : ∀ I, Rep S.K I d v) : RE S (tC v) (vC d) := fun I δ μ σ H _ SM RS Q Q' q u => u I d v μ H (Same.refl I) SM (h I) q
theorem we_int {i : Int} {j} : WE S F (.Constant (.int i) j pos) (vC (.int i)) := ⟨_, fun _ _ => pe_int, re_c fun _ => .int i⟩
theorem we_bl {b : Bool} {j} : WE S F (.Constant (.bool b) j pos) (vC (.bl b)) := ⟨_, fun _ _ => pe_bl, re_c fun _ => .bl b⟩
theorem we_non {j} : WE S F (.Constant .none j pos) (vC .non) := ⟨_, fun _ _ => pe_non, re_c fun _ => .non⟩
theorem we_str {x : Str} {j} : WE S F (.Constant (.str x) j pos) (vC (.str x)) := ⟨_, fun _ _ => pe_str, re_c fun _ => .str x⟩
/-- a module's name that holds a number, a text, a class, a def .. -/
theorem we_glob {x : Str} {d : Dv} {v : V} {u : Value} (hm : S.mg x = some u) (r : RelV v u) (hr : ∀ I, Rep S.K I d v) (hg : ∀ j, Gl (F j) x := by exact fun _ => rfl) (hd : (x == ("__debug__" : Str)) = false := by decide) : WE S F (.Name x pos) (vC d) :=
  ⟨_, fun j hj => pe_glob (hg j) (hj.mg ▸ hm) r hd, re_c hr⟩
theorem we_bltn {x : Str} {d : Dv} {v : V} {u : Value} (hm : S.mg x = none) (hv : bootBuiltins x = some u) (r : RelV v u) (hr : ∀ I, Rep S.K I d v) (hg : ∀ j, Gl (F j) x := by exact fun _ => rfl) (hn : x ≠ "__name__" := by decide) (hd : (x == ("__debug__" : Str)) = false := by decide) :
    WE S F (.Name x pos) (vC d) := ⟨_, fun j hj => pe_bltn (hg j) (hj.mg ▸ hm) hv r hn hd, re_c hr⟩

/-! ## operations -/
def vOp (f : D2) (ta tb : DE) : DE := fun δ μ Q => ta δ μ fun x μ1 => tb δ μ1 fun y μ2 => f x y μ2 Q
def vUn (f : D1) (ta : DE) : DE := fun δ μ Q => ta δ μ fun x μ1 => f x μ1 Q
theorem re_op {r : R2} {f : D2} {ta tb : TE} {sa sb : DE} (hr : R2v S r f) (ha : RE S ta sa) (hb : RE S tb sb) : RE S (tOp r ta tb) (vOp f sa sb) := fun I δ μ σ H hJ SM hS Q Q' q u =>
  ha I δ μ σ H hJ SM hS _ _ q fun I1 x vx μ1 H1 e1 S1 r1 q1 =>
    hb I1 δ μ1 σ H1 (hJ.trans e1) S1 (hS.mono e1) _ _ q1 fun I2 y vy μ2 H2 e2 S2 r2 q2 =>
      hr I2 μ2 H2 ((hJ.trans e1).trans e2) S2 x y vx vy (Rep.mono e2 _ _ r1) r2 _ _ q2 (u.mono (e1.trans e2))
theorem re_un {r : V → Hp → VK → Prop} {f : D1} {ta : TE} {sa : DE} (hr : R1v S r f) (ha : RE S ta sa) : RE S (tUn r ta) (vUn f sa) := fun I δ μ σ H hJ SM hS Q Q' q u =>
  ha I δ μ σ H hJ SM hS _ _ q fun I1 x vx μ1 H1 e1 S1 r1 q1 => hr I1 μ1 H1 (hJ.trans e1) S1 x vx r1 _ _ q1 (u.mono e1)
theorem we_op {op : Operator} {f : D2} {a b : Expr} {sa sb : DE} (ho : WO S (binaryOp op) f) (ha : WE S F a sa) (hb : WE S F b sb) : WE S F (.BinOp a op b pos) (vOp f sa sb) :=
  let ⟨r, h1, h2⟩ := ho; let ⟨ta, a1, a2⟩ := ha; let ⟨tb, b1, b2⟩ := hb
  ⟨tOp r ta tb, fun i hi => pe_op (h1 _ hi) (a1 i hi) (b1 i hi), re_op h2 a2 b2⟩
theorem we_un {op : UnaryOp} {f : D1} {a : Expr} {sa : DE} (ho : WU S (unaryOp op) f) (ha : WE S F a sa) : WE S F (.UnaryOp op a pos) (vUn f sa) :=
  let ⟨r, h1, h2⟩ := ho; let ⟨ta, a1, a2⟩ := ha
  ⟨tUn r ta, fun i hi => pe_un (h1 _ hi) (a1 i hi), re_un h2 a2⟩
theorem we_cmp {op : CmpOp} {f : D2} {a b : Expr} {sa sb : DE} (ho : WO S (compareOp op) f) (ha : WE S F a sa) (hb : WE S F b sb) (hm : behindInMarks op b = false := by first | exact nobehind _ (by decide) (by decide) | rfl) : WE S F (.Compare a [op] [b] pos) (vOp f sa sb) :=
  let ⟨r, h1, h2⟩ := ho; let ⟨ta, a1, a2⟩ := ha; let ⟨tb, b1, b2⟩ := hb
  ⟨tOp r ta tb, fun i hi => pe_cmpR (h1 _ hi) (a1 i hi) (b1 i hi) hm, re_op h2 a2 b2⟩
/-! tests -/
def vTest (t : DE) : DT := fun δ μ Q => t δ μ fun x μ1 => match x with | .bl k => Q k μ1 | _ => False
theorem rt_test {te : TE} {t : DE} (h : RE S te t) : RT S (tTest te) (vTest t) := fun I δ μ σ H hJ SM hS Q Q' q u =>
  h I δ μ σ H hJ SM hS _ _ q fun I1 x vx μ1 H1 e1 S1 r1 q1 => by
    cases r1 <;> first | exact False.elim q1 | exact ⟨_, rfl, u I1 _ μ1 H1 e1 S1 q1⟩
theorem wt_cmp {op : CmpOp} {f : D2} {a b : Expr} {sa sb : DE} (ho : WO S (compareOp op) f) (ha : WE S F a sa) (hb : WE S F b sb) (hm : behindInMarks op b = false := by first | exact nobehind _ (by decide) (by decide) | rfl) : WT S F (.Compare a [op] [b] pos) (vTest (vOp f sa sb)) :=
  let ⟨r, h1, h2⟩ := ho; let ⟨ta, a1, a2⟩ := ha; let ⟨tb, b1, b2⟩ := hb
  ⟨_, fun i hi => pt_cmpR (h1 _ hi) (a1 i hi) (b1 i hi) hm, rt_test (re_op h2 a2 b2)⟩
def vChain (f f' : D2) (ta tb tc : DE) : DE := fun δ μ Q => ta δ μ fun x μ1 => tb δ μ1 fun y μ2 => f x y μ2 fun z μ3 => match z with
  | .bl true => tc δ μ3 fun w' μ4 => f' y w' μ4 Q
  | .bl false => Q (.bl false) μ3
  | _ => False
theorem re_chain {r r' : R2} {f f' : D2} {ta tb tc : TE} {sa sb sc : DE} (hr : R2v S r f) (hr' : R2v S r' f') (ha : RE S ta sa) (hb : RE S tb sb) (hc : RE S tc sc) : RE S (tChain r r' ta tb tc) (vChain f f' sa sb sc) := fun I δ μ σ H hJ SM hS Q Q' q u =>
  ha I δ μ σ H hJ SM hS _ _ q fun I1 x vx μ1 H1 e1 S1 r1 q1 =>
    hb I1 δ μ1 σ H1 (hJ.trans e1) S1 (hS.mono e1) _ _ q1 fun I2 y vy μ2 H2 e2 S2 r2 q2 =>
      hr I2 μ2 H2 ((hJ.trans e1).trans e2) S2 x y vx vy (Rep.mono e2 _ _ r1) r2 _ _ q2 fun I3 z vz μ3 H3 e3 S3 r3 q3 => by
        cases r3 <;> first
          | exact False.elim q3
          | (rename_i b
             refine ⟨b, rfl, ?_⟩
             cases b with
             | true =>
               rw [if_pos rfl]
               exact hc I3 δ μ3 σ H3 (((hJ.trans e1).trans e2).trans e3) S3 (hS.mono ((e1.trans e2).trans e3)) _ _ q3 fun I4 w' vw μ4 H4 e4 S4 r4 q4 =>
                 hr' I4 μ4 H4 ((((hJ.trans e1).trans e2).trans e3).trans e4) S4 y w' vy vw (Rep.mono (e3.trans e4) _ _ r2) r4 _ _ q4 (u.mono (((e1.trans e2).trans e3).trans e4))
             | false =>
               rw [if_neg Bool.false_ne_true]
               exact u I3 _ _ μ3 H3 ((e1.trans e2).trans e3) S3 (.bl false) q3)
theorem we_chain {op op' : CmpOp} {f f' : D2} {a b c : Expr} {sa sb sc : DE} (ho : WO S (compareOp op) f) (ho' : WO S (compareOp op') f') (ha : WE S F a sa) (hb : WE S F b sb) (hc : WE S F c sc) (hm : lastMarks [op, op'] [b, c] = false := by with_unfolding_all rfl) :
    WE S F (.Compare a [op, op'] [b, c] pos) (vChain f f' sa sb sc) :=
  let ⟨r, h1, h2⟩ := ho; let ⟨r', h1', h2'⟩ := ho'; let ⟨ta, a1, a2⟩ := ha; let ⟨tb, b1, b2⟩ := hb; let ⟨tc, c1, c2⟩ := hc
  ⟨_, fun i hi => pe_chain (h1 _ hi) (h1' _ hi) (a1 i hi) (b1 i hi) (c1 i hi) hm, re_chain h2 h2' a2 b2 c2⟩
theorem wt_chain {op op' : CmpOp} {f f' : D2} {a b c : Expr} {sa sb sc : DE} (ho : WO S (compareOp op) f) (ho' : WO S (compareOp op') f') (ha : WE S F a sa) (hb : WE S F b sb) (hc : WE S F c sc) (hm : lastMarks [op, op'] [b, c] = false := by with_unfolding_all rfl) :
    WT S F (.Compare a [op, op'] [b, c] pos) (vTest (vChain f f' sa sb sc)) :=
  let ⟨r, h1, h2⟩ := ho; let ⟨r', h1', h2'⟩ := ho'; let ⟨ta, a1, a2⟩ := ha; let ⟨tb, b1, b2⟩ := hb; let ⟨tc, c1, c2⟩ := hc
  ⟨_, fun i hi => pt_chain (h1 _ hi) (h1' _ hi) (a1 i hi) (b1 i hi) (c1 i hi) hm, rt_test (re_chain h2 h2' a2 b2 c2)⟩
/-- a value's truth -/
def gTru (x : Dv) (μ : Mu) (Q : Bool → Prop) : Prop := match x with
  | .non => Q false
  | .bl b => Q b
  | .int i => Q (i != 0)
  | .str y => y.length ≤ sizeLine ∧ Q ((y.length : Int) != 0)
  | .tup xs => Q (!xs.isEmpty)
  | .rot xs => Q (!xs.isEmpty)
  | .lst xs => Q (!xs.isEmpty)
  | .rol xs => Q (!xs.isEmpty)
  | .ref p => match μ p with
    | some (.lst xs) => Q (!xs.isEmpty)
    | some (.dK kvs) => Q (!kvs.isEmpty)
    | _ => False
  | _ => False
theorem RepL.isEmpty {K : PySem.W.Frag} {I : Hp} {ds : List Dv} {vs : List V} (r : RepL K I ds vs) : ds.isEmpty = vs.isEmpty := by cases r <;> rfl
theorem RepP.isEmpty {K : PySem.W.Frag} {I : Hp} {κ : Type} {ds : List (κ × Dv)} {vs : List (κ × V)} (r : RepP K I ds vs) : ds.isEmpty = vs.isEmpty := by cases r <;> rfl
theorem gTru_ok {K : PySem.W.Frag} {I H : Hp} {μ : Mu} (SM : SatM K I μ H) {d : Dv} {v : V} (r : Rep K I d v) {Q : Bool → Prop} (q : gTru d μ Q) : ∃ k, TruV K v H k ∧ Q k := by
  cases r with
  | non => exact ⟨_, rfl, q⟩
  | bl b => exact ⟨_, rfl, q⟩
  | int i => exact ⟨_, rfl, q⟩
  | str x => exact ⟨_, ⟨q.1, rfl⟩, q.2⟩
  | byt x => exact q.elim
  | ty n => exact q.elim
  | tup h1 h2 => exact ⟨_, .inr (.inl ⟨_, .inl (.inl (SM.ex _ _ h1)), rfl⟩), by rw [← h2.isEmpty]; exact q⟩
  | rot h1 h2 => exact ⟨_, .inr (.inl ⟨_, same_t SM.ex h1, rfl⟩), by rw [← h2.isEmpty]; exact q⟩
  | lst h1 h2 => exact ⟨_, .inl ⟨_, .inl (.inl (SM.ex _ _ h1)), rfl⟩, by rw [← h2.isEmpty]; exact q⟩
  | rol h1 h2 => exact ⟨_, .inl ⟨_, same_l SM.ex h1, rfl⟩, by rw [← h2.isEmpty]; exact q⟩
  | ref a =>
    unfold gTru at q
    cases e : μ a with
    | none => simp only [e] at q
    | some m =>
      have hm := SM.memo e
      cases m with
      | lst xs => simp only [e] at q; obtain ⟨vs, r, h⟩ := hm; exact ⟨_, .inl ⟨_, .inl (.inl h), rfl⟩, by rw [← r.isEmpty]; exact q⟩
      | dK kvs => simp only [e] at q; obtain ⟨vs, r, h⟩ := hm; exact ⟨_, .inr (.inr ⟨_, h, rfl⟩), by rw [← r.isEmpty]; exact q⟩
      | _ => simp only [e] at q
def vTru (t : DE) : DT := fun δ μ Q => t δ μ fun x μ1 => gTru x μ1 fun b => Q b μ1
theorem wt_tru {a : Expr} {sa : DE} (ha : WE S F a sa) (he : ∀ env, ∀ whole, isTrue a env whole = (do let v ← whole; standAt a.pos; holding [v] (truthy v)) := by exact fun _ _ => rfl) : WT S F a (vTru sa) :=
  let ⟨ta, a1, a2⟩ := ha
  ⟨fun σ H Q => ta σ H fun x H' => ∃ k, TruV S.K x H' k ∧ Q k H', fun i hi => by have h := pt_truth (a1 i hi) (he _); rw [hi.K] at h; exact h, fun I δ μ σ H hJ SM hS Q Q' q u =>
    a2 I δ μ σ H hJ SM hS _ _ q fun I1 x vx μ1 H1 e1 S1 r1 q1 => let ⟨k, h1, h2⟩ := gTru_ok S1 r1 q1; ⟨k, h1, u I1 k μ1 H1 e1 S1 h2⟩⟩
def vNot (t : DT) : DT := fun δ μ Q => t δ μ fun b μ1 => Q (!b) μ1
theorem wt_not {a : Expr} {sa : DT} (ha : WT S F a sa) : WT S F (.UnaryOp .Not a pos) (vNot sa) :=
  let ⟨ta, a1, a2⟩ := ha
  ⟨_, fun i hi => pt_not (a1 i hi), fun I δ μ σ H hJ SM hS Q Q' q u => a2 I δ μ σ H hJ SM hS _ _ q fun I1 b μ1 H1 e1 S1 q1 => u I1 _ μ1 H1 e1 S1 q1⟩
def vAnd (t s : DT) : DT := fun δ μ Q => t δ μ fun b μ1 => if b = true then s δ μ1 Q else Q false μ1
def vOr (t s : DT) : DT := fun δ μ Q => t δ μ fun b μ1 => if b = true then Q true μ1 else s δ μ1 Q
theorem ww_and1 {a : Expr} {sa : DT} (ha : WT S F a sa) : WW S F (.BoolOp .And [a] pos) sa := let ⟨ta, a1, a2⟩ := ha; ⟨_, fun i hi => pw_and1 (a1 i hi), a2⟩
theorem ww_or1 {a : Expr} {sa : DT} (ha : WT S F a sa) : WW S F (.BoolOp .Or [a] pos) sa := let ⟨ta, a1, a2⟩ := ha; ⟨_, fun i hi => pw_or1 (a1 i hi), a2⟩
theorem rt_and {ta tb : TT} {sa sb : DT} (a2 : RT S ta sa) (b2 : RT S tb sb) : RT S (tAnd ta tb) (vAnd sa sb) := fun I δ μ σ H hJ SM hS Q Q' q u =>
  a2 I δ μ σ H hJ SM hS _ _ q fun I1 b μ1 H1 e1 S1 q1 => by
    cases b with
    | true => rw [if_pos rfl] at q1 ⊢; exact b2 I1 δ μ1 σ H1 (hJ.trans e1) S1 (hS.mono e1) _ _ q1 (u.mono e1)
    | false => rw [if_neg Bool.false_ne_true] at q1 ⊢; exact u I1 _ μ1 H1 e1 S1 q1
theorem rt_or {ta tb : TT} {sa sb : DT} (a2 : RT S ta sa) (b2 : RT S tb sb) : RT S (tOr ta tb) (vOr sa sb) := fun I δ μ σ H hJ SM hS Q Q' q u =>
  a2 I δ μ σ H hJ SM hS _ _ q fun I1 b μ1 H1 e1 S1 q1 => by
    cases b with
    | true => rw [if_pos rfl] at q1 ⊢; exact u I1 _ μ1 H1 e1 S1 q1
    | false => rw [if_neg Bool.false_ne_true] at q1 ⊢; exact b2 I1 δ μ1 σ H1 (hJ.trans e1) S1 (hS.mono e1) _ _ q1 (u.mono e1)
theorem ww_and {a b : Expr} {rest : List Expr} {sa sb : DT} (ha : WT S F a sa) (hb : WW S F (.BoolOp .And (b :: rest) pos) sb) : WW S F (.BoolOp .And (a :: b :: rest) pos) (vAnd sa sb) :=
  let ⟨ta, a1, a2⟩ := ha; let ⟨tb, b1, b2⟩ := hb
  ⟨_, fun i hi => pw_and (a1 i hi) (b1 i hi), rt_and a2 b2⟩
theorem ww_or {a b : Expr} {rest : List Expr} {sa sb : DT} (ha : WT S F a sa) (hb : WW S F (.BoolOp .Or (b :: rest) pos) sb) : WW S F (.BoolOp .Or (a :: b :: rest) pos) (vOr sa sb) :=
  let ⟨ta, a1, a2⟩ := ha; let ⟨tb, b1, b2⟩ := hb
  ⟨_, fun i hi => pw_or (a1 i hi) (b1 i hi), rt_or a2 b2⟩
theorem wt_bool {e : Expr} {t : DT} (h : WW S F e t) : WT S F e t := let ⟨te, h1, h2⟩ := h; ⟨te, fun i hi => (h1 i hi).pt, h2⟩
/-! as values -/
def vTruth (x : Dv) (Q : Bool → Prop) : Prop := match x with | .bl b => Q b | _ => False
def vAndV (ta tb : DE) : DE := fun δ μ Q => ta δ μ fun x μ1 => vTruth x fun c => if c = true then tb δ μ1 Q else Q (.bl false) μ1
def vOrV (ta tb : DE) : DE := fun δ μ Q => ta δ μ fun x μ1 => vTruth x fun c => if c = true then Q (.bl true) μ1 else tb δ μ1 Q
def vNotV (ta : DE) : DE := fun δ μ Q => ta δ μ fun x μ1 => vTruth x fun c => Q (.bl (!c)) μ1
theorem vTruth_ok {K : PySem.W.Frag} {I : Hp} {d : Dv} {v : V} (r : Rep K I d v) {Q : Bool → Prop} (q : vTruth d Q) : ∃ c, v = .bl c ∧ Q c := by
  cases r <;> first | exact False.elim q | exact ⟨_, rfl, q⟩
theorem we_one {op : BoolOp} {a : Expr} {t : DE} (h : WE S F a t) : WE S F (.BoolOp op [a] pos) t := let ⟨te, h1, h2⟩ := h; ⟨te, fun i hi => pe_one (h1 i hi), h2⟩
theorem we_and {a b : Expr} {rest : List Expr} {sa sb : DE} (ha : WE S F a sa) (hb : WE S F (.BoolOp .And (b :: rest) pos) sb) : WE S F (.BoolOp .And (a :: b :: rest) pos) (vAndV sa sb) :=
  let ⟨ta, a1, a2⟩ := ha; let ⟨tb, b1, b2⟩ := hb
  ⟨_, fun i hi => pe_and (a1 i hi) (b1 i hi), fun I δ μ σ H hJ SM hS Q Q' q u => a2 I δ μ σ H hJ SM hS _ _ q fun I1 x vx μ1 H1 e1 S1 r1 q1 => by
    obtain ⟨c, ec, q2⟩ := vTruth_ok r1 q1
    refine ⟨c, ec, ?_⟩
    cases c with
    | true => rw [if_pos rfl] at q2 ⊢; exact b2 I1 δ μ1 σ H1 (hJ.trans e1) S1 (hS.mono e1) _ _ q2 (u.mono e1)
    | false => rw [if_neg Bool.false_ne_true] at q2 ⊢; exact u I1 _ _ μ1 H1 e1 S1 (.bl _) q2⟩
theorem we_or {a b : Expr} {rest : List Expr} {sa sb : DE} (ha : WE S F a sa) (hb : WE S F (.BoolOp .Or (b :: rest) pos) sb) : WE S F (.BoolOp .Or (a :: b :: rest) pos) (vOrV sa sb) :=
  let ⟨ta, a1, a2⟩ := ha; let ⟨tb, b1, b2⟩ := hb
  ⟨_, fun i hi => pe_or (a1 i hi) (b1 i hi), fun I δ μ σ H hJ SM hS Q Q' q u => a2 I δ μ σ H hJ SM hS _ _ q fun I1 x vx μ1 H1 e1 S1 r1 q1 => by
    obtain ⟨c, ec, q2⟩ := vTruth_ok r1 q1
    refine ⟨c, ec, ?_⟩
    cases c with
    | false => rw [if_neg Bool.false_ne_true] at q2 ⊢; exact b2 I1 δ μ1 σ H1 (hJ.trans e1) S1 (hS.mono e1) _ _ q2 (u.mono e1)
    | true => rw [if_pos rfl] at q2 ⊢; exact u I1 _ _ μ1 H1 e1 S1 (.bl _) q2⟩
theorem we_not {a : Expr} {sa : DE} (ha : WE S F a sa) : WE S F (.UnaryOp .Not a pos) (vNotV sa) :=
  let ⟨ta, a1, a2⟩ := ha
  ⟨_, fun i hi => pe_not (a1 i hi), fun I δ μ σ H hJ SM hS Q Q' q u => a2 I δ μ σ H hJ SM hS _ _ q fun I1 x vx μ1 H1 e1 S1 r1 q1 => by
    obtain ⟨c, ec, q2⟩ := vTruth_ok r1 q1
    exact ⟨c, ec, u I1 _ _ μ1 H1 e1 S1 (.bl _) q2⟩⟩
def vIf (c : DT) (ta tb : DE) : DE := fun δ μ Q => c δ μ fun b μ1 => if b = true then ta δ μ1 Q else tb δ μ1 Q
theorem we_if {c a b : Expr} {sc : DT} {sa sb : DE} (hc : WT S F c sc) (ha : WE S F a sa) (hb : WE S F b sb) : WE S F (.IfExp c a b pos) (vIf sc sa sb) :=
  let ⟨tc, c1, c2⟩ := hc; let ⟨ta, a1, a2⟩ := ha; let ⟨tb, b1, b2⟩ := hb
  ⟨_, fun i hi => pe_ifExp (c1 i hi) (a1 i hi) (b1 i hi), fun I δ μ σ H hJ SM hS Q Q' q u => c2 I δ μ σ H hJ SM hS _ _ q fun I1 b μ1 H1 e1 S1 q1 => by
    cases b with
    | true => rw [if_pos rfl] at q1 ⊢; exact a2 I1 δ μ1 σ H1 (hJ.trans e1) S1 (hS.mono e1) _ _ q1 (u.mono e1)
    | false => rw [if_neg Bool.false_ne_true] at q1 ⊢; exact b2 I1 δ μ1 σ H1 (hJ.trans e1) S1 (hS.mono e1) _ _ q1 (u.mono e1)⟩

/-! ## arguments, displays -/
def vNil : DA := fun _ μ Q => Q [] μ
def vCons (t : DE) (r : DA) : DA := fun δ μ Q => t δ μ fun x μ1 => r δ μ1 fun xs μ2 => Q (x :: xs) μ2
theorem wa_nil : WA S F [] vNil := ⟨_, fun _ _ => pa_nil, fun I δ μ σ H hJ SM hS Q Q' q u => u I [] [] μ H (Same.refl I) SM .nil q⟩
theorem wa_cons {e : Expr} {es : List Expr} {t : DE} {r : DA} (he : WE S F e t) (hr : WA S F es r) (hs : ∀ env, starEach (e :: es) env = (false, eval e env) :: starEach es env := by exact fun _ => rfl) : WA S F (e :: es) (vCons t r) :=
  let ⟨ta, a1, a2⟩ := he; let ⟨tb, b1, b2⟩ := hr
  ⟨_, fun i hi => pa_cons (a1 i hi) (b1 i hi) (hs _), fun I δ μ σ H hJ SM hS Q Q' q u => a2 I δ μ σ H hJ SM hS _ _ q fun I1 x vx μ1 H1 e1 S1 r1 q1 =>
    b2 I1 δ μ1 σ H1 (hJ.trans e1) S1 (hS.mono e1) _ _ q1 fun I2 ds vs μ2 H2 e2 S2 r2 q2 => u I2 _ _ μ2 H2 (e1.trans e2) S2 (.cons (Rep.mono e2 _ _ r1) r2) q2⟩
def vTup (t : DA) : DE := fun δ μ Q => t δ μ fun xs μ1 => xs.length ≤ sizeLine ∧ Q (.tup xs) μ1
def vLst (t : DA) : DE := fun δ μ Q => t δ μ fun xs μ1 => xs.length ≤ sizeLine ∧ Q (.lst xs) μ1
/-- a list that will change -/
def vLstM (t : DA) : DE := fun δ μ Q => t δ μ fun xs μ1 => xs.length ≤ sizeLine ∧ ∀ p, μ1 p = none → Q (.ref p) (mset μ1 p (.lst xs))
theorem we_tup {es : List Expr} {t : DA} {x1} (h : WA S F es t) : WE S F (.Tuple es x1 pos) (vTup t) :=
  let ⟨ta, a1, a2⟩ := h
  ⟨_, fun i hi => pe_tup (a1 i hi), fun I δ μ σ H hJ SM hS Q Q' q u => a2 I δ μ σ H hJ SM hS _ _ q fun I1 ds vs μ1 H1 e1 S1 r1 q1 => ⟨r1.length ▸ q1.1, fun p hp => by
    obtain ⟨s1, s2⟩ := S1.newI hp (.tup vs)
    exact u _ _ _ μ1 _ (e1.trans s1) s2 (.tup upd_same (RepL.mono s1 _ _ r1)) q1.2⟩⟩
theorem we_lst {es : List Expr} {t : DA} (h : WA S F es t) : WE S F (.List es pos) (vLst t) :=
  let ⟨ta, a1, a2⟩ := h
  ⟨_, fun i hi => pe_lst (a1 i hi), fun I δ μ σ H hJ SM hS Q Q' q u => a2 I δ μ σ H hJ SM hS _ _ q fun I1 ds vs μ1 H1 e1 S1 r1 q1 => ⟨r1.length ▸ q1.1, fun p hp => by
    obtain ⟨s1, s2⟩ := S1.newI hp (.lst vs)
    exact u _ _ _ μ1 _ (e1.trans s1) s2 (.lst upd_same (RepL.mono s1 _ _ r1)) q1.2⟩⟩
theorem SatM.muNone {K : PySem.W.Frag} {I H : Hp} {μ : Mu} {p : Addr} (S1 : SatM K I μ H) (hp : H p = none) : μ p = none := by
  cases e : μ p with
  | none => rfl
  | some m => obtain ⟨o, ho⟩ := (S1.memo e).some; rw [hp] at ho; cases ho
theorem we_lstM {es : List Expr} {t : DA} (h : WA S F es t) : WE S F (.List es pos) (vLstM t) :=
  let ⟨ta, a1, a2⟩ := h
  ⟨_, fun i hi => pe_lst (a1 i hi), fun I δ μ σ H hJ SM hS Q Q' q u => a2 I δ μ σ H hJ SM hS _ _ q fun I1 ds vs μ1 H1 e1 S1 r1 q1 => ⟨r1.length ▸ q1.1, fun p hp =>
    u I1 _ _ _ _ e1 (S1.setM (m := .lst ds) (S1.ex.free hp) ⟨vs, r1, upd_same⟩) (.ref p) (q1.2 p (S1.muNone hp))⟩⟩
end
end Wl

set_option Elab.async false
set_option linter.all false
set_option maxRecDepth 100000
set_option maxHeartbeats 2000000
namespace Wl
open PySem L2

/-! ## operations by value -/
theorem OpR.or2 {X : Cx} {f : Value → Value → Sem Value} {r r' : R2} (h : OpR X f r) (h' : OpR X f r') : OpR X f (fun x y H Q => r x y H Q ∨ r' x y H Q) := by
  intro pins s σ H x y v u Q I rx ry q
  rcases q with q | q
  · exact h pins s σ H x y v u Q I rx ry q
  · exact h' pins s σ H x y v u Q I rx ry q
theorem CallR.or2 {X : Cx} {f : Value} {r r' : List V → Hp → VK → Prop} (h : CallR X f r) (h' : CallR X f r') : CallR X f (fun xs H Q => r xs H Q ∨ r' xs H Q) := by
  intro pins s σ H xs us Q I rs q
  rcases q with q | q
  · exact h pins s σ H xs us Q I rs q
  · exact h' pins s σ H xs us Q I rs q
section
variable {S : Sg}
def gAdd : D2
  | .int i, .int j, μ, Q => Q (.int (i + j)) μ
  | .str i, .str j, μ, Q => i.length + j.length ≤ sizeLine ∧ Q (.str (i ++ j)) μ
  | .tup xs, .tup ys, μ, Q => xs.length + ys.length ≤ sizeLine ∧ Q (.tup (xs ++ ys)) μ
  | .lst xs, .lst ys, μ, Q => xs.length + ys.length ≤ sizeLine ∧ Q (.lst (xs ++ ys)) μ
  | _, _, _, _ => False
theorem wo_add : WO S (binaryOp .Add) gAdd := by
  refine ⟨fun x y H Q => (rI0 (fun i j => .int (i + j)) x y H Q ∨ (∃ i j, x = .str i ∧ y = .str j ∧ i.length + j.length ≤ sizeLine ∧ Q (.str (i ++ j)) H)) ∨ (rCatA S.K x y H Q ∨ rCat x y H Q),
    fun X hX => OpR.or2 (OpR.or2 op_add op_add_str) (OpR.or2 (hX.K ▸ op_catA) op_cat), ?_⟩
  intro I μ H _ SM dx dy x y rx ry Q Q' q u
  cases rx <;> cases ry <;> first | exact False.elim q | skip
  · exact .inl (.inl ⟨_, _, rfl, rfl, u I _ _ μ H (Same.refl I) SM (.int _) q⟩)
  · exact .inl (.inr ⟨_, _, rfl, rfl, q.1, u I _ _ μ H (Same.refl I) SM (.str _) q.2⟩)
  · rename_i a vs xs h1 h2 b us ys k1 k2
    refine .inr (.inl ⟨_, _, _, _, rfl, rfl, .inl (.inl (SM.ex _ _ h1)), .inl (.inl (SM.ex _ _ k1)), by rw [← h2.length, ← k2.length]; exact q.1, ?_⟩)
    have r := h2.append k2
    refine ⟨fun e => u I _ _ μ H (Same.refl I) SM ?_ q.2, fun _ e => u I _ _ μ H (Same.refl I) SM ?_ q.2, fun e1 e2 p hp => ?_⟩
    · subst e
      exact .tup k1 r
    · subst e
      exact .tup h1 (by rw [List.append_nil] at r; exact r)
    · obtain ⟨s1, s2⟩ := SM.newI hp (.tup (vs ++ us))
      exact u _ _ _ μ _ s1 s2 (.tup upd_same (RepL.mono s1 _ _ r)) q.2
  · rename_i a vs xs h1 h2 b us ys k1 k2
    refine .inr (.inr ⟨_, _, _, _, rfl, rfl, SM.ex _ _ h1, SM.ex _ _ k1, by rw [← h2.length, ← k2.length]; exact q.1, fun p hp => ?_⟩)
    obtain ⟨s1, s2⟩ := SM.newI hp (.lst (vs ++ us))
    exact u _ _ _ μ _ s1 s2 (.lst upd_same (RepL.mono s1 _ _ (h2.append k2))) q.2
def gI (C : Int → Int → Prop) (g : Int → Int → Dv) : D2
  | .int i, .int j, μ, Q => C i j ∧ Q (g i j) μ
  | _, _, _, _ => False
theorem wo_int {f : Value → Value → Sem Value} {C : Int → Int → Prop} {g : Int → Int → V} {g' : Int → Int → Dv} (h : ∀ X, OpR X f (rI C g)) (hg : ∀ I i j, Rep S.K I (g' i j) (g i j)) : WO S f (gI C g') := by
  refine ⟨_, fun X _ => h X, ?_⟩
  intro I μ H _ SM dx dy x y rx ry Q Q' q u
  cases rx <;> cases ry <;> first | exact False.elim q | skip
  exact ⟨_, _, rfl, rfl, q.1, u I _ _ μ H (Same.refl I) SM (hg I _ _) q.2⟩
def gI0 (g : Int → Int → Dv) : D2
  | .int i, .int j, μ, Q => Q (g i j) μ
  | _, _, _, _ => False
theorem wo_int0 {f : Value → Value → Sem Value} {g : Int → Int → V} {g' : Int → Int → Dv} (h : ∀ X, OpR X f (rI0 g)) (hg : ∀ I i j, Rep S.K I (g' i j) (g i j)) : WO S f (gI0 g') := by
  refine ⟨_, fun X _ => h X, ?_⟩
  intro I μ H _ SM dx dy x y rx ry Q Q' q u
  cases rx <;> cases ry <;> first | exact False.elim q | skip
  exact ⟨_, _, rfl, rfl, u I _ _ μ H (Same.refl I) SM (hg I _ _) q⟩
def gSub : D2 := gI0 fun i j => .int (i - j)
def gMul : D2 := gI CMul fun i j => .int (i * j)
def gFdiv : D2 := gI CDiv fun i j => .int (i / j)
def gMod : D2 := gI (fun _ j => 0 < j) fun i j => .int (i % j)
def gPow : D2 := gI CPow fun i j => .int (i ^ j.toNat)
def gLt : D2 := gI0 fun i j => .bl (decide (i < j))
def gLe : D2 := gI0 fun i j => .bl (decide (i ≤ j))
def gGt : D2 := gI0 fun i j => .bl (decide (j < i))
def gGe : D2 := gI0 fun i j => .bl (decide (j ≤ i))
theorem wo_sub : WO S (binaryOp .Sub) gSub := wo_int0 (fun _ => op_sub) fun _ _ _ => .int _
theorem wo_mul : WO S (binaryOp .Mult) gMul := wo_int (fun _ => op_mul) fun _ _ _ => .int _
theorem wo_fdiv : WO S (binaryOp .FloorDiv) gFdiv := wo_int (fun _ => op_fdiv) fun _ _ _ => .int _
theorem wo_mod : WO S (binaryOp .Mod) gMod := wo_int (fun _ => op_mod) fun _ _ _ => .int _
theorem wo_pow : WO S (binaryOp .Pow) gPow := wo_int (fun _ => op_pow) fun _ _ _ => .int _
theorem wo_lt : WO S (compareOp .Lt) gLt := wo_int0 (fun _ => op_lt) fun _ _ _ => .bl _
theorem wo_le : WO S (compareOp .LtE) gLe := wo_int0 (fun _ => op_le) fun _ _ _ => .bl _
theorem wo_gt : WO S (compareOp .Gt) gGt := wo_int0 (fun _ => op_gt) fun _ _ _ => .bl _
theorem wo_ge : WO S (compareOp .GtE) gGe := wo_int0 (fun _ => op_ge) fun _ _ _ => .bl _
def gNeg : D1
  | .int i, μ, Q => Q (.int (-i)) μ
  | _, _, _ => False
theorem wu_neg : WU S (unaryOp .USub) gNeg := by
  refine ⟨_, fun X _ => un_neg, ?_⟩
  intro I μ H _ SM dx x rx Q Q' q u
  cases rx <;> first | exact False.elim q | exact ⟨_, rfl, u I _ _ μ H (Same.refl I) SM (.int _) q⟩

/-! ### data: equality, membership -/
mutual
def Dv.pd : Dv → PyData
  | .bl b => .bool b
  | .int i => .int i
  | .str x => .str x
  | .tup xs => .tuple (Dv.pds xs)
  | .rot xs => .tuple (Dv.pds xs)
  | .lst xs => .list (Dv.pds xs)
  | .rol xs => .list (Dv.pds xs)
  | _ => .none
def Dv.pds : List Dv → List PyData
  | [] => []
  | x :: xs => x.pd :: Dv.pds xs
end
mutual
/-- plain data -/
def Dv.isD : Dv → Bool
  | .non => true
  | .bl _ => true
  | .int _ => true
  | .str _ => true
  | .tup xs => Dv.areD xs
  | .rot xs => Dv.areD xs
  | .lst xs => Dv.areD xs
  | .rol xs => Dv.areD xs
  | _ => false
def Dv.areD : List Dv → Bool
  | [] => true
  | x :: xs => x.isD && Dv.areD xs
end
theorem Dv.pds_length : ∀ xs : List Dv, (Dv.pds xs).length = xs.length
  | [] => rfl
  | _ :: xs => by simp [Dv.pds, Dv.pds_length xs]
theorem Dv.pds_map (xs : List Dv) : Dv.pds xs = xs.map Dv.pd := by
  induction xs with
  | nil => rfl
  | cons x xs ih => simp [Dv.pds, ih]
section
variable {K : PySem.W.Frag} {I H : Hp} {μ : Mu}
mutual
theorem Rep.dp (s : Same I H) : ∀ (d : Dv) (v : V), d.isD = true → Rep K I d v → Dp K H v d.pd
  | .non, _, _, h => by cases h; exact .non
  | .bl b, _, _, h => by cases h; exact .bl b
  | .int i, _, _, h => by cases h; exact .int i
  | .str x, _, _, h => by cases h; exact .str x
  | .tup xs, _, e, h => by
    cases h with
    | tup h1 h2 => exact .tup (.inl (.inl (s _ _ h1))) (RepL.dp s xs _ (by simpa [Dv.isD] using e) h2)
  | .rot xs, _, e, h => by
    cases h with
    | rot h1 h2 => exact .tup (same_t s h1) (RepL.dp s xs _ (by simpa [Dv.isD] using e) h2)
  | .lst xs, _, e, h => by
    cases h with
    | lst h1 h2 => exact .lst (.inl (.inl (s _ _ h1))) (RepL.dp s xs _ (by simpa [Dv.isD] using e) h2)
  | .rol xs, _, e, h => by
    cases h with
    | rol h1 h2 => exact .lst (same_l s h1) (RepL.dp s xs _ (by simpa [Dv.isD] using e) h2)
  | .ref _, _, e, _ => by simp [Dv.isD] at e
  | .ty _, _, e, _ => by simp [Dv.isD] at e
  | .byt _, _, e, _ => by simp [Dv.isD] at e
theorem RepL.dp (s : Same I H) : ∀ (ds : List Dv) (vs : List V), Dv.areD ds = true → RepL K I ds vs → DpAll K H vs (Dv.pds ds)
  | [], _, _, h => by cases h; exact .nil
  | d :: ds, _, e, h => by
    cases h with
    | cons h1 h2 =>
      have e2 : d.isD = true ∧ Dv.areD ds = true := by simpa [Dv.areD] using e
      exact .cons (Rep.dp s d _ e2.1 h1) (RepL.dp s ds _ e2.2 h2)
end
end
mutual
theorem Dv.plain : ∀ d : Dv, d.pd.plain = true
  | .non => by simp [Dv.pd, PyData.plain]
  | .bl _ => by simp [Dv.pd, PyData.plain]
  | .int _ => by simp [Dv.pd, PyData.plain]
  | .str _ => by simp [Dv.pd, PyData.plain]
  | .byt _ => by simp [Dv.pd, PyData.plain]
  | .ref _ => by simp [Dv.pd, PyData.plain]
  | .ty _ => by simp [Dv.pd, PyData.plain]
  | .tup xs => by simp [Dv.pd, PyData.plain, Dv.plains xs]
  | .rot xs => by simp [Dv.pd, PyData.plain, Dv.plains xs]
  | .lst xs => by simp [Dv.pd, PyData.plain, Dv.plains xs]
  | .rol xs => by simp [Dv.pd, PyData.plain, Dv.plains xs]
theorem Dv.plains : ∀ ds : List Dv, PyData.plainAll (Dv.pds ds) = true
  | [] => by simp [Dv.pds, PyData.plainAll]
  | d :: ds => by simp [Dv.pds, PyData.plainAll, Dv.plain d, Dv.plains ds]
end
def rEqP (K : PySem.W.Frag) : R2 := fun x y H Q => ∃ d e, Dp K H x d ∧ Dp K H y e ∧ d.plain = true ∧ e.plain = true ∧ min d.depth e.depth ≤ 60 ∧ Q (.bl (PyData.eqv d e)) H
def rNeP (K : PySem.W.Frag) : R2 := fun x y H Q => ∃ d e, Dp K H x d ∧ Dp K H y e ∧ d.plain = true ∧ e.plain = true ∧ min d.depth e.depth ≤ 60 ∧ Q (.bl (!PyData.eqv d e)) H
theorem op_eqP {X : Cx} (hu : X.A.units + 64 < cLine) : OpR X (compareOp .Eq) (rEqP X.K) := by
  intro pins s σ H x y v u Q I rx ry h
  obtain ⟨d, e, hd, he, pd, pe, hz, q⟩ := h
  obtain ⟨as, r1⟩ := Dp.reads I d x v hd rx
  obtain ⟨bs, r2⟩ := Dp.reads I e y u he ry
  exact SeqAt.eq_plain r1 r2 pd pe (by omega) ⟨.bl _, H, I, rfl, q⟩
theorem op_neP {X : Cx} (hu : X.A.units + 64 < cLine) : OpR X (compareOp .NotEq) (rNeP X.K) := by
  intro pins s σ H x y v u Q I rx ry h
  obtain ⟨d, e, hd, he, pd, pe, hz, q⟩ := h
  obtain ⟨as, r1⟩ := Dp.reads I d x v hd rx
  obtain ⟨bs, r2⟩ := Dp.reads I e y u he ry
  exact SeqAt.ne_plain r1 r2 pd pe (by omega) ⟨.bl _, H, I, rfl, q⟩
def eqOk (x y : Dv) : Prop := x.isD = true ∧ y.isD = true ∧ min x.pd.depth y.pd.depth ≤ 60
def dEq (x y : Dv) : Bool := PyData.eqv x.pd y.pd
def gEq : D2 := fun x y μ Q => eqOk x y ∧ Q (.bl (dEq x y)) μ
def gNe : D2 := fun x y μ Q => eqOk x y ∧ Q (.bl (!dEq x y)) μ
theorem wo_eq : WO S (compareOp .Eq) gEq := ⟨rEqP S.K, fun X hX => hX.K ▸ op_eqP hX.units, fun I μ H _ SM dx dy x y rx ry Q Q' q u =>
  ⟨dx.pd, dy.pd, rx.dp SM.ex _ _ q.1.1, ry.dp SM.ex _ _ q.1.2.1, dx.plain, dy.plain, q.1.2.2, u I _ _ μ H (Same.refl I) SM (.bl _) q.2⟩⟩
theorem wo_ne : WO S (compareOp .NotEq) gNe := ⟨rNeP S.K, fun X hX => hX.K ▸ op_neP hX.units, fun I μ H _ SM dx dy x y rx ry Q Q' q u =>
  ⟨dx.pd, dy.pd, rx.dp SM.ex _ _ q.1.1, ry.dp SM.ex _ _ q.1.2.1, dx.plain, dy.plain, q.1.2.2, u I _ _ μ H (Same.refl I) SM (.bl _) q.2⟩⟩
end
end Wl

set_option Elab.async false
set_option linter.all false
set_option maxRecDepth 100000
set_option maxHeartbeats 2000000
namespace Wl
open PySem L2
section
variable {S : Sg} {ι : Type} {F : ι → Cx} {pos : Pos}
theorem RepL.at_ {K : PySem.W.Frag} {I : Hp} {ds : List Dv} {vs : List V} {i : Int} {d : Dv} (r : RepL K I ds vs) (e : atI ds i = some d) : ∃ v, atI vs i = some v ∧ Rep K I d v := by
  unfold atI at e ⊢
  rw [← r.length]
  cases h : ixN ds.length i with
  | none => rw [h] at e; cases e
  | some j =>
    rw [h] at e
    exact r.get e
/-! ### a[i], a[i:j] -/
def gIx : D2
  | .tup xs, .int i, μ, Q => ∃ d, atI xs i = some d ∧ Q d μ
  | .rot xs, .int i, μ, Q => ∃ d, atI xs i = some d ∧ Q d μ
  | .lst xs, .int i, μ, Q => ∃ d, atI xs i = some d ∧ Q d μ
  | .rol xs, .int i, μ, Q => ∃ d, atI xs i = some d ∧ Q d μ
  | .str z, .int i, μ, Q => z.length ≤ sizeLine ∧ ∃ c, atI z.cps.toList i = some c ∧ Q (.str ⟨#[c]⟩) μ
  | .ref a, .int i, μ, Q => ∃ xs d, μ a = some (.lst xs) ∧ atI xs i = some d ∧ Q d μ
  | _, _, _, _ => False
def WX2 (S : Sg) (t : D2) : Prop := ∃ r, (∀ X, Is S X → IxR X r) ∧ R2v S r t
theorem wx_ix : WX2 S gIx := by
  refine ⟨rIx S.K, fun X hX => hX.K ▸ ix_seq, ?_⟩
  intro I μ H _ SM dx dy x y rx ry Q Q' q u
  cases rx <;> cases ry <;> first | exact False.elim q | skip
  · obtain ⟨h1, c, e, q⟩ := q
    exact .inr (.inr ⟨_, _, _, rfl, rfl, h1, e, u I _ _ μ H (Same.refl I) SM (.str _) q⟩)
  · obtain ⟨xs, d, e, h, q⟩ := q
    obtain ⟨vs, r, hv⟩ := SM.memo e
    obtain ⟨v, h1, h2⟩ := r.at_ h
    exact .inl ⟨_, _, _, _, rfl, rfl, .inl (.inl hv), h1, u I _ _ μ H (Same.refl I) SM h2 q⟩
  · rename_i h1 h2 _
    obtain ⟨d, h, q⟩ := q
    obtain ⟨v, k1, k2⟩ := h2.at_ h
    exact .inr (.inl ⟨_, _, _, _, rfl, rfl, .inl (.inl (SM.ex _ _ h1)), k1, u I _ _ μ H (Same.refl I) SM k2 q⟩)
  · rename_i h1 h2 _
    obtain ⟨d, h, q⟩ := q
    obtain ⟨v, k1, k2⟩ := h2.at_ h
    exact .inr (.inl ⟨_, _, _, _, rfl, rfl, same_t SM.ex h1, k1, u I _ _ μ H (Same.refl I) SM k2 q⟩)
  · rename_i h1 h2 _
    obtain ⟨d, h, q⟩ := q
    obtain ⟨v, k1, k2⟩ := h2.at_ h
    exact .inl ⟨_, _, _, _, rfl, rfl, .inl (.inl (SM.ex _ _ h1)), k1, u I _ _ μ H (Same.refl I) SM k2 q⟩
  · rename_i h1 h2 _
    obtain ⟨d, h, q⟩ := q
    obtain ⟨v, k1, k2⟩ := h2.at_ h
    exact .inl ⟨_, _, _, _, rfl, rfl, same_l SM.ex h1, k1, u I _ _ μ H (Same.refl I) SM k2 q⟩
theorem we_ix {a b : Expr} {sa sb : DE} (ha : WE S F a sa) (hb : WE S F b sb) (hs : PlainIx b := by exact fun _ _ => rfl) : WE S F (.Subscript a b pos) (vOp gIx sa sb) :=
  let ⟨r, h1, h2⟩ := wx_ix (S := S); let ⟨ta, a1, a2⟩ := ha; let ⟨tb, b1, b2⟩ := hb
  ⟨_, fun i hi => pe_ix (h1 _ hi) (a1 i hi) (b1 i hi) hs, re_op h2 a2 b2⟩
def dcut {α : Type} (xs : List α) (lo hi : Option Int) : List α := (xs.drop (HT.sIx xs.length 0 lo)).take (HT.sIx xs.length xs.length hi - HT.sIx xs.length 0 lo)
theorem RepL.cut {K : PySem.W.Frag} {I : Hp} {ds : List Dv} {vs : List V} (r : RepL K I ds vs) (lo hi : Option Int) : RepL K I (dcut ds lo hi) (cutV vs lo hi) := by
  unfold dcut cutV
  rw [r.length]
  exact (r.drop _).take _
theorem dcut_all {α : Type} {xs : List α} {lo hi : Option Int} (h : HT.sIx xs.length 0 lo = 0 ∧ HT.sIx xs.length xs.length hi = xs.length) : dcut xs lo hi = xs := by
  unfold dcut
  rw [h.1, h.2]
  simp
abbrev DO := DSt → Mu → (Option Int → Mu → Prop) → Prop
def RO (S : Sg) (to : TO) (t : DO) : Prop := ∀ I δ μ σ H, Same S.J I → SatM S.K I μ H → RepS S.K I δ σ → ∀ (Q : Option Int → Mu → Prop) (Q' : Option Int → Hp → Prop), t δ μ Q → (∀ I' o μ' H', Same I I' → SatM S.K I' μ' H' → Q o μ' → Q' o H') → to σ H Q'
def WP (S : Sg) {ι : Type} (F : ι → Cx) (e : Option Expr) (t : DO) : Prop := ∃ te, (∀ i, Is S (F i) → PO (F i) e te) ∧ RO S te t
def vNoPart : DO := fun _ μ Q => Q none μ
def vPart (t : DE) : DO := fun δ μ Q => t δ μ fun x μ1 => match x with | .int i => Q (some i) μ1 | _ => False
theorem wp_none : WP S F none vNoPart := ⟨_, fun _ _ => po_none, fun I δ μ σ H hJ SM hS Q Q' q u => u I none μ H (Same.refl I) SM q⟩
theorem wp_some {e : Expr} {t : DE} (h : WE S F e t) : WP S F (some e) (vPart t) := let ⟨te, h1, h2⟩ := h
  ⟨_, fun i hi => po_some (h1 i hi), fun I δ μ σ H hJ SM hS Q Q' q u => h2 I δ μ σ H hJ SM hS _ _ q fun I1 x vx μ1 H1 e1 S1 r1 q1 => by
    cases r1 <;> first | exact False.elim q1 | exact ⟨_, rfl, u I1 _ μ1 H1 e1 S1 q1⟩⟩
def gSl (x : Dv) (lo hi : Option Int) (μ : Mu) (Q : DV) : Prop := match x with
  | .tup xs => Q (.tup (dcut xs lo hi)) μ
  | .lst xs => Q (.lst (dcut xs lo hi)) μ
  | .str z => z.length ≤ sizeLine ∧ Q (.str (cutS z lo hi)) μ
  | .ref a => ∃ xs, μ a = some (.lst xs) ∧ Q (.lst (dcut xs lo hi)) μ
  | _ => False
def vSl (te : DE) (tl th : DO) : DE := fun δ μ Q => te δ μ fun x μ1 => tl δ μ1 fun l μ2 => th δ μ2 fun h μ3 => gSl x l h μ3 Q
theorem we_slice {a : Expr} {lo hi : Option Expr} {sa : DE} {sl sh : DO} {p2 : Pos} (ha : WE S F a sa) (hl : WP S F lo sl) (hh : WP S F hi sh) : WE S F (.Subscript a (.Slice lo hi none p2) pos) (vSl sa sl sh) :=
  let ⟨ta, a1, a2⟩ := ha; let ⟨tl, b1, b2⟩ := hl; let ⟨th, c1, c2⟩ := hh
  ⟨_, fun i hi => pe_slice (r := fun x lo hi H Q => (rSlA S.K x lo hi H Q ∨ rSlL S.K x lo hi H Q) ∨ rSlS x lo hi H Q) ((SlR.or (hi.K ▸ sl_tupA) (hi.K ▸ sl_list)).or sl_str) (a1 i hi) (b1 i hi) (c1 i hi), fun I δ μ σ H hJ SM hS Q Q' q u =>
    a2 I δ μ σ H hJ SM hS _ _ q fun I1 x vx μ1 H1 e1 S1 r1 q1 =>
      b2 I1 δ μ1 σ H1 (hJ.trans e1) S1 (hS.mono e1) _ _ q1 fun I2 l μ2 H2 e2 S2 q2 =>
        c2 I2 δ μ2 σ H2 ((hJ.trans e1).trans e2) S2 (hS.mono (e1.trans e2)) _ _ q2 fun I3 h μ3 H3 e3 S3 q3 => by
          have r3 := Rep.mono (e2.trans e3) _ _ r1
          have u3 := u.mono ((e1.trans e2).trans e3)
          cases r3 <;> first | exact False.elim q3 | skip
          · exact .inr ⟨_, rfl, q3.1, u3 I3 _ _ μ3 H3 (Same.refl _) S3 (.str _) q3.2⟩
          · obtain ⟨xs, em, q4⟩ := q3
            obtain ⟨vs, r, hv⟩ := S3.memo em
            refine .inl (.inr ⟨_, _, rfl, .inl (.inl hv), fun p hp => ?_⟩)
            obtain ⟨s1, s2⟩ := S3.newI hp (.lst (cutV vs l h))
            exact u3 _ _ _ μ3 _ s1 s2 (.lst upd_same (RepL.mono s1 _ _ (r.cut l h))) q4
          · rename_i a vs xs k1 k2
            refine .inl (.inl ⟨_, _, rfl, .inl (.inl (S3.ex _ _ k1)), fun e => ?_, fun _ p hp => ?_⟩)
            · refine u3 I3 _ _ μ3 H3 (Same.refl _) S3 ?_ q3
              rw [dcut_all (by rw [k2.length]; exact e)]
              exact .tup k1 k2
            · obtain ⟨s1, s2⟩ := S3.newI hp (.tup (cutV vs l h))
              exact u3 _ _ _ μ3 _ s1 s2 (.tup upd_same (RepL.mono s1 _ _ (k2.cut l h))) q3
          · rename_i a vs xs k1 k2
            refine .inl (.inr ⟨_, _, rfl, .inl (.inl (S3.ex _ _ k1)), fun p hp => ?_⟩)
            obtain ⟨s1, s2⟩ := S3.newI hp (.lst (cutV vs l h))
            exact u3 _ _ _ μ3 _ s1 s2 (.lst upd_same (RepL.mono s1 _ _ (k2.cut l h))) q3⟩

/-! ### calls of built-ins -/
def vCB (f : DC) (t : DA) : DE := fun δ μ Q => t δ μ fun xs μ1 => f xs μ1 Q
theorem re_cb {r : List V → Hp → VK → Prop} {f : DC} {ta : TA} {t : DA} (hr : RCv S r f) (ha : RA S ta t) : RE S (tCB r ta) (vCB f t) := fun I δ μ σ H hJ SM hS Q Q' q u =>
  ha I δ μ σ H hJ SM hS _ _ q fun I1 ds vs μ1 H1 e1 S1 r1 q1 => hr I1 μ1 H1 (hJ.trans e1) S1 ds vs r1 _ _ q1 (u.mono e1)
theorem we_callB {f : DC} {x : Str} {id : String} {e : Expr} {es : List Expr} {t : DA} {p : Pos} (hc : WC S (.builtin id) f) (hm : S.mg x = none) (hv : bootBuiltins x = some (.builtin id)) (ha : WA S F (e :: es) t) (hg : ∀ j, Gl (F j) x := by exact fun _ => rfl)
    (hn : x ≠ "__name__" := by decide) (hdb : (x == ("__debug__" : Str)) = false := by decide) (he : ∀ env, starEach (e :: es) env = (false, eval e env) :: starEach es env := by exact fun _ => rfl) (hpl : ∀ env, (backTo pos (starEach es env)).any (·.1) = false := by exact fun _ => rfl) :
    WE S F (.Call (.Name x p) (e :: es) [] pos) (vCB f t) :=
  let ⟨r, h1, h2⟩ := hc; let ⟨ta, a1, a2⟩ := ha
  ⟨_, fun i hi => pe_callB (h1 _ hi) (hg i) (hi.mg ▸ hm) hv (a1 i hi) hn hdb (he _) (hpl _), re_cb h2 a2⟩
theorem we_callTy {f : DC} {x : Str} {T : String} {e : Expr} {es : List Expr} {t : DA} {p : Pos} (hc : WC S (.type T) f) (hm : S.mg x = none) (hv : bootBuiltins x = some (.type T)) (ha : WA S F (e :: es) t) (hg : ∀ j, Gl (F j) x := by exact fun _ => rfl)
    (hn : x ≠ "__name__" := by decide) (hdb : (x == ("__debug__" : Str)) = false := by decide) (he : ∀ env, starEach (e :: es) env = (false, eval e env) :: starEach es env := by exact fun _ => rfl) (hpl : ∀ env, (backTo pos (starEach es env)).any (·.1) = false := by exact fun _ => rfl) :
    WE S F (.Call (.Name x p) (e :: es) [] pos) (vCB f t) :=
  let ⟨r, h1, h2⟩ := hc; let ⟨ta, a1, a2⟩ := ha
  ⟨_, fun i hi => pe_callTy (h1 _ hi) (hg i) (hi.mg ▸ hm) hv (a1 i hi) hn hdb (he _) (hpl _), re_cb h2 a2⟩
def gLen1 (x : Dv) (μ : Mu) (Q : DV) : Prop := match x with
  | .str y => y.length ≤ sizeLine ∧ Q (.int y.length) μ
  | .tup xs => Q (.int xs.length) μ
  | .rot xs => Q (.int xs.length) μ
  | .lst xs => Q (.int xs.length) μ
  | .rol xs => Q (.int xs.length) μ
  | .ref a => ∃ xs, μ a = some (.lst xs) ∧ Q (.int xs.length) μ
  | _ => False
def gLen : DC
  | [x], μ, Q => gLen1 x μ Q
  | _, _, _ => False
theorem wc_len : WC S (.builtin "len") gLen := by
  refine ⟨_, fun X hX => hX.K ▸ call_len, ?_⟩
  intro I μ H _ SM ds vs r Q Q' q u
  cases r with
  | nil => exact q.elim
  | cons r1 r2 =>
    cases r2 with
    | cons _ _ => exact q.elim
    | nil =>
      replace q : gLen1 _ μ Q := q
      cases r1 <;> first | exact False.elim q | skip
      · exact ⟨_, _, rfl, ⟨q.1, rfl⟩, u I _ _ μ H (Same.refl I) SM (.int _) q.2⟩
      · obtain ⟨xs, em, q4⟩ := q
        obtain ⟨vs, r, hv⟩ := SM.memo em
        exact ⟨_, _, rfl, .inl ⟨_, .inl (.inl hv), rfl⟩, u I _ _ μ H (Same.refl I) SM (.int _) (by rw [← r.length]; exact q4)⟩
      · rename_i h1 h2
        exact ⟨_, _, rfl, .inr ⟨_, .inl (.inl (SM.ex _ _ h1)), rfl⟩, u I _ _ μ H (Same.refl I) SM (.int _) (by rw [← h2.length]; exact q)⟩
      · rename_i h1 h2
        exact ⟨_, _, rfl, .inr ⟨_, same_t SM.ex h1, rfl⟩, u I _ _ μ H (Same.refl I) SM (.int _) (by rw [← h2.length]; exact q)⟩
      · rename_i h1 h2
        exact ⟨_, _, rfl, .inl ⟨_, .inl (.inl (SM.ex _ _ h1)), rfl⟩, u I _ _ μ H (Same.refl I) SM (.int _) (by rw [← h2.length]; exact q)⟩
      · rename_i h1 h2
        exact ⟨_, _, rfl, .inl ⟨_, same_l SM.ex h1, rfl⟩, u I _ _ μ H (Same.refl I) SM (.int _) (by rw [← h2.length]; exact q)⟩
def gInt : DC
  | [.int i], μ, Q => Q (.int i) μ
  | [.bl k], μ, Q => Q (.int (if k then 1 else 0)) μ
  | _, _, _ => False
theorem wc_int : WC S (.type "int") gInt := by
  refine ⟨_, fun X hX => call_int1, ?_⟩
  intro I μ H _ SM ds vs r Q Q' q u
  cases r with
  | nil => exact q.elim
  | cons r1 r2 =>
    cases r2 with
    | cons _ _ => cases r1 <;> exact q.elim
    | nil =>
      cases r1 <;> first | exact False.elim q | skip
      · exact .inr ⟨_, rfl, u I _ _ μ H (Same.refl I) SM (.int _) q⟩
      · exact .inl ⟨_, rfl, u I _ _ μ H (Same.refl I) SM (.int _) q⟩
def gMax2 : DC
  | [.int i, .int j], μ, Q => Q (.int (if j > i then j else i)) μ
  | _, _, _ => False
def gMin2 : DC
  | [.int i, .int j], μ, Q => Q (.int (if j < i then j else i)) μ
  | _, _, _ => False
theorem wc_max2 (hcold : S.cold = false := by rfl) : WC S (.builtin "max") gMax2 := by
  refine ⟨_, fun X hX => call_max2 (hX.calm hcold), ?_⟩
  intro I μ H _ SM ds vs r Q Q' q u
  rcases r with _ | ⟨r1, _ | ⟨r2, _ | _⟩⟩ <;> first | exact q.elim | skip
  all_goals cases r1 <;> first | exact False.elim q | skip
  all_goals cases r2 <;> first | exact False.elim q | skip
  exact ⟨_, _, rfl, u I _ _ μ H (Same.refl I) SM (.int _) q⟩
theorem wc_min2 (hcold : S.cold = false := by rfl) : WC S (.builtin "min") gMin2 := by
  refine ⟨_, fun X hX => call_min2 (hX.calm hcold), ?_⟩
  intro I μ H _ SM ds vs r Q Q' q u
  rcases r with _ | ⟨r1, _ | ⟨r2, _ | _⟩⟩ <;> first | exact q.elim | skip
  all_goals cases r1 <;> first | exact False.elim q | skip
  all_goals cases r2 <;> first | exact False.elim q | skip
  exact ⟨_, _, rfl, u I _ _ μ H (Same.refl I) SM (.int _) q⟩
/-- list(x), tuple(x) -/
def gList : DC
  | [.tup xs], μ, Q => Q (.lst xs) μ
  | [.lst xs], μ, Q => Q (.lst xs) μ
  | [.rol xs], μ, Q => Q (.lst xs) μ
  | [.ref a], μ, Q => ∃ xs, μ a = some (.lst xs) ∧ Q (.lst xs) μ
  | _, _, _ => False
theorem gSeqList {K : PySem.W.Frag} {I H : Hp} {μ : Mu} (SM : SatM K I μ H) {ds : List Dv} {vs : List V} {Q : DV} (r : RepL K I ds vs) (q : gList ds μ Q) :
    ∃ p ys xs, vs = [.ref p] ∧ (SqL K H p ys ∨ SqT K H p ys) ∧ RepL K I xs ys ∧ Q (.lst xs) μ := by
  rcases r with _ | ⟨r1, _ | ⟨r2, r3⟩⟩
  · exact q.elim
  · cases r1 <;> first | exact False.elim q | skip
    · obtain ⟨xs, em, q4⟩ := q
      obtain ⟨vs, r, hv⟩ := SM.memo em
      exact ⟨_, _, _, rfl, .inl (.inl (.inl hv)), r, q4⟩
    · rename_i h1 h2; exact ⟨_, _, _, rfl, .inr (.inl (.inl (SM.ex _ _ h1))), h2, q⟩
    · rename_i h1 h2; exact ⟨_, _, _, rfl, .inl (.inl (.inl (SM.ex _ _ h1))), h2, q⟩
    · rename_i h1 h2; exact ⟨_, _, _, rfl, .inl (same_l SM.ex h1), h2, q⟩
  · cases r1 <;> exact q.elim
theorem wc_list : WC S (.type "list") gList := by
  refine ⟨_, fun X hX => hX.K ▸ call_list_of, ?_⟩
  intro I μ H _ SM ds vs r Q Q' q u
  obtain ⟨p, ys, xs, h1, h2, h3, h4⟩ := gSeqList SM r q
  refine ⟨p, ys, h1, h2, fun l hl => ?_⟩
  obtain ⟨s1, s2⟩ := SM.newI hl (.lst ys)
  exact u _ _ _ μ _ s1 s2 (.lst upd_same (RepL.mono s1 _ _ h3)) h4
/-- list(x) that will change -/
def gListM : DC := fun ds μ Q => gList ds μ fun d μ1 => match d with | .lst xs => ∀ p, μ1 p = none → Q (.ref p) (mset μ1 p (.lst xs)) | _ => False
theorem wc_listM : WC S (.type "list") gListM := by
  refine ⟨_, fun X hX => hX.K ▸ call_list_of, ?_⟩
  intro I μ H _ SM ds vs r Q Q' q u
  obtain ⟨p, ys, xs, h1, h2, h3, h4⟩ := gSeqList SM r q
  refine ⟨p, ys, h1, h2, fun l hl => ?_⟩
  exact u I _ _ _ _ (Same.refl I) (SM.setM (m := .lst xs) (SM.ex.free hl) ⟨ys, h3, upd_same⟩) (.ref l) (h4 l (SM.muNone hl))
def gTupOf : DC
  | [.lst xs], μ, Q => Q (.tup xs) μ
  | [.ref a], μ, Q => ∃ xs, μ a = some (.lst xs) ∧ Q (.tup xs) μ
  | [.tup xs], μ, Q => Q (.tup xs) μ
  | _, _, _ => False
theorem wc_tuple : WC S (.type "tuple") gTupOf := by
  refine ⟨_, fun X hX => hX.K ▸ call_tuple_of, ?_⟩
  intro I μ H _ SM ds vs r Q Q' q u
  rcases r with _ | ⟨r1, _ | ⟨r2, r3⟩⟩
  · exact q.elim
  · cases r1 <;> first | exact False.elim q | skip
    · obtain ⟨xs, em, q4⟩ := q
      obtain ⟨vs, r, hv⟩ := SM.memo em
      refine ⟨_, _, rfl, .inl ⟨.inl (.inl hv), fun l hl => ?_⟩⟩
      obtain ⟨s1, s2⟩ := SM.newI hl (.tup vs)
      exact u _ _ _ μ _ s1 s2 (.tup upd_same (RepL.mono s1 _ _ r)) q4
    · rename_i h1 h2
      exact ⟨_, _, rfl, .inr ⟨.inl (.inl (SM.ex _ _ h1)), u I _ _ μ H (Same.refl I) SM (.tup h1 h2) q⟩⟩
    · rename_i vs xs h1 h2
      refine ⟨_, _, rfl, .inl ⟨.inl (.inl (SM.ex _ _ h1)), fun l hl => ?_⟩⟩
      obtain ⟨s1, s2⟩ := SM.newI hl (.tup vs)
      exact u _ _ _ μ _ s1 s2 (.tup upd_same (RepL.mono s1 _ _ h2)) q
  · cases r1 <;> exact q.elim

/-! ### methods of built-in types -/
def tyD (T : String) (x : Dv) (μ : Mu) : Prop := match x with
  | .str _ => T = "str"
  | .int _ => T = "int"
  | .lst _ => T = "list"
  | .rol _ => T = "list"
  | .ref a => match μ a with
    | some (.lst _) => T = "list"
    | some (.dK _) => T = "dict"
    | some (.dT _) => T = "dict"
    | _ => False
  | _ => False
theorem tyD_ok {K : PySem.W.Frag} {I H : Hp} {μ : Mu} (SM : SatM K I μ H) {T : String} {d : Dv} {v : V} (r : Rep K I d v) (q : tyD T d μ) : tyV K T v H := by
  cases r <;> first | exact False.elim q | skip
  · exact q
  · exact q
  · rename_i a
    unfold tyD at q
    cases e : μ a with
    | none => simp only [e] at q
    | some m =>
      have hm := SM.memo e
      cases m with
      | lst xs => simp only [e] at q; obtain ⟨vs, r, h⟩ := hm; exact .inl ⟨q, _, .inl (.inl h)⟩
      | dK kvs => simp only [e] at q; obtain ⟨vs, r, h⟩ := hm; exact .inr (.inr (.inl ⟨q, .inl ⟨_, h⟩⟩))
      | dT kvs => simp only [e] at q; obtain ⟨vs, r, h⟩ := hm; exact .inr (.inr (.inl ⟨q, .inr ⟨_, h⟩⟩))
      | _ => simp only [e] at q
  · rename_i h1 h2; exact .inl ⟨q, _, .inl (.inl (SM.ex _ _ h1))⟩
  · rename_i h1 h2; exact .inl ⟨q, _, same_l SM.ex h1⟩
def WM (S : Sg) (id : String) (t : DM) : Prop := ∃ r, (∀ X, Is S X → MtR X id r) ∧ RMv S r t
def vBM (T : String) (f : DM) (to : DE) (t : DA) : DE := fun δ μ Q => to δ μ fun x μ1 => tyD T x μ1 ∧ t δ μ1 fun xs μ2 => f x xs μ2 Q
theorem we_bm {T id : String} {name : Str} {f : DM} {o e : Expr} {es : List Expr} {so : DE} {t : DA} {apos cpos : Pos} (pa : PlainAttrs T) (slot : Slot T name id) (hty : typeOf (.builtin id) = pure (.type "method_descriptor")) (hm : WM S id f) (ho : WE S F o so) (ha : WA S F (e :: es) t)
    (hbase : ∀ env, attributeBase o name env (eval o env) = eval o env := by exact fun _ => rfl)
    (hfew : ∀ env, ((backTo cpos (starEach (e :: es) env)).all (fun x => !x.1) && (backToKw cpos (keywordEach [] env)).all (fun x => x.1.isSome)
      && decide ((e :: es).length + ([] : List Keyword).length + (if ([] : List Keyword).isEmpty then 0 else 1) < 30)) = true := by exact fun _ => rfl)
    (hline : (apos.endLine == cpos.line) = true := by rfl) (hs : ∀ env, starEach (e :: es) env = (false, eval e env) :: starEach es env := by exact fun _ => rfl) (hplain : ∀ env, (backTo cpos (starEach es env)).any (·.1) = false := by exact fun _ => rfl) :
    WE S F (.Call (.Attribute o name apos) (e :: es) [] cpos) (vBM T f so t) :=
  let ⟨r, h1, h2⟩ := hm; let ⟨ta, a1, a2⟩ := ho; let ⟨tb, b1, b2⟩ := ha
  ⟨tBM S.K T r ta tb, fun i hi => hi.K ▸ pe_bm pa slot hty (h1 _ hi) (a1 i hi) (b1 i hi) (hbase _) (hfew _) hline (hs _) (hplain _), fun I δ μ σ H hJ SM hS Q Q' q u =>
    a2 I δ μ σ H hJ SM hS _ _ q fun I1 x vx μ1 H1 e1 S1 r1 q1 => ⟨tyD_ok S1 r1 q1.1, b2 I1 δ μ1 σ H1 (hJ.trans e1) S1 (hS.mono e1) _ _ q1.2 fun I2 ds vs μ2 H2 e2 S2 r2 q2 =>
      h2 I2 μ2 H2 ((hJ.trans e1).trans e2) S2 x vx ds vs (Rep.mono e2 _ _ r1) r2 _ _ q2 (u.mono (e1.trans e2))⟩⟩
def gAppend : DM
  | .ref a, [y], μ, Q => ∃ xs, μ a = some (.lst xs) ∧ xs.length < sizeLine ∧ Q .non (mset μ a (.lst (xs ++ [y])))
  | _, _, _, _ => False
theorem wm_append : WM S "list.append" gAppend := by
  refine ⟨rAppend, fun X hX => mt_append, ?_⟩
  intro I μ H _ SM dx x ds vs rx r Q Q' q u
  cases rx <;> first | exact False.elim q | skip
  rcases r with _ | ⟨r1, _ | ⟨r2, r3⟩⟩
  · exact q.elim
  · obtain ⟨xs, em, hl, q4⟩ := q
    obtain ⟨ws, r, hv⟩ := SM.memo em
    refine ⟨_, ws, _, rfl, rfl, hv, by rw [← r.length]; exact hl, ?_⟩
    exact u I _ _ _ _ (Same.refl I) (SM.setM (m := .lst (xs ++ [_])) (SM.mu _ _ em).1 ⟨_, r.append (.cons r1 .nil), upd_same⟩) .non q4
  · exact q.elim
theorem we_append {o e : Expr} {so : DE} {t : DA} {apos cpos : Pos} (ho : WE S F o so) (ha : WA S F [e] t)
    (hbase : ∀ env, attributeBase o "append" env (eval o env) = eval o env := by exact fun _ => rfl)
    (hfew : ∀ env, ((backTo cpos (starEach [e] env)).all (fun x => !x.1) && (backToKw cpos (keywordEach [] env)).all (fun x => x.1.isSome)
      && decide ([e].length + ([] : List Keyword).length + (if ([] : List Keyword).isEmpty then 0 else 1) < 30)) = true := by exact fun _ => rfl)
    (hline : (apos.endLine == cpos.line) = true := by rfl) (hs : ∀ env, starEach [e] env = (false, eval e env) :: starEach [] env := by exact fun _ => rfl) :
    WE S F (.Call (.Attribute o "append" apos) [e] [] cpos) (vBM "list" gAppend so t) :=
  we_bm PySem.F.plainAttrs_list PySem.F.slot_list_append PySem.F.type_list_append wm_append ho ha hbase hfew hline hs (fun _ => rfl)
end
end Wl

set_option Elab.async false
set_option linter.all false
set_option maxRecDepth 100000
set_option maxHeartbeats 2000000
namespace Wl
open PySem L2
open PySem.Spec PyProof.Rows
section
variable {S : Sg} {ι : Type} {F : ι → Cx} {pos : Pos}

/-! ## statements -/
def sNext : DS := fun D δ μ => D.nx δ μ
def sSeq (t u : DS) : DS := fun D δ μ => t { D with nx := u D } δ μ
def sDrop (t : DE) : DS := fun D δ μ => t δ μ fun _ μ1 => D.nx δ μ1
def sRet (t : DE) : DS := fun D δ μ => t δ μ D.rt
def sRetN : DS := fun D _ μ => D.rt .non μ
def sIf (c : DT) (t u : DS) : DS := fun D δ μ => c δ μ fun b μ1 => if b = true then t D δ μ1 else u D δ μ1
def sNever : DS := fun _ _ _ => False
def sAsg (t : DE) (g : DG) : DS := fun D δ μ => t δ μ fun x μ1 => g x δ μ1 D.nx
def dName (i : Nat) : DG := fun d δ μ Q => Q (δ.set i (some d)) μ
theorem wss_nil : WSs S F [] sNext := ⟨_, fun _ _ => pss_nil, fun I δ μ σ H hJ SM hS D D' q u => u.nx I δ σ μ H (Same.refl I) SM hS q⟩
theorem ws_pass : WS S F (.Pass pos) sNext := ⟨_, fun _ _ => ps_pass, fun I δ μ σ H hJ SM hS D D' q u => u.nx I δ σ μ H (Same.refl I) SM hS q⟩
theorem rs_seq {t u : TS} {s v : DS} (h1 : RS S t s) (h2 : RS S u v) : RS S (tSeq t u) (sSeq s v) := fun I δ μ σ H hJ SM hS D D' q up =>
  h1 I δ μ σ H hJ SM hS _ _ q ⟨fun I1 δ1 σ1 μ1 H1 e1 S1 R1 q1 => h2 I1 δ1 μ1 σ1 H1 (hJ.trans e1) S1 R1 _ _ q1 (up.mono e1), up.rt, up.bk, up.ct⟩
theorem wss_cons {st : Stmt} {rest : List Stmt} {t u : DS} (h1 : WS S F st t) (h2 : WSs S F rest u) : WSs S F (st :: rest) (sSeq t u) :=
  let ⟨a, a1, a2⟩ := h1; let ⟨b, b1, b2⟩ := h2; ⟨_, fun i hi => pss_cons (a1 i hi) (b1 i hi), rs_seq a2 b2⟩
theorem wss_one {st : Stmt} {t : DS} (h1 : WS S F st t) : WSs S F [st] t := let ⟨a, a1, a2⟩ := h1; ⟨_, fun i hi => pss_one (a1 i hi), a2⟩
theorem ws_never {st : Stmt} : WS S F st sNever := ⟨_, fun _ _ => ps_never, fun _ _ _ _ _ _ _ _ _ _ q _ => q.elim⟩
theorem wss_never {st : List Stmt} : WSs S F st sNever := ⟨_, fun _ _ => pss_never, fun _ _ _ _ _ _ _ _ _ _ q _ => q.elim⟩
theorem ws_expr {e : Expr} {t : DE} (h : WE S F e t) (hs : ∀ env, swapsWith e none pos.line env = pure false := by exact fun _ => rfl) : WS S F (.Expr e pos) (sDrop t) :=
  let ⟨a, a1, a2⟩ := h; ⟨_, fun i hi => ps_expr (a1 i hi) (hs _), fun I δ μ σ H hJ SM hS D D' q u => a2 I δ μ σ H hJ SM hS _ _ q fun I1 d v μ1 H1 e1 S1 r1 q1 => u.nx I1 δ σ μ1 H1 e1 S1 (hS.mono e1) q1⟩
theorem ws_ret {e : Expr} {t : DE} (h : WE S F e t) : WS S F (.Return (some e) pos) (sRet t) :=
  let ⟨a, a1, a2⟩ := h; ⟨_, fun i hi => ps_ret (a1 i hi), fun I δ μ σ H hJ SM hS D D' q u => a2 I δ μ σ H hJ SM hS _ _ q u.rt⟩
theorem ws_retN : WS S F (.Return none pos) sRetN := ⟨_, fun _ _ => ps_retN, fun I δ μ σ H hJ SM hS D D' q u => u.rt I _ _ μ H (Same.refl I) SM .non q⟩
theorem ws_if {c : Expr} {a b : List Stmt} {sc : DT} {t u : DS} (hc : WT S F c sc) (ha : WSs S F a t) (hb : WSs S F b u) : WS S F (.If c a b pos) (sIf sc t u) :=
  let ⟨tc, c1, c2⟩ := hc; let ⟨ta, a1, a2⟩ := ha; let ⟨tb, b1, b2⟩ := hb
  ⟨_, fun i hi => ps_if (c1 i hi) (a1 i hi) (b1 i hi), fun I δ μ σ H hJ SM hS D D' q u => c2 I δ μ σ H hJ SM hS _ _ q fun I1 b μ1 H1 e1 S1 q1 => by
    cases b with
    | true => rw [if_pos rfl] at q1 ⊢; exact a2 I1 δ μ1 σ H1 (hJ.trans e1) S1 (hS.mono e1) _ _ q1 (u.mono e1)
    | false => rw [if_neg Bool.false_ne_true] at q1 ⊢; exact b2 I1 δ μ1 σ H1 (hJ.trans e1) S1 (hS.mono e1) _ _ q1 (u.mono e1)⟩
theorem ws_set (i : Nat) {x : Str} {e : Expr} {t : DE} {pos' : Pos} (he : WE S F e t) (hN : S.N.Nodup) (hi : S.N[i]? = some x := by rfl) (hx : ∀ j, Loc (F j).env.scope x := by first | exact fun _ => .inl rfl | exact fun _ => .inr rfl)
    (hs : ∀ env, swapsWith e (some (.Name x pos')) pos.line env = pure false := by exact fun _ => rfl) (hf : ∀ j, (F j).fn x = true ∨ (F j).env.scope.names.lookup x = some .local := by first | exact fun _ => .inl rfl | exact fun _ => .inr rfl) :
    WS S F (.Assign [.Name x pos'] e pos) (sAsg t (dName i)) :=
  let ⟨a, a1, a2⟩ := he
  ⟨_, fun j hj => ps_set (hj.N ▸ hN) (hj.N ▸ hi) (hx j) (a1 j hj) (hs _) (hf j), fun I δ μ σ H hJ SM hS D D' q u => a2 I δ μ σ H hJ SM hS _ _ q fun I1 d v μ1 H1 e1 S1 r1 q1 => u.nx I1 _ _ μ1 H1 e1 S1 ((hS.mono e1).set i r1) q1⟩

/-! ### targets -/
theorem wg_name (i : Nat) {x : Str} (hN : S.N.Nodup) (hi : S.N[i]? = some x := by rfl) (hx : ∀ j, Loc (F j).env.scope x := by first | exact fun _ => .inl rfl | exact fun _ => .inr rfl)
    (hf : ∀ j, (F j).fn x = true ∨ (F j).env.scope.names.lookup x = some .local := by first | exact fun _ => .inl rfl | exact fun _ => .inr rfl) : WG S F (.Name x pos) (dName i) :=
  ⟨_, fun j hj => pg_name (hj.N ▸ hN) (hj.N ▸ hi) (hx j) (hf j), fun I δ μ σ H d v hJ SM hS r Q Q' q u => u I _ _ μ H (Same.refl I) SM (hS.set i r) q⟩
def dNil : DGs := fun ds δ μ Q => match ds with | [] => Q δ μ | _ => False
def dCons (t : DG) (u : DGs) : DGs := fun ds δ μ Q => match ds with | d :: r => t d δ μ fun δ1 μ1 => u r δ1 μ1 Q | [] => False
theorem wgs_nil : WGs S F [] dNil := ⟨_, fun _ _ => pgs_nil, fun I δ μ σ H ds vs hJ SM hS r Q Q' q u => by
  cases r with
  | nil => exact ⟨rfl, u I δ σ μ H (Same.refl I) SM hS q⟩
  | cons _ _ => exact q.elim⟩
theorem wgs_cons {e : Expr} {es : List Expr} {t : DG} {u : DGs} (h1 : WG S F e t) (h2 : WGs S F es u) (hs : ∀ env, (assignEach (e :: es) env).map (·.2) = assign e env :: (assignEach es env).map (·.2) := by exact fun _ => rfl) : WGs S F (e :: es) (dCons t u) :=
  let ⟨a, a1, a2⟩ := h1; let ⟨b, b1, b2⟩ := h2
  ⟨_, fun i hi => pgs_cons (a1 i hi) (b1 i hi) (hs _), fun I δ μ σ H ds vs hJ SM hS r Q Q' q u => by
    cases r with
    | nil => exact q.elim
    | cons r1 r2 => exact ⟨_, _, rfl, a2 I δ μ σ H _ _ hJ SM hS r1 _ _ q fun I1 δ1 σ1 μ1 H1 e1 S1 R1 q1 => b2 I1 δ1 μ1 σ1 H1 _ _ (hJ.trans e1) S1 R1 (r2.mono e1 _ _) _ _ q1 (u.mono e1)⟩⟩
/-- (a, b, ..) = a tuple -/
def dTup (n : Nat) (t : DGs) : DG := fun d δ μ Q => match d with | .tup xs => xs.length = n ∧ t xs δ μ Q | .rot xs => xs.length = n ∧ t xs δ μ Q | _ => False
theorem wg_tup {es : List Expr} {k : Nat} {t : DGs} {n : Nat} (h : WGs S F es t) (hn : ∀ env, (assignEach es env).length = n := by exact fun _ => rfl) (hst : ∀ env, (assignEach es env).findIdx? (·.1) = none := by exact fun _ => rfl) (hcold : S.cold = false := by rfl) : WG S F (.Tuple es k pos) (dTup n t) :=
  let ⟨a, a1, a2⟩ := h
  ⟨gTup S.K n a, fun i hi => hi.K ▸ pg_tup (hi.calm hcold) (a1 i hi) (hn _) (hst _), fun I δ μ σ H d v hJ SM hS r Q Q' q u => by
    cases r <;> first | exact False.elim q | skip
    · rename_i h1 h2
      exact ⟨_, _, rfl, .inl (.inl (SM.ex _ _ h1)), by rw [← h2.length]; exact q.1, a2 I δ μ σ H _ _ hJ SM hS h2 _ _ q.2 u⟩
    · rename_i h1 h2
      exact ⟨_, _, rfl, same_t SM.ex h1, by rw [← h2.length]; exact q.1, a2 I δ μ σ H _ _ hJ SM hS h2 _ _ q.2 u⟩⟩
/-- target = value -/
theorem ws_asg {tg e : Expr} {t : DE} {g : DG} (he : WE S F e t) (hg : WG S F tg g) (hs : ∀ env, swapsWithSole [tg] e pos.line env = pure false := by exact fun _ => rfl) (hw : ∀ j, swappedStores [tg] e (F j).env = pure none := by exact fun _ => rfl)
    (h1 : ∀ env, (assignEach [tg] env).map (·.2) = [assign tg env] := by exact fun _ => rfl) : WS S F (.Assign [tg] e pos) (sAsg t g) :=
  let ⟨a, a1, a2⟩ := he; let ⟨b, b1, b2⟩ := hg
  ⟨_, fun i hi => ps_asg (a1 i hi) (b1 i hi) (hs _) (hw i) (h1 _), fun I δ μ σ H hJ SM hS D D' q u => a2 I δ μ σ H hJ SM hS _ _ q fun I1 d v μ1 H1 e1 S1 r1 q1 => b2 I1 δ μ1 σ H1 d v (hJ.trans e1) S1 (hS.mono e1) r1 _ _ q1 (u.nx.mono e1)⟩
def sPar (i j : Nat) (t : DA) : DS := fun D δ μ => t δ μ fun ds μ1 => match ds with | [v, w] => D.nx ((δ.set i (some v)).set j (some w)) μ1 | _ => False
theorem ws_par (i j : Nat) {x y : Str} {a b : Expr} {t : DA} {px py pt : Pos} {kt k2 pt2} (ha : WA S F [a, b] t) (hN : S.N.Nodup) (hi : S.N[i]? = some x := by rfl) (hj : S.N[j]? = some y := by rfl) (hij : i ≠ j := by decide)
    (hx : ∀ k, (F k).env.scope.names.lookup x = some .local := by exact fun _ => rfl) (hy : ∀ k, (F k).env.scope.names.lookup y = some .local := by exact fun _ => rfl)
    (hw : ∀ k, swappedStores [.Tuple [.Name x px, .Name y py] kt pt] (.Tuple [a, b] k2 pt2) (F k).env = pure (some [x, y]) := by exact fun _ => rfl)
    (hs : ∀ env, swapsWithSole [.Tuple [.Name x px, .Name y py] kt pt] (.Tuple [a, b] k2 pt2) pos.line env = pure false := by exact fun _ => rfl) (hcold : S.cold = false := by rfl) :
    WS S F (.Assign [.Tuple [.Name x px, .Name y py] kt pt] (.Tuple [a, b] k2 pt2) pos) (sPar i j t) :=
  let ⟨ta, a1, a2⟩ := ha
  ⟨_, fun k hk => ps_par (hk.calm hcold) (hk.N ▸ hN) (hk.N ▸ hi) (hk.N ▸ hj) hij (hx k) (hy k) (a1 k hk) (hw k) (hs _), fun I δ μ σ H hJ SM hS D D' q u => a2 I δ μ σ H hJ SM hS _ _ q fun I1 ds vs μ1 H1 e1 S1 r1 q1 => by
    rcases r1 with _ | ⟨r1, _ | ⟨r2, _ | _⟩⟩ <;> first | exact q1.elim | exact ⟨_, _, rfl, u.nx I1 _ _ μ1 H1 e1 S1 (((hS.mono e1).set i r1).set j r2) q1⟩⟩
def sPar3 (i j l : Nat) (t : DA) : DS := fun D δ μ => t δ μ fun ds μ1 => match ds with | [v, w, z] => D.nx (((δ.set i (some v)).set j (some w)).set l (some z)) μ1 | _ => False
theorem ws_par3 (i j l : Nat) {x y z : Str} {a b c : Expr} {t : DA} {px py pz pt : Pos} {kt k2 pt2} (ha : WA S F [a, b, c] t) (hN : S.N.Nodup) (hi : S.N[i]? = some x := by rfl) (hj : S.N[j]? = some y := by rfl) (hl : S.N[l]? = some z := by rfl) (hij : i ≠ j := by decide) (hil : i ≠ l := by decide) (hjl : j ≠ l := by decide)
    (hx : ∀ k, (F k).env.scope.names.lookup x = some .local := by exact fun _ => rfl) (hy : ∀ k, (F k).env.scope.names.lookup y = some .local := by exact fun _ => rfl) (hz : ∀ k, (F k).env.scope.names.lookup z = some .local := by exact fun _ => rfl)
    (hw : ∀ k, swappedStores [.Tuple [.Name x px, .Name y py, .Name z pz] kt pt] (.Tuple [a, b, c] k2 pt2) (F k).env = pure (some [x, y, z]) := by exact fun _ => rfl)
    (hs : ∀ env, swapsWithSole [.Tuple [.Name x px, .Name y py, .Name z pz] kt pt] (.Tuple [a, b, c] k2 pt2) pos.line env = pure false := by exact fun _ => rfl) (hcold : S.cold = false := by rfl) :
    WS S F (.Assign [.Tuple [.Name x px, .Name y py, .Name z pz] kt pt] (.Tuple [a, b, c] k2 pt2) pos) (sPar3 i j l t) :=
  let ⟨ta, a1, a2⟩ := ha
  ⟨_, fun k hk => ps_par3 (hk.calm hcold) (hk.N ▸ hN) (hk.N ▸ hi) (hk.N ▸ hj) (hk.N ▸ hl) hij hil hjl (hx k) (hy k) (hz k) (a1 k hk) (hw k) (hs _), fun I δ μ σ H hJ SM hS D D' q u => a2 I δ μ σ H hJ SM hS _ _ q fun I1 ds vs μ1 H1 e1 S1 r1 q1 => by
    rcases r1 with _ | ⟨r1, _ | ⟨r2, _ | ⟨r3, _ | _⟩⟩⟩ <;> first | exact q1.elim | exact ⟨_, _, _, rfl, u.nx I1 _ _ μ1 H1 e1 S1 ((((hS.mono e1).set i r1).set j r2).set l r3) q1⟩⟩
/-- xs[i] = v, a list that changes -/
def gSetL (o i v : Dv) (μ : Mu) (Q : Mu → Prop) : Prop := match o, i with
  | .ref a, .int k => ∃ xs j, μ a = some (.lst xs) ∧ ixN xs.length k = some j ∧ Q (mset μ a (.lst (xs.set j v)))
  | _, _ => False
def dSubL (to ti : DE) : DG := fun v δ μ Q => to δ μ fun o μ1 => ti δ μ1 fun i μ2 => gSetL o i v μ2 fun μ3 => Q δ μ3
theorem wg_subL {o i : Expr} {to ti : DE} (ho : WE S F o to) (hi : WE S F i ti) (ha : ∀ env, ∀ v, assign (.Subscript o i pos) env v = (do
      let ov ← holding [v] (eval o env)
      let iv ← holding [v, ov] (eval i env)
      standAt pos
      holding [v, ov, iv] (setItem ov iv v)
      release [v, ov, iv] []) := by exact fun _ _ => rfl) : WG S F (.Subscript o i pos) (dSubL to ti) :=
  let ⟨ta, a1, a2⟩ := ho; let ⟨tb, b1, b2⟩ := hi
  ⟨_, fun k hk => pg_sub (a1 k hk) (b1 k hk) set_list (ha _), fun I δ μ σ H d v hJ SM hS r Q Q' q u => a2 I δ μ σ H hJ SM hS _ _ q fun I1 x vx μ1 H1 e1 S1 r1 q1 =>
    b2 I1 δ μ1 σ H1 (hJ.trans e1) S1 (hS.mono e1) _ _ q1 fun I2 y vy μ2 H2 e2 S2 r2 q2 => by
      have r3 := r.mono (e1.trans e2) _ _
      have r1' := r1.mono e2 _ _
      cases r1' <;> first | exact False.elim q2 | skip
      cases r2 <;> first | exact False.elim q2 | skip
      obtain ⟨xs, j, em, hj, q3⟩ := q2
      obtain ⟨ws, rw', hv⟩ := S2.memo em
      exact ⟨_, ws, _, j, rfl, rfl, hv, by rw [← rw'.length]; exact hj, u I2 _ _ _ _ (e1.trans e2) (S2.setM (m := .lst (xs.set j d)) (S2.mu _ _ em).1 ⟨_, rw'.set r3 j, upd_same⟩) (hS.mono (e1.trans e2)) q3⟩⟩

/-! ## what is walked -/
structure ItOk (K : PySem.W.Frag) (J : It) (I : Hp) (ds : List Dv) : Prop where
  go : ∀ i μ I' H, Same I I' → SatM K I' μ H → i < ds.length → J.go i H
  stop : ∀ μ I' H, Same I I' → SatM K I' μ H → J.stop ds.length H
  yld : ∀ i μ I' H x H' d, Same I I' → SatM K I' μ H → ds[i]? = some d → J.yld i H x H' → ∃ I'', Same I' I'' ∧ SatM K I'' μ H' ∧ Rep K I'' d x
abbrev DI := DSt → Mu → (List Dv → Mu → Prop) → Prop
def RI (S : Sg) (wi : TI) (t : DI) : Prop := ∀ I δ μ σ H, Same S.J I → SatM S.K I μ H → RepS S.K I δ σ → ∀ (Q : List Dv → Mu → Prop) (Q' : It → Hp → Prop), t δ μ Q →
  (∀ I' ds μ' H' J, Same I I' → SatM S.K I' μ' H' → ItOk S.K J I' ds → Q ds μ' → Q' J H') → wi σ H Q'
def WI (S : Sg) {ι : Type} (F : ι → Cx) (tg e : Expr) (t : DI) : Prop := ∃ te, (∀ i, Is S (F i) → PI (F i) tg e te) ∧ RI S te t
/-- a list or a tuple -/
def iSeq (K : PySem.W.Frag) (tl : TE) : TI := fun σ H R => tl σ H fun x H1 => ∃ a, x = .ref a ∧ (((∃ xs, SqL K H1 a xs) ∧ R (Itl K a) H1) ∨ ((∃ xs, SqT K H1 a xs) ∧ R (Itt K a) H1))
theorem pi_seq {X : Cx} {tg l : Expr} {tl : TE} (hl : PE X l tl) : PI X tg l (iSeq X.K tl) := by
  refine ⟨fun pins s σ H R I h => ?_⟩
  refine thn (hl.run pins s σ H _ I h) fun v s1 ⟨x, H1, I1, r1, q1⟩ => ?_
  obtain ⟨a, e, q1⟩ := q1
  subst e
  cases r1
  have fin : ∀ b ∈ [s1.heap.objs.size], FpOk X pins H1 b := fun b hb => by
    have e : b = s1.heap.objs.size := by simpa using hb
    subst e
    exact I1.fpOk (Nat.le_refl _) (I1.hok.fresh (Nat.le_refl _))
  rcases q1 with ⟨⟨xs, hq⟩, q⟩ | ⟨⟨xs, hq⟩, q⟩
  · obtain ⟨its, rv, p, hz⟩ := I1.list hq
    refine wpAny_pyIter_list p.isList ?_
    exact ⟨s1.heap.objs.size, [s1.heap.objs.size], _, _, H1, rfl, I1.kept (t' := s1.toks) fun b o e => Heap.get?_push_of_some _ e, turn_list a _, ⟨_, Heap.get?_push_size _ rfl, rfl, rfl⟩, fin, q⟩
  · obtain ⟨its, rv, p, hz⟩ := I1.tuple hq
    refine wpAny_pyIter_tuple (show s1.heap.IsTuple a its.toArray from p) ?_
    exact ⟨s1.heap.objs.size, [s1.heap.objs.size], _, _, H1, rfl, I1.kept (t' := s1.toks) fun b o e => Heap.get?_push_of_some _ e, turn_tuple a _, ⟨_, Heap.get?_push_size _ rfl, rfl, rfl⟩, fin, q⟩
def wSeq (t : DE) : DI := fun δ μ Q => t δ μ fun x μ1 => match x with | .tup xs => Q xs μ1 | .rot xs => Q xs μ1 | .lst xs => Q xs μ1 | .rol xs => Q xs μ1 | _ => False
theorem itl_ok {K : PySem.W.Frag} {I : Hp} {a : Addr} {vs : List V} {ds : List Dv} (h : SqL K I a vs) (r : RepL K I ds vs) : ItOk K (Itl K a) I ds := by
  refine ⟨fun i μ I' H e SM hi => ⟨vs, vs[i]'(r.length ▸ hi), same_l SM.ex (same_l e h), by simp⟩, fun μ I' H e SM => ⟨vs, same_l SM.ex (same_l e h), by rw [r.length]; exact Nat.le_refl _⟩, fun i μ I' H x H' d e SM hd hy => ?_⟩
  obtain ⟨rfl, hy⟩ := hy
  obtain ⟨v, h1, h2⟩ := r.get hd
  have h3 := hy vs (same_l SM.ex (same_l e h))
  rw [h1] at h3
  cases h3
  exact ⟨I', Same.refl _, SM, h2.mono e _ _⟩
theorem itt_ok {K : PySem.W.Frag} {I : Hp} {a : Addr} {vs : List V} {ds : List Dv} (h : SqT K I a vs) (r : RepL K I ds vs) : ItOk K (Itt K a) I ds := by
  refine ⟨fun i μ I' H e SM hi => ⟨vs, vs[i]'(r.length ▸ hi), same_t SM.ex (same_t e h), by simp⟩, fun μ I' H e SM => ⟨vs, same_t SM.ex (same_t e h), by rw [r.length]; exact Nat.le_refl _⟩, fun i μ I' H x H' d e SM hd hy => ?_⟩
  obtain ⟨rfl, hy⟩ := hy
  obtain ⟨v, h1, h2⟩ := r.get hd
  have h3 := hy vs (same_t SM.ex (same_t e h))
  rw [h1] at h3
  cases h3
  exact ⟨I', Same.refl _, SM, h2.mono e _ _⟩
theorem wi_seq {tg e : Expr} {t : DE} (he : WE S F e t) : WI S F tg e (wSeq t) :=
  let ⟨ta, a1, a2⟩ := he
  ⟨iSeq S.K ta, fun i hi => hi.K ▸ pi_seq (a1 i hi), fun I δ μ σ H hJ SM hS Q Q' q u => a2 I δ μ σ H hJ SM hS _ _ q fun I1 x vx μ1 H1 e1 S1 r1 q1 => by
    cases r1 <;> first | exact False.elim q1 | skip
    · rename_i h1 h2; exact ⟨_, rfl, .inr ⟨⟨_, .inl (.inl (S1.ex _ _ h1))⟩, u I1 _ μ1 H1 _ e1 S1 (itt_ok (.inl (.inl h1)) h2) q1⟩⟩
    · rename_i h1 h2; exact ⟨_, rfl, .inr ⟨⟨_, same_t S1.ex h1⟩, u I1 _ μ1 H1 _ e1 S1 (itt_ok h1 h2) q1⟩⟩
    · rename_i h1 h2; exact ⟨_, rfl, .inl ⟨⟨_, .inl (.inl (S1.ex _ _ h1))⟩, u I1 _ μ1 H1 _ e1 S1 (itl_ok (.inl (.inl h1)) h2) q1⟩⟩
    · rename_i h1 h2; exact ⟨_, rfl, .inl ⟨⟨_, same_l S1.ex h1⟩, u I1 _ μ1 H1 _ e1 S1 (itl_ok h1 h2) q1⟩⟩⟩
/-- a text, sign by sign -/
def signs (z : Str) : List Dv := z.cps.toList.map fun c => .str ⟨#[c]⟩
def wStr (t : DE) : DI := fun δ μ Q => t δ μ fun x μ1 => match x with | .str z => Q (signs z) μ1 | _ => False
theorem wi_str {tg e : Expr} {t : DE} (he : WE S F e t) : WI S F tg e (wStr t) :=
  let ⟨ta, a1, a2⟩ := he
  ⟨_, fun i hi => pi_str (a1 i hi), fun I δ μ σ H hJ SM hS Q Q' q u => a2 I δ μ σ H hJ SM hS _ _ q fun I1 x vx μ1 H1 e1 S1 r1 q1 => by
    cases r1 <;> first | exact False.elim q1 | skip
    rename_i z
    refine ⟨_, rfl, u I1 _ μ1 H1 _ e1 S1 ⟨fun i _ _ _ _ _ hi => ?_, fun _ _ _ _ _ => ?_, fun i μ I' H x H' d e SM hd hy => ?_⟩ q1⟩
    · show i < z.cps.size
      simpa [signs] using hi
    · show z.cps.size ≤ (signs z).length
      simp [signs]
    · obtain ⟨rfl, c, hc, rfl⟩ := hy
      have : d = .str ⟨#[c]⟩ := by
        have h2 : (signs z)[i]? = some (Dv.str ⟨#[c]⟩) := by
          have hc' : z.cps.toList[i]? = some c := by simpa using hc
          simp [signs, hc']
        rw [h2] at hd
        exact (Option.some.inj hd).symm
      subst this
      exact ⟨I', Same.refl _, SM, .str _⟩⟩
/-- range(n), range(a, b) -/
def irange (lo : Int) (n : Nat) : List Dv := (List.range n).map fun (i : Nat) => Dv.int (lo + (i : Int))
theorem itr_ok {K : PySem.W.Frag} {I : Hp} {lo : Int} {n : Nat} : ItOk K (Itr lo n) I (irange lo n) := by
  refine ⟨fun i _ _ _ _ _ hi => ?_, fun _ _ _ _ _ => ?_, fun i μ I' H x H' d e SM hd hy => ?_⟩
  · show i < n
    simpa [irange] using hi
  · show n ≤ (irange lo n).length
    simp [irange]
  · obtain ⟨rfl, rfl⟩ := hy
    have : d = .int (lo + (i : Int)) := by
      simp [irange, List.getElem?_map] at hd
      obtain ⟨j, hj, rfl⟩ := hd
      obtain ⟨h1, h2⟩ := List.getElem?_eq_some_iff.mp hj
      simp at h2
      subst h2
      rfl
    subst this
    exact ⟨I', Same.refl _, SM, .int _⟩
def wRng1 (t : DA) : DI := fun δ μ Q => t δ μ fun xs μ1 => match xs with | [.int j] => (-(2 ^ 62) ≤ j ∧ j < 2 ^ 62) ∧ Q (irange 0 j.toNat) μ1 | _ => False
def wRng2 (t : DA) : DI := fun δ μ Q => t δ μ fun xs μ1 => match xs with | [.int i, .int j] => (-(2 ^ 62) ≤ i ∧ i < 2 ^ 62 ∧ -(2 ^ 62) ≤ j ∧ j < 2 ^ 62) ∧ Q (irange i (j - i).toNat) μ1 | _ => False
theorem wi_rng1 {tg a : Expr} {t : DA} {p : Pos} (hm : S.mg "range" = none) (ha : WA S F [a] t) (hg : ∀ j, Gl (F j) "range" := by exact fun _ => rfl) (hs : ∀ env, starEach [a] env = [(false, eval a env)] := by exact fun _ => rfl) : WI S F tg (.Call (.Name "range" p) [a] [] pos) (wRng1 t) :=
  let ⟨ta, a1, a2⟩ := ha
  ⟨_, fun i hi => pi_range1 (hg i) (hi.mg ▸ hm) (a1 i hi) (hs _), fun I δ μ σ H hJ SM hS Q Q' q u => a2 I δ μ σ H hJ SM hS _ _ q fun I1 ds vs μ1 H1 e1 S1 r1 q1 => by
    cases r1 with
    | nil => exact q1.elim
    | cons r1 r2 =>
      cases r2 with
      | cons _ _ => cases r1 <;> exact False.elim q1
      | nil =>
        cases r1 <;> first | exact False.elim q1 | exact ⟨_, rfl, q1.1.1, q1.1.2, u I1 _ μ1 H1 _ e1 S1 itr_ok q1.2⟩⟩
theorem wi_rng2 {tg a b : Expr} {t : DA} {p : Pos} (hm : S.mg "range" = none) (ha : WA S F [a, b] t) (hg : ∀ j, Gl (F j) "range" := by exact fun _ => rfl) (hs : ∀ env, starEach [a, b] env = [(false, eval a env), (false, eval b env)] := by exact fun _ => rfl) (hs2 : ∀ env, starEach [b] env = [(false, eval b env)] := by exact fun _ => rfl) : WI S F tg (.Call (.Name "range" p) [a, b] [] pos) (wRng2 t) :=
  let ⟨ta, a1, a2⟩ := ha
  ⟨_, fun i hi => pi_range2 (hg i) (hi.mg ▸ hm) (a1 i hi) (hs _) (hs2 _), fun I δ μ σ H hJ SM hS Q Q' q u => a2 I δ μ σ H hJ SM hS _ _ q fun I1 ds vs μ1 H1 e1 S1 r1 q1 => by
    cases r1 with
    | nil => exact q1.elim
    | cons r1 r2 =>
      cases r2 with
      | nil => cases r1 <;> exact False.elim q1
      | cons r2 r3 =>
        cases r3 with
        | cons _ _ => cases r1 <;> first | exact False.elim q1 | (cases r2 <;> exact False.elim q1)
        | nil => cases r1 <;> first | exact False.elim q1 | (cases r2 <;> first | exact False.elim q1 | exact ⟨_, _, rfl, q1.1, u I1 _ μ1 H1 _ e1 S1 itr_ok q1.2⟩)⟩

/-! ## loops -/
def sLoop (g : DG) (tb : DS) : List Dv → DEnds → DSt → Mu → Prop
  | [], D, δ, μ => D.nx δ μ
  | d :: ds, D, δ, μ => g d δ μ fun δ1 μ1 => tb { nx := sLoop g tb ds D, ct := sLoop g tb ds D, bk := D.nx, rt := D.rt } δ1 μ1
def sFor (wi : DI) (g : DG) (tb : DS) : DS := fun D δ μ => wi δ μ fun ds μ1 => sLoop g tb ds D δ μ1
theorem ws_for {tg iter : Expr} {body : List Stmt} {wi : DI} {g : DG} {tb : DS} (hi : WI S F tg iter wi) (hg : WG S F tg g) (hb : WSs S F body tb) (hs : ∀ env, ∀ x, foldedSetIterable iter env x = pure x := by exact fun _ _ => rfl) (hcold : S.cold = false := by rfl) :
    WS S F (.For tg iter body [] pos) (sFor wi g tb) :=
  let ⟨ti, i1, i2⟩ := hi; let ⟨tg', g1, g2⟩ := hg; let ⟨tb', b1, b2⟩ := hb
  ⟨_, fun i h => ps_for h.own (h.calm hcold) (i1 i h) (g1 i h) (b1 i h) (hs _), fun I δ μ σ H hJ SM hS D D' q u => i2 I δ μ σ H hJ SM hS _ _ q fun I1 ds μ1 H1 J e1 S1 ok q1 => by
    refine ⟨fun i m σ' H' => m = ds.length - i ∧ i ≤ ds.length ∧ ∃ I' δ' μ', Same I1 I' ∧ SatM S.K I' μ' H' ∧ RepS S.K I' δ' σ' ∧ sLoop g tb (ds.drop i) D δ' μ', ⟨ds.length, by simp, Nat.zero_le _, I1, δ, μ1, Same.refl _, S1, hS.mono e1, by simpa using q1⟩, ?_⟩
    rintro i m σ' H' ⟨rfl, hle, I', δ', μ', e', S', R', q'⟩
    by_cases hlt : i < ds.length
    · refine .inr ⟨ok.go i μ' I' H' e' S' hlt, fun σ2 H2 => ∃ I2 δ2 μ2, Same I1 I2 ∧ SatM S.K I2 μ2 H2 ∧ RepS S.K I2 δ2 σ2 ∧ sLoop g tb (ds.drop (i + 1)) D δ2 μ2, fun σ2 H2 w => ⟨ds.length - (i + 1), by omega, rfl, hlt, w⟩, fun x H2 hy => ?_⟩
      have hd : ds[i]? = some ds[i] := by simp [hlt]
      obtain ⟨I2, e2, S2, r2⟩ := ok.yld i μ' I' H' x H2 _ e' S' hd hy
      rw [List.drop_eq_getElem_cons hlt] at q'
      have hJ2 := (hJ.trans e1).trans (e'.trans e2)
      refine g2 I2 δ' μ' σ' H2 _ _ hJ2 S2 (R'.mono e2) r2 _ _ q' fun I3 δ3 σ3 μ3 H3 e3 S3 R3 q3 => ?_
      have e13 := (e'.trans e2).trans e3
      refine b2 I3 δ3 μ3 σ3 H3 (hJ2.trans e3) S3 R3 _ _ q3 ⟨?_, ?_, ?_, ?_⟩
      · exact fun I4 δ4 σ4 μ4 H4 e4 S4 R4 q4 => ⟨I4, δ4, μ4, e13.trans e4, S4, R4, q4⟩
      · exact u.rt.mono (e1.trans e13)
      · exact u.nx.mono (e1.trans e13)
      · exact fun I4 δ4 σ4 μ4 H4 e4 S4 R4 q4 => ⟨I4, δ4, μ4, e13.trans e4, S4, R4, q4⟩
    · have e : i = ds.length := by omega
      subst e
      rw [List.drop_length] at q'
      exact .inl ⟨ok.stop μ' I' H' e' S', u.nx I' δ' σ' μ' H' (e1.trans e') S' R' q'⟩⟩
def sTimes (c : DT) (tb : DS) : Nat → DEnds → DSt → Mu → Prop
  | 0, _, _, _ => False
  | n + 1, D, δ, μ => c δ μ fun b μ1 => if b = true then tb { nx := sTimes c tb n D, ct := sTimes c tb n D, bk := D.nx, rt := D.rt } δ μ1 else D.nx δ μ1
def sWhile (c : DT) (tb : DS) : DS := fun D δ μ => ∃ n, sTimes c tb n D δ μ
theorem ws_while {c : Expr} {body : List Stmt} {sc : DT} {tb : DS} (hc : WT S F c sc) (hb : WSs S F body tb) : WS S F (.While c body [] pos) (sWhile sc tb) :=
  let ⟨tc, c1, c2⟩ := hc; let ⟨tb', b1, b2⟩ := hb
  ⟨_, fun i h => ps_while h.own (c1 i h) (b1 i h), fun I δ μ σ H hJ SM hS D D' q u => by
    obtain ⟨n, q⟩ := q
    refine ⟨fun m σ' H' => ∃ I' δ' μ', Same I I' ∧ SatM S.K I' μ' H' ∧ RepS S.K I' δ' σ' ∧ sTimes sc tb m D δ' μ', ⟨n, I, δ, μ, Same.refl _, SM, hS, q⟩, ?_⟩
    rintro m σ' H' ⟨I', δ', μ', e', S', R', q'⟩
    cases m with
    | zero => exact q'.elim
    | succ m =>
      refine c2 I' δ' μ' σ' H' (hJ.trans e') S' R' _ _ q' fun I1 b μ1 H1 e1 S1 q1 => ?_
      have e11 := e'.trans e1
      cases b with
      | true =>
        rw [if_pos rfl] at q1 ⊢
        refine ⟨fun σ2 H2 => ∃ I2 δ2 μ2, Same I I2 ∧ SatM S.K I2 μ2 H2 ∧ RepS S.K I2 δ2 σ2 ∧ sTimes sc tb m D δ2 μ2, fun σ2 H2 w => ⟨m, Nat.lt_succ_self _, w⟩, ?_⟩
        refine b2 I1 δ' μ1 σ' H1 (hJ.trans e11) S1 (R'.mono e1) _ _ q1 ⟨?_, ?_, ?_, ?_⟩
        · exact fun I4 δ4 σ4 μ4 H4 e4 S4 R4 q4 => ⟨I4, δ4, μ4, e11.trans e4, S4, R4, q4⟩
        · exact u.rt.mono e11
        · exact u.nx.mono e11
        · exact fun I4 δ4 σ4 μ4 H4 e4 S4 R4 q4 => ⟨I4, δ4, μ4, e11.trans e4, S4, R4, q4⟩
      | false =>
        rw [if_neg Bool.false_ne_true] at q1 ⊢
        exact u.nx I1 _ _ μ1 H1 e11 S1 (R'.mono e1) q1⟩
end
end Wl

set_option Elab.async false
set_option linter.all false
set_option maxRecDepth 100000
set_option maxHeartbeats 2000000
namespace Wl
open PySem L2
open PySem.Spec PyProof.Rows
/-! ## comprehensions -/
def dwipe (δ : DSt) : List Nat → DSt
  | [] => δ
  | v :: vs => (dwipe δ vs).set v none
theorem RepS.wipe {K : PySem.W.Frag} {I : Hp} {δ : DSt} {σ : L2.St} (r : RepS K I δ σ) : ∀ vs : List Nat, RepS K I (dwipe δ vs) (L2.wipe σ vs)
  | [] => r
  | v :: vs => by
    have h := RepS.wipe r vs
    refine ⟨by show ((dwipe δ vs).set v none).length = ((L2.wipe σ vs).set v none).length; rw [List.length_set, List.length_set, h.len], fun i d e => ?_⟩
    have e' : ((dwipe δ vs).set v none)[i]? = some (some d) := e
    show ∃ x, ((L2.wipe σ vs).set v none)[i]? = some (some x) ∧ _
    rw [List.getElem?_set] at e' ⊢
    by_cases hv : v = i
    · rw [if_pos hv] at e'
      split at e' <;> cases e'
    · rw [if_neg hv] at e' ⊢
      exact h.at_ i d e'
theorem wipe_get {σ : L2.St} {i : Nat} : ∀ {vs : List Nat}, i ∉ vs → (L2.wipe σ vs)[i]? = σ[i]?
  | [], _ => rfl
  | v :: vs, h => by
    show ((L2.wipe σ vs).set v none)[i]? = _
    rw [List.getElem?_set_ne (fun e => h (by simp [e]))]
    exact wipe_get fun e => h (List.mem_cons_of_mem _ e)
theorem wipe_in {σ : L2.St} {i : Nat} : ∀ {vs : List Nat}, i ∈ vs → (L2.wipe σ vs)[i]? = if i < σ.length then some none else none
  | v :: vs, h => by
    show ((L2.wipe σ vs).set v none)[i]? = _
    rw [List.getElem?_set, wipe_length]
    by_cases hv : v = i
    · subst hv; simp
    · rw [if_neg hv]
      exact wipe_in (by simpa [Ne.symm hv] using h)
theorem wipe_set {σ : L2.St} {i : Nat} {x : Option V} {vs : List Nat} (h : i ∈ vs) : L2.wipe (σ.set i x) vs = L2.wipe σ vs := by
  apply List.ext_getElem?
  intro j
  by_cases hj : j ∈ vs
  · rw [wipe_in hj, wipe_in hj, List.length_set]
  · rw [wipe_get hj, wipe_get hj, List.getElem?_set_ne (fun (e : i = j) => hj (e ▸ h))]
theorem wipe_wipe {σ : L2.St} {vs : List Nat} : L2.wipe (L2.wipe σ vs) vs = L2.wipe σ vs := by
  apply List.ext_getElem?
  intro j
  by_cases hj : j ∈ vs
  · rw [wipe_in hj, wipe_in hj, wipe_length]
  · rw [wipe_get hj]
section
variable {S : Sg} {ι : Type} {F : ι → Cx} {pos : Pos}
def RGv (S : Sg) (vs : List Nat) (g : TG) (t : DG) : Prop := ∀ I δ μ σ H d v, Same S.J I → SatM S.K I μ H → RepS S.K I δ σ → Rep S.K I d v → ∀ (Q : DSt → Mu → Prop) (Q' : L2.St → Hp → Prop), t d δ μ Q →
  (∀ I' δ' σ' μ' H', Same I I' → SatM S.K I' μ' H' → RepS S.K I' δ' σ' → L2.wipe σ' vs = L2.wipe σ vs → Q δ' μ' → Q' σ' H') → g v σ H Q'
def RGsv (S : Sg) (vs : List Nat) (g : TGs) (t : DGs) : Prop := ∀ I δ μ σ H ds us, Same S.J I → SatM S.K I μ H → RepS S.K I δ σ → RepL S.K I ds us → ∀ (Q : DSt → Mu → Prop) (Q' : L2.St → Hp → Prop), t ds δ μ Q →
  (∀ I' δ' σ' μ' H', Same I I' → SatM S.K I' μ' H' → RepS S.K I' δ' σ' → L2.wipe σ' vs = L2.wipe σ vs → Q δ' μ' → Q' σ' H') → g us σ H Q'
def WGv (S : Sg) {ι : Type} (F : ι → Cx) (vs : List Nat) (e : Expr) (t : DG) : Prop := ∃ te, (∀ i, Is S (F i) → PG (F i) e te) ∧ RGv S vs te t
def WGsv (S : Sg) {ι : Type} (F : ι → Cx) (vs : List Nat) (es : List Expr) (t : DGs) : Prop := ∃ te, (∀ i, Is S (F i) → PGs (F i) es te) ∧ RGsv S vs te t
theorem wgv_name (i : Nat) {vs : List Nat} {x : Str} (hN : S.N.Nodup) (hi : S.N[i]? = some x := by rfl) (hv : i ∈ vs := by decide) (hx : ∀ j, Loc (F j).env.scope x := by first | exact fun _ => .inl rfl | exact fun _ => .inr rfl)
    (hf : ∀ j, (F j).fn x = true ∨ (F j).env.scope.names.lookup x = some .local := by first | exact fun _ => .inl rfl | exact fun _ => .inr rfl) : WGv S F vs (.Name x pos) (dName i) :=
  ⟨_, fun j hj => pg_name (hj.N ▸ hN) (hj.N ▸ hi) (hx j) (hf j), fun I δ μ σ H d v hJ SM hS r Q Q' q u => u I _ _ μ H (Same.refl I) SM (hS.set i r) (wipe_set hv) q⟩
theorem wgsv_nil {vs : List Nat} : WGsv S F vs [] dNil := ⟨_, fun _ _ => pgs_nil, fun I δ μ σ H ds us hJ SM hS r Q Q' q u => by
  cases r with
  | nil => exact ⟨rfl, u I δ σ μ H (Same.refl I) SM hS rfl q⟩
  | cons _ _ => exact q.elim⟩
theorem wgsv_cons {vs : List Nat} {e : Expr} {es : List Expr} {t : DG} {u : DGs} (h1 : WGv S F vs e t) (h2 : WGsv S F vs es u) (hs : ∀ env, (assignEach (e :: es) env).map (·.2) = assign e env :: (assignEach es env).map (·.2) := by exact fun _ => rfl) : WGsv S F vs (e :: es) (dCons t u) :=
  let ⟨a, a1, a2⟩ := h1; let ⟨b, b1, b2⟩ := h2
  ⟨_, fun i hi => pgs_cons (a1 i hi) (b1 i hi) (hs _), fun I δ μ σ H ds us hJ SM hS r Q Q' q u => by
    cases r with
    | nil => exact q.elim
    | cons r1 r2 => exact ⟨_, _, rfl, a2 I δ μ σ H _ _ hJ SM hS r1 _ _ q fun I1 δ1 σ1 μ1 H1 e1 S1 R1 w1 q1 => b2 I1 δ1 μ1 σ1 H1 _ _ (hJ.trans e1) S1 R1 (r2.mono e1 _ _) _ _ q1 fun I2 δ2 σ2 μ2 H2 e2 S2 R2 w2 q2 => u I2 δ2 σ2 μ2 H2 (e1.trans e2) S2 R2 (w2.trans w1) q2⟩⟩
theorem wgv_tup {vs : List Nat} {es : List Expr} {k : Nat} {t : DGs} {n : Nat} (h : WGsv S F vs es t) (hn : ∀ env, (assignEach es env).length = n := by exact fun _ => rfl) (hst : ∀ env, (assignEach es env).findIdx? (·.1) = none := by exact fun _ => rfl) (hcold : S.cold = false := by rfl) : WGv S F vs (.Tuple es k pos) (dTup n t) :=
  let ⟨a, a1, a2⟩ := h
  ⟨gTup S.K n a, fun i hi => hi.K ▸ pg_tup (hi.calm hcold) (a1 i hi) (hn _) (hst _), fun I δ μ σ H d v hJ SM hS r Q Q' q u => by
    cases r <;> first | exact False.elim q | skip
    · rename_i h1 h2
      exact ⟨_, _, rfl, .inl (.inl (SM.ex _ _ h1)), by rw [← h2.length]; exact q.1, a2 I δ μ σ H _ _ hJ SM hS h2 _ _ q.2 u⟩
    · rename_i h1 h2
      exact ⟨_, _, rfl, same_t SM.ex h1, by rw [← h2.length]; exact q.1, a2 I δ μ σ H _ _ hJ SM hS h2 _ _ q.2 u⟩⟩
/-- the tests of a comprehension -/
def WTs (S : Sg) {ι : Type} (F : ι → Cx) (es : List Expr) (t : DT) : Prop := ∃ te, (∀ i, Is S (F i) → PTs (F i) es te) ∧ RT S te t
def vYes : DT := fun _ μ Q => Q true μ
theorem wts_nil : WTs S F [] vYes := ⟨_, fun _ _ => pts_nil, fun I δ μ σ H hJ SM hS Q Q' q u => u I true μ H (Same.refl I) SM q⟩
theorem wts_one {e : Expr} {t : DT} (h : WT S F e t) : WTs S F [e] t := let ⟨te, h1, h2⟩ := h; ⟨te, fun i hi => pts_one (h1 i hi), h2⟩
/-- a block's record: nothing leaves it -/
def Sg.blk (S : Sg) : Sg := { S with W := fun _ _ _ _ => False, E2 := fun _ _ _ _ => False, tr := fun _ _ _ _ _ _ _ _ _ _ q => q }
abbrev BlkI (ι : Type) := ι × Shared × Hp × Addr × List (Str × Addr) × List Addr
abbrev blkF {ι : Type} (F : ι → Cx) (scope : Scope) : BlkI ι → Cx := fun p => (F p.1).blk p.2.1 p.2.2.1 scope (compEnvC scope p.2.2.2.2.1 p.2.2.2.1 (F p.1).env) p.2.2.2.2.2
theorem Is.blk {X : Cx} (h : Is S X) (s : Shared) (H : Hp) (scope : Scope) (cenv : Env) (fp : List Addr) : Is S.blk (X.blk s H scope cenv fp) :=
  ⟨h.prog, h.w, h.K, h.mg, h.base, h.N, h.calm, h.room, L2.takes0, PassesOwn.never, h.units⟩
def vLoop (vs : List Nat) (g : DG) (tt : DT) (te : DE) (δ : DSt) (D : Addr) : List Dv → Mu → (List Dv → Mu → Prop) → Prop
  | [], μ, Q => ∃ acc, μ D = some (.lst acc) ∧ Q acc μ
  | d :: ds, μ, Q => g d (dwipe δ vs) μ fun δ1 μ1 => tt δ1 μ1 fun b μ2 => if b = true then te δ1 μ2 fun y μ3 => ∃ acc, μ3 D = some (.lst acc) ∧ acc.length < sizeLine ∧ vLoop vs g tt te δ D ds (mset μ3 D (.lst (acc ++ [y]))) Q else vLoop vs g tt te δ D ds μ2 Q
def vComp (vs : List Nat) (wi : DI) (g : DG) (tt : DT) (te : DE) : DE := fun δ μ Q => wi δ μ fun ds μ1 => ∀ D, μ1 D = none → vLoop vs g tt te δ D ds (mset μ1 D (.lst [])) fun acc μ2 => Q (.lst acc) (mdel μ2 D)
/-- a new list that will change -/
def vCompM (vs : List Nat) (wi : DI) (g : DG) (tt : DT) (te : DE) : DE := fun δ μ Q => wi δ μ fun ds μ1 => ∀ D, μ1 D = none → vLoop vs g tt te δ D ds (mset μ1 D (.lst [])) fun _ μ2 => Q (.ref D) μ2
theorem re_comp0 {vs : List Nat} {ti : TI} {wi : DI} {tg : TG} {g : DG} {t1 : TT} {tt : DT} {t2 : TE} {te : DE} (i2 : RI S ti wi) (g2 : RGv S.blk vs tg g) (b2 : RT S.blk t1 tt) (c2 : RE S.blk t2 te) (P : Addr → List Dv → Mu → Prop) :
    ∀ I δ μ σ H, Same S.J I → SatM S.K I μ H → RepS S.K I δ σ → ∀ (Q' : VK), (wi δ μ fun ds μ1 => ∀ D, μ1 D = none → vLoop vs g tt te δ D ds (mset μ1 D (.lst [])) (P D)) →
      (∀ I' D acc μ' H', Same I I' → SatM S.K I' μ' H' → μ' D = some (.lst acc) → P D acc μ' → Q' (.ref D) H') → tLc ti tg t1 t2 vs σ H Q' :=
  fun I δ μ σ H hJ SM hS Q' q u => i2 I δ μ σ H hJ SM hS _ _ q fun I1 ds μ1 H1 J e1 S1 ok q1 D hD => by
    refine ⟨fun i m H' => m = ds.length - i ∧ i ≤ ds.length ∧ ∃ I' μ', Same I1 I' ∧ SatM S.K I' μ' H' ∧ vLoop vs g tt te δ D (ds.drop i) μ' (P D),
      ⟨ds.length, by simp, Nat.zero_le _, I1, _, Same.refl _, S1.setM (m := .lst []) (S1.ex.free hD) ⟨[], .nil, upd_same⟩, by simpa using q1 D (S1.muNone hD)⟩, ?_⟩
    rintro i m H' ⟨rfl, hle, I', μ', e', S', q'⟩
    by_cases hlt : i < ds.length
    · refine .inr ⟨ok.go i μ' I' H' e' S' hlt, fun H2 => ∃ I2 μ2, Same I1 I2 ∧ SatM S.K I2 μ2 H2 ∧ vLoop vs g tt te δ D (ds.drop (i + 1)) μ2 (P D),
        fun H2 w => ⟨ds.length - (i + 1), by omega, rfl, hlt, w⟩, fun x H2 hy => ?_⟩
      have hd : ds[i]? = some ds[i] := by simp [hlt]
      obtain ⟨I2, e2, S2, r2⟩ := ok.yld i μ' I' H' x H2 _ e' S' hd hy
      rw [List.drop_eq_getElem_cons hlt] at q'
      have hJ2 := (hJ.trans e1).trans (e'.trans e2)
      refine g2 I2 _ μ' _ H2 _ _ hJ2 S2 ((hS.mono (e1.trans (e'.trans e2))).wipe vs) r2 _ _ q' fun I3 δ3 σ3 μ3 H3 e3 S3 R3 w3 q3 => ⟨w3.trans wipe_wipe, ?_⟩
      refine b2 I3 δ3 μ3 σ3 H3 (hJ2.trans e3) S3 R3 _ _ q3 fun I4 b μ4 H4 e4 S4 q4 => ?_
      have e14 := ((e'.trans e2).trans e3).trans e4
      cases b with
      | false =>
        rw [if_neg Bool.false_ne_true] at q4 ⊢
        exact ⟨I4, μ4, e14, S4, q4⟩
      | true =>
        rw [if_pos rfl] at q4 ⊢
        refine c2 I4 δ3 μ4 σ3 H4 ((hJ2.trans e3).trans e4) S4 (R3.mono e4) _ _ q4 fun I5 y vy μ5 H5 e5 S5 r5 q5 => ?_
        obtain ⟨acc, em, hl, q6⟩ := q5
        obtain ⟨vs', rl, hv⟩ := S5.memo em
        refine ⟨vs', hv, by rw [← rl.length]; exact hl, I5, _, e14.trans e5, S5.setM (m := .lst (acc ++ [y])) (S5.mu _ _ em).1 ⟨_, rl.append (.cons r5 .nil), upd_same⟩, q6⟩
    · have e : i = ds.length := by omega
      subst e
      rw [List.drop_length] at q'
      obtain ⟨acc, em, q6⟩ := q'
      exact .inl ⟨ok.stop μ' I' H' e' S', u I' D acc μ' H' (e1.trans e') S' em q6⟩
theorem re_comp {vs : List Nat} {ti : TI} {wi : DI} {tg : TG} {g : DG} {t1 : TT} {tt : DT} {t2 : TE} {te : DE} (i2 : RI S ti wi) (g2 : RGv S.blk vs tg g) (b2 : RT S.blk t1 tt) (c2 : RE S.blk t2 te) : RE S (tLc ti tg t1 t2 vs) (vComp vs wi g tt te) :=
  fun I δ μ σ H hJ SM hS Q Q' q u => re_comp0 i2 g2 b2 c2 (fun D acc μ2 => Q (.lst acc) (mdel μ2 D)) I δ μ σ H hJ SM hS Q' q fun I' D acc μ' H' e' S' em q' => by
    obtain ⟨vs', rl, s1, s2⟩ := S'.freeze em
    exact u _ _ _ _ H' (e'.trans s1) s2 (.lst upd_same (rl.mono s1 _ _)) q'
theorem re_compM {vs : List Nat} {ti : TI} {wi : DI} {tg : TG} {g : DG} {t1 : TT} {tt : DT} {t2 : TE} {te : DE} (i2 : RI S ti wi) (g2 : RGv S.blk vs tg g) (b2 : RT S.blk t1 tt) (c2 : RE S.blk t2 te) : RE S (tLc ti tg t1 t2 vs) (vCompM vs wi g tt te) :=
  fun I δ μ σ H hJ SM hS Q Q' q u => re_comp0 i2 g2 b2 c2 (fun D _ μ2 => Q (.ref D) μ2) I δ μ σ H hJ SM hS Q' q fun I' D acc μ' H' e' S' em q' => u _ _ _ _ H' e' S' (.ref D) q'
theorem we_comp {elt tg iter : Expr} {ifs : List Expr} {scope : Scope} {own : List (Str × Nat)} {wi : DI} {g : DG} {tt : DT} {te : DE} (hN : S.N.Nodup) (hi : WI S F tg iter wi) (ok : ∀ i, BlkOk S.N (F i).env.scope scope own)
    (hg : WGv S.blk (blkF F scope) (own.map (·.2)) tg g) (ht : WTs S.blk (blkF F scope) ifs tt) (he : WE S.blk (blkF F scope) elt te) (hs : ∀ env, ∀ x, foldedSetIterable iter env x = pure x := by exact fun _ _ => rfl) (hcold : S.cold = false := by rfl) :
    WE S F (.ListComp elt [⟨tg, iter, ifs, 0⟩] scope pos) (vComp (own.map (·.2)) wi g tt te) :=
  let ⟨ti, i1, i2⟩ := hi; let ⟨tg', g1, g2⟩ := hg; let ⟨t1, b1, b2⟩ := ht; let ⟨t2, c1, c2⟩ := he
  ⟨_, fun i h => pe_lc (h.calm hcold) (h.N ▸ hN) (i1 i h) (h.N ▸ ok i) (fun s H C cl fp => g1 (i, s, H, C, cl, fp) (h.blk s H scope _ fp)) (fun s H C cl fp => b1 (i, s, H, C, cl, fp) (h.blk s H scope _ fp)) (fun s H C cl fp => c1 (i, s, H, C, cl, fp) (h.blk s H scope _ fp)) (hs _), re_comp i2 g2 b2 c2⟩
theorem we_compM {elt tg iter : Expr} {ifs : List Expr} {scope : Scope} {own : List (Str × Nat)} {wi : DI} {g : DG} {tt : DT} {te : DE} (hN : S.N.Nodup) (hi : WI S F tg iter wi) (ok : ∀ i, BlkOk S.N (F i).env.scope scope own)
    (hg : WGv S.blk (blkF F scope) (own.map (·.2)) tg g) (ht : WTs S.blk (blkF F scope) ifs tt) (he : WE S.blk (blkF F scope) elt te) (hs : ∀ env, ∀ x, foldedSetIterable iter env x = pure x := by exact fun _ _ => rfl) (hcold : S.cold = false := by rfl) :
    WE S F (.ListComp elt [⟨tg, iter, ifs, 0⟩] scope pos) (vCompM (own.map (·.2)) wi g tt te) :=
  let ⟨ti, i1, i2⟩ := hi; let ⟨tg', g1, g2⟩ := hg; let ⟨t1, b1, b2⟩ := ht; let ⟨t2, c1, c2⟩ := he
  ⟨_, fun i h => pe_lc (h.calm hcold) (h.N ▸ hN) (i1 i h) (h.N ▸ ok i) (fun s H C cl fp => g1 (i, s, H, C, cl, fp) (h.blk s H scope _ fp)) (fun s H C cl fp => b1 (i, s, H, C, cl, fp) (h.blk s H scope _ fp)) (fun s H C cl fp => c1 (i, s, H, C, cl, fp) (h.blk s H scope _ fp)) (hs _), re_compM i2 g2 b2 c2⟩
/-! ## what is mutable becomes fixed where it is read: a name, an attribute .. -/
def vFrz (t : DE) : DE := fun δ μ Q => t δ μ fun x μ1 => match x with | .ref a => ∃ xs, μ1 a = some (.lst xs) ∧ Q (.lst xs) (mdel μ1 a) | _ => False
theorem we_frz {e : Expr} {t : DE} (h : WE S F e t) : WE S F e (vFrz t) :=
  let ⟨te, h1, h2⟩ := h
  ⟨te, h1, fun I δ μ σ H hJ SM hS Q Q' q u => h2 I δ μ σ H hJ SM hS _ _ q fun I1 x vx μ1 H1 e1 S1 r1 q1 => by
    cases r1 <;> first | exact False.elim q1 | skip
    obtain ⟨xs, em, q2⟩ := q1
    obtain ⟨vs', rl, s1, s2⟩ := S1.freeze em
    exact u _ _ _ _ H1 (e1.trans s1) s2 (.lst upd_same (rl.mono s1 _ _)) q2⟩
end
end Wl

set_option Elab.async false
set_option linter.all false
set_option maxRecDepth 100000
set_option maxHeartbeats 2000000
namespace Wl
open PySem L2
open PySem.Spec PyProof.Rows
/-! ## defs -/
abbrev Sp2 := List Dv → Mu → DV → DX → Prop
def UpX (K : PySem.W.Frag) (I : Hp) (E : DX) (E' : XK) : Prop := ∀ I' C d μ' H', Same I I' → SatM K I' μ' H' → E C d μ' → E' (.ref C) d H'
def toSp (K : PySem.W.Frag) (sp : Sp2) : Sp := fun vs H Q E => ∃ I ds μ Q2 E2, SatM K I μ H ∧ RepL K I ds vs ∧ sp ds μ Q2 E2 ∧ Up K I Q2 Q ∧ UpX K I E2 E
/-- a def's promise by deep values -/
abbrev Ok (P : Program) (w : World) (K : PySem.W.Frag) (mg : Str → Option Value) (base : Heap) (k : Nat) (f : Addr) (fd : FuncData) (ps : List Str) (sp : Sp2) : Prop := FnOk P w K mg base (L2.CX P w) k f fd ps (toSp K sp)
def dstart (N : List Str) (ds : List Dv) : DSt := ds.map some ++ List.replicate (N.length - ds.length) none
theorem RepL.start {K : PySem.W.Frag} {I : Hp} {ds : List Dv} {vs : List V} (r : RepL K I ds vs) (N : List Str) : RepS K I (dstart N ds) (L2.start N vs) := by
  refine ⟨by simp [dstart, L2.start, r.length], fun i d e => ?_⟩
  unfold dstart at e
  unfold L2.start
  have hl := r.length
  by_cases hi : i < ds.length
  · rw [List.getElem?_append_left (by simpa using hi), List.getElem?_map] at e
    rw [List.getElem?_append_left (by simpa [← hl] using hi), List.getElem?_map]
    cases h : ds[i]? with
    | none => rw [h] at e; cases e
    | some d' =>
      rw [h] at e
      cases e
      obtain ⟨v, h1, h2⟩ := r.get h
      exact ⟨v, by rw [h1]; rfl, h2⟩
  · rw [List.getElem?_append_right (by simpa using Nat.le_of_not_lt hi)] at e
    have := List.mem_of_getElem? e
    simp at this
section
variable {S : Sg} {ι : Type} {F : ι → Cx} {pos : Pos}
def vCall (sp : Sp2) (dds : List Dv) (E2 : DXS) (t : DA) : DE := fun δ μ Q => t δ μ fun xs μ1 => sp (xs ++ dds) μ1 Q fun C d μ2 => E2 C d δ μ2
theorem sp_run {sp : Sp2} {I1 : Hp} {δ : DSt} {σ : L2.St} {μ1 : Mu} {H1 : Hp} {ds : List Dv} {vs : List V} {Q : DV} {Q' : VK} (hJ : Same S.J I1) (S1 : SatM S.K I1 μ1 H1) (hS : RepS S.K I1 δ σ) (r : RepL S.K I1 ds vs) (q : sp ds μ1 Q fun C d μ2 => S.E2 C d δ μ2) (u : Up S.K I1 Q Q') :
    toSp S.K sp vs H1 Q' (L2.WE S.W σ) := ⟨I1, ds, μ1, Q, _, S1, r, q, u, fun I' C d μ' H' e' S' q' => S.tr I' C d δ μ' σ H' (hJ.trans e') S' (hS.mono e') q'⟩
theorem we_call {x : Str} {f : Addr} {fd : FuncData} {ps : List Str} {sp : Sp2} {dds : List Dv} {dvs : List V} {dus : List Value} {j : Nat} {e : Expr} {es : List Expr} {t : DA} {p : Pos} (Fn : Ok S.P S.w S.K S.mg S.base j f fd ps sp) (hm : S.mg x = some (.ref f)) (hk : PySem.W.keepIn S.K (.ref f) = true) (hb : Binds S.K fd ps dus) (hd : Vals dvs dus) (hdd : ∀ I, RepL S.K I dds dvs)
    (hj : j ≤ S.k) (ha : WA S F (e :: es) t) (hg : ∀ j, Gl (F j) x := by exact fun _ => rfl)
    (hdb : (x == ("__debug__" : Str)) = false := by decide) (he : ∀ env, starEach (e :: es) env = (false, eval e env) :: starEach es env := by exact fun _ => rfl) (hpl : ∀ env, (backTo pos (starEach es env)).any (·.1) = false := by exact fun _ => rfl) (hcold : S.cold = false := by rfl) :
    WE S F (.Call (.Name x p) (e :: es) [] pos) (vCall sp dds S.E2 t) :=
  let ⟨ta, a1, a2⟩ := ha
  ⟨tCallSD (toSp S.K sp) dvs (L2.WE S.W) ta, fun i hi => by
    obtain ⟨P, w, K, mg, base, k, N, J, W, E2, tr, cold⟩ := S
    obtain ⟨h1, h2, h3, h4, h5, h6, h7, h8, h9, h10, h11⟩ := id hi
    have r8 := h8 hcold
    dsimp only at h1 h2 h3 h4 h5 h6 r8 h9 Fn hm hk hb hj hdd a2 ⊢
    subst h1 h2 h3 h4 h5
    exact pe_callSD Fn (r8.mono hj) (hg i) hm hk hb hd (fun σ => passAt h9 σ) (a1 i hi) hdb (he _) (hpl _),
   fun I δ μ σ H hJ SM hS Q Q' q u => a2 I δ μ σ H hJ SM hS _ _ q fun I1 ds vs μ1 H1 e1 S1 r1 q1 =>
    sp_run (hJ.trans e1) S1 (hS.mono e1) (r1.append (hdd I1)) q1 (u.mono e1)⟩
end
/-- a def's body and its promise -/
theorem ok_def {P : Program} {w : World} {K : PySem.W.Frag} {mg : Str → Option Value} {base : Heap} {x qual : Str} {st : Stmt} {f : Addr} {fd : FuncData} {N ps : List Str} {k : Nat} {sp : Sp2} (Fn : Fun K x qual st f fd) (Sc : FnScope N ps (defScope st))
    (t : DXS → DS) (hsp : ∀ ds μ Q E, sp ds μ Q E → ds.length = ps.length ∧ t (fun C d _ μ => E C d μ) { nx := fun _ μ' => Q .non μ', rt := Q } (dstart N ds) μ)
    (body : ∀ (cdv : Value) (A : Around) (outer : List Env) (s : Shared) (H : Hp) (E : XK) (J : Hp) (W : WX) (E2 : DXS) tr, WSs ⟨P, w, K, mg, base, k, N, J, W, E2, tr, false⟩ (fun _ : Unit => cxOf (L2.CX P w) P w K mg base N qual (defScope st) f cdv A outer s H E) (defBody st) (t E2)) :
    Ok P w K mg base (k + 1) f fd ps sp := by
  refine Fn.okX Sc (fun vs H Q E h => ?_) (fun cdv A outer s H vs Q E hr h => ?_)
  · obtain ⟨I, ds, μ, Q2, E2, _, r, h, _⟩ := h
    rw [← r.length]
    exact (hsp ds μ Q2 E2 h).1
  · obtain ⟨I, ds, μ, Q2, E2, SM, r, h, u, ux⟩ := h
    obtain ⟨ts, h1, h2⟩ := body cdv A outer s H E I (fun cls d _ H => E cls d H) (fun C d _ μ => E2 C d μ) (fun I' C d δ μ' σ H' e' S' R' q' => ux I' C d μ' H' e' S' q')
    refine ⟨ts, h1 () ⟨rfl, rfl, rfl, rfl, rfl, rfl, fun _ => rfl, fun _ => hr, takes_of rfl rfl rfl rfl, passes_of rfl, hr.units⟩, ?_⟩
    refine h2 I _ μ _ H (Same.refl I) SM (r.start N) _ _ (hsp ds μ Q2 E2 h).2 ⟨?_, u, ?_, ?_⟩
    · exact fun I' δ' σ' μ' H' e' S' R' q' => u I' .non .non μ' H' e' S' .non q'
    · exact fun _ _ _ _ _ _ _ _ q' => q'.elim
    · exact fun _ _ _ _ _ _ _ _ q' => q'.elim
end Wl
namespace Wl
open PySem L2
/-- the promise that a body gives as it stands -/
def spOf (n : Nat) (N : List Str) (t : DXS → DS) : Sp2 := fun ds μ Q E => ds.length = n ∧ t (fun C d _ μ => E C d μ) { nx := fun _ μ' => Q .non μ', rt := Q } (dstart N ds) μ
abbrev noX : DXS := fun _ _ _ _ => False
end Wl

set_option Elab.async false
set_option linter.all false
set_option maxRecDepth 100000
set_option maxHeartbeats 2000000
namespace Wl
open PySem L2
open PySem.Spec PyProof.Rows
def dput (f : Str) (v : Dv) : List (Str × Dv) → List (Str × Dv)
  | [] => [(f, v)]
  | (g, x) :: r => if g = f then (g, v) :: r else (g, x) :: dput f v r
theorem RepP.lookup {K : PySem.W.Frag} {I : Hp} : ∀ {fs : List (Str × Dv)} {gs : List (Str × V)} {f : Str} {d : Dv}, RepP K I fs gs → fs.lookup f = some d → ∃ v, gs.lookup f = some v ∧ Rep K I d v
  | _, _, f, _, .nil, e => by simp [List.lookup] at e
  | (g, x) :: r, (g', x') :: r', f, d, .cons h t, e => by
    obtain ⟨h1, h2⟩ := h
    cases h1
    rw [List.lookup_cons] at e ⊢
    cases hb : f == g with
    | true =>
      simp only [hb] at e
      cases e
      exact ⟨x', by simp, h2⟩
    | false =>
      simp only [hb] at e
      obtain ⟨v, k1, k2⟩ := RepP.lookup t e
      exact ⟨v, by simpa using k1, k2⟩
theorem RepP.lookup_none {K : PySem.W.Frag} {I : Hp} : ∀ {fs : List (Str × Dv)} {gs : List (Str × V)} {f : Str}, RepP K I fs gs → fs.lookup f = none → gs.lookup f = none
  | _, _, f, .nil, _ => rfl
  | (g, x) :: r, (g', x') :: r', f, .cons h t, e => by
    obtain ⟨h1, h2⟩ := h
    cases h1
    rw [List.lookup_cons] at e ⊢
    cases hb : f == g with
    | true => simp only [hb] at e; cases e
    | false => simp only [hb] at e; exact RepP.lookup_none t e
theorem RepP.putF {K : PySem.W.Frag} {I : Hp} {f : Str} {d : Dv} {v : V} (r : Rep K I d v) : ∀ {fs : List (Str × Dv)} {gs : List (Str × V)}, RepP K I fs gs → RepP K I (dput f d fs) (L2.putF f v gs)
  | _, _, .nil => .cons ⟨rfl, r⟩ .nil
  | (g, x) :: r1, (g', x') :: r', .cons h t => by
    obtain ⟨h1, h2⟩ := h
    cases h1
    show RepP K I (if g = f then (g, d) :: r1 else (g, x) :: dput f d r1) (if g = f then (g, v) :: r' else (g, x') :: L2.putF f v r')
    by_cases e : g = f
    · rw [if_pos e, if_pos e]; exact .cons ⟨rfl, r⟩ t
    · rw [if_neg e, if_neg e]; exact .cons ⟨rfl, h2⟩ (RepP.putF r t)
theorem RepP.len {K : PySem.W.Frag} {I : Hp} {κ : Type} {fs : List (κ × Dv)} {gs : List (κ × V)} (r : RepP K I fs gs) : fs.length = gs.length := Paired.length r
section
variable {S : Sg} {ι : Type} {F : ι → Cx} {pos : Pos}
/-- e.f of an instance of the class at C -/
def vFld (C : Addr) (f : Str) (t : DE) : DE := fun δ μ Q => t δ μ fun x μ1 => match x with | .ref a => ∃ dx fs d, μ1 a = some (.ins C dx fs) ∧ fs.lookup f = some d ∧ Q d μ1 | _ => False
theorem we_fld {C : Addr} {f : Str} {e : Expr} {t : DE} (c : Cls S.K C) (n : NoAttr S.K C f) (he : WE S F e t) (hb : ∀ env, attributeBase e f env (eval e env) = eval e env := by exact fun _ => rfl) : WE S F (.Attribute e f pos) (vFld C f t) :=
  let ⟨ta, a1, a2⟩ := he
  ⟨_, fun i hi => hi.K ▸ pe_fld (a1 i hi) (hb _), fun I δ μ σ H hJ SM hS Q Q' q u => a2 I δ μ σ H hJ SM hS _ _ q fun I1 x vx μ1 H1 e1 S1 r1 q1 => by
    cases r1 <;> first | exact False.elim q1 | skip
    obtain ⟨dx, fs, d, em, hl, q2⟩ := q1
    obtain ⟨gs, rp, hv⟩ := S1.memo em
    obtain ⟨v, k1, k2⟩ := rp.lookup hl
    exact ⟨_, _, _, _, _, rfl, hv, c, n, k1, u I1 _ _ μ1 H1 e1 S1 k2 q2⟩⟩
def gFld (C : Addr) (f : Str) (x y : Dv) (μ : Mu) (Q : Mu → Prop) : Prop := match x with | .ref a => ∃ dx fs, μ a = some (.ins C dx fs) ∧ fs.length < 1000 ∧ Q (mset μ a (.ins C dx (dput f y fs))) | _ => False
def sFldV (C : Addr) (f : Str) (to te : DE) : DS := fun D δ μ => te δ μ fun y μ1 => to δ μ1 fun x μ2 => gFld C f x y μ2 fun μ3 => D.nx δ μ3
theorem gFld_ok {C : Addr} {f : Str} {x y : Dv} {vx vy : V} {K : PySem.W.Frag} {I H : Hp} {μ : Mu} {Q : Mu → Prop} (SM : SatM K I μ H) (rx : Rep K I x vx) (ry : Rep K I y vy) (q : gFld C f x y μ Q) :
    ∃ a dx gs μ3, vx = .ref a ∧ H a = some (.ins C dx gs) ∧ gs.length < 1000 ∧ SatM K I μ3 (upd H a (.ins C dx (L2.putF f vy gs))) ∧ Q μ3 := by
  cases rx <;> first | exact False.elim q | skip
  obtain ⟨dx, fs, em, hl, q2⟩ := q
  obtain ⟨gs, rp, hv⟩ := SM.memo em
  exact ⟨_, dx, gs, _, rfl, hv, by rw [← rp.len]; exact hl, SM.setM (m := .ins C dx (dput f y fs)) (SM.mu _ _ em).1 ⟨_, rp.putF ry, upd_same⟩, q2⟩
theorem ws_fld {C : Addr} {f : Str} {o e : Expr} {to te : DE} {pos' : Pos} (c : Cls S.K C) (n : NoAttr S.K C f) (ho : WE S F o to) (he : WE S F e te) (hs : ∀ env, swapsWith e (some (.Attribute o f pos')) pos.line env = pure false := by exact fun _ => rfl) : WS S F (.Assign [.Attribute o f pos'] e pos) (sFldV C f to te) :=
  let ⟨ta, a1, a2⟩ := ho; let ⟨tb, b1, b2⟩ := he
  ⟨_, fun i hi => hi.K ▸ ps_fld (a1 i hi) (b1 i hi) (hs _), fun I δ μ σ H hJ SM hS D D' q u => b2 I δ μ σ H hJ SM hS _ _ q fun I1 y vy μ1 H1 e1 S1 r1 q1 =>
    a2 I1 δ μ1 σ H1 (hJ.trans e1) S1 (hS.mono e1) _ _ q1 fun I2 x vx μ2 H2 e2 S2 r2 q2 => by
      obtain ⟨a, dx, gs, μ3, h1, h2, h3, h4, h5⟩ := gFld_ok S2 r2 (r1.mono e2 _ _) q2
      exact ⟨a, C, dx, gs, h1, h2, c, n, h3, u.nx I2 δ σ μ3 _ (e1.trans e2) h4 (hS.mono (e1.trans e2)) h5⟩⟩
/-- o.f as a target among others -/
def gAttr (K : PySem.W.Frag) (f : Str) (to : TE) : TG := fun v σ H Q => to σ H fun x H2 => ∃ a C dx fs, x = .ref a ∧ H2 a = some (.ins C dx fs) ∧ Cls K C ∧ NoAttr K C f ∧ fs.length < 1000 ∧ Q σ (upd H2 a (.ins C dx (L2.putF f v fs)))
theorem pg_attr {X : Cx} {o : Expr} {f : Str} {to : TE} (ho : PE X o to) (ha : ∀ v, assign (.Attribute o f pos) X.env v = (do
      let ov ← holding [v] (eval o X.env)
      standAt pos.atName
      holding [v, ov] (setAttr ov f v)
      release [v, ov] [])) : PG X (.Attribute o f pos) (gAttr X.K f to) := by
  refine ⟨fun pins s σ H v u Q I r h => ?_⟩
  rw [ha]
  refine wpAny_bind (wpAny_holding (thn (ho.run pins s σ H _ I h) fun ov s1 ⟨x, H1, I1, r1, a, C, dx, fs, ex, ea, c, n, l, q2⟩ => ?_))
  subst ex
  obtain rfl : ov = Value.ref a := r1
  refine wpAny_bind (wpAny_standAt (wpAny_bind (wpAny_holding (setattr_ok I1 ea c n l r fun s3 I3 => ?_))))
  exact wpAny_release ⟨σ, _, I3, q2⟩
def dAttr (C : Addr) (f : Str) (to : DE) : DG := fun y δ μ Q => to δ μ fun x μ1 => gFld C f x y μ1 fun μ2 => Q δ μ2
theorem wg_attr {C : Addr} {f : Str} {o : Expr} {to : DE} (c : Cls S.K C) (n : NoAttr S.K C f) (ho : WE S F o to) (ha : ∀ env, ∀ v, assign (.Attribute o f pos) env v = (do
      let ov ← holding [v] (eval o env)
      standAt pos.atName
      holding [v, ov] (setAttr ov f v)
      release [v, ov] []) := by exact fun _ _ => rfl) : WG S F (.Attribute o f pos) (dAttr C f to) :=
  let ⟨ta, a1, a2⟩ := ho
  ⟨gAttr S.K f ta, fun i hi => hi.K ▸ pg_attr (a1 i hi) (ha _), fun I δ μ σ H d v hJ SM hS r Q Q' q u => a2 I δ μ σ H hJ SM hS _ _ q fun I1 x vx μ1 H1 e1 S1 r1 q1 => by
    obtain ⟨a, dx, gs, μ3, h1, h2, h3, h4, h5⟩ := gFld_ok S1 r1 (r.mono e1 _ _) q1
    exact ⟨a, C, dx, gs, h1, h2, c, n, h3, u I1 δ σ μ3 _ e1 h4 (hS.mono e1) h5⟩⟩

/-! ## calls: a def by its name, a method, a class, a property -/
structure CalD (P : Program) (w : World) (K : PySem.W.Frag) (mg : Str → Option Value) (base : Heap) (j : Nat) (x : Str) (sp : Sp2) (dds : List Dv) : Prop where
  ex : ∃ (f : Addr) (fd : FuncData) (ps : List Str) (dvs : List V) (dus : List Value), Ok P w K mg base j f fd ps sp ∧ mg x = some (.ref f) ∧ PySem.W.keepIn K (.ref f) = true ∧ Binds K fd ps dus ∧ Vals dvs dus ∧ ∀ I, RepL K I dds dvs
structure MetD (P : Program) (w : World) (K : PySem.W.Frag) (mg : Str → Option Value) (base : Heap) (j : Nat) (C : Addr) (m : Str) (sp : Sp2) (dds : List Dv) : Prop where
  ex : ∃ (f : Addr) (fd : FuncData) (ps : List Str) (dvs : List V) (dus : List Value), Ok P w K mg base j f fd ps sp ∧ Cls K C ∧ Meth K C m f ∧ Binds K fd ps dus ∧ Vals dvs dus ∧ ∀ I, RepL K I dds dvs
structure MakD (P : Program) (w : World) (K : PySem.W.Frag) (mg : Str → Option Value) (base : Heap) (j : Nat) (x : Str) (C : Addr) (sp : Sp2) (dds : List Dv) : Prop where
  ex : ∃ (f : Addr) (fd : FuncData) (ps : List Str) (dvs : List V) (dus : List Value), Ok P w K mg base j f fd ps sp ∧ mg x = some (.ref C) ∧ Mk K C f ∧ Binds K fd ps dus ∧ Vals dvs dus ∧ ∀ I, RepL K I dds dvs
structure PrpD (P : Program) (w : World) (K : PySem.W.Frag) (mg : Str → Option Value) (base : Heap) (j : Nat) (C : Addr) (m : Str) (sp : Sp2) : Prop where
  ex : ∃ (p f : Addr) (fd : FuncData) (ps : List Str), Ok P w K mg base j f fd ps sp ∧ Cls K C ∧ PropOf K C m p f ∧ Binds K fd ps []
theorem we_cal {x : Str} {sp : Sp2} {dds : List Dv} {j : Nat} {e : Expr} {es : List Expr} {t : DA} {p : Pos} (Fn : CalD S.P S.w S.K S.mg S.base j x sp dds) (hj : j ≤ S.k) (ha : WA S F (e :: es) t) (hg : ∀ j, Gl (F j) x := by exact fun _ => rfl)
    (hdb : (x == ("__debug__" : Str)) = false := by decide) (he : ∀ env, starEach (e :: es) env = (false, eval e env) :: starEach es env := by exact fun _ => rfl) (hpl : ∀ env, (backTo pos (starEach es env)).any (·.1) = false := by exact fun _ => rfl) (hcold : S.cold = false := by rfl) :
    WE S F (.Call (.Name x p) (e :: es) [] pos) (vCall sp dds S.E2 t) := by
  obtain ⟨f, fd, ps, dvs, dus, h1, h2, h3, h4, h5, h6⟩ := Fn.ex
  exact we_call h1 h2 h3 h4 h5 h6 hj ha hg hdb he hpl hcold
theorem pe_methD {X : Cx} {CX : CXT} {k : Nat} {f C : Addr} {fd : FuncData} {ps : List Str} {sp : Sp} {dvs : List V} {ds : List Value} {E : L2.St → XK} {m : Str} {apos : Pos} {e o : Expr} {es : List Expr} {ta : TE} {t : TA} {pl : Sem Bool} (he : PE X o ta) (c : Cls X.K C) (hm : Meth X.K C m f) (Fn : FnOk X.prog X.w X.K X.mg X.base CX k f fd ps sp) (hr : Room k X.A) (hb : Binds X.K fd ps ds) (hd : Vals dvs ds) (hx : ∀ σ, PassesAt CX X σ (E σ)) (ha : PA X (e :: es) t)
    (hst : starEach (e :: es) X.env = (false, eval e X.env) :: starEach es X.env) (hpl : (backTo pos (starEach es X.env)).any (·.1) = false)
    (ht : eval (.Call (.Attribute o m apos) (e :: es) [] pos) X.env = (do
      let ov ← eval o X.env
      standAt apos.atName
      let (f, first) ← holding [ov] (getMethod ov m pl)
      callWith pos f first (backTo pos (starEach (e :: es) X.env)) (backToKw pos (keywordEach [] X.env)))) :
    PE X (.Call (.Attribute o m apos) (e :: es) [] pos) (fun σ H Q => ta σ H fun x H1 => ∃ a dx fs, x = .ref a ∧ H1 a = some (.ins C dx fs) ∧ fs.lookup m = none ∧ t σ H1 fun vs H2 => sp (x :: (vs ++ dvs)) H2 Q (E σ)) := by
  refine ⟨fun pins s σ H Q I h => ?_⟩
  refine PySem.W.methodCall_KW (pl := pl) (thn (he.run pins s σ H _ I h) fun u s1 ⟨x, H1, I1, rx, a, dx, fs, ex, ea, l, q⟩ => ?_) ht
  subst ex
  obtain rfl : u = Value.ref a := rx
  refine getmeth_ok I1 ea c hm l ?_
  refine PySem.W.callWith_K (first := [.ref a]) (h₀ := X.base) I.ok.mod.kin hm.kp (thn (ha.run pos pins s1 σ H1 _ I1 q) fun us s2 ⟨vs, H2, I2, r, q2⟩ => ⟨I2.kIn, ?_⟩) hst hpl
  exact run_fnSD (us := .ref a :: us) (vs := .ref a :: vs) Fn hr hb hd (hx σ) I2 (.cons rfl r) q2
theorem pe_methD0 {X : Cx} {CX : CXT} {k : Nat} {f C : Addr} {fd : FuncData} {ps : List Str} {sp : Sp} {dvs : List V} {ds : List Value} {E : L2.St → XK} {m : Str} {apos : Pos} {o : Expr} {ta : TE} {pl : Sem Bool} (he : PE X o ta) (c : Cls X.K C) (hm : Meth X.K C m f) (Fn : FnOk X.prog X.w X.K X.mg X.base CX k f fd ps sp) (hr : Room k X.A) (hb : Binds X.K fd ps ds) (hd : Vals dvs ds) (hx : ∀ σ, PassesAt CX X σ (E σ))
    (ht : eval (.Call (.Attribute o m apos) [] [] pos) X.env = (do
      let ov ← eval o X.env
      standAt apos.atName
      let (f, first) ← holding [ov] (getMethod ov m pl)
      callWith pos f first (backTo pos (starEach [] X.env)) (backToKw pos (keywordEach [] X.env)))) :
    PE X (.Call (.Attribute o m apos) [] [] pos) (fun σ H Q => ta σ H fun x H1 => ∃ a dx fs, x = .ref a ∧ H1 a = some (.ins C dx fs) ∧ fs.lookup m = none ∧ sp (x :: dvs) H1 Q (E σ)) := by
  refine ⟨fun pins s σ H Q I h => ?_⟩
  refine PySem.W.methodCall_KW (pl := pl) (thn (he.run pins s σ H _ I h) fun u s1 ⟨x, H1, I1, rx, a, dx, fs, ex, ea, l, q⟩ => ?_) ht
  subst ex
  obtain rfl : u = Value.ref a := rx
  refine getmeth_ok I1 ea c hm l ?_
  exact PySem.W.callWith_K0 (first := [.ref a]) I1.kIn hm.kp (run_fnSD (us := [.ref a]) (vs := [.ref a]) Fn hr hb hd (hx σ) I1 (.cons rfl .nil) q)
/-- o.m(e, ..) of an instance of the class at C -/
def vMeth (C : Addr) (m : Str) (sp : Sp2) (dds : List Dv) (E2 : DXS) (to : DE) (t : DA) : DE := fun δ μ Q => to δ μ fun x μ1 => match x with
  | .ref a => ∃ dx fs, μ1 a = some (.ins C dx fs) ∧ fs.lookup m = none ∧ t δ μ1 fun xs μ2 => sp (.ref a :: (xs ++ dds)) μ2 Q fun C' d μ3 => E2 C' d δ μ3
  | _ => False
theorem we_meth {C : Addr} {m : Str} {sp : Sp2} {dds : List Dv} {j : Nat} {o e : Expr} {es : List Expr} {to : DE} {t : DA} {apos : Pos} {pl : Env → Sem Bool} (Fn : MetD S.P S.w S.K S.mg S.base j C m sp dds) (hj : j ≤ S.k) (ho : WE S F o to) (ha : WA S F (e :: es) t)
    (hst : ∀ env, starEach (e :: es) env = (false, eval e env) :: starEach es env := by exact fun _ => rfl) (hpl : ∀ env, (backTo pos (starEach es env)).any (·.1) = false := by exact fun _ => rfl)
    (ht : ∀ env, eval (.Call (.Attribute o m apos) (e :: es) [] pos) env = (do
      let ov ← eval o env
      standAt apos.atName
      let (f, first) ← holding [ov] (getMethod ov m (pl env))
      callWith pos f first (backTo pos (starEach (e :: es) env)) (backToKw pos (keywordEach [] env))) := by exact fun _ => rfl) (hcold : S.cold = false := by rfl) : WE S F (.Call (.Attribute o m apos) (e :: es) [] pos) (vMeth C m sp dds S.E2 to t) := by
  obtain ⟨f, fd, ps, dvs, dus, h1, h2, h3, h4, h5, h6⟩ := Fn.ex
  obtain ⟨ta, a1, a2⟩ := ho
  obtain ⟨tb, b1, b2⟩ := ha
  refine ⟨fun σ H Q => ta σ H fun x H1 => ∃ a dx fs, x = .ref a ∧ H1 a = some (.ins C dx fs) ∧ fs.lookup m = none ∧ tb σ H1 fun vs H2 => toSp S.K sp (x :: (vs ++ dvs)) H2 Q (L2.WE S.W σ), fun i hi => ?_, fun I δ μ σ H hJ SM hS Q Q' q u => a2 I δ μ σ H hJ SM hS _ _ q fun I1 x vx μ1 H1 e1 S1 r1 q1 => ?_⟩
  · obtain ⟨P, w, K, mg, base, k, N, J, W, E2, tr, cold⟩ := S
    obtain ⟨k1, k2, k3, k4, k5, k6, k7, k8, k9, k10, k11⟩ := id hi
    have r8 := k8 hcold
    dsimp only at k1 k2 k3 k4 k5 k6 r8 k9 h1 h2 h3 h4 hj a2 b2 ⊢
    subst k1 k2 k3 k4 k5
    exact pe_methD (a1 i hi) h2 h3 h1 (r8.mono hj) h4 h5 (fun σ => passAt k9 σ) (b1 i hi) (hst _) (hpl _) (ht _)
  · cases r1 <;> first | exact False.elim q1 | skip
    obtain ⟨dx, fs, em, hl, q2⟩ := q1
    obtain ⟨gs, rp, hv⟩ := S1.memo em
    refine ⟨_, dx, gs, rfl, hv, rp.lookup_none hl, b2 I1 δ μ1 σ H1 (hJ.trans e1) S1 (hS.mono e1) _ _ q2 fun I2 ds vs μ2 H2 e2 S2 r2 q3 => ?_⟩
    exact sp_run ((hJ.trans e1).trans e2) S2 (hS.mono (e1.trans e2)) (.cons (.ref _) (r2.append (h6 I2))) q3 (u.mono (e1.trans e2))
theorem we_meth0 {C : Addr} {m : Str} {sp : Sp2} {dds : List Dv} {j : Nat} {o : Expr} {to : DE} {apos : Pos} {pl : Env → Sem Bool} (Fn : MetD S.P S.w S.K S.mg S.base j C m sp dds) (hj : j ≤ S.k) (ho : WE S F o to)
    (ht : ∀ env, eval (.Call (.Attribute o m apos) [] [] pos) env = (do
      let ov ← eval o env
      standAt apos.atName
      let (f, first) ← holding [ov] (getMethod ov m (pl env))
      callWith pos f first (backTo pos (starEach [] env)) (backToKw pos (keywordEach [] env))) := by exact fun _ => rfl) (hcold : S.cold = false := by rfl) : WE S F (.Call (.Attribute o m apos) [] [] pos) (vMeth C m sp dds S.E2 to vNil) := by
  obtain ⟨f, fd, ps, dvs, dus, h1, h2, h3, h4, h5, h6⟩ := Fn.ex
  obtain ⟨ta, a1, a2⟩ := ho
  refine ⟨fun σ H Q => ta σ H fun x H1 => ∃ a dx fs, x = .ref a ∧ H1 a = some (.ins C dx fs) ∧ fs.lookup m = none ∧ toSp S.K sp (x :: dvs) H1 Q (L2.WE S.W σ), fun i hi => ?_, fun I δ μ σ H hJ SM hS Q Q' q u => a2 I δ μ σ H hJ SM hS _ _ q fun I1 x vx μ1 H1 e1 S1 r1 q1 => ?_⟩
  · obtain ⟨P, w, K, mg, base, k, N, J, W, E2, tr, cold⟩ := S
    obtain ⟨k1, k2, k3, k4, k5, k6, k7, k8, k9, k10, k11⟩ := id hi
    have r8 := k8 hcold
    dsimp only at k1 k2 k3 k4 k5 k6 r8 k9 h1 h2 h3 h4 hj a2 ⊢
    subst k1 k2 k3 k4 k5
    exact pe_methD0 (a1 i hi) h2 h3 h1 (r8.mono hj) h4 h5 (fun σ => passAt k9 σ) (ht _)
  · cases r1 <;> first | exact False.elim q1 | skip
    obtain ⟨dx, fs, em, hl, q2⟩ := q1
    obtain ⟨gs, rp, hv⟩ := S1.memo em
    exact ⟨_, dx, gs, rfl, hv, rp.lookup_none hl, sp_run (hJ.trans e1) S1 (hS.mono e1) (.cons (.ref _) (h6 I1)) q2 (u.mono e1)⟩
/-- C(e, ..) -/
def vMake (C : Addr) (sp : Sp2) (dds : List Dv) (E2 : DXS) (t : DA) : DE := fun δ μ Q => t δ μ fun xs μ1 => ∀ a dx, μ1 a = none → sp (.ref a :: (xs ++ dds)) (mset μ1 a (.ins C dx [])) (fun d μ2 => match d with | .non => Q (.ref a) μ2 | _ => False) fun C' d μ3 => E2 C' d δ μ3
theorem run_makeD {X : Cx} {CX : CXT} {k : Nat} {f C : Addr} {fd : FuncData} {ps : List Str} {sp : Sp} {dvs : List V} {ds : List Value} {E : L2.St → XK} {pins : List (Addr × Obj)} {σ : L2.St} {H : Hp} {s : Shared} {Q : VK} {us : List Value} {vs : List V} (M : Mk X.K C f) (Fn : FnOk X.prog X.w X.K X.mg X.base CX k f fd ps sp) (hr : Room (k + 1) X.A) (hb : Binds X.K fd ps ds) (hd : Vals dvs ds)
    (hx : PassesAt CX X σ (E σ)) (I : Inv X pins σ H s) (r : Vals vs us)
    (h : ∀ x dx, H x = none → H dx = none → dx ≠ x → sp (.ref x :: (vs ++ dvs)) (upd (upd H dx (.own x)) x (.ins C dx [])) (fun v H2 => v = .non ∧ Q (.ref x) H2) (E σ)) :
    wpAny (model X.prog X.w) X.A (call (.ref C) us) (EP X pins σ Q) X.xe s := by
  have hq := h (s.heap.objs.size + 1) s.heap.objs.size (I.hok.fresh (Nat.le_succ _)) (I.hok.fresh (Nat.le_refl _)) (Nat.ne_of_lt (Nat.lt_succ_self _))
  have I2 := Inv.made (C := C) I
  have r2 : Vals (V.ref (s.heap.objs.size + 1) :: (vs ++ dvs)) (Value.ref (s.heap.objs.size + 1) :: (us ++ ds)) := .cons rfl (r.append hd)
  have hl : (Value.ref (s.heap.objs.size + 1) :: us ++ ds).length = ps.length := by
    have e := r2.length
    rw [Fn.len _ _ _ _ hq] at e
    exact e.symm
  refine wpAny_call (make_map (f := f) I.kIn M.makes M.init (beq_iff_eq.mp M.fn) (codeAny_mono (Fn.run _ X.stack _ _ ⟨Value.ref (s.heap.objs.size + 1) :: us, []⟩ (Value.ref (s.heap.objs.size + 1) :: (us ++ ds)) _ _ (E σ) (hr.make C us [])
    (I2.env0.make C us []) (hb _ (Value.ref (s.heap.objs.size + 1) :: us) I2.kIn hl) r2 hq) fun r s' hq' => ?_))
  cases r with
  | error e => exact hx pins _ _ e s' I2 hq'
  | ok fl =>
    cases fl with
    | ret u =>
      obtain ⟨v, H', I3, rv, ev, q3⟩ := I2.after hq'
      subst ev
      exact ⟨rv, ⟨V.ref (s.heap.objs.size + 1), H', I3, rfl, q3⟩⟩
    | next => exact False.elim hq'
    | brk => exact False.elim hq'
    | cont => exact False.elim hq'
theorem we_make {x : Str} {C : Addr} {sp : Sp2} {dds : List Dv} {j : Nat} {e : Expr} {es : List Expr} {t : DA} {p : Pos} (Fn : MakD S.P S.w S.K S.mg S.base j x C sp dds) (hj : j + 1 ≤ S.k) (ha : WA S F (e :: es) t) (hg : ∀ j, Gl (F j) x := by exact fun _ => rfl)
    (hdb : (x == ("__debug__" : Str)) = false := by decide) (he : ∀ env, starEach (e :: es) env = (false, eval e env) :: starEach es env := by exact fun _ => rfl) (hpl : ∀ env, (backTo pos (starEach es env)).any (·.1) = false := by exact fun _ => rfl) (hcold : S.cold = false := by rfl) :
    WE S F (.Call (.Name x p) (e :: es) [] pos) (vMake C sp dds S.E2 t) := by
  obtain ⟨f, fd, ps, dvs, dus, h1, h2, h3, h4, h5, h6⟩ := Fn.ex
  obtain ⟨tb, b1, b2⟩ := ha
  refine ⟨fun σ H Q => tb σ H fun vs H1 => ∀ x dx, H1 x = none → H1 dx = none → dx ≠ x → toSp S.K sp (.ref x :: (vs ++ dvs)) (upd (upd H1 dx (.own x)) x (.ins C dx [])) (fun v H2 => v = .non ∧ Q (.ref x) H2) (L2.WE S.W σ), fun i hi => ?_, fun I δ μ σ H hJ SM hS Q Q' q u => b2 I δ μ σ H hJ SM hS _ _ q fun I1 ds vs μ1 H1 e1 S1 r1 q1 a dx ha hdx hne => ?_⟩
  · obtain ⟨P, w, K, mg, base, k, N, J, W, E2, tr, cold⟩ := S
    obtain ⟨k1, k2, k3, k4, k5, k6, k7, k8, k9, k10, k11⟩ := id hi
    have r8 := k8 hcold
    dsimp only at k1 k2 k3 k4 k5 k6 r8 k9 h1 h2 h3 h4 hj b2 ⊢
    subst k1 k2 k3 k4 k5
    refine ⟨fun pins s σ H Q I h => ?_⟩
    refine wpAny_Call_Name_kw (ld_glob I (hg i) h2 ?_ hdb)
    refine PySem.W.callWith_K (h₀ := (F i).base) I.ok.mod.kin h3.kp (thn ((b1 i hi).run pos pins s σ H _ I h) fun us s1 ⟨vs, H1, I1, r, q⟩ => ⟨I1.kIn, ?_⟩) (he _) (hpl _)
    exact run_makeD (E := L2.WE W) h3 h1 (r8.mono hj) h4 h5 (passAt k9 σ) I1 r q
  · have n1 : I1 a = none := S1.ex.free ha
    have n2 : I1 dx = none := S1.ex.free hdx
    have S2 : SatM S.K I1 μ1 (upd H1 dx (.own a)) := S1.keep (fun b o eb => by rw [upd_ne (ne_of_none eb hdx)]; exact eb)
    have S3 := S2.setM (p := a) (o := .ins C dx []) (m := .ins C dx []) n1 ⟨[], .nil, upd_same⟩
    refine sp_run (hJ.trans e1) S3 (hS.mono e1) (.cons (.ref a) (r1.append (h6 I1))) (q1 a dx (S1.muNone ha)) fun I' d v μ' H' e' S' r' q' => ?_
    cases r' <;> first | exact False.elim q' | exact ⟨rfl, u I' _ _ μ' H' (e1.trans e') S' (.ref a) q'⟩
/-- o.f, a property of the class at C -/
def vProp (C : Addr) (sp : Sp2) (to : DE) : DE := fun δ μ Q => to δ μ fun x μ1 => match x with | .ref a => ∃ dx fs, μ1 a = some (.ins C dx fs) ∧ sp [.ref a] μ1 Q fun _ _ _ => False | _ => False
theorem we_prop {C : Addr} {m : Str} {sp : Sp2} {j : Nat} {e : Expr} {t : DE} (Fn : PrpD S.P S.w S.K S.mg S.base j C m sp) (hj : j + 1 ≤ S.k) (he : WE S F e t) (hb : ∀ env, attributeBase e m env (eval e env) = eval e env := by exact fun _ => rfl) (hcold : S.cold = false := by rfl) : WE S F (.Attribute e m pos) (vProp C sp t) := by
  obtain ⟨p, f, fd, ps, h1, h2, h3, h4⟩ := Fn.ex
  obtain ⟨ta, a1, a2⟩ := he
  refine ⟨tProp C (toSp S.K sp) [] E0 ta, fun i hi => ?_, fun I δ μ σ H hJ SM hS Q Q' q u => a2 I δ μ σ H hJ SM hS _ _ q fun I1 x vx μ1 H1 e1 S1 r1 q1 => ?_⟩
  · obtain ⟨P, w, K, mg, base, k, N, J, W, E2, tr, cold⟩ := S
    obtain ⟨k1, k2, k3, k4, k5, k6, k7, k8, k9, k10, k11⟩ := id hi
    have r8 := k8 hcold
    dsimp only at k1 k2 k3 k4 k5 k6 r8 k9 h1 h2 h3 h4 hj a2 ⊢
    subst k1 k2 k3 k4 k5
    exact pe_prop (a1 i hi) h2 h3 h1 (r8.mono hj) h4 .nil passL (hb _)
  · cases r1 <;> first | exact False.elim q1 | skip
    obtain ⟨dx, fs, em, q2⟩ := q1
    obtain ⟨gs, rp, hv⟩ := S1.memo em
    exact ⟨_, dx, gs, rfl, hv, I1, _, μ1, Q, _, S1, .cons (.ref _) .nil, q2, u.mono e1, fun _ _ _ _ _ _ _ z => z.elim⟩
end
end Wl

set_option Elab.async false
set_option linter.all false
set_option maxRecDepth 100000
set_option maxHeartbeats 4000000
/-! enumerate over a list or a tuple -/
namespace PySem
open Sem (wp)
namespace WlEnum
theorem newT (l : Addr) (items : Array Value) :
    Meets (Builtin.«enumerate.__new__» ⟨[.type "enumerate", .ref l], []⟩) (fun _ R s => s.heap.IsTuple l items ∧
      R (.ok (.ret (.ref (s.heap.push { cls := .type "tuple_iterator", data := .fields #[.ref l, .int 0 0] }).objs.size)))
        { s with heap := (s.heap.push { cls := .type "tuple_iterator", data := .fields #[.ref l, .int 0 0] }).push { cls := .type "enumerate", data := .fields #[.none, .bool false, .ref s.heap.objs.size, rawInt 0, .none, .none] } }) :=
  .of_wp fun prog w A R s h => by
    obtain ⟨hp, g, d, tk, os⟩ := s; obtain ⟨h1, h⟩ := h
    have hsub := sub_enumerate
    have q1 : ∀ {A' : Around} {E : Value → Shared → Prop} {Q : Value → Shared → Prop}, Q (.ref hp.objs.size) ⟨hp.push { cls := .type "tuple_iterator", data := .fields #[.ref l, .int 0 0] }, g, d, tk, os⟩ → wpAny (model prog w) A' (pyIter (.ref l)) Q E ⟨hp, g, d, tk, os⟩ :=
      fun q => wpAny_pyIter_tuple h1 q
    wp_walk using q1
    refine wpAny_stack_any fun st => wpAny_pure ?_
    split
    · rename_i c _ _ _ _ _
      cases (c == Value.type "enumerate")
      · wp_walk using q1
        exact ⟨_, rfl, h⟩
      · wp_walk using q1
        exact ⟨_, rfl, h⟩
    · wp_walk using q1
      exact ⟨_, rfl, h⟩
section
variable {prog : Program} {w : World} {A : Around} {E : Value → Shared → Prop} {s : Shared}
theorem enumT {l : Addr} {items : Array Value} {Q : Value → Shared → Prop} (h1 : s.heap.IsTuple l items)
    (h : ∀ h', IsEnum h' (s.heap.objs.size + 1) s.heap.objs.size 0 .none → h'.IsTupleIter s.heap.objs.size l 0 → h'.objs.size = s.heap.objs.size + 2 →
      (∀ b o, s.heap.get? b = some o → h'.get? b = some o) → Q (.ref (s.heap.objs.size + 1)) { s with heap := h' }) :
    wpAny (model prog w) A (call (.type "enumerate") [.ref l]) Q E s := by
  refine callType_new F.called_enumerate (by decide) (F.typeCall_enumerate_1 _) (F.newCall_enumerate_1 _) (fun obj => F.args_object_init_2 obj _) F.entry_enumerate_new
    (newT l items) ⟨h1, ?_⟩
  have hz : (s.heap.push { cls := .type "tuple_iterator", data := .fields #[.ref l, .int 0 0] }).objs.size = s.heap.objs.size + 1 := Heap.size_push ..
  show _ ∧ _
  rw [hz]
  have he : IsEnum ((s.heap.push { cls := .type "tuple_iterator", data := .fields #[.ref l, .int 0 0] }).push { cls := .type "enumerate", data := .fields #[.none, .bool false, .ref s.heap.objs.size, rawInt 0, .none, .none] }) (s.heap.objs.size + 1) s.heap.objs.size 0 .none := by
    have := Heap.get?_push_size (s.heap.push { cls := .type "tuple_iterator", data := .fields #[.ref l, .int 0 0] }) (o := { cls := .type "enumerate", data := .fields #[.none, .bool false, .ref s.heap.objs.size, rawInt 0, .none, .none] }) rfl
    rw [hz] at this; exact this
  refine ⟨⟨_, he, rfl⟩, h _ he ⟨_, Heap.get?_push_of_some _ (Heap.get?_push_size _ rfl), rfl, rfl⟩ (by rw [Heap.size_push, hz]) fun b o x => Heap.get?_push_of_some _ (Heap.get?_push_of_some _ x)⟩
end
end WlEnum
end PySem
namespace Wl
open PySem L2
open PySem.Spec PyProof.Rows
def IteT (K : PySem.W.Frag) (a : Addr) : It :=
  ⟨fun i H => ∃ (xs : List V) (x : V), SqT K H a xs ∧ xs[i]? = some x, fun i H v H' => ∃ T x, v = .ref T ∧ H T = none ∧ H' = upd H T (.tup [.int (i : Nat), x]) ∧ ∀ xs, SqT K H a xs → xs[i]? = some x, fun i H => ∃ xs : List V, SqT K H a xs ∧ xs.length = i⟩
theorem turn_enumT {P : Program} {w : World} {K : PySem.W.Frag} {elts : List Expr} {kk : Nat} {tpos : Pos} (a e it : Addr) :
    Turn P w K (.Tuple elts kk tpos) (IteT K a) [e, it] e (fun i h => (∃ old, IsEnum h e it ((i : Nat) : Int) old) ∧ h.IsTupleIter it a i ∧ e ≠ it ∧ a ≠ it ∧ a ≠ e) where
  mem := by simp
  obj := fun i h st b hb => by
    obtain ⟨⟨old, he⟩, ⟨o, ho, hc, hd⟩, _⟩ := st
    have e' : b = e ∨ b = it := by simpa using hb
    rcases e' with z | z
    · rw [z]; exact ⟨_, he, fun v q => nomatch q⟩
    · rw [z]; exact ⟨o, ho, fun v q => by rw [hd] at q; cases q⟩
  keep := fun i h h' st k => let ⟨⟨old, he⟩, hi, hne⟩ := st; ⟨⟨old, k e (by simp) _ he⟩, hi.at fun o q => k it (by simp) o q, hne⟩
  item := by
    intro X hP hw hK hc i pins s σ H E I hf st hg
    subst hP hw hK
    obtain ⟨⟨old, he⟩, hit, hne, hai, hae⟩ := st
    obtain ⟨xs, x, hq, hx⟩ := hg
    obtain ⟨its, rv, p, hz⟩ := I.tuple hq
    obtain ⟨u, hu, ru⟩ := rv.get hx
    have hlt : i < its.toArray.size := by
      have := (List.getElem?_eq_some_iff.mp hu).1
      simpa using this
    have hel : e < s.heap.objs.size := Heap.lt_size he
    have hil : it < s.heap.objs.size := by obtain ⟨_, q, _⟩ := hit; exact Heap.lt_size q
    have D := Draws.tuple (prog := X.prog) (w := X.w) (A := X.A.in1) (I.ok.hd hc) it a hai its.toArray
    refine wpAny_pyNext_enum_itemD D he ⟨hit, p⟩ hlt hne (by simp [hne, Ne.symm hae]) fun y h' tk hP' ho hst' hT hsz hk => ?_
    have ey : y = u := by
      have h2 : its.toArray[i]? = some u := by simpa using hu
      rw [h2] at hP'
      exact (Option.some.inj hP').symm
    subst ey
    refine ⟨_, rfl, wpAny_letOwnedTupleGo_enum (s := { s with heap := h', toks := tk + 1 }) ho fun h'' he' sb => ?_⟩
    have hT2 : h''.get? s.heap.objs.size = some { cls := .type "tuple", data := .seq #[.int i tk, y] } := (sb.2 _ (Nat.ne_of_gt hel)).trans hT
    have new : ObjOk X.prog X.w (upd H s.heap.objs.size (.tup [.int (i : Nat), x])) h'' s.heap.objs.size (.tup [.int (i : Nat), x]) :=
      ⟨by show 2 ≤ sizeLine; decide, [.int i tk, y], .cons ⟨_, rfl⟩ (.cons ru .nil), ⟨_, hT2, rfl, _, rfl⟩⟩
    have I1 : Inv X pins σ (upd H s.heap.objs.size (.tup [.int (i : Nat), x])) { s with heap := h'', toks := tk + 1 } :=
      I.turnedNew (ch := [e, it]) (fun b ob hb q => (sb.2 b (fun z => hb (by simp [z]))).trans (hk b ob (fun z => hb (by simp [z])) (fun z => hb (by simp [z])) q)) hf (Nat.le_refl _) new
    refine ⟨.ref s.heap.objs.size, _, I1, rfl, ⟨_, x, rfl, I.hok.fresh (Nat.le_refl _), rfl, fun ys hy => ?_⟩, ⟨⟨y, ?_⟩, hst'.1.at fun o q => (sb.2 it (Ne.symm hne)).trans q, hne, hai, hae⟩, fun b hb => ?_⟩
    · rw [I.tuple_inj hy hq]; exact hx
    · have e1 : ((i + 1 : Nat) : Int) = (i : Int) + 1 := by omega
      rw [e1]; exact he'
    · have hb' : b < s.heap.objs.size := by
        have e' : b = e ∨ b = it := by simpa using hb
        rcases e' with z | z
        · rw [z]; exact hel
        · rw [z]; exact hil
      rw [upd_ne (Nat.ne_of_lt hb')]
      exact (hf b hb).1
  done := by
    intro X hP hw hK hc i pins s σ H E I hf st hg
    subst hP hw hK
    obtain ⟨⟨old, he⟩, hit, hne, hai, hae⟩ := st
    obtain ⟨xs, hq, hx⟩ := hg
    obtain ⟨its, rv, p, hz⟩ := I.tuple hq
    obtain ⟨f0, f1, f2, f3, f4, f5⟩ := hf it (by simp)
    have hl := rv.length
    have D := Draws.tuple (prog := X.prog) (w := X.w) (A := X.A.in1) (I.ok.hd hc) it a hai its.toArray
    have e3 : i = its.toArray.size := by simp; omega
    subst e3
    exact wpAny_pyNext_enum_endD D he ⟨hit, p⟩ fun h' eb => ⟨rfl, I.turned (t' := s.toks) (fun b o hb q => eb b o hb q) f0 f1 f3 f4 f5⟩
  self := fun A i s Q E st h => let ⟨⟨_, he⟩, _⟩ := st; wpAny_pyIter_enum he h
def iEnumA (K : PySem.W.Frag) (ta : TA) : TI := fun σ H R => ta σ H fun vs H1 => ∃ a, vs = [.ref a] ∧ (((∃ xs, SqL K H1 a xs) ∧ R (Ite K a) H1) ∨ ((∃ xs, SqT K H1 a xs) ∧ R (IteT K a) H1))
theorem pi_enumA {X : Cx} {e : Expr} {ta : TA} {p pos tpos : Pos} {elts : List Expr} {kk : Nat} (hg : Gl X "enumerate") (hm : X.mg "enumerate" = none) (ha : PA X [e] ta) (hs : starEach [e] X.env = [(false, eval e X.env)]) :
    PI X (.Tuple elts kk tpos) (.Call (.Name "enumerate" p) [e] [] pos) (iEnumA X.K ta) := by
  refine ⟨fun pins s σ H R I h => ?_⟩
  refine Call_ (ld_blt I hg hm boot_enumerate (PyProof.Rows.callWith_type1 (thn (ha.run pos pins s σ H _ I h) fun us s1 ⟨vs, H1, I1, r1, q1⟩ => ?_) hs rfl))
  obtain ⟨a, ex, q1⟩ := q1
  subst ex
  cases r1 with
  | cons r rr =>
    cases rr
    cases r
    have fin : ∀ b ∈ [s1.heap.objs.size + 1, s1.heap.objs.size], FpOk X pins H1 b := fun b hb => by
      have e' : b = s1.heap.objs.size + 1 ∨ b = s1.heap.objs.size := by simpa using hb
      have hle : s1.heap.objs.size ≤ b := by
        rcases e' with z | z
        · rw [z]; exact Nat.le_add_right _ _
        · rw [z]; exact Nat.le_refl _
      exact I1.fpOk hle (I1.hok.fresh hle)
    rcases q1 with ⟨⟨xs, hq⟩, q⟩ | ⟨⟨xs, hq⟩, q⟩
    · obtain ⟨its, rv, p', hz⟩ := I1.list hq
      refine call_enumerate_list p'.isList fun h' he hit hsz hk => wpAny_pyIter_enum he ?_
      have I2 : Inv X pins σ H1 { s1 with heap := h' } := I1.kept (t' := s1.toks) hk
      exact ⟨s1.heap.objs.size + 1, [s1.heap.objs.size + 1, s1.heap.objs.size], _, _, H1, rfl, I2, turn_enum a (s1.heap.objs.size + 1) s1.heap.objs.size, ⟨⟨.none, he⟩, hit, Nat.succ_ne_self _⟩, fin, q⟩
    · obtain ⟨its, rv, p', hz⟩ := I1.tuple hq
      have hla : a < s1.heap.objs.size := by obtain ⟨o, q, _⟩ := p'; exact Heap.lt_size q
      refine PySem.WlEnum.enumT p' fun h' he hit hsz hk => wpAny_pyIter_enum he ?_
      have I2 : Inv X pins σ H1 { s1 with heap := h' } := I1.kept (t' := s1.toks) hk
      exact ⟨s1.heap.objs.size + 1, [s1.heap.objs.size + 1, s1.heap.objs.size], _, _, H1, rfl, I2, turn_enumT a (s1.heap.objs.size + 1) s1.heap.objs.size, ⟨⟨.none, he⟩, hit, Nat.succ_ne_self _, Nat.ne_of_lt hla, Nat.ne_of_lt (Nat.lt_succ_of_lt hla)⟩, fin, q⟩
/-- the items with their numbers -/
def numbered (ds : List Dv) : List Dv := ds.zipIdx.map fun p => .tup [.int (p.2 : Int), p.1]
theorem numbered_at {ds : List Dv} {i : Nat} {d : Dv} (h : (numbered ds)[i]? = some d) : ∃ x, ds[i]? = some x ∧ d = .tup [.int (i : Int), x] := by
  unfold numbered at h
  rw [List.getElem?_map, List.getElem?_zipIdx] at h
  cases e : ds[i]? with
  | none => rw [e] at h; cases h
  | some x =>
    rw [e] at h
    simp at h
    exact ⟨x, rfl, h.symm⟩
def wEnum (t : DA) : DI := fun δ μ Q => t δ μ fun xs μ1 => match xs with | [.tup xs] => Q (numbered xs) μ1 | [.rot xs] => Q (numbered xs) μ1 | [.lst xs] => Q (numbered xs) μ1 | [.rol xs] => Q (numbered xs) μ1 | _ => False
theorem ite_ok {K : PySem.W.Frag} {I : Hp} {a : Addr} {vs : List V} {ds : List Dv} (h : SqL K I a vs) (r : RepL K I ds vs) : ItOk K (Ite K a) I (numbered ds) := by
  have hl : (numbered ds).length = vs.length := by simp [numbered, r.length]
  refine ⟨fun i μ I' H e SM hi => ⟨vs, vs[i]'(hl ▸ hi), same_l SM.ex (same_l e h), by simp⟩, fun μ I' H e SM => ⟨vs, same_l SM.ex (same_l e h), by rw [hl]; exact Nat.le_refl _⟩, fun i μ I' H x H' d e SM hd hy => ?_⟩
  obtain ⟨T, y, rfl, hT, rfl, hy⟩ := hy
  obtain ⟨z, hz, rfl⟩ := numbered_at hd
  obtain ⟨v, h1, h2⟩ := r.get hz
  have h3 := hy vs (same_l SM.ex (same_l e h))
  rw [h1] at h3
  cases h3
  obtain ⟨s1, s2⟩ := SM.newI hT (.tup [.int (i : Nat), y])
  exact ⟨_, s1, s2, .tup upd_same (.cons (.int _) (.cons (h2.mono (e.trans s1) _ _) .nil))⟩
theorem itet_ok {K : PySem.W.Frag} {I : Hp} {a : Addr} {vs : List V} {ds : List Dv} (h : SqT K I a vs) (r : RepL K I ds vs) : ItOk K (IteT K a) I (numbered ds) := by
  have hl : (numbered ds).length = vs.length := by simp [numbered, r.length]
  refine ⟨fun i μ I' H e SM hi => ⟨vs, vs[i]'(hl ▸ hi), same_t SM.ex (same_t e h), by simp⟩, fun μ I' H e SM => ⟨vs, same_t SM.ex (same_t e h), hl.symm⟩, fun i μ I' H x H' d e SM hd hy => ?_⟩
  obtain ⟨T, y, rfl, hT, rfl, hy⟩ := hy
  obtain ⟨z, hz, rfl⟩ := numbered_at hd
  obtain ⟨v, h1, h2⟩ := r.get hz
  have h3 := hy vs (same_t SM.ex (same_t e h))
  rw [h1] at h3
  cases h3
  obtain ⟨s1, s2⟩ := SM.newI hT (.tup [.int (i : Nat), y])
  exact ⟨_, s1, s2, .tup upd_same (.cons (.int _) (.cons (h2.mono (e.trans s1) _ _) .nil))⟩
theorem wi_enum {S : Sg} {ι : Type} {F : ι → Cx} {pos : Pos} {e : Expr} {t : DA} {p tpos : Pos} {elts : List Expr} {kk : Nat} (hm : S.mg "enumerate" = none) (ha : WA S F [e] t) (hg : ∀ j, Gl (F j) "enumerate" := by exact fun _ => rfl) (hs : ∀ env, starEach [e] env = [(false, eval e env)] := by exact fun _ => rfl) :
    WI S F (.Tuple elts kk tpos) (.Call (.Name "enumerate" p) [e] [] pos) (wEnum t) :=
  let ⟨ta, a1, a2⟩ := ha
  ⟨iEnumA S.K ta, fun i hi => hi.K ▸ pi_enumA (hg i) (hi.mg ▸ hm) (a1 i hi) (hs _), fun I δ μ σ H hJ SM hS Q Q' q u => a2 I δ μ σ H hJ SM hS _ _ q fun I1 ds vs μ1 H1 e1 S1 r1 q1 => by
    cases r1 with
    | nil => exact q1.elim
    | cons r1 r2 =>
      cases r2 with
      | cons _ _ => cases r1 <;> exact False.elim q1
      | nil =>
        cases r1 <;> first | exact False.elim q1 | skip
        · rename_i h1 h2; exact ⟨_, rfl, .inr ⟨⟨_, .inl (.inl (S1.ex _ _ h1))⟩, u I1 _ μ1 H1 _ e1 S1 (itet_ok (.inl (.inl h1)) h2) q1⟩⟩
        · rename_i h1 h2; exact ⟨_, rfl, .inr ⟨⟨_, same_t S1.ex h1⟩, u I1 _ μ1 H1 _ e1 S1 (itet_ok h1 h2) q1⟩⟩
        · rename_i h1 h2; exact ⟨_, rfl, .inl ⟨⟨_, .inl (.inl (S1.ex _ _ h1))⟩, u I1 _ μ1 H1 _ e1 S1 (ite_ok (.inl (.inl h1)) h2) q1⟩⟩
        · rename_i h1 h2; exact ⟨_, rfl, .inl ⟨⟨_, same_l S1.ex h1⟩, u I1 _ μ1 H1 _ e1 S1 (ite_ok h1 h2) q1⟩⟩⟩
end Wl

set_option Elab.async false
set_option linter.all false
set_option maxRecDepth 100000
set_option maxHeartbeats 2000000
namespace Wl
open PySem L2
open PySem.Spec PyProof.Rows
/-! ## keys -/
def kD : Key → Dv
  | .inl i => .int i
  | .inr x => .str x
def keyD : Dv → Option Key
  | .int i => some (.inl i)
  | .str x => some (.inr x)
  | _ => none
def keysD : List Dv → Option (List Key)
  | [] => some []
  | x :: xs => match keyD x, keysD xs with
    | some k, some ks => some (k :: ks)
    | _, _ => none
section
variable {K : PySem.W.Frag} {I : Hp}
theorem rep_key {d : Dv} {v : V} {k : Key} (r : Rep K I d v) (h : keyD d = some k) : v = kV k := by
  cases r <;> cases h <;> rfl
theorem rep_kD {v : V} {k : Key} (r : Rep K I (kD k) v) : v = kV k := by
  cases k <;> cases r <;> rfl
theorem rep_keys : ∀ {ds : List Dv} {vs : List V} {ks : List Key}, RepL K I ds vs → keysD ds = some ks → vs = ks.map kV
  | _, _, _, .nil, h => by cases h; rfl
  | d :: ds, _, ks, .cons h1 h2, h => by
    unfold keysD at h
    cases e1 : keyD d with
    | none => rw [e1] at h; cases h
    | some k =>
      cases e2 : keysD ds with
      | none => rw [e1, e2] at h; cases h
      | some ks2 =>
        rw [e1, e2] at h
        cases h
        rw [rep_key h1 e1, rep_keys h2 e2]
        rfl
end
def valD {κ : Type} [DecidableEq κ] (kvs : List (κ × Dv)) (k : κ) : Option Dv := (kvs.find? fun kv => decide (kv.1 = k)).map (·.2)
def putD {κ : Type} [DecidableEq κ] (kvs : List (κ × Dv)) (k : κ) (v : Dv) : List (κ × Dv) :=
  if (kvs.any fun kv => decide (kv.1 = k)) = true then kvs.map (fun kv => if kv.1 = k then (kv.1, v) else kv) else kvs ++ [(k, v)]
section
variable {K : PySem.W.Frag} {I : Hp} {κ : Type} [DecidableEq κ]
theorem RepP.val : ∀ {kvs : List (κ × Dv)} {vs : List (κ × V)} (k : κ), RepP K I kvs vs → (valD kvs k = none ∧ valV vs k = none) ∨ ∃ d v, valD kvs k = some d ∧ valV vs k = some v ∧ Rep K I d v
  | _, _, k, .nil => .inl ⟨rfl, rfl⟩
  | (k1, d) :: r, (k2, v) :: r', k, .cons h t => by
    obtain ⟨h1, h2⟩ := h
    cases h1
    by_cases e : k1 = k
    · exact .inr ⟨d, v, by simp [valD, List.find?_cons, e], by simp [valV, List.find?_cons, e], h2⟩
    · have := RepP.val k t
      have e1 : valD ((k1, d) :: r) k = valD r k := by simp [valD, List.find?_cons, e]
      have e2 : valV ((k1, v) :: r') k = valV r' k := by simp [valV, List.find?_cons, e]
      rw [e1, e2]
      exact this
theorem RepP.any : ∀ {kvs : List (κ × Dv)} {vs : List (κ × V)} (k : κ), RepP K I kvs vs → (kvs.any fun kv => decide (kv.1 = k)) = (vs.any fun kv => decide (kv.1 = k))
  | _, _, k, .nil => rfl
  | (k1, d) :: r, (k2, v) :: r', k, .cons h t => by
    obtain ⟨h1, h2⟩ := h
    cases h1
    simp only [List.any_cons, RepP.any k t]
theorem RepP.repl {d : Dv} {v : V} (r : Rep K I d v) (k : κ) : ∀ {kvs : List (κ × Dv)} {vs : List (κ × V)}, RepP K I kvs vs → RepP K I (kvs.map fun kv => if kv.1 = k then (kv.1, d) else kv) (vs.map fun kv => if kv.1 = k then (kv.1, v) else kv)
  | _, _, .nil => .nil
  | (k1, d1) :: r1, (k2, v1) :: r2, .cons h t => by
    obtain ⟨h1, h2⟩ := h
    cases h1
    simp only [List.map_cons]
    by_cases e : k1 = k
    · rw [if_pos e, if_pos e]; exact .cons ⟨rfl, r⟩ (RepP.repl r k t)
    · rw [if_neg e, if_neg e]; exact .cons ⟨rfl, h2⟩ (RepP.repl r k t)
theorem RepP.app : ∀ {ps ps2 : List (κ × Dv)} {qs qs2 : List (κ × V)}, RepP K I ps qs → RepP K I ps2 qs2 → RepP K I (ps ++ ps2) (qs ++ qs2)
  | _, _, _, _, .nil, s => s
  | _, _, _, _, .cons h t, s => .cons h (RepP.app t s)
theorem RepP.put {kvs : List (κ × Dv)} {vs : List (κ × V)} {d : Dv} {v : V} (r : RepP K I kvs vs) (k : κ) (rd : Rep K I d v) : RepP K I (putD kvs k d) (putK vs k v) := by
  unfold putD putK
  rw [r.any k]
  split
  · exact r.repl rd k
  · exact r.app (.cons ⟨rfl, rd⟩ .nil)
end
/-! ## dicts -/
/-- what the dict at a holds at y -/
def dlook (μ : Mu) (a : Addr) (y : Dv) (Q : Option Dv → Prop) : Prop := match μ a with
  | some (.dK kvs) => match keyD y with | some k => Q (valD kvs k) | none => False
  | some (.fdK _ kvs _) => match keyD y with | some k => Q (valD kvs k) | none => False
  | some (.dT kvs) => match y with
    | .tup ys => match keysD ys with | some ks => Q (valD kvs ks) | none => False
    | _ => False
  | _ => False
theorem dlook_ok {K : PySem.W.Frag} {I H : Hp} {μ : Mu} {a : Addr} {y : Dv} {v : V} {Q : Option Dv → Prop} (SM : SatM K I μ H) (r : Rep K I y v) (q : dlook μ a y Q) :
    (DGet H a v none ∧ Q none) ∨ ∃ d u, DGet H a v (some u) ∧ Rep K I d u ∧ Q (some d) := by
  unfold dlook at q
  cases e : μ a with
  | none => simp only [e] at q
  | some m =>
    have hm := SM.memo e
    cases m with
    | dK kvs =>
      simp only [e] at q
      obtain ⟨vs, rp, hv⟩ := hm
      cases ek : keyD y with
      | none => simp only [ek] at q
      | some k =>
        simp only [ek] at q
        have ev := rep_key r ek
        subst ev
        have g := DGet.k (k := k) hv
        rcases rp.val k with ⟨h1, h2⟩ | ⟨d, u, h1, h2, h3⟩
        · rw [h2] at g; rw [h1] at q; exact .inl ⟨g, q⟩
        · rw [h2] at g; rw [h1] at q; exact .inr ⟨d, u, g, h3, q⟩
    | fdK o kvs vs =>
      simp only [e] at q
      obtain ⟨rp, hv⟩ := hm
      cases ek : keyD y with
      | none => simp only [ek] at q
      | some k =>
        simp only [ek] at q
        have ev := rep_key r ek
        subst ev
        have g : DGet H a (kV k) (valV vs k) := .inl ⟨vs, k, .inr ⟨o, hv⟩, rfl, rfl⟩
        rcases rp.val k with ⟨h1, h2⟩ | ⟨d, u, h1, h2, h3⟩
        · rw [h2] at g; rw [h1] at q; exact .inl ⟨g, q⟩
        · rw [h2] at g; rw [h1] at q; exact .inr ⟨d, u, g, h3, q⟩
    | dT kvs =>
      simp only [e] at q
      obtain ⟨vs, rp, hv⟩ := hm
      cases r <;> first | exact False.elim q | skip
      rename_i b ws ys h1 h2
      dsimp only at q
      cases ek : keysD ys with
      | none => simp only [ek] at q
      | some ks =>
        simp only [ek] at q
        have ew := rep_keys h2 ek
        subst ew
        have g := DGet.t (k := ks) hv (SM.ex _ _ h1)
        rcases rp.val ks with ⟨k1, k2⟩ | ⟨d, u, k1, k2, k3⟩
        · rw [k2] at g; rw [k1] at q; exact .inl ⟨g, q⟩
        · rw [k2] at g; rw [k1] at q; exact .inr ⟨d, u, g, k3, q⟩
    | _ => simp only [e] at q
/-- a[y] = v -/
def dstore (μ : Mu) (a : Addr) (y v : Dv) (Q : Mu → Prop) : Prop := match μ a with
  | some (.dK kvs) => match keyD y with | some k => kvs.length < sizeLine ∧ Q (mset μ a (.dK (putD kvs k v))) | none => False
  | some (.dT kvs) => match y with
    | .tup ys => match keysD ys with | some ks => kvs.length < sizeLine ∧ Q (mset μ a (.dT (putD kvs ks v))) | none => False
    | _ => False
  | _ => False
theorem dstore_ok {K : PySem.W.Frag} {I H : Hp} {μ : Mu} {a : Addr} {y d : Dv} {vy v : V} {Q : Mu → Prop} (SM : SatM K I μ H) (ry : Rep K I y vy) (rv : Rep K I d v) (q : dstore μ a y d Q) :
    ∃ H' μ', DPut H a vy v H' ∧ SatM K I μ' H' ∧ Q μ' := by
  unfold dstore at q
  cases e : μ a with
  | none => simp only [e] at q
  | some m =>
    have hm := SM.mu _ _ e
    cases m with
    | dK kvs =>
      simp only [e] at q
      obtain ⟨hI, vs, rp, hv⟩ := hm
      cases ek : keyD y with
      | none => simp only [ek] at q
      | some k =>
        simp only [ek] at q
        have ev := rep_key ry ek
        subst ev
        exact ⟨_, _, DPut.k (v := v) hv (by rw [← rp.len]; exact q.1), SM.setM (m := .dK (putD kvs k d)) hI ⟨_, rp.put k rv, upd_same⟩, q.2⟩
    | dT kvs =>
      simp only [e] at q
      obtain ⟨hI, vs, rp, hv⟩ := hm
      cases ry <;> first | exact False.elim q | skip
      rename_i b ws ys h1 h2
      dsimp only at q
      cases ek : keysD ys with
      | none => simp only [ek] at q
      | some ks =>
        simp only [ek] at q
        have ew := rep_keys h2 ek
        subst ew
        exact ⟨_, _, DPut.t (v := v) hv (SM.ex _ _ h1) (by rw [← rp.len]; exact q.1), SM.setM (m := .dT (putD kvs ks d)) hI ⟨_, rp.put ks rv, upd_same⟩, q.2⟩
    | _ => simp only [e] at q
section
variable {S : Sg} {ι : Type} {F : ι → Cx} {pos : Pos}
theorem room1 {X : Cx} (h : Is S X) : X.A.units + 1 < cLine := by have := h.units; omega
def vDGet (td ty : DE) : DE := fun δ μ Q => td δ μ fun x μ1 => ty δ μ1 fun y μ2 => match x with | .ref a => (dlook μ2 a y fun o => match o with | some d => Q d μ2 | none => False) | _ => False
theorem we_dget {o i : Expr} {td ty : DE} (ho : WE S F o td) (hi : WE S F i ty) (hs : NoSl i := by exact fun _ _ => rfl) : WE S F (.Subscript o i pos) (vDGet td ty) :=
  let ⟨ta, a1, a2⟩ := ho; let ⟨tb, b1, b2⟩ := hi
  ⟨_, fun i hi => pe_dget (room1 hi) (a1 i hi) (b1 i hi) hs, fun I δ μ σ H hJ SM hS Q Q' q u => a2 I δ μ σ H hJ SM hS _ _ q fun I1 x vx μ1 H1 e1 S1 r1 q1 =>
    b2 I1 δ μ1 σ H1 (hJ.trans e1) S1 (hS.mono e1) _ _ q1 fun I2 y vy μ2 H2 e2 S2 r2 q2 => by
      have r1' := r1.mono e2 _ _
      cases r1' <;> first | exact False.elim q2 | skip
      rcases dlook_ok S2 r2 q2 with ⟨_, q3⟩ | ⟨d, v, g, rd, q3⟩
      · exact q3.elim
      · exact ⟨_, v, rfl, g, u I2 d v μ2 H2 (e1.trans e2) S2 rd q3⟩⟩
def vDIn (ty td : DE) : DE := fun δ μ Q => ty δ μ fun y μ1 => td δ μ1 fun x μ2 => match x with | .ref a => dlook μ2 a y fun o => Q (.bl o.isSome) μ2 | _ => False
def vDNotIn (ty td : DE) : DE := fun δ μ Q => ty δ μ fun y μ1 => td δ μ1 fun x μ2 => match x with | .ref a => dlook μ2 a y fun o => Q (.bl (!o.isSome)) μ2 | _ => False
theorem re_din {ty td : TE} {sy sd : DE} (b2 : RE S ty sy) (a2 : RE S td sd) : RE S (tDIn ty td) (vDIn sy sd) := fun I δ μ σ H hJ SM hS Q Q' q u => b2 I δ μ σ H hJ SM hS _ _ q fun I1 y vy μ1 H1 e1 S1 r1 q1 =>
    a2 I1 δ μ1 σ H1 (hJ.trans e1) S1 (hS.mono e1) _ _ q1 fun I2 x vx μ2 H2 e2 S2 r2 q2 => by
      have r1' := r1.mono e2 _ _
      cases r2 <;> first | exact False.elim q2 | skip
      rcases dlook_ok S2 r1' q2 with ⟨g, q3⟩ | ⟨d, v, g, rd, q3⟩
      · exact ⟨_, _, rfl, g, u I2 _ _ μ2 H2 (e1.trans e2) S2 (.bl _) q3⟩
      · exact ⟨_, _, rfl, g, u I2 _ _ μ2 H2 (e1.trans e2) S2 (.bl _) q3⟩
theorem re_dnotin {ty td : TE} {sy sd : DE} (b2 : RE S ty sy) (a2 : RE S td sd) : RE S (tDNotIn ty td) (vDNotIn sy sd) := fun I δ μ σ H hJ SM hS Q Q' q u => b2 I δ μ σ H hJ SM hS _ _ q fun I1 y vy μ1 H1 e1 S1 r1 q1 =>
    a2 I1 δ μ1 σ H1 (hJ.trans e1) S1 (hS.mono e1) _ _ q1 fun I2 x vx μ2 H2 e2 S2 r2 q2 => by
      have r1' := r1.mono e2 _ _
      cases r2 <;> first | exact False.elim q2 | skip
      rcases dlook_ok S2 r1' q2 with ⟨g, q3⟩ | ⟨d, v, g, rd, q3⟩
      · exact ⟨_, _, rfl, g, u I2 _ _ μ2 H2 (e1.trans e2) S2 (.bl _) q3⟩
      · exact ⟨_, _, rfl, g, u I2 _ _ μ2 H2 (e1.trans e2) S2 (.bl _) q3⟩
theorem vTest_B {te : TE} {t : DE} (h : RE S te t) : RT S (tB te) (vTest t) := fun I δ μ σ H hJ SM hS Q Q' q u =>
  h I δ μ σ H hJ SM hS _ _ q fun I1 x vx μ1 H1 e1 S1 r1 q1 => by
    cases r1 <;> first | exact False.elim q1 | exact ⟨_, rfl, u I1 _ μ1 H1 e1 S1 q1⟩
theorem wt_din {i o : Expr} {ty td : DE} (hi : WE S F i ty) (ho : WE S F o td) (hm : behindInMarks .In o = false := by rfl) : WT S F (.Compare i [.In] [o] pos) (vTest (vDIn ty td)) :=
  let ⟨ta, a1, a2⟩ := ho; let ⟨tb, b1, b2⟩ := hi
  ⟨_, fun i hi => pt_cmp (pc_din (room1 hi) (b1 i hi) (a1 i hi)) hm, vTest_B (re_din b2 a2)⟩
theorem wt_dnotin {i o : Expr} {ty td : DE} (hi : WE S F i ty) (ho : WE S F o td) (hm : behindInMarks .NotIn o = false := by rfl) : WT S F (.Compare i [.NotIn] [o] pos) (vTest (vDNotIn ty td)) :=
  let ⟨ta, a1, a2⟩ := ho; let ⟨tb, b1, b2⟩ := hi
  ⟨_, fun i hi => pt_cmp (pc_dnotin (room1 hi) (b1 i hi) (a1 i hi)) hm, vTest_B (re_dnotin b2 a2)⟩
theorem we_din {i o : Expr} {ty td : DE} (hi : WE S F i ty) (ho : WE S F o td) (hm : behindInMarks .In o = false := by rfl) : WE S F (.Compare i [.In] [o] pos) (vDIn ty td) :=
  let ⟨ta, a1, a2⟩ := ho; let ⟨tb, b1, b2⟩ := hi
  ⟨_, fun i hi => pe_cmp (pc_din (room1 hi) (b1 i hi) (a1 i hi)) hm, re_din b2 a2⟩
def sDPutV (td ty tv : DE) : DS := fun D δ μ => tv δ μ fun v μ1 => td δ μ1 fun x μ2 => ty δ μ2 fun y μ3 => match x with | .ref a => dstore μ3 a y v fun μ4 => D.nx δ μ4 | _ => False
theorem ws_dput {o i e : Expr} {td ty tv : DE} {pos' : Pos} (ho : WE S F o td) (hi : WE S F i ty) (hv : WE S F e tv) (hs : ∀ env, swapsWith e (some (.Subscript o i pos')) pos.line env = pure false := by exact fun _ => rfl) : WS S F (.Assign [.Subscript o i pos'] e pos) (sDPutV td ty tv) :=
  let ⟨ta, a1, a2⟩ := ho; let ⟨tb, b1, b2⟩ := hi; let ⟨tc, c1, c2⟩ := hv
  ⟨_, fun i hi => ps_dput (room1 hi) (a1 i hi) (b1 i hi) (c1 i hi) (hs _), fun I δ μ σ H hJ SM hS D D' q u => c2 I δ μ σ H hJ SM hS _ _ q fun I1 v vv μ1 H1 e1 S1 r1 q1 =>
    a2 I1 δ μ1 σ H1 (hJ.trans e1) S1 (hS.mono e1) _ _ q1 fun I2 x vx μ2 H2 e2 S2 r2 q2 =>
      b2 I2 δ μ2 σ H2 ((hJ.trans e1).trans e2) S2 (hS.mono (e1.trans e2)) _ _ q2 fun I3 y vy μ3 H3 e3 S3 r3 q3 => by
        have r2' := r2.mono e3 _ _
        cases r2' <;> first | exact False.elim q3 | skip
        obtain ⟨H', μ', g, S4, q4⟩ := dstore_ok S3 r3 (r1.mono (e2.trans e3) _ _) q3
        exact ⟨_, H', rfl, g, u.nx I3 δ σ μ' H' ((e1.trans e2).trans e3) S4 (hS.mono ((e1.trans e2).trans e3)) q4⟩⟩
def vDNewK : DE := fun _ μ Q => ∀ p, μ p = none → Q (.ref p) (mset μ p (.dK []))
def vDNewT : DE := fun _ μ Q => ∀ p, μ p = none → Q (.ref p) (mset μ p (.dT []))
theorem we_dnewK : WE S F (.Dict [] [] pos) vDNewK := ⟨_, fun _ _ => pe_dnewK, fun I δ μ σ H hJ SM hS Q Q' q u p hp => u I _ _ _ _ (Same.refl I) (SM.setM (m := .dK []) (SM.ex.free hp) ⟨[], .nil, upd_same⟩) (.ref p) (q p (SM.muNone hp))⟩
theorem we_dnewT : WE S F (.Dict [] [] pos) vDNewT := ⟨_, fun _ _ => pe_dnewT, fun I δ μ σ H hJ SM hS Q Q' q u p hp => u I _ _ _ _ (Same.refl I) (SM.setM (m := .dT []) (SM.ex.free hp) ⟨[], .nil, upd_same⟩) (.ref p) (q p (SM.muNone hp))⟩
/-! {k: v, ..} -/
def dPairs : List (DE × DE) → DSt → Mu → (List (Dv × Dv) → Mu → Prop) → Prop
  | [], _, μ, Q => Q [] μ
  | (tk, tv) :: r, δ, μ, Q => tk δ μ fun x μ1 => tv δ μ1 fun y μ2 => dPairs r δ μ2 fun ps μ3 => Q ((x, y) :: ps) μ3
def WPs (S : Sg) {ι : Type} (F : ι → Cx) (pos : Pos) (keys : List (Option Expr)) (values : List Expr) (prs : List (DE × DE)) : Prop := ∃ trs, (∀ i, Is S (F i) → PPs (F i) pos keys values trs) ∧ Paired (fun p q => RE S p.1 q.1 ∧ RE S p.2 q.2) trs prs
theorem wps_nil : WPs S F pos [] [] [] := ⟨[], fun _ _ => pps_nil, .nil⟩
theorem wps_cons {k v : Expr} {ks : List (Option Expr)} {vs : List Expr} {tk tv : DE} {prs : List (DE × DE)} (hk : WE S F k tk) (hv : WE S F v tv) (hr : WPs S F pos ks vs prs) : WPs S F pos (some k :: ks) (v :: vs) ((tk, tv) :: prs) :=
  let ⟨a, a1, a2⟩ := hk; let ⟨b, b1, b2⟩ := hv; let ⟨c, c1, c2⟩ := hr
  ⟨_, fun i hi => pps_cons (a1 i hi) (b1 i hi) (c1 i hi), .cons ⟨a2, b2⟩ c2⟩
theorem pairs_run : ∀ {trs : List (TE × TE)} {prs : List (DE × DE)}, Paired (fun p q => RE S p.1 q.1 ∧ RE S p.2 q.2) trs prs → ∀ I δ μ σ H, Same S.J I → SatM S.K I μ H → RepS S.K I δ σ → ∀ (Q : List (Dv × Dv) → Mu → Prop) (Q' : List (V × V) → Hp → Prop), dPairs prs δ μ Q →
    (∀ I' ps vs μ' H', Same I I' → SatM S.K I' μ' H' → Paired (fun (p : Dv × Dv) (q : V × V) => Rep S.K I' p.1 q.1 ∧ Rep S.K I' p.2 q.2) ps vs → Q ps μ' → Q' vs H') → tPairs trs σ H Q'
  | _, _, .nil, I, δ, μ, σ, H, hJ, SM, hS, Q, Q', q, u => u I [] [] μ H (Same.refl I) SM .nil q
  | _, _, .cons h t, I, δ, μ, σ, H, hJ, SM, hS, Q, Q', q, u => h.1 I δ μ σ H hJ SM hS _ _ q fun I1 x vx μ1 H1 e1 S1 r1 q1 =>
    h.2 I1 δ μ1 σ H1 (hJ.trans e1) S1 (hS.mono e1) _ _ q1 fun I2 y vy μ2 H2 e2 S2 r2 q2 =>
      pairs_run t I2 δ μ2 σ H2 ((hJ.trans e1).trans e2) S2 (hS.mono (e1.trans e2)) _ _ q2 fun I3 ps vs μ3 H3 e3 S3 r3 q3 =>
        u I3 _ _ μ3 H3 ((e1.trans e2).trans e3) S3 (.cons ⟨r1.mono (e2.trans e3) _ _, r2.mono e3 _ _⟩ r3) q3
def vDisp (prs : List (DE × DE)) : DE := fun δ μ Q => ∀ p, μ p = none → dPairs prs δ (mset μ p (.dK [])) fun ps μ2 => μ2 p = some (.dK []) ∧ ∃ kvs : List (Key × Dv), ps = kvs.map (fun kv => (kD kv.1, kv.2)) ∧ kvs.length ≤ 15 ∧ Q (.ref p) (mset μ2 p (.dK (kvs.foldl (fun acc kv => putD acc kv.1 kv.2) [])))
theorem pairs_kv {K : PySem.W.Frag} {I : Hp} : ∀ {kvs : List (Key × Dv)} {vs : List (V × V)}, Paired (fun (p : Dv × Dv) (q : V × V) => Rep K I p.1 q.1 ∧ Rep K I p.2 q.2) (kvs.map fun kv => (kD kv.1, kv.2)) vs → ∃ ws : List (Key × V), vs = ws.map (fun kv => (kV kv.1, kv.2)) ∧ RepP K I kvs ws
  | [], _, .nil => ⟨[], rfl, .nil⟩
  | (k, d) :: kvs, (x, y) :: vs, .cons h t => by
    obtain ⟨ws, e, r⟩ := pairs_kv t
    have hx : x = kV k := rep_kD h.1
    subst hx
    exact ⟨(k, y) :: ws, by rw [e]; rfl, .cons ⟨rfl, h.2⟩ r⟩
theorem merge_rep {K : PySem.W.Frag} {I : Hp} : ∀ {kvs : List (Key × Dv)} {ws : List (Key × V)} {a : List (Key × Dv)} {b : List (Key × V)}, RepP K I kvs ws → RepP K I a b → RepP K I (kvs.foldl (fun acc kv => putD acc kv.1 kv.2) a) (ws.foldl (fun acc kv => putK acc kv.1 kv.2) b)
  | _, _, _, _, .nil, s => s
  | (k, d) :: _, (k2, v) :: _, _, _, .cons h t, s => by
    obtain ⟨h1, h2⟩ := h
    cases h1
    have z := merge_rep t (RepP.put s k h2)
    exact z
theorem we_disp {keys : List (Option Expr)} {values : List Expr} {prs : List (DE × DE)} (h : WPs S F pos keys values prs) (hall : keys.all (·.isSome) = true := by rfl) (hl : keys.length = values.length := by rfl) (h0 : keys ≠ [] := by exact List.cons_ne_nil _ _) (h15 : keys.length ≤ 15 := by decide) : WE S F (.Dict keys values pos) (vDisp prs) :=
  let ⟨trs, a1, a2⟩ := h
  ⟨_, fun i hi => pe_disp (a1 i hi) hall hl h0 h15, fun I δ μ σ H hJ SM hS Q Q' q u p hp => by
    have S1 := SM.setM (o := .dK []) (m := .dK []) (SM.ex.free hp) ⟨[], .nil, upd_same⟩
    refine pairs_run a2 I δ _ σ _ hJ S1 hS _ _ (q p (SM.muNone hp)) fun I2 ps vs μ2 H2 e2 S2 r2 q2 => ?_
    obtain ⟨em, kvs, e, hlen, q3⟩ := q2
    subst e
    obtain ⟨ws, ew, rw'⟩ := pairs_kv r2
    obtain ⟨hI, b, rb, hb⟩ := S2.mu _ _ em
    cases rb
    exact ⟨hb, ws, ew, by rw [← rw'.len]; exact hlen, u I2 _ _ _ _ e2 (S2.setM (m := .dK (kvs.foldl (fun acc kv => putD acc kv.1 kv.2) [])) hI ⟨_, merge_rep rw' .nil, upd_same⟩) (.ref p) q3⟩⟩
/-- d.get(k) -/
def vDGet1 (td ty : DE) : DE := fun δ μ Q => td δ μ fun x μ1 => match x with
  | .ref a => (match μ1 a with | some (.dK _) => True | some (.dT _) => True | _ => False) ∧ ty δ μ1 fun y μ2 => dlook μ2 a y fun o => Q (o.getD .non) μ2
  | _ => False
theorem we_dget1 {o e : Expr} {td ty : DE} {apos cpos : Pos} (ho : WE S F o td) (he : WE S F e ty) (hm : ∀ j, M1 (F j) o "get" apos e cpos := by exact fun _ => ⟨rfl, rfl, rfl, rfl⟩) : WE S F (.Call (.Attribute o "get" apos) [e] [] cpos) (vDGet1 td ty) :=
  let ⟨ta, a1, a2⟩ := ho; let ⟨tb, b1, b2⟩ := he
  ⟨_, fun i hi => pe_dget1 (room1 hi) (a1 i hi) (b1 i hi) (hm i), fun I δ μ σ H hJ SM hS Q Q' q u => a2 I δ μ σ H hJ SM hS _ _ q fun I1 x vx μ1 H1 e1 S1 r1 q1 => by
    cases r1 <;> first | exact False.elim q1 | skip
    rename_i a
    refine ⟨a, rfl, ?_, b2 I1 δ μ1 σ H1 (hJ.trans e1) S1 (hS.mono e1) _ _ q1.2 fun I2 y vy μ2 H2 e2 S2 r2 q2 => ?_⟩
    · have h := q1.1
      cases e : μ1 a with
      | none => simp only [e] at h
      | some m =>
        have hm' := S1.memo e
        cases m with
        | dK kvs => obtain ⟨vs, _, hv⟩ := hm'; exact .inl ⟨vs, .inl hv⟩
        | dT kvs => obtain ⟨vs, _, hv⟩ := hm'; exact .inr ⟨vs, .inl hv⟩
        | _ => simp only [e] at h
    · rcases dlook_ok S2 r2 q2 with ⟨g, q3⟩ | ⟨d, v, g, rd, q3⟩
      · exact ⟨none, g, u I2 _ _ μ2 H2 (e1.trans e2) S2 .non q3⟩
      · exact ⟨some v, g, u I2 _ _ μ2 H2 (e1.trans e2) S2 rd q3⟩⟩
end
end Wl

set_option Elab.async false
set_option linter.all false
set_option maxRecDepth 100000
set_option maxHeartbeats 2000000
namespace Wl
open PySem L2
open PySem.Spec PyProof.Rows
section
variable {S : Sg} {ι : Type} {F : ι → Cx} {pos : Pos}
/-! ## is None -/
def isNo : Dv → Bool
  | .non => true
  | _ => false
def gIsN : D2 := fun x y μ Q => match y with | .non => Q (.bl (isNo x)) μ | _ => False
def gNotN : D2 := fun x y μ Q => match y with | .non => Q (.bl (!isNo x)) μ | _ => False
theorem rep_isNo {K : PySem.W.Frag} {I : Hp} {d : Dv} {v : V} (r : Rep K I d v) : decide (v = .non) = isNo d := by cases r <;> rfl
theorem wo_isN : WO S (compareOp .Is) gIsN := ⟨_, fun X _ => op_isN, fun I μ H _ SM dx dy x y rx ry Q Q' q u => by
  cases ry <;> first | exact False.elim q | exact ⟨rfl, by rw [rep_isNo rx]; exact u I _ _ μ H (Same.refl I) SM (.bl _) q⟩⟩
theorem wo_notN : WO S (compareOp .IsNot) gNotN := ⟨_, fun X _ => op_notN, fun I μ H _ SM dx dy x y rx ry Q Q' q u => by
  cases ry <;> first | exact False.elim q | exact ⟨rfl, by rw [rep_isNo rx]; exact u I _ _ μ H (Same.refl I) SM (.bl _) q⟩⟩
/-! ## isinstance(x, T), T a built-in type -/
def tyName (x : Dv) (μ : Mu) : Option String := match x with
  | .non => some "NoneType"
  | .bl _ => some "bool"
  | .int _ => some "int"
  | .str _ => some "str"
  | .tup _ => some "tuple"
  | .lst _ => some "list"
  | .ref a => match μ a with
    | some (.lst _) => some "list"
    | some (.dK _) => some "dict"
    | some (.dT _) => some "dict"
    | _ => none
  | _ => none
def gIsi : DC := fun xs μ Q => match xs with
  | [x, .ty T] => ∃ n b, tyName x μ = some n ∧ kitB n T = some b ∧ Q (.bl b) μ
  | _ => False
theorem tyName_ok {K : PySem.W.Frag} {I H : Hp} {μ : Mu} (SM : SatM K I μ H) {d : Dv} {v : V} {n : String} (r : Rep K I d v) (e : tyName d μ = some n) : TyX K H v (.type n) := by
  cases r <;> first | cases e | skip
  · exact .base .non
  · exact .base (.bl _)
  · exact .base (.int _)
  · exact .base (.str _)
  · rename_i a
    unfold tyName at e
    cases em : μ a with
    | none => simp only [em] at e; cases e
    | some m =>
      have hm := SM.memo em
      cases m with
      | lst xs => simp only [em] at e; cases e; obtain ⟨vs, _, h⟩ := hm; exact .base (.lst h)
      | dK kvs => simp only [em] at e; cases e; obtain ⟨vs, _, h⟩ := hm; exact .base (.dK h)
      | dT kvs => simp only [em] at e; cases e; obtain ⟨vs, _, h⟩ := hm; exact .base (.dT h)
      | _ => simp only [em] at e; cases e
  · rename_i h1 h2; exact .base (.tup (SM.ex _ _ h1))
  · rename_i h1 h2; exact .base (.lst (SM.ex _ _ h1))
theorem wc_isi : WC S (.builtin "isinstance") gIsi := ⟨rIsi S.K, fun X hX => hX.K ▸ call_isi, fun I μ H _ SM ds vs r Q Q' q u => by
  cases r with
  | nil => exact q.elim
  | cons r1 r2 =>
    cases r2 with
    | nil => exact q.elim
    | cons r2 r3 =>
      cases r3 with
      | cons _ _ => cases r2 <;> exact q.elim
      | nil =>
        cases r2 <;> first | exact False.elim q | skip
        obtain ⟨n, b, e1, e2, q2⟩ := q
        exact ⟨_, _, _, _, b, rfl, .ty _, tyName_ok SM r1 e1, kit_ty e2, u I _ _ μ H (Same.refl I) SM (.bl b) q2⟩⟩
/-! ## in -/
def rInP (K : PySem.W.Frag) (neg : Bool) : R2 := fun x y H Q => ∃ d ds, Dp K H x d ∧ (Dp K H y (.list ds) ∨ Dp K H y (.tuple ds)) ∧ d.plain = true ∧ PyData.plainAll ds = true ∧ min (PyData.depthAll ds) d.depth ≤ 60 ∧
  Q (.bl (if neg then !(ds.any fun z => PyData.eqv z d) else ds.any fun z => PyData.eqv z d)) H
theorem op_inP {X : Cx} (hu : X.A.units + 64 < cLine) : OpR X (compareOp .In) (rInP X.K false) := by
  intro pins s σ H x y v u Q I rx ry h
  obtain ⟨d, ds, hd, he, pd, pe, hz, q⟩ := h
  obtain ⟨as, r1⟩ := Dp.reads I d x v hd rx
  rcases he with he | he
  · obtain ⟨bs, r2⟩ := Dp.reads I _ y u he ry
    exact SeqAt.in_list_data r2 r1 pe pd (by omega) ⟨.bl _, H, I, rfl, q⟩
  · obtain ⟨bs, r2⟩ := Dp.reads I _ y u he ry
    exact SeqAt.in_tuple_data r2 r1 pe pd (by omega) ⟨.bl _, H, I, rfl, q⟩
theorem op_notInP {X : Cx} (hu : X.A.units + 64 < cLine) : OpR X (compareOp .NotIn) (rInP X.K true) := by
  intro pins s σ H x y v u Q I rx ry h
  obtain ⟨d, ds, hd, he, pd, pe, hz, q⟩ := h
  obtain ⟨as, r1⟩ := Dp.reads I d x v hd rx
  rcases he with he | he
  · obtain ⟨bs, r2⟩ := Dp.reads I _ y u he ry
    exact SeqAt.notIn_list_data r2 r1 pe pd (by omega) ⟨.bl _, H, I, rfl, q⟩
  · obtain ⟨bs, r2⟩ := Dp.reads I _ y u he ry
    exact SeqAt.notIn_tuple_data r2 r1 pe pd (by omega) ⟨.bl _, H, I, rfl, q⟩
def dIn (x : Dv) (ys : List Dv) : Bool := ys.any fun z => dEq z x
def inOk (x : Dv) (ys : List Dv) : Prop := x.isD = true ∧ Dv.areD ys = true ∧ min (PyData.depthAll (Dv.pds ys)) x.pd.depth ≤ 60
def gIn (neg : Bool) : D2 := fun x y μ Q => match y with
  | .tup ys => inOk x ys ∧ Q (.bl (if neg then !dIn x ys else dIn x ys)) μ
  | .lst ys => inOk x ys ∧ Q (.bl (if neg then !dIn x ys else dIn x ys)) μ
  | .ref a => match μ a with | some (.lst ys) => inOk x ys ∧ Q (.bl (if neg then !dIn x ys else dIn x ys)) μ | _ => False
  | _ => False
theorem gIn_ok {K : PySem.W.Frag} {neg : Bool} {I H : Hp} {μ : Mu} (SM : SatM K I μ H) {dx dy : Dv} {x y : V} {Q : DV} (rx : Rep K I dx x) (ry : Rep K I dy y) (q : gIn neg dx dy μ Q) :
    ∃ ys, inOk dx ys ∧ (Dp K H y (.list (Dv.pds ys)) ∨ Dp K H y (.tuple (Dv.pds ys))) ∧ Q (.bl (if neg then !dIn dx ys else dIn dx ys)) μ := by
  cases ry <;> first | exact False.elim q | skip
  · rename_i a
    unfold gIn at q
    dsimp only at q
    cases em : μ a with
    | none => simp only [em] at q
    | some m =>
      cases m with
      | lst ys =>
        simp only [em] at q
        obtain ⟨vs, rl, hv⟩ := SM.memo em
        exact ⟨ys, q.1, .inl (.lst (.inl (.inl hv)) (rl.dp SM.ex _ _ q.1.2.1)), q.2⟩
      | _ => simp only [em] at q
  · rename_i h1 h2; exact ⟨_, q.1, .inr (.tup (.inl (.inl (SM.ex _ _ h1))) (h2.dp SM.ex _ _ q.1.2.1)), q.2⟩
  · rename_i h1 h2; exact ⟨_, q.1, .inl (.lst (.inl (.inl (SM.ex _ _ h1))) (h2.dp SM.ex _ _ q.1.2.1)), q.2⟩
theorem any_pds (d : PyData) : ∀ ys : List Dv, ((Dv.pds ys).any fun z => PyData.eqv z d) = ys.any fun z => PyData.eqv z.pd d
  | [] => rfl
  | y :: ys => by simp only [Dv.pds, List.any_cons, any_pds d ys]
theorem wo_in : WO S (compareOp .In) (gIn false) := ⟨rInP S.K false, fun X hX => hX.K ▸ op_inP hX.units, fun I μ H _ SM dx dy x y rx ry Q Q' q u => by
  obtain ⟨ys, h1, h2, h3⟩ := gIn_ok SM rx ry q
  exact ⟨dx.pd, Dv.pds ys, rx.dp SM.ex _ _ h1.1, h2, dx.plain, Dv.plains ys, h1.2.2, by rw [any_pds]; exact u I _ _ μ H (Same.refl I) SM (.bl _) h3⟩⟩
theorem wo_notIn : WO S (compareOp .NotIn) (gIn true) := ⟨rInP S.K true, fun X hX => hX.K ▸ op_notInP hX.units, fun I μ H _ SM dx dy x y rx ry Q Q' q u => by
  obtain ⟨ys, h1, h2, h3⟩ := gIn_ok SM rx ry q
  exact ⟨dx.pd, Dv.pds ys, rx.dp SM.ex _ _ h1.1, h2, dx.plain, Dv.plains ys, h1.2.2, by rw [any_pds]; exact u I _ _ μ H (Same.refl I) SM (.bl _) h3⟩⟩
/-- one sign in a text -/
def gInS (neg : Bool) : D2 := fun x y μ Q => match x, y with
  | .str a, .str z => ∃ c, a = ⟨#[c]⟩ ∧ Q (.bl (if neg then !decide (c ∈ z.cps.toList) else decide (c ∈ z.cps.toList))) μ
  | _, _ => False
theorem wo_inS : WO S (compareOp .In) (gInS false) := ⟨_, fun X _ => op_in_sign, fun I μ H _ SM dx dy x y rx ry Q Q' q u => by
  cases rx <;> first | exact False.elim q | skip
  cases ry <;> first | exact False.elim q | skip
  obtain ⟨c, rfl, q⟩ := q
  exact ⟨c, _, rfl, rfl, u I _ _ μ H (Same.refl I) SM (.bl _) q⟩⟩
theorem wo_notInS : WO S (compareOp .NotIn) (gInS true) := ⟨_, fun X _ => op_notIn_sign, fun I μ H _ SM dx dy x y rx ry Q Q' q u => by
  cases rx <;> first | exact False.elim q | skip
  cases ry <;> first | exact False.elim q | skip
  obtain ⟨c, rfl, q⟩ := q
  exact ⟨c, _, rfl, rfl, u I _ _ μ H (Same.refl I) SM (.bl _) q⟩⟩
/-! ## sets of tuples -/
def vSet0 (P : Program) (w : World) : DE := fun _ μ Q => ∀ p, μ p = none → Q (.ref p) (mset μ p (.st P w []))
theorem we_set0 {p : Pos} (hm : S.mg "set" = none) (hg : ∀ j, Gl (F j) "set" := by exact fun _ => rfl) : WE S F (.Call (.Name "set" p) [] [] pos) (vSet0 S.P S.w) :=
  ⟨tCB (Ws.rSet0T S.P S.w) tNil, fun i hi => by
    have h := pe_callTy0 (pos := pos) (p := p) Ws.cr_set0T (hg i) (hi.mg ▸ hm) (by decide +kernel)
    rw [hi.prog, hi.w] at h
    exact h, fun I δ μ σ H hJ SM hS Q Q' q u => ⟨rfl, fun p hp => u I _ _ _ _ (Same.refl I) (SM.setM (m := .st S.P S.w []) (SM.ex.free hp) ⟨[], .refl _, (fun _ h => by cases h), upd_same⟩) (.ref p) (q p (SM.muNone hp))⟩⟩
def gInT (P : Program) (w : World) (neg : Bool) : D2 := fun x y μ Q => match x, y with
  | .tup xs, .ref a => ∃ k ks, keysD xs = some k ∧ μ a = some (.st P w ks) ∧ ∀ r : Bool, (r = true ↔ k ∈ ks) → Q (.bl (if neg then !r else r)) μ
  | _, _ => False
theorem r_inT {P : Program} {w : World} {neg : Bool} {K : PySem.W.Frag} {I H : Hp} {μ : Mu} (SM : SatM K I μ H) {dx dy : Dv} {x y : V} {Q : DV} {Q' : VK} (rx : Rep K I dx x) (ry : Rep K I dy y) (q : gInT P w neg dx dy μ Q) (u : Up K I Q Q') : Ws.rInT P w neg x y H Q' := by
  cases rx <;> first | exact False.elim q | skip
  rename_i b vs xs h1 h2
  cases ry <;> first | exact False.elim q | skip
  obtain ⟨k, ks, ek, em, q⟩ := q
  obtain ⟨L, pm, kn, hv⟩ := SM.memo em
  have e := rep_keys h2 ek
  subst e
  refine ⟨b, _, k, L, rfl, rfl, SM.ex _ _ h1, hv, fun p hp => SM.ex _ _ (kn p hp), fun r hr => u I _ _ μ H (Same.refl I) SM (.bl _) (q r (hr.trans pm.mem_iff))⟩
theorem wo_inT : WO S (compareOp .In) (gInT S.P S.w false) := ⟨Ws.rInT S.P S.w false, fun X hX => by
  have h := Ws.or_inT (X := X) (by have := hX.units; omega)
  rw [hX.prog, hX.w] at h
  exact h, fun I μ H _ SM dx dy x y rx ry Q Q' q u => r_inT SM rx ry q u⟩
theorem wo_notInT : WO S (compareOp .NotIn) (gInT S.P S.w true) := ⟨Ws.rInT S.P S.w true, fun X hX => by
  have h := Ws.or_notInT (X := X) (by have := hX.units; omega)
  rw [hX.prog, hX.w] at h
  exact h, fun I μ H _ SM dx dy x y rx ry Q Q' q u => r_inT SM rx ry q u⟩
def vAddT (P : Program) (w : World) (to : DE) (te : DE) : DE := fun δ μ Q => to δ μ fun x μ1 => match x with
  | .ref a => (∃ ks, μ1 a = some (.st P w ks)) ∧ te δ μ1 fun y μ2 => match y with
    | .tup xs => ∃ k ks, keysD xs = some k ∧ μ2 a = some (.st P w ks) ∧ ks.length + 1 < 64 ∧ (k ∈ ks → Q .non μ2) ∧ (k ∉ ks → Q .non (mset μ2 a (.st P w (k :: ks))))
    | _ => False
  | _ => False
theorem mset_id {μ : Mu} {a : Addr} {m : Mo} (h : μ a = some m) : mset μ a m = μ := by
  funext b
  unfold mset
  split
  · rename_i e; subst e; exact h.symm
  · rfl
theorem we_addT {o e : Expr} {to te : DE} {apos cpos : Pos} (ho : WE S F o to) (he : WE S F e te) (hbase : ∀ env, attributeBase o "add" env (eval o env) = eval o env := by exact fun _ => rfl)
    (hfew : ∀ env, ((backTo cpos (starEach [e] env)).all (fun x => !x.1) && (backToKw cpos (keywordEach [] env)).all (fun x => x.1.isSome)
      && decide ([e].length + ([] : List Keyword).length + (if ([] : List Keyword).isEmpty then 0 else 1) < 30)) = true := by exact fun _ => rfl)
    (hline : (apos.endLine == cpos.line) = true := by rfl) (hs : ∀ env, starEach [e] env = (false, eval e env) :: starEach [] env := by exact fun _ => rfl) : WE S F (.Call (.Attribute o "add" apos) [e] [] cpos) (vAddT S.P S.w to te) := by
  obtain ⟨ta, a1, a2⟩ := ho
  obtain ⟨tb, b1, b2⟩ := he
  refine ⟨Ws.tAddT S.P S.w ta (tCons tb tNil), fun i hi => ?_, fun I δ μ σ H hJ SM hS Q Q' q u => a2 I δ μ σ H hJ SM hS _ _ q fun I1 x vx μ1 H1 e1 S1 r1 q1 => ?_⟩
  · have h := Ws.pe_addT (cpos := cpos) (apos := apos) (by have := hi.units; omega) (a1 i hi) (pa_cons (b1 i hi) pa_nil (hs _)) (hbase _) (hfew _) hline (hs _) rfl
    rw [hi.prog, hi.w] at h
    exact h
  · cases r1 <;> first | exact False.elim q1 | skip
    obtain ⟨⟨ks, em⟩, q1⟩ := q1
    obtain ⟨L, pm, kn, hv⟩ := S1.memo em
    refine ⟨⟨_, L, rfl, hv⟩, b2 I1 δ μ1 σ H1 (hJ.trans e1) S1 (hS.mono e1) _ _ q1 fun I2 y vy μ2 H2 e2 S2 r2 q2 => ?_⟩
    cases r2 <;> first | exact False.elim q2 | skip
    rename_i b vs xs h1 h2
    obtain ⟨k, ks2, ek, em2, few, q3, q4⟩ := q2
    obtain ⟨hI, L2', pm2, kn2, hv2⟩ := S2.mu _ _ em2
    have e := rep_keys h2 ek
    subst e
    have hlen : L2'.length = ks2.length := by rw [← pm2.length_eq, List.length_map]
    refine ⟨_, b, k, L2', rfl, rfl, hv2, S2.ex _ _ h1, fun p hp => S2.ex _ _ (kn2 p hp), by rw [hlen]; exact few, fun L3 z1 z2 => ?_⟩
    by_cases hk : k ∈ ks2
    · rw [z1 (pm2.mem_iff.mpr hk)]
      have S3 := S2.setM (p := _) (o := Ws.SetT S.P S.w _ L2') (m := .st S.P S.w ks2) hI ⟨L2', pm2, kn2, upd_same⟩
      rw [mset_id em2] at S3
      exact u I2 _ _ _ _ (e1.trans e2) S3 .non (q3 hk)
    · have p3 := z2 (fun h => hk (pm2.mem_iff.mp h))
      have S3 := S2.setM (p := _) (o := Ws.SetT S.P S.w _ L3) (m := .st S.P S.w (k :: ks2)) hI ⟨L3, (p3.map (·.2)).trans (by rw [List.map_cons]; exact List.Perm.cons _ pm2), fun p hp => by
        rcases List.mem_cons.mp (p3.mem_iff.mp hp) with e | hp
        · rw [e]; exact h1
        · exact kn2 p hp, upd_same⟩
      exact u I2 _ _ _ _ (e1.trans e2) S3 .non (q4 hk)
/-! ## all, join -/
def boolsD : List Dv → Option (List Bool)
  | [] => some []
  | .bl b :: xs => (boolsD xs).map (b :: ·)
  | _ :: _ => none
theorem rep_bools {K : PySem.W.Frag} {I : Hp} : ∀ {ds : List Dv} {vs : List V} {bs : List Bool}, RepL K I ds vs → boolsD ds = some bs → vs = bs.map V.bl
  | _, _, _, .nil, h => by cases h; rfl
  | d :: ds, v :: vs, bs, .cons h1 h2, h => by
    cases h1 <;> first | cases h | skip
    rename_i b
    have h' : (boolsD ds).map (b :: ·) = some bs := h
    cases e : boolsD ds with
    | none => rw [e] at h'; cases h'
    | some bs2 =>
      rw [e] at h'
      cases h'
      rw [rep_bools h2 e]
      rfl
def gAll : DC := fun xs μ Q => match xs with
  | [.lst ys] => ∃ bs, boolsD ys = some bs ∧ Q (.bl (bs.all id)) μ
  | _ => False
theorem wc_all (hcold : S.cold = false := by rfl) : WC S (.builtin "all") gAll := ⟨rAll S.K, fun X hX => hX.K ▸ cr_all (hX.calm hcold), fun I μ H _ SM ds vs r Q Q' q u => by
  cases r with
  | nil => exact q.elim
  | cons r1 r2 =>
    cases r2 with
    | cons _ _ => cases r1 <;> exact False.elim q
    | nil =>
      cases r1 <;> first | exact False.elim q | skip
      rename_i h1 h2
      obtain ⟨bs, eb, q⟩ := q
      have e := rep_bools h2 eb
      subst e
      exact ⟨_, bs, rfl, .inl (.inl (SM.ex _ _ h1)), u I _ _ μ H (Same.refl I) SM (.bl _) q⟩⟩
def textsD : List Dv → Option (List Str)
  | [] => some []
  | .str b :: xs => (textsD xs).map (b :: ·)
  | _ :: _ => none
theorem rep_texts {K : PySem.W.Frag} {I : Hp} : ∀ {ds : List Dv} {vs : List V} {bs : List Str}, RepL K I ds vs → textsD ds = some bs → vs = bs.map V.str
  | _, _, _, .nil, h => by cases h; rfl
  | d :: ds, v :: vs, bs, .cons h1 h2, h => by
    cases h1 <;> first | cases h | skip
    rename_i b
    have h' : (textsD ds).map (b :: ·) = some bs := h
    cases e : textsD ds with
    | none => rw [e] at h'; cases h'
    | some bs2 =>
      rw [e] at h'
      cases h'
      rw [rep_texts h2 e]
      rfl
def gJoin : DM := fun x xs μ Q => match x, xs with
  | .str a, [.lst ys] => ∃ ts, textsD ys = some ts ∧ (ts.map (·.length)).sum + ts.length * a.length ≤ 16777216 ∧ Q (.str (Txt.join a ts)) μ
  | _, _ => False
theorem wm_join : WM S "str.join" gJoin := ⟨_, fun X hX => hX.K ▸ mt_join, fun I μ H _ SM dx x ds vs rx r Q Q' q u => by
  cases rx <;> first | exact False.elim q | skip
  cases r with
  | nil => exact q.elim
  | cons r1 r2 =>
    cases r2 with
    | cons _ _ => cases r1 <;> exact False.elim q
    | nil =>
      cases r1 <;> first | exact False.elim q | skip
      rename_i h1 h2
      obtain ⟨ts, et, hz, q⟩ := q
      have e := rep_texts h2 et
      subst e
      exact ⟨_, _, ts, rfl, rfl, .inl (.inl (.inl (SM.ex _ _ h1))), hz, u I _ _ μ H (Same.refl I) SM (.str _) q⟩⟩
end
end Wl

set_option Elab.async false
set_option linter.all false
set_option maxRecDepth 100000
set_option maxHeartbeats 2000000
namespace Wl
open PySem L2
open PySem.Spec PyProof.Rows
section
variable {S : Sg} {ι : Type} {F : ι → Cx} {pos : Pos}
/-- x += e of ints -/
def sAug (i : Nat) (t : DE) : DS := fun D δ μ => ∃ n, δ[i]? = some (some (.int n)) ∧ t δ μ fun y μ1 => match y with | .int m => D.nx (δ.set i (some (.int (n + m)))) μ1 | _ => False
theorem ws_aug (i : Nat) {x : Str} {e : Expr} {t : DE} {pos' : Pos} (he : WE S F e t) (hN : S.N.Nodup) (hi : S.N[i]? = some x := by rfl) (hx : ∀ j, Loc (F j).env.scope x := by first | exact fun _ => .inl rfl | exact fun _ => .inr rfl)
    (hf : ∀ j, (F j).fn x = true ∨ (F j).env.scope.names.lookup x = some .local := by first | exact fun _ => .inl rfl | exact fun _ => .inr rfl) : WS S F (.AugAssign (.Name x pos') .Add e pos) (sAug i t) :=
  let ⟨a, a1, a2⟩ := he
  ⟨_, fun j hj => ps_aug (hj.N ▸ hN) (hj.N ▸ hi) (hx j) (a1 j hj) ip_add (hf j), fun I δ μ σ H hJ SM hS D D' q u => by
    obtain ⟨n, hn, q⟩ := q
    obtain ⟨v, hv, rv⟩ := hS.at_ i _ hn
    cases rv
    refine ⟨_, hv, a2 I δ μ σ H hJ SM hS _ _ q fun I1 d v μ1 H1 e1 S1 r1 q1 => ?_⟩
    cases r1 <;> first | exact False.elim q1 | exact ⟨_, _, rfl, rfl, u.nx I1 _ _ μ1 H1 e1 S1 ((hS.mono e1).set i (.int _)) q1⟩⟩
/-- range(a, b, -1) -/
def idown (lo : Int) (n : Nat) : List Dv := (List.range n).map fun (i : Nat) => Dv.int (lo - (i : Int))
theorem itc_ok {K : PySem.W.Frag} {I : Hp} {lo : Int} {n : Nat} : ItOk K (Itc lo (-1) n) I (idown lo n) := by
  refine ⟨fun i _ _ _ _ _ hi => ?_, fun _ _ _ _ _ => ?_, fun i μ I' H x H' d e SM hd hy => ?_⟩
  · show i < n
    simpa [idown] using hi
  · show n ≤ (idown lo n).length
    simp [idown]
  · obtain ⟨rfl, rfl⟩ := hy
    have : d = .int (lo - (i : Int)) := by
      simp [idown, List.getElem?_map] at hd
      obtain ⟨j, hj, rfl⟩ := hd
      obtain ⟨h1, h2⟩ := List.getElem?_eq_some_iff.mp hj
      simp at h2
      subst h2
      rfl
    subst this
    rw [show lo + ((i : Nat) : Int) * (-1) = lo - (i : Int) by omega]
    exact ⟨I', Same.refl _, SM, .int _⟩
def wRng3 (t : DA) : DI := fun δ μ Q => t δ μ fun xs μ1 => match xs with | [.int i, .int j, .int c] => (c = -1 ∧ -(2 ^ 62) ≤ i ∧ i < 2 ^ 62 ∧ -(2 ^ 62) ≤ j ∧ j < 2 ^ 62) ∧ Q (idown i (i - j).toNat) μ1 | _ => False
theorem wi_rng3 {tg a b c : Expr} {t : DA} {p : Pos} (hm : S.mg "range" = none) (ha : WA S F [a, b, c] t) (hg : ∀ j, Gl (F j) "range" := by exact fun _ => rfl) (hs : ∀ env, starEach [a, b, c] env = (false, eval a env) :: starEach [b, c] env := by exact fun _ => rfl) (hpl : ∀ env, (backTo pos (starEach [b, c] env)).any (·.1) = false := by exact fun _ => rfl) : WI S F tg (.Call (.Name "range" p) [a, b, c] [] pos) (wRng3 t) :=
  let ⟨ta, a1, a2⟩ := ha
  ⟨_, fun i hi => pi_range3 (hg i) (hi.mg ▸ hm) (a1 i hi) (hs _) (hpl _), fun I δ μ σ H hJ SM hS Q Q' q u => a2 I δ μ σ H hJ SM hS _ _ q fun I1 ds vs μ1 H1 e1 S1 r1 q1 => by
    cases r1 with
    | nil => exact q1.elim
    | cons r1 r2 =>
      cases r2 with
      | nil => cases r1 <;> exact False.elim q1
      | cons r2 r3 =>
        cases r3 with
        | nil => cases r1 <;> first | exact False.elim q1 | (cases r2 <;> exact False.elim q1)
        | cons r3 r4 =>
          cases r4 with
          | cons _ _ => cases r1 <;> first | exact False.elim q1 | (cases r2 <;> first | exact False.elim q1 | (cases r3 <;> exact False.elim q1))
          | nil =>
            cases r1 <;> first | exact False.elim q1 | skip
            cases r2 <;> first | exact False.elim q1 | skip
            cases r3 <;> first | exact False.elim q1 | skip
            obtain ⟨⟨rfl, h1, h2, h3, h4⟩, q2⟩ := q1
            exact ⟨_, _, _, _, rfl, RgC.neg h1 h2 h3 h4, u I1 _ μ1 H1 _ e1 S1 itc_ok q2⟩⟩
/-- d[k] as a target among others -/
def dSubD (to ti : DE) : DG := fun v δ μ Q => to δ μ fun x μ1 => ti δ μ1 fun y μ2 => match x with | .ref a => dstore μ2 a y v fun μ3 => Q δ μ3 | _ => False
def rSetD : TSet := fun o i v H Q => ∃ a H', o = .ref a ∧ DPut H a i v H' ∧ Q H'
theorem set_dict {X : Cx} (hu : X.A.units + 1 < cLine) : PSet X rSetD := by
  intro pins s σ H o i v ov iv u Q I ro ri rv h
  obtain ⟨a, H', rfl, g, q⟩ := h
  cases ro
  exact d_setItem hu I g ri rv fun s' I' => ⟨H', I', q⟩
theorem wg_subD {o i : Expr} {to ti : DE} (ho : WE S F o to) (hi : WE S F i ti) (ha : ∀ env, ∀ v, assign (.Subscript o i pos) env v = (do
      let ov ← holding [v] (eval o env)
      let iv ← holding [v, ov] (eval i env)
      standAt pos
      holding [v, ov, iv] (setItem ov iv v)
      release [v, ov, iv] []) := by exact fun _ _ => rfl) : WG S F (.Subscript o i pos) (dSubD to ti) :=
  let ⟨ta, a1, a2⟩ := ho; let ⟨tb, b1, b2⟩ := hi
  ⟨_, fun k hk => pg_sub (a1 k hk) (b1 k hk) (set_dict (room1 hk)) (ha _), fun I δ μ σ H d v hJ SM hS r Q Q' q u => a2 I δ μ σ H hJ SM hS _ _ q fun I1 x vx μ1 H1 e1 S1 r1 q1 =>
    b2 I1 δ μ1 σ H1 (hJ.trans e1) S1 (hS.mono e1) _ _ q1 fun I2 y vy μ2 H2 e2 S2 r2 q2 => by
      have r1' := r1.mono e2 _ _
      cases r1' <;> first | exact False.elim q2 | skip
      obtain ⟨H', μ', g, S4, q4⟩ := dstore_ok S2 r2 (r.mono (e1.trans e2) _ _) q2
      exact ⟨_, H', rfl, g, u I2 δ σ μ' H' (e1.trans e2) S4 (hS.mono (e1.trans e2)) q4⟩⟩
theorem we_bty (n : String) {u : Value} (hm : S.mg n = none) (hv : bootBuiltins n = some u) (r : RelV (.ty n) u) (hg : ∀ j, Gl (F j) n := by exact fun _ => rfl) (hn : (n : Str) ≠ "__name__" := by decide) (hd : ((n : Str) == ("__debug__" : Str)) = false := by decide) :
    WE S F (.Name n pos) (vC (.ty n)) := we_bltn hm hv r (fun _ => .ty n) hg hn hd
theorem we_gint {x : Str} (i : Int) {t : Tok} (hm : S.mg x = some (.int i t)) (hg : ∀ j, Gl (F j) x := by exact fun _ => rfl) (hd : (x == ("__debug__" : Str)) = false := by decide) : WE S F (.Name x pos) (vC (.int i)) :=
  we_glob (v := .int i) hm ⟨_, rfl⟩ (fun _ => .int i) hg hd
theorem we_gstr {x : Str} (i : Str) {t : Tok} (hm : S.mg x = some (.str i t)) (hg : ∀ j, Gl (F j) x := by exact fun _ => rfl) (hd : (x == ("__debug__" : Str)) = false := by decide) : WE S F (.Name x pos) (vC (.str i)) :=
  we_glob (v := .str i) hm ⟨_, rfl⟩ (fun _ => .str i) hg hd
end
end Wl

set_option Elab.async false
set_option linter.all false
set_option maxRecDepth 100000
set_option maxHeartbeats 2000000
namespace PySem
open Sem (wp)
section
variable {prog : Program} {w : World} {A : Around} {R : GenEnd} {Y : Protocol} {n : Nat} {s₀ : Shared} {fs : List Frame} {s : Shared} {env : Env}
/-- what becomes of an exception in a loop's code -/
abbrev goes (env : Env) (e : Value) : Sem PySem.Fin := (do noteFrame e env; theTreesLotGoes e : Sem Unit).wrap (fun _ => .raise e) .raise id id
theorem seg_forLoop {target : Expr} {it : Value} {body : List Stmt}
    (h : wpAny (model prog w) (A.over (.forLoop target it body [] env) fs) (pyNext it) (fun r s1 => match r with
      | none => Seg (model prog w) A R Y n s₀ (.forLoop target it body [] env) (.pure (.again (.block [] env))) fs s1
      | some v => wpAny (model prog w) (A.over (.forLoop target it body [] env) fs) (letOwnedTupleGo target it v) (fun _ s2 =>
          wpAny (model prog w) (A.over (.forLoop target it body [] env) fs) (assign target env v) (fun _ s3 =>
            Seg (model prog w) A R Y n s₀ (.forLoop target it body [] env) ((execs body env).wrap (fun f => match f with
              | .next | .cont => .pure (.again (.forLoop target it body [] env))
              | .brk => .pure (.done .next)
              | .ret v => .pure (.done (.ret v))) (goes env) id id) fs s3)
            (fun x s' => Seg (model prog w) A R Y n s₀ (.forLoop target it body [] env) (goes env x) fs s') s2)
          (fun x s' => Seg (model prog w) A R Y n s₀ (.forLoop target it body [] env) (goes env x) fs s') s1)
      (fun x s' => Seg (model prog w) A R Y n s₀ (.forLoop target it body [] env) (goes env x) fs s') s) :
    Seg (model prog w) A R Y n s₀ (.forLoop target it body [] env) ((model prog w).den (.forLoop target it body [] env)) fs s := by
  show Seg _ A R Y n s₀ _ ((forTurn target it body [] env).onRaise (fun x => do noteFrame x env; theTreesLotGoes x)) fs s
  unfold forTurn
  rw [Sem.onRaise_eq_wrap]
  have hg : ∀ e, (do noteFrame e env; theTreesLotGoes e : Sem Unit).bind (fun _ => (.raise e : Sem PySem.Fin)) = goes env e := fun e => Sem.bind_eq_wrap _ _
  refine seg_bind_wrap (wpAny_standAt ?_)
  refine seg_bind_wrap (wpAny_onRaise (wpAny_mono h (fun r s1 h1 => ?_) fun x s' hx => wpAny_standAt (by rw [hg]; exact hx)))
  cases r with
  | none => exact h1
  | some v =>
    refine seg_bind_wrap (wpAny_mono h1 (fun _ s2 h2 => ?_) fun x s' hx => by rw [hg]; exact hx)
    refine seg_bind_wrap (wpAny_mono h2 (fun _ s3 h3 => ?_) fun x s' hx => by rw [hg]; exact hx)
    rw [Sem.bind_eq_wrap', Sem.wrap_wrap]
    rw [Sem.wrap_congr (execs body env) _ _ (K' := fun f => match f with
              | .next | .cont => .pure (.again (.forLoop target it body [] env))
              | .brk => .pure (.done .next)
              | .ret v => .pure (.done (.ret v))) (H' := goes env) (fun f => by cases f <;> rfl) (fun e => by exact hg e)]
    exact h3
theorem seg_block0 {k h g l c₁ p₁ kp} (hk : Seg (model prog w) A R Y n s₀ c₁ (k (.ok .next)) fs s) {c : Code} (hc : c.quiet = true) :
    Seg (model prog w) A R Y n s₀ c (.pure (.again (.block [] env))) (.ret k h g l c₁ p₁ kp :: fs) s :=
  seg_again rfl (seg_leaf (.ok .next) hk)
end
end PySem
namespace L2
open PySem PySem.Spec PyProof.Rows GenW
section
variable {X : Cx} {pos : Pos} {tg : Expr}
def tGIf (tc : TT) (ta tb : TGn) : TGn := fun D ys σ H => tc σ H fun b H1 => if b = true then ta D ys σ H1 else tb D ys σ H1
theorem gs_if {test : Expr} {body orelse : List Stmt} {tc : TT} {ta tb : TGn} (hc : PT X test tc) (ha : GSs X body ta) (hb : GSs X orelse tb) : GS X (.If test body orelse pos) (tGIf tc ta tb) := by
  refine ⟨fun A S ip R n ys s₀ c fs K J gd lv s σ H D g hn k hI ht => ?_⟩
  rw [exec_If]
  refine seg_bind_wrap (wpAny_standAt ?_)
  obtain ⟨acc, cc, r, I⟩ := hI
  refine seg_bind_wrap ?_
  rw [g.over]
  refine wpAny_mono (hc.run _ s σ H _ I ht) (fun b s1 ⟨H1, I1, q1⟩ => ?_) fun x s' hx => k.exc n s₀ x s' hx
  cases b with
  | true =>
    rw [if_pos rfl] at q1 ⊢
    exact ha.run A S ip R n ys s₀ c fs K J gd lv s1 σ H1 D g hn k ⟨acc, cc, r, I1⟩ q1
  | false =>
    rw [if_neg Bool.false_ne_true] at q1 ⊢
    exact hb.run A S ip R n ys s₀ c fs K J gd lv s1 σ H1 D g hn k ⟨acc, cc, r, I1⟩ q1

def tGFor (wi : TI) (g : TG) (tb : TGn) : TGn := fun D ys σ H => wi σ H fun J H1 => ∃ W : Nat → Nat → List V → St → Hp → Prop, (∃ m, W 0 m ys σ H1) ∧ ∀ i m ys σ H, W i m ys σ H →
  (J.stop i H ∧ D.nx ys σ H) ∨ (J.go i H ∧ ∃ N : List V → St → Hp → Prop, (∀ ys' σ' H', N ys' σ' H' → ∃ m', m' < m ∧ W (i + 1) m' ys' σ' H') ∧ ∀ x H', J.yld i H x H' → g x σ H' fun σ2 H2 => tb { D with nx := N, ct := N, bk := D.nx } ys σ2 H2)
theorem GI.unpinned {S : Addr} {ip pl : List (Addr × Obj)} {ys : List V} {σ : L2.St} {H : Hp} {s : Shared} (h : GI X S (ip ++ pl) ys σ H s) : GI X S ip ys σ H s :=
  let ⟨acc, c, r, I⟩ := h
  ⟨acc, c, r, Inv.unpinned (pins := (S, lstObj acc c) :: ip) (pl := pl) I⟩
theorem gs_for {iter : Expr} {body : List Stmt} {wi : TI} {g : TG} {tb : TGn} (hp : PassesOwn (model X.prog X.w) X.A X.env X.xe) (hc : X.calm = true) (hi : PI X tg iter wi) (hg : PG X tg g) (hb : GSs X body tb)
    (hs : ∀ x, foldedSetIterable iter X.env x = pure x := by intro _; rfl) : GS X (.For tg iter body [] pos) (tGFor wi g tb) := by
  refine ⟨fun A S ip R n ys s₀ c fs K J gd lv s σ H D gc hn k hI ht => ?_⟩
  rw [exec_For]
  refine seg_bind_wrap (wpAny_standAt ?_)
  obtain ⟨acc0, cc0, r0, I0⟩ := hI
  refine seg_bind_wrap ?_
  rw [gc.over]
  refine wpAny_mono (hi.run _ s σ H _ I0 ht) (fun v s1 h1 => ?_) fun x s' hx => k.exc n s₀ x s' hx
  refine seg_bind_wrap (wpAny_of_eq (hs v) ?_)
  refine seg_bind_wrap (wpAny_standAt ?_)
  refine seg_bind_wrap (wpAny_holding ?_)
  rw [gc.over]
  refine wpAny_mono h1 (fun itv s2 h2 => ?_) fun x s' hx => k.exc n s₀ x s' hx
  obtain ⟨it, fp, tn, J', H2, rfl, I2, T, st2, f2, W, ⟨m0, w0⟩, turn⟩ := h2
  refine seg_call fun p => ?_
  have gl := fun (kk : Result → Sem PySem.Fin) => gc_loop (k := kk) (c' := .forLoop tg (.ref it) body [] X.env) (l := lv []) (kp := []) (p := p) gc rfl rfl
  have fS : ∀ b ∈ fp, b ≠ S := fun b hb z => (f2 b hb).2.2.2.2.2 (S, lstObj acc0 cc0) (List.mem_append_right _ List.mem_cons_self) z.symm
  have stat : ∀ {H' : Hp} {acc : Array Value} {c : Nat}, (∀ b ∈ fp, H' b = none) → ∀ b ∈ fp, FpOk X ((S, lstObj acc c) :: ip) H' b := fun hn b hb =>
    ⟨hn b hb, (f2 b hb).2.1, (f2 b hb).2.2.1, (f2 b hb).2.2.2.1, (f2 b hb).2.2.2.2.1, fun p hp => by
      rcases List.mem_append.mp hp with hp | hp
      · exact (f2 b hb).2.2.2.2.2 p (List.mem_append_left _ hp)
      · rcases List.mem_cons.mp hp with rfl | hp
        · exact fun z => fS b hb z.symm
        · exact (f2 b hb).2.2.2.2.2 p (List.mem_append_right _ (List.mem_cons_of_mem _ hp))⟩
  have loop : ∀ (m i n : Nat) (ys : List V) (s₀ s : Shared) (σ : L2.St) (H : Hp), n + ys.length = sizeLine → W i m ys σ H → GI X S ip ys σ H s → tn i s.heap → (∀ b ∈ fp, H b = none) →
      Seg (model X.prog X.w) A R (GY X S) n s₀ (.forLoop tg (.ref it) body [] X.env) ((model X.prog X.w).den (.forLoop tg (.ref it) body [] X.env))
        (.ret (fun r => ((match r with | .ok f => (.pure f : Sem Flow) | .error e => .raise e).onRaise (cameBack X.env)).wrap K J gd lv) none (gd false) (lv []) c p [] :: fs) s := by
    intro m
    induction m using Nat.strongRecOn with
    | ind m ih =>
      intro i n ys s₀ s σ H hn w hI st fr
      have ee : ∀ (n : Nat) (s₀ : Shared) (x : Value) (s' : Shared), X.xe x s' → Seg (model X.prog X.w) A R (GY X S) n s₀ (.forLoop tg (.ref it) body [] X.env) (goes X.env x)
          (.ret (fun r => ((match r with | .ok f => (.pure f : Sem Flow) | .error e => .raise e).onRaise (cameBack X.env)).wrap K J gd lv) none (gd false) (lv []) c p [] :: fs) s' := fun n s₀ x s' hx => by
        refine seg_wrap ?_
        rw [(gl _).over]
        refine wpAny_bind (wpAny_mono (hp x s' hx) (fun _ s'' hcb => wpAny_theTreesLotGoes ?_) fun y s'' hcb => ?_)
        · exact seg_leaf (.error x) (seg_cameBack gc k hcb)
        · exact seg_leaf (.error y) (seg_cameBack gc k hcb)
      obtain ⟨acc, cc, r, I⟩ := hI
      refine seg_forLoop ?_
      rw [(gl _).over]
      rcases turn i m ys σ H w with ⟨stop, qn⟩ | ⟨go, N, hN, step⟩
      · refine wpAny_mono (T.done X rfl rfl rfl hc i _ s σ H X.xe I (stat fr) st stop) (fun r s4 ⟨hr, I4⟩ => ?_) fun x s' hx => ee n s₀ x s' hx
        subst hr
        exact seg_block0 (k.ok n ys s₀ s4 .next hn ⟨σ, H, ⟨acc, cc, r, I4⟩, qn⟩) rfl
      · refine wpAny_mono (T.item X rfl rfl rfl hc i _ s σ H X.xe I (stat fr) st go) (fun r s4 ⟨u, hr, h4⟩ => ?_) fun x s' hx => ee n s₀ x s' hx
        subst hr
        refine wpAny_mono h4 (fun _ s5 ⟨x, H5, I5, r5, y5, st5, fr5⟩ => ?_) fun x s' hx => ee n s₀ x s' hx
        have I5' := I5.pinned (stat fr5) (T.obj _ _ st5)
        refine wpAny_mono (hg.run _ s5 σ H5 x u _ I5' r5 (step x H5 y5)) (fun _ s6 ⟨σ6, H6, I6, q6⟩ => ?_) fun x s' hx => ee n s₀ x s' hx
        have gp : GC X S (ip ++ pinsAt fp s5.heap) A (.forLoop tg (.ref it) body [] X.env) (.ret (fun r => ((match r with | .ok f => (.pure f : Sem Flow) | .error e => .raise e).onRaise (cameBack X.env)).wrap K J gd lv) none (gd false) (lv []) c p [] :: fs) id :=
          { gl _ with ip := fun p hp => (List.mem_append.mp hp).elim (gc.ip p) fun z => fS p.1 (of_pinsAt z).1 }
        have again : ∀ {n7 : Nat} {ys7 : List V} {s₀ s7 : Shared} {σ7 : L2.St} {H7 : Hp}, n7 + ys7.length = sizeLine → GI X S (ip ++ pinsAt fp s5.heap) ys7 σ7 H7 s7 → N ys7 σ7 H7 → Seg (model X.prog X.w) A R (GY X S) n7 s₀ (.forLoop tg (.ref it) body [] X.env) (.pure (.again (.forLoop tg (.ref it) body [] X.env)))
            (.ret (fun r => ((match r with | .ok f => (.pure f : Sem Flow) | .error e => .raise e).onRaise (cameBack X.env)).wrap K J gd lv) none (gd false) (lv []) c p [] :: fs) s7 := fun {n7 ys7 s₀7 s7 σ7 H7} hn7 G7 n7' => by
          obtain ⟨m', hm, w7⟩ := hN ys7 σ7 H7 n7'
          have pin : ∀ q ∈ pinsAt fp s5.heap, s7.heap.get? q.1 = some q.2 ∧ H7 q.1 = none := fun q hq => by
            obtain ⟨acc7, c7, r7, I7⟩ := G7
            have := I7.pin q (List.mem_append_right _ (List.mem_cons_of_mem _ (List.mem_append_right _ hq)))
            exact ⟨this.1, this.2.1⟩
          refine seg_again rfl (ih m' hm (i + 1) n7 ys7 s₀7 s7 σ7 H7 hn7 w7 G7.unpinned (T.keep _ _ _ st5 fun b hb o e => (pin (b, o) (mem_pinsAt hb e)).1) fun b hb => ?_)
          obtain ⟨o, e, d⟩ := T.obj _ _ st5 b hb
          exact (pin (b, o) (mem_pinsAt hb e)).2
        refine hb.run A S (ip ++ pinsAt fp s5.heap) R n ys s₀ _ _ _ _ id id s6 σ6 H6 { D with nx := N, ct := N, bk := D.nx } gp hn ⟨fun n' ys' s₀' s7 f hn' hs => ?_, fun n' s₀' x s7 hx => ee n' s₀' x s7 hx⟩ ⟨acc, cc, r, I6⟩ q6
        cases f with
        | next => obtain ⟨σ7, H7, G7, n7⟩ := hs; exact again hn' G7 n7
        | cont => obtain ⟨σ7, H7, G7, n7⟩ := hs; exact again hn' G7 n7
        | brk => obtain ⟨σ7, H7, G7, q7⟩ := hs; exact seg_leaf (.ok .next) (k.ok n' ys' s₀' s7 .next hn' ⟨σ7, H7, G7.unpinned, q7⟩)
        | ret v => obtain ⟨x7, σ7, H7, G7, r7, q7⟩ := hs; exact seg_leaf (.ok (.ret v)) (k.ok n' ys' s₀' s7 (.ret v) hn' ⟨x7, σ7, H7, G7.unpinned, r7, q7⟩)
  exact loop m0 0 n ys s₀ s2 σ H2 hn w0 ⟨acc0, cc0, r0, I2⟩ st2 fun b hb => (f2 b hb).1
end
end L2

set_option Elab.async false
set_option linter.all false
set_option maxRecDepth 100000
set_option maxHeartbeats 2000000
namespace Wl
open PySem L2
open PySem.Spec PyProof.Rows
/-! ## generator defs -/
structure DYEnds where
  nx : List Dv → DSt → Mu → Prop
  rt : List Dv → DV
  bk : List Dv → DSt → Mu → Prop := fun _ _ _ => False
  ct : List Dv → DSt → Mu → Prop := fun _ _ _ => False
abbrev DY := DYEnds → List Dv → DSt → Mu → Prop
def UpYS (K : PySem.W.Frag) (I : Hp) (Q : List Dv → DSt → Mu → Prop) (Q' : List V → L2.St → Hp → Prop) : Prop := ∀ I' ds ys δ σ μ H, Same I I' → SatM K I' μ H → RepL K I' ds ys → RepS K I' δ σ → Q ds δ μ → Q' ys σ H
def UpYV (K : PySem.W.Frag) (I : Hp) (Q : List Dv → DV) (Q' : List V → VK) : Prop := ∀ I' ds ys d v μ H, Same I I' → SatM K I' μ H → RepL K I' ds ys → Rep K I' d v → Q ds d μ → Q' ys v H
structure UpYE (K : PySem.W.Frag) (I : Hp) (D : DYEnds) (D' : GEnds) : Prop where
  nx : UpYS K I D.nx D'.nx
  rt : UpYV K I D.rt D'.rt
  bk : UpYS K I D.bk D'.bk
  ct : UpYS K I D.ct D'.ct
section
variable {K : PySem.W.Frag} {I I' : Hp}
theorem UpYS.mono {Q : List Dv → DSt → Mu → Prop} {Q' : List V → L2.St → Hp → Prop} (s : Same I I') (u : UpYS K I Q Q') : UpYS K I' Q Q' := fun I2 a b c d e f g => u I2 a b c d e f (s.trans g)
theorem UpYV.mono {Q : List Dv → DV} {Q' : List V → VK} (s : Same I I') (u : UpYV K I Q Q') : UpYV K I' Q Q' := fun I2 a b c d e f g => u I2 a b c d e f (s.trans g)
theorem UpYE.mono {D : DYEnds} {D' : GEnds} (s : Same I I') (u : UpYE K I D D') : UpYE K I' D D' := ⟨u.nx.mono s, u.rt.mono s, u.bk.mono s, u.ct.mono s⟩
end
def RY (S : Sg) (ts : TGn) (t : DY) : Prop := ∀ I δ μ σ H ds ys, Same S.J I → SatM S.K I μ H → RepS S.K I δ σ → RepL S.K I ds ys → ∀ D D', t D ds δ μ → UpYE S.K I D D' → ts D' ys σ H
section
variable (S : Sg) {ι : Type} (F : ι → Cx)
def WY (st : Stmt) (t : DY) : Prop := ∃ te, (∀ i, Is S (F i) → GS (F i) st te) ∧ RY S te t
def WYs (st : List Stmt) (t : DY) : Prop := ∃ te, (∀ i, Is S (F i) → GSs (F i) st te) ∧ RY S te t
end
def yPlain (t : DS) : DY := fun D ds δ μ => t { nx := D.nx ds, rt := D.rt ds, bk := D.bk ds, ct := D.ct ds } δ μ
def yNil : DY := fun D ds δ μ => D.nx ds δ μ
def yThen (t u : DY) : DY := fun D ds δ μ => t { D with nx := fun ds' δ' μ' => u D ds' δ' μ' } ds δ μ
def yIf (c : DT) (t u : DY) : DY := fun D ds δ μ => c δ μ fun b μ1 => if b = true then t D ds δ μ1 else u D ds δ μ1
def yYield (t : DE) : DY := fun D ds δ μ => ds.length < sizeLine ∧ t δ μ fun x μ1 => D.nx (ds ++ [x]) δ μ1
def yLoop (g : DG) (tb : DY) : List Dv → DYEnds → List Dv → DSt → Mu → Prop
  | [], D, ys, δ, μ => D.nx ys δ μ
  | d :: ds, D, ys, δ, μ => g d δ μ fun δ1 μ1 => tb { nx := yLoop g tb ds D, ct := yLoop g tb ds D, bk := D.nx, rt := D.rt } ys δ1 μ1
def yFor (wi : DI) (g : DG) (tb : DY) : DY := fun D ys δ μ => wi δ μ fun ds μ1 => yLoop g tb ds D ys δ μ1
section
variable {S : Sg} {ι : Type} {F : ι → Cx} {pos : Pos} {st : Stmt} {rest : List Stmt}
theorem UpYE.at {K : PySem.W.Frag} {I : Hp} {D : DYEnds} {D' : GEnds} {ds : List Dv} {ys : List V} (u : UpYE K I D D') (r : RepL K I ds ys) : UpE K I { nx := D.nx ds, rt := D.rt ds, bk := D.bk ds, ct := D.ct ds } (D'.at ys) where
  nx := fun I' δ σ μ H e S R q => u.nx I' ds ys δ σ μ H e S (r.mono e) R q
  rt := fun I' d v μ H e S R q => u.rt I' ds ys d v μ H e S (r.mono e) R q
  bk := fun I' δ σ μ H e S R q => u.bk I' ds ys δ σ μ H e S (r.mono e) R q
  ct := fun I' δ σ μ H e S R q => u.ct I' ds ys δ σ μ H e S (r.mono e) R q
theorem wy_plain {t : DS} (h : WS S F st t) : WY S F st (yPlain t) :=
  let ⟨a, h1, h2⟩ := h
  ⟨_, fun i hi => gs_ps (h1 i hi), fun I δ μ σ H ds ys hJ SM hS r D D' q u => h2 I δ μ σ H hJ SM hS _ _ q (u.at r)⟩
theorem wys_nil : WYs S F [] yNil := ⟨_, fun _ _ => gss_nil, fun I δ μ σ H ds ys hJ SM hS r D D' q u => u.nx I ds ys δ σ μ H (Same.refl I) SM r hS q⟩
theorem wys_cons {t u : DY} (h1 : WY S F st t) (h2 : WYs S F rest u) : WYs S F (st :: rest) (yThen t u) :=
  let ⟨a, a1, a2⟩ := h1; let ⟨b, b1, b2⟩ := h2
  ⟨_, fun i hi => gss_cons (a1 i hi) (b1 i hi), fun I δ μ σ H ds ys hJ SM hS r D D' q u => a2 I δ μ σ H ds ys hJ SM hS r _ _ q
    ⟨fun I1 ds1 ys1 δ1 σ1 μ1 H1 e1 S1 r1 R1 q1 => b2 I1 δ1 μ1 σ1 H1 ds1 ys1 (hJ.trans e1) S1 R1 r1 _ _ q1 (u.mono e1), u.rt, u.bk, u.ct⟩⟩
theorem wy_if {c : Expr} {a b : List Stmt} {sc : DT} {t u : DY} (hc : WT S F c sc) (ha : WYs S F a t) (hb : WYs S F b u) : WY S F (.If c a b pos) (yIf sc t u) :=
  let ⟨tc, c1, c2⟩ := hc; let ⟨ta, a1, a2⟩ := ha; let ⟨tb, b1, b2⟩ := hb
  ⟨_, fun i h => gs_if (c1 i h) (a1 i h) (b1 i h), fun I δ μ σ H ds ys hJ SM hS r D D' q u => c2 I δ μ σ H hJ SM hS _ _ q fun I1 b μ1 H1 e1 S1 q1 => by
    cases b with
    | true => rw [if_pos rfl] at q1 ⊢; exact a2 I1 δ μ1 σ H1 ds ys (hJ.trans e1) S1 (hS.mono e1) (r.mono e1) _ _ q1 (u.mono e1)
    | false => rw [if_neg Bool.false_ne_true] at q1 ⊢; exact b2 I1 δ μ1 σ H1 ds ys (hJ.trans e1) S1 (hS.mono e1) (r.mono e1) _ _ q1 (u.mono e1)⟩
theorem wy_yield {e : Expr} {t : DE} {yp : Pos} (he : WE S F e t) (hco : ∀ i, (F i).env.scope.isCoroutine = false := by exact fun _ => rfl) (hi : ∀ i, interactive (F i).env = false := by exact fun _ => rfl) : WY S F (.Expr (.Yield (some e) yp) pos) (yYield t) :=
  let ⟨te, e1, e2⟩ := he
  ⟨_, fun i h => gs_yield (e1 i h) (hco i) (hi i), fun I δ μ σ H ds ys hJ SM hS r D D' q u => ⟨r.length ▸ q.1, e2 I δ μ σ H hJ SM hS _ _ q.2 fun I1 d v μ1 H1 e1 S1 r1 q1 =>
    u.nx I1 _ _ δ σ μ1 H1 e1 S1 ((r.mono e1).append (.cons r1 .nil)) (hS.mono e1) q1⟩⟩
theorem wy_for {tg iter : Expr} {body : List Stmt} {wi : DI} {g : DG} {tb : DY} (hi : WI S F tg iter wi) (hg : WG S F tg g) (hb : WYs S F body tb) (hs : ∀ env, ∀ x, foldedSetIterable iter env x = pure x := by exact fun _ _ => rfl) (hcold : S.cold = false := by rfl) :
    WY S F (.For tg iter body [] pos) (yFor wi g tb) :=
  let ⟨ti, i1, i2⟩ := hi; let ⟨tg', g1, g2⟩ := hg; let ⟨tb', b1, b2⟩ := hb
  ⟨_, fun i h => gs_for h.own (h.calm hcold) (i1 i h) (g1 i h) (b1 i h) (hs _), fun I δ μ σ H zs ys hJ SM hS rz D D' q u => i2 I δ μ σ H hJ SM hS _ _ q fun I1 ds μ1 H1 J e1 S1 ok q1 => by
    refine ⟨fun i m ys' σ' H' => m = ds.length - i ∧ i ≤ ds.length ∧ ∃ I' zs' δ' μ', Same I1 I' ∧ SatM S.K I' μ' H' ∧ RepL S.K I' zs' ys' ∧ RepS S.K I' δ' σ' ∧ yLoop g tb (ds.drop i) D zs' δ' μ', ⟨ds.length, by simp, Nat.zero_le _, I1, zs, δ, μ1, Same.refl _, S1, rz.mono e1, hS.mono e1, by simpa using q1⟩, ?_⟩
    rintro i m ys' σ' H' ⟨rfl, hle, I', zs', δ', μ', e', S', rz', R', q'⟩
    by_cases hlt : i < ds.length
    · refine .inr ⟨ok.go i μ' I' H' e' S' hlt, fun ys2 σ2 H2 => ∃ I2 zs2 δ2 μ2, Same I1 I2 ∧ SatM S.K I2 μ2 H2 ∧ RepL S.K I2 zs2 ys2 ∧ RepS S.K I2 δ2 σ2 ∧ yLoop g tb (ds.drop (i + 1)) D zs2 δ2 μ2, fun ys2 σ2 H2 w => ⟨ds.length - (i + 1), by omega, rfl, hlt, w⟩, fun x H2 hy => ?_⟩
      have hd : ds[i]? = some ds[i] := by simp [hlt]
      obtain ⟨I2, e2, S2, r2⟩ := ok.yld i μ' I' H' x H2 _ e' S' hd hy
      rw [List.drop_eq_getElem_cons hlt] at q'
      have hJ2 := (hJ.trans e1).trans (e'.trans e2)
      refine g2 I2 δ' μ' σ' H2 _ _ hJ2 S2 (R'.mono e2) r2 _ _ q' fun I3 δ3 σ3 μ3 H3 e3 S3 R3 q3 => ?_
      have e13 := (e'.trans e2).trans e3
      refine b2 I3 δ3 μ3 σ3 H3 zs' ys' (hJ2.trans e3) S3 R3 (rz'.mono (e2.trans e3)) _ _ q3 ⟨?_, ?_, ?_, ?_⟩
      · exact fun I4 zs4 ys4 δ4 σ4 μ4 H4 e4 S4 r4 R4 q4 => ⟨I4, zs4, δ4, μ4, e13.trans e4, S4, r4, R4, q4⟩
      · exact u.rt.mono (e1.trans e13)
      · exact u.nx.mono (e1.trans e13)
      · exact fun I4 zs4 ys4 δ4 σ4 μ4 H4 e4 S4 r4 R4 q4 => ⟨I4, zs4, δ4, μ4, e13.trans e4, S4, r4, R4, q4⟩
    · have e : i = ds.length := by omega
      subst e
      rw [List.drop_length] at q'
      exact .inl ⟨ok.stop μ' I' H' e' S', u.nx I' zs' ys' δ' σ' μ' H' (e1.trans e') S' rz' R' q'⟩⟩
end
end Wl

set_option Elab.async false
set_option linter.all false
set_option maxRecDepth 100000
set_option maxHeartbeats 2000000
namespace Wl
open PySem L2
open PySem.Spec PyProof.Rows
abbrev SpY := List Dv → Mu → (List Dv → Mu → Prop) → DX → Prop
def toSpG (K : PySem.W.Frag) (sp : SpY) : SpG := fun vs H Q E => ∃ I ds μ Q2 E2, SatM K I μ H ∧ RepL K I ds vs ∧ sp ds μ Q2 E2 ∧ UpA K I Q2 Q ∧ UpX K I E2 E
abbrev OkG (P : Program) (w : World) (K : PySem.W.Frag) (mg : Str → Option Value) (base : Heap) (k : Nat) (f : Addr) (fd : FuncData) (ps : List Str) (sp : SpY) : Prop := GFn P w K mg base k f fd ps (toSpG K sp)
structure GenD (P : Program) (w : World) (K : PySem.W.Frag) (mg : Str → Option Value) (base : Heap) (j : Nat) (x : Str) (sp : SpY) (dds : List Dv) : Prop where
  ex : ∃ (f : Addr) (fd : FuncData) (ps : List Str) (dvs : List V) (dus : List Value), OkG P w K mg base j f fd ps sp ∧ mg x = some (.ref f) ∧ PySem.W.keepIn K (.ref f) = true ∧ Binds K fd ps dus ∧ Vals dvs dus ∧ ∀ I, RepL K I dds dvs
/-- a generator def's body and its promise -/
theorem okg_def {P : Program} {w : World} {K : PySem.W.Frag} {mg : Str → Option Value} {base : Heap} {x qual : Str} {st : Stmt} {f : Addr} {fd : FuncData} {N ps : List Str} {k : Nat} {sp : SpY} (Fn : Fun K x qual st f fd) (Sc : GScope N ps (defScope st))
    (t : DXS → DY) (hsp : ∀ ds μ Q E, sp ds μ Q E → ds.length = ps.length ∧ t (fun C d _ μ => E C d μ) { nx := fun out _ μ' => Q out μ', rt := fun out v μ' => v = .non ∧ Q out μ' } [] (dstart N ds) μ)
    (body : ∀ (cdv : Value) (A : Around) (outer : List Env) (s : Shared) (H : Hp) (E : XK) (pn : List (Addr × Obj)) (J : Hp) (W : WX) (E2 : DXS) tr, WYs ⟨P, w, K, mg, base, k, N, J, W, E2, tr, false⟩ (fun _ : Unit => gcxOf P w K mg base N qual (defScope st) f cdv A outer s H E pn) (defBody st) (t E2)) :
    OkG P w K mg base (k + 1) f fd ps sp := by
  obtain ⟨oc, od, kV, doc, pm, an, cdv, ct, osl, rfl, lk, hcd⟩ := Fn.ex
  refine gfn_of lk hcd Sc (fun vs H Q E h => ?_) fun A outer s H vs Q E pn hr h => ?_
  · obtain ⟨I, ds, μ, Q2, E2, _, r, h, _⟩ := h
    rw [← r.length]
    exact (hsp ds μ Q2 E2 h).1
  · obtain ⟨I, ds, μ, Q2, E2, SM, r, h, u, ux⟩ := h
    obtain ⟨ts, h1, h2⟩ := body cdv A outer s H E pn I (fun cls d _ H => E cls d H) (fun C d _ μ => E2 C d μ) (fun I' C d δ μ' σ H' e' S' R' q' => ux I' C d μ' H' e' S' q')
    refine ⟨ts, h1 () ⟨rfl, rfl, rfl, rfl, rfl, rfl, fun _ => rfl, fun _ => hr, takes_gcx, owns_gcx, hr.units⟩, ?_⟩
    refine h2 I _ μ _ H [] [] (Same.refl I) SM (r.start N) .nil _ _ (hsp ds μ Q2 E2 h).2 ⟨?_, ?_, ?_, ?_⟩
    · exact fun I' ds' ys' δ σ μ' H' e S' r' R' q => u I' ds' ys' μ' H' e S' r' q
    · intro I' ds' ys' d v μ' H' e S' r' rv q
      obtain ⟨rfl, q⟩ := q
      cases rv
      exact ⟨rfl, u I' ds' ys' μ' H' e S' r' q⟩
    · exact fun _ _ _ _ _ _ _ _ _ _ _ q => q.elim
    · exact fun _ _ _ _ _ _ _ _ _ _ _ q => q.elim
section
variable {S : Sg} {ι : Type} {F : ι → Cx} {pos : Pos}
def vListG (sp : SpY) (dds : List Dv) (t : DA) : DE := fun δ μ Q => t δ μ fun xs μ1 => sp (xs ++ dds) μ1 (fun out μ2 => Q (.lst out) μ2) fun _ _ _ => False
theorem we_listg {x : Str} {sp : SpY} {dds : List Dv} {j : Nat} {e : Expr} {es : List Expr} {t : DA} {p p2 pos' : Pos} (Fn : GenD S.P S.w S.K S.mg S.base j x sp dds) (hj : j + 3 ≤ S.k) (hl : S.mg "list" = none) (ha : WA S F (e :: es) t)
    (hg : ∀ j, Gl (F j) x := by exact fun _ => rfl) (hgl : ∀ j, Gl (F j) "list" := by exact fun _ => rfl)
    (hdb : (x == ("__debug__" : Str)) = false := by decide) (he : ∀ env, starEach (e :: es) env = (false, eval e env) :: starEach es env := by exact fun _ => rfl) (hpl : ∀ env, (backTo pos' (starEach es env)).any (·.1) = false := by exact fun _ => rfl) (hcold : S.cold = false := by rfl) :
    WE S F (.Call (.Name "list" p) [.Call (.Name x p2) (e :: es) [] pos'] [] pos) (vListG sp dds t) := by
  obtain ⟨f, fd, ps, dvs, dus, Fn, hm, hk, hb, hd, hdd⟩ := Fn.ex
  obtain ⟨ta, a1, a2⟩ := ha
  refine ⟨tListG (tCallG (toSpG S.K sp) dvs (fun _ _ _ => False) ta), fun i hi => ?_, fun I δ μ σ H hJ SM hS Q Q' q u => ?_⟩
  · obtain ⟨P, w, K, mg, base, k, N, J, W, E2, tr, cold⟩ := S
    obtain ⟨h1, h2, h3, h4, h5, h6, h7, h8, h9, h10, h11⟩ := id hi
    have r8 := h8 hcold
    dsimp only at h1 h2 h3 h4 h5 h6 r8 h9 Fn hm hk hb hj hdd a2 hl ⊢
    subst h1 h2 h3 h4 h5
    refine pe_listG (k := j) (E := fun _ _ _ => False) (pgen_call Fn (r8.mono (by omega)) (hg i) hm hk hb hd (a1 i hi) hdb (he _) (hpl _)) (fun pins σ H s e s' I c => ?_) (fun _ _ _ h => h.elim) (r8.mono hj) (hgl i) hl (by decide +kernel)
    obtain ⟨a, B, H', cls, d, z1, fl, z2, ub, z3, z4, z5, z6⟩ := c
    exact (by first | exact z6.elim | exact z5.elim | exact z4.elim | exact z3.elim | exact z2.elim)
  · refine a2 I δ μ σ H hJ SM hS _ _ q fun I1 ds vs μ1 H1 e1 S1 r1 q1 => ?_
    refine ⟨I1, ds ++ dds, μ1, _, _, S1, r1.append (hdd I1), q1, fun I2 out ys μ2 H2 e2 S2 r2 q2 p hp => ?_, fun _ _ _ _ _ _ _ q => q.elim⟩
    obtain ⟨s1, s2⟩ := S2.newI hp (.lst ys)
    exact u _ _ _ μ2 _ ((e1.trans e2).trans s1) s2 (.lst upd_same (RepL.mono s1 _ _ r2)) q2
end
/-- the promise that a generator's body gives as it stands -/
def spYOf (n : Nat) (N : List Str) (t : DXS → DY) : SpY := fun ds μ Q E => ds.length = n ∧ t (fun C d _ μ => E C d μ) { nx := fun out _ μ' => Q out μ', rt := fun out v μ' => v = .non ∧ Q out μ' } [] (dstart N ds) μ
end Wl

set_option Elab.async false
set_option linter.all false
set_option maxRecDepth 100000
set_option maxHeartbeats 2000000
namespace Wl
open PySem L2
open PySem.Spec PyProof.Rows
theorem RepL.eraseIdx {K : PySem.W.Frag} {I : Hp} : ∀ {ds : List Dv} {vs : List V} (k : Nat), RepL K I ds vs → RepL K I (ds.eraseIdx k) (vs.eraseIdx k)
  | [], _, k, r => by cases r; exact .nil
  | d :: ds, _, 0, r => by cases r with | cons a b => exact b
  | d :: ds, _, k + 1, r => by cases r with | cons a b => exact .cons a (RepL.eraseIdx k b)
section
variable {S : Sg} {ι : Type} {F : ι → Cx} {pos : Pos}
def gPopAt : DM
  | .ref a, [.int i], μ, Q => ∃ xs k y, μ a = some (.lst xs) ∧ (-(2 ^ 63) ≤ i ∧ i < 2 ^ 63) ∧ seqIndex? i xs.length = some k ∧ xs[k]? = some y ∧ Q y (mset μ a (.lst (xs.eraseIdx k)))
  | _, _, _, _ => False
theorem wm_popAt : WM S "list.pop" gPopAt := by
  refine ⟨rPopAt, fun X hX => mt_popAt, ?_⟩
  intro I μ H _ SM dx x ds vs rx r Q Q' q u
  cases rx <;> first | exact False.elim q | skip
  rcases r with _ | ⟨r1, _ | ⟨r2, r3⟩⟩
  · exact q.elim
  · cases r1 <;> first | exact False.elim q | skip
    obtain ⟨xs, k, y, em, hi, hk, hy, q4⟩ := q
    obtain ⟨ws, r, hv⟩ := SM.memo em
    obtain ⟨v, h1, h2⟩ := r.get hy
    refine ⟨_, ws, _, k, v, rfl, rfl, hv, hi.1, hi.2, by rw [← r.length]; exact hk, h1, ?_⟩
    exact u I _ _ _ _ (Same.refl I) (SM.setM (m := .lst (xs.eraseIdx k)) (SM.mu _ _ em).1 ⟨_, r.eraseIdx k, upd_same⟩) h2 q4
  · cases r1 <;> exact q.elim
theorem we_popAt {o e : Expr} {so : DE} {t : DA} {apos cpos : Pos} (ho : WE S F o so) (ha : WA S F [e] t)
    (hbase : ∀ env, attributeBase o "pop" env (eval o env) = eval o env := by exact fun _ => rfl)
    (hfew : ∀ env, ((backTo cpos (starEach [e] env)).all (fun x => !x.1) && (backToKw cpos (keywordEach [] env)).all (fun x => x.1.isSome)
      && decide ([e].length + ([] : List Keyword).length + (if ([] : List Keyword).isEmpty then 0 else 1) < 30)) = true := by exact fun _ => rfl)
    (hline : (apos.endLine == cpos.line) = true := by rfl) (hs : ∀ env, starEach [e] env = (false, eval e env) :: starEach [] env := by exact fun _ => rfl) :
    WE S F (.Call (.Attribute o "pop" apos) [e] [] cpos) (vBM "list" gPopAt so t) :=
  we_bm PySem.F.plainAttrs_list PySem.F.slot_list_pop PySem.F.type_list_pop wm_popAt ho ha hbase hfew hline hs (fun _ => rfl)
/-- xs.extend(ys) of two lists -/
def gExtend : DM
  | .ref a, [.lst zs], μ, Q => ∃ xs, μ a = some (.lst xs) ∧ xs.length + zs.length ≤ sizeLine ∧ Q .non (mset μ a (.lst (xs ++ zs)))
  | .ref a, [.ref b], μ, Q => ∃ xs zs, μ a = some (.lst xs) ∧ μ b = some (.lst zs) ∧ xs.length + zs.length ≤ sizeLine ∧ Q .non (mset μ a (.lst (xs ++ zs)))
  | _, _, _, _ => False
theorem wm_extend : WM S "list.extend" gExtend := by
  refine ⟨rExtend, fun X hX => mt_extend, ?_⟩
  intro I μ H _ SM dx x ds vs rx r Q Q' q u
  cases rx <;> first | exact False.elim q | skip
  rcases r with _ | ⟨r1, _ | ⟨r2, r3⟩⟩
  · exact q.elim
  · cases r1 <;> first | exact False.elim q | skip
    · obtain ⟨xs, zs, em, ez, hl, q4⟩ := q
      obtain ⟨ws, r, hv⟩ := SM.memo em
      obtain ⟨ws2, r', hv2⟩ := SM.memo ez
      refine ⟨_, _, ws, ws2, rfl, rfl, hv, hv2, by rw [← r.length, ← r'.length]; exact hl, ?_⟩
      exact u I _ _ _ _ (Same.refl I) (SM.setM (m := .lst (xs ++ zs)) (SM.mu _ _ em).1 ⟨_, r.append r', upd_same⟩) .non q4
    · rename_i h1 h2
      obtain ⟨xs, em, hl, q4⟩ := q
      obtain ⟨ws, r, hv⟩ := SM.memo em
      refine ⟨_, _, ws, _, rfl, rfl, hv, SM.ex _ _ h1, by rw [← r.length, ← h2.length]; exact hl, ?_⟩
      exact u I _ _ _ _ (Same.refl I) (SM.setM (m := .lst (xs ++ _)) (SM.mu _ _ em).1 ⟨_, r.append h2, upd_same⟩) .non q4
  · cases r1 <;> exact q.elim
theorem we_extend {o e : Expr} {so : DE} {t : DA} {apos cpos : Pos} (ho : WE S F o so) (ha : WA S F [e] t)
    (hbase : ∀ env, attributeBase o "extend" env (eval o env) = eval o env := by exact fun _ => rfl)
    (hfew : ∀ env, ((backTo cpos (starEach [e] env)).all (fun x => !x.1) && (backToKw cpos (keywordEach [] env)).all (fun x => x.1.isSome)
      && decide ([e].length + ([] : List Keyword).length + (if ([] : List Keyword).isEmpty then 0 else 1) < 30)) = true := by exact fun _ => rfl)
    (hline : (apos.endLine == cpos.line) = true := by rfl) (hs : ∀ env, starEach [e] env = (false, eval e env) :: starEach [] env := by exact fun _ => rfl) :
    WE S F (.Call (.Attribute o "extend" apos) [e] [] cpos) (vBM "list" gExtend so t) :=
  we_bm PySem.F.plainAttrs_list PySem.F.slot_list_extend PySem.F.type_list_extend wm_extend ho ha hbase hfew hline hs (fun _ => rfl)
end
/-- a list that changes, as it stands -/
def dref (μ : Mu) : Dv → Dv
  | .ref a => match μ a with | some (.lst xs) => .lst xs | _ => .ref a
  | x => x
theorem Rep.dref_dp {K : PySem.W.Frag} {I H : Hp} {μ : Mu} (SM : SatM K I μ H) {d : Dv} {v : V} (r : Rep K I d v) (h : (dref μ d).isD = true) : Dp K H v (dref μ d).pd := by
  cases r with
  | ref a =>
    cases em : μ a with
    | none => simp only [dref, em] at h; cases h
    | some m =>
      cases m with
      | lst ys =>
        simp only [dref, em] at h ⊢
        obtain ⟨vs, rl, hv⟩ := SM.memo em
        exact .lst (.inl (.inl hv)) (rl.dp SM.ex _ _ h)
      | _ => simp only [dref, em] at h; cases h
  | non => exact Rep.dp SM.ex _ _ h .non
  | bl b => exact Rep.dp SM.ex _ _ h (.bl b)
  | int i => exact Rep.dp SM.ex _ _ h (.int i)
  | str x => exact Rep.dp SM.ex _ _ h (.str x)
  | byt x => exact Rep.dp SM.ex _ _ h (.byt x)
  | ty n => exact Rep.dp SM.ex _ _ h (.ty n)
  | tup a b => exact Rep.dp SM.ex _ _ h (.tup a b)
  | rot a b => exact Rep.dp SM.ex _ _ h (.rot a b)
  | lst a b => exact Rep.dp SM.ex _ _ h (.lst a b)
  | rol a b => exact Rep.dp SM.ex _ _ h (.rol a b)
section
variable {S : Sg}
def gEqM : D2 := fun x y μ Q => gEq (dref μ x) (dref μ y) μ Q
def gNeM : D2 := fun x y μ Q => gNe (dref μ x) (dref μ y) μ Q
theorem wo_eqM : WO S (compareOp .Eq) gEqM := ⟨rEqP S.K, fun X hX => hX.K ▸ op_eqP hX.units, fun I μ H _ SM dx dy x y rx ry Q Q' q u =>
  ⟨(dref μ dx).pd, (dref μ dy).pd, rx.dref_dp SM q.1.1, ry.dref_dp SM q.1.2.1, (dref μ dx).plain, (dref μ dy).plain, q.1.2.2, u I _ _ μ H (Same.refl I) SM (.bl _) q.2⟩⟩
theorem wo_neM : WO S (compareOp .NotEq) gNeM := ⟨rNeP S.K, fun X hX => hX.K ▸ op_neP hX.units, fun I μ H _ SM dx dy x y rx ry Q Q' q u =>
  ⟨(dref μ dx).pd, (dref μ dy).pd, rx.dref_dp SM q.1.1, ry.dref_dp SM q.1.2.1, (dref μ dx).plain, (dref μ dy).plain, q.1.2.2, u I _ _ μ H (Same.refl I) SM (.bl _) q.2⟩⟩
end
end Wl

set_option Elab.async false
set_option linter.all false
set_option maxRecDepth 100000
set_option maxHeartbeats 2000000
namespace Wl
open PySem L2
open PySem.Spec PyProof.Rows
/-! ## defs that call themselves: a promise by the number of turns -/
abbrev spNo : Sp2 := fun _ _ _ _ => False
theorem ok_no {P : Program} {w : World} {K : PySem.W.Frag} {mg : Str → Option Value} {base : Heap} {k : Nat} {f : Addr} {fd : FuncData} {ps : List Str} : Ok P w K mg base k f fd ps spNo :=
  ⟨fun _ _ _ _ ⟨_, _, _, _, _, _, _, h, _⟩ => h.elim, fun _ _ _ _ _ _ _ _ _ _ _ _ _ ⟨_, _, _, _, _, _, _, h, _⟩ => h.elim⟩
/-- where a def stands, and how it is called -/
structure DefD (K : PySem.W.Frag) (mg : Str → Option Value) (x qual : Str) (st : Stmt) (f : Addr) (fd : FuncData) (ps : List Str) (dds : List Dv) : Prop where
  fn : Fun K x qual st f fd
  at_ : mg x = some (.ref f)
  b : ∃ (dvs : List V) (dus : List Value), Binds K fd ps dus ∧ Vals dvs dus ∧ ∀ I, RepL K I dds dvs
theorem DefD.cal {P : Program} {w : World} {K : PySem.W.Frag} {mg : Str → Option Value} {base : Heap} {k : Nat} {x qual : Str} {st : Stmt} {f : Addr} {fd : FuncData} {ps : List Str} {dds : List Dv} {sp : Sp2} (D : DefD K mg x qual st f fd ps dds) (O : Ok P w K mg base k f fd ps sp) : CalD P w K mg base k x sp dds :=
  let ⟨dvs, dus, h1, h2, h3⟩ := D.b
  ⟨f, fd, ps, dvs, dus, O, D.at_, D.fn.kp, h1, h2, h3⟩
theorem DefD.gen {P : Program} {w : World} {K : PySem.W.Frag} {mg : Str → Option Value} {base : Heap} {k : Nat} {x qual : Str} {st : Stmt} {f : Addr} {fd : FuncData} {ps : List Str} {dds : List Dv} {sp : SpY} (D : DefD K mg x qual st f fd ps dds) (O : OkG P w K mg base k f fd ps sp) : GenD P w K mg base k x sp dds :=
  let ⟨dvs, dus, h1, h2, h3⟩ := D.b
  ⟨f, fd, ps, dvs, dus, O, D.at_, D.fn.kp, h1, h2, h3⟩
section
variable {S : Sg} {ι : Type} {F : ι → Cx} {pos : Pos}
theorem ws_setComp (i : Nat) {y : Str} {py : Pos} {spos : Pos} {elt tg iter : Expr} {ifs : List Expr} {scope : Scope} {own : List (Str × Nat)} {wi : DI} {g : DG} {tt : DT} {te : DE} (hN : S.N.Nodup) (hi : WI S F tg iter wi) (ok : ∀ i, BlkOk S.N (F i).env.scope scope own)
    (hg : WGv S.blk (blkF F scope) (own.map (·.2)) tg g) (ht : WTs S.blk (blkF F scope) ifs tt) (he : WE S.blk (blkF F scope) elt te) (hy : S.N[i]? = some y := by rfl) (hyl : ∀ j, (F j).env.scope.names.lookup y = some .local := by exact fun _ => rfl) (hk : ∀ j, (F j).env.scope.kind = .function := by exact fun _ => rfl)
    (hl : (py.line == pos.line) = true := by rfl) (ha : (scope.names.any fun (n, k) => n == y && (k == .local || k == .cell)) = false := by decide +kernel) (hs : ∀ env, ∀ x, foldedSetIterable iter env x = pure x := by exact fun _ _ => rfl) (hcold : S.cold = false := by rfl) :
    WS S F (.Assign [.Name y py] (.ListComp elt [⟨tg, iter, ifs, 0⟩] scope pos) spos) (sAsg (vComp (own.map (·.2)) wi g tt te) (dName i)) :=
  let ⟨ti, i1, i2⟩ := hi; let ⟨tg', g1, g2⟩ := hg; let ⟨t1, b1, b2⟩ := ht; let ⟨t2, c1, c2⟩ := he
  ⟨_, fun j h => ps_setLc (h.calm hcold) (h.N ▸ hN) (h.N ▸ hy) (hyl j) (sw_true (hk j) (hyl j) hl ha) (i1 j h) (h.N ▸ ok j) (fun s H C cl fp => g1 (j, s, H, C, cl, fp) (h.blk s H scope _ fp)) (fun s H C cl fp => b1 (j, s, H, C, cl, fp) (h.blk s H scope _ fp)) (fun s H C cl fp => c1 (j, s, H, C, cl, fp) (h.blk s H scope _ fp)) (hs _),
    fun I δ μ σ H hJ SM hS D D' q u => re_comp i2 g2 b2 c2 I δ μ σ H hJ SM hS _ _ q fun I1 d v μ1 H1 e1 S1 r1 q1 => u.nx I1 _ _ μ1 H1 e1 S1 ((hS.mono e1).set i r1) q1⟩
theorem ws_setCompM (i : Nat) {y : Str} {py : Pos} {spos : Pos} {elt tg iter : Expr} {ifs : List Expr} {scope : Scope} {own : List (Str × Nat)} {wi : DI} {g : DG} {tt : DT} {te : DE} (hN : S.N.Nodup) (hi : WI S F tg iter wi) (ok : ∀ i, BlkOk S.N (F i).env.scope scope own)
    (hg : WGv S.blk (blkF F scope) (own.map (·.2)) tg g) (ht : WTs S.blk (blkF F scope) ifs tt) (he : WE S.blk (blkF F scope) elt te) (hy : S.N[i]? = some y := by rfl) (hyl : ∀ j, (F j).env.scope.names.lookup y = some .local := by exact fun _ => rfl) (hk : ∀ j, (F j).env.scope.kind = .function := by exact fun _ => rfl)
    (hl : (py.line == pos.line) = true := by rfl) (ha : (scope.names.any fun (n, k) => n == y && (k == .local || k == .cell)) = false := by decide +kernel) (hs : ∀ env, ∀ x, foldedSetIterable iter env x = pure x := by exact fun _ _ => rfl) (hcold : S.cold = false := by rfl) :
    WS S F (.Assign [.Name y py] (.ListComp elt [⟨tg, iter, ifs, 0⟩] scope pos) spos) (sAsg (vCompM (own.map (·.2)) wi g tt te) (dName i)) :=
  let ⟨ti, i1, i2⟩ := hi; let ⟨tg', g1, g2⟩ := hg; let ⟨t1, b1, b2⟩ := ht; let ⟨t2, c1, c2⟩ := he
  ⟨_, fun j h => ps_setLc (h.calm hcold) (h.N ▸ hN) (h.N ▸ hy) (hyl j) (sw_true (hk j) (hyl j) hl ha) (i1 j h) (h.N ▸ ok j) (fun s H C cl fp => g1 (j, s, H, C, cl, fp) (h.blk s H scope _ fp)) (fun s H C cl fp => b1 (j, s, H, C, cl, fp) (h.blk s H scope _ fp)) (fun s H C cl fp => c1 (j, s, H, C, cl, fp) (h.blk s H scope _ fp)) (hs _),
    fun I δ μ σ H hJ SM hS D D' q u => re_compM i2 g2 b2 c2 I δ μ σ H hJ SM hS _ _ q fun I1 d v μ1 H1 e1 S1 r1 q1 => u.nx I1 _ _ μ1 H1 e1 S1 ((hS.mono e1).set i r1) q1⟩
end
end Wl

set_option Elab.async false
set_option linter.all false
set_option maxRecDepth 100000
set_option maxHeartbeats 2000000
namespace Wl
open PySem L2
open PySem.Spec PyProof.Rows
/-! ## what the top has left: facts by places -/
structure FunF (K : PySem.W.Frag) (x qual : Str) (st : Stmt) (f : Addr) : Prop where
  l : ∃ (oc : Value) (od an : Option Addr) (osl : Array (Option Value)) (kV doc pm cdv ct : Value), K.lookup f = some ⟨oc, od, .func (PySem.W.fnOf x qual (defArgs st) (defBody st) (defScope st) .none kV doc pm an cdv ct), osl⟩ ∧ PySem.W.codeIn K cdv qual = true
  k : PySem.W.keepIn K (.ref f) = true
structure TopF (K : PySem.W.Frag) (x qual : Str) (st : Stmt) (f : Addr) : Prop where
  a : PySem.W.nsIn K mainGlobals x = some (some (.ref f))
  f : FunF K x qual st f
structure MetF (K : PySem.W.Frag) (C : Addr) (x qual : Str) (st : Stmt) (f : Addr) : Prop where
  a : PySem.W.findIn K (.ref C) x = some (some (.ref f))
  i : PySem.W.isFn K (.ref f) = true
  f : FunF K x qual st f
structure PrpF (K : PySem.W.Frag) (C : Addr) (x qual : Str) (st : Stmt) (p f : Addr) : Prop where
  a : PySem.W.findIn K (.ref C) x = some (some (.ref p))
  g : PySem.W.specialIn K (.ref p) "__get__" = some (some (.builtin "property.__get__"))
  t : PySem.W.takesIn K (.ref p) = some true
  r : ∃ rest, PySem.W.recIn K p "property" = some (.ref f :: rest)
  f : FunF K x qual st f
structure ClsF (K : PySem.W.Frag) (x : Str) (C : Addr) : Prop where
  a : PySem.W.nsIn K mainGlobals x = some (some (.ref C))
  pg : PySem.W.plainGet K C Str.empty = true
  hd : PySem.W.hasDictIn K C = true
  po : PySem.W.plainOver K C = true
  sa : PySem.W.findIn K (.ref C) "__setattr__" = some (some (.builtin "object.__setattr__"))
  made : PySem.W.makesIn K C = true
  k : PySem.W.keepIn K (.ref C) = true
theorem ClsF.cls {K : PySem.W.Frag} {x : Str} {C : Addr} (c : ClsF K x C) : Cls K C := ⟨c.pg, c.hd, c.po, c.sa⟩
section
variable {P : Program} {w : World} {K : PySem.W.Frag} {mg : Str → Option Value} {base h : Heap}
theorem FunF.fn {x qual : Str} {st : Stmt} {f : Addr} (F : FunF K x qual st f) : ∃ fd, Fun K x qual st f fd ∧ ∃ kV doc pm an cdv ct, fd = PySem.W.fnOf x qual (defArgs st) (defBody st) (defScope st) .none kV doc pm an cdv ct :=
  let ⟨oc, od, an, osl, kV, doc, pm, cdv, ct, l, c⟩ := F.l
  ⟨_, fun_mk l c F.k, kV, doc, pm, an, cdv, ct, rfl⟩
theorem FunF.bound {x qual : Str} {st : Stmt} {f : Addr} {ps : List Str} (F : FunF K x qual st f)
    (hb : ∀ (kV doc pm : Value) (an : Option Addr) (cdv ct : Value) (us : List Value), us.length = ps.length → bindArgs (PySem.W.fnOf x qual (defArgs st) (defBody st) (defScope st) .none kV doc pm an cdv ct) ⟨us, []⟩ = pure (ps.zip us)) : ∃ fd, Fun K x qual st f fd ∧ Binds K fd ps [] :=
  let ⟨fd, F1, _⟩ := F.fn
  ⟨fd, F1, F1.binds hb⟩
theorem TopF.at_ {x qual : Str} {st : Stmt} {f : Addr} {ps : List Str} (X : K.In h) (G : h.Ns mainGlobals mg) (F : TopF K x qual st f)
    (hb : ∀ (kV doc pm : Value) (an : Option Addr) (cdv ct : Value) (us : List Value), us.length = ps.length → bindArgs (PySem.W.fnOf x qual (defArgs st) (defBody st) (defScope st) .none kV doc pm an cdv ct) ⟨us, []⟩ = pure (ps.zip us)) : ∃ fd, DefD K mg x qual st f fd ps [] :=
  let ⟨fd, F1, B⟩ := F.f.bound hb
  ⟨fd, F1, PySem.W.mg_of X G F.a, [], [], B, .nil, fun _ => .nil⟩
theorem MetF.met {C : Addr} {x qual : Str} {st : Stmt} {f : Addr} {fd : FuncData} {ps : List Str} {k : Nat} {sp : Sp2} (M : MetF K C x qual st f) (c : Cls K C) (B : Binds K fd ps []) (O : Ok P w K mg base k f fd ps sp) : MetD P w K mg base k C x sp [] :=
  ⟨f, fd, ps, [], [], O, c, ⟨M.a, M.i, M.f.k⟩, B, .nil, fun _ => .nil⟩
theorem MetF.mak {C : Addr} {cx qual : Str} {st : Stmt} {f : Addr} {fd : FuncData} {ps : List Str} {k : Nat} {sp : Sp2} (X : K.In h) (G : h.Ns mainGlobals mg) (c : ClsF K cx C) (M : MetF K C "__init__" qual st f) (B : Binds K fd ps []) (O : Ok P w K mg base k f fd ps sp) : MakD P w K mg base k cx C sp [] :=
  ⟨f, fd, ps, [], [], O, PySem.W.mg_of X G c.a, ⟨c.made, M.a, M.i, c.k⟩, B, .nil, fun _ => .nil⟩
theorem PrpF.prp {C : Addr} {x qual : Str} {st : Stmt} {p f : Addr} {fd : FuncData} {ps : List Str} {k : Nat} {sp : Sp2} (M : PrpF K C x qual st p f) (c : Cls K C) (B : Binds K fd ps []) (O : Ok P w K mg base k f fd ps sp) : PrpD P w K mg base k C x sp :=
  ⟨p, f, fd, ps, O, c, ⟨M.a, M.g, M.t, M.r⟩, B⟩
end
section
variable {K : PySem.W.Frag} {x qual : Str} {st : Stmt} {f p C : Addr} {oc : Value} {od an : Option Addr} {osl : Array (Option Value)} {kV doc pm cdv ct : Value} {rest : List Value}
theorem FunF.of (l : K.lookup f = some ⟨oc, od, .func (PySem.W.fnOf x qual (defArgs st) (defBody st) (defScope st) .none kV doc pm an cdv ct), osl⟩) (c : PySem.W.codeIn K cdv qual = true) (k : PySem.W.keepIn K (.ref f) = true) : FunF K x qual st f := ⟨⟨_, _, _, _, _, _, _, _, _, l, c⟩, k⟩
theorem TopF.of (a : PySem.W.nsIn K mainGlobals x = some (some (.ref f))) (l : K.lookup f = some ⟨oc, od, .func (PySem.W.fnOf x qual (defArgs st) (defBody st) (defScope st) .none kV doc pm an cdv ct), osl⟩) (c : PySem.W.codeIn K cdv qual = true) (k : PySem.W.keepIn K (.ref f) = true) : TopF K x qual st f := ⟨a, .of l c k⟩
theorem MetF.of (a : PySem.W.findIn K (.ref C) x = some (some (.ref f))) (i : PySem.W.isFn K (.ref f) = true) (l : K.lookup f = some ⟨oc, od, .func (PySem.W.fnOf x qual (defArgs st) (defBody st) (defScope st) .none kV doc pm an cdv ct), osl⟩) (c : PySem.W.codeIn K cdv qual = true) (k : PySem.W.keepIn K (.ref f) = true) : MetF K C x qual st f := ⟨a, i, .of l c k⟩
theorem PrpF.of (a : PySem.W.findIn K (.ref C) x = some (some (.ref p))) (g : PySem.W.specialIn K (.ref p) "__get__" = some (some (.builtin "property.__get__"))) (t : PySem.W.takesIn K (.ref p) = some true) (r : PySem.W.recIn K p "property" = some (.ref f :: rest)) (l : K.lookup f = some ⟨oc, od, .func (PySem.W.fnOf x qual (defArgs st) (defBody st) (defScope st) .none kV doc pm an cdv ct), osl⟩) (c : PySem.W.codeIn K cdv qual = true) (k : PySem.W.keepIn K (.ref f) = true) : PrpF K C x qual st p f := ⟨a, g, t, ⟨_, r⟩, .of l c k⟩
theorem con_int {i : Int} {t : Tok} (e : PySem.W.nsIn K mainGlobals x = some (some (.int i t))) : ∃ t, PySem.W.nsIn K mainGlobals x = some (some (.int i t)) := ⟨_, e⟩
theorem con_str {i : Str} {t : Tok} (e : PySem.W.nsIn K mainGlobals x = some (some (.str i t))) : ∃ t, PySem.W.nsIn K mainGlobals x = some (some (.str i t)) := ⟨_, e⟩
end
/-- the law's promise: true, at every script -/
def spEnd (K : PySem.W.Frag) : Sp := fun vs H Q _ => ∃ (a : Addr) (ns : List Int), vs = [.ref a] ∧ SqL K H a (ns.map V.int) ∧ ns.length ≤ 63 ∧ ∀ H', Q (.bl true) H'
theorem repL_ints {K : PySem.W.Frag} {I : Hp} : ∀ ns : List Int, RepL K I (ns.map Dv.int) (ns.map V.int)
  | [] => .nil
  | n :: ns => .cons (.int n) (repL_ints ns)
theorem ok_end {P : Program} {w : World} {K : PySem.W.Frag} {mg : Str → Option Value} {base : Heap} {k : Nat} {f : Addr} {fd : FuncData} {ps : List Str} {sp : Sp2} (O : Ok P w K mg base k f fd ps sp) (hp : ps.length = 1)
    (hm : ∀ ns : List Int, ns.length ≤ 63 → sp [.rol (ns.map Dv.int)] (fun _ => none) (fun d _ => d = .bl true) fun _ _ _ => False) : FnOk P w K mg base (L2.CX P w) k f fd ps (spEnd K) := by
  refine ⟨fun vs H Q E ⟨a, ns, e, _⟩ => by rw [e, hp]; rfl, fun A outer s H args us vs Q E hr e0 hb r hsp => ?_⟩
  refine O.run A outer s H args us vs Q E hr e0 hb r ?_
  obtain ⟨a, ns, rfl, hS, hl, k⟩ := hsp
  refine ⟨H, [.rol (ns.map Dv.int)], fun _ => none, _, _, ⟨Same.refl H, fun a m e => by cases e⟩, .cons (.rol hS (repL_ints ns)) .nil, hm ns hl, ?_, fun _ _ _ _ _ _ _ q => q.elim⟩
  intro I' d v μ' H' _ _ rv e
  subst e
  cases rv
  exact k H'
end Wl

set_option Elab.async false
set_option linter.all false
set_option maxRecDepth 100000
set_option maxHeartbeats 2000000
namespace Wl
open PySem L2
open PySem.Spec PyProof.Rows
section
variable {S : Sg}
def gStarts : DM := fun x xs μ Q => match x, xs with
  | .str a, [.str b] => Q (.bl (Txt.startswith a b)) μ
  | _, _ => False
theorem wm_startswith : WM S "str.startswith" gStarts := ⟨_, fun X _ => mt_startswith, fun I μ H _ SM dx x ds vs rx r Q Q' q u => by
  cases rx <;> first | exact False.elim q | skip
  cases r with
  | nil => exact q.elim
  | cons r1 r2 =>
    cases r2 with
    | cons _ _ => cases r1 <;> exact False.elim q
    | nil =>
      cases r1 <;> first | exact False.elim q | skip
      exact ⟨_, _, rfl, rfl, u I _ _ μ H (Same.refl I) SM (.bl _) q⟩⟩
end
end Wl

set_option Elab.async false
set_option linter.all false
set_option maxRecDepth 100000
set_option maxHeartbeats 2000000
namespace Wl
open PySem L2
open PySem.Spec PyProof.Rows
section
variable {S : Sg} {ι : Type} {F : ι → Cx} {pos : Pos}
/-! ## sorted -/
theorem rep_ints {K : PySem.W.Frag} {I : Hp} : ∀ {ns : List Int} {vs : List V}, RepL K I (ns.map Dv.int) vs → vs = ns.map V.int
  | [], _, .nil => rfl
  | n :: ns, _, .cons h t => by cases h; rw [rep_ints t]; rfl
theorem ints_rep {K : PySem.W.Frag} {I : Hp} : ∀ (ns : List Int), RepL K I (ns.map Dv.int) (ns.map V.int)
  | [] => .nil
  | n :: ns => .cons (.int n) (ints_rep ns)
theorem rep_strs {K : PySem.W.Frag} {I : Hp} : ∀ {ns : List Str} {vs : List V}, RepL K I (ns.map Dv.str) vs → vs = ns.map V.str
  | [], _, .nil => rfl
  | n :: ns, _, .cons h t => by cases h; rw [rep_strs t]; rfl
theorem strs_rep {K : PySem.W.Frag} {I : Hp} : ∀ (ns : List Str), RepL K I (ns.map Dv.str) (ns.map V.str)
  | [] => .nil
  | n :: ns => .cons (.str n) (strs_rep ns)
def gSortI : DC := fun ds μ Q => match ds with
  | [.lst xs] => ∃ ns : List Int, xs = ns.map Dv.int ∧ ∀ ns' : List Int, ns'.Perm ns → ns'.Pairwise (· ≤ ·) → Q (.lst (ns'.map Dv.int)) μ
  | _ => False
theorem wc_sortI : WC S (.builtin "sorted") gSortI := by
  refine ⟨_, fun X hX => hX.K ▸ cr_sortedI, ?_⟩
  intro I μ H _ SM ds vs r Q Q' q u
  rcases r with _ | ⟨r1, _ | ⟨r2, r3⟩⟩
  · exact q.elim
  · cases r1 <;> first | exact False.elim q | skip
    rename_i h1 h2
    obtain ⟨ns, rfl, q⟩ := q
    have e := rep_ints h2
    subst e
    refine ⟨_, ns, rfl, .inl (.inl (SM.ex _ _ h1)), fun ns' p hp hs hl => ?_⟩
    obtain ⟨s1, s2⟩ := SM.newI hl (.lst (ns'.map V.int))
    exact u _ _ _ μ _ s1 s2 (.lst upd_same (ints_rep ns')) (q ns' hp hs)
  · cases r1 <;> exact q.elim
def gSortS : DC := fun ds μ Q => match ds with
  | [.lst xs] => ∃ ns : List Str, xs = ns.map Dv.str ∧ ns.length < 64 ∧ ∀ ns' : List Str, ns'.Perm ns → sortedS ns' = true → Q (.lst (ns'.map Dv.str)) μ
  | _ => False
theorem wc_sortS : WC S (.builtin "sorted") gSortS := by
  refine ⟨_, fun X hX => hX.K ▸ cr_sortedS, ?_⟩
  intro I μ H _ SM ds vs r Q Q' q u
  rcases r with _ | ⟨r1, _ | ⟨r2, r3⟩⟩
  · exact q.elim
  · cases r1 <;> first | exact False.elim q | skip
    rename_i h1 h2
    obtain ⟨ns, rfl, hn, q⟩ := q
    have e := rep_strs h2
    subst e
    refine ⟨_, ns, rfl, .inl (.inl (SM.ex _ _ h1)), hn, fun ns' p hp hs hl => ?_⟩
    obtain ⟨s1, s2⟩ := SM.newI hl (.lst (ns'.map V.str))
    exact u _ _ _ μ _ s1 s2 (.lst upd_same (strs_rep ns')) (q ns' hp hs)
  · cases r1 <;> exact q.elim
theorem RepP.keys {K : PySem.W.Frag} {I : Hp} {κ : Type} : ∀ {ks : List (κ × Dv)} {vs : List (κ × V)}, RepP K I ks vs → vs.map (·.1) = ks.map (·.1)
  | _, _, .nil => rfl
  | _, _, .cons h t => by
    have := RepP.keys t
    simp only [List.map_cons, this, h.1]
/-- sorted(d), d a dict with texts as keys -/
def gSortD : DC := fun ds μ Q => match ds with
  | [.ref a] => ∃ (kvs : List (Key × Dv)) (ks : List Str), μ a = some (.dK kvs) ∧ kvs.map (·.1) = ks.map Sum.inr ∧ ks.length < 64 ∧ ∀ ys : List Str, ys.Perm ks → sortedS ys = true → Q (.lst (ys.map Dv.str)) μ
  | _ => False
theorem wc_sortD (hcold : S.cold = false := by rfl) : WC S (.builtin "sorted") gSortD := by
  refine ⟨_, fun X hX => call_sortedD (hX.calm hcold), ?_⟩
  intro I μ H _ SM ds vs r Q Q' q u
  rcases r with _ | ⟨r1, _ | ⟨r2, r3⟩⟩
  · exact q.elim
  · cases r1 <;> first | exact False.elim q | skip
    obtain ⟨kvs, ks, em, hk, hn, q⟩ := q
    obtain ⟨ws, rp, hv⟩ := SM.memo em
    refine ⟨_, ws, ks, rfl, .inl hv, by rw [rp.keys]; exact hk, hn, fun ys p hp hs hl => ?_⟩
    obtain ⟨s1, s2⟩ := SM.newI hl (.lst (ys.map V.str))
    exact u _ _ _ μ _ s1 s2 (.lst upd_same (strs_rep ys)) (q ys hp hs)
  · cases r1 <;> exact q.elim
/-! ## list(d), divmod -/
def gListD : DC := fun ds μ Q => match ds with
  | [.ref a] => ∃ kvs : List (Key × Dv), μ a = some (.dK kvs) ∧ Q (.lst (kvs.map fun kv => kD kv.1)) μ
  | _ => False
theorem kD_rep {K : PySem.W.Frag} {I : Hp} {κ : Type} : ∀ (kvs : List (Key × κ)), RepL K I (kvs.map fun kv => kD kv.1) (kvs.map fun kv => kV kv.1)
  | [] => .nil
  | (.inl i, _) :: r => .cons (.int i) (kD_rep r)
  | (.inr x, _) :: r => .cons (.str x) (kD_rep r)
theorem wc_listD (hcold : S.cold = false := by rfl) : WC S (.type "list") gListD := by
  refine ⟨_, fun X hX => call_listD (hX.calm hcold), ?_⟩
  intro I μ H _ SM ds vs r Q Q' q u
  rcases r with _ | ⟨r1, _ | ⟨r2, r3⟩⟩
  · exact q.elim
  · cases r1 <;> first | exact False.elim q | skip
    obtain ⟨kvs, em, q⟩ := q
    obtain ⟨ws, rp, hv⟩ := SM.memo em
    refine ⟨_, ws, rfl, .inl hv, fun p hl => ?_⟩
    obtain ⟨s1, s2⟩ := SM.newI hl (.lst (ws.map fun kv => kV kv.1))
    have e : ws.map (fun kv => kV kv.1) = kvs.map (fun kv => kV kv.1) := by
      have := congrArg (List.map kV) rp.keys
      rw [List.map_map, List.map_map] at this
      exact this
    refine u _ _ _ μ _ s1 s2 (.lst upd_same ?_) q
    rw [e]; exact kD_rep kvs
  · cases r1 <;> exact q.elim
def gDivmod : DC := fun ds μ Q => match ds with
  | [.int i, .int j] => CDiv i j ∧ Q (.tup [.int (i / j), .int (i % j)]) μ
  | _ => False
theorem wc_divmod : WC S (.builtin "divmod") gDivmod := by
  refine ⟨_, fun X hX => call_divmod, ?_⟩
  intro I μ H _ SM ds vs r Q Q' q u
  rcases r with _ | ⟨r1, _ | ⟨r2, _ | ⟨r3, r4⟩⟩⟩
  · exact q.elim
  · cases r1 <;> exact q.elim
  · cases r1 <;> first | exact False.elim q | skip
    cases r2 <;> first | exact False.elim q | skip
    refine ⟨_, _, rfl, q.1, fun p hl => ?_⟩
    obtain ⟨s1, s2⟩ := SM.newI hl (.tup [.int _, .int _])
    exact u _ _ _ μ _ s1 s2 (.tup upd_same (.cons (.int _) (.cons (.int _) .nil))) q.2
  · cases r1 <;> first | exact False.elim q | skip
    cases r2 <;> exact False.elim q
/-! ## d.get(k, v) -/
def vDGet2 (td ty tx : DE) : DE := fun δ μ Q => td δ μ fun x μ1 => match x with
  | .ref a => (match μ1 a with | some (.dK _) => True | some (.dT _) => True | _ => False) ∧ ty δ μ1 fun y μ2 => tx δ μ2 fun z μ3 => dlook μ3 a y fun o => Q (o.getD z) μ3
  | _ => False
theorem we_dget2 {o e f : Expr} {td ty tx : DE} {apos cpos : Pos} (ho : WE S F o td) (he : WE S F e ty) (hf : WE S F f tx) (hm : ∀ j, M2 (F j) o "get" apos e f cpos := by exact fun _ => ⟨rfl, rfl, rfl, rfl⟩) : WE S F (.Call (.Attribute o "get" apos) [e, f] [] cpos) (vDGet2 td ty tx) :=
  let ⟨ta, a1, a2⟩ := ho; let ⟨tb, b1, b2⟩ := he; let ⟨tc, c1, c2⟩ := hf
  ⟨_, fun i hi => pe_dget2 (room1 hi) (a1 i hi) (b1 i hi) (c1 i hi) (hm i), fun I δ μ σ H hJ SM hS Q Q' q u => a2 I δ μ σ H hJ SM hS _ _ q fun I1 x vx μ1 H1 e1 S1 r1 q1 => by
    cases r1 <;> first | exact False.elim q1 | skip
    rename_i a
    refine ⟨a, rfl, ?_, b2 I1 δ μ1 σ H1 (hJ.trans e1) S1 (hS.mono e1) _ _ q1.2 fun I2 y vy μ2 H2 e2 S2 r2 q2 => c2 I2 δ μ2 σ H2 ((hJ.trans e1).trans e2) S2 (hS.mono (e1.trans e2)) _ _ q2 fun I3 z vz μ3 H3 e3 S3 r3 q3 => ?_⟩
    · have h := q1.1
      cases e : μ1 a with
      | none => simp only [e] at h
      | some m =>
        have hm' := S1.memo e
        cases m with
        | dK kvs => obtain ⟨vs, _, hv⟩ := hm'; exact .inl ⟨vs, .inl hv⟩
        | dT kvs => obtain ⟨vs, _, hv⟩ := hm'; exact .inr ⟨vs, .inl hv⟩
        | _ => simp only [e] at h
    · rcases dlook_ok S3 (r2.mono e3 _ _) q3 with ⟨g, q4⟩ | ⟨d, v, g, rd, q4⟩
      · exact ⟨none, g, u I3 _ _ μ3 H3 ((e1.trans e2).trans e3) S3 r3 q4⟩
      · exact ⟨some v, g, u I3 _ _ μ3 H3 ((e1.trans e2).trans e3) S3 rd q4⟩⟩
/-! ## d == e of dicts that are equal, with numbers as values -/
def gSameD (b : Bool) : D2 := fun x y μ Q => match x, y with
  | .ref a, .ref b' => ∃ ks ls : List (Key × Dv), μ a = some (.dK ks) ∧ μ b' = some (.dK ls) ∧ ks.length = ls.length ∧ (∀ p ∈ ks, ∃ i : Int, p.2 = .int i ∧ valD ls p.1 = some (.int i)) ∧ Q (.bl b) μ
  | _, _ => False
theorem sameD_ok {K : PySem.W.Frag} {I H : Hp} {ks ls : List (Key × Dv)} {vs ws : List (Key × V)} (r : RepP K I ks vs) (s : RepP K I ls ws) (h : ∀ p ∈ ks, ∃ i : Int, p.2 = .int i ∧ valD ls p.1 = some (.int i)) : ∀ p ∈ vs, valV ws p.1 = some p.2 ∧ flatB p.2 = true := by
  induction r with
  | nil => intro p hp; cases hp
  | @cons a b as bs h1 t ih =>
    intro p hp
    rcases List.mem_cons.mp hp with rfl | hp
    · obtain ⟨e1, e2⟩ := h1
      obtain ⟨i, h3, h4⟩ := h a List.mem_cons_self
      rw [h3] at e2
      have hb : p.2 = .int i := rep_key (k := .inl i) e2 rfl
      rcases s.val a.1 with ⟨k1, _⟩ | ⟨d, v, k1, k2, k3⟩
      · rw [k1] at h4; cases h4
      · rw [k1] at h4
        cases h4
        have hv : v = .int i := rep_key (k := .inl i) k3 rfl
        rw [← e1, k2, hv, hb]
        exact ⟨rfl, rfl⟩
    · exact ih (fun q hq => h q (List.mem_cons_of_mem _ hq)) p hp
theorem wo_neD : WO S (compareOp .NotEq) (gSameD false) := ⟨rNeDA, fun X hX => op_ne_dictA (Nat.lt_of_succ_lt ((show _ + 1 < _ by have := hX.units; omega))), fun I μ H _ SM dx dy x y rx ry Q Q' q u => by
  cases rx <;> first | exact False.elim q | skip
  cases ry <;> first | exact False.elim q | skip
  obtain ⟨ks, ls, e1, e2, hl, hv, q⟩ := q
  obtain ⟨vs, r1, h1⟩ := SM.memo e1
  obtain ⟨ws, r2, h2⟩ := SM.memo e2
  exact ⟨_, _, vs, ws, rfl, rfl, h1, h2, by rw [← r1.len, ← r2.len]; exact hl, sameD_ok (H := H) r1 r2 hv, u I _ _ μ H (Same.refl I) SM (.bl _) q⟩⟩
theorem wo_eqD : WO S (compareOp .Eq) (gSameD true) := ⟨rEqDA, fun X hX => op_eq_dictA (Nat.lt_of_succ_lt ((show _ + 1 < _ by have := hX.units; omega))), fun I μ H _ SM dx dy x y rx ry Q Q' q u => by
  cases rx <;> first | exact False.elim q | skip
  cases ry <;> first | exact False.elim q | skip
  obtain ⟨ks, ls, e1, e2, hl, hv, q⟩ := q
  obtain ⟨vs, r1, h1⟩ := SM.memo e1
  obtain ⟨ws, r2, h2⟩ := SM.memo e2
  exact ⟨_, _, vs, ws, rfl, rfl, h1, h2, by rw [← r1.len, ← r2.len]; exact hl, sameD_ok (H := H) r1 r2 hv, u I _ _ μ H (Same.refl I) SM (.bl _) q⟩⟩
end
end Wl

set_option Elab.async false
set_option linter.all false
set_option maxRecDepth 100000
set_option maxHeartbeats 2000000
namespace Wl
open PySem L2
open PySem.Spec PyProof.Rows
/-! ## {k: v for x in ..} -/
def vDLoop (vs : List Nat) (g : DG) (tt : DT) (tk tv : DE) (δ : DSt) (D : Addr) : List Dv → Mu → (Mu → Prop) → Prop
  | [], μ, Q => (∃ kvs, μ D = some (.dK kvs)) ∧ Q μ
  | d :: ds, μ, Q => g d (dwipe δ vs) μ fun δ1 μ1 => tt δ1 μ1 fun b μ2 => if b = true then tk δ1 μ2 fun y μ3 => tv δ1 μ3 fun z μ4 => ∃ kvs k, keyD y = some k ∧ μ4 D = some (.dK kvs) ∧ kvs.length < sizeLine ∧ vDLoop vs g tt tk tv δ D ds (mset μ4 D (.dK (putD kvs k z))) Q
      else vDLoop vs g tt tk tv δ D ds μ2 Q
def vDc (vs : List Nat) (wi : DI) (g : DG) (tt : DT) (tk tv : DE) : DE := fun δ μ Q => wi δ μ fun ds μ1 => ∀ D, μ1 D = none → vDLoop vs g tt tk tv δ D ds (mset μ1 D (.dK [])) fun μ2 => Q (.ref D) μ2
section
variable {S : Sg} {ι : Type} {F : ι → Cx} {pos : Pos}
theorem re_dc {vs : List Nat} {ti : TI} {wi : DI} {tg : TG} {g : DG} {t1 : TT} {tt : DT} {t2 t3 : TE} {tk tv : DE} (i2 : RI S ti wi) (g2 : RGv S.blk vs tg g) (b2 : RT S.blk t1 tt) (c2 : RE S.blk t2 tk) (d2 : RE S.blk t3 tv) : RE S (tDc ti tg t1 t2 t3 vs) (vDc vs wi g tt tk tv) :=
  fun I δ μ σ H hJ SM hS Q Q' q u => i2 I δ μ σ H hJ SM hS _ _ q fun I1 ds μ1 H1 J e1 S1 ok q1 D hD => by
    refine ⟨fun i m H' => m = ds.length - i ∧ i ≤ ds.length ∧ ∃ I' μ', Same I1 I' ∧ SatM S.K I' μ' H' ∧ vDLoop vs g tt tk tv δ D (ds.drop i) μ' fun μ2 => Q (.ref D) μ2,
      ⟨ds.length, by simp, Nat.zero_le _, I1, _, Same.refl _, S1.setM (m := .dK []) (S1.ex.free hD) ⟨[], .nil, upd_same⟩, by simpa using q1 D (S1.muNone hD)⟩, ?_⟩
    rintro i m H' ⟨rfl, hle, I', μ', e', S', q'⟩
    by_cases hlt : i < ds.length
    · refine .inr ⟨ok.go i μ' I' H' e' S' hlt, fun H2 => ∃ I2 μ2, Same I1 I2 ∧ SatM S.K I2 μ2 H2 ∧ vDLoop vs g tt tk tv δ D (ds.drop (i + 1)) μ2 fun μ2 => Q (.ref D) μ2,
        fun H2 w => ⟨ds.length - (i + 1), by omega, rfl, hlt, w⟩, fun x H2 hy => ?_⟩
      have hd : ds[i]? = some ds[i] := by simp [hlt]
      obtain ⟨I2, e2, S2, r2⟩ := ok.yld i μ' I' H' x H2 _ e' S' hd hy
      rw [List.drop_eq_getElem_cons hlt] at q'
      have hJ2 := (hJ.trans e1).trans (e'.trans e2)
      refine g2 I2 _ μ' _ H2 _ _ hJ2 S2 ((hS.mono (e1.trans (e'.trans e2))).wipe vs) r2 _ _ q' fun I3 δ3 σ3 μ3 H3 e3 S3 R3 w3 q3 => ⟨w3.trans wipe_wipe, ?_⟩
      refine b2 I3 δ3 μ3 σ3 H3 (hJ2.trans e3) S3 R3 _ _ q3 fun I4 b μ4 H4 e4 S4 q4 => ?_
      have e14 := ((e'.trans e2).trans e3).trans e4
      cases b with
      | false =>
        rw [if_neg Bool.false_ne_true] at q4 ⊢
        exact ⟨I4, μ4, e14, S4, q4⟩
      | true =>
        rw [if_pos rfl] at q4 ⊢
        refine c2 I4 δ3 μ4 σ3 H4 ((hJ2.trans e3).trans e4) S4 (R3.mono e4) _ _ q4 fun I5 y vy μ5 H5 e5 S5 r5 q5 => ?_
        refine d2 I5 δ3 μ5 σ3 H5 (((hJ2.trans e3).trans e4).trans e5) S5 (R3.mono (e4.trans e5)) _ _ q5 fun I6 z vz μ6 H6 e6 S6 r6 q6 => ?_
        obtain ⟨kvs, k, ek, em, hl, q7⟩ := q6
        obtain ⟨vs', rp, hv⟩ := S6.memo em
        refine ⟨vs', k, rep_key r5 ek, hv, by rw [← rp.len]; exact hl, I6, _, (e14.trans e5).trans e6, S6.setM (m := .dK (putD kvs k z)) (S6.mu _ _ em).1 ⟨_, rp.put k r6, upd_same⟩, q7⟩
    · have e : i = ds.length := by omega
      subst e
      rw [List.drop_length] at q'
      obtain ⟨⟨kvs, em⟩, q6⟩ := q'
      exact .inl ⟨ok.stop μ' I' H' e' S', u I' (.ref D) (.ref D) μ' H' (e1.trans e') S' (.ref D) q6⟩
theorem we_dcomp {kx vx tg iter : Expr} {ifs : List Expr} {scope : Scope} {own : List (Str × Nat)} {wi : DI} {g : DG} {tt : DT} {tk tv : DE} (hN : S.N.Nodup) (hi : WI S F tg iter wi) (ok : ∀ i, BlkOk S.N (F i).env.scope scope own)
    (hg : WGv S.blk (blkF F scope) (own.map (·.2)) tg g) (ht : WTs S.blk (blkF F scope) ifs tt) (hk : WE S.blk (blkF F scope) kx tk) (hv : WE S.blk (blkF F scope) vx tv) (hs : ∀ env, ∀ x, foldedSetIterable iter env x = pure x := by exact fun _ _ => rfl) (hcold : S.cold = false := by rfl) :
    WE S F (.DictComp kx vx [⟨tg, iter, ifs, 0⟩] scope pos) (vDc (own.map (·.2)) wi g tt tk tv) :=
  let ⟨ti, i1, i2⟩ := hi; let ⟨tg', g1, g2⟩ := hg; let ⟨t1, b1, b2⟩ := ht; let ⟨t2, c1, c2⟩ := hk; let ⟨t3, d1, d2⟩ := hv
  ⟨_, fun i h => pe_dc (h.calm hcold) (h.N ▸ hN) (i1 i h) (h.N ▸ ok i) (fun s H C cl fp => g1 (i, s, H, C, cl, fp) (h.blk s H scope _ fp)) (fun s H C cl fp => b1 (i, s, H, C, cl, fp) (h.blk s H scope _ fp)) (fun s H C cl fp => c1 (i, s, H, C, cl, fp) (h.blk s H scope _ fp)) (fun s H C cl fp => d1 (i, s, H, C, cl, fp) (h.blk s H scope _ fp)) (hs _), re_dc i2 g2 b2 c2 d2⟩
/-! ## [.. for k in d], d a dict that stays -/
def vLoopK (vs : List Nat) (g : DG) (tt : DT) (te : DE) (δ : DSt) (D a : Addr) (fd : Mo) : List Dv → Mu → (List Dv → Mu → Prop) → Prop
  | [], μ, Q => μ a = some fd ∧ ∃ acc, μ D = some (.lst acc) ∧ Q acc μ
  | d :: ds, μ, Q => μ a = some fd ∧ g d (dwipe δ vs) μ fun δ1 μ1 => tt δ1 μ1 fun b μ2 => if b = true then te δ1 μ2 fun y μ3 => ∃ acc, μ3 D = some (.lst acc) ∧ acc.length < sizeLine ∧ vLoopK vs g tt te δ D a fd ds (mset μ3 D (.lst (acc ++ [y]))) Q else vLoopK vs g tt te δ D a fd ds μ2 Q
def vCompK (vs : List Nat) (td : DE) (g : DG) (tt : DT) (te : DE) : DE := fun δ μ Q => ∃ a kvs, μ a = some (.dK kvs) ∧ ∀ od ws, td δ (mset μ a (.fdK od kvs ws)) fun x μ1 => x = .ref a ∧ μ1 a = some (.fdK od kvs ws) ∧ ∀ D, μ1 D = none →
  vLoopK vs g tt te δ D a (.fdK od kvs ws) (kvs.map fun kv => kD kv.1) (mset μ1 D (.lst [])) fun acc μ2 => Q (.lst acc) (mset (mdel μ2 D) a (.dK kvs))
theorem we_compK {elt tg iter : Expr} {ifs : List Expr} {scope : Scope} {own : List (Str × Nat)} {td : DE} {g : DG} {tt : DT} {te : DE} (hN : S.N.Nodup) (hi : WE S F iter td) (ok : ∀ i, BlkOk S.N (F i).env.scope scope own)
    (hg : WGv S.blk (blkF F scope) (own.map (·.2)) tg g) (ht : WTs S.blk (blkF F scope) ifs tt) (he : WE S.blk (blkF F scope) elt te) (hs : ∀ env, ∀ x, foldedSetIterable iter env x = pure x := by exact fun _ _ => rfl) (hcold : S.cold = false := by rfl) :
    WE S F (.ListComp elt [⟨tg, iter, ifs, 0⟩] scope pos) (vCompK (own.map (·.2)) td g tt te) :=
  let ⟨ti, i1, i2⟩ := hi; let ⟨tg', g1, g2⟩ := hg; let ⟨t1, b1, b2⟩ := ht; let ⟨t2, c1, c2⟩ := he
  ⟨tLockE (tLc (iKeys ti) tg' t1 t2 (own.map (·.2))), fun i h => pe_lock (pe_lc (h.calm hcold) (h.N ▸ hN) (pi_keys (i1 i h)) (h.N ▸ ok i) (fun s H C cl fp => g1 (i, s, H, C, cl, fp) (h.blk s H scope _ fp)) (fun s H C cl fp => b1 (i, s, H, C, cl, fp) (h.blk s H scope _ fp)) (fun s H C cl fp => c1 (i, s, H, C, cl, fp) (h.blk s H scope _ fp)) (hs _)),
   fun I δ μ σ H hJ SM hS Q Q' q u => by
    obtain ⟨a, kvs, em, q⟩ := q
    obtain ⟨hIa, ws, rp, hv⟩ := SM.mu _ _ em
    refine ⟨a, .dK ws, hv, trivial, fun od => ?_⟩
    have SL : SatM S.K I (mset μ a (.fdK od kvs ws)) (upd H a (.frz od (.dK ws))) := SM.setM (m := .fdK od kvs ws) hIa ⟨rp, upd_same⟩
    refine i2 I δ _ σ _ hJ SL hS _ _ (q od ws) fun I1 x vx μ1 H1 e1 S1 r1 q1 => ?_
    obtain ⟨rfl, em1, q1⟩ := q1
    cases r1
    obtain ⟨hI1, rp1, hv1⟩ := S1.mu _ _ em1
    refine ⟨a, od, rfl, .inl ⟨ws, hv1, fun D hD => ?_⟩⟩
    have hlen : ws.length = (kvs.map fun kv => kD kv.1).length := by rw [List.length_map]; exact rp.len.symm
    refine ⟨fun i m H' => m = ws.length - i ∧ i ≤ ws.length ∧ ∃ I' μ', Same I1 I' ∧ SatM S.K I' μ' H' ∧ vLoopK (own.map (·.2)) g tt te δ D a (.fdK od kvs ws) ((kvs.map fun kv => kD kv.1).drop i) μ' fun acc μ2 => Q (.lst acc) (mset (mdel μ2 D) a (.dK kvs)),
      ⟨ws.length, by simp, Nat.zero_le _, I1, _, Same.refl _, S1.setM (m := .lst []) (S1.ex.free hD) ⟨[], .nil, upd_same⟩, by simpa using q1 D (S1.muNone hD)⟩, ?_⟩
    rintro i m H' ⟨rfl, hle, I', μ', e', S', q'⟩
    by_cases hlt : i < ws.length
    · have hlt' : i < (kvs.map fun kv => kD kv.1).length := by rw [← hlen]; exact hlt
      rw [List.drop_eq_getElem_cons hlt'] at q'
      obtain ⟨ema, q'⟩ := q'
      obtain ⟨_, rpa, hva⟩ := S'.mu _ _ ema
      refine .inr ⟨⟨hva, hlt⟩, fun H2 => ∃ I2 μ2, Same I1 I2 ∧ SatM S.K I2 μ2 H2 ∧ vLoopK (own.map (·.2)) g tt te δ D a (.fdK od kvs ws) ((kvs.map fun kv => kD kv.1).drop (i + 1)) μ2 fun acc μ2 => Q (.lst acc) (mset (mdel μ2 D) a (.dK kvs)),
        fun H2 w => ⟨ws.length - (i + 1), by omega, rfl, hlt, w⟩, fun x H2 hy => ?_⟩
      obtain ⟨rfl, k, v, hk, rfl⟩ := hy
      have hkey : (kvs.map fun kv => kD kv.1)[i] = kD k := by
        have h1 : (ws.map (·.1))[i]? = some k := by rw [List.getElem?_map, hk]; rfl
        rw [rp.keys, List.getElem?_map] at h1
        have h2 : (kvs.map fun kv => kD kv.1)[i]? = some (kD k) := by
          rw [List.getElem?_map]
          cases hz : kvs[i]? with
          | none => rw [hz] at h1; cases h1
          | some p => rw [hz] at h1; cases h1; rfl
        exact (List.getElem?_eq_some_iff.mp h2).2
      rw [hkey] at q'
      have hkr : Rep S.K I' (kD k) (kV k) := by cases k; exact .int _; exact .str _
      have hJ2 := (hJ.trans e1).trans e'
      refine g2 I' _ μ' _ H2 _ _ hJ2 S' ((hS.mono (e1.trans e')).wipe _) hkr _ _ q' fun I3 δ3 σ3 μ3 H3 e3 S3 R3 w3 q3 => ⟨w3.trans wipe_wipe, ?_⟩
      refine b2 I3 δ3 μ3 σ3 H3 (hJ2.trans e3) S3 R3 _ _ q3 fun I4 b μ4 H4 e4 S4 q4 => ?_
      have e14 := (e'.trans e3).trans e4
      cases b with
      | false =>
        rw [if_neg Bool.false_ne_true] at q4 ⊢
        exact ⟨I4, μ4, e14, S4, q4⟩
      | true =>
        rw [if_pos rfl] at q4 ⊢
        refine c2 I4 δ3 μ4 σ3 H4 ((hJ2.trans e3).trans e4) S4 (R3.mono e4) _ _ q4 fun I5 y vy μ5 H5 e5 S5 r5 q5 => ?_
        obtain ⟨acc, em5, hl, q6⟩ := q5
        obtain ⟨vs', rl, hv5⟩ := S5.memo em5
        refine ⟨vs', hv5, by rw [← rl.length]; exact hl, I5, _, e14.trans e5, S5.setM (m := .lst (acc ++ [y])) (S5.mu _ _ em5).1 ⟨_, rl.append (.cons r5 .nil), upd_same⟩, q6⟩
    · have e : i = ws.length := by omega
      subst e
      rw [hlen, List.drop_length] at q'
      obtain ⟨ema, acc, emD, q6⟩ := q'
      obtain ⟨hIa', rpa, hva⟩ := S'.mu _ _ ema
      refine .inl ⟨⟨hva, Nat.le_refl _⟩, hva, ?_⟩
      obtain ⟨vs', rl, s1, s2⟩ := S'.freeze emD
      have hne : a ≠ D := fun e => by rw [e, emD] at ema; cases ema
      have ema2 : (mdel μ' D) a = some (.fdK od kvs ws) := by rw [mdel_ne hne]; exact ema
      obtain ⟨hI3, rp3, hv3⟩ := s2.mu _ _ ema2
      have S4 := s2.setM (o := .dK ws) (m := .dK kvs) hI3 ⟨_, rp3, upd_same⟩
      exact u _ _ _ _ _ ((e1.trans e').trans s1) S4 (.lst upd_same (rl.mono s1 _ _)) q6⟩
/-! ## y = [..], y read by a comprehension further down -/
theorem sw_cell {elt : Expr} {gs : List Comprehension} {scope : Scope} {pos py : Pos} {y : Str} {l : Nat} {env : Env} (h : List.lookup y env.scope.names = some NameKind.cell) : swapsWith (elt.ListComp gs scope pos) (some (Expr.Name y py)) l env = pure false := by
  unfold swapsWith
  have e : (env.kindOf y == some NameKind.local) = false := by
    show (List.lookup y env.scope.names == some NameKind.local) = false
    rw [h]; rfl
  simp only [e, Bool.and_false, Bool.false_and]
theorem ws_setCell (i : Nat) {x : Str} {elt : Expr} {gs : List Comprehension} {scope : Scope} {p2 : Pos} {t : DE} {pos' : Pos} (he : WE S F (.ListComp elt gs scope p2) t) (hN : S.N.Nodup) (hc : ∀ j, (F j).env.scope.names.lookup x = some .cell := by exact fun _ => rfl) (hi : S.N[i]? = some x := by rfl) (hx : ∀ j, Loc (F j).env.scope x := by first | exact fun _ => .inl rfl | exact fun _ => .inr rfl)
    (hf : ∀ j, (F j).fn x = true ∨ (F j).env.scope.names.lookup x = some .local := by first | exact fun _ => .inl rfl | exact fun _ => .inr rfl) :
    WS S F (.Assign [.Name x pos'] (.ListComp elt gs scope p2) pos) (sAsg t (dName i)) :=
  let ⟨a, a1, a2⟩ := he
  ⟨_, fun j hj => ps_set (hj.N ▸ hN) (hj.N ▸ hi) (hx j) (a1 j hj) (sw_cell (hc j)) (hf j), fun I δ μ σ H hJ SM hS D D' q u => a2 I δ μ σ H hJ SM hS _ _ q fun I1 d v μ1 H1 e1 S1 r1 q1 => u.nx I1 _ _ μ1 H1 e1 S1 ((hS.mono e1).set i r1) q1⟩
end
end Wl

set_option Elab.async false
set_option linter.all false
set_option maxRecDepth 100000
set_option maxHeartbeats 2000000
namespace Wl
open PySem L2
open PySem.Spec PyProof.Rows
section
variable {S : Sg} {ι : Type} {F : ι → Cx} {pos : Pos}
/-! ## sum of a list of ints -/
def gSum : DC := fun ds μ Q => match ds with
  | [.lst xs] => ∃ ns : List Int, xs = ns.map Dv.int ∧ Q (.int ns.sum) μ
  | _ => False
theorem wc_sum (hcold : S.cold = false := by rfl) : WC S (.builtin "sum") gSum := by
  refine ⟨_, fun X hX => hX.K ▸ cr_sum (hX.calm hcold), ?_⟩
  intro I μ H _ SM ds vs r Q Q' q u
  rcases r with _ | ⟨r1, _ | ⟨r2, r3⟩⟩
  · exact q.elim
  · cases r1 <;> first | exact False.elim q | skip
    rename_i h1 h2
    obtain ⟨ns, rfl, q⟩ := q
    have e := rep_ints h2
    subst e
    exact ⟨_, ns, rfl, .inl (.inl (SM.ex _ _ h1)), u I _ _ μ H (Same.refl I) SM (.int _) q⟩
  · cases r1 <;> exact q.elim
/-! ## l.index(x) -/
def rIdxP (K : PySem.W.Frag) : V → List V → Hp → VK → Prop := fun x xs H Q => ∃ (a : Addr) (y : V) (d : PyData) (ds : List PyData) (j : Nat), x = V.ref a ∧ xs = [y] ∧ Dp K H (V.ref a) (.list ds) ∧ Dp K H y d ∧
  PyData.plainAll ds = true ∧ d.plain = true ∧ min (PyData.depthAll ds) d.depth ≤ 60 ∧ SeqAt.dataPlace ds d = some j ∧ j < 1000000 ∧ Q (.int (j : Nat)) H
theorem mt_indexP {X : Cx} (hu : X.A.units + 64 < cLine) : MtR X "list.index" (rIdxP X.K) := by
  intro pins s σ H x xs v us Q I rx rxs h
  obtain ⟨a, y, d, ds, j, rfl, rfl, hl, hy, sl, sd, hz, hp, hj6, q⟩ := h
  cases rxs with
  | cons ry rt =>
    cases rt
    obtain ⟨bs, r1⟩ := Dp.reads I d y _ hy ry
    obtain ⟨as, r2⟩ := Dp.reads I (.list ds) _ _ hl rx
    cases rx
    cases r2 with
    | @list _ o vs n _ as ho hc hd hr =>
      obtain ⟨cls, dd, data, sls⟩ := o
      simp only at hc hd
      subst hc hd
      obtain ⟨hj, h1, h2⟩ := SeqAt.hit_at hr sl hp
      exact call_meets PySem.F.slot_list_index ⟨_, ho, rfl⟩ PySem.F.entry_list_index (PySem.F.args_list_index_2 _ _)
        (SeqAt.list_indexAt a vs n dd sls _ (fun u => PyData.eqv (SeqAt.readOf s.heap u) d) j hj (by omega) h1 h2)
        ⟨ho, SeqAt.items_plain hr r1 sl sd (by omega), ⟨.int (j : Nat), H, I.tok _, ⟨_, rfl⟩, q⟩⟩
def gIdx : DM := fun x ds μ Q => match x, ds with
  | .ref a, [y] => ∃ (ys : List Dv) (j : Nat), μ a = some (.lst ys) ∧ inOk y ys ∧ j < 1000000 ∧ (ys.findIdx? fun z => dEq z y) = some j ∧ Q (.int (j : Int)) μ
  | _, _ => False
theorem find_pds (d : PyData) : ∀ ys : List Dv, ((Dv.pds ys).findIdx? fun z => PyData.eqv z d) = ys.findIdx? fun z => PyData.eqv z.pd d
  | [] => rfl
  | y :: ys => by simp only [Dv.pds, List.findIdx?_cons, find_pds d ys]
theorem wm_index : WM S "list.index" gIdx := by
  refine ⟨rIdxP S.K, fun X hX => hX.K ▸ mt_indexP hX.units, ?_⟩
  intro I μ H _ SM dx x ds vs rx r Q Q' q u
  cases rx <;> first | exact False.elim q | skip
  rcases r with _ | ⟨r1, _ | ⟨r2, r3⟩⟩
  · exact q.elim
  · obtain ⟨ys, j, em, h1, h2, h3, q4⟩ := q
    obtain ⟨ws, rl, hv⟩ := SM.memo em
    exact ⟨_, _, _, Dv.pds ys, j, rfl, rfl, .lst (.inl (.inl hv)) (rl.dp SM.ex _ _ h1.2.1), r1.dp SM.ex _ _ h1.1, Dv.plains ys, Dv.plain _, h1.2.2, (find_pds _ ys).trans h3, h2, u I _ _ μ H (Same.refl I) SM (.int _) q4⟩
  · exact q.elim
theorem we_index {o e : Expr} {so : DE} {t : DA} {apos cpos : Pos} (ho : WE S F o so) (ha : WA S F [e] t)
    (hbase : ∀ env, attributeBase o "index" env (eval o env) = eval o env := by exact fun _ => rfl)
    (hfew : ∀ env, ((backTo cpos (starEach [e] env)).all (fun x => !x.1) && (backToKw cpos (keywordEach [] env)).all (fun x => x.1.isSome)
      && decide ([e].length + ([] : List Keyword).length + (if ([] : List Keyword).isEmpty then 0 else 1) < 30)) = true := by exact fun _ => rfl)
    (hline : (apos.endLine == cpos.line) = true := by rfl) (hs : ∀ env, starEach [e] env = (false, eval e env) :: starEach [] env := by exact fun _ => rfl) :
    WE S F (.Call (.Attribute o "index" apos) [e] [] cpos) (vBM "list" gIdx so t) :=
  we_bm PySem.F.plainAttrs_list PySem.F.slot_list_index PySem.F.type_list_index wm_index ho ha hbase hfew hline hs (fun _ => rfl)
/-! ## one operation, read in one of two ways -/
def gOr (g h : D2) : D2 := fun x y μ Q => g x y μ Q ∨ h x y μ Q
theorem wo_or {f : Value → Value → Sem Value} {g h : D2} (h1 : WO S f g) (h2 : WO S f h) : WO S f (gOr g h) :=
  let ⟨r1, a1, b1⟩ := h1; let ⟨r2, a2, b2⟩ := h2
  ⟨fun x y H Q => r1 x y H Q ∨ r2 x y H Q, fun X hX pins s σ H x y v u Q I rx ry q => q.elim (fun q => a1 X hX pins s σ H x y v u Q I rx ry q) (fun q => a2 X hX pins s σ H x y v u Q I rx ry q),
    fun I μ H hJ SM dx dy x y rx ry Q Q' q u => q.elim (fun q => .inl (b1 I μ H hJ SM dx dy x y rx ry Q Q' q u)) (fun q => .inr (b2 I μ H hJ SM dx dy x y rx ry Q Q' q u))⟩
/-! ## // by a divisor of any length that is asked for -/
def gFdivW : D2 := gI CDivW fun i j => .int (i / j)
theorem wo_fdivW : WO S (binaryOp .FloorDiv) gFdivW := wo_int (fun _ => op_fdivW) fun _ _ _ => .int _
end
end Wl

set_option Elab.async false
set_option linter.all false
set_option maxRecDepth 100000
set_option maxHeartbeats 2000000
/-! zip walked with a plain name: the tuple that was given out last may have gone, or not -/
namespace PySem
section
variable {prog : Program} {w : World} {A : Around} {E : Value → Shared → Prop} {s : Shared}
abbrev ZHeld (h : Heap) (z TI TO T : Addr) (f : Bool) : Prop := IsZipHeld h z TI TO T f
abbrev ZAt (h : Heap) (z TI TO : Addr) (f0 f1 : Value) : Prop := h.get? z = some { cls := .type "zip", dict := none, data := .fields #[f0, f1, .bool false, .ref TI, .ref TO], slots := #[] }
theorem zfree_dead {z TI TO T : Addr} {f : Bool} {Q : Bool → Shared → Prop} (hz : IsZipHeld s.heap z TI TO T f) (hT : s.heap.get? T = none) (h : Q true s) : wpAny (model prog w) A (Builtin.SmallTypes.ownedTupleIsFree (.ref z)) Q E s := by
  unfold Builtin.SmallTypes.ownedTupleIsFree;
  have al : ∀ {P : Option Obj → Shared → Prop}, P none s → wpAny (model prog w) A (loadIfAlive T) P E s := fun {P} q => by
    have q' : P (s.heap.get? T) s := by rw [hT]; exact q
    exact fun _ _ _ => q'
  refine wpAny_bind (wpAny_field hz rfl (x := rawInt T) rfl ?_); show wpAny _ _ (loadIfAlive ((T : Int).toNat) >>= _) _ _ _
  rw [Int.toNat_natCast]; refine wpAny_bind (al ?_)
  simp only [Option.isNone_none, if_true];
  exact wpAny_pure h
/-- the pair that the zip keeps for itself is written, a new one is given out -/
theorem znext_dead {z TI TO T i1 i2 l1 l2 : Addr} {f : Bool} {k1 k2 : Nat} {xs ys : Array Value} {x y a b : Value} {Q : Value → Shared → Prop} (D : ZipApart z TI TO i1 i2 l1 l2)
    (hz : IsZipHeld s.heap z TI TO T f) (hT : s.heap.get? T = none) (tI : IsPair s.heap TI (.ref i1) (.ref i2)) (tO : IsPair s.heap TO a b)
    (h1 : s.heap.IsListIter i1 l1 k1) (h2 : s.heap.IsListIter i2 l2 k2) (m1 : s.heap.IsList l1 xs) (m2 : s.heap.IsList l2 ys) (hx : xs[k1]? = some x) (hy : ys[k2]? = some y)
    (hQ : ∀ h', IsZipHeld h' z TI TO s.heap.objs.size false → IsPair h' TO x y → h'.IsListIter i1 l1 (k1 + 1) → h'.IsListIter i2 l2 (k2 + 1) → IsPair h' s.heap.objs.size x y → h'.objs.size = s.heap.objs.size + 1 → (∀ c o, c ≠ z → c ≠ TO → c ≠ i1 → c ≠ i2 → s.heap.get? c = some o → h'.get? c = some o) → Q (.ref s.heap.objs.size) { s with heap := h' }) :
    wpAny (model prog w) A (Builtin.«zip.__next__» ⟨[.ref z], []⟩) (fun fi s' => ∃ v, fi = .done (.ret v) ∧ Q v s') E s := by
  show wpAny _ _ (field (.ref z) 2 >>= _) _ _ _; refine wpAny_bind (wpAny_field hz rfl (x := .bool false) rfl ?_); show wpAny _ _ (field (.ref z) 3 >>= _) _ _ _
  refine wpAny_bind (wpAny_field hz rfl (x := .ref TI) rfl (wpAny_bind (wpAny_seqItems tI rfl ?_))); show wpAny _ _ (Builtin.SmallTypes.ownedTupleIsFree (.ref z) >>= _) _ _ _
  refine wpAny_bind (zfree_dead hz hT ?_); simp only [if_true]; refine wpAny_bind (wpAny_rule (wpAny_bind (wpAny_field hz rfl (x := .ref TO) rfl (wpAny_bind (wpAny_setField_rec hz (by simp) fun g1 z1 s1 => wpAny_bind ?_)))))
  have z1' : ZAt g1 z TI TO .ellipsis (.bool f) := z1
  simp only [List.zipIdx_cons, List.zipIdx_nil, List.forIn_cons, List.forIn_nil]; refine wpAny_bind (wpAny_bind (wpAny_onRaise ?_)); show wpAny _ _ (Builtin.SmallTypes.nextOf (.ref i1) >>= _) _ _ _
  refine wpAny_bind (wpAny_nextOf_list_item (h1.extBut s1.extBut D.i1z) (m1.extBut s1.extBut D.l1z) hx fun g2 j2 s2 => wpAny_pure ?_)
  have p2 : IsPair g2 TO a b := s2.extBut _ _ D.TOi1 (s1.extBut _ _ D.TOz tO)
  refine wpAny_bind (wpAny_seqItems p2 rfl (wpAny_bind (wpAny_updateSeq_pair p2 fun g3 p3 s3 => wpAny_bind (wpAny_letGo (wpAny_pure ?_)))))
  have p3' : IsPair g3 TO x b := p3
  refine wpAny_bind (wpAny_bind (wpAny_onRaise ?_)); show wpAny _ _ (Builtin.SmallTypes.nextOf (.ref i2) >>= _) _ _ _
  refine wpAny_bind (wpAny_nextOf_list_item (((h2.extBut s1.extBut D.i2z).extBut s2.extBut D.i12.symm).extBut s3.extBut D.TOi2.symm) (((m2.extBut s1.extBut D.l2z).extBut s2.extBut D.l2i1).extBut s3.extBut D.l2TO) hy fun g4 j4 s4 => wpAny_pure ?_)
  have p4 : IsPair g4 TO x b := s4.extBut _ _ D.TOi2 p3'
  refine wpAny_bind (wpAny_seqItems p4 rfl (wpAny_bind (wpAny_updateSeq_pair p4 fun g5 p5 s5 => wpAny_bind (wpAny_letGo (wpAny_pure (wpAny_pure ?_))))))
  have p5' : IsPair g5 TO x y := p5
  refine wpAny_bind (wpAny_seqItems p5' rfl (wpAny_bind (wpAny_newTuple ?_)))
  have es : g5.objs.size = s.heap.objs.size := by rw [s5.1, s4.1, s3.1, s2.1, s1.1]
  have z5 : ZAt g5 z TI TO .ellipsis (.bool f) := s5.extBut _ _ D.TOz.symm (s4.extBut _ _ D.i2z.symm (s3.extBut _ _ D.TOz.symm (s2.extBut _ _ D.i1z.symm z1')))
  have kp : ∀ c o, c ≠ z → c ≠ TO → c ≠ i1 → c ≠ i2 → s.heap.get? c = some o → g5.get? c = some o := fun c o c1 c2 c3 c4 e => s5.extBut _ _ c2 (s4.extBut _ _ c4 (s3.extBut _ _ c2 (s2.extBut _ _ c3 (s1.extBut _ _ c1 e))))
  have j1 : g5.IsListIter i1 l1 (k1 + 1) := ((j2.extBut s3.extBut D.TOi1.symm).extBut s4.extBut D.i12).extBut s5.extBut D.TOi1.symm
  have j5 : g5.IsListIter i2 l2 (k2 + 1) := j4.extBut s5.extBut D.TOi2.symm
  have zl : z < g5.objs.size := Heap.lt_size z5
  show wpAny _ _ (Builtin.SmallTypes.ownedTupleHandOut (.ref z) (.ref g5.objs.size) >>= _) _ _ _; refine wpAny_bind ?_
  unfold Builtin.SmallTypes.ownedTupleHandOut;
  have z6 : ZAt (g5.push { cls := .type "tuple", data := .seq #[x, y] }) z TI TO .ellipsis (.bool f) := Heap.get?_push_of_some _ z5
  refine wpAny_bind (wpAny_setField_rec z6 (by simp) fun g7 z7 s7 => ?_)
  have z7' : ZAt g7 z TI TO (rawInt g5.objs.size) (.bool f) := z7
  refine wpAny_setField_rec z7' (by simp) fun g8 z8 s8 => ?_
  have z8' : ZAt g8 z TI TO (rawInt g5.objs.size) (.bool false) := z8
  have up : ∀ c o, c ≠ z → g5.get? c = some o → g8.get? c = some o := fun c o c1 e => s8.extBut _ _ c1 (s7.extBut _ _ c1 (Heap.get?_push_of_some _ e))
  have pn : IsPair g8 g5.objs.size x y := s8.extBut _ _ (Nat.ne_of_gt zl) (s7.extBut _ _ (Nat.ne_of_gt zl) (Heap.get?_push_size _ rfl))
  have sz : g8.objs.size = g5.objs.size + 1 := by rw [s8.1, s7.1, Heap.size_push]
  rw [es] at z8' pn sz; refine wpAny_pure ⟨_, rfl, ?_⟩
  show Q (.ref g5.objs.size) _; rw [es]
  exact hQ g8 z8' (up _ _ D.TOz p5') (j1.at fun o e => up _ o D.i1z e) (j5.at fun o e => up _ o D.i2z e) pn sz fun c o c1 c2 c3 c4 e => up c o c1 (kp c o c1 c2 c3 c4 e)
theorem zend_dead {z TI TO T i1 i2 l1 l2 : Addr} {f : Bool} {k1 k2 : Nat} {xs ys : Array Value} {a b : Value} {Q : Fin → Shared → Prop} (hh : A.handled = none) (D : ZipApart z TI TO i1 i2 l1 l2)
    (hz : IsZipHeld s.heap z TI TO T f) (hT : s.heap.get? T = none) (tI : IsPair s.heap TI (.ref i1) (.ref i2)) (tO : IsPair s.heap TO a b)
    (h1 : s.heap.IsListIter i1 l1 k1) (h2 : s.heap.IsListIter i2 l2 k2) (m1 : s.heap.IsList l1 xs) (m2 : s.heap.IsList l2 ys) (fin2 : xs[k1]? = none ∨ ys[k2]? = none)
    (no : ∀ h' e, (∀ c o, c ≠ z → c ≠ TO → c ≠ i1 → c ≠ i2 → s.heap.get? c = some o → h'.get? c = some o) → (∃ o, h'.get? e = some o ∧ o.cls = .type "StopIteration") → E (.ref e) { s with heap := h' }) :
    wpAny (model prog w) A ((Builtin.«zip.__next__» ⟨[.ref z], []⟩)) Q E s := by
  show wpAny _ _ (field (.ref z) 2 >>= _) _ _ _; refine wpAny_bind (wpAny_field hz rfl (x := .bool false) rfl ?_); show wpAny _ _ (field (.ref z) 3 >>= _) _ _ _
  refine wpAny_bind (wpAny_field hz rfl (x := .ref TI) rfl (wpAny_bind (wpAny_seqItems tI rfl ?_))); show wpAny _ _ (Builtin.SmallTypes.ownedTupleIsFree (.ref z) >>= _) _ _ _
  refine wpAny_bind (zfree_dead hz hT ?_); simp only [if_true]; refine wpAny_bind (wpAny_rule (wpAny_bind (wpAny_field hz rfl (x := .ref TO) rfl (wpAny_bind (wpAny_setField_rec hz (by simp) fun g1 z1 s1 => wpAny_bind ?_)))))
  have z1' : ZAt g1 z TI TO .ellipsis (.bool f) := z1
  simp only [List.zipIdx_cons, List.zipIdx_nil, List.forIn_cons, List.forIn_nil]; refine wpAny_bind (wpAny_bind (wpAny_onRaise ?_)); show wpAny _ _ (Builtin.SmallTypes.nextOf (.ref i1) >>= _) _ _ _
  cases hx : xs[k1]? with
  | none =>
    refine wpAny_bind (wpAny_nextOf_list_end hh (h1.extBut s1.extBut D.i1z) (m1.extBut s1.extBut D.l1z) hx fun g2 e s2 he => ?_); obtain ⟨oe, e1, e2⟩ := he
    have z2 : ZAt g2 z TI TO .ellipsis (.bool f) := s2 _ _ D.i1z.symm z1'
    have ez : e ≠ z := fun q => by subst q; rw [z2] at e1; cases e1; simp at e2
    exact wpAny_setField_rec z2 (by simp) fun g3 _ s3 => no g3 e (fun c o c1 _ c3 _ q => s3.extBut _ _ c1 (s2 _ _ c3 (s1.extBut _ _ c1 q))) ⟨oe, s3.extBut _ _ ez e1, e2⟩
  | some x =>
    have hy : ys[k2]? = none := fin2.resolve_left (by rw [hx]; exact fun q => nomatch q)
    refine wpAny_bind (wpAny_nextOf_list_item (h1.extBut s1.extBut D.i1z) (m1.extBut s1.extBut D.l1z) hx fun g2 j2 s2 => wpAny_pure ?_)
    have p2 : IsPair g2 TO a b := s2.extBut _ _ D.TOi1 (s1.extBut _ _ D.TOz tO)
    refine wpAny_bind (wpAny_seqItems p2 rfl (wpAny_bind (wpAny_updateSeq_pair p2 fun g3 p3 s3 => wpAny_bind (wpAny_letGo (wpAny_pure ?_)))))
    refine wpAny_bind (wpAny_bind (wpAny_onRaise ?_)); show wpAny _ _ (Builtin.SmallTypes.nextOf (.ref i2) >>= _) _ _ _
    refine wpAny_bind (wpAny_nextOf_list_end hh (((h2.extBut s1.extBut D.i2z).extBut s2.extBut D.i12.symm).extBut s3.extBut D.TOi2.symm) (((m2.extBut s1.extBut D.l2z).extBut s2.extBut D.l2i1).extBut s3.extBut D.l2TO) hy fun g4 e s4 he => ?_)
    obtain ⟨oe, e1, e2⟩ := he
    have z4 : ZAt g4 z TI TO .ellipsis (.bool f) := s4 _ _ D.i2z.symm (s3.extBut _ _ D.TOz.symm (s2.extBut _ _ D.i1z.symm z1'))
    have ez : e ≠ z := fun q => by subst q; rw [z4] at e1; cases e1; simp at e2
    exact wpAny_setField_rec z4 (by simp) fun g5 _ s5 => no g5 e (fun c o c1 c2 c3 c4 q => s5.extBut _ _ c1 (s4 _ _ c4 (s3.extBut _ _ c2 (s2.extBut _ _ c3 (s1.extBut _ _ c1 q))))) ⟨oe, s5.extBut _ _ ez e1, e2⟩
theorem znext_item {z TI TO T i1 i2 l1 l2 : Addr} {f : Bool} {k1 k2 : Nat} {xs ys : Array Value} {x y a b : Value} {Q : Option Value → Shared → Prop} (D : ZipApart z TI TO i1 i2 l1 l2)
    (hz : IsZipHeld s.heap z TI TO T f) (tI : IsPair s.heap TI (.ref i1) (.ref i2)) (tO : IsPair s.heap TO a b)
    (h1 : s.heap.IsListIter i1 l1 k1) (h2 : s.heap.IsListIter i2 l2 k2) (m1 : s.heap.IsList l1 xs) (m2 : s.heap.IsList l2 ys) (hx : xs[k1]? = some x) (hy : ys[k2]? = some y)
    (hQ : ∀ h', (∃ T f, IsZipHeld h' z TI TO T f) → (∃ a b, IsPair h' TO a b) → h'.IsListIter i1 l1 (k1 + 1) → h'.IsListIter i2 l2 (k2 + 1) → IsPair h' s.heap.objs.size x y → h'.objs.size = s.heap.objs.size + 1 → (∀ c o, c ≠ z → c ≠ TO → c ≠ i1 → c ≠ i2 → s.heap.get? c = some o → h'.get? c = some o) → Q (some (.ref s.heap.objs.size)) { s with heap := h' }) :
    wpAny (model prog w) A ((pyNext (.ref z))) Q E s := by
  cases hT : s.heap.get? T with
  | some oT =>
    exact wpAny_pyNext_zip_item_held D hz hT tI h1 h2 m1 m2 hx hy fun h' a1 a3 a4 a5 a6 a7 => hQ h' ⟨T, true, a1⟩ ⟨a, b, a7 _ _ D.TOz D.TOi1 D.TOi2 tO⟩ a3 a4 a5 a6 fun c o c1 _ c3 c4 e => a7 c o c1 c3 c4 e
  | none =>
    have ty : s.TypeIs (.ref z) "zip" := ⟨_, hz, rfl⟩
    unfold pyNext
    exact wpAny_bind (wpAny_attempt (wpAny_callSpecial?_slot (name := Str.ofString "__next__") ty F.slot_zip_next (wpAny_call_entry F.slot_zip_next ty F.entry_zip_next (znext_dead D hz hT tI tO h1 h2 m1 m2 hx hy fun h' a1 a2 a3 a4 a5 a6 a7 => wpAny_pure (hQ h' ⟨_, _, a1⟩ ⟨_, _, a2⟩ a3 a4 a5 a6 a7)) (F.args_zip_next_1 _))))
theorem znext_end {z TI TO T i1 i2 l1 l2 : Addr} {f : Bool} {k1 k2 : Nat} {xs ys : Array Value} {a b : Value} {Q : Option Value → Shared → Prop} (hh : A.handled = none) (D : ZipApart z TI TO i1 i2 l1 l2)
    (hz : IsZipHeld s.heap z TI TO T f) (tI : IsPair s.heap TI (.ref i1) (.ref i2)) (tO : IsPair s.heap TO a b)
    (h1 : s.heap.IsListIter i1 l1 k1) (h2 : s.heap.IsListIter i2 l2 k2) (m1 : s.heap.IsList l1 xs) (m2 : s.heap.IsList l2 ys) (fin2 : xs[k1]? = none ∨ ys[k2]? = none)
    (kq : ∀ h', (∀ c o, c ≠ z → c ≠ TO → c ≠ i1 → c ≠ i2 → s.heap.get? c = some o → h'.get? c = some o) → Q none { s with heap := h' }) : wpAny (model prog w) A (pyNext (.ref z)) Q E s := by
  cases hT : s.heap.get? T with
  | some oT => exact wpAny_pyNext_zip_end_held hh D hz hT tI h1 h2 m1 m2 fin2 fun h' k => kq h' fun c o c1 _ c3 c4 e => k c o c1 c3 c4 e
  | none =>
    have ty : s.TypeIs (.ref z) "zip" := ⟨_, hz, rfl⟩
    unfold pyNext
    refine wpAny_bind (wpAny_attempt (wpAny_callSpecial?_slot (name := Str.ofString "__next__") ty F.slot_zip_next (wpAny_call_entry F.slot_zip_next ty F.entry_zip_next (zend_dead hh D hz hT tI tO h1 h2 m1 m2 fin2 fun h' e hk he => ?_) (F.args_zip_next_1 _))))
    obtain ⟨o, ho, hc⟩ := he
    exact wpAny_bind (wpAny_isInstance (T := "StopIteration") (b := true) ⟨o, ho, hc⟩ isSubtype_stop (wpAny_pure (kq _ hk)))
end
end PySem

set_option Elab.async false
set_option linter.all false
set_option maxRecDepth 100000
set_option maxHeartbeats 2000000
namespace L2
open PySem PySem.Spec PyProof.Rows
/-! ## zip by a plain name -/
theorem turn_zipN {P : Program} {w : World} {K : PySem.W.Frag} {nx : Str} {tpos : Pos} {a b z TI TO i1 i2 : Addr} (D : ZipApart z TI TO i1 i2 a b) :
    Turn P w K (.Name nx tpos) (Itz K a b) [z, TI, TO, i1, i2] z (fun i h => (IsZip h z TI TO .none ∨ ∃ T f, IsZipHeld h z TI TO T f) ∧ IsPair h TI (.ref i1) (.ref i2) ∧ (∃ x y, IsPair h TO x y) ∧ h.IsListIter i1 a i ∧ h.IsListIter i2 b i) where
  mem := by simp
  obj := fun i h st c hc => by
    obtain ⟨hz, tI, ⟨x, y, tO⟩, ⟨o1, e1, _, d1⟩, ⟨o2, e2, _, d2⟩⟩ := st
    have ec : c = z ∨ c = TI ∨ c = TO ∨ c = i1 ∨ c = i2 := by simpa using hc
    rcases ec with q | q | q | q | q <;> subst q
    · rcases hz with hz | ⟨T, f, hz⟩ <;> exact ⟨_, hz, fun v q => nomatch q⟩
    · exact ⟨_, tI, fun v q => nomatch q⟩
    · exact ⟨_, tO, fun v q => nomatch q⟩
    · exact ⟨o1, e1, fun v q => by rw [d1] at q; cases q⟩
    · exact ⟨o2, e2, fun v q => by rw [d2] at q; cases q⟩
  keep := fun i h h' st k => by
    obtain ⟨hz, tI, ⟨x, y, tO⟩, h1, h2⟩ := st
    refine ⟨?_, k TI (by simp) _ tI, ⟨x, y, k TO (by simp) _ tO⟩, h1.at fun o q => k i1 (by simp) o q, h2.at fun o q => k i2 (by simp) o q⟩
    rcases hz with hz | ⟨T, f, hz⟩
    · exact .inl (k z (by simp) _ hz)
    · exact .inr ⟨T, f, k z (by simp) _ hz⟩
  item := by
    intro X eP ew eK hc i pins s σ H E I hf st hg
    subst eP ew eK
    obtain ⟨hz, tI, ⟨x0, y0, tO⟩, h1, h2⟩ := st
    obtain ⟨xs, ys, x, y, lx, ly, hx, hy⟩ := hg
    obtain ⟨as1, ra, p, _⟩ := I.list lx
    obtain ⟨as2, rb, p2, _⟩ := I.list ly
    obtain ⟨u, uh, ru⟩ := ra.get hx
    obtain ⟨u2, uh2, ru2⟩ := rb.get hy
    have fin : ∀ h', (∃ T f, IsZipHeld h' z TI TO T f) → (∃ a b, IsPair h' TO a b) → h'.IsListIter i1 a (i + 1) → h'.IsListIter i2 b (i + 1) → IsPair h' s.heap.objs.size u u2 → h'.objs.size = s.heap.objs.size + 1 → (∀ c o, c ≠ z → c ≠ TO → c ≠ i1 → c ≠ i2 → s.heap.get? c = some o → h'.get? c = some o) →
        ∃ v, some (Value.ref s.heap.objs.size) = some v ∧ wpAny (model X.prog X.w) X.A (letOwnedTupleGo (.Name nx tpos) (.ref z) v) (fun _ s2 => ∃ x H', Inv X pins σ H' s2 ∧ RelV x v ∧ (Itz X.K a b).yld i H x H' ∧ ((IsZip s2.heap z TI TO .none ∨ ∃ T f, IsZipHeld s2.heap z TI TO T f) ∧ IsPair s2.heap TI (.ref i1) (.ref i2) ∧ (∃ x y, IsPair s2.heap TO x y) ∧ s2.heap.IsListIter i1 a (i + 1) ∧ s2.heap.IsListIter i2 b (i + 1)) ∧ ∀ b ∈ [z, TI, TO, i1, i2], H' b = none) E { s with heap := h' } :=
      fun h' q1 q2 q3 q4 q5 q6 q7 => by
        refine ⟨_, rfl, wpAny_pure ?_⟩
        have new : ObjOk X.prog X.w (upd H s.heap.objs.size (.tup [x, y])) h' s.heap.objs.size (.tup [x, y]) := ⟨by show 2 ≤ sizeLine; decide, [u, u2], .cons ru (.cons ru2 .nil), ⟨_, q5, rfl, _, rfl⟩⟩
        have I1 : Inv X pins σ (upd H s.heap.objs.size (.tup [x, y])) { s with heap := h' } :=
          I.turnedNew (t' := s.toks) (ch := [z, TI, TO, i1, i2]) (fun c o hb q => q7 c o (fun e => hb (by simp [e])) (fun e => hb (by simp [e])) (fun e => hb (by simp [e])) (fun e => hb (by simp [e])) q) hf (Nat.le_refl _) new
        refine ⟨.ref s.heap.objs.size, _, I1, rfl, ⟨_, x, y, rfl, I.hok.fresh (Nat.le_refl _), rfl, fun l hl => by rw [I.list_inj hl lx]; exact hx, fun l hl => by rw [I.list_inj hl ly]; exact hy⟩, ⟨.inr q1, q7 _ _ D.TIz D.TITO D.TIi1 D.TIi2 tI, q2, q3, q4⟩, fun c hmc => ?_⟩
        have hlt : c < s.heap.objs.size := by
          have ec : c = z ∨ c = TI ∨ c = TO ∨ c = i1 ∨ c = i2 := by simpa using hmc
          rcases ec with q | q | q | q | q <;> subst q
          · rcases hz with hz | ⟨T, f, hz⟩ <;> exact Heap.lt_size hz
          · exact Heap.lt_size tI
          · exact Heap.lt_size tO
          · obtain ⟨_, e1, _⟩ := h1; exact Heap.lt_size e1
          · obtain ⟨_, e2, _⟩ := h2; exact Heap.lt_size e2
        rw [L2.upd_ne (Nat.ne_of_lt hlt)]
        exact (hf c hmc).1
    rcases hz with hz | ⟨T, f, hz⟩
    · exact wpAny_pyNext_zip_item D hz tI tO h1 h2 p.isList p2.isList (x := u) (y := u2) (by simpa using uh) (by simpa using uh2) fun h' q1 q2 q3 q4 q5 q6 q7 => fin h' ⟨_, _, q1⟩ ⟨_, _, q2⟩ q3 q4 q5 q6 q7
    · exact znext_item D hz tI tO h1 h2 p.isList p2.isList (x := u) (y := u2) (by simpa using uh) (by simpa using uh2) fin
  done := by
    intro X eP ew eK hc i pins s σ H E I hf st hg
    subst eP ew eK
    obtain ⟨hz, tI, ⟨x0, y0, tO⟩, h1, h2⟩ := st
    obtain ⟨xs, ys, lx, ly, fin2⟩ := hg
    obtain ⟨as1, ra, p, _⟩ := I.list lx
    obtain ⟨as2, rb, p2, _⟩ := I.list ly
    have l1 := ra.length
    have l2 := rb.length
    have he : as1.toArray[i]? = none ∨ as2.toArray[i]? = none := fin2.imp (fun q => by simp; omega) (fun q => by simp; omega)
    have fin : ∀ h', (∀ c o, c ≠ z → c ≠ TO → c ≠ i1 → c ≠ i2 → s.heap.get? c = some o → h'.get? c = some o) → (none : Option Value) = none ∧ Inv X pins σ H { s with heap := h' } :=
      fun h' hk => ⟨rfl, I.turnedL (t' := s.toks) (ch := [z, TI, TO, i1, i2]) (fun c o hb q => hk c o (fun e => hb (by simp [e])) (fun e => hb (by simp [e])) (fun e => hb (by simp [e])) (fun e => hb (by simp [e])) q) hf⟩
    rcases hz with hz | ⟨T, f, hz⟩
    · exact wpAny_pyNext_zip_end (I.ok.hd hc) D hz tI tO h1 h2 p.isList p2.isList he fin
    · exact znext_end (I.ok.hd hc) D hz tI tO h1 h2 p.isList p2.isList he fin
  self := fun B i s Q E st h => by
    have go : s.TypeIs (.ref z) "zip" := by
      rcases st.1 with hz | ⟨T, f, hz⟩
      · exact ⟨_, hz, rfl⟩
      · exact ⟨_, hz, rfl⟩
    exact wpAny_pyIter_slot go F.slot_zip_iter (wpAny_call_entry F.slot_zip_iter go F.entry_zip_iter (show wpAny _ _ (ret (.ref z)) _ _ s from wpAny_pure ⟨_, rfl, "zip", _, go, F.slot_zip_next.lookup, h⟩) (F.args_zip_iter_1 _))
theorem pi_zipN {X : Cx} {e e2 : Expr} {ta : TA} {p pos tpos : Pos} {nx : Str} (hg : Gl X "zip") (hm : X.mg "zip" = none) (ha : PA X [e, e2] ta)
    (st1 : starEach [e, e2] X.env = (false, eval e X.env) :: starEach [e2] X.env := by rfl) (hpl : (backTo pos (starEach [e2] X.env)).any (·.1) = false := by rfl) :
    PI X (.Name nx tpos) (.Call (.Name "zip" p) [e, e2] [] pos) (iZip X.K ta) := by
  refine ⟨fun pins s σ H R I h => Call_ (ld_blt I hg hm PyProof.Rows.boot_zip (PyProof.Rows.callWith_type1 (thn (ha.run pos pins s σ H _ I h) fun us s1 ⟨vs, H1, I1, r1, q1⟩ => ?_) st1 hpl))⟩
  obtain ⟨a, b, xs, ys, ex, lx, ly, q⟩ := q1
  subst ex
  cases r1 with
  | cons r rr =>
    cases rr with
    | cons r' rr =>
      cases rr
      cases r
      cases r'
      obtain ⟨as1, ra, p1, _⟩ := I1.list lx
      obtain ⟨as2, rb, p2, _⟩ := I1.list ly
      refine call_zip_2 p1.isList p2.isList fun h' hz tI tO h1 h2 hsz hk => wpAny_pyIter_zip hz ?_
      have J2 : Inv X pins σ H1 { s1 with heap := h' } := I1.kept (t' := s1.toks) hk
      refine ⟨_, [s1.heap.objs.size + 4, s1.heap.objs.size + 2, s1.heap.objs.size + 3, s1.heap.objs.size, s1.heap.objs.size + 1], _, _, H1, rfl, J2, turn_zipN (PySem.W.ktu_apart s1.heap.objs.size a b p1.lt p2.lt), ⟨.inl hz, tI, ⟨_, _, tO⟩, h1, h2⟩, fun c hmc => ?_, q⟩
      have le : s1.heap.objs.size ≤ c := by
        simp only [List.mem_cons, List.not_mem_nil, or_false] at hmc
        rcases hmc with q | q | q | q | q <;> rw [q] <;> omega
      exact I1.fpOk le (I1.hok.fresh le)
end L2

set_option Elab.async false
set_option linter.all false
set_option maxRecDepth 100000
set_option maxHeartbeats 2000000
namespace Wl
open PySem L2
open PySem.Spec PyProof.Rows
/-! ## walks under a guard: what is walked may change, but must stand at each turn as it stood -/
structure ItG (K : PySem.W.Frag) (J : It) (I : Hp) (ds : List Dv) (G : Mu → Prop) : Prop where
  go : ∀ i μ I' H, Same I I' → SatM K I' μ H → G μ → i < ds.length → J.go i H
  stop : ∀ μ I' H, Same I I' → SatM K I' μ H → G μ → J.stop ds.length H
  yld : ∀ i μ I' H x H' d, Same I I' → SatM K I' μ H → G μ → ds[i]? = some d → J.yld i H x H' → ∃ I'', Same I' I'' ∧ SatM K I'' μ H' ∧ Rep K I'' d x
abbrev DIG := DSt → Mu → (List Dv → (Mu → Prop) → Mu → Prop) → Prop
def RIG (S : Sg) (wi : TI) (t : DIG) : Prop := ∀ I δ μ σ H, Same S.J I → SatM S.K I μ H → RepS S.K I δ σ → ∀ (Q : List Dv → (Mu → Prop) → Mu → Prop) (Q' : It → Hp → Prop), t δ μ Q →
  (∀ I' ds G μ' H' J, Same I I' → SatM S.K I' μ' H' → ItG S.K J I' ds G → Q ds G μ' → Q' J H') → wi σ H Q'
def WIG (S : Sg) {ι : Type} (F : ι → Cx) (tg e : Expr) (t : DIG) : Prop := ∃ te, (∀ i, Is S (F i) → PI (F i) tg e te) ∧ RIG S te t
/-- a list or a tuple, fixed or not -/
def wAny (t : DE) : DIG := fun δ μ Q => t δ μ fun x μ1 => match x with
  | .tup xs => Q xs (fun _ => True) μ1
  | .rot xs => Q xs (fun _ => True) μ1
  | .lst xs => Q xs (fun _ => True) μ1
  | .rol xs => Q xs (fun _ => True) μ1
  | .ref a => ∃ xs, μ1 a = some (.lst xs) ∧ Q xs (fun μ => μ a = some (.lst xs)) μ1
  | _ => False
theorem ItOk.g {K : PySem.W.Frag} {J : It} {I : Hp} {ds : List Dv} (h : ItOk K J I ds) : ItG K J I ds (fun _ => True) :=
  ⟨fun i μ I' H e S _ hi => h.go i μ I' H e S hi, fun μ I' H e S _ => h.stop μ I' H e S, fun i μ I' H x H' d e S _ hd hy => h.yld i μ I' H x H' d e S hd hy⟩
theorem itg_ref {K : PySem.W.Frag} {I : Hp} {a : Addr} {xs : List Dv} : ItG K (Itl K a) I xs (fun μ => μ a = some (.lst xs)) := by
  refine ⟨fun i μ I' H e SM g hi => ?_, fun μ I' H e SM g => ?_, fun i μ I' H x H' d e SM g hd hy => ?_⟩
  · obtain ⟨vs, r, h⟩ := SM.memo g
    exact ⟨vs, vs[i]'(r.length ▸ hi), .inl (.inl h), by simp⟩
  · obtain ⟨vs, r, h⟩ := SM.memo g
    exact ⟨vs, .inl (.inl h), by rw [r.length]; exact Nat.le_refl _⟩
  · obtain ⟨vs, r, h⟩ := SM.memo g
    obtain ⟨rfl, hy⟩ := hy
    obtain ⟨v, h1, h2⟩ := r.get hd
    have h3 := hy vs (.inl (.inl h))
    rw [h1] at h3
    cases h3
    exact ⟨I', Same.refl _, SM, h2⟩
section
variable {S : Sg} {ι : Type} {F : ι → Cx} {pos : Pos}
theorem wi_any {tg e : Expr} {t : DE} (he : WE S F e t) : WIG S F tg e (wAny t) :=
  let ⟨ta, a1, a2⟩ := he
  ⟨iSeq S.K ta, fun i hi => hi.K ▸ pi_seq (a1 i hi), fun I δ μ σ H hJ SM hS Q Q' q u => a2 I δ μ σ H hJ SM hS _ _ q fun I1 x vx μ1 H1 e1 S1 r1 q1 => by
    cases r1 <;> first | exact False.elim q1 | skip
    · obtain ⟨xs, em, q2⟩ := q1
      obtain ⟨vs, r, h⟩ := S1.memo em
      exact ⟨_, rfl, .inl ⟨⟨_, .inl (.inl h)⟩, u I1 _ _ μ1 H1 _ e1 S1 itg_ref q2⟩⟩
    · rename_i h1 h2; exact ⟨_, rfl, .inr ⟨⟨_, .inl (.inl (S1.ex _ _ h1))⟩, u I1 _ _ μ1 H1 _ e1 S1 (itt_ok (.inl (.inl h1)) h2).g q1⟩⟩
    · rename_i h1 h2; exact ⟨_, rfl, .inr ⟨⟨_, same_t S1.ex h1⟩, u I1 _ _ μ1 H1 _ e1 S1 (itt_ok h1 h2).g q1⟩⟩
    · rename_i h1 h2; exact ⟨_, rfl, .inl ⟨⟨_, .inl (.inl (S1.ex _ _ h1))⟩, u I1 _ _ μ1 H1 _ e1 S1 (itl_ok (.inl (.inl h1)) h2).g q1⟩⟩
    · rename_i h1 h2; exact ⟨_, rfl, .inl ⟨⟨_, same_l S1.ex h1⟩, u I1 _ _ μ1 H1 _ e1 S1 (itl_ok h1 h2).g q1⟩⟩⟩
/-! zip(xs, ys) of two lists -/
def lstAt (μ : Mu) : Dv → (List Dv → (Mu → Prop) → Prop) → Prop
  | .lst xs, Q => Q xs (fun _ => True)
  | .rol xs, Q => Q xs (fun _ => True)
  | .ref a, Q => ∃ xs, μ a = some (.lst xs) ∧ Q xs (fun μ => μ a = some (.lst xs))
  | _, _ => False
def pairsD : List Dv → List Dv → List Dv
  | x :: xs, y :: ys => .tup [x, y] :: pairsD xs ys
  | _, _ => []
theorem pairsD_get : ∀ {xs ys : List Dv} {i : Nat} {d : Dv}, (pairsD xs ys)[i]? = some d → ∃ x y, xs[i]? = some x ∧ ys[i]? = some y ∧ d = .tup [x, y]
  | x :: xs, y :: ys, 0, d, e => ⟨x, y, rfl, rfl, by simp [pairsD] at e; exact e.symm⟩
  | x :: xs, y :: ys, i + 1, d, e => by
    obtain ⟨a, b, h1, h2, h3⟩ := pairsD_get (xs := xs) (ys := ys) (i := i) (d := d) (by simpa [pairsD] using e)
    exact ⟨a, b, by simpa using h1, by simpa using h2, h3⟩
  | [], ys, i, d, e => by simp [pairsD] at e
  | x :: xs, [], i, d, e => by simp [pairsD] at e
theorem pairsD_len : ∀ (xs ys : List Dv), (pairsD xs ys).length = min xs.length ys.length
  | [], ys => by simp [pairsD]
  | x :: xs, [] => by simp [pairsD]
  | x :: xs, y :: ys => by simp [pairsD, pairsD_len xs ys]
def wZip (t : DA) : DIG := fun δ μ Q => t δ μ fun xs μ1 => match xs with
  | [x, y] => lstAt μ1 x fun as g => lstAt μ1 y fun bs h => Q (pairsD as bs) (fun μ => g μ ∧ h μ) μ1
  | _ => False
structure LstIs (K : PySem.W.Frag) (I : Hp) (a : Addr) (xs : List Dv) (G : Mu → Prop) : Prop where
  at_ : ∀ μ I' H, Same I I' → SatM K I' μ H → G μ → ∃ vs, SqL K H a vs ∧ RepL K I' xs vs
theorem lstAt_ok {K : PySem.W.Frag} {I H : Hp} {μ : Mu} {x : Dv} {v : V} {Q : List Dv → (Mu → Prop) → Prop} (S : SatM K I μ H) (r : Rep K I x v) (q : lstAt μ x Q) : ∃ a xs G, v = .ref a ∧ LstIs K I a xs G ∧ G μ ∧ Q xs G := by
  cases r <;> first | exact False.elim q | skip
  · obtain ⟨xs, em, q⟩ := q
    exact ⟨_, xs, _, rfl, ⟨fun μ' I' H' e' S' g => by obtain ⟨vs, r, h⟩ := S'.memo g; exact ⟨vs, .inl (.inl h), r⟩⟩, em, q⟩
  · rename_i h1 h2
    exact ⟨_, _, _, rfl, ⟨fun μ' I' H' e' S' _ => ⟨_, .inl (.inl (S'.ex _ _ (e' _ _ h1))), h2.mono e' _ _⟩⟩, trivial, q⟩
  · rename_i h1 h2
    exact ⟨_, _, _, rfl, ⟨fun μ' I' H' e' S' _ => ⟨_, same_l S'.ex (same_l e' h1), h2.mono e' _ _⟩⟩, trivial, q⟩
theorem itz_ok {K : PySem.W.Frag} {I : Hp} {a b : Addr} {xs ys : List Dv} {g h : Mu → Prop} (la : LstIs K I a xs g) (lb : LstIs K I b ys h) : ItG K (Itz K a b) I (pairsD xs ys) (fun μ => g μ ∧ h μ) := by
  refine ⟨fun i μ I' H e SM G hi => ?_, fun μ I' H e SM G => ?_, fun i μ I' H x H' d e SM G hd hy => ?_⟩
  · obtain ⟨vs, s1, r1⟩ := la.at_ μ I' H e SM G.1
    obtain ⟨us, s2, r2⟩ := lb.at_ μ I' H e SM G.2
    rw [pairsD_len, r1.length, r2.length] at hi
    exact ⟨vs, us, vs[i]'(by omega), us[i]'(by omega), s1, s2, by simp, by simp⟩
  · obtain ⟨vs, s1, r1⟩ := la.at_ μ I' H e SM G.1
    obtain ⟨us, s2, r2⟩ := lb.at_ μ I' H e SM G.2
    refine ⟨vs, us, s1, s2, ?_⟩
    rw [pairsD_len, r1.length, r2.length]
    omega
  · obtain ⟨vs, s1, r1⟩ := la.at_ μ I' H e SM G.1
    obtain ⟨us, s2, r2⟩ := lb.at_ μ I' H e SM G.2
    obtain ⟨dx, dy, h1, h2, rfl⟩ := pairsD_get hd
    obtain ⟨T, x', y', rfl, hT, rfl, k1, k2⟩ := hy
    obtain ⟨v, e1, q1⟩ := r1.get h1
    obtain ⟨u, e2, q2⟩ := r2.get h2
    have z1 := k1 vs s1
    have z2 := k2 us s2
    rw [e1] at z1
    rw [e2] at z2
    cases z1
    cases z2
    obtain ⟨s3, s4⟩ := SM.newI hT (.tup [x', y'])
    exact ⟨_, s3, s4, .tup upd_same (.cons (q1.mono s3 _ _) (.cons (q2.mono s3 _ _) .nil))⟩
theorem wi_zipN {nx : Str} {tpos p : Pos} {a b : Expr} {t : DA} (hm : S.mg "zip" = none) (ha : WA S F [a, b] t) (hg : ∀ j, Gl (F j) "zip" := by exact fun _ => rfl) (hs : ∀ env, starEach [a, b] env = (false, eval a env) :: starEach [b] env := by exact fun _ => rfl) (hp : ∀ env, (backTo pos (starEach [b] env)).any (·.1) = false := by exact fun _ => rfl) :
    WIG S F (.Name nx tpos) (.Call (.Name "zip" p) [a, b] [] pos) (wZip t) :=
  let ⟨ta, a1, a2⟩ := ha
  ⟨iZip S.K ta, fun i hi => hi.K ▸ pi_zipN (hg i) (hi.mg ▸ hm) (a1 i hi) (hs _) (hp _), fun I δ μ σ H hJ SM hS Q Q' q u => a2 I δ μ σ H hJ SM hS _ _ q fun I1 ds vs μ1 H1 e1 S1 r1 q1 => by
    cases r1 with
    | nil => exact q1.elim
    | cons r1 r2 =>
      cases r2 with
      | nil => exact q1.elim
      | cons r2 r3 =>
        cases r3 with
        | cons _ _ => exact q1.elim
        | nil =>
          obtain ⟨aa, xs, g, rfl, la, ga, q2⟩ := lstAt_ok S1 r1 q1
          obtain ⟨bb, ys, h, rfl, lb, gb, q3⟩ := lstAt_ok S1 r2 q2
          obtain ⟨vs, s1, _⟩ := la.at_ μ1 I1 H1 (Same.refl _) S1 ga
          obtain ⟨us, s2, _⟩ := lb.at_ μ1 I1 H1 (Same.refl _) S1 gb
          exact ⟨aa, bb, vs, us, rfl, s1, s2, u I1 _ _ μ1 H1 _ e1 S1 (itz_ok la lb) q3⟩⟩
/-! for x in .. -/
def sLoopG (G : Mu → Prop) (g : DG) (tb : DS) : List Dv → DEnds → DSt → Mu → Prop
  | [], D, δ, μ => G μ ∧ D.nx δ μ
  | d :: ds, D, δ, μ => G μ ∧ g d δ μ fun δ1 μ1 => tb { nx := sLoopG G g tb ds D, ct := sLoopG G g tb ds D, bk := D.nx, rt := D.rt } δ1 μ1
def sForG (wi : DIG) (g : DG) (tb : DS) : DS := fun D δ μ => wi δ μ fun ds G μ1 => sLoopG G g tb ds D δ μ1
theorem ws_forG {tg iter : Expr} {body : List Stmt} {wi : DIG} {g : DG} {tb : DS} (hi : WIG S F tg iter wi) (hg : WG S F tg g) (hb : WSs S F body tb) (hs : ∀ env, ∀ x, foldedSetIterable iter env x = pure x := by exact fun _ _ => rfl) (hcold : S.cold = false := by rfl) :
    WS S F (.For tg iter body [] pos) (sForG wi g tb) :=
  let ⟨ti, i1, i2⟩ := hi; let ⟨tg', g1, g2⟩ := hg; let ⟨tb', b1, b2⟩ := hb
  ⟨_, fun i h => ps_for h.own (h.calm hcold) (i1 i h) (g1 i h) (b1 i h) (hs _), fun I δ μ σ H hJ SM hS D D' q u => i2 I δ μ σ H hJ SM hS _ _ q fun I1 ds G μ1 H1 J e1 S1 ok q1 => by
    refine ⟨fun i m σ' H' => m = ds.length - i ∧ i ≤ ds.length ∧ ∃ I' δ' μ', Same I1 I' ∧ SatM S.K I' μ' H' ∧ RepS S.K I' δ' σ' ∧ sLoopG G g tb (ds.drop i) D δ' μ', ⟨ds.length, by simp, Nat.zero_le _, I1, δ, μ1, Same.refl _, S1, hS.mono e1, by simpa using q1⟩, ?_⟩
    rintro i m σ' H' ⟨rfl, hle, I', δ', μ', e', S', R', q'⟩
    by_cases hlt : i < ds.length
    · rw [List.drop_eq_getElem_cons hlt] at q'
      obtain ⟨hG, q'⟩ := q'
      refine .inr ⟨ok.go i μ' I' H' e' S' hG hlt, fun σ2 H2 => ∃ I2 δ2 μ2, Same I1 I2 ∧ SatM S.K I2 μ2 H2 ∧ RepS S.K I2 δ2 σ2 ∧ sLoopG G g tb (ds.drop (i + 1)) D δ2 μ2, fun σ2 H2 w => ⟨ds.length - (i + 1), by omega, rfl, hlt, w⟩, fun x H2 hy => ?_⟩
      obtain ⟨I2, e2, S2, r2⟩ := ok.yld i μ' I' H' x H2 ds[i] e' S' hG (by simp [hlt]) hy
      refine g2 I2 δ' μ' σ' H2 _ _ ((hJ.trans e1).trans (e'.trans e2)) S2 (R'.mono e2) r2 _ _ q' fun I3 δ3 σ3 μ3 H3 e3 S3 R3 q3 => ?_
      have e13 := (e'.trans e2).trans e3
      exact b2 I3 δ3 μ3 σ3 H3 ((hJ.trans e1).trans e13) S3 R3 _ _ q3 ⟨fun I4 δ4 σ4 μ4 H4 e4 S4 R4 q4 => ⟨I4, δ4, μ4, e13.trans e4, S4, R4, q4⟩, u.rt.mono (e1.trans e13), u.nx.mono (e1.trans e13), fun I4 δ4 σ4 μ4 H4 e4 S4 R4 q4 => ⟨I4, δ4, μ4, e13.trans e4, S4, R4, q4⟩⟩
    · obtain rfl : i = ds.length := by omega
      rw [List.drop_length] at q'
      exact .inl ⟨ok.stop μ' I' H' e' S' q'.1, u.nx I' δ' σ' μ' H' (e1.trans e') S' R' q'.2⟩⟩
/-! [.. for x in ..] -/
def vLoopG (G : Mu → Prop) (vs : List Nat) (g : DG) (tt : DT) (te : DE) (δ : DSt) (D : Addr) : List Dv → Mu → (List Dv → Mu → Prop) → Prop
  | [], μ, Q => G μ ∧ ∃ acc, μ D = some (.lst acc) ∧ Q acc μ
  | d :: ds, μ, Q => G μ ∧ g d (dwipe δ vs) μ fun δ1 μ1 => tt δ1 μ1 fun b μ2 => if b = true then te δ1 μ2 fun y μ3 => ∃ acc, μ3 D = some (.lst acc) ∧ acc.length < sizeLine ∧ vLoopG G vs g tt te δ D ds (mset μ3 D (.lst (acc ++ [y]))) Q else vLoopG G vs g tt te δ D ds μ2 Q
def vCompG (vs : List Nat) (wi : DIG) (g : DG) (tt : DT) (te : DE) : DE := fun δ μ Q => wi δ μ fun ds G μ1 => ∀ D, μ1 D = none → vLoopG G vs g tt te δ D ds (mset μ1 D (.lst [])) fun acc μ2 => Q (.lst acc) (mdel μ2 D)
def vCompGM (vs : List Nat) (wi : DIG) (g : DG) (tt : DT) (te : DE) : DE := fun δ μ Q => wi δ μ fun ds G μ1 => ∀ D, μ1 D = none → vLoopG G vs g tt te δ D ds (mset μ1 D (.lst [])) fun _ μ2 => Q (.ref D) μ2
theorem re_compG0 {vs : List Nat} {ti : TI} {wi : DIG} {tg : TG} {g : DG} {t1 : TT} {tt : DT} {t2 : TE} {te : DE} (i2 : RIG S ti wi) (g2 : RGv S.blk vs tg g) (b2 : RT S.blk t1 tt) (c2 : RE S.blk t2 te) (P : Addr → List Dv → Mu → Prop) :
    ∀ I δ μ σ H, Same S.J I → SatM S.K I μ H → RepS S.K I δ σ → ∀ (Q' : VK), (wi δ μ fun ds G μ1 => ∀ D, μ1 D = none → vLoopG G vs g tt te δ D ds (mset μ1 D (.lst [])) (P D)) →
      (∀ I' D acc μ' H', Same I I' → SatM S.K I' μ' H' → μ' D = some (.lst acc) → P D acc μ' → Q' (.ref D) H') → tLc ti tg t1 t2 vs σ H Q' :=
  fun I δ μ σ H hJ SM hS Q' q u => i2 I δ μ σ H hJ SM hS _ _ q fun I1 ds G μ1 H1 J e1 S1 ok q1 D hD => by
    refine ⟨fun i m H' => m = ds.length - i ∧ i ≤ ds.length ∧ ∃ I' μ', Same I1 I' ∧ SatM S.K I' μ' H' ∧ vLoopG G vs g tt te δ D (ds.drop i) μ' (P D),
      ⟨ds.length, by simp, Nat.zero_le _, I1, _, Same.refl _, S1.setM (m := .lst []) (S1.ex.free hD) ⟨[], .nil, upd_same⟩, by simpa using q1 D (S1.muNone hD)⟩, ?_⟩
    rintro i m H' ⟨rfl, hle, I', μ', e', S', q'⟩
    by_cases hlt : i < ds.length
    · rw [List.drop_eq_getElem_cons hlt] at q'
      obtain ⟨hG, q'⟩ := q'
      refine .inr ⟨ok.go i μ' I' H' e' S' hG hlt, fun H2 => ∃ I2 μ2, Same I1 I2 ∧ SatM S.K I2 μ2 H2 ∧ vLoopG G vs g tt te δ D (ds.drop (i + 1)) μ2 (P D),
        fun H2 w => ⟨ds.length - (i + 1), by omega, rfl, hlt, w⟩, fun x H2 hy => ?_⟩
      obtain ⟨I2, e2, S2, r2⟩ := ok.yld i μ' I' H' x H2 ds[i] e' S' hG (by simp [hlt]) hy
      have hJ2 := (hJ.trans e1).trans (e'.trans e2)
      refine g2 I2 _ μ' _ H2 _ _ hJ2 S2 ((hS.mono (e1.trans (e'.trans e2))).wipe vs) r2 _ _ q' fun I3 δ3 σ3 μ3 H3 e3 S3 R3 w3 q3 => ⟨w3.trans wipe_wipe, ?_⟩
      refine b2 I3 δ3 μ3 σ3 H3 (hJ2.trans e3) S3 R3 _ _ q3 fun I4 b μ4 H4 e4 S4 q4 => ?_
      have e14 := ((e'.trans e2).trans e3).trans e4
      cases b with
      | false =>
        rw [if_neg Bool.false_ne_true] at q4 ⊢
        exact ⟨I4, μ4, e14, S4, q4⟩
      | true =>
        rw [if_pos rfl] at q4 ⊢
        refine c2 I4 δ3 μ4 σ3 H4 ((hJ2.trans e3).trans e4) S4 (R3.mono e4) _ _ q4 fun I5 y vy μ5 H5 e5 S5 r5 q5 => ?_
        obtain ⟨acc, em, hl, q6⟩ := q5
        obtain ⟨vs', rl, hv⟩ := S5.memo em
        exact ⟨vs', hv, by rw [← rl.length]; exact hl, I5, _, e14.trans e5, S5.setM (m := .lst (acc ++ [y])) (S5.mu _ _ em).1 ⟨_, rl.append (.cons r5 .nil), upd_same⟩, q6⟩
    · obtain rfl : i = ds.length := by omega
      rw [List.drop_length] at q'
      obtain ⟨hG, acc, em, q6⟩ := q'
      exact .inl ⟨ok.stop μ' I' H' e' S' hG, u I' D acc μ' H' (e1.trans e') S' em q6⟩
theorem we_compG {elt tg iter : Expr} {ifs : List Expr} {scope : Scope} {own : List (Str × Nat)} {wi : DIG} {g : DG} {tt : DT} {te : DE} (hN : S.N.Nodup) (hi : WIG S F tg iter wi) (ok : ∀ i, BlkOk S.N (F i).env.scope scope own)
    (hg : WGv S.blk (blkF F scope) (own.map (·.2)) tg g) (ht : WTs S.blk (blkF F scope) ifs tt) (he : WE S.blk (blkF F scope) elt te) (hs : ∀ env, ∀ x, foldedSetIterable iter env x = pure x := by exact fun _ _ => rfl) (hcold : S.cold = false := by rfl) :
    WE S F (.ListComp elt [⟨tg, iter, ifs, 0⟩] scope pos) (vCompG (own.map (·.2)) wi g tt te) :=
  let ⟨ti, i1, i2⟩ := hi; let ⟨tg', g1, g2⟩ := hg; let ⟨t1, b1, b2⟩ := ht; let ⟨t2, c1, c2⟩ := he
  ⟨_, fun i h => pe_lc (h.calm hcold) (h.N ▸ hN) (i1 i h) (h.N ▸ ok i) (fun s H C cl fp => g1 (i, s, H, C, cl, fp) (h.blk s H scope _ fp)) (fun s H C cl fp => b1 (i, s, H, C, cl, fp) (h.blk s H scope _ fp)) (fun s H C cl fp => c1 (i, s, H, C, cl, fp) (h.blk s H scope _ fp)) (hs _),
   fun I δ μ σ H hJ SM hS Q Q' q u => re_compG0 i2 g2 b2 c2 (fun D acc μ2 => Q (.lst acc) (mdel μ2 D)) I δ μ σ H hJ SM hS Q' q fun I' D acc μ' H' e' S' em q' => by
    obtain ⟨vs', rl, s1, s2⟩ := S'.freeze em
    exact u _ _ _ _ H' (e'.trans s1) s2 (.lst upd_same (rl.mono s1 _ _)) q'⟩
theorem we_compGM {elt tg iter : Expr} {ifs : List Expr} {scope : Scope} {own : List (Str × Nat)} {wi : DIG} {g : DG} {tt : DT} {te : DE} (hN : S.N.Nodup) (hi : WIG S F tg iter wi) (ok : ∀ i, BlkOk S.N (F i).env.scope scope own)
    (hg : WGv S.blk (blkF F scope) (own.map (·.2)) tg g) (ht : WTs S.blk (blkF F scope) ifs tt) (he : WE S.blk (blkF F scope) elt te) (hs : ∀ env, ∀ x, foldedSetIterable iter env x = pure x := by exact fun _ _ => rfl) (hcold : S.cold = false := by rfl) :
    WE S F (.ListComp elt [⟨tg, iter, ifs, 0⟩] scope pos) (vCompGM (own.map (·.2)) wi g tt te) :=
  let ⟨ti, i1, i2⟩ := hi; let ⟨tg', g1, g2⟩ := hg; let ⟨t1, b1, b2⟩ := ht; let ⟨t2, c1, c2⟩ := he
  ⟨_, fun i h => pe_lc (h.calm hcold) (h.N ▸ hN) (i1 i h) (h.N ▸ ok i) (fun s H C cl fp => g1 (i, s, H, C, cl, fp) (h.blk s H scope _ fp)) (fun s H C cl fp => b1 (i, s, H, C, cl, fp) (h.blk s H scope _ fp)) (fun s H C cl fp => c1 (i, s, H, C, cl, fp) (h.blk s H scope _ fp)) (hs _),
   fun I δ μ σ H hJ SM hS Q Q' q u => re_compG0 i2 g2 b2 c2 (fun D _ μ2 => Q (.ref D) μ2) I δ μ σ H hJ SM hS Q' q fun I' D acc μ' H' e' S' em q' => u _ _ _ _ H' e' S' (.ref D) q'⟩
end
end Wl

set_option Elab.async false
set_option linter.all false
set_option maxRecDepth 100000
set_option maxHeartbeats 2000000
namespace Wl
open PySem L2
open PySem.Spec PyProof.Rows
section
variable {S : Sg} {ι : Type} {F : ι → Cx} {pos : Pos}
/-! d.setdefault(k, v) -/
def vSetd (td ty tx : DE) : DE := fun δ μ Q => td δ μ fun x μ1 => match x with
  | .ref a => (match μ1 a with | some (.dK _) => True | _ => False) ∧ ty δ μ1 fun y μ2 => tx δ μ2 fun z μ3 => ∃ kvs k, keyD y = some k ∧ μ3 a = some (.dK kvs) ∧ kvs.length < sizeLine ∧
      (match valD kvs k with | some v => Q v μ3 | none => Q z (mset μ3 a (.dK (putD kvs k z))))
  | _ => False
theorem we_setd {o e f : Expr} {td ty tx : DE} {apos cpos : Pos} (ho : WE S F o td) (he : WE S F e ty) (hf : WE S F f tx) (hm : ∀ j, M2 (F j) o "setdefault" apos e f cpos := by exact fun _ => ⟨rfl, rfl, rfl, rfl⟩) : WE S F (.Call (.Attribute o "setdefault" apos) [e, f] [] cpos) (vSetd td ty tx) :=
  let ⟨ta, a1, a2⟩ := ho; let ⟨tb, b1, b2⟩ := he; let ⟨tc, c1, c2⟩ := hf
  ⟨_, fun i hi => pe_dsetd (a1 i hi) (b1 i hi) (c1 i hi) (hm i), fun I δ μ σ H hJ SM hS Q Q' q u => a2 I δ μ σ H hJ SM hS _ _ q fun I1 x vx μ1 H1 e1 S1 r1 q1 => by
    cases r1 <;> first | exact False.elim q1 | skip
    rename_i a
    have hd : IsD H1 a := by
      have h := q1.1
      cases e : μ1 a with
      | none => simp only [e] at h
      | some m =>
        have hm' := S1.memo e
        cases m with
        | dK kvs => obtain ⟨vs, _, hv⟩ := hm'; exact .inl ⟨vs, .inl hv⟩
        | _ => simp only [e] at h
    refine ⟨a, rfl, hd, b2 I1 δ μ1 σ H1 (hJ.trans e1) S1 (hS.mono e1) _ _ q1.2 fun I2 y vy μ2 H2 e2 S2 r2 q2 => c2 I2 δ μ2 σ H2 ((hJ.trans e1).trans e2) S2 (hS.mono (e1.trans e2)) _ _ q2 fun I3 z vz μ3 H3 e3 S3 r3 q3 => ?_⟩
    obtain ⟨kvs, k, ek, em, hl, q4⟩ := q3
    obtain ⟨hI, vs, rp, hv⟩ := S3.mu _ _ em
    have ev := rep_key (r2.mono e3 _ _) ek
    refine ⟨vs, k, hv, ev, by rw [← rp.len]; exact hl, fun v0 h0 => ?_, fun h0 => ?_⟩
    · rcases rp.val k with ⟨h1, h2⟩ | ⟨d, u', h1, h2, h3⟩
      · rw [h2] at h0; cases h0
      · rw [h2] at h0; cases h0
        simp only [h1] at q4
        exact u I3 _ _ μ3 H3 ((e1.trans e2).trans e3) S3 h3 q4
    · rcases rp.val k with ⟨h1, h2⟩ | ⟨d, u', h1, h2, h3⟩
      · simp only [h1] at q4
        exact u I3 _ _ _ _ ((e1.trans e2).trans e3) (S3.setM (m := .dK (putD kvs k z)) hI ⟨_, rp.put k r3, upd_same⟩) r3 q4
      · rw [h2] at h0; cases h0⟩
/-! list(range(..)) -/
theorem rep_rg {K : PySem.W.Frag} {I : Hp} (a b : Int) : RepL K I (irange a (b - a).toNat) (rgV a b) := by
  have go : ∀ l : List Nat, RepL K I (l.map fun (i : Nat) => Dv.int (a + (i : Int))) (l.map fun i => V.int (a + (i : Nat))) := fun l => by
    induction l with
    | nil => exact .nil
    | cons x l ih => exact .cons (.int _) ih
  exact go _
def vListR (t : DE) : DE := fun δ μ Q => t δ μ fun x μ1 => match x with | .int n => RgOk 0 n ∧ Q (.lst (irange 0 (n - 0).toNat)) μ1 | _ => False
def vListR2 (t t2 : DE) : DE := fun δ μ Q => t δ μ fun x μ1 => t2 δ μ1 fun y μ2 => match x, y with | .int a, .int n => RgOk a n ∧ Q (.lst (irange a (n - a).toNat)) μ2 | _, _ => False
theorem we_listR {e : Expr} {t : DE} {p p2 : Pos} (hl : S.mg "list" = none) (hr : S.mg "range" = none) (he : WE S F e t) (hg : ∀ j, Gl (F j) "list" := by exact fun _ => rfl) (hg2 : ∀ j, Gl (F j) "range" := by exact fun _ => rfl)
    (na : ∀ env, starEach [e] env = (false, eval e env) :: starEach [] env := by exact fun _ => rfl) (nb : ∀ env, starEach [Expr.Call (.Name "range" p2) [e] [] p] env = (false, eval (.Call (.Name "range" p2) [e] [] p) env) :: starEach [] env := by exact fun _ => rfl) {p3 : Pos} (hcold : S.cold = false := by rfl) : WE S F (.Call (.Name "list" p3) [.Call (.Name "range" p2) [e] [] p] [] pos) (vListR t) :=
  let ⟨ta, a1, a2⟩ := he
  ⟨_, fun i hi => pe_listRg (hi.calm hcold) (hg i) (hi.mg ▸ hl) (prg_1 (hg2 i) (hi.mg ▸ hr) (a1 i hi) (na _)) (nb _), fun I δ μ σ H hJ SM hS Q Q' q u => a2 I δ μ σ H hJ SM hS _ _ q fun I1 x vx μ1 H1 e1 S1 r1 q1 => by
    cases r1 <;> first | exact False.elim q1 | skip
    refine ⟨_, rfl, q1.1, fun l hl => ?_⟩
    obtain ⟨s1, s2⟩ := S1.newI hl (.lst (rgV 0 _))
    exact u _ _ _ μ1 _ (e1.trans s1) s2 (.lst upd_same (rep_rg 0 _)) q1.2⟩
theorem we_listR2 {e f : Expr} {t t2 : DE} {p p2 : Pos} (hl : S.mg "list" = none) (hr : S.mg "range" = none) (he : WE S F e t) (hf : WE S F f t2) (hg : ∀ j, Gl (F j) "list" := by exact fun _ => rfl) (hg2 : ∀ j, Gl (F j) "range" := by exact fun _ => rfl)
    (na : ∀ env, starEach [e, f] env = (false, eval e env) :: starEach [f] env := by exact fun _ => rfl) (nc : ∀ env, starEach [f] env = (false, eval f env) :: starEach [] env := by exact fun _ => rfl) (hp : ∀ env, (backTo p (starEach [f] env)).any (·.1) = false := by exact fun _ => rfl)
    (nb : ∀ env, starEach [Expr.Call (.Name "range" p2) [e, f] [] p] env = (false, eval (.Call (.Name "range" p2) [e, f] [] p) env) :: starEach [] env := by exact fun _ => rfl) {p3 : Pos} (hcold : S.cold = false := by rfl) : WE S F (.Call (.Name "list" p3) [.Call (.Name "range" p2) [e, f] [] p] [] pos) (vListR2 t t2) :=
  let ⟨ta, a1, a2⟩ := he; let ⟨tb, b1, b2⟩ := hf
  ⟨_, fun i hi => pe_listRg (hi.calm hcold) (hg i) (hi.mg ▸ hl) (prg_2 (hg2 i) (hi.mg ▸ hr) (a1 i hi) (b1 i hi) (na _) (nc _) (hp _)) (nb _), fun I δ μ σ H hJ SM hS Q Q' q u => a2 I δ μ σ H hJ SM hS _ _ q fun I1 x vx μ1 H1 e1 S1 r1 q1 => b2 I1 δ μ1 σ H1 (hJ.trans e1) S1 (hS.mono e1) _ _ q1 fun I2 y vy μ2 H2 e2 S2 r2 q2 => by
    cases r1 <;> first | exact False.elim q2 | skip
    cases r2 <;> first | exact False.elim q2 | skip
    refine ⟨_, _, rfl, rfl, q2.1, fun l hl => ?_⟩
    obtain ⟨s1, s2⟩ := S2.newI hl (.lst (rgV _ _))
    exact u _ _ _ μ2 _ ((e1.trans e2).trans s1) s2 (.lst upd_same (rep_rg _ _)) q2.2⟩
/-! xs[::-1] -/
theorem RepL.reverse {K : PySem.W.Frag} {I : Hp} : ∀ {ds : List Dv} {vs : List V}, RepL K I ds vs → RepL K I ds.reverse vs.reverse
  | _, _, .nil => .nil
  | _, _, .cons r t => by rw [List.reverse_cons, List.reverse_cons]; exact (RepL.reverse t).append (.cons r .nil)
def vRevL (t : DE) : DE := fun δ μ Q => t δ μ fun x μ1 => lstAt μ1 x fun xs _ => Q (.lst xs.reverse) μ1
theorem we_revL {e : Expr} {t : DE} {k : Nat} {p1 p2 p3 : Pos} (he : WE S F e t) : WE S F (.Subscript e (.Slice none none (some (.UnaryOp .USub (.Constant (.int 1) k p1) p2)) p3) pos) (vRevL t) :=
  let ⟨ta, a1, a2⟩ := he
  ⟨tRevL S.K ta, fun i hi => hi.K ▸ pe_revL (a1 i hi), fun I δ μ σ H hJ SM hS Q Q' q u => a2 I δ μ σ H hJ SM hS _ _ q fun I1 x vx μ1 H1 e1 S1 r1 q1 => by
    obtain ⟨a, xs, g, rfl, la, ga, q2⟩ := lstAt_ok S1 r1 q1
    obtain ⟨vs, s1, rl⟩ := la.at_ μ1 I1 H1 (Same.refl _) S1 ga
    refine ⟨a, vs, rfl, s1, fun l hl => ?_⟩
    obtain ⟨s2, s3⟩ := S1.newI hl (.lst vs.reverse)
    exact u _ _ _ μ1 _ (e1.trans s2) s3 (.lst upd_same (RepL.mono s2 _ _ rl.reverse)) q2⟩
/-! for k in d: d stays -/
def sForK (td : DE) (g : DG) (tb : DS) : DS := fun D δ μ => ∃ a kvs, μ a = some (.dK kvs) ∧ ∀ od ws, td δ (mset μ a (.fdK od kvs ws)) fun x μ1 => x = .ref a ∧ sLoopG (fun μ => μ a = some (.fdK od kvs ws)) g tb (kvs.map fun kv => kD kv.1)
  { nx := fun δ' μ' => μ' a = some (.fdK od kvs ws) ∧ D.nx δ' (mset μ' a (.dK kvs)), rt := fun v μ' => μ' a = some (.fdK od kvs ws) ∧ D.rt v (mset μ' a (.dK kvs)) } δ μ1
theorem ws_forK {tg iter : Expr} {body : List Stmt} {td : DE} {g : DG} {tb : DS} (hi : WE S F iter td) (hg : WG S F tg g) (hb : WSs S F body tb) (hs : ∀ env, ∀ x, foldedSetIterable iter env x = pure x := by exact fun _ _ => rfl) (hcold : S.cold = false := by rfl) :
    WS S F (.For tg iter body [] pos) (sForK td g tb) :=
  let ⟨ti, i1, i2⟩ := hi; let ⟨tg', g1, g2⟩ := hg; let ⟨tb', b1, b2⟩ := hb
  ⟨tLock (tFor (iKeys ti) tg' tb'), fun i h => ps_lock (ps_for h.own (h.calm hcold) (pi_keys (i1 i h)) (g1 i h) (b1 i h) (hs _)), fun I δ μ σ H hJ SM hS D D' q u => by
    obtain ⟨a, kvs, em, q⟩ := q
    obtain ⟨hIa, ws, rp, hv⟩ := SM.mu _ _ em
    refine ⟨a, .dK ws, hv, trivial, fun od => ?_⟩
    have SL : SatM S.K I (mset μ a (.fdK od kvs ws)) (upd H a (.frz od (.dK ws))) := SM.setM (m := .fdK od kvs ws) hIa ⟨rp, upd_same⟩
    have back : ∀ {I' : Hp} {μ' : Mu} {H' : Hp}, SatM S.K I' μ' H' → μ' a = some (.fdK od kvs ws) → H' a = some (.frz od (.dK ws)) ∧ SatM S.K I' (mset μ' a (.dK kvs)) (upd H' a (.dK ws)) := fun {I' μ' H'} S' e => by
      obtain ⟨h1, h2, h3⟩ := S'.mu _ _ e
      exact ⟨h3, S'.setM (o := .dK ws) (m := .dK kvs) h1 ⟨_, h2, upd_same⟩⟩
    refine i2 I δ _ σ _ hJ SL hS _ _ (q od ws) fun I1 x vx μ1 H1 e1 S1 r1 q1 => ?_
    obtain ⟨rfl, q1⟩ := q1
    cases r1
    have e0 : μ1 a = some (.fdK od kvs ws) := by
      cases hk : (kvs.map fun kv => kD kv.1) with
      | nil => rw [hk] at q1; exact q1.1
      | cons d ds => rw [hk] at q1; exact q1.1
    obtain ⟨hI1, rp1, hv1⟩ := S1.mu _ _ e0
    have hlen : ws.length = (kvs.map fun kv => kD kv.1).length := by rw [List.length_map]; exact rp.len.symm
    refine ⟨a, od, rfl, .inl ⟨ws, hv1, ?_⟩⟩
    refine ⟨fun i m σ' H' => m = ws.length - i ∧ i ≤ ws.length ∧ ∃ I' δ' μ', Same I1 I' ∧ SatM S.K I' μ' H' ∧ RepS S.K I' δ' σ' ∧ sLoopG (fun μ => μ a = some (.fdK od kvs ws)) g tb ((kvs.map fun kv => kD kv.1).drop i) { nx := fun δ' μ' => μ' a = some (.fdK od kvs ws) ∧ D.nx δ' (mset μ' a (.dK kvs)), rt := fun v μ' => μ' a = some (.fdK od kvs ws) ∧ D.rt v (mset μ' a (.dK kvs)) } δ' μ', ⟨ws.length, by simp, Nat.zero_le _, I1, δ, μ1, Same.refl _, S1, hS.mono e1, by simpa using q1⟩, ?_⟩
    rintro i m σ' H' ⟨rfl, hle, I', δ', μ', e', S', R', q'⟩
    by_cases hlt : i < ws.length
    · have hlt' : i < (kvs.map fun kv => kD kv.1).length := by rw [← hlen]; exact hlt
      rw [List.drop_eq_getElem_cons hlt'] at q'
      obtain ⟨ema, q'⟩ := q'
      obtain ⟨_, rpa, hva⟩ := S'.mu _ _ ema
      refine .inr ⟨⟨hva, hlt⟩, fun σ2 H2 => ∃ I2 δ2 μ2, Same I1 I2 ∧ SatM S.K I2 μ2 H2 ∧ RepS S.K I2 δ2 σ2 ∧ sLoopG (fun μ => μ a = some (.fdK od kvs ws)) g tb ((kvs.map fun kv => kD kv.1).drop (i + 1)) { nx := fun δ' μ' => μ' a = some (.fdK od kvs ws) ∧ D.nx δ' (mset μ' a (.dK kvs)), rt := fun v μ' => μ' a = some (.fdK od kvs ws) ∧ D.rt v (mset μ' a (.dK kvs)) } δ2 μ2,
        fun σ2 H2 w => ⟨ws.length - (i + 1), by omega, rfl, hlt, w⟩, fun x H2 hy => ?_⟩
      obtain ⟨rfl, k, v, hk, rfl⟩ := hy
      have hkey : (kvs.map fun kv => kD kv.1)[i] = kD k := by
        have h1 : (ws.map (·.1))[i]? = some k := by rw [List.getElem?_map, hk]; rfl
        rw [rp.keys, List.getElem?_map] at h1
        have h2 : (kvs.map fun kv => kD kv.1)[i]? = some (kD k) := by
          rw [List.getElem?_map]
          cases hz : kvs[i]? with
          | none => rw [hz] at h1; cases h1
          | some p => rw [hz] at h1; cases h1; rfl
        exact (List.getElem?_eq_some_iff.mp h2).2
      rw [hkey] at q'
      have hkr : Rep S.K I' (kD k) (kV k) := by cases k; exact .int _; exact .str _
      refine g2 I' δ' μ' σ' H2 _ _ ((hJ.trans e1).trans e') S' R' hkr _ _ q' fun I3 δ3 σ3 μ3 H3 e3 S3 R3 q3 => ?_
      have e13 := e'.trans e3
      refine b2 I3 δ3 μ3 σ3 H3 ((hJ.trans e1).trans e13) S3 R3 _ _ q3 ⟨fun I4 δ4 σ4 μ4 H4 e4 S4 R4 q4 => ⟨I4, δ4, μ4, e13.trans e4, S4, R4, q4⟩, fun I4 d4 v4 μ4 H4 e4 S4 r4 q4 => ?_, fun I4 δ4 σ4 μ4 H4 e4 S4 R4 q4 => ?_, fun I4 δ4 σ4 μ4 H4 e4 S4 R4 q4 => ⟨I4, δ4, μ4, e13.trans e4, S4, R4, q4⟩⟩
      · obtain ⟨b1', b2'⟩ := back S4 q4.1
        exact ⟨b1', u.rt I4 _ _ _ _ ((e1.trans e13).trans e4) b2' r4 q4.2⟩
      · obtain ⟨b1', b2'⟩ := back S4 q4.1
        exact ⟨b1', u.nx I4 _ _ _ _ ((e1.trans e13).trans e4) b2' R4 q4.2⟩
    · obtain rfl : i = ws.length := by omega
      rw [hlen, List.drop_length] at q'
      obtain ⟨ema, ema2, q6⟩ := q'
      obtain ⟨b1', b2'⟩ := back S' ema
      exact .inl ⟨⟨b1', Nat.le_refl _⟩, b1', u.nx I' δ' σ' _ _ (e1.trans e') b2' R' q6⟩⟩
/-! name = [.. for x in ..] under a guard -/
theorem ws_setCompG (i : Nat) {y : Str} {py : Pos} {spos : Pos} {elt tg iter : Expr} {ifs : List Expr} {scope : Scope} {own : List (Str × Nat)} {wi : DIG} {g : DG} {tt : DT} {te : DE} (hN : S.N.Nodup) (hi : WIG S F tg iter wi) (ok : ∀ i, BlkOk S.N (F i).env.scope scope own)
    (hg : WGv S.blk (blkF F scope) (own.map (·.2)) tg g) (ht : WTs S.blk (blkF F scope) ifs tt) (he : WE S.blk (blkF F scope) elt te) (hy : S.N[i]? = some y := by rfl) (hyl : ∀ j, (F j).env.scope.names.lookup y = some .local := by exact fun _ => rfl) (hk : ∀ j, (F j).env.scope.kind = .function := by exact fun _ => rfl)
    (hl : (py.line == pos.line) = true := by rfl) (ha : (scope.names.any fun (n, k) => n == y && (k == .local || k == .cell)) = false := by decide +kernel) (hs : ∀ env, ∀ x, foldedSetIterable iter env x = pure x := by exact fun _ _ => rfl) (hcold : S.cold = false := by rfl) :
    WS S F (.Assign [.Name y py] (.ListComp elt [⟨tg, iter, ifs, 0⟩] scope pos) spos) (sAsg (vCompG (own.map (·.2)) wi g tt te) (dName i)) :=
  let ⟨ti, i1, i2⟩ := hi; let ⟨tg', g1, g2⟩ := hg; let ⟨t1, b1, b2⟩ := ht; let ⟨t2, c1, c2⟩ := he
  ⟨_, fun j h => ps_setLc (h.calm hcold) (h.N ▸ hN) (h.N ▸ hy) (hyl j) (sw_true (hk j) (hyl j) hl ha) (i1 j h) (h.N ▸ ok j) (fun s H C cl fp => g1 (j, s, H, C, cl, fp) (h.blk s H scope _ fp)) (fun s H C cl fp => b1 (j, s, H, C, cl, fp) (h.blk s H scope _ fp)) (fun s H C cl fp => c1 (j, s, H, C, cl, fp) (h.blk s H scope _ fp)) (hs _),
    fun I δ μ σ H hJ SM hS D D' q u => re_compG0 i2 g2 b2 c2 (fun E acc μ2 => D.nx (δ.set i (some (.lst acc))) (mdel μ2 E)) I δ μ σ H hJ SM hS _ q fun I' E acc μ' H' e' S' em q' => by
      obtain ⟨vs', rl, s1, s2⟩ := S'.freeze em
      exact u.nx _ _ _ _ H' (e'.trans s1) s2 ((hS.mono (e'.trans s1)).set i (.lst upd_same (rl.mono s1 _ _))) q'⟩
theorem ws_setCompGM (i : Nat) {y : Str} {py : Pos} {spos : Pos} {elt tg iter : Expr} {ifs : List Expr} {scope : Scope} {own : List (Str × Nat)} {wi : DIG} {g : DG} {tt : DT} {te : DE} (hN : S.N.Nodup) (hi : WIG S F tg iter wi) (ok : ∀ i, BlkOk S.N (F i).env.scope scope own)
    (hg : WGv S.blk (blkF F scope) (own.map (·.2)) tg g) (ht : WTs S.blk (blkF F scope) ifs tt) (he : WE S.blk (blkF F scope) elt te) (hy : S.N[i]? = some y := by rfl) (hyl : ∀ j, (F j).env.scope.names.lookup y = some .local := by exact fun _ => rfl) (hk : ∀ j, (F j).env.scope.kind = .function := by exact fun _ => rfl)
    (hl : (py.line == pos.line) = true := by rfl) (ha : (scope.names.any fun (n, k) => n == y && (k == .local || k == .cell)) = false := by decide +kernel) (hs : ∀ env, ∀ x, foldedSetIterable iter env x = pure x := by exact fun _ _ => rfl) (hcold : S.cold = false := by rfl) :
    WS S F (.Assign [.Name y py] (.ListComp elt [⟨tg, iter, ifs, 0⟩] scope pos) spos) (sAsg (vCompGM (own.map (·.2)) wi g tt te) (dName i)) :=
  let ⟨ti, i1, i2⟩ := hi; let ⟨tg', g1, g2⟩ := hg; let ⟨t1, b1, b2⟩ := ht; let ⟨t2, c1, c2⟩ := he
  ⟨_, fun j h => ps_setLc (h.calm hcold) (h.N ▸ hN) (h.N ▸ hy) (hyl j) (sw_true (hk j) (hyl j) hl ha) (i1 j h) (h.N ▸ ok j) (fun s H C cl fp => g1 (j, s, H, C, cl, fp) (h.blk s H scope _ fp)) (fun s H C cl fp => b1 (j, s, H, C, cl, fp) (h.blk s H scope _ fp)) (fun s H C cl fp => c1 (j, s, H, C, cl, fp) (h.blk s H scope _ fp)) (hs _),
    fun I δ μ σ H hJ SM hS D D' q u => re_compG0 i2 g2 b2 c2 (fun E _ μ2 => D.nx (δ.set i (some (.ref E))) μ2) I δ μ σ H hJ SM hS _ q fun I' E acc μ' H' e' S' em q' => u.nx _ _ _ _ H' e' S' ((hS.mono e').set i (.ref E)) q'⟩
end
end Wl

set_option Elab.async false
set_option linter.all false
set_option maxRecDepth 100000
set_option maxHeartbeats 2000000
namespace Wl
open PySem L2
open PySem.Spec PyProof.Rows
/-- a text in a text -/
def gInX : D2 := fun x y μ Q => match x, y with
  | .str a, .str z => Q (.bl (!(Builtin.Str.occurrences z a 0 z.length 1).isEmpty)) μ
  | _, _ => False
section
variable {S : Sg} {ι : Type} {F : ι → Cx} {pos : Pos}
theorem wo_inX : WO S (compareOp .In) gInX := ⟨_, fun X _ => op_in_str, fun I μ H _ SM dx dy x y rx ry Q Q' q u => by
  cases rx <;> first | exact False.elim q | skip
  cases ry <;> first | exact False.elim q | skip
  exact ⟨_, _, rfl, rfl, u I _ _ μ H (Same.refl I) SM (.bl _) q⟩⟩
/-- a list that stands as it is, fixed or not -/
def plst (μ : Mu) : Dv → Option (List Dv)
  | .lst xs => some xs
  | .ref a => match μ a with | some (.lst xs) => some xs | _ => none
  | _ => none
theorem plst_ok {K : PySem.W.Frag} {I H : Hp} {μ : Mu} {x : Dv} {v : V} {xs : List Dv} (SM : SatM K I μ H) (r : Rep K I x v) (h : plst μ x = some xs) : ∃ a vs, v = .ref a ∧ H a = some (.lst vs) ∧ RepL K I xs vs := by
  cases r <;> first | (cases h; done) | skip
  · rename_i a
    cases em : μ a with
    | none => simp only [plst, em] at h; cases h
    | some m =>
      cases m with
      | lst ys =>
        simp only [plst, em] at h
        cases h
        obtain ⟨vs, r, hv⟩ := SM.memo em
        exact ⟨a, vs, rfl, hv, r⟩
      | _ => simp only [plst, em] at h; cases h
  · rename_i h1 h2
    cases h
    exact ⟨_, _, rfl, SM.ex _ _ h1, h2⟩
def gCatM : D2 := fun x y μ Q => ∃ xs ys, plst μ x = some xs ∧ plst μ y = some ys ∧ xs.length + ys.length ≤ sizeLine ∧ Q (.lst (xs ++ ys)) μ
theorem wo_catM : WO S (binaryOp .Add) gCatM := ⟨_, fun X _ => op_cat, fun I μ H _ SM dx dy x y rx ry Q Q' q u => by
  obtain ⟨xs, ys, h1, h2, hl, q⟩ := q
  obtain ⟨a, vs, rfl, ha, ra⟩ := plst_ok SM rx h1
  obtain ⟨b, us, rfl, hb, rb⟩ := plst_ok SM ry h2
  refine ⟨_, _, _, _, rfl, rfl, ha, hb, by rw [← ra.length, ← rb.length]; exact hl, fun p hp => ?_⟩
  obtain ⟨s1, s2⟩ := SM.newI hp (.lst (vs ++ us))
  exact u _ _ _ μ _ s1 s2 (.lst upd_same (RepL.mono s1 _ _ (ra.append rb))) q⟩
/-- sorted(whole numbers), of a list fixed or not -/
def gSortIM : DC := fun ds μ Q => match ds with
  | [x] => ∃ ns : List Int, plst μ x = some (ns.map Dv.int) ∧ ∀ ns' : List Int, ns'.Perm ns → ns'.Pairwise (· ≤ ·) → Q (.lst (ns'.map Dv.int)) μ
  | _ => False
theorem wc_sortIM : WC S (.builtin "sorted") gSortIM := by
  refine ⟨_, fun X hX => hX.K ▸ cr_sortedI, ?_⟩
  intro I μ H _ SM ds vs r Q Q' q u
  rcases r with _ | ⟨r1, _ | ⟨r2, r3⟩⟩
  · exact q.elim
  · obtain ⟨ns, hp, q⟩ := q
    obtain ⟨a, vs, rfl, ha, ra⟩ := plst_ok SM r1 hp
    have e := rep_ints ra
    subst e
    refine ⟨_, ns, rfl, .inl (.inl ha), fun ns' p hp hs hl => ?_⟩
    obtain ⟨s1, s2⟩ := SM.newI hl (.lst (ns'.map V.int))
    exact u _ _ _ μ _ s1 s2 (.lst upd_same (ints_rep ns')) (q ns' hp hs)
  · exact q.elim
/-! {k: v for x in d}, d a dict that stays -/
def vDLoopK (vs : List Nat) (g : DG) (tt : DT) (tk tv : DE) (δ : DSt) (D a : Addr) (fd : Mo) : List Dv → Mu → (Mu → Prop) → Prop
  | [], μ, Q => μ a = some fd ∧ (∃ kvs, μ D = some (.dK kvs)) ∧ Q μ
  | d :: ds, μ, Q => μ a = some fd ∧ g d (dwipe δ vs) μ fun δ1 μ1 => tt δ1 μ1 fun b μ2 => if b = true then tk δ1 μ2 fun y μ3 => tv δ1 μ3 fun z μ4 => ∃ kvs k, keyD y = some k ∧ μ4 D = some (.dK kvs) ∧ kvs.length < sizeLine ∧ vDLoopK vs g tt tk tv δ D a fd ds (mset μ4 D (.dK (putD kvs k z))) Q
      else vDLoopK vs g tt tk tv δ D a fd ds μ2 Q
def vDcK (vs : List Nat) (td : DE) (g : DG) (tt : DT) (tk tv : DE) : DE := fun δ μ Q => ∃ a kvs, μ a = some (.dK kvs) ∧ ∀ od ws, td δ (mset μ a (.fdK od kvs ws)) fun x μ1 => x = .ref a ∧ μ1 a = some (.fdK od kvs ws) ∧ ∀ D, μ1 D = none →
  vDLoopK vs g tt tk tv δ D a (.fdK od kvs ws) (kvs.map fun kv => kD kv.1) (mset μ1 D (.dK [])) fun μ2 => Q (.ref D) (mset μ2 a (.dK kvs))
theorem we_dcompK {kx vx tg iter : Expr} {ifs : List Expr} {scope : Scope} {own : List (Str × Nat)} {td : DE} {g : DG} {tt : DT} {tk tv : DE} (hN : S.N.Nodup) (hi : WE S F iter td) (ok : ∀ i, BlkOk S.N (F i).env.scope scope own)
    (hg : WGv S.blk (blkF F scope) (own.map (·.2)) tg g) (ht : WTs S.blk (blkF F scope) ifs tt) (hk : WE S.blk (blkF F scope) kx tk) (hv : WE S.blk (blkF F scope) vx tv) (hs : ∀ env, ∀ x, foldedSetIterable iter env x = pure x := by exact fun _ _ => rfl) (hcold : S.cold = false := by rfl) :
    WE S F (.DictComp kx vx [⟨tg, iter, ifs, 0⟩] scope pos) (vDcK (own.map (·.2)) td g tt tk tv) :=
  let ⟨ti, i1, i2⟩ := hi; let ⟨tg', g1, g2⟩ := hg; let ⟨t1, b1, b2⟩ := ht; let ⟨t2, c1, c2⟩ := hk; let ⟨t3, d1, d2⟩ := hv
  ⟨tLockE (tDc (iKeys ti) tg' t1 t2 t3 (own.map (·.2))), fun i h => pe_lock (pe_dc (h.calm hcold) (h.N ▸ hN) (pi_keys (i1 i h)) (h.N ▸ ok i) (fun s H C cl fp => g1 (i, s, H, C, cl, fp) (h.blk s H scope _ fp)) (fun s H C cl fp => b1 (i, s, H, C, cl, fp) (h.blk s H scope _ fp)) (fun s H C cl fp => c1 (i, s, H, C, cl, fp) (h.blk s H scope _ fp)) (fun s H C cl fp => d1 (i, s, H, C, cl, fp) (h.blk s H scope _ fp)) (hs _)),
   fun I δ μ σ H hJ SM hS Q Q' q u => by
    obtain ⟨a, kvs, em, q⟩ := q
    obtain ⟨hIa, ws, rp, hv⟩ := SM.mu _ _ em
    refine ⟨a, .dK ws, hv, trivial, fun od => ?_⟩
    have SL : SatM S.K I (mset μ a (.fdK od kvs ws)) (upd H a (.frz od (.dK ws))) := SM.setM (m := .fdK od kvs ws) hIa ⟨rp, upd_same⟩
    refine i2 I δ _ σ _ hJ SL hS _ _ (q od ws) fun I1 x vx μ1 H1 e1 S1 r1 q1 => ?_
    obtain ⟨rfl, em1, q1⟩ := q1
    cases r1
    obtain ⟨hI1, rp1, hv1⟩ := S1.mu _ _ em1
    refine ⟨a, od, rfl, .inl ⟨ws, hv1, fun D hD => ?_⟩⟩
    have hlen : ws.length = (kvs.map fun kv => kD kv.1).length := by rw [List.length_map]; exact rp.len.symm
    refine ⟨fun i m H' => m = ws.length - i ∧ i ≤ ws.length ∧ ∃ I' μ', Same I1 I' ∧ SatM S.K I' μ' H' ∧ vDLoopK (own.map (·.2)) g tt tk tv δ D a (.fdK od kvs ws) ((kvs.map fun kv => kD kv.1).drop i) μ' fun μ2 => Q (.ref D) (mset μ2 a (.dK kvs)),
      ⟨ws.length, by simp, Nat.zero_le _, I1, _, Same.refl _, S1.setM (m := .dK []) (S1.ex.free hD) ⟨[], .nil, upd_same⟩, by simpa using q1 D (S1.muNone hD)⟩, ?_⟩
    rintro i m H' ⟨rfl, hle, I', μ', e', S', q'⟩
    by_cases hlt : i < ws.length
    · have hlt' : i < (kvs.map fun kv => kD kv.1).length := by rw [← hlen]; exact hlt
      rw [List.drop_eq_getElem_cons hlt'] at q'
      obtain ⟨ema, q'⟩ := q'
      obtain ⟨_, rpa, hva⟩ := S'.mu _ _ ema
      refine .inr ⟨⟨hva, hlt⟩, fun H2 => ∃ I2 μ2, Same I1 I2 ∧ SatM S.K I2 μ2 H2 ∧ vDLoopK (own.map (·.2)) g tt tk tv δ D a (.fdK od kvs ws) ((kvs.map fun kv => kD kv.1).drop (i + 1)) μ2 fun μ2 => Q (.ref D) (mset μ2 a (.dK kvs)),
        fun H2 w => ⟨ws.length - (i + 1), by omega, rfl, hlt, w⟩, fun x H2 hy => ?_⟩
      obtain ⟨rfl, k, v, hk, rfl⟩ := hy
      have hkey : (kvs.map fun kv => kD kv.1)[i] = kD k := by
        have h1 : (ws.map (·.1))[i]? = some k := by rw [List.getElem?_map, hk]; rfl
        rw [rp.keys, List.getElem?_map] at h1
        have h2 : (kvs.map fun kv => kD kv.1)[i]? = some (kD k) := by
          rw [List.getElem?_map]
          cases hz : kvs[i]? with
          | none => rw [hz] at h1; cases h1
          | some p => rw [hz] at h1; cases h1; rfl
        exact (List.getElem?_eq_some_iff.mp h2).2
      rw [hkey] at q'
      have hkr : Rep S.K I' (kD k) (kV k) := by cases k; exact .int _; exact .str _
      have hJ2 := (hJ.trans e1).trans e'
      refine g2 I' _ μ' _ H2 _ _ hJ2 S' ((hS.mono (e1.trans e')).wipe _) hkr _ _ q' fun I3 δ3 σ3 μ3 H3 e3 S3 R3 w3 q3 => ⟨w3.trans wipe_wipe, ?_⟩
      refine b2 I3 δ3 μ3 σ3 H3 (hJ2.trans e3) S3 R3 _ _ q3 fun I4 b μ4 H4 e4 S4 q4 => ?_
      have e14 := (e'.trans e3).trans e4
      cases b with
      | false =>
        rw [if_neg Bool.false_ne_true] at q4 ⊢
        exact ⟨I4, μ4, e14, S4, q4⟩
      | true =>
        rw [if_pos rfl] at q4 ⊢
        refine c2 I4 δ3 μ4 σ3 H4 ((hJ2.trans e3).trans e4) S4 (R3.mono e4) _ _ q4 fun I5 y vy μ5 H5 e5 S5 r5 q5 => ?_
        refine d2 I5 δ3 μ5 σ3 H5 (((hJ2.trans e3).trans e4).trans e5) S5 (R3.mono (e4.trans e5)) _ _ q5 fun I6 z vz μ6 H6 e6 S6 r6 q6 => ?_
        obtain ⟨kvs6, k6, ek, emD, hl, q7⟩ := q6
        obtain ⟨vs', rp', hv'⟩ := S6.memo emD
        exact ⟨vs', k6, rep_key (r5.mono e6 _ _) ek, hv', by rw [← rp'.len]; exact hl, I6, _, (e14.trans e5).trans e6, S6.setM (m := .dK (putD kvs6 k6 z)) (S6.mu _ _ emD).1 ⟨_, rp'.put k6 r6, upd_same⟩, q7⟩
    · obtain rfl : i = ws.length := by omega
      rw [hlen, List.drop_length] at q'
      obtain ⟨ema, ⟨kv2, emD⟩, q6⟩ := q'
      obtain ⟨hIa', rpa, hva⟩ := S'.mu _ _ ema
      refine .inl ⟨⟨hva, Nat.le_refl _⟩, hva, ?_⟩
      have S4 := S'.setM (o := .dK ws) (m := .dK kvs) hIa' ⟨_, rpa, upd_same⟩
      exact u _ _ _ _ _ (e1.trans e') S4 (.ref D) q6⟩
end
end Wl

set_option Elab.async false
set_option linter.all false
set_option maxRecDepth 100000
set_option maxHeartbeats 2000000
namespace L2
open PySem PySem.Spec PyProof.Rows
theorem sw_trueD {kx vx : Expr} {gs : List Comprehension} {scope : Scope} {pos py : Pos} {y : Str} {l : Nat} {env : Env} (k1 : env.scope.kind = .function) (k2 : env.scope.names.lookup y = some .local) (k3 : (py.line == pos.line) = true)
    (k4 : (scope.names.any fun (n, k) => n == y && (k == .local || k == .cell)) = false) : swapsWith (.DictComp kx vx gs scope pos) (some (.Name y py)) l env = pure true := by
  have e1 : env.kindOf y = some .local := k2
  have e2 : env.blockKind = .function := by unfold Env.blockKind; rw [k1] <;> rfl
  unfold swapsWith; simp only [e2, e1, k4, Expr.pos, k3]
  rfl
section
variable {X : Cx}
theorem ps_setDc {i : Nat} {y : Str} {py : Pos} {kx vx tg iter : Expr} {ifs : List Expr} {scope : Scope} {own : List (Str × Nat)} {pos spos : Pos} {wi : TI} {g : TG} {tt : TT} {tk tv : TE} (hc : X.calm = true) (hN : X.N.Nodup) (iy : X.N[i]? = some y) (ly : X.env.scope.names.lookup y = some .local)
    (sw : swapsWith (.DictComp kx vx [⟨tg, iter, ifs, 0⟩] scope pos) (some (.Name y py)) spos.line X.env = pure true) (hi : PI X tg iter wi) (ok : BlkOk X.N X.env.scope scope own)
    (g1 : ∀ (s : Shared) (H : Hp) (C : Addr) (cl : List (Str × Addr)) (fp : List Addr), PG (X.blk s H scope (compEnvC scope cl C X.env) fp) tg g) (g2 : ∀ (s : Shared) (H : Hp) (C : Addr) (cl : List (Str × Addr)) (fp : List Addr), PTs (X.blk s H scope (compEnvC scope cl C X.env) fp) ifs tt)
    (g3 : ∀ (s : Shared) (H : Hp) (C : Addr) (cl : List (Str × Addr)) (fp : List Addr), PE (X.blk s H scope (compEnvC scope cl C X.env) fp) kx tk) (g4 : ∀ (s : Shared) (H : Hp) (C : Addr) (cl : List (Str × Addr)) (fp : List Addr), PE (X.blk s H scope (compEnvC scope cl C X.env) fp) vx tv)
    (hs : ∀ x, foldedSetIterable iter X.env x = pure x) : PS X (.Assign [.Name y py] (.DictComp kx vx [⟨tg, iter, ifs, 0⟩] scope pos) spos) (tAsg (tDc wi g tt tk tv (own.map (·.2))) (gName i)) := by
  refine ⟨fun pins s σ H D I h => ?_⟩; rw [exec_Assign_Name_used _ _ _ _ sw]
  refine wpAny_bind (wpAny_standAt (wpAny_bind ?_)); have h : tDc wi g tt tk tv (own.map (·.2)) σ H (fun x H1 => gName i x σ H1 D.nx) := h
  refine wpAny_bind (thn (dc_core (Qf := fun _ s' => SP X pins D .next s') hc hN I hi ok g1 g2 g3 g4 hs h fun L C s' m H' I' q hn f => ?_) fun _ s' hq => wpAny_pure (wpAny_pure hq))
  show wpAny _ _ (assign (.Name y py) X.env (.ref L)) _ _ _; refine wpAny_assign_Name (store_ok2 (v := V.ref L) I' hN iy (.inl ly) rfl (fun s2 I2 ⟨a, sb, ha⟩ => ?_) (.inr ly))
  obtain ⟨e0, e1, e2, e3, e4, e5⟩ := f
  have ne : C ≠ a := ha.elim (fun z => by rw [z]; exact e1) (fun z e => e4 y a z e.symm)
  exact ⟨m, hn.sameBut sb ne, fun h3 sb3 => ⟨_, H', I2.turned (t' := s2.toks) (fun b o hb e => (sb3.2 b hb).trans e) e0 e1 e3 e4 e5, q⟩⟩
end
end L2
namespace Wl
open PySem L2
open PySem.Spec PyProof.Rows
section
variable {S : Sg} {ι : Type} {F : ι → Cx} {pos : Pos}
theorem ws_setDcK (i : Nat) {y : Str} {py spos : Pos} {kx vx tg iter : Expr} {ifs : List Expr} {scope : Scope} {own : List (Str × Nat)} {td : DE} {g : DG} {tt : DT} {tk tv : DE} (hN : S.N.Nodup) (hi : WE S F iter td) (ok : ∀ i, BlkOk S.N (F i).env.scope scope own)
    (hg : WGv S.blk (blkF F scope) (own.map (·.2)) tg g) (ht : WTs S.blk (blkF F scope) ifs tt) (hk : WE S.blk (blkF F scope) kx tk) (hv : WE S.blk (blkF F scope) vx tv) (hy : S.N[i]? = some y := by rfl) (hyl : ∀ j, (F j).env.scope.names.lookup y = some .local := by exact fun _ => rfl) (hkd : ∀ j, (F j).env.scope.kind = .function := by exact fun _ => rfl)
    (hl : (py.line == pos.line) = true := by rfl) (ha : (scope.names.any fun (n, k) => n == y && (k == .local || k == .cell)) = false := by decide +kernel) (hs : ∀ env, ∀ x, foldedSetIterable iter env x = pure x := by exact fun _ _ => rfl) (hcold : S.cold = false := by rfl) :
    WS S F (.Assign [.Name y py] (.DictComp kx vx [⟨tg, iter, ifs, 0⟩] scope pos) spos) (sAsg (vDcK (own.map (·.2)) td g tt tk tv) (dName i)) :=
  let ⟨ti, i1, i2⟩ := hi; let ⟨tg', g1, g2⟩ := hg; let ⟨t1, b1, b2⟩ := ht; let ⟨t2, c1, c2⟩ := hk; let ⟨t3, d1, d2⟩ := hv
  ⟨tLock (tAsg (tDc (iKeys ti) tg' t1 t2 t3 (own.map (·.2))) (gName i)), fun j h => ps_lock (ps_setDc (h.calm hcold) (h.N ▸ hN) (h.N ▸ hy) (hyl j) (sw_trueD (hkd j) (hyl j) hl ha) (pi_keys (i1 j h)) (h.N ▸ ok j) (fun s H C cl fp => g1 (j, s, H, C, cl, fp) (h.blk s H scope _ fp)) (fun s H C cl fp => b1 (j, s, H, C, cl, fp) (h.blk s H scope _ fp)) (fun s H C cl fp => c1 (j, s, H, C, cl, fp) (h.blk s H scope _ fp)) (fun s H C cl fp => d1 (j, s, H, C, cl, fp) (h.blk s H scope _ fp)) (hs _)),
   fun I δ μ σ H hJ SM hS Dn Dn' q u => by
    obtain ⟨a, kvs, em, q⟩ := q
    obtain ⟨hIa, ws, rp, hv⟩ := SM.mu _ _ em
    refine ⟨a, .dK ws, hv, trivial, fun od => ?_⟩
    have SL : SatM S.K I (mset μ a (.fdK od kvs ws)) (upd H a (.frz od (.dK ws))) := SM.setM (m := .fdK od kvs ws) hIa ⟨rp, upd_same⟩
    refine i2 I δ _ σ _ hJ SL hS _ _ (q od ws) fun I1 x vx μ1 H1 e1 S1 r1 q1 => ?_
    obtain ⟨rfl, em1, q1⟩ := q1
    cases r1
    obtain ⟨hI1, rp1, hv1⟩ := S1.mu _ _ em1
    refine ⟨a, od, rfl, .inl ⟨ws, hv1, fun D hD => ?_⟩⟩
    have hlen : ws.length = (kvs.map fun kv => kD kv.1).length := by rw [List.length_map]; exact rp.len.symm
    refine ⟨fun n m H' => m = ws.length - n ∧ n ≤ ws.length ∧ ∃ I' μ', Same I1 I' ∧ SatM S.K I' μ' H' ∧ vDLoopK (own.map (·.2)) g tt tk tv δ D a (.fdK od kvs ws) ((kvs.map fun kv => kD kv.1).drop n) μ' fun μ2 => Dn.nx (δ.set i (some (.ref D))) (mset μ2 a (.dK kvs)),
      ⟨ws.length, by simp, Nat.zero_le _, I1, _, Same.refl _, S1.setM (m := .dK []) (S1.ex.free hD) ⟨[], .nil, upd_same⟩, by simpa [dName] using q1 D (S1.muNone hD)⟩, ?_⟩
    rintro n m H' ⟨rfl, hle, I', μ', e', S', q'⟩
    by_cases hlt : n < ws.length
    · have hlt' : n < (kvs.map fun kv => kD kv.1).length := by rw [← hlen]; exact hlt
      rw [List.drop_eq_getElem_cons hlt'] at q'
      obtain ⟨ema, q'⟩ := q'
      obtain ⟨_, rpa, hva⟩ := S'.mu _ _ ema
      refine .inr ⟨⟨hva, hlt⟩, fun H2 => ∃ I2 μ2, Same I1 I2 ∧ SatM S.K I2 μ2 H2 ∧ vDLoopK (own.map (·.2)) g tt tk tv δ D a (.fdK od kvs ws) ((kvs.map fun kv => kD kv.1).drop (n + 1)) μ2 fun μ2 => Dn.nx (δ.set i (some (.ref D))) (mset μ2 a (.dK kvs)),
        fun H2 w => ⟨ws.length - (n + 1), by omega, rfl, hlt, w⟩, fun x H2 hy => ?_⟩
      obtain ⟨rfl, k, v, hk, rfl⟩ := hy
      have hkey : (kvs.map fun kv => kD kv.1)[n] = kD k := by
        have h1 : (ws.map (·.1))[n]? = some k := by rw [List.getElem?_map, hk]; rfl
        rw [rp.keys, List.getElem?_map] at h1
        have h2 : (kvs.map fun kv => kD kv.1)[n]? = some (kD k) := by
          rw [List.getElem?_map]
          cases hz : kvs[n]? with
          | none => rw [hz] at h1; cases h1
          | some p => rw [hz] at h1; cases h1; rfl
        exact (List.getElem?_eq_some_iff.mp h2).2
      rw [hkey] at q'
      have hkr : Rep S.K I' (kD k) (kV k) := by cases k; exact .int _; exact .str _
      have hJ2 := (hJ.trans e1).trans e'
      refine g2 I' _ μ' _ H2 _ _ hJ2 S' ((hS.mono (e1.trans e')).wipe _) hkr _ _ q' fun I3 δ3 σ3 μ3 H3 e3 S3 R3 w3 q3 => ⟨w3.trans wipe_wipe, ?_⟩
      refine b2 I3 δ3 μ3 σ3 H3 (hJ2.trans e3) S3 R3 _ _ q3 fun I4 b μ4 H4 e4 S4 q4 => ?_
      have e14 := (e'.trans e3).trans e4
      cases b with
      | false =>
        rw [if_neg Bool.false_ne_true] at q4 ⊢
        exact ⟨I4, μ4, e14, S4, q4⟩
      | true =>
        rw [if_pos rfl] at q4 ⊢
        refine c2 I4 δ3 μ4 σ3 H4 ((hJ2.trans e3).trans e4) S4 (R3.mono e4) _ _ q4 fun I5 y vy μ5 H5 e5 S5 r5 q5 => ?_
        refine d2 I5 δ3 μ5 σ3 H5 (((hJ2.trans e3).trans e4).trans e5) S5 (R3.mono (e4.trans e5)) _ _ q5 fun I6 z vz μ6 H6 e6 S6 r6 q6 => ?_
        obtain ⟨kvs6, k6, ek, emD, hl, q7⟩ := q6
        obtain ⟨vs', rp', hv'⟩ := S6.memo emD
        exact ⟨vs', k6, rep_key (r5.mono e6 _ _) ek, hv', by rw [← rp'.len]; exact hl, I6, _, (e14.trans e5).trans e6, S6.setM (m := .dK (putD kvs6 k6 z)) (S6.mu _ _ emD).1 ⟨_, rp'.put k6 r6, upd_same⟩, q7⟩
    · obtain rfl : n = ws.length := by omega
      rw [hlen, List.drop_length] at q'
      obtain ⟨ema, ⟨kv2, emD⟩, q6⟩ := q'
      obtain ⟨hIa', rpa, hva⟩ := S'.mu _ _ ema
      refine .inl ⟨⟨hva, Nat.le_refl _⟩, hva, ?_⟩
      have S4 := S'.setM (o := .dK ws) (m := .dK kvs) hIa' ⟨_, rpa, upd_same⟩
      exact u.nx _ _ _ _ _ (e1.trans e') S4 ((hS.mono (e1.trans e')).set i (.ref D)) q6⟩
end
end Wl


set_option Elab.async false
set_option linter.all false
set_option maxRecDepth 100000
set_option maxHeartbeats 4000000
/-! an __init__ of an own exception over ValueError that begins with super().__init__(..) -/
namespace Wl
open PySem PySem.Spec L2 PyProof.Rows

structure ISc (N ps : List Str) (scp : Scope) : Prop where
  kind : scp.kind = .function
  co : scp.isCoroutine = false
  gen : scp.isGenerator = false
  nd : N.Nodup
  pre : N.take ps.length = ps
  par : ∀ x ∈ ps, scp.names.lookup x = some .local
  nocell : ∀ y ∈ scp.names, y.2 ≠ .cell
  nofree : ∀ y ∈ scp.names, y.2 = .free → y.1 = "__class__"

def cxI (CX : CXT) (P : Program) (w : World) (K : PySem.W.Frag) (mg : Str → Option Value) (base : Heap) (N : List Str) (qual : Str) (scope : Scope) (f : Addr) (cd : Value) (cc : Addr) (A : Around) (outer : List Env) (s : Shared) (H : Hp) (E : XK) : Cx where
  prog := P
  w := w
  K := K
  mg := mg
  base := base
  A := A.deeper (PySem.W.ksEnv qual scope s.heap.objs.size f cd cc)
  N := N
  s_0 := s
  H_0 := H
  env := PySem.W.ksEnv qual scope s.heap.objs.size f cd cc
  outer := outer
  stack := PySem.W.ksEnv qual scope s.heap.objs.size f cd cc :: outer
  ex := []
  calm := true
  fn := fun _ => false
  pn := []
  xe := fun e s' => wpAny (model P w) (A.deeper (PySem.W.ksEnv qual scope s.heap.objs.size f cd cc)) (leaving (PySem.W.ksEnv qual scope s.heap.objs.size f cd cc) e) (fun _ s'' => CX outer H s E e s'') (fun e' s'' => CX outer H s E e' s'') s'

theorem lk_of_mem {l : List (Str × Value)} {x : Str} {u : Value} (dif : (l.map (·.1)).Nodup) (mem : (x, u) ∈ l) : l.lookup x = some u := by
  induction l with
  | nil => cases mem
  | cons p l ih =>
    obtain ⟨y, v⟩ := p
    have d2 : y ∉ l.map (·.1) ∧ (l.map (·.1)).Nodup := by simpa using dif
    by_cases e : x = y
    · subst e
      have : (x, u) = (x, v) := (List.mem_cons.mp mem).resolve_right fun z => d2.1 (List.mem_map_of_mem (f := (·.1)) z)
      cases this
      simp [List.lookup]
    · have : (x, u) ∈ l := (List.mem_cons.mp mem).resolve_left fun z => e (congrArg Prod.fst z)
      simp only [List.lookup, show (x == y) = false by simpa using e]
      exact ih d2.2 this
theorem start_at {N : List Str} {vs : List V} {i : Nat} {v : V} (e : (L2.start N vs)[i]? = some (some v)) : vs[i]? = some v := by
  unfold L2.start at e
  rw [List.getElem?_append, List.length_map] at e
  split at e
  · rw [List.getElem?_map, Option.map_eq_some_iff] at e
    obtain ⟨z, h1, h2⟩ := e
    cases h2
    exact h1
  · have := List.mem_of_getElem? e
    simp at this
theorem zip_look {ps : List Str} {us : List Value} {i : Nat} {x : Str} {u : Value} (nd : ps.Nodup) (hl : us.length = ps.length) (hx : ps[i]? = some x) (hu : us[i]? = some u) : (ps.zip us).reverse.lookup x = some u := by
  refine lk_of_mem ?_ (List.mem_reverse.mpr ?_)
  · rw [List.map_reverse, show (fun (p : Str × Value) => p.1) = Prod.fst from rfl, List.map_fst_zip (by omega)]
    exact List.pairwise_reverse.mpr (nd.imp fun h z => h z.symm)
  · refine List.mem_iff_getElem?.mpr ⟨i, ?_⟩
    rw [List.getElem?_zip_eq_some]
    exact ⟨hx, hu⟩

section
variable {CX : CXT} {P : Program} {w : World} {K : PySem.W.Frag} {mg : Str → Option Value} {base : Heap} {N ps : List Str} {qual : Str} {scope : Scope} {f cc : Addr} {cd : Value} {A : Around} {outer : List Env} {s : Shared} {H : Hp} {E : XK} {us : List Value} {vs : List V}

theorem inv_init {h₁ : Heap} {tk : Nat} {oC : Obj} {vC : Option Value} (S : ISc N ps scope) (hd : A.handled = none) (e0 : Env0 P w K mg base A outer s H) (hl : vs.length = ps.length) (r : Vals vs us)
    (hcc : base.get? cc = some oC) (hcd : oC.data = .cell vC)
    (hns : h₁.Ns s.heap.objs.size (fun x => (ps.zip us).reverse.lookup x)) (kp : ∀ b o, s.heap.get? b = some o → h₁.get? b = some o) :
    Inv (cxI CX P w K mg base N qual scope f cd cc A outer s H E) [] (L2.start N vs) H { s with heap := h₁, toks := tk } := by
  have room : ps.length ≤ N.length := by
    rw [← S.pre, List.length_take]
    exact Nat.min_le_right _ _
  have noA : ∀ b : Addr, b ∉ (cxI CX P w K mg base N qual scope f cd cc A outer s H E).ex := fun b z => absurd (show b ∈ ([] : List Addr) from z) (by simp)
  have only : ∀ {y : Str} {c : Addr}, (cxI CX P w K mg base N qual scope f cd cc A outer s H E).env.cells.lookup y = some c → y = "__class__" ∧ c = cc := fun {y c} h => by
    have h : ([(("__class__" : Str), cc)] : List (Str × Addr)).lookup y = some c := h
    have h := PySem.mem_of_lookup h
    simp only [List.mem_singleton, Prod.mk.injEq] at h
    exact h
  refine ⟨⟨e0.mod, S.kind, rfl, rfl, Nat.le_refl _, fun y z c h1 h2 => ?_, fun y hy => ?_, fun y c z _ => ?_, fun _ => hd, Around.frames_deeper e0.frames, .inr ⟨rfl, rfl⟩, fun b z => absurd z (noA b), e0.bs, e0.bsz, fun b _ _ => noA b, fun b z => absurd z (noA b), e0.funs, e0.frf⟩,
    rfl, e0.bare, Un.kept kp, ⟨_, hns, fun i y v h1 h2 h3 => ?_⟩, fun y c h => ?_, e0.hok.fresh (Nat.le_refl _), fun y c h => ?_, fun p hp => absurd (show p ∈ ([] : List (Addr × Obj)) from hp) (by simp), e0.hok.kept kp, ?_⟩
  · rw [(only h1).1, (only h2).1]
  · rcases (hy : scope.names.lookup y = some .cell ∨ scope.names.lookup y = some .free) with ny | ny
    · exact (S.nocell (y, .cell) (PySem.mem_of_lookup ny) rfl).elim
    · obtain rfl : y = "__class__" := S.nofree (y, .free) (PySem.mem_of_lookup ny) rfl
      exact ⟨cc, by show ([(("__class__" : Str), cc)] : List (Str × Addr)).lookup _ = _; simp [List.lookup]⟩
  · have z : false = true := z
    cases z
  · have told := start_at h2
    have short : i < ps.length := by rw [← hl]; exact (List.getElem?_eq_some_iff.mp told).1
    obtain ⟨u, in_, rv⟩ := r.get told
    have same : ps[i]? = some y := by
      have q : (N.take ps.length)[i]? = N[i]? := List.getElem?_take_of_lt short
      rw [S.pre] at q
      exact q.trans h1
    have apart : ps.Nodup := S.pre ▸ S.nd.sublist (List.take_sublist _ _)
    exact ⟨u, rv, .inl ⟨S.par y (List.mem_of_getElem? same), zip_look apart (by rw [← r.length]; exact hl) same in_⟩⟩
  · obtain ⟨_, e⟩ := only h
    rw [e]
    exact ⟨vC, oC, kp _ _ (e0.bs _ _ hcc).1, hcd⟩
  · obtain ⟨_, e⟩ := only h
    rw [e]
    exact (e0.bs _ _ hcc).2
  · show (L2.start N vs).length = N.length
    simp [L2.start]
    omega
end

/-- the bound built-in __init__, called -/
theorem sup_call {X : Cx} {pins : List (Addr × Obj)} {σ : L2.St} {H : Hp} {s : Shared} {a C u : Addr} {us : List Value} {A : Around} {Q : Value → Shared → Prop} {E : Value → Shared → Prop} (T : OexC X.K C) (I : Inv X pins σ H s) (e : H a = some (exo a C none)) (hu : s.heap.get? u = some (PySem.W.kxs_mw "ValueError.__init__" a)) (hl : us.length ≤ sizeLine)
    (h : ∀ s', Inv X pins σ H s' → Q .none s') : wpAny (model X.prog X.w) A (call (.ref u) us) Q E s := by
  obtain ⟨cn, cq, cN, cb, cm, cs, cu, ca, co, cd, z0, z1, z2, z3, z5, hC, _⟩ := T.cls; obtain ⟨t1, ho⟩ := exo_at I.hok e
  have KC := I.kIn _ _ hC
  obtain ⟨hp, g, d, t, os⟩ := s
  have F := PySem.F.excBase_ValueError
  refine wpAny_call <| codeAny_of_tree ?_
  show wpAny _ A.in1 (callAny (.ref u) ⟨us, []⟩) _ _ _
  simp only [callAny]
  refine wpAny_bind <| wpAny_load hu ?_
  simp only [PySem.W.kxs_mw, show (Value.type "method-wrapper" == Value.type "method" || Value.type "method-wrapper" == Value.type "builtin_function_or_method" || Value.type "method-wrapper" == Value.type "method-wrapper") = true by decide, if_true]
  refine PySem.W.KFB.if_so (by decide) <| wpAny_bind <| PySem.W.check_bound_init F.toExcCallFacts KC ho rfl <| wpAny_bind <| wpAny_pure <| wpAny_pure ?_
  refine ⟨plainId_quiet F.init.plain _, codeAny_builtin F.initEntry ?_⟩
  refine PySem.W.exc_init_tree (cls := .ref C) (t0 := t1) (dv := none) (c2 := .none) (c3 := .none) (b4 := .bool false) ho hl fun h' k hx _ => ?_
  have as_ : upd H a (exo a C none) = H := funext fun b => by
    unfold upd
    split
    · rename_i z; rw [z]; exact e.symm
    · rfl
  have wr := I.write (t' := t) (x := a) (e := a) (o := exo a C none) (by rw [e]; exact trivial) (.inl rfl) k ⟨_, hx⟩ (exo_ok hx)
  exact h _ (as_ ▸ wr)
end Wl

set_option Elab.async false
set_option linter.all false
set_option maxRecDepth 100000
set_option maxHeartbeats 4000000
/-! such an __init__ as a def with a promise -/
namespace Wl
open PySem PySem.Spec L2 PyProof.Rows

/-- what the written part says of an __init__ that calls super().__init__ -/
structure SupF (P : Program) (K : PySem.W.Frag) (C cc : Addr) (params : Arguments) (scope : Scope) (selfN : Str) : Prop where
  cell : ∃ cl cld csl, K.lookup cc = some ⟨cl, cld, .cell (some (.ref C)), csl⟩
  head : ∃ ar : Arg, (params.posonlyargs ++ params.args).head? = some ar ∧ ar.arg = selfN
  sup : PySem.W.ks_superIn K C C "__init__" = some (some (.builtin "ValueError.__init__"))
  opq : PySem.W.nsIn K PySem.cStatics "thirdparty.any" = some none
  sub : PySem.W.subIn K (.ref C) (.type "ValueError") = some true
  mro : PySem.W.mroIn K C (.ref C) = some true
  kS : scope.names.lookup ("super" : Str) = some .globalImplicit
  kC : scope.names.lookup ("__class__" : Str) = some .free
  kA : scope.names.lookup selfN = some .local
  top : (P.main.scope.names.lookup ("super" : Str)).isSome = false

def fileIn (P : Program) (K : PySem.W.Frag) (cd : Value) : Bool := match cd with
  | .ref at_ => (match K.lookup at_ with
    | some ⟨_, _, .fields vs, _⟩ => (match vs.toList with | _ :: _ :: Value.str file _ :: _ => (P.main.file : Str) == file | _ => false)
    | _ => false)
  | _ => false
theorem file_of {P : Program} {K : PySem.W.Frag} {cd : Value} (h : fileIn P K cd = true) : ∃ (c : Addr) (ccl : Value) (cdd : Option Addr) (vs : Array Value) (ccs : Array (Option Value)) (file : Str) (tf : Tok), cd = .ref c ∧ K.lookup c = some ⟨ccl, cdd, .fields vs, ccs⟩ ∧ vs[2]? = some (.str file tf) ∧ ((P.main.file : Str) == file) = true := by
  unfold fileIn at h
  split at h
  · rename_i c
    split at h
    · rename_i ccl cdd vs ccs ho
      split at h
      · rename_i x y file tf r hv
        refine ⟨c, _, _, vs, _, file, tf, rfl, ho, ?_, h⟩
        rw [← Array.getElem?_toList, hv]
        rfl
      · cases h
    · cases h
  · cases h

section
variable {CX : CXT} {P : Program} {w : World} {K : PySem.W.Frag} {mg : Str → Option Value} {base : Heap}
theorem fn_init {C f cc : Addr} {k : Nat} {name qual selfN : Str} {params : Arguments} {scope : Scope} {dV kV doc pm cdv ct oc : Value} {an od : Option Addr} {osl : Array (Option Value)} {N ps : List Str} {sp : Sp}
    {pl : Addr → Sem Bool} {e : Expr} {es : List Expr} {rest : List Stmt} {p0 p1 p2 p3 p4 : Pos}
    (lk : K.lookup f = some ⟨oc, od, .func (PySem.W.ksFn name qual params (.Expr (.Call (.Attribute (.Call (.Name "super" p0) [] [] p1) "__init__" p2) (e :: es) [] p3) p4 :: rest) scope dV kV doc pm an cdv ct cc), osl⟩)
    (hcd : PySem.W.codeIn K cdv qual = true) (hfi : fileIn P K cdv = true) (S : ISc N ps scope) (T : OexC K C) (U : SupF P K C cc params scope selfN) (hps : ps[0]? = some selfN) (hms : mg "super" = none)
    (lens : ∀ vs H Q E, sp vs H Q E → vs.length = ps.length) (hbody : ∀ (A : Around) (outer : List Env) (s : Shared) (H : Hp) (vs : List V) (Q : VK) (E : XK), Room k (A.deeper (PySem.W.ksEnv qual scope s.heap.objs.size f cdv cc)) → sp vs H Q E →
      ∃ ta t, PA (cxI CX P w K mg base N qual scope f cdv cc A outer s H E) (e :: es) ta ∧ PSs (cxI CX P w K mg base N qual scope f cdv cc A outer s H E) rest t ∧ ∃ a, vs[0]? = some (.ref a) ∧ H a = some (exo a C none) ∧
        ta (L2.start N vs) H fun ws H1 => ws.length ≤ 1000 ∧ H1 a = some (exo a C none) ∧ t { nx := fun _ H' => Q .non H', rt := Q } (L2.start N vs) H1)
    (hev : ∀ (L : Addr), eval (.Call (.Attribute (.Call (.Name "super" p0) [] [] p1) "__init__" p2) (e :: es) [] p3) (PySem.W.ksEnv qual scope L f cdv cc) = (do
      let ov ← attributeBase (.Call (.Name "super" p0) [] [] p1) "__init__" (PySem.W.ksEnv qual scope L f cdv cc) (eval (.Call (.Name "super" p0) [] [] p1) (PySem.W.ksEnv qual scope L f cdv cc))
      standAt p2.atName
      let (g, first) ← holding [ov] (getMethod ov "__init__" (pl L))
      callWith p3 g first (backTo p3 (starEach (e :: es) (PySem.W.ksEnv qual scope L f cdv cc))) []) := by exact fun _ => rfl)
    (he : ∀ env : Env, starEach (e :: es) env = (false, eval e env) :: starEach es env := by exact fun _ => rfl) (hpl : ∀ env : Env, (backTo p3 (starEach es env)).any (·.1) = false := by exact fun _ => rfl) :
    FnOk P w K mg base CX (k + 1) f (PySem.W.ksFn name qual params (.Expr (.Call (.Attribute (.Call (.Name "super" p0) [] [] p1) "__init__" p2) (e :: es) [] p3) p4 :: rest) scope dV kV doc pm an cdv ct cc) ps sp := by
  refine ⟨lens, fun A outer s H args us vs Q E hr e0 hb r hsp => ?_⟩; have hl := lens _ _ _ _ hsp
  have stays : ∀ b o, base.get? b = some o → s.heap.get? b = some o := fun b o z => (e0.bs b o z).1
  have KX := e0.mod.kin.keeps stays
  have lim := e0.mod.nolimit.keeps stays
  obtain ⟨cl, cld, csl, hcell⟩ := U.cell
  obtain ⟨ar, har, hself⟩ := U.head
  obtain ⟨cda, ccl, cdd, fvs, ccs, file, tf, hcdv, hcode, hfv, hfile⟩ := file_of hfi
  have hul : us.length = ps.length := by rw [← r.length]; exact hl
  have ndP : ps.Nodup := S.pre ▸ S.nd.sublist (List.take_sublist _ _)
  have hloc : ∀ y ∈ ps.zip us, scope.names.lookup y.1 = some .local := fun ⟨n, v⟩ hy => S.par n (List.of_mem_zip hy).1
  refine PySem.ks_codeAny_call_defAt (binds := ps.zip us) hr.depth (KX _ _ lk) rfl lim (PySem.W.codeRec_of KX hcd) rfl hb S.nocell hloc (fun h₁ hns kp => ?_) S.co S.gen S.kind
  have bcc : base.get? cc = some ⟨cl, cld, .cell (some (.ref C)), csl⟩ := e0.mod.kin _ _ hcell
  have I : Inv (cxI CX P w K mg base N qual scope f cdv cc A outer s H E) [] (L2.start N vs) H { s with heap := h₁, toks := s.toks + (ps.zip us).length } := inv_init S hr.hd e0 hl r bcc rfl hns kp
  obtain ⟨ta, t, hta, ht, a, ha0, hHa, hq⟩ := hbody A outer s H vs Q E (hr.deeper _) hsp
  obtain ⟨u0, hu0, ru0⟩ := r.get ha0
  obtain rfl : u0 = Value.ref a := ru0
  have hm0 := zip_look ndP hul hps hu0
  obtain ⟨t1, hoe⟩ := exo_at I.hok hHa
  have KI := I.kIn
  have hcls : ∃ cdC, PySem.W.clsIn K C = some cdC := by
    have h := U.sup
    unfold PySem.W.ks_superIn at h
    cases z : PySem.W.clsIn K C with
    | none => rw [z] at h; cases h
    | some cd => exact ⟨cd, rfl⟩
  obtain ⟨cdC, hcdC⟩ := hcls
  have hsup := U.sup
  unfold PySem.W.ks_superIn at hsup
  rw [hcdC] at hsup
  obtain ⟨oD, hD1, hD2⟩ : ∃ oD, h₁.get? C = some oD ∧ oD.data = .cls cdC := by
    have h := hcdC
    unfold PySem.W.clsIn at h
    split at h
    · rename_i c d cd' sl ho
      cases h
      exact ⟨_, KI _ _ ho, rfl⟩
    · cases h
  have Ia : PySem.W.InstAt h₁ a { cls := .ref C, dict := none, data := .fields #[.ref t1, .none, .none, .none, .bool false, .none] } C none := ⟨hoe, rfl, rfl, trivial⟩
  have hint : ∀ L, interactive (PySem.W.ksEnv qual scope L f cdv cc) = false := fun L => by
    unfold interactive
    show (scope.kind == .module && _) = false
    rw [S.kind]
    rfl
  refine PySem.ks_wpAt_execs_cons (PySem.ks_wpAt_Expr_any (PySem.ks_wpAt_MethodCall (pl := pl _) ?_ (hev _)) (hint _) rfl)
  refine PySem.ks_wpAt_super_base U.kS U.kC (by decide) rfl (KI _ _ lk) rfl har hcdv (KI _ _ hcode) rfl hfv hfile U.top ?_
  obtain ⟨mb, hb1, hb2⟩ := I.mod.blt
  refine PySem.W.ks_loadName_global S.kind U.kS (Calls.loadGlobal_builtin (I.mod.glob.keeps I.bk) hms (hb1.keeps I.bk) ((hb2 "super" (by decide)).trans (by exact PyProof.Rows.Boot.super)) ⟨rfl, ?_⟩)
  refine wpAny_loadName_free S.kind U.kC rfl ⟨_, KI _ _ hcell, rfl⟩ ?_
  rw [hself]
  refine wpAny_loadName_local S.kind U.kA hns hm0 ?_
  refine PySem.ks_wpAny_isType_cls hD1 hD2 ⟨rfl, ?_⟩
  refine PySem.ks_wpAny_call_super hD1 hD2 hoe rfl (fun c z => by cases z) (PySem.W.looks_mroIn KI U.mro) (fun h' hso k => ?_)
  have I1 : Inv (cxI CX P w K mg base N qual scope f cdv cc A outer s H E) [] (L2.start N vs) H { s with heap := h', toks := s.toks + (ps.zip us).length } := I.kept (t' := s.toks + (ps.zip us).length) k
  have K1 := I1.kIn
  have Ib : PySem.W.InstAt h' a { cls := .ref C, dict := none, data := .fields #[.ref t1, .none, .none, .none, .bool false, .none] } C none := ⟨k _ _ hoe, rfl, rfl, trivial⟩
  refine PySem.W.kxs_getMethod PySem.W.kxs_ValueError hso (PySem.W.looks_opaque K1 U.opq) (l₀ := cdC.mro) ?_ rfl K1 hsup (Ib.type.andThen (PySem.W.looks_subIn K1 U.sub)) (PySem.W.ks_ne K1 Ib hcdC) (by decide) ?_
  · exact fun A Q E s k q => wpAny_bind ((PySem.W.looks_clsIn K1 hcdC) A _ E s k (wpAny_pure q))
  have kp2 : ∀ b o, h'.get? b = some o → (h'.push (PySem.W.kxs_mw "ValueError.__init__" a)).get? b = some o := fun b o e => Heap.get?_push_of_some _ e
  have I2 : Inv (cxI CX P w K mg base N qual scope f cdv cc A outer s H E) [] (L2.start N vs) H { s with heap := h'.push (PySem.W.kxs_mw "ValueError.__init__" a), toks := s.toks + (ps.zip us).length + 1 } := I1.kept (t' := s.toks + (ps.zip us).length + 1) kp2
  have hu : (h'.push (PySem.W.kxs_mw "ValueError.__init__" a)).get? h'.objs.size = some (PySem.W.kxs_mw "ValueError.__init__" a) := Heap.get?_push_size _ rfl
  have I3 : Inv (cxI CX P w K mg base N qual scope f cdv cc A outer s H E) [(h'.objs.size, PySem.W.kxs_mw "ValueError.__init__" a)] (L2.start N vs) H { s with heap := h'.push (PySem.W.kxs_mw "ValueError.__init__" a), toks := s.toks + (ps.zip us).length + 1 } := by
    refine I2.pins_of fun p hp => ?_
    rw [List.mem_singleton] at hp
    subst hp
    exact ⟨hu, I1.hok.fresh (Nat.le_refl _), Nat.ne_of_gt I1.lt, I1.nofs (Nat.le_refl _), fun v z => by cases z⟩
  show wpAny _ _ (callWith p3 (.ref h'.objs.size) [] (backTo p3 (starEach (e :: es) _)) []) _ _ _
  refine PySem.W.kxs_callWith (i := "ValueError.__init__") (x := a) (by rw [he]; show (false || (backTo p3 (starEach es _)).any (·.1)) = false; rw [hpl]; rfl) ?_
  rw [he]
  refine Calls.evalArgs_plain ?_
  have hrun := hta.run p3 _ _ _ H _ I3 hq
  rw [he] at hrun
  refine thn hrun fun ws s4 hw => ?_
  obtain ⟨vs', H1, I4, r4, hlen, hH1, hq1⟩ := hw
  have hu4 : s4.heap.get? h'.objs.size = some (PySem.W.kxs_mw "ValueError.__init__" a) := (I4.pin _ (List.mem_append_right _ (List.mem_singleton.mpr rfl))).1
  refine ⟨hu4, ?_⟩
  have I5 : Inv (cxI CX P w K mg base N qual scope f cdv cc A outer s H E) [] (L2.start N vs) H1 s4 := I4.pins_of fun p hp => by cases hp
  refine sup_call T I5 hH1 hu4 (by show ws.length ≤ _; rw [← r4.length, sizeLine_eq]; omega) fun s5 I6 => ?_
  refine wpAt_of_wpAny ?_
  refine wpAny_mono (ht.run [] s5 (L2.start N vs) H1 _ I6 hq1) (fun fl s' hs => ?_) fun e s' hs => hs
  have leaves : ∀ {τ : L2.St} {G : Hp} {x : V} {y : Value}, Inv (cxI CX P w K mg base N qual scope f cdv cc A outer s H E) [] τ G s' → L2.RelV x y → Q x G → CE outer P w H s Q y s' :=
    fun {τ G x y} iv rel q => ⟨x, G, iv.os, iv.bare, iv.base, iv.hok, rel, q⟩
  rcases fl with _ | _ | _ | u
  all_goals first
    | (obtain ⟨x, τ, G, iv, rel, q⟩ := hs; exact leaves iv rel q)
    | (obtain ⟨τ, G, iv, q⟩ := hs; first | exact q.elim | exact leaves (x := V.non) (y := Value.none) iv rfl q)
end
end Wl

set_option Elab.async false
set_option linter.all false
set_option maxRecDepth 100000
set_option maxHeartbeats 4000000
/-! isinstance and fields of a caught exception, in a suite -/
namespace Wl
open PySem PySem.Spec L2 PyProof.Rows

def dOk (d : Option Addr) (H : Hp) : Prop := ∀ dd, d = some dd → ∃ fs, H dd = some (.xd fs)
def rIsC (K : PySem.W.Frag) (C a : Addr) (d : Option Addr) : List V → Hp → VK → Prop := fun xs H Q => ∃ (c : V) (cv : Value) (b : Bool), xs = [.ref a, c] ∧ (∀ u, L2.RelV c u → u = cv) ∧ dOk d H ∧ PySem.W.kitOne K (.ref C) cv = some b ∧ Q (.bl b) H
theorem call_isC {X : Cx} {a C : Addr} {oe : Obj} {d : Option Addr} {pn : List (Addr × Obj)} (T : L2.ExcC X.K C) (hz : Zc (.ref C) d oe) (hf : ∃ vs, oe.data = .fields vs) : CallR (X.suite a ((a, oe) :: pn)) (.builtin "isinstance") (rIsC X.K C a d) := by
  intro pns s τ H xs us Q I r h; obtain ⟨c, cv, b, rfl, hcv, hd, e, q⟩ := h
  cases r with
  | cons rx rr =>
    cases rr with
    | cons rt rr =>
      cases rr
      cases rx
      have ec := hcv _ rt
      subst ec
      have hget := (I.pin (a, oe) (List.mem_append_left _ List.mem_cons_self)).1
      obtain ⟨vs, hv⟩ := hf
      have hno : PySem.W.notCls oe := by unfold PySem.W.notCls; rw [hv] <;> rfl
      have J : ∃ od : Option Obj, PySem.W.InstAt s.heap a oe C od := by
        cases hdd : d with
        | none => exact ⟨none, ⟨hget, hz.1, hno, by rw [hz.2, hdd]; trivial⟩⟩
        | some dd =>
          obtain ⟨fs, hfs⟩ := hd dd hdd
          have hx : ObjOk X.prog X.w H s.heap dd (.xd fs) := I.hok dd _ hfs
          obtain ⟨mA, hns, _⟩ := hx
          obtain ⟨od, ho, _⟩ := lookIn_ns hns
          exact ⟨some od, ⟨hget, hz.1, hno, by rw [hz.2, hdd]; exact ho⟩⟩
      obtain ⟨od, J⟩ := J
      have hcl : (PySem.W.clsIn X.K C).isSome = true := by
        obtain ⟨cd, h1, _⟩ := PySem.W.any_some T.hd
        rw [h1]; rfl
      exact PySem.W.kia_one (PySem.W.kitx_exc hcl T.hg T.hk T.hs T.ha T.hn T.ht T.hm) I.kIn J e (fun z => nomatch z) fun tk => ⟨.bl b, H, I.kept (t' := tk) fun _ _ z => z, rfl, q⟩

/-- what an answer of isinstance rests on -/
structure IsTab (K : PySem.W.Frag) (mg : Str → Option Value) (isx : Addr → Str → Option Bool) : Prop where
  cls : ∀ C T b, isx C T = some b → L2.ExcC K C
  kit : ∀ C T b, isx C T = some b → ∃ (v : V) (cv : Value), (mg T = some cv ∨ (mg T = none ∧ bootBuiltins T = some cv ∧ T ≠ "__name__")) ∧ L2.RelV v cv ∧ (∀ u, L2.RelV v u → u = cv) ∧ PySem.W.kitOne K (.ref C) cv = some b

def mOk (d : Option Addr) (μ : Mu) : Prop := ∀ dd, d = some dd → ∃ fs, μ dd = some (.xd fs)
def vIsC (isx : Addr → Str → Option Bool) (i : Nat) (a C : Addr) (d : Option Addr) (T : Str) : DE := fun δ μ Q => δ[i]? = some (some (.ref a)) ∧ mOk d μ ∧ ∃ b, isx C T = some b ∧ Q (.bl b) μ
def vXf (i : Nat) (a : Addr) (d : Option Addr) (f : Str) : DE := fun δ μ Q => δ[i]? = some (some (.ref a)) ∧ ∃ (dd : Addr) (fs : List (Str × Dv)) (v : Dv), d = some dd ∧ μ dd = some (.xd fs) ∧ fs.lookup f = some v ∧ Q v μ
section
variable {S : Sg} {X : Cx} {a C : Addr} {oe : Obj} {d : Option Addr} {pn : List (Addr × Obj)} {i : Nat} {p p1 p2 p3 : Pos}
theorem we_isC {isx : Addr → Str → Option Bool} {e T : Str} (hi : Is S (X.suite a ((a, oe) :: pn))) (tb : IsTab S.K S.mg isx) (hz : Zc (.ref C) d oe) (hf : ∃ vs, oe.data = .fields vs) (hmi : S.mg "isinstance" = none) (hgi : Gl X "isinstance") (hgT : Gl X T) (hN : S.N[i]? = some e) (hv : Vis X.env.scope e)
    (hdT : (T == ("__debug__" : Str)) = false := by decide) (hd : (e == ("__debug__" : Str)) = false := by decide) (hcd : (e == ("__classdict__" : Str)) = false := by decide)
    (hn : ∀ env : Env, starEach [.Name e p1, .Name T p2] env = (false, eval (.Name e p1) env) :: starEach [.Name T p2] env := by exact fun _ => rfl) (hn2 : ∀ env : Env, starEach [.Name T p2] env = (false, eval (.Name T p2) env) :: starEach [] env := by exact fun _ => rfl)
    (hpl : ∀ env : Env, (backTo p3 (starEach [.Name T p2] env)).any (·.1) = false := by exact fun _ => rfl) :
    WE S (fun _ : Unit => X.suite a ((a, oe) :: pn)) (.Call (.Name "isinstance" p) [.Name e p1, .Name T p2] [] p3) (vIsC isx i a C d T) := by
  have eK : X.K = S.K := hi.K
  have em : X.mg = S.mg := hi.mg
  have eN : X.N = S.N := hi.N
  refine ⟨fun σ H Q => σ[i]? = some (some (.ref a)) ∧ dOk d H ∧ ∃ b, isx C T = some b ∧ Q (.bl b) H, fun _ _ => ⟨fun pins s σ H Q I h => ?_⟩, fun I δ μ σ H hJ SM hS Q Q' q u => ?_⟩
  · obtain ⟨h1, h2, b, h3, h4⟩ := h
    obtain ⟨v, cv, k1, k2, k3, k4⟩ := tb.kit C T b h3
    have hT : PE (X.suite a ((a, oe) :: pn)) (.Name T p2) (tC v) := by
      rcases k1 with k1 | ⟨k1, k5, k6⟩
      · exact pe_glob hgT (em ▸ k1) k2 hdT
      · exact pe_bltn hgT (em ▸ k1) k5 k2 k6 hdT
    have hE : PE (X.suite a ((a, oe) :: pn)) (.Name e p1) (tVar i) := pe_var (show X.N[i]? = some e from eN ▸ hN) hv hd hcd
    have hC : CallR (X.suite a ((a, oe) :: pn)) (.builtin "isinstance") (rIsC X.K C a d) := call_isC (eK ▸ tb.cls C T b h3) hz hf
    refine (pe_callB hC hgi (em ▸ hmi) (by first | rfl | kernel_rfl) (pa_cons hE (pa_cons hT pa_nil (hn2 _)) (hn _)) (by decide) (by decide) (hn _) (hpl _)).run pins s σ H Q I ?_
    exact ⟨.ref a, h1, v, cv, b, rfl, k3, h2, eK ▸ k4, h4⟩
  · obtain ⟨h1, h2, b, h3, h4⟩ := q
    obtain ⟨w', r1, r2⟩ := hS.at_ i _ h1
    cases r2
    refine ⟨r1, fun dd e => ?_, b, h3, u I _ _ μ H (Same.refl I) SM (.bl b) h4⟩
    obtain ⟨fs, hfs⟩ := h2 dd e
    obtain ⟨gs, _, hg⟩ := SM.memo hfs
    exact ⟨gs, hg⟩
theorem RepP.look {K : PySem.W.Frag} {I : Hp} {f : Str} {v : Dv} : ∀ {fs : List (Str × Dv)} {gs : List (Str × V)}, RepP K I fs gs → fs.lookup f = some v → ∃ u, gs.lookup f = some u ∧ Rep K I v u
  | _, _, .nil, h => by cases h
  | (x, y) :: fs, (x', y') :: gs, .cons h t, e => by
    obtain ⟨h1, h2⟩ := h
    have h1 : x = x' := h1
    subst h1
    simp only [List.lookup] at e ⊢
    split at e
    · cases e; exact ⟨y', rfl, h2⟩
    · exact RepP.look t e
theorem we_xf {e f : Str} (hi : Is S (X.suite a ((a, oe) :: pn))) (T : XfC S.K C) (hno : PySem.W.findIn S.K (.ref C) f = some none) (hz : Zc (.ref C) d oe) (hf : ∃ vs, oe.data = .fields vs) (hN : S.N[i]? = some e) (hv : Vis X.env.scope e)
    (hd : (e == ("__debug__" : Str)) = false := by decide) (hcd : (e == ("__classdict__" : Str)) = false := by decide) (hb : ∀ env : Env, attributeBase (.Name e p1) f env (eval (.Name e p1) env) = eval (.Name e p1) env := by exact fun _ => rfl) :
    WE S (fun _ : Unit => X.suite a ((a, oe) :: pn)) (.Attribute (.Name e p1) f p2) (vXf i a d f) := by
  have eK : X.K = S.K := hi.K
  have eN : X.N = S.N := hi.N
  refine ⟨_, fun _ _ => pe_xf (eK ▸ T) (eK ▸ hno) hz hf (pe_var (i := i) (show X.N[i]? = some e from eN ▸ hN) hv hd hcd) (hb _), fun I δ μ σ H hJ SM hS Q Q' q u => ?_⟩
  obtain ⟨h1, dd, fs, v, h2, h3, h4, h5⟩ := q
  obtain ⟨w', r1, r2⟩ := hS.at_ i _ h1
  cases r2
  obtain ⟨gs, hp, hg⟩ := SM.memo h3
  obtain ⟨y, l1, l2⟩ := RepP.look hp h4
  exact ⟨_, r1, rfl, rfl, dd, gs, y, h2, hg, l1, u I _ _ μ H (Same.refl I) SM l2 h5⟩
end
end Wl

set_option Elab.async false
set_option linter.all false
set_option maxRecDepth 100000
set_option maxHeartbeats 4000000
/-! a lambda handed to a def: what is made is told by the heap before -/
namespace Wl
open PySem PySem.Spec L2 PyProof.Rows LamX

/-- the heap behind the making of a lambda: as before, or with a new code object c and the grown table at P -/
def Made (H H1 : Hp) (P c : Addr) (q : Str) (tbl : Array Value) : Prop :=
  (H1 = H ∧ ∃ at_ : Pos, codeAmong at_ tbl.toList = some (.ref c)) ∨
    (H c = none ∧ ∃ at_ : Pos, H1 = upd (upd H P (.tbl (tbl ++ #[rawInt at_.line, rawInt at_.col, .ref c]))) c (CodeO c q))

section
variable {X : Cx} {pins : List (Addr × Obj)} {σ : L2.St} {H : Hp} {s : Shared}
theorem lam_made {c P : Addr} {tbl : Array Value} {prs : Arguments} {bd : Expr} {sco : Scope} {lp : Pos} {E : Value → Shared → Prop} {Q : Value → Shared → Prop} (iv : Inv X pins σ H s) (tb : TabB X.base X.mg c P) (hc0 : X.env.code = .ref c)
    (hP : H P = some (.tbl tbl)) (trip : TriplesOk tbl.toList) (names : ∀ (at_ : Pos) (v : Value), codeAmong at_ tbl.toList = some v → ∃ b, v = .ref b ∧ H b = some (CodeO b (X.env.qual ++ "<lambda>"))) (hd0 : defaultsOf prs X.env = ([], []))
    (hfr : ∀ y ∈ sco.names, y.2 = .free → ∃ b, X.env.cells.lookup y.1 = some b)
    (fin : ∀ (f b : Addr) (pm ctv : Value) (H1 : Hp) (s' : Shared), Inv X pins σ H1 s' → Made H H1 P b (X.env.qual ++ "<lambda>") tbl →
      s'.heap.get? f = some (PySem.W.kla_obj "<lambda>" (X.env.qual ++ "<lambda>") prs bd sco (cloFrom X.env.cells sco.names []) pm b ctv) → H1 f = none → f ∉ frs X.stack → Q (.ref f) s') :
    wpAny (model X.prog X.w) X.A (eval (.Lambda prs bd sco lp) X.env) Q E s := by
  refine PySem.W.kla_eval hd0 ?_
  have onBlt : s.heap.BuiltinsAt X.mg P := tb.bm.keeps iv.bk
  have atP : s.heap.get? P = some { cls := .none, data := .fields tbl } := iv.hok P _ hP
  have apart : ∀ b, s.heap.objs.size ≤ b → b ∉ frs X.stack := fun b le m => by
    rcases List.mem_cons.mp (iv.stkSub _ m) with eq | m2
    · have lt := iv.lt
      rw [← eq] at lt
      exact Nat.lt_irrefl _ (Nat.lt_of_lt_of_le lt le)
    · exact iv.nofs le m2
  rcases found : codeAmong lp tbl.toList with _ | cv
  · refine PySem.W.kla_makeFunction (mg := X.mg) (c := c) (P := P) (ps := tbl) (closure_ok hfr) iv.ok.glob (iv.mod.glob.keeps iv.bk) hc0 (tb.code.keeps iv.bk) atP trip found tb.gP onBlt fun b ctv h' tk keeps ge lt rec_ grown => ?_
    obtain ⟨b2, ob, fl, nt, eb, g1, g2, g3⟩ := rec_
    cases eb
    have le : s.heap.objs.size ≤ h'.objs.size := Nat.le_trans ge (Nat.le_of_lt lt)
    have fresh : H b = none := iv.hok.fresh ge
    have nf : h'.objs.size ≠ b := Nat.ne_of_gt lt
    have nP : h'.objs.size ≠ P := Nat.ne_of_gt (Nat.lt_of_lt_of_le (Heap.lt_size atP) le)
    refine fin h'.objs.size b ((X.mg "__name__").getD .none) ctv _ _ (inv_table (t' := tk) (more := #[rawInt lp.line, rawInt lp.col, .ref b]) (h' := h'.push (PySem.W.kla_obj "<lambda>" (X.env.qual ++ "<lambda>") prs bd sco (cloFrom X.env.cells sco.names []) ((X.mg "__name__").getD .none) b ctv)) iv hP
      (fun y oy ny ey => Heap.get?_push_of_some _ (keeps y oy ny ey)) (Heap.get?_push_of_some _ grown) ge ⟨ob, fl, nt, Heap.get?_push_of_some _ g1, g2, g3⟩) (.inr ⟨fresh, lp, rfl⟩) (Heap.get?_push_size _ rfl) ?_ (apart _ le)
    rw [upd_ne nf, upd_ne nP]
    exact iv.hok.fresh le
  · obtain ⟨b, eb, hb⟩ := names lp cv found
    subst eb
    refine PySem.W.kla_makeFunctionHit (mg := X.mg) (c := c) (P := P) (ps := tbl) (closure_ok hfr) iv.ok.glob (iv.mod.glob.keeps iv.bk) hc0 (tb.code.keeps iv.bk) atP trip found onBlt fun ctv h' tk keeps le => ?_
    exact fin h'.objs.size b ((X.mg "__name__").getD .none) ctv H _ (iv.kept fun y oy ey => Heap.get?_push_of_some _ (keeps y oy ey)) (.inl ⟨rfl, lp, found⟩) (Heap.get?_push_size _ rfl) (iv.hok.fresh le) (apart _ le)
end

/-- what is told of tables, in deep values: SatM goes over the making -/
theorem SatM.made {K : PySem.W.Frag} {I H H1 : Hp} {μ : Mu} {P c : Addr} {q : Str} {tbl : Array Value} (S : SatM K I μ H) (hm : μ P = some (.tab q)) (hP : H P = some (.tbl tbl)) (md : Made H H1 P c q tbl) :
    ∃ I1, Same I I1 ∧ SatM K I1 μ H1 ∧ I1 c = some (CodeO c q) := by
  obtain ⟨h0, ps, h1, h2, h3⟩ := S.mu P _ hm
  rw [hP] at h1
  cases h1
  rcases md with ⟨rfl, at_, e⟩ | ⟨n, at_, rfl⟩
  · obtain ⟨b, e1, e2⟩ := h3 at_ _ e
    cases e1
    exact ⟨I, Same.refl I, S, e2⟩
  · have nPc : P ≠ c := ne_of_none hP n
    have S1 : SatM K I (mset μ P (.oth (.tbl (tbl ++ #[rawInt at_.line, rawInt at_.col, .ref c])))) (upd H P (.tbl (tbl ++ #[rawInt at_.line, rawInt at_.col, .ref c]))) := S.setM h0 upd_same
    have n1 : upd H P (.tbl (tbl ++ #[rawInt at_.line, rawInt at_.col, .ref c])) c = none := by rw [upd_ne (Ne.symm nPc)]; exact n
    obtain ⟨s1, S2⟩ := S1.newI n1 (CodeO c q)
    have cI : upd I c (CodeO c q) c = some (CodeO c q) := upd_same
    refine ⟨_, s1, ?_, cI⟩
    have hI : upd I c (CodeO c q) P = none := by rw [upd_ne nPc]; exact h0
    have eL : (tbl ++ #[rawInt at_.line, rawInt at_.col, .ref c]).toList = tbl.toList ++ [rawInt at_.line, rawInt at_.col, .ref c] := by simp
    refine ⟨S2.ex, fun a m e => ?_⟩
    by_cases ha : a = P
    · subst ha
      rw [hm] at e
      cases e
      refine ⟨hI, _, by rw [upd_ne nPc]; exact upd_same, by rw [eL]; exact PySem.TriplesOk_snoc _ _ _ _ h2, fun pos cv hc => ?_⟩
      rw [eL] at hc
      rcases among_app _ h2 hc with z | z
      · obtain ⟨b, e1, e2⟩ := h3 pos cv z
        exact ⟨b, e1, s1 _ _ e2⟩
      · exact ⟨c, z, cI⟩
    · exact S2.mu a m (by rw [mset_ne ha]; exact e)
end Wl

set_option Elab.async false
set_option linter.all false
set_option maxRecDepth 100000
set_option maxHeartbeats 4000000
/-! defs that call what they got within a try -/
namespace Wl
open PySem PySem.Spec L2 PyProof.Rows LamX

abbrev DTL := DX → Mu → DV → Prop
def RelTl (K : PySem.W.Frag) (I : Hp) (tl : XK → Hp → VK → Prop) (td : DTL) : Prop :=
  ∀ I' μ H E E' Q Q', Same I I' → SatM K I' μ H → td E μ Q → UpX K I' E E' → Up K I' Q Q' → tl E' H Q'
def TTD (K : PySem.W.Frag) (tt : DTL → Mu → DV → Prop) : (XK → Hp → VK → Prop) → Hp → VK → Prop := fun tl H Q =>
  ∃ I μ Qd td, SatM K I μ H ∧ RelTl K I tl td ∧ tt td μ Qd ∧ Up K I Qd Q

/-- the suite's wish for the class C (its dict at d): n slots, the exception in slot i -/
def caught (isx : Addr → Str → Option Bool) (cs : Str) (n i : Nat) (ts : Addr → Addr → Option Addr → DS) (Q : DV) : DX := fun C d μ =>
  isx C cs = some true ∧ ∀ a, μ a = none → ts a C d { nx := fun _ μ2 => Q .non μ2, rt := Q } ((List.replicate n none).set i (some (.ref a))) μ
/-- try: a() / except x as e: suite / return None -/
def ttR (isx : Addr → Str → Option Bool) (cs : Str) (n i : Nat) (ts : Addr → Addr → Option Addr → DS) : DTL → Mu → DV → Prop := fun td μ Q =>
  td (caught isx cs n i ts Q) μ fun _ μ1 => Q .non μ1
/-- try: return a() / except x as e: suite -/
def ttT (isx : Addr → Str → Option Bool) (cs : Str) (n i : Nat) (ts : Addr → Addr → Option Addr → DS) : DTL → Mu → DV → Prop := fun td μ Q =>
  td (caught isx cs n i ts Q) μ Q

abbrev sgC (P : Program) (w : World) (K : PySem.W.Frag) (mg : Str → Option Value) (base : Heap) (N : List Str) (J : Hp) : Sg :=
  ⟨P, w, K, mg, base, 0, N, J, fun _ _ _ _ => False, fun _ _ _ _ => False, fun _ _ _ _ _ _ _ _ _ _ h => h, true⟩

section
variable {X : Cx}
/-- the suite as a statement list of the hand layer -/
def tsH (K : PySem.W.Frag) (n : Nat) (isx : Addr → Str → Option Bool) (cs : Str) (ts : Addr → Addr → Option Addr → DS) : Addr → Value → Option Addr → TS := fun a cls d D σ H =>
  ∃ C I δ μ Dd, cls = .ref C ∧ isx C cs = some true ∧ SatM K I μ H ∧ (σ.length = n → RepS K I δ σ) ∧ ts a C d Dd δ μ ∧ UpE K I Dd D
theorem suite_runs {X : Cx} {isx : Addr → Str → Option Bool} {cs : Str} {ts : Addr → Addr → Option Addr → DS} {st : List Stmt} {a : Addr} {oe : Obj} {cls : Value} {d : Option Addr} {pn : List (Addr × Obj)} (hu : X.A.units + 64 < cLine)
    (hz : Zc cls d oe) (hf : ∃ vs, oe.data = .fields vs)
    (hsu : ∀ (J : Hp) (C : Addr), isx C cs = some true → Zc (.ref C) d oe → Is (sgC X.prog X.w X.K X.mg X.base X.N J) (X.suite a ((a, oe) :: pn)) → WSs (sgC X.prog X.w X.K X.mg X.base X.N J) (fun _ : Unit => X.suite a ((a, oe) :: pn)) st (ts a C d)) :
    PSs (X.suite a ((a, oe) :: pn)) st (tsH X.K X.N.length isx cs ts a cls d) := by
  refine ⟨fun pins s σ H D iv h => ?_⟩
  obtain ⟨C, I, δ, μ, Dd, rfl, hx, SM, RS, ht, up⟩ := h
  have is : Is (sgC X.prog X.w X.K X.mg X.base X.N I) (X.suite a ((a, oe) :: pn)) := ⟨rfl, rfl, rfl, rfl, rfl, rfl, fun z => absurd z (by simp), fun z => absurd z (by simp), L2.takes0, PassesOwn.never, hu⟩
  obtain ⟨te, h1, h2⟩ := hsu I C hx hz is
  exact (h1 () is).run pins s σ H D iv (h2 I δ μ σ H (Same.refl I) SM (RS iv.len) Dd D ht up)

theorem rep_none {K : PySem.W.Frag} {I : Hp} {n : Nat} {σ : L2.St} (h : σ.length = n) : RepS K I (List.replicate n none) σ := by
  refine ⟨by simp [h], fun i d e => ?_⟩
  have := List.mem_of_getElem? e
  simp at this
end

section
variable {X : Cx} {Ng : List Str} {x a ec en q : Str} {sg : Scope} {g CS : Addr} {cdg : Value} {i : Nat} {b0 : Stmt} {suite : List Stmt} {isx : Addr → Str → Option Bool} {ts : Addr → Addr → Option Addr → DS} {p1 p2 p3 p4 p5 p6 p7 p8 : Pos}
/-- what is asked of such a def -/
structure TryD (X : Cx) (Ng : List Str) (x ec en : Str) (sg : Scope) (g : Addr) (cdg : Value) (CS : Addr) (i : Nat) (b0 : Stmt) (suite : List Stmt) (isx : Addr → Str → Option Bool) (ts : Addr → Addr → Option Addr → DS) : Prop where
  hge : sg.names.lookup ec = some .globalImplicit
  hme : X.mg ec = some (.ref CS)
  hde : (ec == ("__debug__" : Str)) = false
  hN : Ng.Nodup
  hi : Ng[i]? = some en
  hl : sg.names.lookup en = some .local
  hlen : 1 ≤ Ng.length
  hu : X.A.units + 67 < cLine
  hcs : ∀ C, isx C ec = some true → PySem.W.exmOne X.K (.ref C) (.ref CS) = some true
  hsu : ∀ (s : Shared) (H : Hp) (a : Addr) (oe : Obj) (C : Addr) (d : Option Addr) (pn : List (Addr × Obj)) (J : Hp), isx C ec = some true → Zc (.ref C) d oe → (∃ vs, oe.data = .fields vs) →
      Is (sgC X.prog X.w X.K X.mg X.base Ng J) ((cxOf C8.CX0 X.prog X.w X.K X.mg X.base Ng x sg g cdg X.A X.stack s H C8.E0).nox.suite a ((a, oe) :: pn)) →
      WSs (sgC X.prog X.w X.K X.mg X.base Ng J) (fun _ : Unit => (cxOf C8.CX0 X.prog X.w X.K X.mg X.base Ng x sg g cdg X.A X.stack s H C8.E0).nox.suite a ((a, oe) :: pn)) (b0 :: suite) (ts a C d)
theorem try_runs (T : TryD X Ng x ec en sg g cdg CS i b0 suite isx ts) {s : Shared} {H : Hp} {st : Stmt} {tb : XK → TS}
    (hb : ∀ (W : WX) (pn : List (Addr × Obj)) (xe : Value → Shared → Prop) (E : XK), Takes ((cxOf C8.CX0 X.prog X.w X.K X.mg X.base Ng x sg g cdg X.A X.stack s H C8.E0).nox.tr pn xe) W → (∀ cls d σ' H', E cls d H' → W cls d σ' H') →
      PSs ((cxOf C8.CX0 X.prog X.w X.K X.mg X.base Ng x sg g cdg X.A X.stack s H C8.E0).nox.tr pn xe) [st] (tb E)) :
    PS (cxOf C8.CX0 X.prog X.w X.K X.mg X.base Ng x sg g cdg X.A X.stack s H C8.E0).nox (.Try [st] [.ExceptHandler (some (.Name ec p4)) (some en) (b0 :: suite) p7] [] [] p8)
      (fun D σ H => ∃ E : XK, (∀ cls d σ' H', E cls d H' → wAs X.K (.ref CS) i (tsH X.K Ng.length isx ec ts) (fun _ _ _ _ => False) D cls d σ' H') ∧ tb E D σ H) := by
  have hgl : Gl (cxOf C8.CX0 X.prog X.w X.K X.mg X.base Ng x sg g cdg X.A X.stack s H C8.E0).nox ec := T.hge
  have hu : X.A.units + 3 + 64 < cLine := by have := T.hu; omega
  exact ps_try_as (X := (cxOf C8.CX0 X.prog X.w X.K X.mg X.base Ng x sg g cdg X.A X.stack s H C8.E0).nox) (c := .ref CS) (tb := fun W D σ H => ∃ E : XK, (∀ cls d σ' H', E cls d H' → W cls d σ' H') ∧ tb E D σ H)
      (ts := tsH X.K Ng.length isx ec ts) rfl rfl T.hN T.hi T.hl ⟨hgl, T.hde, .inl T.hme⟩ L2.takes0
      (fun W pn xe tk _ => ⟨fun pins s' σ H' D iv ⟨E, h1, h2⟩ => (hb W pn xe E tk h1).run pins s' σ H' D iv h2⟩)
      (fun a oe cls d pn hz hf => suite_runs (X := (cxOf C8.CX0 X.prog X.w X.K X.mg X.base Ng x sg g cdg X.A X.stack s H C8.E0).nox) hu hz hf fun J C hx hz' is => T.hsu s H a oe C d pn J hx hz' hf is)
theorem caught_as {K : PySem.W.Frag} (T : TryD X Ng x ec en sg g cdg CS i b0 suite isx ts) (eK : X.K = K) {I I' : Hp} {μ' : Mu} {H' : Hp} {C : Addr} {d : Option Addr} {Q : DV} {Q' : VK} {D : Ends} {σ : L2.St} (e : Same I I') (SM : SatM K I' μ' H') (h : caught isx ec Ng.length i ts Q C d μ') (up : Up K I Q Q')
    (hnx : D.nx = fun _ H2 => Q' .non H2) (hrt : D.rt = Q') : wAs X.K (.ref CS) i (tsH X.K Ng.length isx ec ts) (fun _ _ _ _ => False) D (.ref C) d σ H' := by
  subst eK
  obtain ⟨h1, h2⟩ := h
  refine ⟨true, T.hcs C h1, fun _ a na => ?_, fun z => by cases z⟩
  have nm : μ' a = none := by
    cases z : μ' a with
    | none => rfl
    | some m =>
      obtain ⟨o, ho⟩ := (SM.memo z).some
      rw [na] at ho
      cases ho
  refine ⟨C, I', _, μ', _, rfl, h1, SM, fun hl => (rep_none (by simpa using hl)).set i (.ref a), h2 a nm, ⟨?_, ?_, ?_, ?_⟩⟩
  · exact fun I2 δ2 σ2 μ2 H2 e2 S2 r2 q2 => by
      show D.nx _ _
      rw [hnx]
      exact up I2 .non .non μ2 H2 (e.trans e2) S2 .non q2
  · exact fun I2 v2 u2 μ2 H2 e2 S2 r2 q2 => by
      show D.rt _ _
      rw [hrt]
      exact up I2 v2 u2 μ2 H2 (e.trans e2) S2 r2 q2
  · exact fun _ _ _ _ _ _ _ _ q2 => q2.elim
  · exact fun _ _ _ _ _ _ _ _ q2 => q2.elim
theorem gives_raised (T : TryD X Ng x ec en sg g cdg CS i b0 suite isx ts) {a : Str} {j : Nat} :
    GivesTo X Ng x sg g cdg [.Try [.Expr (.Call (.Name a p1) [] [] p2) p3] [.ExceptHandler (some (.Name ec p4)) (some en) (b0 :: suite) p7] [] [] p8, .Return (some (.Constant .none j p5)) p6] a q (TTD X.K (ttR isx ec Ng.length i ts)) := by
  intro f c' s H Q tl act hc h
  obtain ⟨I, μ, Qd, td, SM, rel, ht, up⟩ := h
  have hrun := try_runs (x := x) (g := g) (cdg := cdg) (p4 := p4) (p7 := p7) (p8 := p8) T (s := s) (H := H) (st := .Expr (.Call (.Name a p1) [] [] p2) p3) (tb := fun E D σ H => σ[0]? = some (some (.ref f)) ∧ H c' = some (CodeO c' q) ∧ tl E H fun _ H' => D.nx σ H')
    (fun W pn xe E tk hW => pss_one (ps_expr (act W pn xe E p1 p2 tk hW)))
  refine ⟨_, pss_cons hrun (pss_one (ps_ret (pos := p6) pe_non)), ?_⟩
  refine ⟨fun cls d H' => ∃ C I' μ', cls = .ref C ∧ Same I I' ∧ SatM X.K I' μ' H' ∧ caught isx ec Ng.length i ts Qd C d μ', fun cls d σ' H' ⟨C, I', μ', e1, e2, e3, e4⟩ => ?_, ?_, hc, ?_⟩
  · subst e1
    exact caught_as T rfl e2 e3 e4 up rfl rfl
  · have hl := T.hlen
    unfold L2.start
    simp
  · exact rel I μ H _ _ _ _ (Same.refl I) SM ht (fun I' C d μ' H' e' S' q' => ⟨C, I', μ', rfl, e', S', q'⟩) fun I' v u μ' H' e' S' r' q' => up I' .non .non μ' H' e' S' .non q'
theorem gives_told (T : TryD X Ng x ec en sg g cdg CS i b0 suite isx ts) {a : Str} :
    GivesTo X Ng x sg g cdg [.Try [.Return (some (.Call (.Name a p1) [] [] p2)) p3] [.ExceptHandler (some (.Name ec p4)) (some en) (b0 :: suite) p7] [] [] p8] a q (TTD X.K (ttT isx ec Ng.length i ts)) := by
  intro f c' s H Q tl act hc h
  obtain ⟨I, μ, Qd, td, SM, rel, ht, up⟩ := h
  have hrun := try_runs (x := x) (g := g) (cdg := cdg) (p4 := p4) (p7 := p7) (p8 := p8) T (s := s) (H := H) (st := .Return (some (.Call (.Name a p1) [] [] p2)) p3) (tb := fun E D σ H => σ[0]? = some (some (.ref f)) ∧ H c' = some (CodeO c' q) ∧ tl E H D.rt)
    (fun W pn xe E tk hW => pss_one (ps_ret (act W pn xe E p1 p2 tk hW)))
  refine ⟨_, pss_one hrun, ?_⟩
  refine ⟨fun cls d H' => ∃ C I' μ', cls = .ref C ∧ Same I I' ∧ SatM X.K I' μ' H' ∧ caught isx ec Ng.length i ts Qd C d μ', fun cls d σ' H' ⟨C, I', μ', e1, e2, e3, e4⟩ => ?_, ?_, hc, ?_⟩
  · subst e1
    exact caught_as T rfl e2 e3 e4 up rfl rfl
  · have hl := T.hlen
    unfold L2.start
    simp
  · exact rel I μ H _ _ _ _ (Same.refl I) SM ht (fun I' C d μ' H' e' S' q' => ⟨C, I', μ', rfl, e', S', q'⟩) up
end
end Wl

set_option Elab.async false
set_option linter.all false
set_option maxRecDepth 100000
set_option maxHeartbeats 4000000
/-! the call of such a def with a lambda -/
namespace Wl
open PySem PySem.Spec L2 PyProof.Rows LamX

/-- a def x that calls what it got, as the top has left it -/
structure TellD (P : Program) (w : World) (K : PySem.W.Frag) (mg : Str → Option Value) (base : Heap) (x : Str) (tt : DTL → Mu → DV → Prop) : Prop where
  ex : ∃ (g : Addr) (pg : Arguments) (bg : List Stmt) (sg : Scope) (dV kV doc pm cdv ct oc : Value) (an od : Option Addr) (osl : Array (Option Value)) (Ng : List Str) (a : Str),
    mg x = some (.ref g) ∧ PySem.W.keepIn K (.ref g) = true ∧ K.lookup g = some ⟨oc, od, .func (PySem.W.fnOf x x pg bg sg dV kV doc pm an cdv ct), osl⟩ ∧ PySem.W.codeIn K cdv x = true ∧
    L2.Binds K (PySem.W.fnOf x x pg bg sg dV kV doc pm an cdv ct) [a] [] ∧ FnScope Ng [a] sg ∧ Ng[0]? = some a ∧ Vis sg a ∧ (a == ("__debug__" : Str)) = false ∧ (a == ("__classdict__" : Str)) = false ∧
    ∀ (X : Cx) (q : Str), X.prog = P → X.w = w → X.K = K → X.mg = mg → X.base = base → X.A.units + 67 < cLine → GivesTo X Ng x sg g cdv bg a q (TTD K tt)

def vLam (P : Addr) (q : Str) (tt : DTL → Mu → DV → Prop) (t : DXS → DE) : DE := fun δ μ Q =>
  μ P = some (.tab q) ∧ tt (fun E μ1 Q1 => t (fun C d _ μ2 => E C d μ2) δ μ1 Q1) μ Q

section
variable {S : Sg} {ι : Type} {F : ι → Cx} {pos p lpos : Pos}
/-- the lambda's body as a reading of the hand layer -/
def tBody (K : PySem.W.Frag) (t : DXS → DE) : XK → TE := fun E σ H Q =>
  ∃ I δ μ ED QD, SatM K I μ H ∧ RepS K I δ σ ∧ t (fun C d _ μ2 => ED C d μ2) δ μ QD ∧ UpX K I ED E ∧ Up K I QD Q
def tLamD (K : PySem.W.Frag) (P : Addr) (q : Str) (tt : DTL → Mu → DV → Prop) (t : DXS → DE) : TE := fun σ H Q =>
  ∃ I δ μ QD, SatM K I μ H ∧ RepS K I δ σ ∧ vLam P q tt t δ μ QD ∧ Up K I QD Q
theorem we_lam {x q : Str} {tt : DTL → Mu → DV → Prop} {t : DXS → DE} {c P : Addr} {k : Nat} {prs : Arguments} {bd : Expr} {sco : Scope} (T : TellD S.P S.w S.K S.mg S.base x tt) (tb : TabB S.base S.mg c P) (hk : k + 2 ≤ S.k)
    (body : ∀ (E : XK) (J : Hp) (E2 : DXS) tr, WE ⟨S.P, S.w, S.K, S.mg, S.base, k, S.N, J, fun cls d _ H => E cls d H, E2, tr, false⟩ (fun j : ι × Around × List Env × Shared × Hp × Addr × Addr => lamCx (F j.1) j.2.1 j.2.2.1 j.2.2.2.1 j.2.2.2.2.1 E sco j.2.2.2.2.2.1 j.2.2.2.2.2.2) bd (t E2))
    (hc0 : ∀ i, (F i).env.code = .ref c := by exact fun _ => rfl) (hq : ∀ i, (F i).env.qual ++ "<lambda>" = q := by exact fun _ => rfl) (hL : ∀ i, LamS (F i).env.scope sco := by exact fun _ => lamS_by (by decide)) (hdef : ∀ env : Env, defaultsOf prs env = ([], []) := by exact fun _ => rfl)
    (hbind : ∀ (q : Str) (cl : List (Str × Addr)) (pm cv ctv : Value), bindArgs (PySem.W.kla_fn "<lambda>" q prs bd sco cl pm cv ctv) ⟨[], []⟩ = pure [] := by exact fun _ _ _ _ _ => rfl)
    (hg : ∀ j, Gl (F j) x := by exact fun _ => rfl) (hdb : (x == ("__debug__" : Str)) = false := by decide) (hcold : S.cold = false := by rfl)
    (hst : ∀ env : Env, starEach [.Lambda prs bd sco lpos] env = (false, eval (.Lambda prs bd sco lpos) env) :: starEach [] env := by exact fun _ => rfl) (hpl : ∀ env : Env, (backTo pos (starEach [] env)).any (·.1) = false := by exact fun _ => rfl) :
    WE S F (.Call (.Name x p) [.Lambda prs bd sco lpos] [] pos) (vLam P q tt t) := by
  refine ⟨tLamD S.K P q tt t, fun i hi => ?_, fun I δ μ σ H hJ SM hS Q Q' h u => ⟨I, δ, μ, Q, SM, hS, h, u⟩⟩
  obtain ⟨P0, w, K, mg, base, kk, N, J, W, E2, tr, cold⟩ := S
  obtain ⟨h1, h2, h3, h4, h5, h6, h7, h8, h9, h10, h11⟩ := id hi
  have r8 := h8 hcold
  dsimp only at h1 h2 h3 h4 h5 h6 r8 h9 T tb hk body ⊢
  subst h1 h2 h3 h4 h5 h6
  obtain ⟨g, pg, bg, sg, dV, kV, doc, pm, cdv, ct, oc, an, od, osl, Ng, a, m1, m2, m3, m4, m5, m6, m7, m8, m9, m10, m11⟩ := T.ex
  have iq := hq i
  refine ⟨fun pins s σ H Q iv h => ?_⟩
  obtain ⟨I, δ, μ, QD, SM, RS, ⟨hP, htt⟩, up⟩ := h
  obtain ⟨_, tbl, t1, t2, t3⟩ := SM.mu P _ hP
  refine wpAny_Call_Name_kw (ld_glob iv (hg i) m1 (PySem.W.callWith_K (h₀ := (F i).base) iv.ok.mod.kin m2 ?_ (hst _) (hpl _)) hdb)
  rw [hst]
  refine Calls.spliced_cons (lam_made (X := F i) iv tb (hc0 i) t1 t2 (fun at_ v e => let ⟨b, e1, e2⟩ := t3 at_ v e; ⟨b, e1, by rw [iq]; exact SM.ex _ _ e2⟩) (hdef _) ((hL i).has iv.ok) fun f c' pm' ctv H1 s' iv1 md hf hfn hfr => ?_)
  refine Calls.spliced_nil ⟨iv1.kIn, ?_⟩
  rw [iq] at md
  obtain ⟨I1, e1, S1, cI⟩ := SM.made hP t1 md
  have key : codeAny (model (F i).prog (F i).w) (F i).A (.call (.ref g) ⟨[.ref f], []⟩) (CR C8.CX0 (F i).stack (F i).prog (F i).w H1 s' Q C8.E0) s' := by
    refine run_ofS (N := Ng) (ps := [a]) (us := [.ref f]) (vs := [.ref f]) m3 m4 m6 (r8.mono hk) iv1.env0 (m5 s' [.ref f] iv1.kIn rfl) (.cons rfl .nil) rfl fun room => ?_
    have give := m11 (F i) q rfl rfl rfl rfl rfl (by have := r8.un; omega)
    have runs : ∀ (E : XK) (A : Around) (outer : List Env) (s : Shared) (H : Hp), Room k (A.deeper (lamEnv (F i) sco s.heap.objs.size f c')) → PE (lamCx (F i) A outer s H E sco f c') bd (tBody (F i).K t E) := fun E A outer s H rm => by
      refine ⟨fun pins s2 σ2 H2 Q2 iv2 h => ?_⟩
      obtain ⟨I2, δ2, μ2, ED, QD2, SM2, RS2, b1, b2, b3⟩ := h
      obtain ⟨te, x1, x2⟩ := body E I2 (fun C d _ μ => ED C d μ) (fun I' C d δ' μ' σ' H' e' S' R' q' => b2 I' C d μ' H' e' S' q')
      have is : Is ⟨(F i).prog, (F i).w, (F i).K, (F i).mg, (F i).base, k, (F i).N, I2, fun cls d _ H => E cls d H, fun C d _ μ => ED C d μ, fun I' C d δ' μ' σ' H' e' S' R' q' => b2 I' C d μ' H' e' S' q', false⟩ (lamCx (F i) A outer s H E sco f c') :=
        ⟨rfl, rfl, rfl, rfl, rfl, rfl, fun _ => rfl, fun _ => rm, takes_of rfl rfl rfl rfl, passes_of rfl, rm.units⟩
      exact (x1 (i, A, outer, s, H, f, c') is).run pins s2 σ2 H2 Q2 iv2 (x2 I2 δ2 μ2 σ2 H2 (Same.refl I2) SM2 RS2 QD2 Q2 b1 b3)
    obtain ⟨t', y1, y2⟩ := give f c' s' H1 Q (fun E H' Q' => tBody (F i).K t E σ H' Q')
      (fun W pn xe E p1 p2 tk hW => by
        have z := pe_act (i := 0) (p1 := p1) (p2 := p2) iv1 (hL i) hf hfn hfr (hbind _ _ _ _ _) tk hW room (fun A outer s H rm => runs E A outer s H rm) m7 m8 m9 m10
        rw [iq] at z
        exact z) (S1.ex _ _ cI)
      ⟨I1, μ, QD, _, S1, fun I' μ' H' E E' Q2 Q3 e' S' h2 ux u2 => ⟨I', δ, μ', E, Q2, S', RS.mono (e1.trans e'), h2, ux, u2⟩, htt, fun I' v u' μ' H' e' => up I' v u' μ' H' (e1.trans e')⟩
    exact ⟨t', y1.nox, y2⟩
  refine wpAny_call (codeAny_mono key fun r s2 out => ?_)
  rcases r with e | fl
  · exact (show False from out).elim
  · cases fl with
    | ret u => exact iv1.after out
    | next => exact False.elim out
    | brk => exact False.elim out
    | cont => exact False.elim out
end
end Wl

set_option Elab.async false
set_option linter.all false
set_option maxRecDepth 100000
set_option maxHeartbeats 4000000
/-! raise, of own exceptions -/
namespace Wl
open PySem PySem.Spec L2 PyProof.Rows

def flds {α : Type} (ns : List Str) (xs : List α) : List (Str × α) := (ns.zip xs).reverse
/-- the promise of such an __init__ -/
def spI (C : Addr) (ns : List Str) : Sp := fun vs H Q _ => ∃ a ws, vs = .ref a :: ws ∧ ws.length = ns.length ∧ H a = some (exo a C none) ∧ ∀ d, H d = none → d ≠ a → Q .non (upd (upd H d (exd d (flds ns ws))) a (exo a C (some d)))
structure OexF (P : Program) (w : World) (K : PySem.W.Frag) (mg : Str → Option Value) (base : Heap) (k : Nat) (x : Str) (C : Addr) (ns : List Str) : Prop where
  ex : ∃ (fI : Addr) (fd : FuncData) (ps : List Str), OexC K C ∧ PySem.W.findIn K (.ref C) "__init__" = some (some (.ref fI)) ∧ PySem.W.typeIn K (.ref fI) = some (.type "function") ∧ FnOk P w K mg base (L2.CX P w) k fI fd ps (spI C ns) ∧ L2.Binds K fd ps [] ∧ mg x = some (.ref C)
def vRaise (E2 : DXS) (C : Addr) (ns : List Str) (t : DA) : DS := fun _ δ μ => t δ μ fun xs μ1 => xs.length = ns.length ∧ ∀ d, μ1 d = none → E2 C (some d) δ (mset μ1 d (.xd (flds ns xs)))

theorem RepL.flds {K : PySem.W.Frag} {I : Hp} {xs : List Dv} {vs : List V} : ∀ {ns : List Str}, RepL K I xs vs → RepP K I (flds ns xs) (flds ns vs) := by
  have app : ∀ {as cs : List (Str × Dv)} {bs ds : List (Str × V)}, RepP K I as bs → RepP K I cs ds → RepP K I (as ++ cs) (bs ++ ds) := by
    intro as cs bs ds h1 h2
    induction h1 with
    | nil => exact h2
    | cons h _ ih => exact .cons h ih
  have rev : ∀ {as : List (Str × Dv)} {bs : List (Str × V)}, RepP K I as bs → RepP K I as.reverse bs.reverse := by
    intro as bs h
    induction h with
    | nil => exact .nil
    | cons h _ ih => rw [List.reverse_cons, List.reverse_cons]; exact app ih (.cons h .nil)
  intro ns r
  refine rev ?_
  revert xs vs
  induction ns with
  | nil => intro xs vs r; exact .nil
  | cons n ns ih =>
    intro xs vs r
    cases r with
    | nil => exact .nil
    | cons h t => exact .cons ⟨rfl, h⟩ (ih t)

section
variable {S : Sg} {ι : Type} {F : ι → Cx} {pos p rpos : Pos}
theorem ws_raise {x : Str} {C : Addr} {ns : List Str} {k : Nat} {e : Expr} {es : List Expr} {t : DA} (O : OexF S.P S.w S.K S.mg S.base k x C ns) (hk : k + 1 ≤ S.k) (hn : ns.length ≤ 900) (ha : WA S F (e :: es) t) (hg : ∀ j, Gl (F j) x := by exact fun _ => rfl)
    (hdb : (x == ("__debug__" : Str)) = false := by decide) (he : ∀ env : Env, starEach (e :: es) env = (false, eval e env) :: starEach es env := by exact fun _ => rfl) (hpl : ∀ env : Env, (backTo pos (starEach es env)).any (·.1) = false := by exact fun _ => rfl) (hcold : S.cold = false := by rfl) :
    WS S F (.Raise (some (.Call (.Name x p) (e :: es) [] pos)) none rpos) (vRaise S.E2 C ns t) := by
  obtain ⟨ta, a1, a2⟩ := ha
  obtain ⟨fI, fd, ps, T, o2, o3, o4, o5, o6⟩ := O.ex
  refine ⟨fun _ σ H => tMkO C (spI C ns) [] ta σ H fun cls d H' => S.W cls d σ H', fun i hi => ?_, fun I δ μ σ H hJ SM hS D D' q u => ?_⟩
  · obtain ⟨P0, w, K, mg, base, kk, N, J, W, E2, tr, cold⟩ := S
    obtain ⟨h1, h2, h3, h4, h5, h6, h7, h8, h9, h10, h11⟩ := id hi
    have r8 := h8 hcold
    have c7 := h7 hcold
    dsimp only at h1 h2 h3 h4 h5 h6 r8 h9 T o2 o3 o4 o5 o6 hk ⊢
    subst h1 h2 h3 h4 h5
    exact ps_raise c7 h9 (pmk_oex T o2 o3 o4 (r8.mono hk) o5 .nil (L2.passes_call h9 (fun _ _ _ _ z => z.elim)) (hg i) o6 (a1 i hi) hdb (he _) (hpl _))
  · refine a2 I δ μ σ H hJ SM hS _ _ q fun I1 xs vs μ1 H1 e1 S1 r1 q1 => ?_
    obtain ⟨q2, q3⟩ := q1
    have hl : vs.length = ns.length := by rw [← r1.length]; exact q2
    refine ⟨by omega, fun a na => ?_⟩
    refine ⟨a, vs ++ [], rfl, by simpa using hl, upd_same, fun d nd ne => ⟨rfl, d, flds ns (vs ++ []), upd_same, by rw [upd_ne ne]; exact upd_same, by rw [upd_ne ne] at nd; exact nd, ?_⟩⟩
    have nd1 : H1 d = none := by rw [upd_ne ne] at nd; exact nd
    have eq : upd (L2.del (upd (upd (upd H1 a (exo a C none)) d (exd d (flds ns (vs ++ [])))) a (exo a C (some d))) a) d (.xd (flds ns (vs ++ []))) = upd H1 d (.xd (flds ns vs)) := by
      funext b
      by_cases hb : b = d
      · rw [hb, upd_same, upd_same, List.append_nil]
      · rw [upd_ne hb, upd_ne hb]
        by_cases hb2 : b = a
        · rw [hb2, L2.del_same, na]
        · rw [L2.del_ne hb2, upd_ne hb2, upd_ne hb, upd_ne hb2]
    rw [eq]
    have nm : μ1 d = none := by
      cases z : μ1 d with
      | none => rfl
      | some m =>
        obtain ⟨o, ho⟩ := (S1.memo z).some
        rw [nd1] at ho
        cases ho
    exact S.tr I1 C (some d) δ _ σ _ (hJ.trans e1) (S1.setM (m := .xd (flds ns xs)) (S1.ex.free nd1) ⟨flds ns vs, r1.flds, upd_same⟩) (hS.mono e1) (q3 d nm)
/-- an own class without an own __init__, made with a text -/
def vRaise0 (E2 : DXS) (C : Addr) : DS := fun _ δ μ => E2 C none δ μ
theorem ws_raise0 {x m : Str} {C : Addr} {j : Nat} {p2 : Pos} {newId initId B : String} {bmB : List Value} (Fb : ExcBaseFacts B newId initId bmB) (q : PySem.W.excIn S.K C bmB newId = true) (gC : S.mg x = some (.ref C)) (kC : PySem.W.keepIn S.K (.ref C) = true) (exC : PySem.W.subIn S.K (.ref C) (.type "BaseException") = some true) (tyC : PySem.W.typeIn S.K (.ref C) = some (.type "type"))
    (hg : ∀ j, Gl (F j) x := by exact fun _ => rfl) (hdb : (x == ("__debug__" : Str)) = false := by decide) (hcold : S.cold = false := by rfl) :
    WS S F (.Raise (some (.Call (.Name x p) [.Constant (.str m) j p2] [] pos)) none rpos) (vRaise0 S.E2 C) := by
  refine ⟨fun _ σ H => S.W (.ref C) none σ H, fun i hi => ?_, fun I δ μ σ H hJ SM hS D D' q u => S.tr I C none δ μ σ H hJ SM hS q⟩
  obtain ⟨P0, w, K, mg, base, kk, N, J, W, E2, tr, cold⟩ := S
  obtain ⟨h1, h2, h3, h4, h5, h6, h7, h8, h9, h10, h11⟩ := id hi
  have c7 := h7 hcold
  dsimp only at h1 h2 h3 h4 h5 h6 h9 q gC kC exC tyC ⊢
  subst h1 h2 h3 h4 h5
  exact ps_raise c7 h9 (pmk_own Fb q gC kC (raises_own exC tyC) (hg i) hdb)
end

/-- an __init__ that says super().__init__("..") and stores its argument -/
theorem oex_one {P : Program} {w : World} {K : PySem.W.Frag} {mg : Str → Option Value} {base : Heap} {C f cc : Addr} {x name qual fn m : Str} {params : Arguments} {scope : Scope} {dV kV doc pm cdv ct oc : Value} {an od : Option Addr} {osl : Array (Option Value)} {j : Nat} {p0 p1 p2 p3 p4 p5 p6 p7 p8 p9 : Pos} {pl : Addr → Sem Bool}
    (lk : K.lookup f = some ⟨oc, od, .func (PySem.W.ksFn name qual params [.Expr (.Call (.Attribute (.Call (.Name "super" p0) [] [] p1) "__init__" p2) [.Constant (.str m) j p5] [] p3) p4, .Assign [.Attribute (.Name "self" p6) fn p7] (.Name fn p8) p9] scope dV kV doc pm an cdv ct cc), osl⟩)
    (hcd : PySem.W.codeIn K cdv qual = true) (hfi : fileIn P K cdv = true) (S : ISc ["self", fn] ["self", fn] scope) (T : OexC K C) (U : SupF P K C cc params scope "self") (hms : mg "super" = none)
    (hno : PySem.W.findIn K (.ref C) fn = some none) (hin : PySem.W.findIn K (.ref C) "__init__" = some (some (.ref f))) (hty : PySem.W.typeIn K (.ref f) = some (.type "function")) (hx : mg x = some (.ref C))
    (hb : L2.Binds K (PySem.W.ksFn name qual params [.Expr (.Call (.Attribute (.Call (.Name "super" p0) [] [] p1) "__init__" p2) [.Constant (.str m) j p5] [] p3) p4, .Assign [.Attribute (.Name "self" p6) fn p7] (.Name fn p8) p9] scope dV kV doc pm an cdv ct cc) ["self", fn] [])
    (hev : ∀ (L : Addr), eval (.Call (.Attribute (.Call (.Name "super" p0) [] [] p1) "__init__" p2) [.Constant (.str m) j p5] [] p3) (PySem.W.ksEnv qual scope L f cdv cc) = (do
      let ov ← attributeBase (.Call (.Name "super" p0) [] [] p1) "__init__" (PySem.W.ksEnv qual scope L f cdv cc) (eval (.Call (.Name "super" p0) [] [] p1) (PySem.W.ksEnv qual scope L f cdv cc))
      standAt p2.atName
      let (g, first) ← holding [ov] (getMethod ov "__init__" (pl L))
      callWith p3 g first (backTo p3 (starEach [.Constant (.str m) j p5] (PySem.W.ksEnv qual scope L f cdv cc))) []) := by exact fun _ => rfl)
    (hd : (fn == ("__debug__" : Str)) = false := by decide) (hcd2 : (fn == ("__classdict__" : Str)) = false := by decide) : OexF P w K mg base 1 x C [fn] := by
  refine ⟨f, _, _, T, hin, hty, fn_init (N := ["self", fn]) (ps := ["self", fn]) (k := 0) lk hcd hfi S T U rfl hms (fun vs H Q E h => ?_) (fun A outer s H vs Q E room h => ?_) hev, hb, hx⟩
  · obtain ⟨a, ws, rfl, hl, _⟩ := h
    simpa using hl
  · obtain ⟨a, ws, rfl, hl, ha, hq⟩ := h
    obtain ⟨y, rfl⟩ : ∃ y, ws = [y] := by
      match ws, hl with
      | [y], _ => exact ⟨y, rfl⟩
    have l0 : scope.names.lookup ("self" : Str) = some .local := S.par _ (by simp)
    have l1 : scope.names.lookup fn = some .local := S.par _ (by simp)
    refine ⟨_, _, pa_cons pe_str pa_nil, pss_one (ps_ost (pe_var (i := 0) rfl (.inl l0)) (pe_var (i := 1) rfl (.inl l1) hd hcd2)), a, rfl, ha, ?_⟩
    refine ⟨by simp, ha, ?_⟩
    refine ⟨y, rfl, .ref a, rfl, a, C, rfl, T, hno, .inl ⟨ha, fun dx n ne => hq dx n ne⟩⟩
end Wl

set_option Elab.async false
set_option linter.all false
set_option maxRecDepth 100000
set_option maxHeartbeats 4000000
/-! l.count(x) over data -/
namespace Wl
open PySem PySem.Spec L2 PyProof.Rows
def rCntP (K : PySem.W.Frag) : V → List V → Hp → VK → Prop := fun x xs H Q => ∃ (a : Addr) (y : V) (d : PyData) (ds : List PyData), x = V.ref a ∧ xs = [y] ∧ Dp K H (V.ref a) (.list ds) ∧ Dp K H y d ∧
  PyData.plainAll ds = true ∧ d.plain = true ∧ min (PyData.depthAll ds) d.depth ≤ 60 ∧ Q (.int ((ds.countP fun z => PyData.eqv z d : Nat) : Int)) H
theorem mt_countP {X : Cx} (hu : X.A.units + 64 < cLine) : MtR X "list.count" (rCntP X.K) := by
  intro pns s τ H x xs v us Q I rx rxs h; obtain ⟨a, y, d, ds, rfl, rfl, hl, hy, sl, sd, hz, q⟩ := h
  cases rxs with
  | cons ry rt =>
    cases rt
    obtain ⟨bs, r1⟩ := Dp.reads I d y _ hy ry
    obtain ⟨as, r2⟩ := Dp.reads I (.list ds) _ _ hl rx
    cases rx
    cases r2 with
    | @list _ o vs n _ as ho hc hd hr =>
      exact SeqAt.count_list_data ⟨o, ho, hc, n, hd⟩ hr r1 sl sd (by omega) ⟨.int _, H, I.tok _, ⟨_, rfl⟩, q⟩
/-- l a list, fixed or not -/
def gCnt : DM := fun x ds μ Q => match ds with
  | [y] => ∃ (ys : List Dv), plst μ x = some ys ∧ inOk y ys ∧ Q (.int ((ys.countP fun z => dEq z y : Nat) : Int)) μ
  | _ => False
def gIdxL : DM := fun x ds μ Q => match ds with
  | [y] => ∃ (ys : List Dv) (j : Nat), plst μ x = some ys ∧ inOk y ys ∧ j < 1000000 ∧ (ys.findIdx? fun z => dEq z y) = some j ∧ Q (.int (j : Int)) μ
  | _ => False
theorem count_pds (d : PyData) : ∀ ys : List Dv, ((Dv.pds ys).countP fun z => PyData.eqv z d) = ys.countP fun z => PyData.eqv z.pd d
  | [] => rfl
  | y :: ys => by simp only [Dv.pds, List.countP_cons, count_pds d ys]
section
variable {S : Sg} {ι : Type} {F : ι → Cx} {pos p rpos : Pos}
theorem wm_count : WM S "list.count" gCnt := by
  refine ⟨rCntP S.K, fun X hX => hX.K ▸ mt_countP hX.units, ?_⟩
  intro I μ H _ SM dx x ds vs rx r Q Q' q u
  rcases r with _ | ⟨r1, _ | ⟨r2, r3⟩⟩
  · exact q.elim
  · obtain ⟨ys, em, h1, q4⟩ := q
    obtain ⟨a, ws, rfl, hv, rl⟩ := plst_ok SM rx em
    refine ⟨_, _, _, Dv.pds ys, rfl, rfl, .lst (.inl (.inl hv)) (rl.dp SM.ex _ _ h1.2.1), r1.dp SM.ex _ _ h1.1, Dv.plains ys, Dv.plain _, h1.2.2, u I _ _ μ H (Same.refl I) SM (.int _) ?_⟩
    rw [count_pds]
    exact q4
  · exact q.elim
theorem wm_indexL : WM S "list.index" gIdxL := by
  refine ⟨rIdxP S.K, fun X hX => hX.K ▸ mt_indexP hX.units, ?_⟩
  intro I μ H _ SM dx x ds vs rx r Q Q' q u
  rcases r with _ | ⟨r1, _ | ⟨r2, r3⟩⟩
  · exact q.elim
  · obtain ⟨ys, j, em, h1, h2, h3, q4⟩ := q
    obtain ⟨a, ws, rfl, hv, rl⟩ := plst_ok SM rx em
    exact ⟨_, _, _, Dv.pds ys, j, rfl, rfl, .lst (.inl (.inl hv)) (rl.dp SM.ex _ _ h1.2.1), r1.dp SM.ex _ _ h1.1, Dv.plains ys, Dv.plain _, h1.2.2, (find_pds _ ys).trans h3, h2, u I _ _ μ H (Same.refl I) SM (.int _) q4⟩
  · exact q.elim
theorem we_indexL {o e : Expr} {so : DE} {t : DA} {apos cpos : Pos} (ho : WE S F o so) (ha : WA S F [e] t)
    (hbase : ∀ env, attributeBase o "index" env (eval o env) = eval o env := by exact fun _ => rfl)
    (hfew : ∀ env, ((backTo cpos (starEach [e] env)).all (fun x => !x.1) && (backToKw cpos (keywordEach [] env)).all (fun x => x.1.isSome)
      && decide ([e].length + ([] : List Keyword).length + (if ([] : List Keyword).isEmpty then 0 else 1) < 30)) = true := by exact fun _ => rfl)
    (hline : (apos.endLine == cpos.line) = true := by rfl) (hs : ∀ env, starEach [e] env = (false, eval e env) :: starEach [] env := by exact fun _ => rfl) :
    WE S F (.Call (.Attribute o "index" apos) [e] [] cpos) (vBM "list" gIdxL so t) :=
  we_bm PySem.F.plainAttrs_list PySem.F.slot_list_index PySem.F.type_list_index wm_indexL ho ha hbase hfew hline hs (fun _ => rfl)
theorem we_count {o e : Expr} {so : DE} {t : DA} {apos cpos : Pos} (ho : WE S F o so) (ha : WA S F [e] t)
    (hbase : ∀ env, attributeBase o "count" env (eval o env) = eval o env := by exact fun _ => rfl)
    (hfew : ∀ env, ((backTo cpos (starEach [e] env)).all (fun x => !x.1) && (backToKw cpos (keywordEach [] env)).all (fun x => x.1.isSome)
      && decide ([e].length + ([] : List Keyword).length + (if ([] : List Keyword).isEmpty then 0 else 1) < 30)) = true := by exact fun _ => rfl)
    (hline : (apos.endLine == cpos.line) = true := by rfl) (hs : ∀ env, starEach [e] env = (false, eval e env) :: starEach [] env := by exact fun _ => rfl) :
    WE S F (.Call (.Attribute o "count" apos) [e] [] cpos) (vBM "list" gCnt so t) :=
  we_bm PySem.F.plainAttrs_list PySem.F.slot_list_count PySem.F.type_list_count wm_count ho ha hbase hfew hline hs (fun _ => rfl)
end
end Wl

set_option Elab.async false
set_option linter.all false
set_option maxRecDepth 100000
set_option maxHeartbeats 4000000
/-! a def whose code object is known; the end with a table of code objects -/
namespace Wl
open PySem PySem.Spec L2 PyProof.Rows LamX

/-- a top def with its code object -/
structure TopC (K : PySem.W.Frag) (x qual : Str) (st : Stmt) (f cod : Addr) : Prop where
  a : PySem.W.nsIn K mainGlobals x = some (some (.ref f))
  l : ∃ (oc : Value) (od an : Option Addr) (osl : Array (Option Value)) (kV doc pm ct : Value), K.lookup f = some ⟨oc, od, .func (PySem.W.fnOf x qual (defArgs st) (defBody st) (defScope st) .none kV doc pm an (.ref cod) ct), osl⟩
  c : PySem.W.codeIn K (.ref cod) qual = true
theorem TopC.of {K : PySem.W.Frag} {x qual : Str} {st : Stmt} {f cod : Addr} {oc : Value} {od an : Option Addr} {osl : Array (Option Value)} {kV doc pm ct : Value} (a : PySem.W.nsIn K mainGlobals x = some (some (.ref f)))
    (l : K.lookup f = some ⟨oc, od, .func (PySem.W.fnOf x qual (defArgs st) (defBody st) (defScope st) .none kV doc pm an (.ref cod) ct), osl⟩) (c : PySem.W.codeIn K (.ref cod) qual = true) : TopC K x qual st f cod := ⟨a, ⟨_, _, _, _, _, _, _, _, l⟩, c⟩
/-- a code object and its table, as the written part tells them -/
structure CodF (K : PySem.W.Frag) (cod tab : Addr) : Prop where
  c : ∃ (dd : Option Addr) (vs : Array Value) (sl : Array (Option Value)) (file : Str) (tf : Tok) (flags : Int) (tg : Tok) (inF : Bool) (text : Int) (tt : Tok), K.lookup cod = some ⟨.type "code", dd, .fields vs, sl⟩ ∧ vs[11]? = some (.ref tab) ∧ vs.getD 11 .none = .ref tab ∧ vs.getD 18 .none = .str file tf ∧
    vs.getD 7 .none = .int flags tg ∧ vs.getD 9 .none = .bool inF ∧ vs.getD 10 .none = .int text tt
  ne : cod ≠ tab
  n : K.lookup tab = none
theorem CodF.of {K : PySem.W.Frag} {cod tab : Addr} {dd : Option Addr} {vs : Array Value} {sl : Array (Option Value)} {file : Str} {tf : Tok} {flags : Int} {tg : Tok} {inF : Bool} {text : Int} {tt : Tok} (l : K.lookup cod = some ⟨.type "code", dd, .fields vs, sl⟩) (h1 : vs[11]? = some (.ref tab)) (h3 : vs.getD 18 .none = .str file tf)
    (h4 : vs.getD 7 .none = .int flags tg) (h5 : vs.getD 9 .none = .bool inF) (h6 : vs.getD 10 .none = .int text tt) (ne : cod ≠ tab) (n : K.lookup tab = none) : CodF K cod tab :=
  ⟨⟨dd, vs, sl, file, tf, flags, tg, inF, text, tt, l, h1, by rw [Array.getD_eq_getD_getElem?, h1]; rfl, h3, h4, h5, h6⟩, ne, n⟩
theorem CodF.hd {K : PySem.W.Frag} {cod tab : Addr} {h : Heap} (F : CodF K cod tab) (X : K.In h) : PySem.W.CodeHd h cod tab := by
  obtain ⟨dd, vs, sl, file, tf, flags, tg, inF, text, tt, l, h1, h2, h3, h4, h5, h6⟩ := F.c
  exact ⟨_, vs, file, tf, flags, tg, inF, text, tt, X _ _ l, rfl, rfl, h1, h2, h3, h4, h5, h6, F.ne⟩

section
variable {P : Program} {w : World} {K : PySem.W.Frag} {mg : Str → Option Value} {base : Heap}
theorem ok_defC {x qual : Str} {st : Stmt} {f cod : Addr} {N ps : List Str} {k : Nat} {sp : Sp2} {oc kV doc pm ct : Value} {od an : Option Addr} {osl : Array (Option Value)}
    (lk : K.lookup f = some ⟨oc, od, .func (PySem.W.fnOf x qual (defArgs st) (defBody st) (defScope st) .none kV doc pm an (.ref cod) ct), osl⟩) (hcd : PySem.W.codeIn K (.ref cod) qual = true) (Sc : FnScope N ps (defScope st))
    (t : DXS → DS) (hsp : ∀ ds μ Q E, sp ds μ Q E → ds.length = ps.length ∧ t (fun C d _ μ => E C d μ) { nx := fun _ μ' => Q .non μ', rt := Q } (dstart N ds) μ)
    (body : ∀ (A : Around) (outer : List Env) (s : Shared) (H : Hp) (E : XK) (J : Hp) (W : WX) (E2 : DXS) tr, WSs ⟨P, w, K, mg, base, k, N, J, W, E2, tr, false⟩ (fun _ : Unit => cxOf (L2.CX P w) P w K mg base N qual (defScope st) f (.ref cod) A outer s H E) (defBody st) (t E2)) :
    Ok P w K mg base (k + 1) f (PySem.W.fnOf x qual (defArgs st) (defBody st) (defScope st) .none kV doc pm an (.ref cod) ct) ps sp := by
  refine L2.fn_of lk hcd Sc (fun vs H Q E h => ?_) (fun A outer s H vs Q E hr h => ?_)
  · obtain ⟨I, ds, μ, Q2, E2, _, r, h, _⟩ := h
    rw [← r.length]
    exact (hsp ds μ Q2 E2 h).1
  · obtain ⟨I, ds, μ, Q2, E2, SM, r, h, u, ux⟩ := h
    obtain ⟨ts, h1, h2⟩ := body A outer s H E I (fun cls d _ H => E cls d H) (fun C d _ μ => E2 C d μ) (fun I' C d δ μ' σ H' e' S' R' q' => ux I' C d μ' H' e' S' q')
    refine ⟨ts, h1 () ⟨rfl, rfl, rfl, rfl, rfl, rfl, fun _ => rfl, fun _ => hr, takes_of rfl rfl rfl rfl, passes_of rfl, hr.units⟩, ?_⟩
    refine h2 I _ μ _ H (Same.refl I) SM (r.start N) _ _ (hsp ds μ Q2 E2 h).2 ⟨?_, u, ?_, ?_⟩
    · exact fun I' δ' σ' μ' H' e' S' R' q' => u I' .non .non μ' H' e' S' .non q'
    · exact fun _ _ _ _ _ _ _ _ q' => q'.elim
    · exact fun _ _ _ _ _ _ _ _ q' => q'.elim
end

def spEndT (K : PySem.W.Frag) (tab : Addr) : Sp := fun vs H Q _ => ∃ (a : Addr) (ns : List Int), vs = [.ref a] ∧ SqL K H a (ns.map V.int) ∧ ns.length ≤ 63 ∧ H tab = some (.tbl #[]) ∧ ∀ H', Q (.bl true) H'
def muT (tab : Addr) (q : Str) : Mu := mset (fun _ => none) tab (.tab q)
theorem ok_endT {P : Program} {w : World} {K : PySem.W.Frag} {mg : Str → Option Value} {base : Heap} {k : Nat} {f tab : Addr} {q : Str} {fd : FuncData} {ps : List Str} {sp : Sp2} (O : Ok P w K mg base k f fd ps sp) (hp : ps.length = 1)
    (hm : ∀ ns : List Int, ns.length ≤ 63 → sp [.rol (ns.map Dv.int)] (muT tab q) (fun d _ => d = .bl true) fun _ _ _ => False) : FnOk P w K mg base (L2.CX P w) k f fd ps (spEndT K tab) := by
  refine ⟨fun vs H Q E ⟨a, ns, e, _⟩ => by rw [e, hp]; rfl, fun A outer s H args us vs Q E hr e0 hb r hsp => ?_⟩
  refine O.run A outer s H args us vs Q E hr e0 hb r ?_
  obtain ⟨a, ns, rfl, hS, hl, ht, k⟩ := hsp
  have iN : (fun b => if b = tab then none else H b : Hp) tab = none := if_pos rfl
  have iO : ∀ b, b ≠ tab → (fun b => if b = tab then none else H b : Hp) b = H b := fun b h => if_neg h
  refine ⟨fun b => if b = tab then none else H b, [.rol (ns.map Dv.int)], muT tab q, _, _, ⟨fun b o e => ?_, fun b m e => ?_⟩, .cons (.rol ?_ (repL_ints ns)) .nil, hm ns hl, ?_, fun _ _ _ _ _ _ _ q => q.elim⟩
  · by_cases hb : b = tab
    · rw [hb] at e; exact absurd (iN.symm.trans e) (by simp)
    · exact (iO b hb).symm.trans e
  · unfold muT at e
    by_cases hb : b = tab
    · subst hb
      rw [mset_same] at e
      cases e
      exact ⟨iN, #[], ht, True.intro, fun pos cv hc => by simp [codeAmong] at hc⟩
    · rw [mset_ne hb] at e; cases e
  · rcases hS with hS | hS
    · refine .inl ?_
      rcases hS with hS | ⟨o, hS⟩
      · exact .inl ((iO a fun z => by rw [z, ht] at hS; cases hS).trans hS)
      · exact .inr ⟨o, (iO a fun z => by rw [z, ht] at hS; cases hS).trans hS⟩
    · exact .inr hS
  · intro I' d v μ' H' _ _ rv e
    subst e
    cases rv
    exact k H'
theorem lawAt {l : PySem.W.OpenLaw} {w : World} {K : PySem.W.Frag} {k : Nat} {x : Str} {mg : Str → Option Value} {fa cod tab : Addr} {h : Heap} {fd : FuncData} {oc : Value} {od : Option Addr} {osl : Array (Option Value)} (X : K.In h) (own : h.get? tab = some { cls := .none, data := .fields #[] }) (lk : K.lookup fa = some ⟨oc, od, .func fd, osl⟩) (hc : fd.code = .ref cod) (F : CodF K cod tab)
    (hb : ∀ (s : Shared) (u : Value), BindsTo s fd ⟨[u], []⟩ [(x, u)]) (ok : ∀ base : Heap, K.In base → base.Ns mainGlobals mg → TabB base mg cod tab → FnOk l.prog w K mg base (L2.CX l.prog w) k fa fd [x] (spEndT K tab)) :
    LawAtS l w K (L2.CX l.prog w) k 63 x mg fa h := by
  obtain ⟨dd, vs, sl, file, tf, flags, tg, inF, text, tt, l1, l2, _⟩ := F.c
  have one : ∀ {p : Addr × Addr}, p ∈ [(cod, tab)] → p = (cod, tab) := fun hp => by simpa using hp
  refine ⟨fd, [(cod, tab)], spEndT K tab, fun p hp => ?_, fun p hp => ?_, fun p hp => ?_, hb, fun H a ns hl _ hT hS => ⟨a, ns, rfl, hS, hl, hT (cod, tab) (by simp), fun _ => rfl⟩, fun base k1 k2 k3 => ok base k1 k2 (k3 (cod, tab) (by simp))⟩
  · rw [one hp]; exact own
  · rw [one hp]; exact F.n
  · rw [one hp]; exact F.hd X
end Wl

set_option Elab.async false
set_option linter.all false
set_option maxRecDepth 100000
set_option maxHeartbeats 4000000
/-! what the top has left of exception classes -/
namespace Wl
open PySem PySem.Spec L2 PyProof.Rows LamX

theorem OexC.of {K : PySem.W.Frag} {C : Addr} {nm q : Str} {N : Addr} {bs bm : List Value} {sn : List Str} {sub : List Value} {ab : Bool} {col : Option Bool} {dd : Option Addr} {k0 k1 k2 k3 k5 : Option Value}
    (l : K.lookup C = some (excClassObj nm q C N bs bm true sn sub ab col dd k0 k1 k2 k3 k5 "ValueError.__new__")) (b : PySem.HandSPX.refsVE bm = true) (sa : PySem.W.findIn K (.ref C) "__setattr__" = some (some (.builtin "object.__setattr__")))
    (e : PySem.W.subIn K (.ref C) (.type "BaseException") = some true) (t : PySem.W.typeIn K (.ref C) = some (.type "type")) (k : PySem.W.keepIn K (.ref C) = true) : OexC K C := ⟨⟨_, _, _, _, _, _, _, _, _, _, _, _, _, _, _, l, b⟩, sa, e, t, k⟩

/-- an own exception whose __init__ stores its one argument under its name -/
def OexK (P : Program) (K : PySem.W.Frag) (x : Str) (C : Addr) (fn : Str) : Prop := ∀ (w : World) (mg : Str → Option Value) (base h : Heap), K.In h → h.Ns mainGlobals mg → OexF P w K mg base 1 x C [fn]
theorem OexK.of {P : Program} {K : PySem.W.Frag} {C f cc cda : Addr} {x name qual fn m : Str} {params : Arguments} {scope : Scope} {dV kV doc pm ct oc : Value} {an od : Option Addr} {osl : Array (Option Value)} {j : Nat} {p0 p1 p2 p3 p4 p5 p6 p7 p8 p9 : Pos} {pl : Addr → Sem Bool} {cl : Value} {cld : Option Addr} {csl : Array (Option Value)}
    (a : PySem.W.nsIn K mainGlobals x = some (some (.ref C))) (hin : PySem.W.findIn K (.ref C) "__init__" = some (some (.ref f)))
    (lk : K.lookup f = some ⟨oc, od, .func (PySem.W.ksFn name qual params [.Expr (.Call (.Attribute (.Call (.Name "super" p0) [] [] p1) "__init__" p2) [.Constant (.str m) j p5] [] p3) p4, .Assign [.Attribute (.Name "self" p6) fn p7] (.Name fn p8) p9] scope dV kV doc pm an (.ref cda) ct cc), osl⟩)
    (hcd : PySem.W.codeIn K (.ref cda) qual = true) (hfi : fileIn P K (.ref cda) = true) (S : ISc ["self", fn] ["self", fn] scope) (T : OexC K C) (hcc : K.lookup cc = some ⟨cl, cld, .cell (some (.ref C)), csl⟩)
    (head : ∃ ar : Arg, (params.posonlyargs ++ params.args).head? = some ar ∧ ar.arg = "self") (sup : PySem.W.ks_superIn K C C "__init__" = some (some (.builtin "ValueError.__init__"))) (opq : PySem.W.nsIn K PySem.cStatics "thirdparty.any" = some none)
    (sub : PySem.W.subIn K (.ref C) (.type "ValueError") = some true) (mro : PySem.W.mroIn K C (.ref C) = some true) (kS : scope.names.lookup ("super" : Str) = some .globalImplicit) (kC : scope.names.lookup ("__class__" : Str) = some .free)
    (top : (P.main.scope.names.lookup ("super" : Str)).isSome = false) (hsu : PySem.W.nsIn K mainGlobals "super" = some none)
    (hno : PySem.W.findIn K (.ref C) fn = some none) (hty : PySem.W.typeIn K (.ref f) = some (.type "function"))
    (hb : ∀ us : List Value, us.length = 2 → bindArgs (PySem.W.ksFn name qual params [.Expr (.Call (.Attribute (.Call (.Name "super" p0) [] [] p1) "__init__" p2) [.Constant (.str m) j p5] [] p3) p4, .Assign [.Attribute (.Name "self" p6) fn p7] (.Name fn p8) p9] scope dV kV doc pm an (.ref cda) ct cc) ⟨us, []⟩ = pure ((["self", fn] : List Str).zip us))
    (hev : ∀ (L : Addr), eval (.Call (.Attribute (.Call (.Name "super" p0) [] [] p1) "__init__" p2) [.Constant (.str m) j p5] [] p3) (PySem.W.ksEnv qual scope L f (.ref cda) cc) = (do
      let ov ← attributeBase (.Call (.Name "super" p0) [] [] p1) "__init__" (PySem.W.ksEnv qual scope L f (.ref cda) cc) (eval (.Call (.Name "super" p0) [] [] p1) (PySem.W.ksEnv qual scope L f (.ref cda) cc))
      standAt p2.atName
      let (g, first) ← holding [ov] (getMethod ov "__init__" (pl L))
      callWith p3 g first (backTo p3 (starEach [.Constant (.str m) j p5] (PySem.W.ksEnv qual scope L f (.ref cda) cc))) []))
    (hd : (fn == ("__debug__" : Str)) = false) (hcd2 : (fn == ("__classdict__" : Str)) = false) : OexK P K x C fn := fun w mg base h X G =>
  oex_one lk hcd hfi S T ⟨⟨cl, cld, csl, hcc⟩, head, sup, opq, sub, mro, kS, kC, S.par _ (by simp), top⟩ (PySem.W.mg_none_of X G hsu) hno hin hty (PySem.W.mg_of X G a) (.all hb) hev hd hcd2

/-- answers of isinstance for one class C, by names -/
structure IsaF (K : PySem.W.Frag) (C : Addr) (T : Str) (b : Bool) : Prop where
  k : (∃ D, PySem.W.nsIn K mainGlobals T = some (some (.ref D)) ∧ PySem.W.kitOne K (.ref C) (.ref D) = some b) ∨ (∃ n, PySem.W.nsIn K mainGlobals T = some none ∧ bootBuiltins T = some (.type n) ∧ T ≠ "__name__" ∧ PySem.W.kitOne K (.ref C) (.type n) = some b)
theorem IsaF.cls {K : PySem.W.Frag} {C D : Addr} {T : Str} {b : Bool} (a : PySem.W.nsIn K mainGlobals T = some (some (.ref D))) (k : PySem.W.kitOne K (.ref C) (.ref D) = some b) : IsaF K C T b := ⟨.inl ⟨D, a, k⟩⟩
theorem IsaF.blt {K : PySem.W.Frag} {C : Addr} {T : Str} {n : String} {b : Bool} (a : PySem.W.nsIn K mainGlobals T = some none) (v : bootBuiltins T = some (.type n)) (ne : T ≠ "__name__") (k : PySem.W.kitOne K (.ref C) (.type n) = some b) : IsaF K C T b := ⟨.inr ⟨n, a, v, ne, k⟩⟩
theorem IsaF.kit {K : PySem.W.Frag} {C : Addr} {T : Str} {b : Bool} {mg : Str → Option Value} {h : Heap} (F : IsaF K C T b) (X : K.In h) (G : h.Ns mainGlobals mg) :
    ∃ (v : V) (cv : Value), (mg T = some cv ∨ (mg T = none ∧ bootBuiltins T = some cv ∧ T ≠ "__name__")) ∧ L2.RelV v cv ∧ (∀ u, L2.RelV v u → u = cv) ∧ PySem.W.kitOne K (.ref C) cv = some b := by
  rcases F.k with ⟨D, a, k⟩ | ⟨n, a, v, ne, k⟩
  · exact ⟨.ref D, .ref D, .inl (PySem.W.mg_of X G a), rfl, fun u h => h, k⟩
  · exact ⟨.ty n, .type n, .inr ⟨PySem.W.mg_none_of X G a, v, ne⟩, rfl, fun u h => h, k⟩
theorem mem_lk {α β : Type} [BEq α] [LawfulBEq α] : ∀ {l : List (α × β)} {a : α} {b : β}, l.lookup a = some b → (a, b) ∈ l
  | [], _, _, h => by cases h
  | (x, y) :: l, a, b, h => by
    by_cases e : a = x
    · subst e
      simp [List.lookup] at h
      subst h
      exact List.mem_cons_self
    · have e' : (a == x) = false := by simpa using e
      simp only [List.lookup, e'] at h
      exact List.mem_cons_of_mem _ (mem_lk h)
theorem isTab_of {K : PySem.W.Frag} {mg : Str → Option Value} {h : Heap} {l : List (Addr × List (Str × Bool))} (X : K.In h) (G : h.Ns mainGlobals mg) (all : ∀ p ∈ l, L2.ExcC K p.1 ∧ ∀ q ∈ p.2, IsaF K p.1 q.1 q.2) :
    IsTab K mg fun C T => (l.lookup C).bind fun r => r.lookup T := by
  have mem : ∀ C T b, ((l.lookup C).bind fun r => r.lookup T) = some b → ∃ r, (C, r) ∈ l ∧ (T, b) ∈ r := fun C T b e => by
    cases z : l.lookup C with
    | none => rw [z] at e; cases e
    | some r => rw [z] at e; exact ⟨r, mem_lk z, PySem.mem_of_lookup e⟩
  exact ⟨fun C T b e => let ⟨r, h1, h2⟩ := mem C T b e; (all _ h1).1, fun C T b e => let ⟨r, h1, h2⟩ := mem C T b e; ((all _ h1).2 _ h2).kit X G⟩
end Wl
namespace Wl
open PySem PySem.Spec L2 PyProof.Rows LamX
theorem isx_at {l : List (Addr × List (Str × Bool))} {C : Addr} {T : Str} {r : List (Str × Bool)} {b : Bool} (h : l.lookup C = some r) (h2 : r.lookup T = some b) : ((l.lookup C).bind fun r => r.lookup T) = some b := by rw [h]; exact h2
theorem isx_all {l : List (Addr × List (Str × Bool))} {Q : Addr → Prop} (all : ∀ p ∈ l, Q p.1) {C : Addr} {T : Str} {b : Bool} (h : ((l.lookup C).bind fun r => r.lookup T) = some b) : Q C := by
  cases z : l.lookup C with
  | none => rw [z] at h; cases h
  | some r => exact all _ (mem_lk z)
end Wl
namespace Wl
theorem lk_head {β : Type} {C : PySem.Addr} {r : β} {l : List (PySem.Addr × β)} : List.lookup C ((C, r) :: l) = some r := by simp [List.lookup]
theorem lk_tail {β : Type} {C D : PySem.Addr} {r s : β} {l : List (PySem.Addr × β)} (h : C ≠ D) (e : List.lookup C l = some r) : List.lookup C ((D, s) :: l) = some r := by
  have z : (C == D) = false := by simpa using h
  simp only [List.lookup, z]; exact e
end Wl

set_option Elab.async false
set_option linter.all false
set_option maxRecDepth 100000
set_option maxHeartbeats 4000000
/-! own exceptions whose __init__ says super().__init__(f"..") and stores its arguments -/
namespace Wl
open PySem PySem.Spec L2 PyProof.Rows LamX

def spG (C : Addr) (ns : List Str) (okA : List V → Prop) : Sp := fun vs H Q _ => ∃ a ws, vs = .ref a :: ws ∧ ws.length = ns.length ∧ okA ws ∧ H a = some (exo a C none) ∧ ∀ d, H d = none → d ≠ a → Q .non (upd (upd H d (exd d (flds ns ws))) a (exo a C (some d)))
structure OexG (P : Program) (w : World) (K : PySem.W.Frag) (mg : Str → Option Value) (base : Heap) (k : Nat) (x : Str) (C : Addr) (ns : List Str) (okA : List V → Prop) : Prop where
  ex : ∃ (fI : Addr) (fd : FuncData) (ps : List Str), OexC K C ∧ PySem.W.findIn K (.ref C) "__init__" = some (some (.ref fI)) ∧ PySem.W.typeIn K (.ref fI) = some (.type "function") ∧ FnOk P w K mg base (L2.CX P w) k fI fd ps (spG C ns okA) ∧ L2.Binds K fd ps [] ∧ mg x = some (.ref C)
def vRaiseG (E2 : DXS) (C : Addr) (ns : List Str) (okD : List Dv → Prop) (t : DA) : DS := fun _ δ μ => t δ μ fun xs μ1 => xs.length = ns.length ∧ okD xs ∧ ∀ d, μ1 d = none → E2 C (some d) δ (mset μ1 d (.xd (flds ns xs)))
section
variable {S : Sg} {ι : Type} {F : ι → Cx} {pos p rpos : Pos}
theorem ws_raiseG {x : Str} {C : Addr} {ns : List Str} {k : Nat} {e : Expr} {es : List Expr} {t : DA} {okA : List V → Prop} {okD : List Dv → Prop} (O : OexG S.P S.w S.K S.mg S.base k x C ns okA) (hk : k + 1 ≤ S.k) (hn : ns.length ≤ 900) (hok : ∀ (I : Hp) xs vs, RepL S.K I xs vs → okD xs → okA vs)
    (ha : WA S F (e :: es) t) (hg : ∀ j, Gl (F j) x := by exact fun _ => rfl)
    (hdb : (x == ("__debug__" : Str)) = false := by decide) (he : ∀ env : Env, starEach (e :: es) env = (false, eval e env) :: starEach es env := by exact fun _ => rfl) (hpl : ∀ env : Env, (backTo pos (starEach es env)).any (·.1) = false := by exact fun _ => rfl) (hcold : S.cold = false := by rfl) :
    WS S F (.Raise (some (.Call (.Name x p) (e :: es) [] pos)) none rpos) (vRaiseG S.E2 C ns okD t) := by
  obtain ⟨ta, a1, a2⟩ := ha
  obtain ⟨fI, fd, ps, T, o2, o3, o4, o5, o6⟩ := O.ex
  refine ⟨fun _ σ H => tMkO C (spG C ns okA) [] ta σ H fun cls d H' => S.W cls d σ H', fun i hi => ?_, fun I δ μ σ H hJ SM hS D D' q u => ?_⟩
  · obtain ⟨P0, w, K, mg, base, kk, N, J, W, E2, tr, cold⟩ := S
    obtain ⟨h1, h2, h3, h4, h5, h6, h7, h8, h9, h10, h11⟩ := id hi
    have r8 := h8 hcold
    have c7 := h7 hcold
    dsimp only at h1 h2 h3 h4 h5 h6 r8 h9 T o2 o3 o4 o5 o6 hk ⊢
    subst h1 h2 h3 h4 h5
    exact ps_raise c7 h9 (pmk_oex T o2 o3 o4 (r8.mono hk) o5 .nil (L2.passes_call h9 (fun _ _ _ _ z => z.elim)) (hg i) o6 (a1 i hi) hdb (he _) (hpl _))
  · refine a2 I δ μ σ H hJ SM hS _ _ q fun I1 xs vs μ1 H1 e1 S1 r1 q1 => ?_
    obtain ⟨q2, qo, q3⟩ := q1
    have hl : vs.length = ns.length := by rw [← r1.length]; exact q2
    refine ⟨by omega, fun a na => ?_⟩
    refine ⟨a, vs ++ [], rfl, by simpa using hl, by rw [List.append_nil]; exact hok _ _ _ r1 qo, upd_same, fun d nd ne => ⟨rfl, d, flds ns (vs ++ []), upd_same, by rw [upd_ne ne]; exact upd_same, by rw [upd_ne ne] at nd; exact nd, ?_⟩⟩
    have nd1 : H1 d = none := by rw [upd_ne ne] at nd; exact nd
    have eq : upd (L2.del (upd (upd (upd H1 a (exo a C none)) d (exd d (flds ns (vs ++ [])))) a (exo a C (some d))) a) d (.xd (flds ns (vs ++ []))) = upd H1 d (.xd (flds ns vs)) := by
      funext b
      by_cases hb : b = d
      · rw [hb, upd_same, upd_same, List.append_nil]
      · rw [upd_ne hb, upd_ne hb]
        by_cases hb2 : b = a
        · rw [hb2, L2.del_same, na]
        · rw [L2.del_ne hb2, upd_ne hb2, upd_ne hb, upd_ne hb2]
    rw [eq]
    have nm : μ1 d = none := by
      cases z : μ1 d with
      | none => rfl
      | some m =>
        obtain ⟨o, ho⟩ := (S1.memo z).some
        rw [nd1] at ho
        cases ho
    exact S.tr I1 C (some d) δ _ σ _ (hJ.trans e1) (S1.setM (m := .xd (flds ns xs)) (S1.ex.free nd1) ⟨flds ns vs, r1.flds, upd_same⟩) (hS.mono e1) (q3 d nm)
end

section
variable {P : Program} {w : World} {K : PySem.W.Frag} {mg : Str → Option Value} {base : Heap} {C f cc : Addr} {x name qual : Str} {params : Arguments} {scope : Scope} {dV kV doc pm cdv ct oc : Value} {an od : Option Addr} {osl : Array (Option Value)}
  {e : Expr} {rest : List Stmt} {p0 p1 p2 p3 p4 : Pos} {pl : Addr → Sem Bool} {ns : List Str} {okA : List V → Prop}
abbrev cxS (P : Program) (w : World) (K : PySem.W.Frag) (mg : Str → Option Value) (base : Heap) (N : List Str) (qual : Str) (scope : Scope) (f : Addr) (cdv : Value) (cc : Addr) := cxI (L2.CX P w) P w K mg base N qual scope f cdv cc
theorem oex_gen
    (lk : K.lookup f = some ⟨oc, od, .func (PySem.W.ksFn name qual params (.Expr (.Call (.Attribute (.Call (.Name "super" p0) [] [] p1) "__init__" p2) [e] [] p3) p4 :: rest) scope dV kV doc pm an cdv ct cc), osl⟩)
    (hcd : PySem.W.codeIn K cdv qual = true) (hfi : fileIn P K cdv = true) (S : ISc ("self" :: ns) ("self" :: ns) scope) (T : OexC K C) (U : SupF P K C cc params scope "self") (hms : mg "super" = none)
    (hin : PySem.W.findIn K (.ref C) "__init__" = some (some (.ref f))) (hty : PySem.W.typeIn K (.ref f) = some (.type "function")) (hx : mg x = some (.ref C))
    (hb : L2.Binds K (PySem.W.ksFn name qual params (.Expr (.Call (.Attribute (.Call (.Name "super" p0) [] [] p1) "__init__" p2) [e] [] p3) p4 :: rest) scope dV kV doc pm an cdv ct cc) ("self" :: ns) [])
    (harg : ∀ (A : Around) (outer : List Env) (s : Shared) (H : Hp) (E : XK), ∃ te, PE (cxS P w K mg base ("self" :: ns) qual scope f cdv cc A outer s H E) e te ∧ ∀ a ws H0 (Q : VK), ws.length = ns.length → okA ws → (∀ z, Q z H0) → te (L2.start ("self" :: ns) (.ref a :: ws)) H0 Q)
    (hrest : ∀ (A : Around) (outer : List Env) (s : Shared) (H : Hp) (E : XK), ∃ t, PSs (cxS P w K mg base ("self" :: ns) qual scope f cdv cc A outer s H E) rest t ∧ ∀ a ws H0 (D : Ends), ws.length = ns.length → H0 a = some (exo a C none) →
      (∀ d σ, H0 d = none → d ≠ a → D.nx σ (upd (upd H0 d (exd d (flds ns ws))) a (exo a C (some d)))) → t D (L2.start ("self" :: ns) (.ref a :: ws)) H0)
    (hev : ∀ (L : Addr), eval (.Call (.Attribute (.Call (.Name "super" p0) [] [] p1) "__init__" p2) [e] [] p3) (PySem.W.ksEnv qual scope L f cdv cc) = (do
      let ov ← attributeBase (.Call (.Name "super" p0) [] [] p1) "__init__" (PySem.W.ksEnv qual scope L f cdv cc) (eval (.Call (.Name "super" p0) [] [] p1) (PySem.W.ksEnv qual scope L f cdv cc))
      standAt p2.atName
      let (g, first) ← holding [ov] (getMethod ov "__init__" (pl L))
      callWith p3 g first (backTo p3 (starEach [e] (PySem.W.ksEnv qual scope L f cdv cc))) []))
    (hst : ∀ env : Env, starEach [e] env = (false, eval e env) :: starEach [] env) : OexG P w K mg base 1 x C ns okA := by
  refine ⟨f, _, _, T, hin, hty, fn_init (N := "self" :: ns) (ps := "self" :: ns) (k := 0) lk hcd hfi S T U rfl hms (fun vs H Q E h => ?_) (fun A outer s H vs Q E room h => ?_) hev hst, hb, hx⟩
  · obtain ⟨a, ws, rfl, hl, _⟩ := h
    simpa using hl
  · obtain ⟨a, ws, rfl, hl, ho, ha, hq⟩ := h
    obtain ⟨te, e1, e2⟩ := harg A outer s H E
    obtain ⟨t, t1, t2⟩ := hrest A outer s H E
    refine ⟨_, t, pa_cons e1 pa_nil (hst _), t1, a, rfl, ha, e2 a ws H _ hl ho fun z => ⟨by simp, ha, t2 a ws H _ hl ha fun d σ n ne => hq d n ne⟩⟩
/-- self.f = f, the one field -/
theorem rest_one {fn : Str} {p6 p7 p8 p9 : Pos} (S : ISc ["self", fn] ["self", fn] scope) (T : OexC K C) (hno : PySem.W.findIn K (.ref C) fn = some none) (hd : (fn == ("__debug__" : Str)) = false) (hcd2 : (fn == ("__classdict__" : Str)) = false)
    (A : Around) (outer : List Env) (s : Shared) (H : Hp) (E : XK) : ∃ t, PSs (cxS P w K mg base ["self", fn] qual scope f cdv cc A outer s H E) [.Assign [.Attribute (.Name "self" p6) fn p7] (.Name fn p8) p9] t ∧ ∀ a ws H0 (D : Ends), ws.length = [fn].length → H0 a = some (exo a C none) →
      (∀ d σ, H0 d = none → d ≠ a → D.nx σ (upd (upd H0 d (exd d (flds [fn] ws))) a (exo a C (some d)))) → t D (L2.start ["self", fn] (.ref a :: ws)) H0 := by
  have l0 : scope.names.lookup ("self" : Str) = some .local := S.par _ (by simp)
  have l1 : scope.names.lookup fn = some .local := S.par _ (by simp)
  refine ⟨_, pss_one (ps_ost (pe_var (i := 0) rfl (.inl l0)) (pe_var (i := 1) rfl (.inl l1) hd hcd2)), fun a ws H0 D hl ha q => ?_⟩
  match ws, hl with
  | [y], _ => exact ⟨y, rfl, .ref a, rfl, a, C, rfl, T, hno, .inl ⟨ha, fun dx n ne => q dx _ n ne⟩⟩
/-- self.f = f, self.g = g -/
theorem rest_two {fn gn : Str} {p6 p7 p8 p9 q6 q7 q8 q9 : Pos} (S : ISc ["self", fn, gn] ["self", fn, gn] scope) (T : OexC K C) (hno : PySem.W.findIn K (.ref C) fn = some none) (hno2 : PySem.W.findIn K (.ref C) gn = some none)
    (hd : (fn == ("__debug__" : Str)) = false) (hcd2 : (fn == ("__classdict__" : Str)) = false) (hd3 : (gn == ("__debug__" : Str)) = false) (hcd4 : (gn == ("__classdict__" : Str)) = false)
    (A : Around) (outer : List Env) (s : Shared) (H : Hp) (E : XK) : ∃ t, PSs (cxS P w K mg base ["self", fn, gn] qual scope f cdv cc A outer s H E) [.Assign [.Attribute (.Name "self" p6) fn p7] (.Name fn p8) p9, .Assign [.Attribute (.Name "self" q6) gn q7] (.Name gn q8) q9] t ∧ ∀ a ws H0 (D : Ends), ws.length = [fn, gn].length → H0 a = some (exo a C none) →
      (∀ d σ, H0 d = none → d ≠ a → D.nx σ (upd (upd H0 d (exd d (flds [fn, gn] ws))) a (exo a C (some d)))) → t D (L2.start ["self", fn, gn] (.ref a :: ws)) H0 := by
  have l0 : scope.names.lookup ("self" : Str) = some .local := S.par _ (by simp)
  have l1 : scope.names.lookup fn = some .local := S.par _ (by simp)
  have l2 : scope.names.lookup gn = some .local := S.par _ (by simp)
  refine ⟨_, pss_cons (ps_ost (pe_var (i := 0) rfl (.inl l0)) (pe_var (i := 1) rfl (.inl l1) hd hcd2)) (pss_one (ps_ost (pe_var (i := 0) rfl (.inl l0)) (pe_var (i := 2) rfl (.inl l2) hd3 hcd4))), fun a ws H0 D hl ha q => ?_⟩
  match ws, hl with
  | [y, z], _ =>
    refine ⟨y, rfl, .ref a, rfl, a, C, rfl, T, hno, .inl ⟨ha, fun dx n ne => ?_⟩⟩
    refine ⟨z, rfl, .ref a, rfl, a, C, rfl, T, hno2, .inr ⟨dx, [(fn, y)], upd_same, by rw [upd_ne ne]; exact upd_same, by simp, ?_⟩⟩
    have eq : upd (upd (upd H0 dx (exd dx [(fn, y)])) a (exo a C (some dx))) dx (exd dx [(gn, z), (fn, y)]) = upd (upd H0 dx (exd dx (flds [fn, gn] [y, z]))) a (exo a C (some dx)) := by
      funext b
      by_cases hb : b = dx
      · rw [hb, upd_same, upd_ne ne, upd_same]; rfl
      · rw [upd_ne hb]
        by_cases hb2 : b = a
        · rw [hb2, upd_same, upd_same]
        · rw [upd_ne hb2, upd_ne hb2, upd_ne hb, upd_ne hb]
    rw [eq]
    exact q dx _ n ne
/-- f"..{index}..", a whole number -/
def okI : List V → Prop := fun ws => ∃ i : Int, ws = [.int i] ∧ i.natAbs.log2 < 1920
theorem arg_int {fn m1 m2 : Str} {j1 j2 : Nat} {q1 q2 q3 q4 q5 : Pos} (S : ISc ["self", fn] ["self", fn] scope) (hd : (fn == ("__debug__" : Str)) = false) (hcd2 : (fn == ("__classdict__" : Str)) = false) (h1 : m1.length ≤ 200) (h2 : m2.length ≤ 200)
    (A : Around) (outer : List Env) (s : Shared) (H : Hp) (E : XK) : ∃ te, PE (cxS P w K mg base ["self", fn] qual scope f cdv cc A outer s H E) (.JoinedStr [.Constant (.str m1) j1 q1, .FormattedValue (.Name fn q2) (-1) none q3, .Constant (.str m2) j2 q4] q5) te ∧
      ∀ a ws H0 (Q : VK), ws.length = [fn].length → okI ws → (∀ z, Q z H0) → te (L2.start ["self", fn] (.ref a :: ws)) H0 Q := by
  have l1 : scope.names.lookup fn = some .local := S.par _ (by simp)
  have hz : 3000 < sizeLine := by decide
  refine ⟨_, pe_joined (.cons pe_str (.cons (pe_fmt (pe_var (i := 1) rfl (.inl l1) hd hcd2)) (.cons pe_str .nil))), fun a ws H0 Q _ hi q => ?_⟩
  obtain ⟨i, rfl, hl⟩ := hi
  have h3 := int_text_len_1921 hl
  have la : ∀ a b : Str, (a ++ b).length = a.length + b.length := fun a b => by
    show (a.cps ++ b.cps).size = a.cps.size + b.cps.size
    simp
  have l0 : Str.empty.length = 0 := rfl
  refine ⟨m1, rfl, by rw [la]; omega, .int i, rfl, .inr ⟨i, rfl, hl, _, rfl, by rw [la, la]; omega, m2, rfl, by rw [la, la, la]; omega, q _⟩⟩
end
end Wl

set_option Elab.async false
set_option linter.all false
set_option maxRecDepth 100000
set_option maxHeartbeats 4000000
/-! what the top has left of such classes -/
namespace Wl
open PySem PySem.Spec L2 PyProof.Rows LamX

theorem rep_int' {K : PySem.W.Frag} {I : Hp} {i : Int} {v : V} (r : Rep K I (.int i) v) : v = .int i := by cases r; rfl
theorem rep_str' {K : PySem.W.Frag} {I : Hp} {i : Str} {v : V} (r : Rep K I (.str i) v) : v = .str i := by cases r; rfl
def okDI : List Dv → Prop := fun xs => ∃ i : Int, xs = [.int i] ∧ i.natAbs.log2 < 1920
theorem okDI_ok {K : PySem.W.Frag} (I : Hp) (xs : List Dv) (vs : List V) (r : RepL K I xs vs) (h : okDI xs) : okI vs := by
  obtain ⟨i, rfl, h⟩ := h
  cases r with
  | cons a b => cases b; exact ⟨i, by rw [rep_int' a], h⟩
/-- two fields: a text and a whole number -/
def okM : List V → Prop := fun ws => ∃ (x : Str) (i : Int), ws = [.str x, .int i] ∧ x.length ≤ 200 ∧ i.natAbs.log2 < 1920
def okDM : List Dv → Prop := fun ws => ∃ (x : Str) (i : Int), ws = [.str x, .int i] ∧ x.length ≤ 200 ∧ i.natAbs.log2 < 1920
theorem okDM_ok {K : PySem.W.Frag} (I : Hp) (xs : List Dv) (vs : List V) (r : RepL K I xs vs) (h : okDM xs) : okM vs := by
  obtain ⟨x, i, rfl, h1, h2⟩ := h
  cases r with
  | cons a b =>
    cases b with
    | cons b c => cases c; exact ⟨x, i, by rw [rep_str' a, rep_int' b], h1, h2⟩
/-- two fields: two whole numbers -/
def okN : List V → Prop := fun ws => ∃ i j : Int, ws = [.int i, .int j] ∧ i.natAbs.log2 < 1920 ∧ j.natAbs.log2 < 1920
def okDN : List Dv → Prop := fun ws => ∃ i j : Int, ws = [.int i, .int j] ∧ i.natAbs.log2 < 1920 ∧ j.natAbs.log2 < 1920
theorem okDN_ok {K : PySem.W.Frag} (I : Hp) (xs : List Dv) (vs : List V) (r : RepL K I xs vs) (h : okDN xs) : okN vs := by
  obtain ⟨x, i, rfl, h1, h2⟩ := h
  cases r with
  | cons a b =>
    cases b with
    | cons b c => cases c; exact ⟨x, i, by rw [rep_int' a, rep_int' b], h1, h2⟩
section
variable {P : Program} {w : World} {K : PySem.W.Frag} {mg : Str → Option Value} {base : Heap} {C f cc : Addr} {qual : Str} {scope : Scope} {cdv : Value} {ns : List Str}
theorem len_app (a b : Str) : (a ++ b).length = a.length + b.length := by
  show (a.cps ++ b.cps).size = a.cps.size + b.cps.size
  simp
/-- f"{part}..{index}.." -/
theorem arg_map {fn gn m1 m2 : Str} {j1 j2 : Nat} {q1 q2 q3 q4 q5 q6 q7 : Pos} (S : ISc ["self", fn, gn] ["self", fn, gn] scope) (hd : (fn == ("__debug__" : Str)) = false) (hcd2 : (fn == ("__classdict__" : Str)) = false) (hd3 : (gn == ("__debug__" : Str)) = false) (hcd4 : (gn == ("__classdict__" : Str)) = false) (h1 : m1.length ≤ 200) (h2 : m2.length ≤ 200)
    (A : Around) (outer : List Env) (s : Shared) (H : Hp) (E : XK) : ∃ te, PE (cxS P w K mg base ["self", fn, gn] qual scope f cdv cc A outer s H E) (.JoinedStr [.FormattedValue (.Name fn q1) (-1) none q2, .Constant (.str m1) j1 q3, .FormattedValue (.Name gn q4) (-1) none q5, .Constant (.str m2) j2 q6] q7) te ∧
      ∀ a ws H0 (Q : VK), ws.length = [fn, gn].length → okM ws → (∀ z, Q z H0) → te (L2.start ["self", fn, gn] (.ref a :: ws)) H0 Q := by
  have l1 : scope.names.lookup fn = some .local := S.par _ (by simp)
  have l2 : scope.names.lookup gn = some .local := S.par _ (by simp)
  have hz : 3000 < sizeLine := by decide
  refine ⟨_, pe_joined (.cons (pe_fmt (pe_var (i := 1) rfl (.inl l1) hd hcd2)) (.cons pe_str (.cons (pe_fmt (pe_var (i := 2) rfl (.inl l2) hd3 hcd4)) (.cons pe_str .nil)))), fun a ws H0 Q _ hi q => ?_⟩
  obtain ⟨x, i, rfl, hx, hl⟩ := hi
  have h3 := int_text_len_1921 hl
  have l0 : Str.empty.length = 0 := rfl
  refine ⟨.str x, rfl, .inl ⟨x, rfl, by omega, x, rfl, by rw [len_app]; omega, m1, rfl, by rw [len_app, len_app]; omega, .int i, rfl, .inr ⟨i, rfl, hl, _, rfl, by rw [len_app, len_app, len_app]; omega, m2, rfl, by rw [len_app, len_app, len_app, len_app]; omega, q _⟩⟩⟩
/-- f"..{row}..{word}.." -/
theorem arg_two {fn gn m0 m1 m2 : Str} {j0 j1 j2 : Nat} {q0 q1 q2 q3 q4 q5 q6 q7 : Pos} (S : ISc ["self", fn, gn] ["self", fn, gn] scope) (hd : (fn == ("__debug__" : Str)) = false) (hcd2 : (fn == ("__classdict__" : Str)) = false) (hd3 : (gn == ("__debug__" : Str)) = false) (hcd4 : (gn == ("__classdict__" : Str)) = false) (h0 : m0.length ≤ 200) (h1 : m1.length ≤ 200) (h2 : m2.length ≤ 200)
    (A : Around) (outer : List Env) (s : Shared) (H : Hp) (E : XK) : ∃ te, PE (cxS P w K mg base ["self", fn, gn] qual scope f cdv cc A outer s H E) (.JoinedStr [.Constant (.str m0) j0 q0, .FormattedValue (.Name fn q1) (-1) none q2, .Constant (.str m1) j1 q3, .FormattedValue (.Name gn q4) (-1) none q5, .Constant (.str m2) j2 q6] q7) te ∧
      ∀ a ws H0 (Q : VK), ws.length = [fn, gn].length → okN ws → (∀ z, Q z H0) → te (L2.start ["self", fn, gn] (.ref a :: ws)) H0 Q := by
  have l1 : scope.names.lookup fn = some .local := S.par _ (by simp)
  have l2 : scope.names.lookup gn = some .local := S.par _ (by simp)
  have hz : 5000 < sizeLine := by decide
  refine ⟨_, pe_joined (.cons pe_str (.cons (pe_fmt (pe_var (i := 1) rfl (.inl l1) hd hcd2)) (.cons pe_str (.cons (pe_fmt (pe_var (i := 2) rfl (.inl l2) hd3 hcd4)) (.cons pe_str .nil))))), fun a ws H0 Q _ hi q => ?_⟩
  obtain ⟨x, i, rfl, hx, hl⟩ := hi
  have h3 := int_text_len_1921 hl
  have h4 := int_text_len_1921 hx
  have l0 : Str.empty.length = 0 := rfl
  refine ⟨m0, rfl, by rw [len_app]; omega, .int x, rfl, .inr ⟨x, rfl, hx, _, rfl, by rw [len_app, len_app]; omega, m1, rfl, by rw [len_app, len_app, len_app]; omega, .int i, rfl, .inr ⟨i, rfl, hl, _, rfl, by rw [len_app, len_app, len_app, len_app]; omega, m2, rfl, by rw [len_app, len_app, len_app, len_app, len_app]; omega, q _⟩⟩⟩
end
/-- what the written part says of such a class, its body's own parts aside -/
structure IniF (P : Program) (K : PySem.W.Frag) (x : Str) (C f cc cda : Addr) (qual : Str) (params : Arguments) (scope : Scope) (ns : List Str) : Prop where
  a : PySem.W.nsIn K mainGlobals x = some (some (.ref C))
  hin : PySem.W.findIn K (.ref C) "__init__" = some (some (.ref f))
  hcd : PySem.W.codeIn K (.ref cda) qual = true
  hfi : fileIn P K (.ref cda) = true
  S : ISc ("self" :: ns) ("self" :: ns) scope
  T : OexC K C
  U : SupF P K C cc params scope "self"
  hsu : PySem.W.nsIn K mainGlobals "super" = some none
  hno : ∀ n ∈ ns, PySem.W.findIn K (.ref C) n = some none
  hty : PySem.W.typeIn K (.ref f) = some (.type "function")
  nm : ∀ n ∈ ns, (n == ("__debug__" : Str)) = false ∧ (n == ("__classdict__" : Str)) = false
def OexKG (P : Program) (K : PySem.W.Frag) (x : Str) (C : Addr) (ns : List Str) (okA : List V → Prop) : Prop := ∀ (w : World) (mg : Str → Option Value) (base h : Heap), K.In h → h.Ns mainGlobals mg → OexG P w K mg base 1 x C ns okA
end Wl

set_option Elab.async false
set_option linter.all false
set_option maxRecDepth 100000
set_option maxHeartbeats 4000000
namespace Wl
open PySem PySem.Spec L2 PyProof.Rows LamX
section
variable {P : Program} {K : PySem.W.Frag} {C f cc cda : Addr} {x name qual fn gn : Str} {params : Arguments} {scope : Scope} {dV kV doc pm ct oc : Value} {an od : Option Addr} {osl : Array (Option Value)} {pl : Addr → Sem Bool} {p0 p1 p2 p3 p4 p6 p7 p8 p9 r6 r7 r8 r9 : Pos}
abbrev supB (p0 p1 p2 p3 p4 : Pos) (e : Expr) (rest : List Stmt) : List Stmt := .Expr (.Call (.Attribute (.Call (.Name "super" p0) [] [] p1) "__init__" p2) [e] [] p3) p4 :: rest
abbrev bndB (name qual : Str) (params : Arguments) (body : List Stmt) (scope : Scope) (dV kV doc pm : Value) (an : Option Addr) (cda : Addr) (ct : Value) (cc : Addr) (ps : List Str) : Prop :=
  ∀ us : List Value, us.length = ps.length → bindArgs (PySem.W.ksFn name qual params body scope dV kV doc pm an (.ref cda) ct cc) ⟨us, []⟩ = pure (ps.zip us)
abbrev evB (qual : Str) (scope : Scope) (f cda cc : Addr) (p0 p1 p2 p3 : Pos) (e : Expr) (pl : Addr → Sem Bool) : Prop := ∀ (L : Addr), eval (.Call (.Attribute (.Call (.Name "super" p0) [] [] p1) "__init__" p2) [e] [] p3) (PySem.W.ksEnv qual scope L f (.ref cda) cc) = (do
      let ov ← attributeBase (.Call (.Name "super" p0) [] [] p1) "__init__" (PySem.W.ksEnv qual scope L f (.ref cda) cc) (eval (.Call (.Name "super" p0) [] [] p1) (PySem.W.ksEnv qual scope L f (.ref cda) cc))
      standAt p2.atName
      let (g, first) ← holding [ov] (getMethod ov "__init__" (pl L))
      callWith p3 g first (backTo p3 (starEach [e] (PySem.W.ksEnv qual scope L f (.ref cda) cc))) [])
theorem OexKG.int {m1 m2 : Str} {j1 j2 : Nat} {q1 q2 q3 q4 q5 : Pos}
    (lk : K.lookup f = some ⟨oc, od, .func (PySem.W.ksFn name qual params (supB p0 p1 p2 p3 p4 (.JoinedStr [.Constant (.str m1) j1 q1, .FormattedValue (.Name fn q2) (-1) none q3, .Constant (.str m2) j2 q4] q5) [.Assign [.Attribute (.Name "self" p6) fn p7] (.Name fn p8) p9]) scope dV kV doc pm an (.ref cda) ct cc), osl⟩)
    (F : IniF P K x C f cc cda qual params scope [fn])
    (hb : bndB name qual params (supB p0 p1 p2 p3 p4 (.JoinedStr [.Constant (.str m1) j1 q1, .FormattedValue (.Name fn q2) (-1) none q3, .Constant (.str m2) j2 q4] q5) [.Assign [.Attribute (.Name "self" p6) fn p7] (.Name fn p8) p9]) scope dV kV doc pm an cda ct cc ["self", fn])
    (hev : evB qual scope f cda cc p0 p1 p2 p3 (.JoinedStr [.Constant (.str m1) j1 q1, .FormattedValue (.Name fn q2) (-1) none q3, .Constant (.str m2) j2 q4] q5) pl) (h1 : m1.length ≤ 200) (h2 : m2.length ≤ 200) : OexKG P K x C [fn] okI := fun w mg base h X G =>
  oex_gen lk F.hcd F.hfi F.S F.T F.U (PySem.W.mg_none_of X G F.hsu) F.hin F.hty (PySem.W.mg_of X G F.a) (.all hb) (fun A outer s H E => arg_int F.S (F.nm fn (by simp)).1 (F.nm fn (by simp)).2 h1 h2 A outer s H E)
    (fun A outer s H E => rest_one F.S F.T (F.hno fn (by simp)) (F.nm fn (by simp)).1 (F.nm fn (by simp)).2 A outer s H E) hev fun _ => rfl
theorem OexKG.map {m1 m2 : Str} {j1 j2 : Nat} {q1 q2 q3 q4 q5 q6 q7 : Pos}
    (lk : K.lookup f = some ⟨oc, od, .func (PySem.W.ksFn name qual params (supB p0 p1 p2 p3 p4 (.JoinedStr [.FormattedValue (.Name fn q1) (-1) none q2, .Constant (.str m1) j1 q3, .FormattedValue (.Name gn q4) (-1) none q5, .Constant (.str m2) j2 q6] q7) [.Assign [.Attribute (.Name "self" p6) fn p7] (.Name fn p8) p9, .Assign [.Attribute (.Name "self" r6) gn r7] (.Name gn r8) r9]) scope dV kV doc pm an (.ref cda) ct cc), osl⟩)
    (F : IniF P K x C f cc cda qual params scope [fn, gn])
    (hb : bndB name qual params (supB p0 p1 p2 p3 p4 (.JoinedStr [.FormattedValue (.Name fn q1) (-1) none q2, .Constant (.str m1) j1 q3, .FormattedValue (.Name gn q4) (-1) none q5, .Constant (.str m2) j2 q6] q7) [.Assign [.Attribute (.Name "self" p6) fn p7] (.Name fn p8) p9, .Assign [.Attribute (.Name "self" r6) gn r7] (.Name gn r8) r9]) scope dV kV doc pm an cda ct cc ["self", fn, gn])
    (hev : evB qual scope f cda cc p0 p1 p2 p3 (.JoinedStr [.FormattedValue (.Name fn q1) (-1) none q2, .Constant (.str m1) j1 q3, .FormattedValue (.Name gn q4) (-1) none q5, .Constant (.str m2) j2 q6] q7) pl) (h1 : m1.length ≤ 200) (h2 : m2.length ≤ 200) : OexKG P K x C [fn, gn] okM := fun w mg base h X G =>
  oex_gen lk F.hcd F.hfi F.S F.T F.U (PySem.W.mg_none_of X G F.hsu) F.hin F.hty (PySem.W.mg_of X G F.a) (.all hb) (fun A outer s H E => arg_map F.S (F.nm fn (by simp)).1 (F.nm fn (by simp)).2 (F.nm gn (by simp)).1 (F.nm gn (by simp)).2 h1 h2 A outer s H E)
    (fun A outer s H E => rest_two F.S F.T (F.hno fn (by simp)) (F.hno gn (by simp)) (F.nm fn (by simp)).1 (F.nm fn (by simp)).2 (F.nm gn (by simp)).1 (F.nm gn (by simp)).2 A outer s H E) hev fun _ => rfl
theorem OexKG.two {m0 m1 m2 : Str} {j0 j1 j2 : Nat} {q0 q1 q2 q3 q4 q5 q6 q7 : Pos}
    (lk : K.lookup f = some ⟨oc, od, .func (PySem.W.ksFn name qual params (supB p0 p1 p2 p3 p4 (.JoinedStr [.Constant (.str m0) j0 q0, .FormattedValue (.Name fn q1) (-1) none q2, .Constant (.str m1) j1 q3, .FormattedValue (.Name gn q4) (-1) none q5, .Constant (.str m2) j2 q6] q7) [.Assign [.Attribute (.Name "self" p6) fn p7] (.Name fn p8) p9, .Assign [.Attribute (.Name "self" r6) gn r7] (.Name gn r8) r9]) scope dV kV doc pm an (.ref cda) ct cc), osl⟩)
    (F : IniF P K x C f cc cda qual params scope [fn, gn])
    (hb : bndB name qual params (supB p0 p1 p2 p3 p4 (.JoinedStr [.Constant (.str m0) j0 q0, .FormattedValue (.Name fn q1) (-1) none q2, .Constant (.str m1) j1 q3, .FormattedValue (.Name gn q4) (-1) none q5, .Constant (.str m2) j2 q6] q7) [.Assign [.Attribute (.Name "self" p6) fn p7] (.Name fn p8) p9, .Assign [.Attribute (.Name "self" r6) gn r7] (.Name gn r8) r9]) scope dV kV doc pm an cda ct cc ["self", fn, gn])
    (hev : evB qual scope f cda cc p0 p1 p2 p3 (.JoinedStr [.Constant (.str m0) j0 q0, .FormattedValue (.Name fn q1) (-1) none q2, .Constant (.str m1) j1 q3, .FormattedValue (.Name gn q4) (-1) none q5, .Constant (.str m2) j2 q6] q7) pl) (h0 : m0.length ≤ 200) (h1 : m1.length ≤ 200) (h2 : m2.length ≤ 200) : OexKG P K x C [fn, gn] okN := fun w mg base h X G =>
  oex_gen lk F.hcd F.hfi F.S F.T F.U (PySem.W.mg_none_of X G F.hsu) F.hin F.hty (PySem.W.mg_of X G F.a) (.all hb) (fun A outer s H E => arg_two F.S (F.nm fn (by simp)).1 (F.nm fn (by simp)).2 (F.nm gn (by simp)).1 (F.nm gn (by simp)).2 h0 h1 h2 A outer s H E)
    (fun A outer s H E => rest_two F.S F.T (F.hno fn (by simp)) (F.hno gn (by simp)) (F.nm fn (by simp)).1 (F.nm fn (by simp)).2 (F.nm gn (by simp)).1 (F.nm gn (by simp)).2 A outer s H E) hev fun _ => rfl
end
end Wl

set_option Elab.async false
set_option linter.all false
set_option maxRecDepth 100000
set_option maxHeartbeats 4000000
namespace Wl
open PySem PySem.Spec L2 PyProof.Rows LamX
section
variable {P : Program} {K : PySem.W.Frag} {C f cc cda : Addr} {x name qual fn gn : Str} {params : Arguments} {scope : Scope} {dV kV doc pm ct oc : Value} {an od : Option Addr} {osl : Array (Option Value)} {pl : Addr → Sem Bool} {p0 p1 p2 p3 p4 p6 p7 p8 p9 r6 r7 r8 r9 : Pos}
theorem iniF {ns : List Str} {cl : Value} {cld : Option Addr} {csl : Array (Option Value)} (a : PySem.W.nsIn K mainGlobals x = some (some (.ref C))) (hin : PySem.W.findIn K (.ref C) "__init__" = some (some (.ref f)))
    (hcd : PySem.W.codeIn K (.ref cda) qual = true) (hfi : fileIn P K (.ref cda) = true) (S : ISc ("self" :: ns) ("self" :: ns) scope) (T : OexC K C) (hcc : K.lookup cc = some ⟨cl, cld, .cell (some (.ref C)), csl⟩)
    (head : ∃ ar : Arg, (params.posonlyargs ++ params.args).head? = some ar ∧ ar.arg = "self") (sup : PySem.W.ks_superIn K C C "__init__" = some (some (.builtin "ValueError.__init__"))) (opq : PySem.W.nsIn K PySem.cStatics "thirdparty.any" = some none)
    (sub : PySem.W.subIn K (.ref C) (.type "ValueError") = some true) (mro : PySem.W.mroIn K C (.ref C) = some true) (kS : scope.names.lookup ("super" : Str) = some .globalImplicit) (kC : scope.names.lookup ("__class__" : Str) = some .free)
    (top : (P.main.scope.names.lookup ("super" : Str)).isSome = false) (hsu : PySem.W.nsIn K mainGlobals "super" = some none) (hno : ∀ n ∈ ns, PySem.W.findIn K (.ref C) n = some none) (hty : PySem.W.typeIn K (.ref f) = some (.type "function"))
    (nm : ∀ n ∈ ns, (n == ("__debug__" : Str)) = false ∧ (n == ("__classdict__" : Str)) = false) : IniF P K x C f cc cda qual params scope ns :=
  ⟨a, hin, hcd, hfi, S, T, ⟨⟨cl, cld, csl, hcc⟩, head, sup, opq, sub, mro, kS, kC, S.par _ (by simp), top⟩, hsu, hno, hty, nm⟩
end
end Wl

set_option Elab.async false
set_option linter.all false
set_option maxRecDepth 100000
set_option maxHeartbeats 4000000
/-! [x(y) for y in ys] where what an item does may rest on the very state in which the walk begins -/
namespace Wl
open PySem PySem.Spec L2 PyProof.Rows LamX

section
variable {X : Cx}
/-- like a comprehension's rule; the item's rule is asked only of walks that begin where the context stands -/
theorem near_core {pins : List (Addr × Obj)} {s : Shared} {σ : L2.St} {H : Hp} {Q : VK} {elt tg iter : Expr} {scope : Scope} {own : List (Str × Nat)} {pos : Pos} {wi : TI} {g : TG} {te : TE}
    (calm : X.calm = true) (nod : X.N.Nodup) (iv : Inv X pins σ H s) (src : PI X tg iter wi) (blk : BlkOk X.N X.env.scope scope own)
    (tgt : ∀ (s : Shared) (H : Hp) (C : Addr) (cl : List (Str × Addr)) (fp : List Addr), PG (X.blk s H scope (compEnvC scope cl C X.env) fp) tg g)
    (item : ∀ (s1 : Shared) (H1 : Hp) (C : Addr) (cl : List (Str × Addr)) (fp : List Addr), Inv X pins σ H1 s1 → (∀ b ∈ fp, FpOk X pins H1 b) → PE (X.blk s1 H1 scope (compEnvC scope cl C X.env) fp) elt te)
    (fold : ∀ x, foldedSetIterable iter X.env x = pure x) (wish : tLc wi g tYes te (own.map (·.2)) σ H Q) :
    wpAny (model X.prog X.w) X.A (eval (.ListComp elt [⟨tg, iter, [], 0⟩] scope pos) X.env) (fun v s' => ∃ u H', Inv X pins σ H' s' ∧ RelV u v ∧ Q u H') X.xe s := by
  have has : ∀ y ∈ scope.names, y.2 = .free → ∃ c, X.env.cells.lookup y.1 = some c := fun y m e => (blk.free y m e).elim (fun k => iv.ok.has _ (.inl k)) fun k => iv.ok.has _ (.inr k)
  rw [eval_ListComp]
  refine wpAny_comprehension_free (use := none) rfl fold (closure_ok has) blk.kind (fun y m e => by rw [blk.uniq y m, e]) (thn (src.run pins s σ H _ iv wish) fun xv sa ha => thn ha fun itv sb hb => ?_)
  obtain ⟨it, fp, tn, J, Hb, rfl, ivb, T, st, ffp, rest⟩ := hb
  refine wpAny_newObj_type (newEnv_comp ?_) (by show 0 ≤ sizeLine; decide)
  have freshD : Hb sb.heap.objs.size = none := ivb.hok.fresh (Nat.le_refl _)
  obtain ⟨W, ⟨m0, w0⟩, turn⟩ := rest _ freshD
  generalize eD : sb.heap.objs.size = D at freshD w0 turn ⊢
  generalize eS : ({ sb with heap := sb.heap.push { cls := .type "list", data := .seq ([] : List Value).toArray } } : Shared) = sc
  have keepL : ∀ b o, sb.heap.get? b = some o → sc.heap.get? b = some o := fun b o e => by subst eS; exact Heap.get?_push_of_some _ e
  have ivc : Inv X pins σ (upd Hb D (.lst [])) sc := by
    subst eS
    refine ivb.laid (t' := sb.toks) (fun b o e => Heap.get?_push_of_some _ e) (Nat.le_of_eq eD) ⟨Nat.zero_le _, [], 0, .nil, ?_⟩
    subst eD
    exact Heap.get?_push_size _ rfl
  have under : ∀ b ∈ fp, b ≠ D ∧ b < sc.heap.objs.size := fun b m => by
    obtain ⟨o, e, _⟩ := T.obj _ _ st b m
    exact ⟨by subst eD; exact Nat.ne_of_lt (Heap.lt_size e), Heap.lt_size (keepL b o e)⟩
  have okFp : ∀ b ∈ fp, FpOk X pins (upd Hb D (.lst [])) b := fun b m => ⟨by rw [upd_ne (under b m).1]; exact (ffp b m).1, (ffp b m).2⟩
  have stc : tn 0 sc.heap := T.keep _ _ _ st fun b _ o e => keepL b o e
  have start := block_start ivc blk nod fun b m => ⟨okFp b m, (under b m).2⟩
  generalize eH : upd Hb D (.lst []) = Hc at ivc start okFp w0
  have pg := tgt sc Hc sc.heap.objs.size (cellsFrom (sc.heap.objs.size + 1) scope.names (cloFrom X.env.cells scope.names [])) fp
  have pe := item sc Hc sc.heap.objs.size (cellsFrom (sc.heap.objs.size + 1) scope.names (cloFrom X.env.cells scope.names [])) fp ivc okFp
  show codeAny _ _ (.compStart (.ListComp elt [⟨tg, iter, [], 0⟩] scope pos) 0 (.ref it) (.ref D) (compEnvC scope (cellsFrom (sc.heap.objs.size + 1) scope.names (cloFrom X.env.cells scope.names [])) sc.heap.objs.size X.env)) (compPost (model X.prog X.w) X.A X.xe none _ (.ref D) sc.heap.objs.size) { sc with heap := pushCells (sc.heap.push { cls := .type "dict", data := .dict #[] }) scope.names }
  generalize eE : compEnvC scope (cellsFrom (sc.heap.objs.size + 1) scope.names (cloFrom X.env.cells scope.names [])) sc.heap.objs.size X.env = ce at start pg pe ⊢
  have loc : ce.locals = sc.heap.objs.size := by subst eE; rfl
  generalize eT : ({ sc with heap := pushCells (sc.heap.push { cls := .type "dict", data := .dict #[] }) scope.names } : Shared) = sd at start ⊢
  have std : tn 0 sd.heap := T.keep _ _ _ stc fun b _ o e => by subst eT; exact pushCells_keeps _ _ _ _ (Heap.get?_push_of_some _ e)
  have free0 : ∀ b ∈ fp, Hc b = none := fun b m => (okFp b m).1
  have blkFp : ∀ {σ' : L2.St} {H' : Hp} {s' : Shared}, Inv (X.blk sc Hc scope ce fp) [] σ' H' s' → (∀ b ∈ fp, H' b = none) → ∀ b ∈ fp, FpOk (X.blk sc Hc scope ce fp) [] H' b := fun J' nn b m =>
    ⟨nn b m, (J'.ok.exf b m).1, J'.ok.exfs b m, .inl m, (J'.ok.exf b m).2, fun p hp => absurd (show p ∈ ([] : List (Addr × Obj)) ++ [] from hp) (by simp)⟩
  have loop : codeAny (model X.prog X.w) X.A (.compLoop (.ListComp elt [⟨tg, iter, [], 0⟩] scope pos) 0 (.ref it) (.ref D) ce) (compPost (model X.prog X.w) X.A X.xe none (fun v s' => ∃ u H', Inv X pins σ H' s' ∧ RelV u v ∧ Q u H') (.ref D) sc.heap.objs.size) sd := by
    refine compLoop_any (fun n s' => ∃ i H', Inv (X.blk sc Hc scope ce fp) [] (wipe σ (own.map (·.2))) H' s' ∧ tn i s'.heap ∧ (∀ b ∈ fp, H' b = none) ∧ W i n H') ?_ m0 ⟨0, Hc, start, std, free0, w0⟩
    rintro n sp ⟨i, H5, ivp, stp, np, wp5⟩
    rcases turn i n H5 wp5 with ⟨stop, qq⟩ | ⟨go, Nx, hNx, step⟩
    · refine thnF (T.done (X.blk sc Hc scope ce fp) rfl rfl rfl calm i [] sp _ H5 (fun _ _ => False) ivp (blkFp ivp np) stp stop) fun r s6 ⟨hr, I6⟩ => ?_
      subst hr
      have back : Inv X pins σ H5 s6 := ivc.call' (ch := fp) I6.os I6.base I6.hok I6.bare fun b m => ⟨(okFp b m).2.2.2.1, (okFp b m).2.1, (okFp b m).2.2.2.2.1, (okFp b m).2.2.2.2.2⟩
      have nC : H5 sc.heap.objs.size = none := by rw [← loc]; exact I6.free
      obtain ⟨m, hn, _⟩ := I6.loc
      have hn : s6.heap.Ns sc.heap.objs.size m := by rw [← loc]; exact hn
      refine ⟨m, hn, fun h'' same => ?_⟩
      obtain ⟨f0, f1, f2, f3, f4, f5⟩ := ivc.fpOk (Nat.le_refl _) nC
      exact ⟨.ref D, H5, back.turned (t' := s6.toks) (fun b o hb e => (same.2 b hb).trans e) f0 f1 f3 f4 f5, rfl, qq⟩
    · refine thnF (T.item (X.blk sc Hc scope ce fp) rfl rfl rfl calm i [] sp _ H5 (fun _ _ => False) ivp (blkFp ivp np) stp go) fun r s6 ⟨u, hr, h6⟩ => ?_
      subst hr
      refine thnF h6 fun _ sr ⟨x, H7, ivr, r7, y7, str7, nr⟩ => ?_
      refine thnF (pg.run _ sr _ H7 x u _ (ivr.pinned (blkFp ivr nr) (T.obj _ _ str7)) r7 (step x H7 y7)) fun _ s8 ⟨σ8, H8, I8, same8, q8⟩ => ?_
      refine thnF ((pts_nil (X := X.blk sc Hc scope ce fp)).run _ s8 σ8 H8 _ I8 q8) fun b s9 ⟨H9, I9, q9⟩ => ?_
      have close : ∀ {s' : Shared} {H' : Hp}, Inv (X.blk sc Hc scope ce fp) ([] ++ pinsAt fp sr.heap) σ8 H' s' → Nx H' → ∃ m, m < n ∧ ∃ i H', Inv (X.blk sc Hc scope ce fp) [] (wipe σ (own.map (·.2))) H' s' ∧ tn i s'.heap ∧ (∀ b ∈ fp, H' b = none) ∧ W i m H' := fun {s' H'} J' nx => by
        obtain ⟨m', lt, w'⟩ := hNx H' nx
        have still : ∀ b ∈ fp, ∀ o, sr.heap.get? b = some o → s'.heap.get? b = some o ∧ H' b = none := fun b m o e =>
          have z := J'.pin (b, o) (List.mem_append_right _ (List.mem_append_right _ (mem_pinsAt m e)))
          ⟨z.1, z.2.1⟩
        refine ⟨m', lt, i + 1, H', (J'.unpinned (pins := [])).weak (by rw [← same8, wipe_length]) (fun j v e => ?_), T.keep _ _ _ str7 fun b m o e => (still b m o e).1, fun b m => ?_, w'⟩
        · rw [← same8] at e
          exact (wipe_some e).1
        · obtain ⟨o, e, _⟩ := T.obj _ _ str7 b m
          exact (still b m o e).2
      cases b with
      | false =>
        rw [if_neg (by simp)] at q9 ⊢
        exact close I9 q9
      | true =>
        simp only [if_true] at q9 ⊢
        refine thnF (pe.run _ s9 σ8 H9 _ I9 q9) fun z sx ⟨yv, Hx, Ix, rx, acc, hD, hz, nx⟩ => ?_
        exact app_ok (X := X.blk sc Hc scope ce fp) Ix hD hz rx fun sy Iy => close Iy nx
  exact codeAny_compStart_list loop (T.self X.A 0 _ _ _ std loop)
end
end Wl

set_option Elab.async false
set_option linter.all false
set_option maxRecDepth 100000
set_option maxHeartbeats 4000000
/-! a lambda whose parameters have defaults: its body's context, entered later from a walk -/
namespace Wl
open PySem PySem.Spec L2 PyProof.Rows LamX

/-- a lambda's scope: its own names are none of the context's -/
structure LamQ (N : List Str) (sc scope : Scope) : Prop where
  kind : scope.kind = .function
  co : scope.isCoroutine = false
  gen : scope.isGenerator = false
  nocell : ∀ y ∈ scope.names, y.2 ≠ .cell
  own : ∀ y ∈ scope.names, y.2 = .local → y.1 ∉ N
  free : ∀ y ∈ scope.names, y.2 = .free → sc.names.lookup y.1 = some .cell ∨ sc.names.lookup y.1 = some .free
def lamQB (N : List Str) (sc scope : Scope) : Bool :=
  decide (scope.kind = .function) && (!scope.isCoroutine && (!scope.isGenerator && scope.names.all fun y => !decide (y.2 = .cell) && ((!decide (y.2 = .local) || !N.contains y.1) && (!decide (y.2 = .free) || (decide (sc.names.lookup y.1 = some .cell) || decide (sc.names.lookup y.1 = some .free))))))
theorem lamQ_by {N : List Str} {sc scope : Scope} (h : lamQB N sc scope = true) : LamQ N sc scope := by
  simp only [lamQB, Bool.and_eq_true, Bool.or_eq_true, Bool.not_eq_true', decide_eq_true_eq, decide_eq_false_iff_not, List.all_eq_true, List.contains_eq_mem] at h
  obtain ⟨a1, a2, a3, a4⟩ := h
  refine ⟨a1, a2, a3, fun y m => (a4 y m).1, fun y m e => ?_, fun y m e => ?_⟩
  · rcases (a4 y m).2.1 with z | z
    · exact absurd e z
    · simpa using z
  · rcases (a4 y m).2.2 with z | z
    · exact absurd e z
    · exact z

section
variable {X : Cx} {pins : List (Addr × Obj)} {σ : L2.St} {H HZ : Hp} {s s1 : Shared}
theorem LamQ.has {scope : Scope} (L : LamQ X.N X.env.scope scope) (ok : X.Ok) : ∀ y ∈ scope.names, y.2 = .free → ∃ b, X.env.cells.lookup y.1 = some b := fun y m e => by
  rcases L.free y m e with k | k
  · exact ok.has _ (.inl k)
  · exact ok.has _ (.inr k)
theorem lamQ_start {A : Around} {outer : List Env} {E : XK} {scope : Scope} {f c' : Addr} {h₁ : Heap} {tk : Nat} {ch : List Addr} {bs : List (Str × Value)} (iv : Inv X pins σ H s) (L : LamQ X.N X.env.scope scope) (e0 : Env0 X.prog X.w X.K X.mg X.base A outer s1 HZ) (hd : A.handled = none)
    (un : Un (frs X.stack) ch H HZ s.heap s1.heap) (hch : ∀ b ∈ ch, ∀ x c, X.env.cells.lookup x = some c → c ≠ b) (hns : h₁.Ns s1.heap.objs.size fun y => bs.reverse.lookup y) (kp : ∀ b o, s1.heap.get? b = some o → h₁.get? b = some o) :
    Inv (lamCx X A outer s1 HZ E scope f c') [] σ HZ { s1 with heap := h₁, toks := tk } := by
  have has := L.has iv.ok
  have mine : ∀ {y c}, (cloFrom X.env.cells scope.names []).lookup y = some c → X.env.cells.lookup y = some c := fun {y c} e => by
    rcases cloFrom_mem (PySem.mem_of_lookup e) with z | ⟨z1, z2⟩
    · cases z
    · obtain ⟨b, q⟩ := has _ z1 rfl
      have q : X.env.cells.lookup y = some b := q
      have eb : c = b := by rw [z2, q] <;> rfl
      rw [eb]
      exact q
  have there : ∀ {y}, scope.names.lookup y = some .free → ∃ c, (cloFrom X.env.cells scope.names []).lookup y = some c := fun {y} l => by
    have hm : (y, NameKind.free) ∈ scope.names := PySem.mem_of_lookup l
    exact mem_lookup (cloFrom_has (cells := X.env.cells) (acc := []) hm)
  have noCh : ∀ {y c}, X.env.cells.lookup y = some c → c ∉ ch := fun {y c} e m => hch c m y c e rfl
  have kept : ∀ {y c v}, X.env.cells.lookup y = some c → s.heap.IsCell c v → h₁.IsCell c v := fun {y c v} e q => by
    obtain ⟨o, ho, hv⟩ := q
    obtain ⟨sl, z⟩ := un.any ho (iv.freeC y c e) (noCh e)
    exact ⟨_, kp _ _ z, hv⟩
  have none0 : ∀ b : Addr, b ∉ (lamCx X A outer s1 HZ E scope f c').ex := fun b z => absurd (show b ∈ ([] : List Addr) from z) (by simp)
  refine ⟨⟨e0.mod, L.kind, rfl, rfl, Nat.le_refl _, fun y z c a b => iv.ok.inj y z c (mine a) (mine b), fun y hy => ?_, fun y c z _ => ?_, fun _ => hd, Around.frames_deeper e0.frames, .inr ⟨rfl, rfl⟩, fun b z => absurd z (none0 b), e0.bs, e0.bsz, fun b _ _ => none0 b,
      fun b z => absurd z (none0 b), e0.funs, e0.frf⟩,
    rfl, e0.bare, Un.kept kp, ⟨_, hns, fun i y v a b vis => ?_⟩, fun y c e => ?_, e0.hok.fresh (Nat.le_refl _), fun y c e => ?_, fun q hq => absurd (show q ∈ ([] : List (Addr × Obj)) ++ [] from hq) (by simp), e0.hok.kept kp, iv.len⟩
  · have hy : scope.names.lookup y = some .cell ∨ scope.names.lookup y = some .free := hy
    rcases hy with hy | hy
    · exact absurd rfl (L.nocell _ (PySem.mem_of_lookup hy))
    · exact there hy
  · have z : false = true := z
    cases z
  · have vis : Vis scope y := vis
    have inN : y ∈ X.N := List.mem_of_getElem? a
    rcases vis with k | k | k
    · exact absurd inN (L.own _ (PySem.mem_of_lookup k) rfl)
    · exact absurd rfl (L.nocell _ (PySem.mem_of_lookup k))
    · obtain ⟨m, hn, hl⟩ := iv.loc
      have up : Vis X.env.scope y := (L.free _ (PySem.mem_of_lookup k) rfl).elim (fun k => .inr (.inl k)) fun k => .inr (.inr k)
      obtain ⟨w', r, q⟩ := hl i y v a b up
      obtain ⟨c2, h2⟩ := there k
      refine ⟨w', r, .inr ⟨.inr k, c2, h2, ?_⟩⟩
      rcases q with ⟨k', _⟩ | ⟨_, c3, e', z⟩
      · have k' : X.env.scope.names.lookup y = some .local := k'
        rcases L.free _ (PySem.mem_of_lookup k) rfl with k2 | k2 <;> rw [show X.env.scope.names.lookup y = _ from k2] at k' <;> cases k'
      · have c1 := mine h2
        rw [c1] at e'
        cases e'
        exact kept c1 z
  · obtain ⟨w', z⟩ := iv.cell y c (mine e)
    exact ⟨w', kept (mine e) z⟩
  · obtain ⟨v, o, ho, hd⟩ := iv.cell y c (mine e)
    exact un.free c o ho (iv.freeC y c (mine e)) (noCh (mine e))
end
end Wl

set_option Elab.async false
set_option linter.all false
set_option maxRecDepth 100000
set_option maxHeartbeats 4000000
/-! a lambda made as a value: what stands for it in the heap -/
namespace Wl
open PySem PySem.Spec L2 PyProof.Rows LamX

/-- the object at a, known and unchanging -/
def objO (a : Addr) (o : Obj) : HO := .ext fun h => h.get? a = some o
theorem objO_ok {P : Program} {w : World} {H : Hp} {h : Heap} {a : Addr} {o : Obj} (e : h.get? a = some o) : ObjOk P w H h a (objO a o) :=
  ⟨e, ⟨o, e⟩, fun _ _ p k => k _ p⟩
/-- the function object of a lambda -/
abbrev lamO (q : Str) (prs : Arguments) (bd : Expr) (sco : Scope) (cs : List (Str × Addr)) (dV doc pm : Value) (b : Addr) (ctv : Value) : Obj :=
  PySem.W.kdv_obj "<lambda>" q prs (.expr bd) sco (cloFrom cs sco.names []) dV doc pm b ctv

section
variable {X : Cx} {pins : List (Addr × Obj)} {σ : L2.St} {H : Hp} {s : Shared}
/-- the making itself, the defaults' tuple given -/
theorem lam_tail {c P : Addr} {tbl : Array Value} {prs : Arguments} {bd : Expr} {sco : Scope} {lp : Pos} {ln : Nat} {dV : Value} {E : Value → Shared → Prop} {Q : Value → Shared → Prop} (iv : Inv X pins σ H s) (tb : TabB X.base X.mg c P) (hc0 : X.env.code = .ref c)
    (hP : H P = some (.tbl tbl)) (trip : TriplesOk tbl.toList) (names : ∀ (at_ : Pos) (v : Value), codeAmong at_ tbl.toList = some v → ∃ b, v = .ref b ∧ H b = some (CodeO b (X.env.qual ++ "<lambda>")))
    (hfr : ∀ y ∈ sco.names, y.2 = .free → ∃ b, X.env.cells.lookup y.1 = some b)
    (fin : ∀ (f b : Addr) (pm ctv doc : Value) (H1 : Hp) (s' : Shared), Made H H1 P b (X.env.qual ++ "<lambda>") tbl → H1 f = none →
      Inv X pins σ (upd H1 f (objO f (lamO (X.env.qual ++ "<lambda>") prs bd sco X.env.cells dV doc pm b ctv))) s' → Q (.ref f) s') :
    wpAny (model X.prog X.w) X.A (makeTail "<lambda>" (X.env.qual ++ "<lambda>") prs (.expr bd) sco X.env dV .none none lp ln) Q E s := by
  have onB : s.heap.BuiltinsAt X.mg P := tb.bm.keeps iv.bk
  have atP : s.heap.get? P = some { cls := .none, data := .fields tbl } := iv.hok P _ hP
  rcases found : codeAmong lp tbl.toList with _ | cv
  · refine PySem.W.kdv_makeTail (mg := X.mg) (c := c) (P := P) (ps := tbl) (closure_ok hfr) iv.ok.glob (iv.mod.glob.keeps iv.bk) hc0 (tb.code.keeps iv.bk) atP trip found tb.gP onB fun b ctv doc h' tk keeps ge lt rec_ grown => ?_
    obtain ⟨b2, ob, fl, nt, eb, g1, g2, g3⟩ := rec_
    cases eb
    have le : s.heap.objs.size ≤ h'.objs.size := Nat.le_trans ge (Nat.le_of_lt lt)
    have ivT := inv_table (t' := tk) (more := #[rawInt lp.line, rawInt lp.col, .ref b]) (h' := h') iv hP keeps grown ge ⟨ob, fl, nt, g1, g2, g3⟩
    refine fin h'.objs.size b ((X.mg "__name__").getD .none) ctv doc _ _ (.inr ⟨iv.hok.fresh ge, lp, rfl⟩) (ivT.hok.fresh (Nat.le_refl _)) (ivT.laid (t' := tk) (fun _ _ e => Heap.get?_push_of_some _ e) (Nat.le_refl _) (objO_ok (Heap.get?_push_size _ rfl)))
  · obtain ⟨b, eb, hb⟩ := names lp cv found
    subst eb
    refine PySem.W.kdv_makeTailHit (mg := X.mg) (c := c) (P := P) (ps := tbl) (closure_ok hfr) iv.ok.glob (iv.mod.glob.keeps iv.bk) hc0 (tb.code.keeps iv.bk) atP trip found onB fun ctv doc h' tk keeps le => ?_
    have ivK : Inv X pins σ H { s with heap := h', toks := tk } := iv.kept keeps
    exact fin h'.objs.size b ((X.mg "__name__").getD .none) ctv doc H _ (.inl ⟨rfl, lp, found⟩) (ivK.hok.fresh (Nat.le_refl _)) (ivK.laid (t' := tk) (fun _ _ e => Heap.get?_push_of_some _ e) (Nat.le_refl _) (objO_ok (Heap.get?_push_size _ rfl)))
/-- no defaults -/
theorem lam_val0 {c P : Addr} {tbl : Array Value} {prs : Arguments} {bd : Expr} {sco : Scope} {lp : Pos} {E : Value → Shared → Prop} {Q : Value → Shared → Prop} (iv : Inv X pins σ H s) (tb : TabB X.base X.mg c P) (hc0 : X.env.code = .ref c)
    (hP : H P = some (.tbl tbl)) (trip : TriplesOk tbl.toList) (names : ∀ (at_ : Pos) (v : Value), codeAmong at_ tbl.toList = some v → ∃ b, v = .ref b ∧ H b = some (CodeO b (X.env.qual ++ "<lambda>")))
    (hd0 : defaultsOf prs X.env = ([], [])) (hfr : ∀ y ∈ sco.names, y.2 = .free → ∃ b, X.env.cells.lookup y.1 = some b)
    (fin : ∀ (f b : Addr) (pm ctv doc : Value) (H1 : Hp) (s' : Shared), Made H H1 P b (X.env.qual ++ "<lambda>") tbl → H1 f = none →
      Inv X pins σ (upd H1 f (objO f (lamO (X.env.qual ++ "<lambda>") prs bd sco X.env.cells .none doc pm b ctv))) s' → Q (.ref f) s') :
    wpAny (model X.prog X.w) X.A (eval (.Lambda prs bd sco lp) X.env) Q E s := by
  refine PySem.W.kla_eval hd0 ?_
  rw [makeFunction_eq]
  simp only [List.zip_nil_right, List.filterMap_nil, List.isEmpty_nil, if_true, pure_bind]
  exact lam_tail iv tb hc0 hP trip names hfr fin
/-- one default, a constant -/
theorem lam_val1 {c P : Addr} {tbl : Array Value} {prs : Arguments} {bd e0 : Expr} {v0 : V} {sco : Scope} {lp : Pos} {Q : Value → Shared → Prop} (iv : Inv X pins σ H s) (tb : TabB X.base X.mg c P) (hc0 : X.env.code = .ref c)
    (hP : H P = some (.tbl tbl)) (trip : TriplesOk tbl.toList) (names : ∀ (at_ : Pos) (v : Value), codeAmong at_ tbl.toList = some v → ∃ b, v = .ref b ∧ H b = some (CodeO b (X.env.qual ++ "<lambda>")))
    (hd1 : prs.defaults = [e0]) (hk0 : prs.kw_defaults = []) (pe0 : PE X e0 (tC v0)) (hfr : ∀ y ∈ sco.names, y.2 = .free → ∃ b, X.env.cells.lookup y.1 = some b)
    (fin : ∀ (t f b : Addr) (u pm ctv doc : Value) (H1 : Hp) (s' : Shared), L2.RelV v0 u → H t = none → Made (upd H t (objO t (PySem.W.kdv_tup [u]))) H1 P b (X.env.qual ++ "<lambda>") tbl → H1 f = none →
      Inv X pins σ (upd H1 f (objO f (lamO (X.env.qual ++ "<lambda>") prs bd sco X.env.cells (.ref t) doc pm b ctv))) s' → Q (.ref f) s') :
    wpAny (model X.prog X.w) X.A (eval (.Lambda prs bd sco lp) X.env) Q X.xe s := by
  refine PySem.W.kdv_lam (by rw [hd1]; rfl) hk0 ?_
  rw [hd1]
  refine PySem.W.kdv_all1 (thn (pe0.run pins s σ H (fun v H' => v = v0 ∧ H' = H) iv ⟨rfl, rfl⟩) fun u sa ha => ?_)
  obtain ⟨v, Ha, iva, ru, e1, e2⟩ := ha
  subst e1 e2
  refine PySem.W.kdv_all0 ?_
  rw [makeFunction_eq]
  simp only [List.zip_nil_right, List.filterMap_nil, List.isEmpty_nil, if_true, pure_bind, List.isEmpty_cons, Bool.false_eq_true, if_false]
  refine wpAny_bind (wpAny_newTextTuple ?_)
  have freshT : Ha sa.heap.objs.size = none := iva.hok.fresh (Nat.le_refl _)
  have ivt := iva.laid (t' := sa.toks) (h' := sa.heap.push (PySem.W.kdv_tup [u])) (fun _ _ e => Heap.get?_push_of_some _ e) (Nat.le_refl _) (objO_ok (Heap.get?_push_size _ rfl))
  have nT : ∀ b o, Ha b = some o → b ≠ sa.heap.objs.size := fun b o e => ne_of_none e freshT
  refine lam_tail ivt tb hc0 (by rw [upd_ne (nT _ _ hP)]; exact hP) trip (fun at_ v e => ?_) hfr fun f b pm ctv doc H1 s' md nf iv2 => fin sa.heap.objs.size f b u pm ctv doc H1 s' ru freshT md nf iv2
  obtain ⟨b, e1, e2⟩ := names at_ v e
  exact ⟨b, e1, by rw [upd_ne (nT _ _ e2)]; exact e2⟩
end
end Wl

set_option Elab.async false
set_option linter.all false
set_option maxRecDepth 100000
set_option maxHeartbeats 4000000
/-! such a value called, in a def that was entered from a walk of the lambda's own def -/
namespace Wl
open PySem PySem.Spec L2 PyProof.Rows LamX

/-- what the parameters get, by what is known of the heap -/
def bindQ (H : Hp) (fd : FuncData) (bs : List (Str × Value)) : Prop := ∀ s1 : Shared, (∀ t o, H t = some (objO t o) → s1.heap.get? t = some o) → BindsTo s1 fd ⟨[], []⟩ bs
/-- the value f, in the heap: its function, its code and what its parameters get -/
def isLam (q : Str) (prs : Arguments) (bd : Expr) (sco : Scope) (cs : List (Str × Addr)) (f c' : Addr) (H : Hp) : Prop :=
  ∃ (dV doc pm ctv : Value) (bs : List (Str × Value)), H f = some (objO f (lamO q prs bd sco cs dV doc pm c' ctv)) ∧ (∀ y ∈ bs, sco.names.lookup y.1 = some .local) ∧
    bindQ H (PySem.W.kdv_fn "<lambda>" q prs (.expr bd) sco (cloFrom cs sco.names []) dV doc pm (.ref c') ctv) bs
theorem un_wide {fs ex ch : List Addr} {H H' : Hp} {h h' : Heap} (u : Un fs ex H H' h h') (sub : ∀ b, b ∉ ch → b ∉ ex) : Un fs ch H H' h h' :=
  ⟨fun b o a n f x => u.keep b o a n f (sub b x), fun b o a n f x => u.slot b o a n f (sub b x), fun b o a n x => u.free b o a n (sub b x), fun b o a x => u.there b o a (sub b x), u.tups, u.frzs, u.tbls⟩

section
variable {X : Cx} {pins : List (Addr × Obj)} {σ : L2.St} {H H0 : Hp} {s s0 : Shared}
theorem pe_actQ {CXg : CXT} {Eg : XK} {Ng : List Str} {qg : Str} {sg : Scope} {g f c' : Addr} {cdg : Value} {params : Arguments} {body : Expr} {scope : Scope} {k i : Nat} {a : Str} {pn : List (Addr × Obj)} {xe : Value → Shared → Prop} {W : WX} {E : XK} {tb : TE} {ch : List Addr} {p1 p2 : Pos}
    (iv0 : Inv X pins σ H0 s0) (L : LamQ X.N X.env.scope scope) (un0 : Un (frs X.stack) ch H0 H s0.heap s.heap) (hch : ∀ b ∈ ch, ∀ x c, X.env.cells.lookup x = some c → c ≠ b)
    (tk : Takes ((cxOf CXg X.prog X.w X.K X.mg X.base Ng qg sg g cdg X.A X.stack s H Eg).tr pn xe) W) (hW : ∀ cls d σ' H', E cls d H' → W cls d σ' H') (hr : Room (k + 1) (X.A.deeper (envOfC qg sg s.heap.objs.size g cdg)))
    (hbody : ∀ (A : Around) (outer : List Env) (s : Shared) (H : Hp), Room k (A.deeper (lamEnv X scope s.heap.objs.size f c')) → PE (lamCx X A outer s H E scope f c') body tb)
    (hN : Ng[i]? = some a) (hv : Vis sg a) (hd : (a == ("__debug__" : Str)) = false := by decide) (hcd : (a == ("__classdict__" : Str)) = false := by decide) :
    PE ((cxOf CXg X.prog X.w X.K X.mg X.base Ng qg sg g cdg X.A X.stack s H Eg).tr pn xe) (.Call (.Name a p1) [] [] p2)
      (fun σZ HZ Q => σZ[i]? = some (some (.ref f)) ∧ HZ c' = some (CodeO c' (X.env.qual ++ "<lambda>")) ∧ isLam (X.env.qual ++ "<lambda>") params body scope X.env.cells f c' HZ ∧ tb σ HZ Q) := by
  refine ⟨fun pinsZ sZ σZ HZ Q IZ h => ?_⟩
  obtain ⟨hs, hc, ⟨dV, doc, pm, ctv, bs, hf, hloc, hbind⟩, ht⟩ := h
  refine wpAny_Call_Name_kw (thn ((pe_var (pos := p1) (i := i) hN hv hd hcd).run pinsZ sZ σZ HZ (fun v H1 => v = .ref f ∧ H1 = HZ) IZ ⟨.ref f, hs, rfl, rfl⟩) fun u s1 got => ?_)
  obtain ⟨v, H1, iv1, r1, ev, eH⟩ := got
  subst ev eH
  obtain rfl : u = Value.ref f := r1
  have known : ∀ t o, H1 t = some (objO t o) → s1.heap.get? t = some o := fun t o e => by
    have z : ObjOk _ _ H1 s1.heap t (objO t o) := iv1.hok t _ e
    exact z.1
  have atF := known f _ hf
  refine PySem.W.callWith_F0 ⟨_, _, _, _, atF⟩ ?_
  have un1 : Un (frs X.stack) [] H H1 s.heap s1.heap := iv1.base
  have un : Un (frs X.stack) ch H0 H1 s0.heap s1.heap := un0.trans (un_wide un1 fun b _ => by simp)
  obtain ⟨⟨oc, vs, t, hoc, hdc, hvc⟩, _, _⟩ := iv1.hok c' _ hc
  have runs : codeAny (model X.prog X.w) (X.A.deeper (envOfC qg sg s.heap.objs.size g cdg)) (.call (.ref f) ⟨[], []⟩) (CR (L2.CX X.prog X.w) (envOfC qg sg s.heap.objs.size g cdg :: X.stack) X.prog X.w H1 s1 Q E) s1 := by
    refine PySem.W.kla_callFunE hr.depth atF rfl L.co L.gen rfl ⟨c', oc, vs, t, rfl, hoc, hdc, hvc⟩ (hbind s1 known _ _ _ _ ?_)
    refine wpAny_newFunctionEnv (fun y hy => L.nocell y hy) hloc (fun h₁ hns hsb => ⟨iv1.nolimit.fresh _ hsb, ?_⟩) L.kind
    show codeAny _ _ (.expr body (lamEnv X scope s1.heap.objs.size f c')) _ _
    have kp : ∀ b o, s1.heap.get? b = some o → h₁.get? b = some o := fun b o e => hsb.extBut b o (Nat.ne_of_lt (Heap.lt_size e)) (Heap.get?_push_of_some _ e)
    have start : Inv (lamCx X (X.A.deeper (envOfC qg sg s.heap.objs.size g cdg)) (envOfC qg sg s.heap.objs.size g cdg :: X.stack) s1 H1 E scope f c') [] σ H1 { s1 with heap := h₁, toks := s1.toks + bs.length } :=
      lamQ_start iv0 L iv1.env0 hr.hd un hch hns kp
    refine PySem.W.kla_codeExpr (wpAny_mono ((hbody _ _ s1 H1 (hr.deeper _)).run [] _ _ H1 Q start ht) (fun v s' hq => ?_) fun e s' hq => hq)
    obtain ⟨w', H', J', rv, q⟩ := hq
    exact ⟨w', H', J'.os, J'.bare, J'.base, J'.hok, rv, q⟩
  have land : Passes (L2.CX X.prog X.w) ((cxOf CXg X.prog X.w X.K X.mg X.base Ng qg sg g cdg X.A X.stack s H Eg).tr pn xe) E := passes_call tk hW
  refine wpAny_call (codeAny_mono runs fun r s' hq => ?_)
  rcases r with e | fl
  · exact land pinsZ σZ H1 s1 e s' iv1 hq
  · cases fl with
    | ret u => exact iv1.after hq
    | next => exact False.elim hq
    | brk => exact False.elim hq
    | cont => exact False.elim hq
end
end Wl

set_option Elab.async false
set_option linter.all false
set_option maxRecDepth 100000
set_option maxHeartbeats 4000000
/-! told(y), y a lambda's value, in a walk of the def in which the lambda was made -/
namespace Wl
open PySem PySem.Spec L2 PyProof.Rows LamX

section
variable {X : Cx} {pins : List (Addr × Obj)} {σ : L2.St} {H0 : Hp} {s0 : Shared}
/-- the item's reading: one of the lambdas T (parameters, body, scope, what the body does), σ the slots where the walk begins -/
def tItem (cs : List (Str × Addr)) (q : Str) (T : List (Arguments × Expr × Scope × (XK → TE))) (TT : (XK → Hp → VK → Prop) → Hp → VK → Prop) (σ : L2.St) (i : Nat) : TE := fun σ' H' Q =>
  ∃ (f c' : Addr) (l : Arguments × Expr × Scope × (XK → TE)), l ∈ T ∧ σ'[i]? = some (some (.ref f)) ∧ H' c' = some (CodeO c' q) ∧ isLam q l.1 l.2.1 l.2.2.1 cs f c' H' ∧
    TT (fun E H1 Q1 => isLam q l.1 l.2.1 l.2.2.1 cs f c' H1 ∧ l.2.2.2 E σ H1 Q1) H' Q
theorem pe_item {TT : (XK → Hp → VK → Prop) → Hp → VK → Prop} {T : List (Arguments × Expr × Scope × (XK → TE))} {x y a : Str} {g C : Addr} {k i : Nat} {pg : Arguments} {bg : List Stmt} {sg scope : Scope} {dV kV doc pm cdv ct oc : Value} {an od : Option Addr} {osl : Array (Option Value)} {Ng : List Str} {cl : List (Str × Addr)} {fp : List Addr} {p py pos : Pos}
    (iv0 : Inv X pins σ H0 s0) (okFp : ∀ b ∈ fp, FpOk X pins H0 b)
    (hg : Gl (X.blk s0 H0 scope (compEnvC scope cl C X.env) fp) x) (hm : X.mg x = some (.ref g)) (hk : PySem.W.keepIn X.K (.ref g) = true)
    (lk : X.K.lookup g = some ⟨oc, od, .func (PySem.W.fnOf x x pg bg sg dV kV doc pm an cdv ct), osl⟩) (hcg : PySem.W.codeIn X.K cdv x = true) (hb : L2.Binds X.K (PySem.W.fnOf x x pg bg sg dV kV doc pm an cdv ct) [a] []) (Sg : FnScope Ng [a] sg) (hNg : Ng[0]? = some a) (hva : Vis sg a)
    (hG : GivesTo X Ng x sg g cdv bg a (X.env.qual ++ "<lambda>") TT) (hr : Room (k + 2) X.A)
    (hL : ∀ l ∈ T, LamQ X.N X.env.scope l.2.2.1)
    (hbody : ∀ l ∈ T, ∀ (A : Around) (outer : List Env) (s : Shared) (H : Hp) (E : XK) (f c' : Addr), Room k (A.deeper (lamEnv X l.2.2.1 s.heap.objs.size f c')) → PE (lamCx X A outer s H E l.2.2.1 f c') l.2.1 (l.2.2.2 E))
    (hN : X.N[i]? = some y) (hvy : Vis (compEnvC scope cl C X.env).scope y) (hdb : (x == ("__debug__" : Str)) = false := by decide) (hd : (a == ("__debug__" : Str)) = false := by decide) (hcd : (a == ("__classdict__" : Str)) = false := by decide)
    (hdy : (y == ("__debug__" : Str)) = false := by decide) (hcy : (y == ("__classdict__" : Str)) = false := by decide) :
    PE (X.blk s0 H0 scope (compEnvC scope cl C X.env) fp) (.Call (.Name x p) [.Name y py] [] pos) (tItem X.env.cells (X.env.qual ++ "<lambda>") T TT σ i) := by
  refine ⟨fun pinsY sY σY HY Q IY h => ?_⟩
  obtain ⟨f, c', l, hl, hs, hc, hi, htt⟩ := h
  refine wpAny_Call_Name_kw (ld_glob IY hg hm (PySem.W.callWith_K (h₀ := X.base) IY.ok.mod.kin hk ?_ (by rfl) (by rfl)) hdb)
  show wpAny _ _ (spliced ((false, eval (.Name y py) _) :: backTo pos (starEach [] _))) _ _ sY
  refine Calls.spliced_cons (thn ((pe_var (pos := py) (i := i) (X := X.blk s0 H0 scope (compEnvC scope cl C X.env) fp) hN hvy hdy hcy).run pinsY sY σY HY (fun v H1 => v = .ref f ∧ H1 = HY) IY ⟨.ref f, hs, rfl, rfl⟩) fun u s1 got => ?_)
  obtain ⟨v, H1, iv1, r1, ev, eH⟩ := got
  subst ev eH
  obtain rfl : u = Value.ref f := r1
  refine Calls.spliced_nil ⟨iv1.kIn, ?_⟩
  have key : codeAny (model X.prog X.w) X.A (.call (.ref g) ⟨[.ref f], []⟩) (CR C8.CX0 X.stack X.prog X.w H1 s1 Q C8.E0) s1 := by
    refine run_ofS (N := Ng) (ps := [a]) (us := [.ref f]) (vs := [.ref f]) lk hcg Sg hr iv1.env0 (hb s1 [.ref f] iv1.kIn rfl) (.cons rfl .nil) rfl fun room => ?_
    obtain ⟨t', z1, z2⟩ := hG f c' s1 H1 Q (fun E H' Q' => isLam (X.env.qual ++ "<lambda>") l.1 l.2.1 l.2.2.1 X.env.cells f c' H' ∧ l.2.2.2 E σ H' Q')
      (fun W pn xe E p1 p2 tk hW => pe_actQ (i := 0) (ch := fp) iv0 (hL l hl) iv1.base (fun b m => (okFp b m).2.2.2.2.1) tk hW room (fun A outer s H rm => hbody l hl A outer s H E f c' rm) hNg hva hd hcd) hc htt
    exact ⟨t', z1.nox, z2⟩
  refine wpAny_call (codeAny_mono key fun r s2 out => ?_)
  rcases r with e | fl
  · exact (show False from out).elim
  · cases fl with
    | ret u => exact iv1.after out
    | next => exact False.elim out
    | brk => exact False.elim out
    | cont => exact False.elim out
end
end Wl

set_option Elab.async false
set_option linter.all false
set_option maxRecDepth 100000
set_option maxHeartbeats 4000000
/-! [told(y) for y in ys] over deep values, ys a list of lambdas of this def -/
namespace Wl
open PySem PySem.Spec L2 PyProof.Rows LamX

/-- a lambda: its parameters, body and scope, the name that has a default, what its body does -/
structure LamT where
  prs : Arguments
  bd : Expr
  sco : Scope
  nm : Option Str
  t : DXS → DE
def bindB (prs : Arguments) (bd : Expr) (sco : Scope) : Option Str → Prop
  | none => ∀ q cl doc pm cdv ct, bindArgs (PySem.W.kdv_fn "<lambda>" q prs (.expr bd) sco cl .none doc pm cdv ct) ⟨[], []⟩ = pure []
  | some n => sco.names.lookup n = some .local ∧ ∀ q cl dV doc pm cdv ct, ∃ k, bindArgs (PySem.W.kdv_fn "<lambda>" q prs (.expr bd) sco cl dV doc pm cdv ct) ⟨[], []⟩ = seqItems? dV >>= k ∧ ∀ u, k (some #[u]) = pure [(n, u)]
def dfltD : Option Str → Value → Mu → Prop
  | none, dV, _ => dV = .none
  | some _, dV, μ => ∃ (t : Addr) (u : Value), dV = .ref t ∧ μ t = some (.oth (objO t (PySem.W.kdv_tup [u])))
/-- f is a value of the lambda l -/
def isLamD (q : Str) (l : LamT) (cs : List (Str × Addr)) (dV doc pm : Value) (b : Addr) (ctv : Value) (f : Addr) (μ : Mu) : Prop :=
  μ f = some (.fn (lamO q l.prs l.bd l.sco cs dV doc pm b ctv) b q) ∧ dfltD l.nm dV μ
theorem isLamD.down {K : PySem.W.Frag} {I H : Hp} {μ : Mu} {q : Str} {l : LamT} {cs : List (Str × Addr)} {dV doc pm ctv : Value} {b f : Addr} (h : isLamD q l cs dV doc pm b ctv f μ) (S : SatM K I μ H) (hb : bindB l.prs l.bd l.sco l.nm) :
    isLam q l.prs l.bd l.sco cs f b H ∧ H b = some (CodeO b q) := by
  obtain ⟨h1, h2⟩ := h
  obtain ⟨_, h3, h4⟩ := S.mu f _ h1
  refine ⟨?_, S.ex _ _ h4⟩
  obtain ⟨prs, bd, sco, nm, t⟩ := l
  cases nm with
  | none =>
    refine ⟨dV, doc, pm, ctv, [], h3, by simp, fun s1 _ => ?_⟩
    have h2 : dV = .none := h2
    subst h2
    intro M A Q E hq
    rw [hb]
    exact wpAny_pure hq
  | some n =>
    obtain ⟨t0, u, rfl, h5⟩ := h2
    have h6 : H t0 = some (objO t0 (PySem.W.kdv_tup [u])) := (S.mu t0 _ h5).2
    obtain ⟨b1, b2⟩ := hb
    refine ⟨.ref t0, doc, pm, ctv, [(n, u)], h3, fun y hy => ?_, fun s1 known => ?_⟩
    · rw [List.mem_singleton] at hy
      subst hy
      exact b1
    · obtain ⟨k, k1, k2⟩ := b2 q (cloFrom cs sco.names []) (.ref t0) doc pm (.ref b) ctv
      exact BindsTo.of_defaults rfl (known _ _ h6) rfl k1 (k2 u)

def vItem (q : Str) (T : List LamT) (cs : List (Str × Addr)) (tt : DTL → Mu → DV → Prop) (i : Nat) (δ0 : DSt) : DE := fun δ μ Q =>
  ∃ (f : Addr) (l : LamT) (dV doc pm : Value) (b : Addr) (ctv : Value), l ∈ T ∧ δ[i]? = some (some (.ref f)) ∧ isLamD q l cs dV doc pm b ctv f μ ∧
    tt (fun E μ1 Q1 => isLamD q l cs dV doc pm b ctv f μ1 ∧ l.t (fun C d _ μ2 => E C d μ2) δ0 μ1 Q1) μ Q
def vTells (vs : List Nat) (wi : DI) (g : DG) (it : DSt → DE) : DE := fun δ μ Q => vComp vs wi g vYes (it δ) δ μ Q

/-- the same record, seen from a larger part of the heap -/
def Sg.here (S : Sg) (J : Hp) (e : Same S.J J) : Sg := { S with J := J, tr := fun I C d δ μ σ H hJ => S.tr I C d δ μ σ H (e.trans hJ) }
section
variable {S : Sg} {ι : Type} {F : ι → Cx} {pos p py pos1 : Pos}
theorem re_item {tt : DTL → Mu → DV → Prop} {q : Str} {T : List LamT} {cs : List (Str × Addr)} {i : Nat} {I0 : Hp} {δ0 : DSt} {σ0 : L2.St} (hb : ∀ l ∈ T, bindB l.prs l.bd l.sco l.nm) (r0 : RepS S.K I0 δ0 σ0) (hJ0 : S.J = I0) :
    RE S (tItem cs q (T.map fun l => (l.prs, l.bd, l.sco, tBody S.K l.t)) (TTD S.K tt) σ0 i) (vItem q T cs tt i δ0) := by
  intro I δ μ σ H hJ SM hS Q Q' h u
  obtain ⟨f, l, dV, doc, pm, b, ctv, hl, hs, hi, htt⟩ := h
  obtain ⟨w', r1, r2⟩ := hS.at_ i _ hs
  cases r2
  obtain ⟨a1, a2⟩ := hi.down SM (hb l hl)
  refine ⟨f, b, _, List.mem_map_of_mem hl, r1, a2, a1, I, μ, Q, _, SM, ?_, htt, u⟩
  intro I2 μ2 H2 E E' Q2 Q2' e2 S2 h2 ux up
  obtain ⟨h3, h4⟩ := h2
  subst hJ0
  exact ⟨(h3.down S2 (hb l hl)).1, I2, δ0, μ2, E, Q2, S2, r0.mono (hJ.trans e2), h4, ux, up⟩
theorem RI.at_ {wi : TI} {t : DI} {J : Hp} (h : RI S wi t) (e : Same S.J J) : RI (S.here J e) wi t := fun I δ μ σ H hJ SM hS => h I δ μ σ H (e.trans hJ) SM hS
theorem RGv.at_ {vs : List Nat} {g : TG} {t : DG} {J : Hp} (h : RGv S.blk vs g t) (e : Same S.J J) : RGv (S.here J e).blk vs g t := fun I δ μ σ H d v hJ SM hS => h I δ μ σ H d v (e.trans hJ) SM hS
theorem we_tells {it : DSt → DE} {x y q : Str} {tt : DTL → Mu → DV → Prop} {T : List LamT} {cs : List (Str × Addr)} {k i : Nat} {iter : Expr} {scope : Scope} {own : List (Str × Nat)} {wi : DI} {g : DG} {pt : Pos} (hit : ∀ δ0 δ μ Q, it δ0 δ μ Q → vItem q T cs tt i δ0 δ μ Q) (TD : TellD S.P S.w S.K S.mg S.base x tt) (hk : k + 2 ≤ S.k)
    (hN : S.N.Nodup) (hi : WI S F (.Name y pt) iter wi) (ok : ∀ j, BlkOk S.N (F j).env.scope scope own) (hg : WGv S.blk (blkF F scope) (own.map (·.2)) (.Name y pt) g)
    (hcs : ∀ j, (F j).env.cells = cs) (hq : ∀ j, (F j).env.qual ++ "<lambda>" = q) (hb : ∀ l ∈ T, bindB l.prs l.bd l.sco l.nm) (hL : ∀ l ∈ T, ∀ j, LamQ S.N (F j).env.scope l.sco)
    (body : ∀ l ∈ T, ∀ (E : XK) (J : Hp) (E2 : DXS) tr, WE ⟨S.P, S.w, S.K, S.mg, S.base, k, S.N, J, fun cls d _ H => E cls d H, E2, tr, false⟩ (fun j : ι × Around × List Env × Shared × Hp × Addr × Addr => lamCx (F j.1) j.2.1 j.2.2.1 j.2.2.2.1 j.2.2.2.2.1 E l.sco j.2.2.2.2.2.1 j.2.2.2.2.2.2) l.bd (l.t E2))
    (hN2 : S.N[i]? = some y) (hvy : ∀ j cl C, Vis (compEnvC scope cl C (F j).env).scope y) (hgl : ∀ j s H cl C fp, Gl ((F j).blk s H scope (compEnvC scope cl C (F j).env) fp) x)
    (hs : ∀ env, ∀ z, foldedSetIterable iter env z = pure z := by exact fun _ _ => rfl) (hcold : S.cold = false := by rfl)
    (hdb : (x == ("__debug__" : Str)) = false := by decide) (hdy : (y == ("__debug__" : Str)) = false := by decide) (hcy : (y == ("__classdict__" : Str)) = false := by decide) :
    WE S F (.ListComp (.Call (.Name x p) [.Name y py] [] pos1) [⟨.Name y pt, iter, [], 0⟩] scope pos) (vTells (own.map (·.2)) wi g it) := by
  obtain ⟨ti, i1, i2⟩ := hi
  obtain ⟨tg, g1, g2⟩ := hg
  refine ⟨fun σ H Q => tLc ti tg tYes (tItem cs q (T.map fun l => (l.prs, l.bd, l.sco, tBody S.K l.t)) (TTD S.K tt) σ i) (own.map (·.2)) σ H Q, fun j hj => ⟨fun pins s σ H Q iv h => ?_⟩, fun I δ μ σ H hJ SM hS Q Q' h u => ?_⟩
  · obtain ⟨P0, w, K, mg, base, kk, N, J, W, E2, tr, cold⟩ := S
    have is := hj
    obtain ⟨h1, h2, h3, h4, h5, h6, h7, h8, h9, h10, h11⟩ := id hj
    have r8 := h8 hcold
    have r7 := h7 hcold
    dsimp only at h1 h2 h3 h4 h5 h6 r8 h9 TD hk body hN2 hN ok hL h ⊢
    subst h1 h2 h3 h4 h5 h6
    obtain ⟨gA, pg, bg, sg, dV, kV, doc, pm, cdv, ct, oc, an, od, osl, Ng, a, m1, m2, m3, m4, m5, m6, m7, m8, m9, m10, m11⟩ := TD.ex
    have give := m11 (F j) q rfl rfl rfl rfl rfl (by have := r8.un; omega)
    have ec := hcs j
    have eq := hq j
    subst ec eq
    refine near_core r7 hN iv (i1 j is) (ok j) (fun s H C cl fp => g1 (j, s, H, C, cl, fp) (is.blk s H scope _ fp)) (fun s1 H1 C cl fp iv1 okf => ?_) (hs _) h
    refine pe_item (k := k) iv1 okf (hgl j s1 H1 cl C fp) m1 m2 m3 m4 m5 m6 m7 m8 give (r8.mono hk) (fun l hl => ?_) (fun l hl A outer s H E f c' rm => ?_) hN2 (hvy j cl C) hdb m9 m10 hdy hcy
    · obtain ⟨l0, hl0, rfl⟩ := List.mem_map.mp hl
      exact hL l0 hl0 j
    · obtain ⟨l0, hl0, rfl⟩ := List.mem_map.mp hl
      refine ⟨fun pins s2 σ2 H2 Q2 iv2 h => ?_⟩
      obtain ⟨I2, δ2, μ2, ED, QD2, SM2, RS2, b1, b2, b3⟩ := h
      obtain ⟨te, x1, x2⟩ := body l0 hl0 E I2 (fun C d _ μ => ED C d μ) (fun I' C d δ' μ' σ' H' e' S' R' q' => b2 I' C d μ' H' e' S' q')
      exact (x1 (j, A, outer, s, H, f, c') ⟨rfl, rfl, rfl, rfl, rfl, rfl, fun _ => rfl, fun _ => rm, takes_of rfl rfl rfl rfl, passes_of rfl, rm.units⟩).run pins s2 σ2 H2 Q2 iv2 (x2 I2 δ2 μ2 σ2 H2 (Same.refl I2) SM2 RS2 QD2 Q2 b1 b3)
  · have key := re_comp (S := S.here I hJ) (i2.at_ hJ) (g2.at_ hJ) (b2 := (fun I δ μ σ H hJ SM hS Q Q' q u => u I true μ H (Same.refl I) SM q : RT ((S.here I hJ).blk) tYes vYes))
      (te := it δ) (fun I2 δ2 μ2 σ2 H2 hJ2 S2 R2 Q2 Q2' q2 u2 => re_item (S := (S.here I hJ).blk) (tt := tt) (q := q) (cs := cs) (i := i) hb hS rfl I2 δ2 μ2 σ2 H2 hJ2 S2 R2 Q2 Q2' (hit _ _ _ _ q2) u2)
    exact key I δ μ σ H (Same.refl I) SM hS Q Q' h u
end
end Wl

set_option Elab.async false
set_option linter.all false
set_option maxRecDepth 100000
set_option maxHeartbeats 4000000
/-! a lambda as an expression over deep values; defs whose reading rests on their cells -/
namespace Wl
open PySem PySem.Spec L2 PyProof.Rows LamX

def grown (μ μ1 : Mu) : Prop := μ1 = μ ∨ ∃ (t : Addr) (o : HO), μ t = none ∧ μ1 = mset μ t (.oth o)
def vLamV (P : Addr) (q : Str) (l : LamT) (cs : List (Str × Addr)) : DE := fun _ μ Q => μ P = some (.tab q) ∧
  ∀ (μ1 : Mu) (f b : Addr) (dV doc pm ctv : Value), grown μ μ1 → μ1 f = none → dfltD l.nm dV μ1 → Q (.ref f) (mset μ1 f (.fn (lamO q l.prs l.bd l.sco cs dV doc pm b ctv) b q))
def tLamV (K : PySem.W.Frag) (P : Addr) (q : Str) (l : LamT) (cs : List (Str × Addr)) : TE := fun σ H Q =>
  ∃ I δ μ QD, SatM K I μ H ∧ RepS K I δ σ ∧ vLamV P q l cs δ μ QD ∧ Up K I QD Q
section
variable {S : Sg} {ι : Type} {F : ι → Cx} {pos : Pos}
theorem we_lam0 {q : Str} {c P : Addr} {prs : Arguments} {bd : Expr} {sco : Scope} {t : DXS → DE} {cs : List (Str × Addr)} (tb : TabB S.base S.mg c P) (hcs : ∀ j, (F j).env.cells = cs) (hc0 : ∀ i, (F i).env.code = .ref c := by exact fun _ => rfl)
    (hq : ∀ i, (F i).env.qual ++ "<lambda>" = q := by exact fun _ => rfl) (hL : ∀ i, LamQ S.N (F i).env.scope sco) (hdef : ∀ env : Env, defaultsOf prs env = ([], []) := by exact fun _ => rfl) :
    WE S F (.Lambda prs bd sco pos) (vLamV P q ⟨prs, bd, sco, none, t⟩ cs) := by
  refine ⟨tLamV S.K P q ⟨prs, bd, sco, none, t⟩ cs, fun i hi => ⟨fun pins s σ H Q iv h => ?_⟩, fun I δ μ σ H hJ SM hS Q Q' h u => ⟨I, δ, μ, Q, SM, hS, h, u⟩⟩
  obtain ⟨I, δ, μ, QD, SM, RS, ⟨hP, next⟩, up⟩ := h
  obtain ⟨_, tbl, t1, t2, t3⟩ := SM.mu P _ hP
  have iq := hq i
  have ic := hcs i
  subst iq ic
  have iN := hi.N
  refine lam_val0 iv (by rw [hi.base, hi.mg]; exact tb) (hc0 i) t1 t2 (fun at_ v e => let ⟨b, e1, e2⟩ := t3 at_ v e; ⟨b, e1, SM.ex _ _ e2⟩) (hdef _) (LamQ.has (X := F i) (by rw [iN]; exact hL i) iv.ok) fun f b pm ctv doc H1 s' md nf iv1 => ?_
  obtain ⟨I1, e1, S1, cI⟩ := SM.made hP t1 md
  have S2 := S1.setM (p := f) (m := .fn (lamO ((F i).env.qual ++ "<lambda>") prs bd sco (F i).env.cells .none doc pm b ctv) b ((F i).env.qual ++ "<lambda>")) (S1.ex.free nf) (o := objO f (lamO ((F i).env.qual ++ "<lambda>") prs bd sco (F i).env.cells .none doc pm b ctv)) ⟨upd_same, cI⟩
  exact ⟨.ref f, _, iv1, rfl, up I1 (.ref f) (.ref f) _ _ e1 S2 (.ref f) (next μ f b .none doc pm ctv (.inl rfl) (S1.muNone nf) rfl)⟩
theorem we_lam1 {q n : Str} {c P : Addr} {prs : Arguments} {bd e0 : Expr} {v0 : V} {sco : Scope} {t : DXS → DE} {cs : List (Str × Addr)} (tb : TabB S.base S.mg c P) (hcs : ∀ j, (F j).env.cells = cs) (hp0 : ∀ i, PE (F i) e0 (tC v0)) (hc0 : ∀ i, (F i).env.code = .ref c := by exact fun _ => rfl)
    (hq : ∀ i, (F i).env.qual ++ "<lambda>" = q := by exact fun _ => rfl) (hL : ∀ i, LamQ S.N (F i).env.scope sco) (hd1 : prs.defaults = [e0] := by rfl) (hk0 : prs.kw_defaults = [] := by rfl) :
    WE S F (.Lambda prs bd sco pos) (vLamV P q ⟨prs, bd, sco, some n, t⟩ cs) := by
  refine ⟨tLamV S.K P q ⟨prs, bd, sco, some n, t⟩ cs, fun i hi => ⟨fun pins s σ H Q iv h => ?_⟩, fun I δ μ σ H hJ SM hS Q Q' h u => ⟨I, δ, μ, Q, SM, hS, h, u⟩⟩
  obtain ⟨I, δ, μ, QD, SM, RS, ⟨hP, next⟩, up⟩ := h
  obtain ⟨_, tbl, t1, t2, t3⟩ := SM.mu P _ hP
  have iq := hq i
  have ic := hcs i
  subst iq ic
  have iN := hi.N
  refine lam_val1 iv (by rw [hi.base, hi.mg]; exact tb) (hc0 i) t1 t2 (fun at_ v e => let ⟨b, e1, e2⟩ := t3 at_ v e; ⟨b, e1, SM.ex _ _ e2⟩) hd1 hk0 (hp0 i) (LamQ.has (X := F i) (by rw [iN]; exact hL i) iv.ok) fun d f b u pm ctv doc H1 s' ru nd md nf iv1 => ?_
  have nPd : P ≠ d := ne_of_none t1 nd
  have St := SM.setM (p := d) (m := .oth (objO d (PySem.W.kdv_tup [u]))) (o := objO d (PySem.W.kdv_tup [u])) (SM.ex.free nd) upd_same
  have hPt : mset μ d (.oth (objO d (PySem.W.kdv_tup [u]))) P = some (.tab ((F i).env.qual ++ "<lambda>")) := by rw [mset_ne nPd]; exact hP
  obtain ⟨I1, e1, S1, cI⟩ := St.made hPt (by rw [upd_ne nPd]; exact t1) md
  have S2 := S1.setM (p := f) (m := .fn (lamO ((F i).env.qual ++ "<lambda>") prs bd sco (F i).env.cells (.ref d) doc pm b ctv) b ((F i).env.qual ++ "<lambda>")) (S1.ex.free nf) (o := objO f (lamO ((F i).env.qual ++ "<lambda>") prs bd sco (F i).env.cells (.ref d) doc pm b ctv)) ⟨upd_same, cI⟩
  exact ⟨.ref f, _, iv1, rfl, up I1 (.ref f) (.ref f) _ _ e1 S2 (.ref f) (next _ f b (.ref d) doc pm ctv (.inr ⟨d, _, SM.muNone nd, rfl⟩) (S1.muNone nf) ⟨d, u, rfl, mset_same⟩)⟩
end
/-- a def whose reading rests on where its cells lie -/
theorem ok_defN {P : Program} {w : World} {K : PySem.W.Frag} {mg : Str → Option Value} {base : Heap} {x qual : Str} {st : Stmt} {f : Addr} {fd : FuncData} {N ps : List Str} {k : Nat} {sp : Sp2} (Fn : Fun K x qual st f fd) (Sc : FnScope N ps (defScope st))
    (t : List (Str × Addr) → DXS → DS) (hsp : ∀ ds μ Q E, sp ds μ Q E → ds.length = ps.length ∧ ∀ cs, t cs (fun C d _ μ => E C d μ) { nx := fun _ μ' => Q .non μ', rt := Q } (dstart N ds) μ)
    (body : ∀ (cdv : Value) (A : Around) (outer : List Env) (s : Shared) (H : Hp) (E : XK) (J : Hp) (W : WX) (E2 : DXS) tr,
      WSs ⟨P, w, K, mg, base, k, N, J, W, E2, tr, false⟩ (fun _ : Unit => cxOf (L2.CX P w) P w K mg base N qual (defScope st) f cdv A outer s H E) (defBody st) (t (cxOf (L2.CX P w) P w K mg base N qual (defScope st) f cdv A outer s H E).env.cells E2)) :
    Ok P w K mg base (k + 1) f fd ps sp := by
  refine Fn.okX Sc (fun vs H Q E h => ?_) (fun cdv A outer s H vs Q E hr h => ?_)
  · obtain ⟨I, ds, μ, Q2, E2, _, r, h, _⟩ := h
    rw [← r.length]
    exact (hsp ds μ Q2 E2 h).1
  · obtain ⟨I, ds, μ, Q2, E2, SM, r, h, u, ux⟩ := h
    obtain ⟨ts, h1, h2⟩ := body cdv A outer s H E I (fun cls d _ H => E cls d H) (fun C d _ μ => E2 C d μ) (fun I' C d δ μ' σ H' e' S' R' q' => ux I' C d μ' H' e' S' q')
    refine ⟨ts, h1 () ⟨rfl, rfl, rfl, rfl, rfl, rfl, fun _ => rfl, fun _ => hr, takes_of rfl rfl rfl rfl, passes_of rfl, hr.units⟩, ?_⟩
    refine h2 I _ μ _ H (Same.refl I) SM (r.start N) _ _ ((hsp ds μ Q2 E2 h).2 _) ⟨?_, u, ?_, ?_⟩
    · exact fun I' δ' σ' μ' H' e' S' R' q' => u I' .non .non μ' H' e' S' .non q'
    · exact fun _ _ _ _ _ _ _ _ q' => q'.elim
    · exact fun _ _ _ _ _ _ _ _ q' => q'.elim
end Wl

set_option Elab.async false
set_option linter.all false
set_option maxRecDepth 100000
set_option maxHeartbeats 4000000
/-! told(e) where the lambda was made, e any expression that gives such a value -/
namespace Wl
open PySem PySem.Spec L2 PyProof.Rows LamX

section
variable {X : Cx}
def tGot (cs : List (Str × Addr)) (q : Str) (T : List (Arguments × Expr × Scope × (XK → TE))) (TT : (XK → Hp → VK → Prop) → Hp → VK → Prop) (te : TE) : TE := fun σ H Q => te σ H fun v H' =>
  ∃ (f c' : Addr) (l : Arguments × Expr × Scope × (XK → TE)), l ∈ T ∧ v = .ref f ∧ H' c' = some (CodeO c' q) ∧ isLam q l.1 l.2.1 l.2.2.1 cs f c' H' ∧
    TT (fun E H1 Q1 => isLam q l.1 l.2.1 l.2.2.1 cs f c' H1 ∧ l.2.2.2 E σ H1 Q1) H' Q
theorem pe_told {TT : (XK → Hp → VK → Prop) → Hp → VK → Prop} {T : List (Arguments × Expr × Scope × (XK → TE))} {te : TE} {e : Expr} {x a : Str} {g : Addr} {k : Nat} {pg : Arguments} {bg : List Stmt} {sg : Scope} {dV kV doc pm cdv ct oc : Value} {an od : Option Addr} {osl : Array (Option Value)} {Ng : List Str} {p pos : Pos}
    (arg : PE X e te) (hg : Gl X x) (hm : X.mg x = some (.ref g)) (hk : PySem.W.keepIn X.K (.ref g) = true)
    (lk : X.K.lookup g = some ⟨oc, od, .func (PySem.W.fnOf x x pg bg sg dV kV doc pm an cdv ct), osl⟩) (hcg : PySem.W.codeIn X.K cdv x = true) (hb : L2.Binds X.K (PySem.W.fnOf x x pg bg sg dV kV doc pm an cdv ct) [a] []) (Sg : FnScope Ng [a] sg) (hNg : Ng[0]? = some a) (hva : Vis sg a)
    (hG : GivesTo X Ng x sg g cdv bg a (X.env.qual ++ "<lambda>") TT) (hr : Room (k + 2) X.A)
    (hL : ∀ l ∈ T, LamQ X.N X.env.scope l.2.2.1)
    (hbody : ∀ l ∈ T, ∀ (A : Around) (outer : List Env) (s : Shared) (H : Hp) (E : XK) (f c' : Addr), Room k (A.deeper (lamEnv X l.2.2.1 s.heap.objs.size f c')) → PE (lamCx X A outer s H E l.2.2.1 f c') l.2.1 (l.2.2.2 E))
    (hst : starEach [e] X.env = (false, eval e X.env) :: starEach [] X.env) (hpl : (backTo pos (starEach [] X.env)).any (·.1) = false)
    (hdb : (x == ("__debug__" : Str)) = false := by decide) (hd : (a == ("__debug__" : Str)) = false := by decide) (hcd : (a == ("__classdict__" : Str)) = false := by decide) :
    PE X (.Call (.Name x p) [e] [] pos) (tGot X.env.cells (X.env.qual ++ "<lambda>") T TT te) := by
  refine ⟨fun pins s σ H Q iv h => ?_⟩
  refine wpAny_Call_Name_kw (ld_glob iv hg hm (PySem.W.callWith_K (h₀ := X.base) iv.ok.mod.kin hk ?_ hst hpl) hdb)
  rw [hst]
  refine Calls.spliced_cons (thn (arg.run pins s σ H _ iv h) fun u s1 got => ?_)
  obtain ⟨v, H1, iv1, r1, f, c', l, hl, ev, hc, hi, htt⟩ := got
  subst ev
  obtain rfl : u = Value.ref f := r1
  refine Calls.spliced_nil ⟨iv1.kIn, ?_⟩
  have key : codeAny (model X.prog X.w) X.A (.call (.ref g) ⟨[.ref f], []⟩) (CR C8.CX0 X.stack X.prog X.w H1 s1 Q C8.E0) s1 := by
    refine run_ofS (N := Ng) (ps := [a]) (us := [.ref f]) (vs := [.ref f]) lk hcg Sg hr iv1.env0 (hb s1 [.ref f] iv1.kIn rfl) (.cons rfl .nil) rfl fun room => ?_
    obtain ⟨t', z1, z2⟩ := hG f c' s1 H1 Q (fun E H' Q' => isLam (X.env.qual ++ "<lambda>") l.1 l.2.1 l.2.2.1 X.env.cells f c' H' ∧ l.2.2.2 E σ H' Q')
      (fun W pn xe E p1 p2 tk hW => pe_actQ (i := 0) (ch := []) iv1 (hL l hl) Un.refl (fun b m => absurd m (by simp)) tk hW room (fun A outer s H rm => hbody l hl A outer s H E f c' rm) hNg hva hd hcd) hc htt
    exact ⟨t', z1.nox, z2⟩
  refine wpAny_call (codeAny_mono key fun r s2 out => ?_)
  rcases r with e | fl
  · exact (show False from out).elim
  · cases fl with
    | ret u => exact iv1.after out
    | next => exact False.elim out
    | brk => exact False.elim out
    | cont => exact False.elim out
end

/-- told(e): d is a value of one of the lambdas T -/
def vGot (q : Str) (T : List LamT) (cs : List (Str × Addr)) (tt : DTL → Mu → DV → Prop) (t : DE) : DE := fun δ μ Q => t δ μ fun d μ2 =>
  ∃ (f : Addr) (l : LamT) (dV doc pm : Value) (b : Addr) (ctv : Value), l ∈ T ∧ d = .ref f ∧ isLamD q l cs dV doc pm b ctv f μ2 ∧
    tt (fun E μ1 Q1 => isLamD q l cs dV doc pm b ctv f μ1 ∧ l.t (fun C d _ μ2 => E C d μ2) δ μ1 Q1) μ2 Q
section
variable {S : Sg} {ι : Type} {F : ι → Cx} {pos p : Pos}
theorem we_told {x q : Str} {tt : DTL → Mu → DV → Prop} {T : List LamT} {cs : List (Str × Addr)} {k : Nat} {e : Expr} {t : DE} (TD : TellD S.P S.w S.K S.mg S.base x tt) (hk : k + 2 ≤ S.k) (arg : WE S F e t)
    (hcs : ∀ j, (F j).env.cells = cs) (hq : ∀ j, (F j).env.qual ++ "<lambda>" = q) (hb : ∀ l ∈ T, bindB l.prs l.bd l.sco l.nm) (hL : ∀ l ∈ T, ∀ j, LamQ S.N (F j).env.scope l.sco)
    (body : ∀ l ∈ T, ∀ (E : XK) (J : Hp) (E2 : DXS) tr, WE ⟨S.P, S.w, S.K, S.mg, S.base, k, S.N, J, fun cls d _ H => E cls d H, E2, tr, false⟩ (fun j : ι × Around × List Env × Shared × Hp × Addr × Addr => lamCx (F j.1) j.2.1 j.2.2.1 j.2.2.2.1 j.2.2.2.2.1 E l.sco j.2.2.2.2.2.1 j.2.2.2.2.2.2) l.bd (l.t E2))
    (hgl : ∀ j, Gl (F j) x := by exact fun _ => rfl) (hdb : (x == ("__debug__" : Str)) = false := by decide) (hcold : S.cold = false := by rfl)
    (hst : ∀ env : Env, starEach [e] env = (false, eval e env) :: starEach [] env := by exact fun _ => rfl) (hpl : ∀ env : Env, (backTo pos (starEach [] env)).any (·.1) = false := by exact fun _ => rfl) :
    WE S F (.Call (.Name x p) [e] [] pos) (vGot q T cs tt t) := by
  obtain ⟨te, a1, a2⟩ := arg
  refine ⟨tGot cs q (T.map fun l => (l.prs, l.bd, l.sco, tBody S.K l.t)) (TTD S.K tt) te, fun j hj => ?_, fun I δ μ σ H hJ SM hS Q Q' h u => ?_⟩
  · have ae := a1 j hj
    obtain ⟨P0, w, K, mg, base, kk, N, J, W, E2, tr, cold⟩ := S
    obtain ⟨h1, h2, h3, h4, h5, h6, h7, h8, h9, h10, h11⟩ := id hj
    have r8 := h8 hcold
    dsimp only at h1 h2 h3 h4 h5 h6 r8 h9 TD hk body hL ⊢
    subst h1 h2 h3 h4 h5 h6
    obtain ⟨gA, pg, bg, sg, dV, kV, doc, pm, cdv, ct, oc, an, od, osl, Ng, a, m1, m2, m3, m4, m5, m6, m7, m8, m9, m10, m11⟩ := TD.ex
    have give := m11 (F j) q rfl rfl rfl rfl rfl (by have := r8.un; omega)
    have ec := hcs j
    have eq := hq j
    subst ec eq
    refine pe_told (k := k) ae (hgl j) m1 m2 m3 m4 m5 m6 m7 m8 give (r8.mono hk) (fun l hl => ?_) (fun l hl A outer s H E f c' rm => ?_) (hst _) (hpl _) hdb m9 m10
    · obtain ⟨l0, hl0, rfl⟩ := List.mem_map.mp hl
      exact hL l0 hl0 j
    · obtain ⟨l0, hl0, rfl⟩ := List.mem_map.mp hl
      refine ⟨fun pins s2 σ2 H2 Q2 iv2 h => ?_⟩
      obtain ⟨I2, δ2, μ2, ED, QD2, SM2, RS2, b1, b2, b3⟩ := h
      obtain ⟨te, x1, x2⟩ := body l0 hl0 E I2 (fun C d _ μ => ED C d μ) (fun I' C d δ' μ' σ' H' e' S' R' q' => b2 I' C d μ' H' e' S' q')
      exact (x1 (j, A, outer, s, H, f, c') ⟨rfl, rfl, rfl, rfl, rfl, rfl, fun _ => rfl, fun _ => rm, takes_of rfl rfl rfl rfl, passes_of rfl, rm.units⟩).run pins s2 σ2 H2 Q2 iv2 (x2 I2 δ2 μ2 σ2 H2 (Same.refl I2) SM2 RS2 QD2 Q2 b1 b3)
  · refine a2 I δ μ σ H hJ SM hS _ _ h fun I' d v μ' H' e' S' rd q' => ?_
    obtain ⟨f, l, dV, doc, pm, b, ctv, hl, ed, hi, htt⟩ := q'
    subst ed
    cases rd
    obtain ⟨b1, b2⟩ := hi.down S' (hb l hl)
    refine ⟨f, b, _, List.mem_map_of_mem hl, rfl, b2, b1, I', μ', Q, _, S', ?_, htt, fun I2 d2 v2 μ2 H2 e2 => u I2 d2 v2 μ2 H2 (e'.trans e2)⟩
    intro I2 μ2 H2 E E' Q2 Q2' e2 S2 h2 ux up
    exact ⟨(h2.1.down S2 (hb l hl)).1, I2, δ, μ2, E, Q2, S2, hS.mono (e'.trans e2), h2.2, ux, up⟩
end
section
variable {P : Program} {w : World} {K : PySem.W.Frag} {mg : Str → Option Value} {base : Heap}
/-- such a def whose code object is known -/
theorem ok_defCN {x qual : Str} {st : Stmt} {f cod : Addr} {N ps : List Str} {k : Nat} {sp : Sp2} {oc kV doc pm ct : Value} {od an : Option Addr} {osl : Array (Option Value)}
    (lk : K.lookup f = some ⟨oc, od, .func (PySem.W.fnOf x qual (defArgs st) (defBody st) (defScope st) .none kV doc pm an (.ref cod) ct), osl⟩) (hcd : PySem.W.codeIn K (.ref cod) qual = true) (Sc : FnScope N ps (defScope st))
    (t : List (Str × Addr) → DXS → DS) (hsp : ∀ ds μ Q E, sp ds μ Q E → ds.length = ps.length ∧ ∀ cs, t cs (fun C d _ μ => E C d μ) { nx := fun _ μ' => Q .non μ', rt := Q } (dstart N ds) μ)
    (body : ∀ (A : Around) (outer : List Env) (s : Shared) (H : Hp) (E : XK) (J : Hp) (W : WX) (E2 : DXS) tr, WSs ⟨P, w, K, mg, base, k, N, J, W, E2, tr, false⟩ (fun _ : Unit => cxOf (L2.CX P w) P w K mg base N qual (defScope st) f (.ref cod) A outer s H E) (defBody st)
      (t (cxOf (L2.CX P w) P w K mg base N qual (defScope st) f (.ref cod) A outer s H E).env.cells E2)) :
    Ok P w K mg base (k + 1) f (PySem.W.fnOf x qual (defArgs st) (defBody st) (defScope st) .none kV doc pm an (.ref cod) ct) ps sp := by
  refine L2.fn_of lk hcd Sc (fun vs H Q E h => ?_) (fun A outer s H vs Q E hr h => ?_)
  · obtain ⟨I, ds, μ, Q2, E2, _, r, h, _⟩ := h
    rw [← r.length]
    exact (hsp ds μ Q2 E2 h).1
  · obtain ⟨I, ds, μ, Q2, E2, SM, r, h, u, ux⟩ := h
    obtain ⟨ts, h1, h2⟩ := body A outer s H E I (fun cls d _ H => E cls d H) (fun C d _ μ => E2 C d μ) (fun I' C d δ μ' σ H' e' S' R' q' => ux I' C d μ' H' e' S' q')
    refine ⟨ts, h1 () ⟨rfl, rfl, rfl, rfl, rfl, rfl, fun _ => rfl, fun _ => hr, takes_of rfl rfl rfl rfl, passes_of rfl, hr.units⟩, ?_⟩
    refine h2 I _ μ _ H (Same.refl I) SM (r.start N) _ _ ((hsp ds μ Q2 E2 h).2 _) ⟨?_, u, ?_, ?_⟩
    · exact fun I' δ' σ' μ' H' e' S' R' q' => u I' .non .non μ' H' e' S' .non q'
    · exact fun _ _ _ _ _ _ _ _ q' => q'.elim
    · exact fun _ _ _ _ _ _ _ _ q' => q'.elim
end
end Wl

set_option Elab.async false
set_option linter.all false
set_option maxRecDepth 100000
set_option maxHeartbeats 4000000
/-! the same for readings that know no program text: lambdas by their numbers -/
namespace Wl
open PySem PySem.Spec L2 PyProof.Rows LamX

/-- which values are those of lambda n -/
structure LamA where
  is : Nat → Addr → Mu → Prop
  keep : ∀ n f μ μ', is n f μ → μ' f = μ f → (∀ a o, μ a = some (.oth o) → μ' a = some (.oth o)) → is n f μ'
theorem dfltD.keep {nm : Option Str} {dV : Value} {μ μ' : Mu} (h : dfltD nm dV μ) (k : ∀ a o, μ a = some (.oth o) → μ' a = some (.oth o)) : dfltD nm dV μ' := by
  cases nm with
  | none => exact h
  | some n =>
    obtain ⟨t, u, e1, e2⟩ := h
    exact ⟨t, u, e1, k _ _ e2⟩
def lamA (q : Str) (T : List LamT) (cs : List (Str × Addr)) : LamA where
  is n f μ := ∃ l dV doc pm b ctv, T[n]? = some l ∧ isLamD q l cs dV doc pm b ctv f μ
  keep n f μ μ' h e k := by
    obtain ⟨l, dV, doc, pm, b, ctv, h1, h2, h3⟩ := h
    exact ⟨l, dV, doc, pm, b, ctv, h1, e.trans h2, h3.keep k⟩
def vLamA (P : Addr) (q : Str) (A : LamA) (n : Nat) : DE := fun _ μ Q => μ P = some (.tab q) ∧ ∀ (μ1 : Mu) (f : Addr) (m : Mo), grown μ μ1 → μ1 f = none → A.is n f (mset μ1 f m) → Q (.ref f) (mset μ1 f m)
/-- the call itself within told: the value is as it was, the body does t -/
def tdA (A : LamA) (n : Nat) (f : Addr) (μ : Mu) (t : DXS → DE) (δ0 : DSt) : DTL := fun E μ1 Q1 => μ1 f = μ f ∧ A.is n f μ1 ∧ t (fun C d _ μ2 => E C d μ2) δ0 μ1 Q1
def vItemA (A : LamA) (ts : List (DXS → DE)) (tt : DTL → Mu → DV → Prop) (i : Nat) (δ0 : DSt) : DE := fun δ μ Q =>
  ∃ (f : Addr) (n : Nat) (t : DXS → DE), ts[n]? = some t ∧ δ[i]? = some (some (.ref f)) ∧ A.is n f μ ∧ tt (tdA A n f μ t δ0) μ Q
def vGotA (A : LamA) (ts : List (DXS → DE)) (tt : DTL → Mu → DV → Prop) (t0 : DE) : DE := fun δ μ Q => t0 δ μ fun d μ2 =>
  ∃ (f : Addr) (n : Nat) (t : DXS → DE), ts[n]? = some t ∧ d = .ref f ∧ A.is n f μ2 ∧ tt (tdA A n f μ2 t δ) μ2 Q
/-- what told makes of the call grows with it -/
def TtMono (tt : DTL → Mu → DV → Prop) : Prop := ∀ td td' μ Q, (∀ E μ1 Q1, td E μ1 Q1 → td' E μ1 Q1) → tt td μ Q → tt td' μ Q
theorem ttR_mono {isx : Addr → Str → Option Bool} {cs : Str} {n i : Nat} {ts : Addr → Addr → Option Addr → DS} : TtMono (ttR isx cs n i ts) := fun _ _ _ _ h a => h _ _ _ a
theorem ttT_mono {isx : Addr → Str → Option Bool} {cs : Str} {n i : Nat} {ts : Addr → Addr → Option Addr → DS} : TtMono (ttT isx cs n i ts) := fun _ _ _ _ h a => h _ _ _ a
theorem lam_same {q : Str} {l l' : LamT} {cs : List (Str × Addr)} {dV dV' doc doc' pm pm' ctv ctv' : Value} {b b' f : Addr} {μ μ1 : Mu} (h : isLamD q l cs dV doc pm b ctv f μ) (h' : isLamD q l' cs dV' doc' pm' b' ctv' f μ1) (el : l' = l) (e : μ1 f = μ f) :
    isLamD q l cs dV doc pm b ctv f μ1 := by
  subst el
  obtain ⟨h1, h2⟩ := h
  obtain ⟨h3, h4⟩ := h'
  have z := h3.symm.trans (e.trans h1)
  simp only [Option.some.injEq, Mo.fn.injEq, lamO, PySem.W.kdv_obj, PySem.W.kdv_fn, Obj.mk.injEq, Data.func.injEq, FuncData.mk.injEq] at z
  have ed : dV' = dV := by simp_all
  subst ed
  exact ⟨e.trans h1, h4⟩
theorem tdA.down {q : Str} {T : List LamT} {cs : List (Str × Addr)} {n : Nat} {f : Addr} {μ : Mu} {l : LamT} {dV doc pm ctv : Value} {b : Addr} {δ0 : DSt} (hl : T[n]? = some l) (hi : isLamD q l cs dV doc pm b ctv f μ) :
    ∀ E μ1 Q1, tdA (lamA q T cs) n f μ l.t δ0 E μ1 Q1 → isLamD q l cs dV doc pm b ctv f μ1 ∧ l.t (fun C d _ μ2 => E C d μ2) δ0 μ1 Q1 := by
  intro E μ1 Q1 h
  obtain ⟨h1, ⟨l', dV', doc', pm', b', ctv', h2, h3⟩, h4⟩ := h
  exact ⟨lam_same hi h3 (Option.some.inj (h2.symm.trans hl)) h1, h4⟩
theorem vItemA.down {q : Str} {T : List LamT} {cs : List (Str × Addr)} {tt : DTL → Mu → DV → Prop} {i : Nat} {δ0 δ : DSt} {μ : Mu} {Q : DV} (mono : TtMono tt) (h : vItemA (lamA q T cs) (T.map (·.t)) tt i δ0 δ μ Q) : vItem q T cs tt i δ0 δ μ Q := by
  obtain ⟨f, n, t, h1, h2, ⟨l, dV, doc, pm, b, ctv, h3, h4⟩, h5⟩ := h
  rw [List.getElem?_map, h3] at h1
  cases h1
  exact ⟨f, l, dV, doc, pm, b, ctv, List.mem_of_getElem? h3, h2, h4, mono _ _ _ _ (tdA.down h3 h4) h5⟩
theorem vGotA.down {q : Str} {T : List LamT} {cs : List (Str × Addr)} {tt : DTL → Mu → DV → Prop} {t0 : DE} {δ : DSt} {μ : Mu} {Q : DV} (mono : TtMono tt) (m0 : ∀ δ μ Q Q', (∀ d μ, Q d μ → Q' d μ) → t0 δ μ Q → t0 δ μ Q') (h : vGotA (lamA q T cs) (T.map (·.t)) tt t0 δ μ Q) : vGot q T cs tt t0 δ μ Q := by
  refine m0 _ _ _ _ (fun d μ2 h => ?_) h
  obtain ⟨f, n, t, h1, h2, ⟨l, dV, doc, pm, b, ctv, h3, h4⟩, h5⟩ := h
  rw [List.getElem?_map, h3] at h1
  cases h1
  exact ⟨f, l, dV, doc, pm, b, ctv, List.mem_of_getElem? h3, h2, h4, mono _ _ _ _ (tdA.down h3 h4) h5⟩
theorem vLamA.down {P : Addr} {q : Str} {T : List LamT} {cs : List (Str × Addr)} {n : Nat} {l : LamT} {δ : DSt} {μ : Mu} {Q : DV} (hl : T[n]? = some l) (h : vLamA P q (lamA q T cs) n δ μ Q) : vLamV P q l cs δ μ Q := by
  refine ⟨h.1, fun μ1 f b dV doc pm ctv g n0 d => h.2 μ1 f _ g n0 ⟨l, dV, doc, pm, b, ctv, hl, mset_same, d.keep fun a o e => ?_⟩⟩
  by_cases ha : a = f
  · subst ha; rw [n0] at e; cases e
  · rw [mset_ne ha]; exact e
theorem WE.weak {S : Sg} {ι : Type} {F : ι → Cx} {e : Expr} {v v' : DE} (h : WE S F e v) (k : ∀ δ μ Q, v' δ μ Q → v δ μ Q) : WE S F e v' :=
  let ⟨te, a, b⟩ := h
  ⟨te, a, fun I δ μ σ H hJ SM hS Q Q' q u => b I δ μ σ H hJ SM hS Q Q' (k _ _ _ q) u⟩
end Wl

set_option Elab.async false
set_option linter.all false
set_option maxRecDepth 100000
set_option maxHeartbeats 4000000
/-! lambdas by numbers: the rules as a text's derivation uses them -/
namespace Wl
open PySem PySem.Spec L2 PyProof.Rows LamX

/-- the lambdas of an expression, of a statement, in their order (no lambda within a lambda) -/
def lamE : Nat → Expr → List (Arguments × Expr × Scope)
  | 0, _ => []
  | n + 1, e => match e with
    | .Lambda a b s _ => [(a, b, s)]
    | .List es _ => es.flatMap (lamE n)
    | .Tuple es _ _ => es.flatMap (lamE n)
    | .BinOp l _ r _ => lamE n l ++ lamE n r
    | .Compare l _ rs _ => lamE n l ++ rs.flatMap (lamE n)
    | .BoolOp _ es _ => es.flatMap (lamE n)
    | .UnaryOp _ x _ => lamE n x
    | .IfExp t b o _ => lamE n t ++ lamE n b ++ lamE n o
    | .Subscript x i _ => lamE n x ++ lamE n i
    | .Call f as _ _ => lamE n f ++ as.flatMap (lamE n)
    | .Attribute x _ _ => lamE n x
    | _ => []
def lamS : Nat → Stmt → List (Arguments × Expr × Scope)
  | 0, _ => []
  | n + 1, st => match st with
    | .FunctionDef _ _ b _ _ _ _ _ _ _ => b.flatMap (lamS n)
    | .Assign _ v _ => lamE n v
    | .AugAssign _ _ v _ => lamE n v
    | .Expr v _ => lamE n v
    | .Return (some v) _ => lamE n v
    | .For _ i b o _ => lamE n i ++ b.flatMap (lamS n) ++ o.flatMap (lamS n)
    | .While t b o _ => lamE n t ++ b.flatMap (lamS n) ++ o.flatMap (lamS n)
    | .If t b o _ => lamE n t ++ b.flatMap (lamS n) ++ o.flatMap (lamS n)
    | _ => []
def tlOf : List (Arguments × Expr × Scope) → List (Option Str × (DXS → DE)) → List LamT
  | (p, b, s) :: xs, (n, t) :: ys => ⟨p, b, s, n, t⟩ :: tlOf xs ys
  | _, _ => []
def AllT (p : LamT → Prop) : List LamT → Prop
  | [] => True
  | l :: ls => p l ∧ AllT p ls
theorem AllT.mem {p : LamT → Prop} : ∀ {T : List LamT}, AllT p T → ∀ l ∈ T, p l
  | _ :: _, ⟨a, b⟩, l, m => by
    rcases List.mem_cons.mp m with rfl | m
    · exact a
    · exact AllT.mem b l m
section
variable {S : Sg} {ι : Type} {F : ι → Cx} {pos p py pos1 : Pos}
theorem we_lamA0 {q : Str} {c P : Addr} {n : Nat} {T : List LamT} {prs : Arguments} {bd : Expr} {sco : Scope} {t : DXS → DE} {cs : List (Str × Addr)} (tb : TabB S.base S.mg c P) (hl : T[n]? = some ⟨prs, bd, sco, none, t⟩) (hcs : ∀ j, (F j).env.cells = cs) (hL : ∀ i, LamQ S.N (F i).env.scope sco)
    (hc0 : ∀ i, (F i).env.code = .ref c := by exact fun _ => rfl) (hq : ∀ i, (F i).env.qual ++ "<lambda>" = q := by exact fun _ => rfl) (hdef : ∀ env : Env, defaultsOf prs env = ([], []) := by exact fun _ => rfl) :
    WE S F (.Lambda prs bd sco pos) (vLamA P q (lamA q T cs) n) :=
  (we_lam0 (t := t) tb hcs hc0 hq hL hdef).weak fun _ _ _ h => h.down hl
theorem we_lamA1 {q nm : Str} {c P : Addr} {n : Nat} {T : List LamT} {prs : Arguments} {bd e0 : Expr} {v0 : V} {sco : Scope} {t : DXS → DE} {cs : List (Str × Addr)} (tb : TabB S.base S.mg c P) (hl : T[n]? = some ⟨prs, bd, sco, some nm, t⟩) (hcs : ∀ j, (F j).env.cells = cs) (hL : ∀ i, LamQ S.N (F i).env.scope sco)
    (hp0 : ∀ i, PE (F i) e0 (tC v0)) (hc0 : ∀ i, (F i).env.code = .ref c := by exact fun _ => rfl) (hq : ∀ i, (F i).env.qual ++ "<lambda>" = q := by exact fun _ => rfl) (hd1 : prs.defaults = [e0] := by rfl) (hk0 : prs.kw_defaults = [] := by rfl) :
    WE S F (.Lambda prs bd sco pos) (vLamA P q (lamA q T cs) n) :=
  (we_lam1 (n := nm) (t := t) tb hcs hp0 hc0 hq hL hd1 hk0).weak fun _ _ _ h => h.down hl
/-- what must hold of each lambda of the def -/
structure LamOk (S : Sg) {ι : Type} (F : ι → Cx) (k : Nat) (l : LamT) : Prop where
  b : bindB l.prs l.bd l.sco l.nm
  L : ∀ j, LamQ S.N (F j).env.scope l.sco
  run : ∀ (E : XK) (J : Hp) (E2 : DXS) tr, WE ⟨S.P, S.w, S.K, S.mg, S.base, k, S.N, J, fun cls d _ H => E cls d H, E2, tr, false⟩ (fun j : ι × Around × List Env × Shared × Hp × Addr × Addr => lamCx (F j.1) j.2.1 j.2.2.1 j.2.2.2.1 j.2.2.2.2.1 E l.sco j.2.2.2.2.2.1 j.2.2.2.2.2.2) l.bd (l.t E2)
theorem we_tellsA {x y q : Str} {tt : DTL → Mu → DV → Prop} {T : List LamT} {ts : List (DXS → DE)} {cs : List (Str × Addr)} {k i : Nat} {iter : Expr} {scope : Scope} {own : List (Str × Nat)} {wi : DI} {g : DG} {pt : Pos} (TD : TellD S.P S.w S.K S.mg S.base x tt) (hk : k + 2 ≤ S.k)
    (hN : S.N.Nodup) (hi : WI S F (.Name y pt) iter wi) (ok : ∀ j, BlkOk S.N (F j).env.scope scope own) (hg : WGv S.blk (blkF F scope) (own.map (·.2)) (.Name y pt) g)
    (hcs : ∀ j, (F j).env.cells = cs) (hT : AllT (LamOk S F k) T) (hts : ts = T.map (·.t)) (mono : TtMono tt)
    (hN2 : S.N[i]? = some y) (hvy : ∀ j cl C, Vis (compEnvC scope cl C (F j).env).scope y) (hgl : ∀ j s H cl C fp, Gl ((F j).blk s H scope (compEnvC scope cl C (F j).env) fp) x) (hq : ∀ j, (F j).env.qual ++ "<lambda>" = q := by exact fun _ => rfl)
    (hs : ∀ env, ∀ z, foldedSetIterable iter env z = pure z := by exact fun _ _ => rfl) (hcold : S.cold = false := by rfl)
    (hdb : (x == ("__debug__" : Str)) = false := by decide) (hdy : (y == ("__debug__" : Str)) = false := by decide) (hcy : (y == ("__classdict__" : Str)) = false := by decide) :
    WE S F (.ListComp (.Call (.Name x p) [.Name y py] [] pos1) [⟨.Name y pt, iter, [], 0⟩] scope pos) (vTells (own.map (·.2)) wi g (vItemA (lamA q T cs) ts tt i)) := by
  subst hts
  exact we_tells (T := T) (fun _ _ _ _ h => h.down mono) TD hk hN hi ok hg hcs hq (fun l m => (hT.mem l m).b) (fun l m => (hT.mem l m).L) (fun l m => (hT.mem l m).run) hN2 hvy hgl hs hcold hdb hdy hcy
theorem we_toldA {x q : Str} {tt : DTL → Mu → DV → Prop} {T : List LamT} {ts : List (DXS → DE)} {cs : List (Str × Addr)} {k : Nat} {e : Expr} {t : DE} (TD : TellD S.P S.w S.K S.mg S.base x tt) (hk : k + 2 ≤ S.k) (arg : WE S F e t)
    (hcs : ∀ j, (F j).env.cells = cs) (hT : AllT (LamOk S F k) T) (hts : ts = T.map (·.t)) (mono : TtMono tt) (m0 : ∀ δ μ Q Q', (∀ d μ, Q d μ → Q' d μ) → t δ μ Q → t δ μ Q') (hq : ∀ j, (F j).env.qual ++ "<lambda>" = q := by exact fun _ => rfl)
    (hgl : ∀ j, Gl (F j) x := by exact fun _ => rfl) (hdb : (x == ("__debug__" : Str)) = false := by decide) (hcold : S.cold = false := by rfl)
    (hst : ∀ env : Env, starEach [e] env = (false, eval e env) :: starEach [] env := by exact fun _ => rfl) (hpl : ∀ env : Env, (backTo pos (starEach [] env)).any (·.1) = false := by exact fun _ => rfl) :
    WE S F (.Call (.Name x p) [e] [] pos) (vGotA (lamA q T cs) ts tt t) := by
  subst hts
  exact (we_told (T := T) TD hk arg hcs hq (fun l m => (hT.mem l m).b) (fun l m => (hT.mem l m).L) (fun l m => (hT.mem l m).run) hgl hdb hcold hst hpl).weak fun _ _ _ h => h.down mono m0
theorem vLamA_mono {P : Addr} {q : Str} {A : LamA} {n : Nat} : ∀ δ μ (Q Q' : DV), (∀ d μ, Q d μ → Q' d μ) → vLamA P q A n δ μ Q → vLamA P q A n δ μ Q' := fun _ _ _ _ m h => ⟨h.1, fun μ1 f x g n0 i => m _ _ (h.2 μ1 f x g n0 i)⟩
end
end Wl

set_option Elab.async false
set_option linter.all false
set_option maxRecDepth 100000
set_option maxHeartbeats 2000000
/-! a list times an int -/
namespace Wl
open PySem L2
section
variable {S : Sg} {ι : Type} {F : ι → Cx} {pos : Pos}
theorem RepL.rep {K : PySem.W.Frag} {I : Hp} {ds : List Dv} {vs : List V} (r : RepL K I ds vs) : ∀ n : Nat, RepL K I (List.replicate n ds).flatten (List.replicate n vs).flatten
  | 0 => .nil
  | n + 1 => by
    rw [List.replicate_succ, List.replicate_succ, List.flatten_cons, List.flatten_cons]
    exact r.append (RepL.rep r n)
def gRep : D2 := fun x y μ Q => match x, y with
  | .lst xs, .int k => (-(2 ^ 63) ≤ k ∧ k < 2 ^ 63) ∧ xs.length * k.toNat ≤ sizeLine ∧ Q (.lst (List.replicate k.toNat xs).flatten) μ
  | _, _ => False
theorem wo_rep : WO S (binaryOp .Mult) gRep := by
  refine ⟨rRep, fun X hX => op_rep, ?_⟩
  intro I μ H _ SM dx dy x y rx ry Q Q' q u
  cases rx <;> cases ry <;> first | exact False.elim q | skip
  rename_i h1 h2 k
  obtain ⟨⟨k1, k2⟩, k3, q⟩ := q
  refine ⟨_, _, _, rfl, rfl, SM.ex _ _ h1, k1, k2, by rw [← h2.length]; exact k3, fun p hp => ?_⟩
  obtain ⟨s1, s2⟩ := SM.newI hp (.lst _)
  exact u _ _ _ μ _ s1 s2 (.lst upd_same (RepL.mono s1 _ _ (h2.rep _))) q
end
section
variable {μ : Mu} {Q : DV}
@[simp] theorem o_rep {xs : List Dv} {k : Int} : gRep (.lst xs) (.int k) μ Q ↔ (-(2 ^ 63) ≤ k ∧ k < 2 ^ 63) ∧ xs.length * k.toNat ≤ sizeLine ∧ Q (.lst (List.replicate k.toNat xs).flatten) μ := Iff.rfl
/-- every value is equal to itself -/
theorem dEq_refl (d : Dv) : dEq d d = true := PySem.SeqAt.eqv_refl_plain _ d.plain
end
end Wl


set_option Elab.async false
set_option linter.all false
set_option maxRecDepth 100000
namespace Lw
open PySem L2 Wl LamX
structure Cs where
  KeyMap : Addr
  Player : Addr
  Rules : Addr
  MapError : Addr
  x_UnknownBinding : Addr
  x_InvalidGap : Addr
  tab : Addr
  isx : Addr → Str → Option Bool
  i_UnknownBinding_Contradiction : isx x_UnknownBinding "Contradiction" = some false
  i_UnknownBinding_InvalidGap : isx x_UnknownBinding "InvalidGap" = some false
  i_UnknownBinding_InvalidLength : isx x_UnknownBinding "InvalidLength" = some false
  i_UnknownBinding_InvalidMap : isx x_UnknownBinding "InvalidMap" = some false
  i_UnknownBinding_InvalidNumber : isx x_UnknownBinding "InvalidNumber" = some false
  i_UnknownBinding_InvalidStrokes : isx x_UnknownBinding "InvalidStrokes" = some false
  i_UnknownBinding_InvalidTick : isx x_UnknownBinding "InvalidTick" = some false
  i_UnknownBinding_MapError : isx x_UnknownBinding "MapError" = some true
  i_UnknownBinding_TooManyKeys : isx x_UnknownBinding "TooManyKeys" = some false
  i_UnknownBinding_UnknownBinding : isx x_UnknownBinding "UnknownBinding" = some true
  i_UnknownBinding_ValueError : isx x_UnknownBinding "ValueError" = some true
  i_InvalidGap_Contradiction : isx x_InvalidGap "Contradiction" = some false
  i_InvalidGap_InvalidGap : isx x_InvalidGap "InvalidGap" = some true
  i_InvalidGap_InvalidLength : isx x_InvalidGap "InvalidLength" = some false
  i_InvalidGap_InvalidMap : isx x_InvalidGap "InvalidMap" = some false
  i_InvalidGap_InvalidNumber : isx x_InvalidGap "InvalidNumber" = some false
  i_InvalidGap_InvalidStrokes : isx x_InvalidGap "InvalidStrokes" = some false
  i_InvalidGap_InvalidTick : isx x_InvalidGap "InvalidTick" = some false
  i_InvalidGap_MapError : isx x_InvalidGap "MapError" = some true
  i_InvalidGap_TooManyKeys : isx x_InvalidGap "TooManyKeys" = some false
  i_InvalidGap_UnknownBinding : isx x_InvalidGap "UnknownBinding" = some false
  i_InvalidGap_ValueError : isx x_InvalidGap "ValueError" = some true
def lamQ : Str := ("law" : Str) ++ ".<locals>." ++ "<lambda>"
def N_law_told : List Str := ["_law_work", "e", "_law_some", "_law_terms", "_law_k", "_law_head"]
def S_law_told (P : Program) (w : World) (c : Cs) (a C : Addr) (d : Option Addr) : DS :=
 sSeq (sAsg (vLst (vCons (vIsC c.isx 1 a C d "InvalidStrokes") (vCons (vIsC c.isx 1 a C d "UnknownBinding") (vCons (vIsC c.isx 1 a C d "InvalidMap") (vNil))))) (dName 2))
 (sSeq (sAsg (vOp gAdd (vV 2) (vLst (vCons (vIsC c.isx 1 a C d "InvalidTick") (vCons (vIsC c.isx 1 a C d "InvalidLength") (vCons (vIsC c.isx 1 a C d "InvalidNumber") (vNil)))))) (dName 2))
 (sSeq (sAsg (vOp gAdd (vV 2) (vLst (vCons (vIsC c.isx 1 a C d "InvalidGap") (vCons (vIsC c.isx 1 a C d "Contradiction") (vCons (vIsC c.isx 1 a C d "TooManyKeys") (vNil)))))) (dName 2))
 (sSeq (sAsg (vLst (vCons (vC (.str "InvalidStrokes")) (vCons (vC (.str "UnknownBinding")) (vCons (vC (.str "InvalidMap")) (vCons (vC (.str "InvalidTick")) (vCons (vC (.str "InvalidLength")) (vCons (vC (.str "InvalidNumber")) (vNil)))))))) (dName 3))
 (sSeq (sAsg (vOp gAdd (vV 3) (vLst (vCons (vC (.str "InvalidGap")) (vCons (vC (.str "Contradiction")) (vCons (vC (.str "TooManyKeys")) (vNil)))))) (dName 3))
 (sSeq (sAsg (vIf (vAnd (vTest (vOp gEq (vBM "list" gCnt (vV 2) (vCons (vC (.bl true)) (vNil))) (vC (.int 1)))) (vTru (vIsC c.isx 1 a C d "ValueError"))) (vBM "list" gIdxL (vV 2) (vCons (vC (.bl true)) (vNil))) (vC (.int 99))) (dName 4))
 (sSeq (sAsg (vTup (vCons (vC (.str "error")) (vCons (vIf (vTest (vOp gLt (vV 4) (vC (.int 99)))) (vOp gIx (vV 3) (vV 4)) (vC (.str "other"))) (vNil)))) (dName 5))
 (sSeq (sIf (vTest (vOp gLt (vV 4) (vC (.int 2)))) (sRet (vOp gAdd (vV 5) (vTup (vCons (vXf 1 a d "index") (vNil))))) (sNext))
 (sRet (vOp gAdd (vV 5) (vIf (vTest (vOp gEq (vV 4) (vC (.int 2)))) (vTup (vCons (vXf 1 a d "part") (vCons (vXf 1 a d "index") (vNil)))) (vTup (vNil))))))))))))
def tt_law_told (P : Program) (w : World) (c : Cs) : DTL → Mu → DV → Prop := ttT c.isx "MapError" 6 1 (S_law_told P w c)
def N_is_number : List Str := ["value", "least", "greatest"]
def T_is_number (P : Program) (w : World) (c : Cs) (E2 : DXS) : DS :=
 sRet (vAndV (vCB gIsi (vCons (vV 0) (vCons (vC (.ty "int")) (vNil)))) (vAndV (vNotV (vCB gIsi (vCons (vV 0) (vCons (vC (.ty "bool")) (vNil))))) (vChain gLe gLe (vV 1) (vV 0) (vV 2))))
def sp_is_number (P : Program) (w : World) (c : Cs) : Sp2 := spOf 3 N_is_number (T_is_number P w c)
def N_is_word : List Str := ["value", "longest", "letter"]
def T_is_word (P : Program) (w : World) (c : Cs) (E2 : DXS) : DS :=
 sSeq (sIf (vOr (vNot (vTru (vCB gIsi (vCons (vV 0) (vCons (vC (.ty "str")) (vNil)))))) (vNot (vTest (vChain gLe gLe (vC (.int 1)) (vCB gLen (vCons (vV 0) (vNil))) (vV 1))))) (sRet (vC (.bl false))) (sNext))
 (sRet (vCB gAll (vCons (vComp [2] (wStr (vV 0)) (dName 2) (vYes) (vOp (gInS false) (vV 2) (vC (.str "abcdefghijklmnopqrstuvwxyz")))) (vNil))))
def sp_is_word (P : Program) (w : World) (c : Cs) : Sp2 := spOf 2 N_is_word (T_is_word P w c)
def N_KeyMap_bindings : List Str := ["self"]
def T_KeyMap_bindings (P : Program) (w : World) (c : Cs) (E2 : DXS) : DS :=
 sRet (vFld c.KeyMap "_bindings" (vV 0))
def sp_KeyMap_bindings (P : Program) (w : World) (c : Cs) : Sp2 := spOf 1 N_KeyMap_bindings (T_KeyMap_bindings P w c)
def N_Rules_init__ : List Str := ["self", "keymap", "mode", "keys", "command", "target", "size"]
def T_Rules_init__ (P : Program) (w : World) (c : Cs) (E2 : DXS) : DS :=
 sSeq (sFldV c.Rules "_bound" (vV 0) (vDNewT))
 (sSeq (sFldV c.Rules "_begun" (vV 0) (vDNewT))
 (sFor (wSeq (vProp c.KeyMap (sp_KeyMap_bindings P w c) (vV 1))) (dTup 4 (dCons (dName 2) (dCons (dName 3) (dCons (dName 4) (dCons (dName 5) (dNil)))))) (sSeq (sDPutV (vFld c.Rules "_bound" (vV 0)) (vTup (vCons (vV 2) (vCons (vV 3) (vNil)))) (vTup (vCons (vV 4) (vCons (vV 5) (vNil)))))
 (sFor (wRng2 (vCons (vC (.int 1)) (vCons (vCB gLen (vCons (vV 3) (vNil))) (vNil)))) (dName 6) (sDPutV (vFld c.Rules "_begun" (vV 0)) (vTup (vCons (vV 2) (vCons (vSl (vV 3) (vNoPart) (vPart (vV 6))) (vNil)))) (vC (.bl true)))))))
def sp_Rules_init__ (P : Program) (w : World) (c : Cs) : Sp2 := spOf 2 N_Rules_init__ (T_Rules_init__ P w c)
def N_Rules_first_step : List Str := ["self", "mode", "waiting", "size", "bound"]
def T_Rules_first_step (P : Program) (w : World) (c : Cs) (E2 : DXS) : DS :=
 sSeq (sFor (wRng3 (vCons (vCB gLen (vCons (vV 2) (vNil))) (vCons (vC (.int 0)) (vCons (vUn gNeg (vC (.int 1))) (vNil))))) (dName 3) (sSeq (sAsg (vDGet1 (vFld c.Rules "_bound" (vV 0)) (vTup (vCons (vV 1) (vCons (vSl (vV 2) (vNoPart) (vPart (vV 3))) (vNil))))) (dName 4))
 (sIf (vTest (vOp gNotN (vV 4) (vC .non))) (sRet (vTup (vCons (vTup (vCons (vC (.str "command")) (vCons (vOp gIx (vV 4) (vC (.int 0))) (vCons (vV 3) (vNil))))) (vCons (vOp gIx (vV 4) (vC (.int 1))) (vNil))))) (sNext))))
 (sRet (vTup (vCons (vTup (vCons (vC (.str "lost")) (vCons (vOp gIx (vV 2) (vC (.int 0))) (vCons (vC (.int 1)) (vNil))))) (vCons (vV 1) (vNil)))))
def sp_Rules_first_step (P : Program) (w : World) (c : Cs) : Sp2 := spOf 3 N_Rules_first_step (T_Rules_first_step P w c)
def N_Rules_feed : List Str := ["self", "state", "keys", "mode", "waiting", "coming", "steps", "step"]
def T_Rules_feed (P : Program) (w : World) (c : Cs) (E2 : DXS) : DS :=
 sSeq (sAsg (vV 1) (dTup 2 (dCons (dName 3) (dCons (dName 4) (dNil)))))
 (sSeq (sAsg (vV 2) (dName 5))
 (sSeq (sAsg (vLstM (vNil)) (dName 6))
 (sSeq (sWhile (vTru (vV 5)) (sSeq (sAsg (vOp gAdd (vV 4) (vOp gIx (vV 5) (vC (.int 0)))) (dName 4))
 (sSeq (sAsg (vSl (vV 5) (vPart (vC (.int 1))) (vNoPart)) (dName 5))
 (sIf (vTest (vDNotIn (vTup (vCons (vV 3) (vCons (vV 4) (vNil)))) (vFld c.Rules "_begun" (vV 0)))) (sSeq (sAsg (vMeth c.Rules "_first_step" (sp_Rules_first_step P w c) [] E2 (vV 0) (vCons (vV 3) (vCons (vV 4) (vNil)))) (dTup 2 (dCons (dName 7) (dCons (dName 3) (dNil)))))
 (sSeq (sDrop (vBM "list" gAppend (vV 6) (vCons (vV 7) (vNil))))
 (sSeq (sAsg (vOp gAdd (vSl (vV 4) (vPart (vOp gIx (vV 7) (vC (.int 2)))) (vNoPart)) (vV 5)) (dName 5))
 (sAsg (vC (.str "")) (dName 4))))) (sNext)))))
 (sRet (vTup (vCons (vFrz (vV 6)) (vCons (vTup (vCons (vV 3) (vCons (vV 4) (vNil)))) (vNil))))))))
def sp_Rules_feed (P : Program) (w : World) (c : Cs) : Sp2 := spOf 3 N_Rules_feed (T_Rules_feed P w c)
def N_Rules_break_up : List Str := ["self", "state", "mode", "waiting", "step", "target", "steps", "after"]
def T_Rules_break_up (P : Program) (w : World) (c : Cs) (E2 : DXS) : DS :=
 sSeq (sAsg (vV 1) (dTup 2 (dCons (dName 2) (dCons (dName 3) (dNil)))))
 (sSeq (sAsg (vMeth c.Rules "_first_step" (sp_Rules_first_step P w c) [] E2 (vV 0) (vCons (vV 2) (vCons (vV 3) (vNil)))) (dTup 2 (dCons (dName 4) (dCons (dName 5) (dNil)))))
 (sSeq (sAsg (vMeth c.Rules "feed" (sp_Rules_feed P w c) [] E2 (vV 0) (vCons (vTup (vCons (vV 5) (vCons (vC (.str "")) (vNil)))) (vCons (vSl (vV 3) (vPart (vOp gIx (vV 4) (vC (.int 2)))) (vNoPart)) (vNil)))) (dTup 2 (dCons (dName 6) (dCons (dName 7) (dNil)))))
 (sRet (vTup (vCons (vOp gAdd (vLst (vCons (vV 4) (vNil))) (vV 6)) (vCons (vV 7) (vNil)))))))
def sp_Rules_break_up (P : Program) (w : World) (c : Cs) : Sp2 := spOf 2 N_Rules_break_up (T_Rules_break_up P w c)
def N_KeyMap_modes : List Str := ["self"]
def T_KeyMap_modes (P : Program) (w : World) (c : Cs) (E2 : DXS) : DS :=
 sRet (vFld c.KeyMap "_modes" (vV 0))
def sp_KeyMap_modes (P : Program) (w : World) (c : Cs) : Sp2 := spOf 1 N_KeyMap_modes (T_KeyMap_modes P w c)
def N_KeyMap_wait : List Str := ["self"]
def T_KeyMap_wait (P : Program) (w : World) (c : Cs) (E2 : DXS) : DS :=
 sRet (vFld c.KeyMap "_wait" (vV 0))
def sp_KeyMap_wait (P : Program) (w : World) (c : Cs) : Sp2 := spOf 1 N_KeyMap_wait (T_KeyMap_wait P w c)
def N_Player_init__ : List Str := ["self", "keymap"]
def T_Player_init__ (P : Program) (w : World) (c : Cs) (E2 : DXS) : DS :=
 sSeq (sFldV c.Player "_rules" (vV 0) (vMake c.Rules (sp_Rules_init__ P w c) [] E2 (vCons (vV 1) (vNil))))
 (sSeq (sFldV c.Player "_pause" (vV 0) (vProp c.KeyMap (sp_KeyMap_wait P w c) (vV 1)))
 (sSeq (sFldV c.Player "fed_tick" (vV 0) (vC (.int 0)))
 (sSeq (sFldV c.Player "state" (vV 0) (vTup (vCons (vOp gIx (vProp c.KeyMap (sp_KeyMap_modes P w c) (vV 1)) (vC (.int 0))) (vCons (vC (.str "")) (vNil)))))
 (sFldV c.Player "happened" (vV 0) (vLstM (vNil))))))
def sp_Player_init__ (P : Program) (w : World) (c : Cs) : Sp2 := spOf 2 N_Player_init__ (T_Player_init__ P w c)
def N_Player_note : List Str := ["self", "tick", "steps", "what", "name", "size"]
def T_Player_note (P : Program) (w : World) (c : Cs) (E2 : DXS) : DS :=
 sSeq (sFldV c.Player "fed_tick" (vV 0) (vV 1))
 (sFor (wSeq (vV 2)) (dTup 3 (dCons (dName 3) (dCons (dName 4) (dCons (dName 5) (dNil))))) (sDrop (vBM "list" gAppend (vFld c.Player "happened" (vV 0)) (vCons (vTup (vCons (vV 3) (vCons (vV 1) (vCons (vV 4) (vCons (vV 5) (vNil)))))) (vNil)))))
def sp_Player_note (P : Program) (w : World) (c : Cs) : Sp2 := spOf 3 N_Player_note (T_Player_note P w c)
def N_Player_pass_wait : List Str := ["self", "steps"]
def T_Player_pass_wait (P : Program) (w : World) (c : Cs) (E2 : DXS) : DS :=
 sSeq (sAsg (vMeth c.Rules "break_up" (sp_Rules_break_up P w c) [] E2 (vFld c.Player "_rules" (vV 0)) (vCons (vFld c.Player "state" (vV 0)) (vNil))) (dTup 2 (dCons (dName 1) (dCons (dAttr c.Player "state" (vV 0)) (dNil)))))
 (sDrop (vMeth c.Player "_note" (sp_Player_note P w c) [] E2 (vV 0) (vCons (vOp gAdd (vFld c.Player "fed_tick" (vV 0)) (vFld c.Player "_pause" (vV 0))) (vCons (vV 1) (vNil)))))
def sp_Player_pass_wait (P : Program) (w : World) (c : Cs) : Sp2 := spOf 1 N_Player_pass_wait (T_Player_pass_wait P w c)
def N_Player_let_pass : List Str := ["self", "tick"]
def T_Player_let_pass (P : Program) (w : World) (c : Cs) (E2 : DXS) : DS :=
 sWhile (vAnd (vTru (vOp gIx (vFld c.Player "state" (vV 0)) (vC (.int 1)))) (vTest (vOp gLe (vOp gAdd (vFld c.Player "fed_tick" (vV 0)) (vFld c.Player "_pause" (vV 0))) (vV 1)))) (sDrop (vMeth c.Player "_pass_wait" (sp_Player_pass_wait P w c) [] E2 (vV 0) vNil))
def sp_Player_let_pass (P : Program) (w : World) (c : Cs) : Sp2 := spOf 2 N_Player_let_pass (T_Player_let_pass P w c)
def N_Player_press : List Str := ["self", "tick", "key", "steps"]
def T_Player_press (P : Program) (w : World) (c : Cs) (E2 : DXS) : DS :=
 sSeq (sDrop (vMeth c.Player "let_pass" (sp_Player_let_pass P w c) [] E2 (vV 0) (vCons (vV 1) (vNil))))
 (sSeq (sAsg (vMeth c.Rules "feed" (sp_Rules_feed P w c) [] E2 (vFld c.Player "_rules" (vV 0)) (vCons (vFld c.Player "state" (vV 0)) (vCons (vV 2) (vNil)))) (dTup 2 (dCons (dName 3) (dCons (dAttr c.Player "state" (vV 0)) (dNil)))))
 (sDrop (vMeth c.Player "_note" (sp_Player_note P w c) [] E2 (vV 0) (vCons (vV 1) (vCons (vV 3) (vNil))))))
def sp_Player_press (P : Program) (w : World) (c : Cs) : Sp2 := spOf 3 N_Player_press (T_Player_press P w c)
def N_Player_let_all_pass : List Str := ["self"]
def T_Player_let_all_pass (P : Program) (w : World) (c : Cs) (E2 : DXS) : DS :=
 sWhile (vTru (vOp gIx (vFld c.Player "state" (vV 0)) (vC (.int 1)))) (sDrop (vMeth c.Player "_pass_wait" (sp_Player_pass_wait P w c) [] E2 (vV 0) vNil))
def sp_Player_let_all_pass (P : Program) (w : World) (c : Cs) : Sp2 := spOf 1 N_Player_let_all_pass (T_Player_let_all_pass P w c)
def N_played : List Str := ["keymap", "strokes", "player", "tick", "key"]
def T_played (P : Program) (w : World) (c : Cs) (E2 : DXS) : DS :=
 sSeq (sAsg (vMake c.Player (sp_Player_init__ P w c) [] E2 (vCons (vV 0) (vNil))) (dName 2))
 (sSeq (sFor (wSeq (vV 1)) (dTup 2 (dCons (dName 3) (dCons (dName 4) (dNil)))) (sDrop (vMeth c.Player "press" (sp_Player_press P w c) [] E2 (vV 2) (vCons (vV 3) (vCons (vV 4) (vNil))))))
 (sSeq (sDrop (vMeth c.Player "let_all_pass" (sp_Player_let_all_pass P w c) [] E2 (vV 2) vNil))
 (sRet (vV 2))))
def sp_played (P : Program) (w : World) (c : Cs) : Sp2 := spOf 2 N_played (T_played P w c)
def N_play_all : List Str := ["keymap", "strokes"]
def T_play_all (P : Program) (w : World) (c : Cs) (E2 : DXS) : DS :=
 sRet (vFrz (vFld c.Player "happened" (vCall (sp_played P w c) [] E2 (vCons (vV 0) (vCons (vV 1) (vNil))))))
def sp_play_all (P : Program) (w : World) (c : Cs) : Sp2 := spOf 2 N_play_all (T_play_all P w c)
def N_is_binding : List Str := ["modes", "value", "mode", "keys", "command", "target"]
def T_is_binding (P : Program) (w : World) (c : Cs) (E2 : DXS) : DS :=
 sSeq (sIf (vOr (vNot (vTru (vCB gIsi (vCons (vV 1) (vCons (vC (.ty "tuple")) (vNil)))))) (vTest (vOp gNe (vCB gLen (vCons (vV 1) (vNil))) (vC (.int 4))))) (sRet (vC (.bl false))) (sNext))
 (sSeq (sAsg (vV 1) (dTup 4 (dCons (dName 2) (dCons (dName 3) (dCons (dName 4) (dCons (dName 5) (dNil)))))))
 (sSeq (sIf (vOr (vTest (vOp (gIn true) (vV 2) (vV 0))) (vTest (vOp (gIn true) (vV 5) (vV 0)))) (sRet (vC (.bl false))) (sNext))
 (sRet (vAndV (vCall (sp_is_word P w c) [] E2 (vCons (vV 3) (vCons (vC (.int 6)) (vNil)))) (vCall (sp_is_word P w c) [] E2 (vCons (vV 4) (vCons (vC (.int 8)) (vNil))))))))
def sp_is_binding (P : Program) (w : World) (c : Cs) : Sp2 := spOf 2 N_is_binding (T_is_binding P w c)
def N_check_modes : List Str := ["modes", "index", "mode"]
def T_check_modes (P : Program) (w : World) (c : Cs) (E2 : DXS) : DS :=
 sSeq (sIf (vOr (vNot (vTru (vCB gIsi (vCons (vV 0) (vCons (vC (.ty "tuple")) (vNil)))))) (vTest (vOp gEq (vCB gLen (vCons (vV 0) (vNil))) (vC (.int 0))))) (sNever) (sNext))
 (sFor (wEnum (vCons (vV 0) (vNil))) (dTup 2 (dCons (dName 1) (dCons (dName 2) (dNil)))) (sIf (vOr (vTest (vOp gGe (vV 1) (vC (.int 4)))) (vOr (vNot (vTru (vCall (sp_is_word P w c) [] E2 (vCons (vV 2) (vCons (vC (.int 8)) (vNil)))))) (vTest (vOp (gIn false) (vV 2) (vSl (vV 0) (vNoPart) (vPart (vV 1))))))) (sNever) (sNext)))
def sp_check_modes (P : Program) (w : World) (c : Cs) : Sp2 := spOf 1 N_check_modes (T_check_modes P w c)
def N_check_bindings : List Str := ["modes", "bindings", "seen", "index", "binding"]
def T_check_bindings (P : Program) (w : World) (c : Cs) (E2 : DXS) : DS :=
 sSeq (sIf (vNot (vTru (vCB gIsi (vCons (vV 1) (vCons (vC (.ty "tuple")) (vNil)))))) (sNever) (sNext))
 (sSeq (sAsg (vSet0 P w) (dName 2))
 (sFor (wEnum (vCons (vV 1) (vNil))) (dTup 2 (dCons (dName 3) (dCons (dName 4) (dNil)))) (sSeq (sIf (vOr (vTest (vOp gGe (vV 3) (vC (.int 30)))) (vOr (vNot (vTru (vCall (sp_is_binding P w c) [] E2 (vCons (vV 0) (vCons (vV 4) (vNil)))))) (vTest (vOp (gInT P w false) (vSl (vV 4) (vNoPart) (vPart (vC (.int 2)))) (vV 2))))) (sNever) (sNext))
 (sDrop (vAddT P w (vV 2) (vSl (vV 4) (vNoPart) (vPart (vC (.int 2)))))))))
def sp_check_bindings (P : Program) (w : World) (c : Cs) : Sp2 := spOf 2 N_check_bindings (T_check_bindings P w c)
def N_KeyMap_init__ : List Str := ["self", "modes", "wait", "bindings"]
def T_KeyMap_init__ (P : Program) (w : World) (c : Cs) (E2 : DXS) : DS :=
 sSeq (sDrop (vCall (sp_check_modes P w c) [] E2 (vCons (vV 1) (vNil))))
 (sSeq (sIf (vNot (vTru (vCall (sp_is_number P w c) [] E2 (vCons (vV 2) (vCons (vC (.int 1)) (vCons (vC (.int 99)) (vNil))))))) (sNever) (sNext))
 (sSeq (sDrop (vCall (sp_check_bindings P w c) [] E2 (vCons (vV 1) (vCons (vV 3) (vNil)))))
 (sSeq (sFldV c.KeyMap "_modes" (vV 0) (vV 1))
 (sSeq (sFldV c.KeyMap "_wait" (vV 0) (vV 2))
 (sFldV c.KeyMap "_bindings" (vV 0) (vV 3))))))
def sp_KeyMap_init__ (P : Program) (w : World) (c : Cs) : Sp2 := spOf 4 N_KeyMap_init__ (T_KeyMap_init__ P w c)
def N_KeyMap_with_wait : List Str := ["self", "wait"]
def T_KeyMap_with_wait (P : Program) (w : World) (c : Cs) (E2 : DXS) : DS :=
 sRet (vMake c.KeyMap (sp_KeyMap_init__ P w c) [] E2 (vCons (vFld c.KeyMap "_modes" (vV 0)) (vCons (vV 1) (vCons (vFld c.KeyMap "_bindings" (vV 0)) (vNil)))))
def sp_KeyMap_with_wait (P : Program) (w : World) (c : Cs) : Sp2 := spOf 2 N_KeyMap_with_wait (T_KeyMap_with_wait P w c)
def N_check_index : List Str := ["keymap", "index"]
def T_check_index (P : Program) (w : World) (c : Cs) (E2 : DXS) : DS :=
 sIf (vNot (vTru (vCall (sp_is_number P w c) [] E2 (vCons (vV 1) (vCons (vC (.int 0)) (vCons (vOp gSub (vCB gLen (vCons (vProp c.KeyMap (sp_KeyMap_bindings P w c) (vV 0)) (vNil))) (vC (.int 1))) (vNil))))))) (vRaise E2 c.x_UnknownBinding ["index"] (vCons (vV 1) (vNil))) (sNext)
def sp_check_index (P : Program) (w : World) (c : Cs) : Sp2 := spOf 2 N_check_index (T_check_index P w c)
def N_check_wanted : List Str := ["keymap", "wanted", "index"]
def T_check_wanted (P : Program) (w : World) (c : Cs) (E2 : DXS) : DS :=
 sSeq (sIf (vNot (vTru (vCB gIsi (vCons (vV 1) (vCons (vC (.ty "list")) (vNil)))))) (sNever) (sNext))
 (sFor (wSeq (vV 1)) (dName 2) (sDrop (vCall (sp_check_index P w c) [] E2 (vCons (vV 0) (vCons (vV 2) (vNil))))))
def sp_check_wanted (P : Program) (w : World) (c : Cs) : Sp2 := spOf 2 N_check_wanted (T_check_wanted P w c)
def N_check_gap : List Str := ["gap"]
def T_check_gap (P : Program) (w : World) (c : Cs) (E2 : DXS) : DS :=
 sIf (vNot (vTru (vCall (sp_is_number P w c) [] E2 (vCons (vV 0) (vCons (vC (.int 0)) (vCons (vC (.int 99)) (vNil))))))) (vRaise0 E2 c.x_InvalidGap) (sNext)
def sp_check_gap (P : Program) (w : World) (c : Cs) : Sp2 := spOf 1 N_check_gap (T_check_gap P w c)
def N_typed_strokes : List Str := ["bindings", "inner", "outer", "strokes", "binding", "gap", "key", "tick"]
def T_typed_strokes (P : Program) (w : World) (c : Cs) (E2 : DXS) : DS :=
 sSeq (sAsg (vLstM (vNil)) (dName 3))
 (sSeq (sFor (wSeq (vV 0)) (dName 4) (sSeq (sAsg (vV 2) (dName 5))
 (sFor (wStr (vOp gIx (vV 4) (vC (.int 1)))) (dName 6) (sSeq (sAsg (vIf (vTru (vV 3)) (vOp gAdd (vOp gIx (vOp gIx (vV 3) (vUn gNeg (vC (.int 1)))) (vC (.int 0))) (vV 5)) (vC (.int 0))) (dName 7))
 (sSeq (sDrop (vBM "list" gAppend (vV 3) (vCons (vTup (vCons (vV 7) (vCons (vV 6) (vNil)))) (vNil))))
 (sAsg (vV 1) (dName 5)))))))
 (sRet (vFrz (vV 3))))
def sp_typed_strokes (P : Program) (w : World) (c : Cs) : Sp2 := spOf 3 N_typed_strokes (T_typed_strokes P w c)
def N_good_waits : List Str := ["keymap", "wanted", "inner", "outer", "bindings", "index", "strokes", "steps", "binding", "good", "wait", "happened", "what", "_", "name"]
def T_good_waits (P : Program) (w : World) (c : Cs) (E2 : DXS) : DS :=
 sSeq (sDrop (vCall (sp_check_wanted P w c) [] E2 (vCons (vV 0) (vCons (vV 1) (vNil)))))
 (sSeq (sDrop (vCall (sp_check_gap P w c) [] E2 (vCons (vV 2) (vNil))))
 (sSeq (sDrop (vCall (sp_check_gap P w c) [] E2 (vCons (vV 3) (vNil))))
 (sSeq (sAsg (vComp [5] (wSeq (vV 1)) (dName 5) (vYes) (vOp gIx (vProp c.KeyMap (sp_KeyMap_bindings P w c) (vV 0)) (vV 5))) (dName 4))
 (sSeq (sAsg (vCall (sp_typed_strokes P w c) [] E2 (vCons (vV 4) (vCons (vV 2) (vCons (vV 3) (vNil))))) (dName 6))
 (sSeq (sAsg (vComp [8] (wSeq (vV 4)) (dName 8) (vYes) (vTup (vCons (vC (.str "command")) (vCons (vOp gIx (vV 8) (vC (.int 2))) (vNil))))) (dName 7))
 (sSeq (sAsg (vLstM (vNil)) (dName 9))
 (sSeq (sFor (wRng2 (vCons (vC (.int 1)) (vCons (vOp gAdd (vC (.int 99)) (vC (.int 1))) (vNil)))) (dName 10) (sSeq (sAsg (vCall (sp_play_all P w c) [] E2 (vCons (vMeth c.KeyMap "with_wait" (sp_KeyMap_with_wait P w c) [] E2 (vV 0) (vCons (vV 10) (vNil))) (vCons (vV 6) (vNil)))) (dName 11))
 (sIf (vTest (vOp gEq (vComp [12, 13, 14] (wSeq (vV 11)) (dTup 4 (dCons (dName 12) (dCons (dName 13) (dCons (dName 14) (dCons (dName 13) (dNil)))))) (vYes) (vTup (vCons (vV 12) (vCons (vV 14) (vNil))))) (vV 7))) (sDrop (vBM "list" gAppend (vV 9) (vCons (vV 10) (vNil)))) (sNext))))
 (sRet (vFrz (vV 9))))))))))
def sp_good_waits (P : Program) (w : World) (c : Cs) : Sp2 := spOf 4 N_good_waits (T_good_waits P w c)
def N_law_dice : List Str := ["_law_script", "_law_mixed", "_law_cell"]
def T_law_dice (P : Program) (w : World) (c : Cs) (E2 : DXS) : DS :=
 sSeq (sAsg (vC (.int 0)) (dName 1))
 (sSeq (sFor (wSeq (vV 0)) (dName 2) (sAsg (vOp gMod (vOp gAdd (vOp gAdd (vOp gMul (vV 1) (vC (.int 48271))) (vOp gMul (vOp gMod (vCB gInt (vCons (vV 2) (vNil))) (vC (.int 2147483647))) (vC (.int 69621)))) (vC (.int 11))) (vC (.int 2147483647))) (dName 1)))
 (sRet (vLstM (vCons (vV 0) (vCons (vC (.int 0)) (vCons (vOp gMul (vV 1) (vCB gInt (vCons (vOp gGt (vCB gLen (vCons (vV 0) (vNil))) (vC (.int 2))) (vNil)))) (vCons (vC (.int 0)) (vNil))))))))
def sp_law_dice (P : Program) (w : World) (c : Cs) : Sp2 := spOf 1 N_law_dice (T_law_dice P w c)
def N_law_next : List Str := ["_law_dice_here", "_law_many", "_law_found", "_law_cell"]
def T_law_next (P : Program) (w : World) (c : Cs) (E2 : DXS) : DS :=
 sSeq (sIf (vTest (vOp gGt (vOp gIx (vV 0) (vC (.int 3))) (vC (.int 0)))) (sSeq (sAsg (vOp gMod (vCB gInt (vCons (vOp gIx (vV 0) (vC (.int 3))) (vNil))) (vV 1)) (dName 2))
 (sSeq (sAsg (vOp gFdiv (vOp gIx (vV 0) (vC (.int 3))) (vV 1)) (dSubL (vV 0) (vC (.int 3))))
 (sRet (vV 2)))) (sNext))
 (sSeq (sAsg (vOp gAdd (vOp gIx (vV 0) (vC (.int 1))) (vC (.int 1))) (dSubL (vV 0) (vC (.int 1))))
 (sSeq (sIf (vTest (vOp gLe (vOp gIx (vV 0) (vC (.int 1))) (vCB gLen (vCons (vOp gIx (vV 0) (vC (.int 0))) (vNil))))) (sSeq (sAsg (vOp gIx (vOp gIx (vV 0) (vC (.int 0))) (vOp gSub (vOp gIx (vV 0) (vC (.int 1))) (vC (.int 1)))) (dName 3))
 (sSeq (sAsg (vIf (vTest (vOp gGe (vV 3) (vOp gPow (vC (.int 10)) (vC (.int 18))))) (vOp gFdiv (vV 3) (vV 1)) (vC (.int 0))) (dSubL (vV 0) (vC (.int 3))))
 (sRet (vOp gMod (vCB gInt (vCons (vV 3) (vNil))) (vV 1))))) (sNext))
 (sSeq (sAsg (vOp gMod (vCB gInt (vCons (vOp gMul (vOp gIx (vV 0) (vC (.int 2))) (vC (.int 48271))) (vNil))) (vC (.int 2147483647))) (dSubL (vV 0) (vC (.int 2))))
 (sRet (vOp gMod (vOp gFdiv (vOp gIx (vV 0) (vC (.int 2))) (vC (.int 7))) (vV 1))))))
def sp_law_next (P : Program) (w : World) (c : Cs) : Sp2 := spOf 2 N_law_next (T_law_next P w c)
def N_law_like : List Str := ["_law_found", "_law_due", "_law_k"]
def T_law_like (P : Program) (w : World) (c : Cs) (r_law_like : Sp2) (E2 : DXS) : DS :=
 sSeq (sIf (vOr (vTru (vCB gIsi (vCons (vV 1) (vCons (vC (.ty "tuple")) (vNil))))) (vTru (vCB gIsi (vCons (vV 1) (vCons (vC (.ty "list")) (vNil)))))) (sSeq (sIf (vTest (vOp gNe (vCB gIsi (vCons (vV 0) (vCons (vC (.ty "tuple")) (vNil)))) (vCB gIsi (vCons (vV 1) (vCons (vC (.ty "tuple")) (vNil)))))) (sRet (vC (.bl false))) (sNext))
 (sSeq (sIf (vOr (vTest (vOp gNe (vCB gIsi (vCons (vV 0) (vCons (vC (.ty "list")) (vNil)))) (vCB gIsi (vCons (vV 1) (vCons (vC (.ty "list")) (vNil)))))) (vTest (vOp gNe (vCB gLen (vCons (vV 0) (vNil))) (vCB gLen (vCons (vV 1) (vNil)))))) (sRet (vC (.bl false))) (sNext))
 (sRet (vOp gEq (vComp [2] (wRng1 (vCons (vCB gLen (vCons (vV 1) (vNil))) (vNil))) (dName 2) (vNot (vTru (vCall r_law_like [] noX (vCons (vOp gIx (vV 0) (vV 2)) (vCons (vOp gIx (vV 1) (vV 2)) (vNil)))))) (vV 2)) (vLst (vNil)))))) (sNext))
 (sSeq (sIf (vTest (vOp gNe (vCB gIsi (vCons (vV 0) (vCons (vC (.ty "bool")) (vNil)))) (vCB gIsi (vCons (vV 1) (vCons (vC (.ty "bool")) (vNil)))))) (sRet (vC (.bl false))) (sNext))
 (sSeq (sIf (vOr (vTest (vOp gNe (vCB gIsi (vCons (vV 0) (vCons (vC (.ty "int")) (vNil)))) (vCB gIsi (vCons (vV 1) (vCons (vC (.ty "int")) (vNil)))))) (vTest (vOp gNe (vCB gIsi (vCons (vV 0) (vCons (vC (.ty "str")) (vNil)))) (vCB gIsi (vCons (vV 1) (vCons (vC (.ty "str")) (vNil))))))) (sRet (vC (.bl false))) (sNext))
 (sRet (vOp gEq (vV 0) (vV 1)))))
def spn_law_like (P : Program) (w : World) (c : Cs) : Nat → Nat → Sp2
  | 0, _ => spNo
  | n + 1, 0 => spOf 2 N_law_like (T_law_like P w c (spn_law_like P w c n 0))
  | _ + 1, _ => spNo
abbrev sp_law_like (P : Program) (w : World) (c : Cs) : Sp2 := spn_law_like P w c 40 0
def N_law_pick : List Str := ["_law_d", "_law_some"]
def T_law_pick (P : Program) (w : World) (c : Cs) (E2 : DXS) : DS :=
 sRet (vOp gIx (vV 1) (vCall (sp_law_next P w c) [] E2 (vCons (vV 0) (vCons (vCB gLen (vCons (vV 1) (vNil))) (vNil)))))
def sp_law_pick (P : Program) (w : World) (c : Cs) : Sp2 := spOf 2 N_law_pick (T_law_pick P w c)
def N_law_keys : List Str := ["_law_d", "_law_letters", "_law_most", "_law_k"]
def T_law_keys (P : Program) (w : World) (c : Cs) (E2 : DXS) : DS :=
 sRet (vBM "str" gJoin (vC (.str "")) (vCons (vComp [3] (wRng1 (vCons (vOp gAdd (vC (.int 1)) (vCall (sp_law_next P w c) [] E2 (vCons (vV 0) (vCons (vV 2) (vNil))))) (vNil))) (dName 3) (vYes) (vCall (sp_law_pick P w c) [] noX (vCons (vV 0) (vCons (vV 1) (vNil))))) (vNil)))
def sp_law_keys (P : Program) (w : World) (c : Cs) : Sp2 := spOf 3 N_law_keys (T_law_keys P w c)
def N_law_map : List Str := ["_law_d", "_law_modes", "_law_letters", "_law_rows", "_law_most", "_law_wait", "_law_names", "_law_found", "_law_seen", "_law_k", "_law_mode", "_law_keys_here", "_law_command"]
def T_law_map (P : Program) (w : World) (c : Cs) (E2 : DXS) : DS :=
 sSeq (sAsg (vCB gTupOf (vCons (vSl (vLst (vCons (vC (.str "n")) (vCons (vC (.str "i")) (vCons (vC (.str "vv")) (vCons (vC (.str "omega")) (vNil)))))) (vNoPart) (vPart (vOp gAdd (vC (.int 1)) (vCall (sp_law_next P w c) [] E2 (vCons (vV 0) (vCons (vV 1) (vNil))))))) (vNil))) (dName 6))
 (sSeq (sPar 7 8 (vCons (vLstM (vNil)) (vCons (vLstM (vNil)) (vNil))))
 (sSeq (sFor (wRng1 (vCons (vCall (sp_law_next P w c) [] E2 (vCons (vV 0) (vCons (vOp gAdd (vV 3) (vC (.int 1))) (vNil)))) (vNil))) (dName 9) (sSeq (sPar 10 11 (vCons (vCall (sp_law_pick P w c) [] E2 (vCons (vV 0) (vCons (vV 6) (vNil)))) (vCons (vCall (sp_law_keys P w c) [] E2 (vCons (vV 0) (vCons (vV 2) (vCons (vV 4) (vNil))))) (vNil))))
 (sIf (vTest (vOp (gIn true) (vTup (vCons (vV 10) (vCons (vV 11) (vNil)))) (vV 8))) (sSeq (sDrop (vBM "list" gAppend (vV 8) (vCons (vTup (vCons (vV 10) (vCons (vV 11) (vNil)))) (vNil))))
 (sSeq (sAsg (vCall (sp_law_pick P w c) [] E2 (vCons (vV 0) (vCons (vLst (vCons (vC (.str "go")) (vCons (vC (.str "stop")) (vCons (vC (.str "up")) (vCons (vC (.str "down")) (vCons (vC (.str "find")) (vNil))))))) (vNil)))) (dName 12))
 (sDrop (vBM "list" gAppend (vV 7) (vCons (vTup (vCons (vV 10) (vCons (vV 11) (vCons (vV 12) (vCons (vCall (sp_law_pick P w c) [] E2 (vCons (vV 0) (vCons (vLst (vCons (vV 10) (vCons (vV 10) (vCons (vCall (sp_law_pick P w c) [] E2 (vCons (vV 0) (vCons (vV 6) (vNil)))) (vNil))))) (vNil)))) (vNil)))))) (vNil)))))) (sNext))))
 (sRet (vTup (vCons (vV 6) (vCons (vOp gAdd (vC (.int 1)) (vCall (sp_law_next P w c) [] E2 (vCons (vV 0) (vCons (vV 5) (vNil))))) (vCons (vCB gTupOf (vCons (vV 7) (vNil))) (vNil))))))))
def sp_law_map (P : Program) (w : World) (c : Cs) : Sp2 := spOf 6 N_law_map (T_law_map P w c)
def N_law_broken : List Str := ["_law_rows", "_law_mode", "_law_held", "_law_tick", "_law_made_here", "_law_word", "_law_best", "_law_key", "_law_when", "_law_row"]
def T_law_broken (P : Program) (w : World) (c : Cs) (E2 : DXS) : DS :=
 sSeq (sPar 5 6 (vCons (vBM "str" gJoin (vC (.str "")) (vCons (vComp [7, 8] (wSeq (vV 2)) (dTup 2 (dCons (dName 7) (dCons (dName 8) (dNil)))) (vYes) (vV 7)) (vNil))) (vCons (vC .non) (vNil))))
 (sSeq (sFor (wSeq (vV 0)) (dName 9) (sIf (vAnd (vTest (vOp gEq (vOp gIx (vV 9) (vC (.int 0))) (vV 1))) (vAnd (vTru (vBM "str" gStarts (vV 5) (vCons (vOp gIx (vV 9) (vC (.int 1))) (vNil)))) (vOr (vTest (vOp gIsN (vV 6) (vC .non))) (vTest (vOp gGt (vCB gLen (vCons (vOp gIx (vV 9) (vC (.int 1))) (vNil))) (vCB gLen (vCons (vOp gIx (vV 6) (vC (.int 1))) (vNil)))))))) (sAsg (vV 9) (dName 6)) (sNext)))
 (sSeq (sIf (vTest (vOp gIsN (vV 6) (vC .non))) (sSeq (sDrop (vBM "list" gAppend (vV 4) (vCons (vTup (vCons (vC (.str "lost")) (vCons (vV 3) (vCons (vOp gIx (vOp gIx (vV 2) (vC (.int 0))) (vC (.int 0))) (vCons (vOp gIx (vOp gIx (vV 2) (vC (.int 0))) (vC (.int 1))) (vNil)))))) (vNil))))
 (sRet (vTup (vCons (vV 1) (vCons (vSl (vV 2) (vPart (vC (.int 1))) (vNoPart)) (vNil)))))) (sNext))
 (sSeq (sDrop (vBM "list" gAppend (vV 4) (vCons (vTup (vCons (vC (.str "command")) (vCons (vV 3) (vCons (vOp gIx (vV 6) (vC (.int 2))) (vCons (vOp gIx (vOp gIx (vV 2) (vOp gSub (vCB gLen (vCons (vOp gIx (vV 6) (vC (.int 1))) (vNil))) (vC (.int 1)))) (vC (.int 1))) (vNil)))))) (vNil))))
 (sRet (vTup (vCons (vOp gIx (vV 6) (vC (.int 3))) (vCons (vSl (vV 2) (vPart (vCB gLen (vCons (vOp gIx (vV 6) (vC (.int 1))) (vNil)))) (vNoPart)) (vNil))))))))
def sp_law_broken (P : Program) (w : World) (c : Cs) : Sp2 := spOf 5 N_law_broken (T_law_broken P w c)
def N_law_grown : List Str := ["_law_parts", "_law_state", "_law_keys_here", "_law_tick", "_law_made_here", "_law_rows", "_law_mode", "_law_held", "_law_fed", "_law_todo", "_law_word", "_law_key", "_law_when", "_law_longer", "_law_row", "_law_rest"]
def T_law_grown (P : Program) (w : World) (c : Cs) (E2 : DXS) : DS :=
 sSeq (sAsg (vOp gIx (vV 0) (vC (.int 2))) (dName 5))
 (sSeq (sAsg (vV 1) (dTup 3 (dCons (dName 6) (dCons (dName 7) (dCons (dName 8) (dNil))))))
 (sSeq (sAsg (vCB gList (vCons (vV 2) (vNil))) (dName 9))
 (sSeq (sWhile (vTest (vOp gNe (vV 9) (vLst (vNil)))) (sSeq (sPar3 7 9 8 (vCons (vOp gAdd (vV 7) (vLst (vCons (vOp gIx (vV 9) (vC (.int 0))) (vNil)))) (vCons (vSl (vV 9) (vPart (vC (.int 1))) (vNoPart)) (vCons (vV 3) (vNil)))))
 (sSeq (sAsg (vBM "str" gJoin (vC (.str "")) (vCons (vComp [11, 12] (wSeq (vV 7)) (dTup 2 (dCons (dName 11) (dCons (dName 12) (dNil)))) (vYes) (vV 11)) (vNil))) (dName 10))
 (sSeq (sAsg (vComp [14] (wSeq (vV 5)) (dName 14) (vAnd (vTest (vOp gEq (vOp gIx (vV 14) (vC (.int 0))) (vV 6))) (vAnd (vTru (vBM "str" gStarts (vOp gIx (vV 14) (vC (.int 1))) (vCons (vV 10) (vNil)))) (vTest (vOp gNe (vOp gIx (vV 14) (vC (.int 1))) (vV 10))))) (vV 14)) (dName 13))
 (sIf (vTest (vOp gEq (vV 13) (vLst (vNil)))) (sSeq (sAsg (vCall (sp_law_broken P w c) [] E2 (vCons (vV 5) (vCons (vV 6) (vCons (vV 7) (vCons (vV 3) (vCons (vV 4) (vNil))))))) (dTup 2 (dCons (dName 6) (dCons (dName 15) (dNil)))))
 (sPar 7 9 (vCons (vLst (vNil)) (vCons (vOp gAdd (vV 15) (vV 9)) (vNil))))) (sNext))))))
 (sRet (vTup (vCons (vV 6) (vCons (vV 7) (vCons (vV 8) (vNil)))))))))
def sp_law_grown (P : Program) (w : World) (c : Cs) : Sp2 := spOf 5 N_law_grown (T_law_grown P w c)
def N_law_passed : List Str := ["_law_parts", "_law_state", "_law_until", "_law_made_here", "_law_tick", "_law_mode", "_law_rest"]
def T_law_passed (P : Program) (w : World) (c : Cs) (E2 : DXS) : DS :=
 sSeq (sWhile (vAnd (vTest (vOp gNe (vOp gIx (vV 1) (vC (.int 1))) (vLst (vNil)))) (vOr (vTest (vOp gIsN (vV 2) (vC .non))) (vTest (vOp gLe (vOp gAdd (vOp gIx (vV 1) (vC (.int 2))) (vOp gIx (vV 0) (vC (.int 1)))) (vV 2))))) (sSeq (sAsg (vOp gAdd (vOp gIx (vV 1) (vC (.int 2))) (vOp gIx (vV 0) (vC (.int 1)))) (dName 4))
 (sSeq (sAsg (vCall (sp_law_broken P w c) [] E2 (vCons (vOp gIx (vV 0) (vC (.int 2))) (vCons (vOp gIx (vV 1) (vC (.int 0))) (vCons (vOp gIx (vV 1) (vC (.int 1))) (vCons (vV 4) (vCons (vV 3) (vNil))))))) (dTup 2 (dCons (dName 5) (dCons (dName 6) (dNil)))))
 (sAsg (vCall (sp_law_grown P w c) [] E2 (vCons (vV 0) (vCons (vTup (vCons (vV 5) (vCons (vLst (vNil)) (vCons (vV 4) (vNil))))) (vCons (vV 6) (vCons (vV 4) (vCons (vV 3) (vNil))))))) (dName 1)))))
 (sRet (vV 1))
def sp_law_passed (P : Program) (w : World) (c : Cs) : Sp2 := spOf 4 N_law_passed (T_law_passed P w c)
def N_law_events : List Str := ["_law_parts", "_law_strokes", "_law_made_here", "_law_state", "_law_tick", "_law_key"]
def T_law_events (P : Program) (w : World) (c : Cs) (E2 : DXS) : DS :=
 sSeq (sPar 2 3 (vCons (vLstM (vNil)) (vCons (vTup (vCons (vOp gIx (vOp gIx (vV 0) (vC (.int 0))) (vC (.int 0))) (vCons (vLst (vNil)) (vCons (vC (.int 0)) (vNil))))) (vNil))))
 (sSeq (sForG (wAny (vV 1)) (dTup 2 (dCons (dName 4) (dCons (dName 5) (dNil)))) (sSeq (sAsg (vCall (sp_law_passed P w c) [] E2 (vCons (vV 0) (vCons (vV 3) (vCons (vV 4) (vCons (vV 2) (vNil)))))) (dName 3))
 (sAsg (vCall (sp_law_grown P w c) [] E2 (vCons (vV 0) (vCons (vV 3) (vCons (vLst (vCons (vTup (vCons (vV 5) (vCons (vV 4) (vNil)))) (vNil))) (vCons (vV 4) (vCons (vV 2) (vNil))))))) (dName 3))))
 (sSeq (sDrop (vCall (sp_law_passed P w c) [] E2 (vCons (vV 0) (vCons (vV 3) (vCons (vC .non) (vCons (vV 2) (vNil)))))))
 (sRet (vFrz (vV 2)))))
def sp_law_events (P : Program) (w : World) (c : Cs) : Sp2 := spOf 2 N_law_events (T_law_events P w c)
def N_law_made : List Str := ["_law_parts"]
def T_law_made (P : Program) (w : World) (c : Cs) (E2 : DXS) : DS :=
 sRet (vMake c.KeyMap (sp_KeyMap_init__ P w c) [] E2 (vCons (vOp gIx (vV 0) (vC (.int 0))) (vCons (vOp gIx (vV 0) (vC (.int 1))) (vCons (vOp gIx (vV 0) (vC (.int 2))) (vNil)))))
def sp_law_made (P : Program) (w : World) (c : Cs) : Sp2 := spOf 1 N_law_made (T_law_made P w c)
def N_law : List Str := ["_law_script", "_law_d", "_law_turn", "_law_parts", "_law_modes", "_law_wait", "_law_rows", "_law_keymap", "_law_wanted", "_law_k", "_law_inner", "_law_outer", "_law_strokes", "_law_tick", "_law_number", "_law_due", "_law_some", "_law_made_here", "_law_row", "_law_bad", "_law_gap", "_law_work", "_law_one"]
def ts_law (P : Program) (w : World) (c : Cs) : List (DXS → DE) := [fun E2 => vCall (sp_good_waits P w c) [] E2 (vCons (vV 7) (vCons (vOp gAdd (vV 8) (vLst (vCons (vV 19) (vNil)))) (vCons (vV 20) (vCons (vV 20) (vNil))))),
 fun E2 => vCall (sp_good_waits P w c) [] E2 (vCons (vV 7) (vCons (vV 8) (vCons (vV 20) (vCons (vC (.int 0)) (vNil))))),
 fun E2 => vCall (sp_good_waits P w c) [] E2 (vCons (vV 7) (vCons (vV 8) (vCons (vC (.int 0)) (vCons (vV 20) (vNil)))))]
def T_law (P : Program) (w : World) (c : Cs) (A_ : LamA) (E2 : DXS) : DS :=
 sSeq (sAsg (vCall (sp_law_dice P w c) [] E2 (vCons (vV 0) (vNil))) (dName 1))
 (sSeq (sFor (wRng1 (vCons (vC (.int 2)) (vNil))) (dName 2) (sSeq (sAsg (vCall (sp_law_map P w c) [] E2 (vCons (vV 1) (vCons (vC (.int 2)) (vCons (vC (.str "abc")) (vCons (vC (.int 6)) (vCons (vC (.int 4)) (vCons (vC (.int 20)) (vNil)))))))) (dName 3))
 (sSeq (sAsg (vV 3) (dTup 3 (dCons (dName 4) (dCons (dName 5) (dCons (dName 6) (dNil))))))
 (sSeq (sAsg (vCall (sp_law_made P w c) [] E2 (vCons (vV 3) (vNil))) (dName 7))
 (sSeq (sAsg (vComp [9] (wRng1 (vCons (vIf (vTest (vOp gNe (vV 6) (vTup (vNil)))) (vCall (sp_law_next P w c) [] E2 (vCons (vV 1) (vCons (vC (.int 4)) (vNil)))) (vC (.int 0))) (vNil))) (dName 9) (vYes) (vCall (sp_law_next P w c) [] noX (vCons (vV 1) (vCons (vCB gLen (vCons (vV 6) (vNil))) (vNil))))) (dName 8))
 (sSeq (sAsg (vOp gAdd (vV 8) (vOp gRep (vSl (vV 8) (vNoPart) (vPart (vC (.int 1)))) (vCall (sp_law_next P w c) [] E2 (vCons (vV 1) (vCons (vC (.int 2)) (vNil)))))) (dName 8))
 (sSeq (sPar 10 11 (vCons (vCall (sp_law_next P w c) [] E2 (vCons (vV 1) (vCons (vOp gIx (vLst (vCons (vC (.int 4)) (vCons (vC (.int 30)) (vNil)))) (vCall (sp_law_next P w c) [] E2 (vCons (vV 1) (vCons (vC (.int 2)) (vNil))))) (vNil)))) (vCons (vCall (sp_law_next P w c) [] E2 (vCons (vV 1) (vCons (vOp gIx (vLst (vCons (vC (.int 9)) (vCons (vC (.int 100)) (vNil)))) (vCall (sp_law_next P w c) [] E2 (vCons (vV 1) (vCons (vC (.int 2)) (vNil))))) (vNil)))) (vNil))))
 (sSeq (sPar 12 13 (vCons (vLstM (vNil)) (vCons (vC (.int 0)) (vNil))))
 (sSeq (sFor (wSeq (vV 8)) (dName 14) (sFor (wRng1 (vCons (vCB gLen (vCons (vOp gIx (vOp gIx (vV 6) (vV 14)) (vC (.int 1))) (vNil))) (vNil))) (dName 9) (sSeq (sIf (vTest (vOp gNeM (vV 12) (vLst (vNil)))) (sAsg (vOp gAdd (vV 13) (vIf (vTest (vOp gGt (vV 9) (vC (.int 0)))) (vV 10) (vV 11))) (dName 13)) (sNext))
 (sDrop (vBM "list" gAppend (vV 12) (vCons (vTup (vCons (vV 13) (vCons (vOp gIx (vOp gIx (vOp gIx (vV 6) (vV 14)) (vC (.int 1))) (vV 9)) (vNil)))) (vNil)))))))
 (sSeq (sAsg (vLstM (vNil)) (dName 15))
 (sSeq (sFor (wRng2 (vCons (vC (.int 1)) (vCons (vC (.int 100)) (vNil)))) (dName 16) (sSeq (sAsg (vCall (sp_law_events P w c) [] E2 (vCons (vTup (vCons (vV 4) (vCons (vV 16) (vCons (vV 6) (vNil))))) (vCons (vV 12) (vNil)))) (dName 17))
 (sIf (vTest (vOp gEq (vComp [18] (wSeq (vV 17)) (dName 18) (vYes) (vTup (vCons (vOp gIx (vV 18) (vC (.int 0))) (vCons (vOp gIx (vV 18) (vC (.int 2))) (vNil))))) (vComp [14] (wSeq (vV 8)) (dName 14) (vYes) (vTup (vCons (vC (.str "command")) (vCons (vOp gIx (vOp gIx (vV 6) (vV 14)) (vC (.int 2))) (vNil))))))) (sDrop (vBM "list" gAppend (vV 15) (vCons (vV 16) (vNil)))) (sNext))))
 (sSeq (sIf (vNot (vTru (vCall (sp_law_like P w c) [] E2 (vCons (vCall (sp_good_waits P w c) [] E2 (vCons (vV 7) (vCons (vV 8) (vCons (vV 10) (vCons (vV 11) (vNil)))))) (vCons (vFrz (vV 15)) (vNil)))))) (sRet (vC (.bl false))) (sNext))
 (sSeq (sAsg (vTup (vCons (vCall (sp_law_pick P w c) [] E2 (vCons (vV 1) (vCons (vLst (vCons (vUn gNeg (vC (.int 1))) (vCons (vCB gLen (vCons (vV 6) (vNil))) (vCons (vC .non) (vCons (vC (.bl true)) (vNil)))))) (vNil)))) (vCons (vCall (sp_law_pick P w c) [] E2 (vCons (vV 1) (vCons (vLst (vCons (vUn gNeg (vC (.int 1))) (vCons (vC (.int 100)) (vCons (vC .non) (vCons (vC (.bl true)) (vNil)))))) (vNil)))) (vNil)))) (dTup 2 (dCons (dName 19) (dCons (dName 20) (dNil)))))
 (sSeq (sAsg (vLstM (vCons (vLamA c.tab lamQ A_ 0) (vCons (vLamA c.tab lamQ A_ 1) (vNil)))) (dName 21))
 (sSeq (sDrop (vBM "list" gAppend (vV 21) (vCons (vLamA c.tab lamQ A_ 2) (vNil))))
 (sSeq (sAsg (vOp gAdd (vLst (vCons (vTup (vCons (vC (.str "error")) (vCons (vC (.str "UnknownBinding")) (vCons (vV 19) (vNil))))) (vNil))) (vOp gRep (vLst (vCons (vTup (vCons (vC (.str "error")) (vCons (vC (.str "InvalidGap")) (vNil)))) (vNil))) (vC (.int 2)))) (dName 15))
 (sIf (vTest (vOp gNeM (vTells [22] (wSeq (vFrz (vV 21))) (dName 22) (vItemA A_ (ts_law P w c) (tt_law_told P w c) 22)) (vV 15))) (sRet (vC (.bl false))) (sNext))))))))))))))))))
 (sRet (vC (.bl true))))
def sp_law (P : Program) (w : World) (c : Cs) : Sp2 := fun ds μ Q E => ds.length = 1 ∧ ∀ A_ : LamA, T_law P w c A_ (fun C d _ μ => E C d μ) { nx := fun _ μ2 => Q .non μ2, rt := Q } (dstart N_law ds) μ
end Lw

set_option Elab.async false
set_option linter.all false
set_option maxRecDepth 100000
/-! the readings as rules for simp: fully applied -/
namespace Wl
open PySem L2
section
variable {δ : DSt} {μ : Mu} {Q : DV} {QT : Bool → Mu → Prop} {QA : List Dv → Mu → Prop} {QS : DSt → Mu → Prop} {QO : Option Int → Mu → Prop} {D : DEnds} {i j : Int} {a : Addr} {x y : Str} {xs ys : List Dv} {b : Bool} {d d' : Dv} {T : String}
@[simp] theorem e_V {n : Nat} : vV n δ μ Q ↔ ∃ d, δ[n]? = some (some d) ∧ Q d μ := Iff.rfl
@[simp] theorem e_C : vC d δ μ Q ↔ Q d μ := Iff.rfl
@[simp] theorem e_Op {f : D2} {ta tb : DE} : vOp f ta tb δ μ Q ↔ ta δ μ fun x μ1 => tb δ μ1 fun y μ2 => f x y μ2 Q := Iff.rfl
@[simp] theorem e_Un {f : D1} {ta : DE} : vUn f ta δ μ Q ↔ ta δ μ fun x μ1 => f x μ1 Q := Iff.rfl
@[simp] theorem e_CB {f : DC} {t : DA} : vCB f t δ μ Q ↔ t δ μ fun xs μ1 => f xs μ1 Q := Iff.rfl
@[simp] theorem e_Nil : vNil δ μ QA ↔ QA [] μ := Iff.rfl
@[simp] theorem e_Cons {t : DE} {r : DA} : vCons t r δ μ QA ↔ t δ μ fun x μ1 => r δ μ1 fun xs μ2 => QA (x :: xs) μ2 := Iff.rfl
@[simp] theorem e_Tup {t : DA} : vTup t δ μ Q ↔ t δ μ fun xs μ1 => xs.length ≤ sizeLine ∧ Q (.tup xs) μ1 := Iff.rfl
@[simp] theorem e_Lst {t : DA} : vLst t δ μ Q ↔ t δ μ fun xs μ1 => xs.length ≤ sizeLine ∧ Q (.lst xs) μ1 := Iff.rfl
@[simp] theorem e_LstM {t : DA} : vLstM t δ μ Q ↔ t δ μ fun xs μ1 => xs.length ≤ sizeLine ∧ ∀ p, μ1 p = none → Q (.ref p) (mset μ1 p (.lst xs)) := Iff.rfl
/-- a test of a value -/
def tst (x : Dv) (Q : Bool → Prop) : Prop := match x with | .bl k => Q k | _ => False
@[simp] theorem tst_bl {Q : Bool → Prop} : tst (.bl b) Q ↔ Q b := Iff.rfl
@[simp] theorem e_Test {t : DE} : vTest t δ μ QT ↔ t δ μ fun x μ1 => tst x fun k => QT k μ1 := Iff.rfl
@[simp] theorem e_Tru {t : DE} : vTru t δ μ QT ↔ t δ μ fun x μ1 => gTru x μ1 fun k => QT k μ1 := Iff.rfl
@[simp] theorem tru_bl {Q : Bool → Prop} : gTru (.bl b) μ Q ↔ Q b := Iff.rfl
@[simp] theorem tru_str {Q : Bool → Prop} : gTru (.str x) μ Q ↔ x.length ≤ sizeLine ∧ Q ((x.length : Int) != 0) := Iff.rfl
@[simp] theorem e_Not {t : DT} : vNot t δ μ QT ↔ t δ μ fun b μ1 => QT (!b) μ1 := Iff.rfl
@[simp] theorem e_And {t s : DT} : vAnd t s δ μ QT ↔ t δ μ fun b μ1 => if b = true then s δ μ1 QT else QT false μ1 := Iff.rfl
@[simp] theorem e_Or {t s : DT} : vOr t s δ μ QT ↔ t δ μ fun b μ1 => if b = true then QT true μ1 else s δ μ1 QT := Iff.rfl
@[simp] theorem e_If {t : DT} {ta tb : DE} : vIf t ta tb δ μ Q ↔ t δ μ fun b μ1 => if b = true then ta δ μ1 Q else tb δ μ1 Q := Iff.rfl
@[simp] theorem truth_bl {Q : Bool → Prop} : vTruth (.bl b) Q ↔ Q b := Iff.rfl
@[simp] theorem e_AndV {ta tb : DE} : vAndV ta tb δ μ Q ↔ ta δ μ fun x μ1 => vTruth x fun c => if c = true then tb δ μ1 Q else Q (.bl false) μ1 := Iff.rfl
@[simp] theorem e_NotV {ta : DE} : vNotV ta δ μ Q ↔ ta δ μ fun x μ1 => vTruth x fun c => Q (.bl (!c)) μ1 := Iff.rfl
/-- the second half of a chain -/
def chn (f' : D2) (tc : DE) (δ : DSt) (y : Dv) (Q : DV) (z : Dv) (μ : Mu) : Prop := match z with
  | .bl true => tc δ μ fun w' μ4 => f' y w' μ4 Q
  | .bl false => Q (.bl false) μ
  | _ => False
@[simp] theorem chn_bl {f' : D2} {tc : DE} : chn f' tc δ d Q (.bl b) μ ↔ if b = true then tc δ μ fun w' μ4 => f' d w' μ4 Q else Q (.bl false) μ := by cases b <;> exact Iff.rfl
@[simp] theorem e_Chain {f f' : D2} {ta tb tc : DE} : vChain f f' ta tb tc δ μ Q ↔ ta δ μ fun x μ1 => tb δ μ1 fun y μ2 => f x y μ2 fun z μ3 => chn f' tc δ y Q z μ3 := Iff.rfl
@[simp] theorem e_Call {sp : Sp2} {dds : List Dv} {E2 : DXS} {t : DA} : vCall sp dds E2 t δ μ Q ↔ t δ μ fun xs μ1 => sp (xs ++ dds) μ1 Q fun C d μ2 => E2 C d δ μ2 := Iff.rfl
@[simp] theorem e_Sl {te : DE} {tl th : DO} : vSl te tl th δ μ Q ↔ te δ μ fun x μ1 => tl δ μ1 fun l μ2 => th δ μ2 fun h μ3 => gSl x l h μ3 Q := Iff.rfl
@[simp] theorem e_NoPart : vNoPart δ μ QO ↔ QO none μ := Iff.rfl
def prt (x : Dv) (Q : Option Int → Prop) : Prop := match x with | .int i => Q (some i) | _ => False
@[simp] theorem prt_int {Q : Option Int → Prop} : prt (.int i) Q ↔ Q (some i) := Iff.rfl
@[simp] theorem e_Part {t : DE} : vPart t δ μ QO ↔ t δ μ fun x μ1 => prt x fun o => QO o μ1 := Iff.rfl
@[simp] theorem sl_str {lo hi : Option Int} : gSl (.str x) lo hi μ Q ↔ x.length ≤ sizeLine ∧ Q (.str (cutS x lo hi)) μ := Iff.rfl
@[simp] theorem sl_tup {lo hi : Option Int} : gSl (.tup xs) lo hi μ Q ↔ Q (.tup (dcut xs lo hi)) μ := Iff.rfl
@[simp] theorem sl_lst {lo hi : Option Int} : gSl (.lst xs) lo hi μ Q ↔ Q (.lst (dcut xs lo hi)) μ := Iff.rfl
-- operations on values
@[simp] theorem o_add : gAdd (.int i) (.int j) μ Q ↔ Q (.int (i + j)) μ := Iff.rfl
@[simp] theorem o_addS : gAdd (.str x) (.str y) μ Q ↔ x.length + y.length ≤ sizeLine ∧ Q (.str (x ++ y)) μ := Iff.rfl
@[simp] theorem o_addL : gAdd (.lst xs) (.lst ys) μ Q ↔ xs.length + ys.length ≤ sizeLine ∧ Q (.lst (xs ++ ys)) μ := Iff.rfl
@[simp] theorem o_sub : Wl.gSub (.int i) (.int j) μ Q ↔ Q (.int (i - j)) μ := Iff.rfl
@[simp] theorem o_mul : gMul (.int i) (.int j) μ Q ↔ CMul i j ∧ Q (.int (i * j)) μ := Iff.rfl
@[simp] theorem o_div : gFdiv (.int i) (.int j) μ Q ↔ CDiv i j ∧ Q (.int (i / j)) μ := Iff.rfl
@[simp] theorem o_mod : gMod (.int i) (.int j) μ Q ↔ 0 < j ∧ Q (.int (i % j)) μ := Iff.rfl
@[simp] theorem o_pow : gPow (.int i) (.int j) μ Q ↔ CPow i j ∧ Q (.int (i ^ j.toNat)) μ := Iff.rfl
@[simp] theorem o_lt : gLt (.int i) (.int j) μ Q ↔ Q (.bl (decide (i < j))) μ := Iff.rfl
@[simp] theorem o_le : gLe (.int i) (.int j) μ Q ↔ Q (.bl (decide (i ≤ j))) μ := Iff.rfl
@[simp] theorem o_gt : gGt (.int i) (.int j) μ Q ↔ Q (.bl (decide (j < i))) μ := Iff.rfl
@[simp] theorem o_ge : gGe (.int i) (.int j) μ Q ↔ Q (.bl (decide (j ≤ i))) μ := Iff.rfl
@[simp] theorem o_neg : gNeg (.int i) μ Q ↔ Q (.int (-i)) μ := Iff.rfl
@[simp] theorem o_int : gInt [.int i] μ Q ↔ Q (.int i) μ := Iff.rfl
@[simp] theorem o_len {d : Dv} : gLen [d] μ Q ↔ gLen1 d μ Q := Iff.rfl
@[simp] theorem len_str : gLen1 (.str x) μ Q ↔ x.length ≤ sizeLine ∧ Q (.int x.length) μ := Iff.rfl
@[simp] theorem len_tup : gLen1 (.tup xs) μ Q ↔ Q (.int xs.length) μ := Iff.rfl
@[simp] theorem len_lst : gLen1 (.lst xs) μ Q ↔ Q (.int xs.length) μ := Iff.rfl
@[simp] theorem len_rol : gLen1 (.rol xs) μ Q ↔ Q (.int xs.length) μ := Iff.rfl
@[simp] theorem len_ref : gLen1 (.ref a) μ Q ↔ ∃ xs, μ a = some (.lst xs) ∧ Q (.int xs.length) μ := Iff.rfl
@[simp] theorem ix_ref : gIx (.ref a) (.int i) μ Q ↔ ∃ xs d, μ a = some (.lst xs) ∧ atI xs i = some d ∧ Q d μ := Iff.rfl
@[simp] theorem ix_tup : gIx (.tup xs) (.int i) μ Q ↔ ∃ d, atI xs i = some d ∧ Q d μ := Iff.rfl
@[simp] theorem ix_lst : gIx (.lst xs) (.int i) μ Q ↔ ∃ d, atI xs i = some d ∧ Q d μ := Iff.rfl
@[simp] theorem ix_rol : gIx (.rol xs) (.int i) μ Q ↔ ∃ d, atI xs i = some d ∧ Q d μ := Iff.rfl
@[simp] theorem ix_str : gIx (.str x) (.int i) μ Q ↔ x.length ≤ sizeLine ∧ ∃ c, atI x.cps.toList i = some c ∧ Q (.str ⟨#[c]⟩) μ := Iff.rfl
@[simp] theorem isi_ {d : Dv} : gIsi [d, .ty T] μ Q ↔ ∃ n b, tyName d μ = some n ∧ kitB n T = some b ∧ Q (.bl b) μ := Iff.rfl
@[simp] theorem isN_ : gIsN d .non μ Q ↔ Q (.bl (isNo d)) μ := Iff.rfl
@[simp] theorem notN_ : gNotN d .non μ Q ↔ Q (.bl (!isNo d)) μ := Iff.rfl
@[simp] theorem eq_ : gEq d d' μ Q ↔ eqOk d d' ∧ Q (.bl (dEq d d')) μ := Iff.rfl
@[simp] theorem ne_ : gNe d d' μ Q ↔ eqOk d d' ∧ Q (.bl (!dEq d d')) μ := Iff.rfl
@[simp] theorem kit_int : kitB "int" "int" = some true := by decide +kernel
@[simp] theorem kit_ib : kitB "int" "bool" = some false := by decide +kernel
@[simp] theorem kit_str : kitB "str" "str" = some true := by decide +kernel
@[simp] theorem kit_tup : kitB "tuple" "tuple" = some true := by decide +kernel
@[simp] theorem kit_lst : kitB "list" "list" = some true := by decide +kernel
-- statements
@[simp] theorem s_Seq {t u : DS} : sSeq t u D δ μ ↔ t { D with nx := u D } δ μ := Iff.rfl
@[simp] theorem s_Next : sNext D δ μ ↔ D.nx δ μ := Iff.rfl
@[simp] theorem s_Ret {t : DE} : sRet t D δ μ ↔ t δ μ D.rt := Iff.rfl
@[simp] theorem s_Drop {t : DE} : sDrop t D δ μ ↔ t δ μ fun _ μ1 => D.nx δ μ1 := Iff.rfl
@[simp] theorem s_If {c : DT} {t u : DS} : sIf c t u D δ μ ↔ c δ μ fun b μ1 => if b = true then t D δ μ1 else u D δ μ1 := Iff.rfl
@[simp] theorem s_Never : sNever D δ μ ↔ False := Iff.rfl
@[simp] theorem s_Asg {t : DE} {g : DG} : sAsg t g D δ μ ↔ t δ μ fun x μ1 => g x δ μ1 D.nx := Iff.rfl
@[simp] theorem g_Name {n : Nat} : dName n d δ μ QS ↔ QS (δ.set n (some d)) μ := Iff.rfl
@[simp] theorem g_SubL {to ti : DE} : dSubL to ti d δ μ QS ↔ to δ μ fun o μ1 => ti δ μ1 fun i μ2 => gSetL o i d μ2 fun μ3 => QS δ μ3 := Iff.rfl
@[simp] theorem setL_ref {Q : Mu → Prop} : gSetL (.ref a) (.int i) d μ Q ↔ ∃ xs j, μ a = some (.lst xs) ∧ ixN xs.length i = some j ∧ Q (mset μ a (.lst (xs.set j d))) := Iff.rfl
@[simp] theorem s_Par2 {m n : Nat} {t u : DE} : sPar m n (vCons t (vCons u vNil)) D δ μ ↔ t δ μ fun v μ1 => u δ μ1 fun w μ2 => D.nx ((δ.set m (some v)).set n (some w)) μ2 := Iff.rfl
@[simp] theorem s_Par3 {m n l : Nat} {t u v : DE} : sPar3 m n l (vCons t (vCons u (vCons v vNil))) D δ μ ↔ t δ μ fun x μ1 => u δ μ1 fun y μ2 => v δ μ2 fun z μ3 => D.nx (((δ.set m (some x)).set n (some y)).set l (some z)) μ3 := Iff.rfl
@[simp] theorem s_For {wi : DI} {g : DG} {tb : DS} : sFor wi g tb D δ μ ↔ wi δ μ fun ds μ1 => sLoop g tb ds D δ μ1 := Iff.rfl
@[simp] theorem g_Tup {n : Nat} {t : DGs} : dTup n t (.tup xs) δ μ QS ↔ xs.length = n ∧ t xs δ μ QS := Iff.rfl
@[simp] theorem g_Cons {t : DG} {u : DGs} : dCons t u (d :: xs) δ μ QS ↔ t d δ μ fun δ1 μ1 => u xs δ1 μ1 QS := Iff.rfl
@[simp] theorem g_Nil : dNil [] δ μ QS ↔ QS δ μ := Iff.rfl
@[simp] theorem e_BM {f : DM} {to : DE} {t : DA} : vBM T f to t δ μ Q ↔ to δ μ fun x μ1 => tyD T x μ1 ∧ t δ μ1 fun xs μ2 => f x xs μ2 Q := Iff.rfl
@[simp] theorem o_append : gAppend (.ref a) [d] μ Q ↔ ∃ xs, μ a = some (.lst xs) ∧ xs.length < sizeLine ∧ Q .non (mset μ a (.lst (xs ++ [d]))) := Iff.rfl
theorem ty_ref (h : μ a = some (.lst xs)) : tyD T (.ref a) μ ↔ T = "list" := by simp [tyD, h]
/-- what a list that changes holds, handed on fixed -/
def frz (x : Dv) (μ : Mu) (Q : DV) : Prop := match x with | .ref a => ∃ xs, μ a = some (.lst xs) ∧ Q (.lst xs) (mdel μ a) | _ => False
@[simp] theorem frz_ref : frz (.ref a) μ Q ↔ ∃ xs, μ a = some (.lst xs) ∧ Q (.lst xs) (mdel μ a) := Iff.rfl
@[simp] theorem e_Frz {t : DE} : vFrz t δ μ Q ↔ t δ μ fun x μ1 => frz x μ1 Q := Iff.rfl
/-- a walk over range(n) -/
def rng1 (x : Dv) (Q : List Dv → Prop) : Prop := match x with | .int j => (-(2 ^ 62) ≤ j ∧ j < 2 ^ 62) ∧ Q (irange 0 j.toNat) | _ => False
@[simp] theorem rng1_int {Q : List Dv → Prop} : rng1 (.int j) Q ↔ (-(2 ^ 62) ≤ j ∧ j < 2 ^ 62) ∧ Q (irange 0 j.toNat) := Iff.rfl
theorem rng_of {x : Dv} : (match [x] with | [.int j] => (-(2 ^ 62) ≤ j ∧ j < 2 ^ 62) ∧ QA (irange 0 j.toNat) μ | _ => False) ↔ rng1 x fun ds => QA ds μ := by cases x <;> exact Iff.rfl
@[simp] theorem w_Rng1 {t : DE} : wRng1 (vCons t vNil) δ μ QA ↔ t δ μ fun x μ1 => rng1 x fun ds => QA ds μ1 := by
  have e : wRng1 (vCons t vNil) δ μ QA ↔ t δ μ fun x μ1 => (match [x] with | [.int j] => (-(2 ^ 62) ≤ j ∧ j < 2 ^ 62) ∧ QA (irange 0 j.toNat) μ1 | _ => False) := Iff.rfl
  rw [e]
  have e2 : (fun x μ1 => (match [x] with | [.int j] => (-(2 ^ 62) ≤ j ∧ j < 2 ^ 62) ∧ QA (irange 0 j.toNat) μ1 | _ => False)) = fun (x : Dv) (μ1 : Mu) => rng1 x fun ds => QA ds μ1 := by
    funext x μ1; exact propext (by cases x <;> exact Iff.rfl)
  rw [e2]
@[simp] theorem sp_Of {n : Nat} {N : List Str} {t : DXS → DS} {ds : List Dv} {E : DX} : spOf n N t ds μ Q E ↔ ds.length = n ∧ t (fun C d _ μ => E C d μ) { nx := fun _ μ' => Q .non μ', rt := Q } (dstart N ds) μ := Iff.rfl
@[simp] theorem mset_at {m : Mo} : mset μ a m a = some m := if_pos rfl
theorem mset_off {m : Mo} {p : Addr} (h : p ≠ a) : mset μ a m p = μ p := if_neg h
@[simp] theorem mset_twice {n m : Mo} : mset (mset μ a m) a n = mset μ a n := mset_mset
end
end Wl
namespace Wl
open PySem L2
/-- a for loop, by an invariant -/
theorem loop_inv {g : DG} {tb : DS} {D : DEnds} : ∀ (ds : List Dv) (Iv : Nat → DSt → Mu → Prop) (n : Nat) {δ : DSt} {μ : Mu}, Iv n δ μ →
    (∀ i d δ μ (C : DSt → Mu → Prop), ds[i]? = some d → Iv (n + i) δ μ → (∀ δ' μ', Iv (n + i + 1) δ' μ' → C δ' μ') → g d δ μ fun δ1 μ1 => tb { nx := C, ct := C, bk := D.nx, rt := D.rt } δ1 μ1) →
    (∀ δ μ, Iv (n + ds.length) δ μ → D.nx δ μ) → sLoop g tb ds D δ μ
  | [], Iv, n, δ, μ, h0, _, he => he δ μ h0
  | d :: ds, Iv, n, δ, μ, h0, hs, he => hs 0 d δ μ (sLoop g tb ds D) rfl h0 fun δ' μ' h => loop_inv ds Iv (n + 1) h
      (fun i d' δ2 μ2 C hd hi hc => hs (i + 1) d' δ2 μ2 C hd (by rw [show n + (i + 1) = n + 1 + i by omega]; exact hi) (fun δ3 μ3 h3 => hc δ3 μ3 (by rw [show n + 1 + i + 1 = n + (i + 1) + 1 by omega]; exact h3)))
      (fun δ2 μ2 h2 => he δ2 μ2 (by rw [List.length_cons, show n + (ds.length + 1) = n + 1 + ds.length by omega]; exact h2))
/-- a while loop, by an invariant with a measure -/
theorem while_inv {c : DT} {tb : DS} {D : DEnds} (Iv : Nat → DSt → Mu → Prop) (hs : ∀ m δ μ (C : DSt → Mu → Prop), Iv m δ μ → (∀ m' δ' μ', m' < m → Iv m' δ' μ' → C δ' μ') →
    c δ μ fun b μ1 => if b = true then tb { nx := C, ct := C, bk := D.nx, rt := D.rt } δ μ1 else D.nx δ μ1) : ∀ (n m : Nat) {δ : DSt} {μ : Mu}, m < n → Iv m δ μ → sTimes c tb n D δ μ
  | 0, m, _, _, h, _ => absurd h (Nat.not_lt_zero _)
  | n + 1, m, δ, μ, h, hi => hs m δ μ (sTimes c tb n D) hi fun m' δ' μ' hm h' => while_inv Iv hs n m' (by omega) h'
/-- a comprehension, by an invariant: what is made so far lies at the new list's place -/
theorem comp_inv {vs : List Nat} {g : DG} {tt : DT} {te : DE} {δ : DSt} {A : Addr} {Q : List Dv → Mu → Prop} : ∀ (ds : List Dv) (Iv : Nat → List Dv → Mu → Prop) (n : Nat) (acc : List Dv) {μ : Mu}, Iv n acc μ → μ A = some (.lst acc) →
    (∀ i d acc μ (C : Mu → Prop), ds[i]? = some d → Iv (n + i) acc μ → μ A = some (.lst acc) → (∀ acc' μ', Iv (n + i + 1) acc' μ' → μ' A = some (.lst acc') → C μ') →
      g d (dwipe δ vs) μ fun δ1 μ1 => tt δ1 μ1 fun b μ2 => if b = true then te δ1 μ2 fun y μ3 => ∃ acc, μ3 A = some (.lst acc) ∧ acc.length < sizeLine ∧ C (mset μ3 A (.lst (acc ++ [y]))) else C μ2) →
    (∀ acc μ, Iv (n + ds.length) acc μ → μ A = some (.lst acc) → Q acc μ) → vLoop vs g tt te δ A ds μ Q
  | [], Iv, n, acc, μ, h0, hA, _, he => ⟨acc, hA, he acc μ h0 hA⟩
  | d :: ds, Iv, n, acc, μ, h0, hA, hs, he => hs 0 d acc μ (fun μ' => vLoop vs g tt te δ A ds μ' Q) rfl h0 hA fun acc' μ' h hA' => comp_inv ds Iv (n + 1) acc' h hA'
      (fun i d' acc2 μ2 C hd hi ha hc => hs (i + 1) d' acc2 μ2 C hd (by rw [show n + (i + 1) = n + 1 + i by omega]; exact hi) ha (fun acc3 μ3 h3 => hc acc3 μ3 (by rw [show n + 1 + i + 1 = n + (i + 1) + 1 by omega]; exact h3)))
      (fun acc2 μ2 h2 => he acc2 μ2 (by rw [List.length_cons, show n + (ds.length + 1) = n + 1 + ds.length by omega]; exact h2))
end Wl

set_option Elab.async false
set_option linter.all false
set_option maxRecDepth 100000
namespace Lw
open PySem L2 Wl
section
variable {P : Program} {w : World} {c : Cs} {μ : Mu} {Q : DV} {E : DX}
theorem m_is_number (i lo hi : Int) (q : Q (.bl (decide (lo ≤ i) && decide (i ≤ hi))) μ) : sp_is_number P w c [.int i, .int lo, .int hi] μ Q E := by
  simp [sp_is_number, T_is_number, N_is_number, dstart, tyName]
  by_cases h : lo ≤ i <;> simpa [h] using q
/-- strokes as data -/
def stk (p : Int × Nat) : Dv := .tup [.int p.1, .str ⟨#[p.2]⟩]
structure Stks (L : List Nat) (top : Int) (ss : List (Int × Nat)) : Prop where
  len : ss.length ≤ 16
  key : ∀ p ∈ ss, p.2 ∈ L
  lo : ∀ p ∈ ss, 0 ≤ p.1 ∧ p.1 ≤ top
  up : ss.Pairwise fun p q => p.1 ≤ q.1
end
end Lw

set_option Elab.async false
set_option linter.all false
set_option maxRecDepth 100000
namespace Wl
open PySem L2
/-- plain data at most n deep: no bools, nothing that was walked from outside -/
def Cln : Nat → Dv → Bool
  | _, .non => true
  | _, .int _ => true
  | _, .str _ => true
  | n + 1, .tup xs => xs.all (Cln n)
  | n + 1, .lst xs => xs.all (Cln n)
  | _, _ => false
theorem areD_of {p : Dv → Bool} (h : ∀ d, p d = true → d.isD = true) : ∀ xs : List Dv, xs.all p = true → Dv.areD xs = true
  | [], _ => rfl
  | x :: xs, e => by
    have e' : p x = true ∧ xs.all p = true := by simpa [List.all_cons] using e
    show (x.isD && Dv.areD xs) = true
    rw [h x e'.1, areD_of h xs e'.2]; rfl
theorem cln_isD : ∀ (n : Nat) (d : Dv), Cln n d = true → d.isD = true
  | n, .non, _ => rfl
  | n, .int _, _ => rfl
  | n, .str _, _ => rfl
  | n + 1, .tup xs, e => areD_of (cln_isD n) xs e
  | n + 1, .lst xs, e => areD_of (cln_isD n) xs e
  | 0, .tup _, e => by cases e
  | 0, .lst _, e => by cases e
  | n, .bl _, e => by cases n <;> cases e
  | n, .byt _, e => by cases n <;> cases e
  | n, .ref _, e => by cases n <;> cases e
  | n, .ty _, e => by cases n <;> cases e
  | n, .rot _, e => by cases n <;> cases e
  | n, .rol _, e => by cases n <;> cases e
theorem depth_of {p : Dv → Bool} {n : Nat} (h : ∀ d, p d = true → d.pd.depth ≤ n) : ∀ xs : List Dv, xs.all p = true → PyData.depthAll (Dv.pds xs) ≤ n
  | [], _ => Nat.zero_le _
  | x :: xs, e => by
    have e' : p x = true ∧ xs.all p = true := by simpa [List.all_cons] using e
    show max x.pd.depth (PyData.depthAll (Dv.pds xs)) ≤ n
    exact Nat.max_le.mpr ⟨h x e'.1, depth_of h xs e'.2⟩
theorem cln_depth : ∀ (n : Nat) (d : Dv), Cln n d = true → d.pd.depth ≤ n
  | n, .non, _ => Nat.zero_le _
  | n, .int _, _ => Nat.zero_le _
  | n, .str _, _ => Nat.zero_le _
  | n + 1, .tup xs, e => by
    have := depth_of (cln_depth n) xs e
    show (PyData.tuple (Dv.pds xs)).depth ≤ n + 1
    simp only [PyData.depth]; omega
  | n + 1, .lst xs, e => by
    have := depth_of (cln_depth n) xs e
    show (PyData.list (Dv.pds xs)).depth ≤ n + 1
    simp only [PyData.depth]; omega
  | 0, .tup _, e => by cases e
  | 0, .lst _, e => by cases e
  | n, .bl _, e => by cases n <;> cases e
  | n, .byt _, e => by cases n <;> cases e
  | n, .ref _, e => by cases n <;> cases e
  | n, .ty _, e => by cases n <;> cases e
  | n, .rot _, e => by cases n <;> cases e
  | n, .rol _, e => by cases n <;> cases e
theorem eqAll_of {p q : Dv → Bool} (h : ∀ x y, p x = true → q y = true → (dEq x y = true ↔ x = y)) : ∀ xs ys : List Dv, xs.all p = true → ys.all q = true → (PyData.eqvAll (Dv.pds xs) (Dv.pds ys) = true ↔ xs = ys)
  | [], [], _, _ => by simp [Dv.pds, PyData.eqvAll]
  | [], _ :: _, _, _ => by simp [Dv.pds, PyData.eqvAll]
  | _ :: _, [], _, _ => by simp [Dv.pds, PyData.eqvAll]
  | x :: xs, y :: ys, e, f => by
    have e' : p x = true ∧ xs.all p = true := by simpa [List.all_cons] using e
    have f' : q y = true ∧ ys.all q = true := by simpa [List.all_cons] using f
    have h1 := h x y e'.1 f'.1
    have h2 := eqAll_of h xs ys e'.2 f'.2
    unfold dEq at h1
    simp only [Dv.pds, PyData.eqvAll, Bool.and_eq_true, List.cons.injEq]
    rw [h1, h2]
theorem cln_eq : ∀ (n m : Nat) (x y : Dv), Cln n x = true → Cln m y = true → (dEq x y = true ↔ x = y) := by
  intro n
  induction n with
  | zero =>
    intro m x y hx hy
    cases x <;> first | (cases hx; done) | skip
    all_goals (cases y <;> first | (cases m <;> cases hy; done) | simp [dEq, Dv.pd, PyData.eqv])
  | succ n ih =>
    intro m x y hx hy
    cases x <;> first | (cases hx; done) | skip
    all_goals (cases y <;> first | (cases m <;> cases hy; done) | skip)
    all_goals first
      | (cases m with
         | zero => cases hy
         | succ m =>
           have := eqAll_of (fun a b => ih m a b) _ _ hx hy
           simp only [dEq, Dv.pd, PyData.eqv, this, Dv.tup.injEq, Dv.lst.injEq]
           done)
      | simp [dEq, Dv.pd, PyData.eqv]
theorem cln_ok {n m : Nat} {x y : Dv} (hx : Cln n x = true) (hy : Cln m y = true) (h : n ≤ 60) : eqOk x y := ⟨cln_isD n x hx, cln_isD m y hy, Nat.le_trans (Nat.min_le_left _ _) (Nat.le_trans (cln_depth n x hx) h)⟩
theorem cln_in {n m : Nat} {x : Dv} {ys : List Dv} (hx : Cln n x = true) (hy : ys.all (Cln m) = true) (h : n ≤ 60) : inOk x ys ∧ (dIn x ys = true ↔ x ∈ ys) := by
  refine ⟨⟨cln_isD n x hx, areD_of (cln_isD m) ys hy, Nat.le_trans (Nat.min_le_right _ _) (Nat.le_trans (cln_depth n x hx) h)⟩, ?_⟩
  unfold dIn
  rw [List.any_eq_true]
  constructor
  · rintro ⟨z, hz, e⟩
    have := (cln_eq m n z x (List.all_eq_true.mp hy z hz) hx).mp e
    exact this ▸ hz
  · exact fun hz => ⟨x, hz, (cln_eq m n x x (List.all_eq_true.mp hy x hz) hx).mpr rfl⟩
end Wl

set_option Elab.async false
set_option linter.all false
set_option maxRecDepth 100000
namespace Lw
open PySem L2 Wl
section
variable {P : Program} {w : World} {c : Cs} {μ : Mu} {Q : DV} {E : DX}
/-- a binding as data -/
structure Bd where
  mode : Str
  keys : Str
  cmd : Str
  tgt : Str
def Bd.dv (b : Bd) : Dv := .tup [.str b.mode, .str b.keys, .str b.cmd, .str b.tgt]
def names : List Str := ["main", "edit", "move"]
def cmds : List Str := ["go", "cut", "put", "mark", "join"]
structure Parts (L : List Nat) (ms : List Str) (wt : Int) (bs : List Bd) : Prop where
  mods : ∃ n : Nat, 1 ≤ n ∧ n ≤ 3 ∧ ms = names.take n
  wt : 1 ≤ wt ∧ wt ≤ 9
  len : bs.length ≤ 9
  mode : ∀ b ∈ bs, b.mode ∈ ms ∧ b.tgt ∈ ms ∧ b.cmd ∈ cmds
  keys : ∀ b ∈ bs, 1 ≤ b.keys.cps.size ∧ b.keys.cps.size ≤ 3 ∧ ∀ ch ∈ b.keys.cps.toList, ch ∈ L
  nodup : (bs.map fun b => (b.mode, b.keys)).Nodup
def partsD (ms : List Str) (wt : Int) (bs : List Bd) : Dv := .tup [.tup (ms.map Dv.str), .int wt, .tup (bs.map Bd.dv)]
theorem at_map {α : Type} (f : α → Dv) {ms : List α} {y : Int} (h0 : 0 ≤ y) (h1 : y < (ms.length : Int)) : ∃ s, s ∈ ms ∧ atI (ms.map f) y = some (f s) := by
  refine ⟨ms[y.toNat]'(by omega), List.getElem_mem _, ?_⟩
  simp [atI, ixN, h0, h1, show y.toNat < ms.length by omega]
theorem in_ref {neg : Bool} {d : Dv} {a : Addr} {ys : List Dv} (h : μ a = some (.lst ys)) : gIn neg d (.ref a) μ Q ↔ inOk d ys ∧ Q (.bl (if neg then !dIn d ys else dIn d ys)) μ := by simp [gIn, h]
theorem tupOf_ref {a : Addr} : gTupOf [.ref a] μ Q ↔ ∃ xs, μ a = some (.lst xs) ∧ Q (.tup xs) μ := Iff.rfl
end
end Lw

set_option Elab.async false
set_option linter.all false
set_option maxRecDepth 100000
namespace Wl
open PySem L2
section
variable {δ : DSt} {μ : Mu} {Q : DV} {QA : List Dv → Mu → Prop} {D : DEnds}
@[simp] theorem e_Comp {vs : List Nat} {wi : DI} {g : DG} {tt : DT} {te : DE} : vComp vs wi g tt te δ μ Q ↔ wi δ μ fun ds μ1 => ∀ A, μ1 A = none → vLoop vs g tt te δ A ds (mset μ1 A (.lst [])) fun acc μ2 => Q (.lst acc) (mdel μ2 A) := Iff.rfl
@[simp] theorem e_Yes {QT : Bool → Mu → Prop} : vYes δ μ QT ↔ QT true μ := Iff.rfl
def wst (x : Dv) (Q : List Dv → Prop) : Prop := match x with | .str z => Q (signs z) | _ => False
@[simp] theorem wst_str {z : Str} {Q : List Dv → Prop} : wst (.str z) Q ↔ Q (signs z) := Iff.rfl
@[simp] theorem w_Str {t : DE} : wStr t δ μ QA ↔ t δ μ fun x μ1 => wst x fun ds => QA ds μ1 := Iff.rfl
def wsq (x : Dv) (Q : List Dv → Prop) : Prop := match x with | .tup xs => Q xs | .rot xs => Q xs | .lst xs => Q xs | .rol xs => Q xs | _ => False
@[simp] theorem wsq_tup {xs : List Dv} {Q : List Dv → Prop} : wsq (.tup xs) Q ↔ Q xs := Iff.rfl
@[simp] theorem wsq_lst {xs : List Dv} {Q : List Dv → Prop} : wsq (.lst xs) Q ↔ Q xs := Iff.rfl
@[simp] theorem w_Seq {t : DE} : wSeq t δ μ QA ↔ t δ μ fun x μ1 => wsq x fun ds => QA ds μ1 := by
  have e : wSeq t δ μ QA ↔ t δ μ fun x μ1 => (match x with | .tup xs => QA xs μ1 | .rot xs => QA xs μ1 | .lst xs => QA xs μ1 | .rol xs => QA xs μ1 | _ => False) := Iff.rfl
  rw [e]
  have e2 : (fun (x : Dv) (μ1 : Mu) => (match x with | .tup xs => QA xs μ1 | .rot xs => QA xs μ1 | .lst xs => QA xs μ1 | .rol xs => QA xs μ1 | _ => False)) = fun (x : Dv) (μ1 : Mu) => wsq x fun ds => QA ds μ1 := by
    funext x μ1; exact propext (by cases x <;> exact Iff.rfl)
  rw [e2]
@[simp] theorem o_all {ys : List Dv} : gAll [.lst ys] μ Q ↔ ∃ bs, boolsD ys = some bs ∧ Q (.bl (bs.all id)) μ := Iff.rfl
theorem mdel_mset {A : Addr} {m : Mo} (h : μ A = none) : mdel (mset μ A m) A = μ := by
  funext b
  unfold mdel mset
  by_cases e : b = A
  · rw [if_pos e, e, h]
  · rw [if_neg e, if_neg e]
/-- a comprehension whose parts change nothing -/
theorem comp_pure {vs : List Nat} {g : DG} {tt : DT} {te : DE} (R : List Dv → Mu → Prop) (f : Dv → Option Dv) (ds : List Dv) (hl : ds.length ≤ sizeLine)
    (hb : ∀ d ∈ ds, ∀ (A : Addr) (acc : List Dv) (C : Mu → Prop), μ A = none → acc.length < sizeLine → C (mset μ A (.lst (acc ++ (f d).toList))) →
      g d (dwipe δ vs) (mset μ A (.lst acc)) fun δ1 μ1 => tt δ1 μ1 fun b μ2 => if b = true then te δ1 μ2 fun y μ3 => ∃ acc, μ3 A = some (.lst acc) ∧ acc.length < sizeLine ∧ C (mset μ3 A (.lst (acc ++ [y]))) else C μ2)
    (q : R (ds.filterMap f) μ) : ∀ A, μ A = none → vLoop vs g tt te δ A ds (mset μ A (.lst [])) fun acc μ2 => R acc (mdel μ2 A) := by
  intro A hA
  have main : ∀ (xs : List Dv) (acc : List Dv), (∀ d ∈ xs, d ∈ ds) → acc.length + xs.length ≤ sizeLine → acc ++ xs.filterMap f = ds.filterMap f → vLoop vs g tt te δ A xs (mset μ A (.lst acc)) fun acc μ2 => R acc (mdel μ2 A) := by
    intro xs
    induction xs with
    | nil =>
      intro acc _ _ e
      refine ⟨acc, mset_at, ?_⟩
      show R acc (mdel (mset μ A (.lst acc)) A)
      rw [mdel_mset hA]
      have e' : acc = ds.filterMap f := by simpa using e
      rw [e']; exact q
    | cons x xs ih =>
      intro acc hm hle e
      have hle' : acc.length + (xs.length + 1) ≤ sizeLine := hle
      refine hb x (hm x List.mem_cons_self) A acc _ hA (by omega) ?_
      refine ih _ (fun d hd => hm d (List.mem_cons_of_mem _ hd)) ?_ ?_
      · rw [List.length_append]
        have : (f x).toList.length ≤ 1 := by cases f x <;> simp
        omega
      · rw [← e, List.append_assoc]
        congr 1
        cases h : f x with
        | none => simp [List.filterMap_cons, h]
        | some y => simp [List.filterMap_cons, h]
  exact main ds [] (fun _ h => h) (by simpa using hl) rfl
end
end Wl
namespace Lw
open PySem L2 Wl
section
variable {P : Program} {w : World} {c : Cs} {μ : Mu} {Q : DV} {E : DX}
abbrev alpha : List Nat := ("abcdefghijklmnopqrstuvwxyz" : Str).cps.toList
theorem m_word (x : Str) (n : Int) (h1 : 1 ≤ x.cps.size) (h2 : (x.cps.size : Int) ≤ n) (h3 : x.cps.size ≤ 100) (h4 : ∀ ch ∈ x.cps.toList, ch ∈ alpha) (q : Q (.bl true) μ) : sp_is_word P w c [.str x, .int n] μ Q E := by
  have hz : 100 < sizeLine := by decide
  have hx : x.length = x.cps.size := rfl
  simp [sp_is_word, T_is_word, N_is_word, dstart, tyName]
  rw [if_pos (by rw [hx]; omega), if_pos (by rw [hx]; omega)]
  refine ⟨by rw [hx]; omega, ?_⟩
  refine comp_pure (fun acc μ2 => ∃ bs, boolsD acc = some bs ∧ Q (.bl (bs.all id)) μ2) (fun _ => some (.bl true)) _ (by simp [signs]; omega) ?_ ?_
  · intro d hd A acc C hA hl hC
    obtain ⟨ch, hch, rfl⟩ := List.mem_map.mp hd
    have hal := h4 ch hch
    simp [dwipe, gInS]
    refine ⟨hl, ?_⟩
    have e : ch ∈ (Str.ofString "abcdefghijklmnopqrstuvwxyz").cps := by simpa using hal
    rw [decide_eq_true e]
    simpa using hC
  · have hb : ∀ ys : List Dv, boolsD (ys.filterMap fun _ => some (.bl true)) = some (List.replicate ys.length true) := fun ys => by
      induction ys with
      | nil => rfl
      | cons y ys ih =>
        show (boolsD (ys.filterMap fun _ => some (.bl true))).map (true :: ·) = _
        rw [ih]; rfl
    exact ⟨_, hb _, by simpa using q⟩
end
end Lw

set_option Elab.async false
set_option linter.all false
set_option maxRecDepth 100000
namespace Wl
open PySem L2
section
variable {δ : DSt} {μ : Mu} {Q : DV} {QA : List Dv → Mu → Prop}
def wen (x : Dv) (Q : List Dv → Prop) : Prop := match x with | .tup xs => Q (numbered xs) | .rot xs => Q (numbered xs) | .lst xs => Q (numbered xs) | .rol xs => Q (numbered xs) | _ => False
@[simp] theorem wen_tup {xs : List Dv} {Q : List Dv → Prop} : wen (.tup xs) Q ↔ Q (numbered xs) := Iff.rfl
@[simp] theorem wen_lst {xs : List Dv} {Q : List Dv → Prop} : wen (.lst xs) Q ↔ Q (numbered xs) := Iff.rfl
@[simp] theorem w_Enum {t : DE} : wEnum (vCons t vNil) δ μ QA ↔ t δ μ fun x μ1 => wen x fun ds => QA ds μ1 := by
  have e : wEnum (vCons t vNil) δ μ QA ↔ t δ μ fun x μ1 => (match [x] with | [.tup xs] => QA (numbered xs) μ1 | [.rot xs] => QA (numbered xs) μ1 | [.lst xs] => QA (numbered xs) μ1 | [.rol xs] => QA (numbered xs) μ1 | _ => False) := Iff.rfl
  rw [e]
  have e2 : (fun (x : Dv) (μ1 : Mu) => (match [x] with | [.tup xs] => QA (numbered xs) μ1 | [.rot xs] => QA (numbered xs) μ1 | [.lst xs] => QA (numbered xs) μ1 | [.rol xs] => QA (numbered xs) μ1 | _ => False)) = fun (x : Dv) (μ1 : Mu) => wen x fun ds => QA ds μ1 := by
    funext x μ1; exact propext (by cases x <;> exact Iff.rfl)
  rw [e2]
theorem nmb_at {xs : List Dv} {i : Nat} {d : Dv} (h : (numbered xs)[i]? = some d) : ∃ x, xs[i]? = some x ∧ d = .tup [.int i, x] := by
  unfold numbered at h
  rw [List.getElem?_map, List.getElem?_zipIdx] at h
  cases e : xs[i]? with
  | none => rw [e] at h; simp at h
  | some x => rw [e] at h; simp at h; exact ⟨x, rfl, h.symm⟩
theorem nmb_length {xs : List Dv} : (numbered xs).length = xs.length := by simp [numbered]
theorem in_tup {neg : Bool} {d : Dv} {ys : List Dv} : gIn neg d (.tup ys) μ Q ↔ inOk d ys ∧ Q (.bl (if neg then !dIn d ys else dIn d ys)) μ := Iff.rfl
theorem dcut_to {α : Type} (xs : List α) (k : Nat) : dcut xs none (some (k : Int)) = xs.take k := by
  unfold dcut
  rw [HT.sIx_none, HT.sIx_nat]
  simp
end
end Wl
namespace Lw
open PySem L2 Wl
section
variable {P : Program} {w : World} {c : Cs} {μ : Mu} {Q : DV} {E : DX}
structure Word (x : Str) (n : Nat) : Prop where
  h1 : 1 ≤ x.cps.size
  h2 : x.cps.size ≤ n
  h4 : ∀ ch ∈ x.cps.toList, ch ∈ alpha
theorem m_check_modes (ms : List Str) (h0 : ms ≠ []) (hl : ms.length ≤ 4) (hw : ∀ m ∈ ms, Word m 8) (hn : ms.Nodup) (q : Q .non μ) : sp_check_modes P w c [.tup (ms.map Dv.str)] μ Q E := by
  simp [sp_check_modes, T_check_modes, N_check_modes, dstart, tyName]
  have e0 : ¬ dEq (.int (ms.length : Int)) (.int 0) = true := fun h => by
    have := (cln_eq 0 0 _ _ rfl rfl).mp h
    simp at this
    exact h0 this
  refine ⟨cln_ok (n := 0) (m := 0) rfl rfl (by decide), ?_⟩
  refine ⟨by simpa using e0, ?_⟩
  refine loop_inv _ (fun i δ μ' => μ' = μ ∧ ∃ l1 l2 : Option Dv, δ = [some (.tup (ms.map Dv.str)), l1, l2]) 0 ⟨rfl, none, none, rfl⟩ ?_ ?_
  · rintro i d δ μ' C hd ⟨rfl, l1, l2, rfl⟩ hC
    obtain ⟨x, hx, rfl⟩ := nmb_at hd
    rw [List.getElem?_map] at hx
    cases hm : ms[i]? with
    | none => rw [hm] at hx; cases hx
    | some m =>
      rw [hm] at hx
      cases hx
      have hi : i < ms.length := (List.getElem?_eq_some_iff.mp hm).1
      have hmem : m ∈ ms := List.mem_of_getElem? hm
      have W := hw m hmem
      simp
      refine ⟨by omega, ?_⟩
      refine m_word m 8 W.h1 (by have := W.h2; omega) (by have := W.h2; omega) W.h4 ?_
      simp [dcut_to]
      have hcl : ((ms.map Dv.str).take i).all (Cln 0) = true := List.all_eq_true.mpr fun z hz => by
        obtain ⟨b, _, rfl⟩ := List.mem_map.mp (List.mem_of_mem_take hz)
        rfl
      obtain ⟨k1, k2⟩ := cln_in (n := 0) (m := 0) (x := .str m) rfl hcl (by decide)
      refine in_tup.mpr ⟨by simpa using k1, ?_⟩
      have hno : dIn (.str m) ((ms.map Dv.str).take i) = false := by
        cases hq : dIn (.str m) ((ms.map Dv.str).take i) with
        | false => rfl
        | true =>
          have := k2.mp hq
          rw [← List.map_take] at this
          obtain ⟨m', hm', e⟩ := List.mem_map.mp this
          cases e
          obtain ⟨j, hj, ej⟩ := List.mem_iff_getElem.mp hm'
          rw [List.length_take] at hj
          have hj' : ms[j]? = some m := by
            rw [← ej, List.getElem_take]; simp
          have : j = i := (List.getElem?_inj (by omega) hn).mp (hj'.trans hm.symm)
          omega
      have hno' : dIn (.str m) (List.map Dv.str (ms.take i)) = false := by rw [List.map_take]; exact hno
      simp
      exact ⟨hno, hC _ _ ⟨rfl, _, _, rfl⟩⟩
  · rintro δ μ' ⟨rfl, _⟩
    exact q
end
end Lw

set_option Elab.async false
set_option linter.all false
set_option maxRecDepth 100000
namespace Wl
open PySem L2
section
variable {δ : DSt} {μ : Mu} {Q : DV} {a : Addr} {xs : List Dv}
@[simp] theorem e_Set0 {P : Program} {w : World} : vSet0 P w δ μ Q ↔ ∀ p, μ p = none → Q (.ref p) (mset μ p (.st P w [])) := Iff.rfl
@[simp] theorem in_set {P : Program} {w : World} {neg : Bool} : gInT P w neg (.tup xs) (.ref a) μ Q ↔ ∃ k ks, keysD xs = some k ∧ μ a = some (.st P w ks) ∧ ∀ r : Bool, (r = true ↔ k ∈ ks) → Q (.bl (if neg then !r else r)) μ := Iff.rfl
def addT (P : Program) (w : World) (a : Addr) (y : Dv) (μ : Mu) (Q : DV) : Prop := match y with
  | .tup xs => ∃ k ks, keysD xs = some k ∧ μ a = some (.st P w ks) ∧ ks.length + 1 < 64 ∧ (k ∈ ks → Q .non μ) ∧ (k ∉ ks → Q .non (mset μ a (.st P w (k :: ks))))
  | _ => False
def addTo (P : Program) (w : World) (te : DE) (δ : DSt) (Q : DV) (x : Dv) (μ : Mu) : Prop := match x with
  | .ref a => (∃ ks, μ a = some (.st P w ks)) ∧ te δ μ fun y μ2 => addT P w a y μ2 Q
  | _ => False
@[simp] theorem addTo_ref {P : Program} {w : World} {te : DE} : addTo P w te δ Q (.ref a) μ ↔ (∃ ks, μ a = some (.st P w ks)) ∧ te δ μ fun y μ2 => addT P w a y μ2 Q := Iff.rfl
@[simp] theorem addT_tup {P : Program} {w : World} : addT P w a (.tup xs) μ Q ↔ ∃ k ks, keysD xs = some k ∧ μ a = some (.st P w ks) ∧ ks.length + 1 < 64 ∧ (k ∈ ks → Q .non μ) ∧ (k ∉ ks → Q .non (mset μ a (.st P w (k :: ks)))) := Iff.rfl
@[simp] theorem e_AddT {P : Program} {w : World} {to te : DE} : vAddT P w to te δ μ Q ↔ to δ μ fun x μ1 => addTo P w te δ Q x μ1 := Iff.rfl
@[simp] theorem s_Fld {D : DEnds} {C : Addr} {f : Str} {to te : DE} : sFldV C f to te D δ μ ↔ te δ μ fun y μ1 => to δ μ1 fun x μ2 => gFld C f x y μ2 fun μ3 => D.nx δ μ3 := Iff.rfl
@[simp] theorem fld_ref {C : Addr} {f : Str} {y : Dv} {Q : Mu → Prop} : gFld C f (.ref a) y μ Q ↔ ∃ dx fs, μ a = some (.ins C dx fs) ∧ fs.length < 1000 ∧ Q (mset μ a (.ins C dx (dput f y fs))) := Iff.rfl
end
end Wl
namespace Lw
open PySem L2 Wl
section
variable {P : Program} {w : World} {c : Cs} {μ : Mu} {Q : DV} {E : DX}
structure BdOk (ms : List Str) (b : Bd) : Prop where
  mode : b.mode ∈ ms
  tgt : b.tgt ∈ ms
  keys : Word b.keys 6
  cmd : Word b.cmd 8
theorem m_is_binding (ms : List Str) (b : Bd) (h : BdOk ms b) (q : Q (.bl true) μ) : sp_is_binding P w c [.tup (ms.map Dv.str), b.dv] μ Q E := by
  have hcl : (ms.map Dv.str).all (Cln 0) = true := List.all_eq_true.mpr fun z hz => by
    obtain ⟨b, _, rfl⟩ := List.mem_map.mp hz
    rfl
  have hin : ∀ m, m ∈ ms → inOk (.str m) (ms.map Dv.str) ∧ dIn (.str m) (ms.map Dv.str) = true := fun m hm => by
    obtain ⟨k1, k2⟩ := cln_in (n := 0) (m := 0) (x := .str m) rfl hcl (by decide)
    exact ⟨k1, k2.mpr (List.mem_map.mpr ⟨m, hm, rfl⟩)⟩
  have e4 : dEq (.int 4) (.int 4) = true := rfl
  simp [sp_is_binding, T_is_binding, N_is_binding, dstart, tyName, Bd.dv, e4]
  refine ⟨cln_ok (n := 0) (m := 0) rfl rfl (by decide), ?_⟩
  refine in_tup.mpr ⟨(hin _ h.mode).1, ?_⟩
  simp [(hin _ h.mode).2]
  refine in_tup.mpr ⟨(hin _ h.tgt).1, ?_⟩
  simp [(hin _ h.tgt).2]
  refine m_word _ 6 h.keys.h1 (by have := h.keys.h2; omega) (by have := h.keys.h2; omega) h.keys.h4 ?_
  simp
  exact m_word _ 8 h.cmd.h1 (by have := h.cmd.h2; omega) (by have := h.cmd.h2; omega) h.cmd.h4 q
theorem m_check_bindings (ms : List Str) (bs : List Bd) (hl : bs.length ≤ 30) (hb : ∀ b ∈ bs, BdOk ms b) (hn : (bs.map fun b => (b.mode, b.keys)).Nodup) (q : ∀ p m, μ p = none → Q .non (mset μ p m)) : sp_check_bindings P w c [.tup (ms.map Dv.str), .tup (bs.map Bd.dv)] μ Q E := by
  simp [sp_check_bindings, T_check_bindings, N_check_bindings, dstart, tyName]
  intro p hp
  refine loop_inv _ (fun i δ μ' => ∃ (l1 l2 : Option Dv), δ = [some (.tup (ms.map Dv.str)), some (.tup (bs.map Bd.dv)), some (.ref p), l1, l2] ∧ ∃ ks : List (List Key), μ' = mset μ p (.st P w ks) ∧ ks.length ≤ i ∧ ∀ k ∈ ks, ∃ b ∈ bs.take i, k = [.inr b.mode, .inr b.keys]) 0
    ⟨none, none, rfl, [], rfl, Nat.le_refl _, by simp⟩ ?_ ?_
  · rintro i d δ μ' C hd ⟨l1, l2, rfl, ks, rfl, hkl, hks⟩ hC
    obtain ⟨x, hx, rfl⟩ := nmb_at hd
    rw [List.getElem?_map] at hx
    cases hm : bs[i]? with
    | none => rw [hm] at hx; cases hx
    | some b =>
      rw [hm] at hx
      cases hx
      have hi : i < bs.length := (List.getElem?_eq_some_iff.mp hm).1
      have hmem : b ∈ bs := List.mem_of_getElem? hm
      simp
      refine ⟨by omega, ?_⟩
      refine m_is_binding ms b (hb b hmem) ?_
      have hcut : dcut [Dv.str b.mode, .str b.keys, .str b.cmd, .str b.tgt] none (some 2) = [.str b.mode, .str b.keys] := rfl
      simp [Bd.dv, hcut]
      have hno : ([.inr b.mode, .inr b.keys] : List Key) ∉ ks := fun hk => by
        obtain ⟨b', hb', e⟩ := hks _ hk
        injection e with e1 e2
        injection e2 with e2 _
        injection e1 with e1
        injection e2 with e2
        obtain ⟨j, hj, ej⟩ := List.mem_iff_getElem.mp hb'
        rw [List.length_take] at hj
        have hj1 : j < bs.length := by omega
        have hj' : bs[j]? = some b' := by rw [← ej, List.getElem_take]; simp
        have k1 : (bs.map fun b => (b.mode, b.keys))[j]? = some (b'.mode, b'.keys) := by rw [List.getElem?_map, hj']; rfl
        have k2 : (bs.map fun b => (b.mode, b.keys))[i]? = some (b.mode, b.keys) := by rw [List.getElem?_map, hm]; rfl
        have : j = i := (List.getElem?_inj (by simpa using hj1) hn).mp (k1.trans (by rw [k2, e1, e2]))
        omega
      refine ⟨_, rfl, fun _ => ⟨_, rfl, by omega, fun hk => absurd hk hno, fun _ => ?_⟩, hno⟩
      refine hC _ _ ⟨_, _, rfl, _, rfl, by simp; omega, fun k hk => ?_⟩
      rcases List.mem_cons.mp hk with rfl | hk
      · refine ⟨b, ?_, rfl⟩
        rw [show 0 + i + 1 = i + 1 by omega, List.take_add_one, hm]
        simp
      · obtain ⟨b', h1, h2⟩ := hks k hk
        refine ⟨b', ?_, h2⟩
        have h1' : b' ∈ bs.take i := by simpa using h1
        rw [show 0 + i + 1 = i + 1 by omega, List.take_add_one]
        exact List.mem_append_left _ h1'
  · rintro δ μ' ⟨l1, l2, rfl, ks, rfl, _⟩
    exact q p _ hp
/-- a key map stands at k -/
def MapAt (c : Cs) (μ : Mu) (k : Addr) (ms : List Str) (wt : Int) (bs : List Bd) : Prop :=
  ∃ dx, μ k = some (.ins c.KeyMap dx [("_modes", .tup (ms.map Dv.str)), ("_wait", .int wt), ("_bindings", .tup (bs.map Bd.dv))])
/-- nothing that stood is touched -/
def Gr (μ μ' : Mu) : Prop := ∀ b m, μ b = some m → μ' b = some m
theorem Gr.refl (μ : Mu) : Gr μ μ := fun _ _ h => h
theorem Gr.trans {μ1 μ2 μ3 : Mu} (h : Gr μ1 μ2) (g : Gr μ2 μ3) : Gr μ1 μ3 := fun b m e => g b m (h b m e)
theorem Gr.new {μ : Mu} {p : Addr} {m : Mo} (h : μ p = none) : Gr μ (mset μ p m) := fun b n e => by
  rw [mset_off (fun q => by rw [q, h] at e; cases e)]; exact e
theorem m_map_init (ms : List Str) (wt : Int) (bs : List Bd) (k dx : Addr) (h0 : ms ≠ []) (hl : ms.length ≤ 4) (hw : ∀ m ∈ ms, Word m 8) (hn : ms.Nodup) (hwt : 1 ≤ wt ∧ wt ≤ 99) (hbl : bs.length ≤ 30) (hb : ∀ b ∈ bs, BdOk ms b) (hbn : (bs.map fun b => (b.mode, b.keys)).Nodup)
    (hk : μ k = some (.ins c.KeyMap dx [])) (q : ∀ p m, μ p = none → Q .non (mset (mset μ p m) k (.ins c.KeyMap dx [("_modes", .tup (ms.map Dv.str)), ("_wait", .int wt), ("_bindings", .tup (bs.map Bd.dv))]))) :
    sp_KeyMap_init__ P w c [.ref k, .tup (ms.map Dv.str), .int wt, .tup (bs.map Bd.dv)] μ Q E := by
  simp [sp_KeyMap_init__, T_KeyMap_init__, N_KeyMap_init__, dstart]
  refine m_check_modes ms h0 hl hw hn ?_
  refine m_is_number wt 1 99 ?_
  simp [hwt.1, hwt.2]
  refine m_check_bindings ms bs hbl hb hbn fun p m hp => ?_
  have hkp : k ≠ p := fun e => by rw [← e, hk] at hp; cases hp
  have e1 : ¬ ((Str.ofString "_modes") = (Str.ofString "_wait")) := by decide +kernel
  have e2 : ¬ ((Str.ofString "_modes") = (Str.ofString "_bindings")) := by decide +kernel
  have e3 : ¬ ((Str.ofString "_wait") = (Str.ofString "_bindings")) := by decide +kernel
  simp [mset_off hkp, hk]
  have d1 : dput (Str.ofString "_modes") (Dv.tup (ms.map Dv.str)) [] = ([("_modes", .tup (ms.map Dv.str))] : List (Str × Dv)) := rfl
  have d2 : dput (Str.ofString "_wait") (Dv.int wt) [((Str.ofString "_modes"), Dv.tup (ms.map Dv.str))] = ([("_modes", .tup (ms.map Dv.str)), ("_wait", .int wt)] : List (Str × Dv)) := by simp [dput, e1]
  have d3 : dput (Str.ofString "_bindings") (Dv.tup (bs.map Bd.dv)) [((Str.ofString "_modes"), Dv.tup (ms.map Dv.str)), ((Str.ofString "_wait"), .int wt)] = ([("_modes", .tup (ms.map Dv.str)), ("_wait", .int wt), ("_bindings", .tup (bs.map Bd.dv))] : List (Str × Dv)) := by simp [dput, e2, e3]
  exact ⟨dx, _, ⟨rfl, rfl⟩, by decide, dx, _, ⟨rfl, d1⟩, by simp, dx, _, ⟨rfl, d2⟩, by simp, by rw [d3]; exact q p m hp⟩
/-- an instance that is made: a fresh place -/
theorem m_made (ms : List Str) (wt : Int) (bs : List Bd) (h0 : ms ≠ []) (hl : ms.length ≤ 4) (hw : ∀ m ∈ ms, Word m 8) (hn : ms.Nodup) (hwt : 1 ≤ wt ∧ wt ≤ 99) (hbl : bs.length ≤ 30) (hb : ∀ b ∈ bs, BdOk ms b) (hbn : (bs.map fun b => (b.mode, b.keys)).Nodup)
    (q : ∀ k μ', Gr μ μ' → MapAt c μ' k ms wt bs → Q (.ref k) μ') : sp_law_made P w c [partsD ms wt bs] μ Q E := by
  have a0 : atI [Dv.tup (ms.map Dv.str), .int wt, .tup (bs.map Bd.dv)] 0 = some (.tup (ms.map Dv.str)) := rfl
  have a1 : atI [Dv.tup (ms.map Dv.str), .int wt, .tup (bs.map Bd.dv)] 1 = some (.int wt) := rfl
  have a2 : atI [Dv.tup (ms.map Dv.str), .int wt, .tup (bs.map Bd.dv)] 2 = some (.tup (bs.map Bd.dv)) := rfl
  simp [sp_law_made, T_law_made, N_law_made, dstart, partsD, vMake, a0, a1, a2]
  intro k dx hk
  refine m_map_init ms wt bs k dx h0 hl hw hn hwt hbl hb hbn mset_at fun p m hp => ?_
  have hpk : p ≠ k := fun e => by rw [e, mset_at] at hp; cases hp
  have hp' : μ p = none := by rw [mset_off hpk] at hp; exact hp
  refine q k _ (fun b n e => ?_) ⟨dx, mset_at⟩
  have h1 : b ≠ k := fun q => by rw [q, hk] at e; cases e
  have h2 : b ≠ p := fun q => by rw [q, hp'] at e; cases e
  rw [mset_off h1, mset_off h2, mset_off h1]; exact e
end
end Lw

set_option Elab.async false
set_option linter.all false
set_option maxRecDepth 100000
namespace Wl
open PySem L2
section
variable {κ : Type} [DecidableEq κ]
theorem valD_nil (k : κ) : valD ([] : List (κ × Dv)) k = none := rfl
theorem valD_cons (a k : κ) (x : Dv) (r : List (κ × Dv)) : valD ((a, x) :: r) k = if a = k then some x else valD r k := by
  unfold valD
  by_cases h : a = k
  · simp [h]
  · simp [h]
theorem valD_append (r s : List (κ × Dv)) (k : κ) : valD (r ++ s) k = (valD r k).or (valD s k) := by
  induction r with
  | nil => simp [valD_nil]
  | cons y r ih =>
    obtain ⟨a, x⟩ := y
    rw [List.cons_append, valD_cons, valD_cons, ih]
    split <;> simp
theorem valD_none {r : List (κ × Dv)} {k : κ} (h : ¬ (r.any fun kv => decide (kv.1 = k)) = true) : valD r k = none := by
  unfold valD
  rw [Option.map_eq_none_iff, List.find?_eq_none]
  intro y hy e
  exact h (List.any_eq_true.mpr ⟨y, hy, e⟩)
theorem valD_put (r : List (κ × Dv)) (k k' : κ) (v : Dv) : valD (putD r k v) k' = if k' = k then some v else valD r k' := by
  unfold putD
  split
  · rename_i h
    induction r with
    | nil => cases h
    | cons y r ih =>
      obtain ⟨a, x⟩ := y
      rw [List.map_cons]
      by_cases ha : a = k
      · subst ha
        simp only [if_true, valD_cons]
        by_cases hk : a = k'
        · subst hk; simp
        · rw [if_neg hk, if_neg hk, if_neg (fun e => hk e.symm)]
          -- behind the first: nothing that matters changes
          clear ih h
          induction r with
          | nil => rfl
          | cons z r ih2 =>
            obtain ⟨b, u⟩ := z
            rw [List.map_cons]
            by_cases hb : b = a
            · subst hb
              simp only [if_true, valD_cons]
              rw [if_neg hk, if_neg hk]; exact ih2
            · simp only [if_neg hb, valD_cons]
              rw [ih2]
      · have h' : (r.any fun kv => decide (kv.1 = k)) = true := by simpa [ha] using h
        simp only [if_neg ha, valD_cons]
        rw [ih h']
        by_cases hk : a = k'
        · subst hk; simp [ha]
        · simp [hk]
  · rename_i h
    rw [valD_append, valD_cons, valD_nil]
    by_cases hk : k' = k
    · subst hk
      rw [valD_none h]; simp
    · rw [if_neg (fun e => hk e.symm), if_neg hk]; simp
theorem putD_length (r : List (κ × Dv)) (k : κ) (v : Dv) : (putD r k v).length ≤ r.length + 1 := by
  unfold putD
  split <;> simp
end
section
variable {δ : DSt} {μ : Mu} {Q : DV} {QS : DSt → Mu → Prop} {D : DEnds} {a : Addr} {y v : Dv} {ys : List Dv}
def fldv (C : Addr) (f : Str) (x : Dv) (μ : Mu) (Q : DV) : Prop := match x with | .ref a => ∃ dx fs d, μ a = some (.ins C dx fs) ∧ fs.lookup f = some d ∧ Q d μ | _ => False
@[simp] theorem fldv_ref {C : Addr} {f : Str} : fldv C f (.ref a) μ Q ↔ ∃ dx fs d, μ a = some (.ins C dx fs) ∧ fs.lookup f = some d ∧ Q d μ := Iff.rfl
@[simp] theorem e_Fld {C : Addr} {f : Str} {t : DE} : vFld C f t δ μ Q ↔ t δ μ fun x μ1 => fldv C f x μ1 Q := Iff.rfl
@[simp] theorem e_NewT : vDNewT δ μ Q ↔ ∀ p, μ p = none → Q (.ref p) (mset μ p (.dT [])) := Iff.rfl
def putv (x y v : Dv) (μ : Mu) (Q : Mu → Prop) : Prop := match x with | .ref a => dstore μ a y v Q | _ => False
@[simp] theorem putv_ref {Q : Mu → Prop} : putv (.ref a) y v μ Q ↔ dstore μ a y v Q := Iff.rfl
@[simp] theorem s_DPut {td ty tv : DE} : sDPutV td ty tv D δ μ ↔ tv δ μ fun v μ1 => td δ μ1 fun x μ2 => ty δ μ2 fun y μ3 => putv x y v μ3 fun μ4 => D.nx δ μ4 := Iff.rfl
theorem store_T {Q : Mu → Prop} {kvs : List (List Key × Dv)} {ks : List Key} (h : μ a = some (.dT kvs)) (hk : keysD ys = some ks) : dstore μ a (.tup ys) v Q ↔ kvs.length < sizeLine ∧ Q (mset μ a (.dT (putD kvs ks v))) := by
  simp [dstore, h, hk]
theorem look_T {Q : Option Dv → Prop} {kvs : List (List Key × Dv)} {ks : List Key} (h : μ a = some (.dT kvs)) (hk : keysD ys = some ks) : dlook μ a (.tup ys) Q ↔ Q (valD kvs ks) := by
  simp [dlook, h, hk]
def prpv (C : Addr) (sp : Sp2) (x : Dv) (μ : Mu) (Q : DV) : Prop := match x with | .ref a => ∃ dx fs, μ a = some (.ins C dx fs) ∧ sp [.ref a] μ Q fun _ _ _ => False | _ => False
@[simp] theorem prpv_ref {C : Addr} {sp : Sp2} : prpv C sp (.ref a) μ Q ↔ ∃ dx fs, μ a = some (.ins C dx fs) ∧ sp [.ref a] μ Q fun _ _ _ => False := Iff.rfl
@[simp] theorem e_Prop {C : Addr} {sp : Sp2} {t : DE} : vProp C sp t δ μ Q ↔ t δ μ fun x μ1 => prpv C sp x μ1 Q := Iff.rfl
end
end Wl
namespace Lw
open PySem L2 Wl
section
variable {P : Program} {w : World} {c : Cs} {μ : Mu} {Q : DV} {E : DX}
theorem lk_m {x y z : Dv} : List.lookup (Str.ofString "_modes") [(Str.ofString "_modes", x), (Str.ofString "_wait", y), (Str.ofString "_bindings", z)] = some x := by
  simp
theorem lk_w {x y z : Dv} : List.lookup (Str.ofString "_wait") [(Str.ofString "_modes", x), (Str.ofString "_wait", y), (Str.ofString "_bindings", z)] = some y := by
  have e1 : ((Str.ofString "_wait") == (Str.ofString "_modes")) = false := by decide +kernel
  simp [List.lookup, e1]
theorem lk_b {x y z : Dv} : List.lookup (Str.ofString "_bindings") [(Str.ofString "_modes", x), (Str.ofString "_wait", y), (Str.ofString "_bindings", z)] = some z := by
  have e1 : ((Str.ofString "_bindings") == (Str.ofString "_modes")) = false := by decide +kernel
  have e2 : ((Str.ofString "_bindings") == (Str.ofString "_wait")) = false := by decide +kernel
  simp [List.lookup, e1, e2]
theorem m_map_bindings {k : Addr} {ms : List Str} {wt : Int} {bs : List Bd} (h : MapAt c μ k ms wt bs) (q : Q (.tup (bs.map Bd.dv)) μ) : sp_KeyMap_bindings P w c [.ref k] μ Q E := by
  obtain ⟨dx, h⟩ := h
  simp [sp_KeyMap_bindings, T_KeyMap_bindings, N_KeyMap_bindings, dstart]
  exact ⟨dx, _, h, _, lk_b, q⟩
theorem m_map_wait {k : Addr} {ms : List Str} {wt : Int} {bs : List Bd} (h : MapAt c μ k ms wt bs) (q : Q (.int wt) μ) : sp_KeyMap_wait P w c [.ref k] μ Q E := by
  obtain ⟨dx, h⟩ := h
  simp [sp_KeyMap_wait, T_KeyMap_wait, N_KeyMap_wait, dstart]
  exact ⟨dx, _, h, _, lk_w, q⟩
theorem m_map_modes {k : Addr} {ms : List Str} {wt : Int} {bs : List Bd} (h : MapAt c μ k ms wt bs) (q : Q (.tup (ms.map Dv.str)) μ) : sp_KeyMap_modes P w c [.ref k] μ Q E := by
  obtain ⟨dx, h⟩ := h
  simp [sp_KeyMap_modes, T_KeyMap_modes, N_KeyMap_modes, dstart]
  exact ⟨dx, _, h, _, lk_m, q⟩
end
end Lw

set_option Elab.async false
set_option linter.all false
set_option maxRecDepth 100000
namespace Wl
open PySem L2
section
variable {δ : DSt} {μ : Mu} {QA : List Dv → Mu → Prop}
def rng2 (x y : Dv) (Q : List Dv → Prop) : Prop := match x, y with | .int i, .int j => (-(2 ^ 62) ≤ i ∧ i < 2 ^ 62 ∧ -(2 ^ 62) ≤ j ∧ j < 2 ^ 62) ∧ Q (irange i (j - i).toNat) | _, _ => False
@[simp] theorem rng2_int {i j : Int} {Q : List Dv → Prop} : rng2 (.int i) (.int j) Q ↔ (-(2 ^ 62) ≤ i ∧ i < 2 ^ 62 ∧ -(2 ^ 62) ≤ j ∧ j < 2 ^ 62) ∧ Q (irange i (j - i).toNat) := Iff.rfl
@[simp] theorem w_Rng2 {t u : DE} : wRng2 (vCons t (vCons u vNil)) δ μ QA ↔ t δ μ fun x μ1 => u δ μ1 fun y μ2 => rng2 x y fun ds => QA ds μ2 := by
  have e : wRng2 (vCons t (vCons u vNil)) δ μ QA ↔ t δ μ fun x μ1 => u δ μ1 fun y μ2 => (match [x, y] with | [.int i, .int j] => (-(2 ^ 62) ≤ i ∧ i < 2 ^ 62 ∧ -(2 ^ 62) ≤ j ∧ j < 2 ^ 62) ∧ QA (irange i (j - i).toNat) μ2 | _ => False) := Iff.rfl
  rw [e]
  have e2 : (fun (x : Dv) (μ1 : Mu) => u δ μ1 fun y μ2 => (match [x, y] with | [.int i, .int j] => (-(2 ^ 62) ≤ i ∧ i < 2 ^ 62 ∧ -(2 ^ 62) ≤ j ∧ j < 2 ^ 62) ∧ QA (irange i (j - i).toNat) μ2 | _ => False)) = fun (x : Dv) (μ1 : Mu) => u δ μ1 fun y μ2 => rng2 x y fun ds => QA ds μ2 := by
    funext x μ1
    have e3 : (fun (y : Dv) (μ2 : Mu) => (match [x, y] with | [.int i, .int j] => (-(2 ^ 62) ≤ i ∧ i < 2 ^ 62 ∧ -(2 ^ 62) ≤ j ∧ j < 2 ^ 62) ∧ QA (irange i (j - i).toNat) μ2 | _ => False)) = fun (y : Dv) (μ2 : Mu) => rng2 x y fun ds => QA ds μ2 := by
      funext y μ2; exact propext (by cases x <;> cases y <;> exact Iff.rfl)
    rw [e3]
  rw [e2]
end
end Wl
namespace Lw
open PySem L2 Wl
section
variable {P : Program} {w : World} {c : Cs} {μ : Mu} {Q : DV} {E : DX}
/-- the first k keys -/
def pre (x : Str) (k : Nat) : Str := cutS x none (some (k : Int))
def Bnd (bs : List Bd) (kb : List (List Key × Dv)) : Prop := ∀ m x : Str, valD kb [.inr m, .inr x] = ((bs.reverse.find? fun b => decide (b.mode = m ∧ b.keys = x)).map fun b => .tup [.str b.cmd, .str b.tgt])
def Beg (bs : List Bd) (kg : List (List Key × Dv)) : Prop := ∀ m x : Str, (valD kg [.inr m, .inr x]).isSome = true ↔ ∃ b ∈ bs, b.mode = m ∧ ∃ k : Nat, 1 ≤ k ∧ k < b.keys.cps.size ∧ x = pre b.keys k
theorem bnd_step {bs : List Bd} {kb : List (List Key × Dv)} {b : Bd} (h : Bnd bs kb) : Bnd (bs ++ [b]) (putD kb [.inr b.mode, .inr b.keys] (.tup [.str b.cmd, .str b.tgt])) := by
  intro m x
  rw [valD_put, List.reverse_append, List.reverse_singleton, List.singleton_append, List.find?_cons]
  by_cases e : b.mode = m ∧ b.keys = x
  · obtain ⟨rfl, rfl⟩ := e
    simp
  · have e' : ¬ ([.inr m, .inr x] : List Key) = [.inr b.mode, .inr b.keys] := fun q => by
      injection q with q1 q2
      injection q2 with q2 _
      injection q1 with q1
      injection q2 with q2
      exact e ⟨q1.symm, q2.symm⟩
    rw [if_neg e', h m x]
    simp [e]
def RulesAt (c : Cs) (μ : Mu) (r : Addr) (bs : List Bd) : Prop :=
  ∃ dx pb pg kb kg, μ r = some (.ins c.Rules dx [("_bound", .ref pb), ("_begun", .ref pg)]) ∧ μ pb = some (.dT kb) ∧ μ pg = some (.dT kg) ∧ Bnd bs kb ∧ Beg bs kg
theorem lk_o {x y : Dv} : List.lookup (Str.ofString "_bound") [(Str.ofString "_bound", x), (Str.ofString "_begun", y)] = some x := by simp
theorem lk_g {x y : Dv} : List.lookup (Str.ofString "_begun") [(Str.ofString "_bound", x), (Str.ofString "_begun", y)] = some y := by
  have e1 : ((Str.ofString "_begun") == (Str.ofString "_bound")) = false := by decide +kernel
  simp [List.lookup, e1]
theorem irange_at {lo : Int} {n i : Nat} {d : Dv} (h : (irange lo n)[i]? = some d) : i < n ∧ d = .int (lo + i) := by
  unfold irange at h
  rw [List.getElem?_map] at h
  by_cases hi : i < n
  · rw [List.getElem?_range hi] at h
    simp at h
    exact ⟨hi, h.symm⟩
  · rw [List.getElem?_eq_none (by simpa using hi)] at h
    cases h
theorem m_rules_init (r k dx : Addr) (ms : List Str) (wt : Int) (bs : List Bd) (hk : MapAt c μ k ms wt bs) (hl : bs.length ≤ 30) (hs : ∀ b ∈ bs, 1 ≤ b.keys.cps.size ∧ b.keys.cps.size ≤ 6) (hr : μ r = some (.ins c.Rules dx []))
    (q : ∀ μ', (∀ b m, b ≠ r → μ b = some m → μ' b = some m) → RulesAt c μ' r bs → Q .non μ') : sp_Rules_init__ P w c [.ref r, .ref k] μ Q E := by
  have hz : 1000 < sizeLine := by decide
  have e1 : ¬ ((Str.ofString "_bound") = (Str.ofString "_begun")) := by decide +kernel
  simp [sp_Rules_init__, T_Rules_init__, N_Rules_init__, dstart]
  intro pb hpb
  have hpr : pb ≠ r := fun e => by rw [e, hr] at hpb; cases hpb
  refine ⟨dx, [], by rw [mset_off hpr.symm]; exact hr, by decide, fun pg hpg => ?_⟩
  have hgr : pg ≠ r := fun e => by rw [e, mset_at] at hpg; cases hpg
  have hgb : pg ≠ pb := fun e => by rw [e, mset_off hpr, mset_at] at hpg; cases hpg
  have hpg0 : μ pg = none := by rw [mset_off hgr, mset_off hgb] at hpg; exact hpg
  have d1 : dput (Str.ofString "_bound") (Dv.ref pb) [] = ([("_bound", .ref pb)] : List (Str × Dv)) := rfl
  have d2 : dput (Str.ofString "_begun") (Dv.ref pg) [((Str.ofString "_bound"), Dv.ref pb)] = ([("_bound", .ref pb), ("_begun", .ref pg)] : List (Str × Dv)) := by simp [dput, e1]
  refine ⟨dx, _, by rw [mset_off hgr.symm, mset_at], by rw [d1]; simp, ?_⟩
  rw [d1, d2]
  obtain ⟨dk, hk'⟩ := id hk
  have hkr : k ≠ r := fun e => by rw [e, hr] at hk'; injection hk' with hk'; injection hk' with _ _ h3; cases h3
  have keep0 : ∀ b m, b ≠ r → μ b = some m → mset (mset (mset (mset μ pb (.dT [])) r (.ins c.Rules dx [("_bound", .ref pb)])) pg (.dT [])) r (.ins c.Rules dx [("_bound", .ref pb), ("_begun", .ref pg)]) b = some m := fun b m hb e => by
    rw [mset_off hb, mset_off (fun q => by rw [q, hpg0] at e; cases e), mset_off hb, mset_off (fun q => by rw [q, hpb] at e; cases e)]; exact e
  refine ⟨⟨_, _, keep0 _ _ hkr hk'⟩, ?_⟩
  refine m_map_bindings ⟨dk, keep0 _ _ hkr hk'⟩ ?_
  simp
  refine loop_inv _ (fun i δ μ' => ∃ (l2 l3 l4 l5 l6 : Option Dv) (kb kg : List (List Key × Dv)), δ = [some (.ref r), some (.ref k), l2, l3, l4, l5, l6] ∧ μ' r = some (.ins c.Rules dx [("_bound", .ref pb), ("_begun", .ref pg)]) ∧ μ' pb = some (.dT kb) ∧ μ' pg = some (.dT kg) ∧
      Bnd (bs.take i) kb ∧ Beg (bs.take i) kg ∧ kb.length ≤ i ∧ kg.length ≤ 5 * i ∧ ∀ b m, b ≠ r → μ b = some m → μ' b = some m) 0
    ⟨none, none, none, none, none, [], [], rfl, mset_at, by rw [mset_off hpr, mset_off hgb.symm, mset_off hpr, mset_at], by rw [mset_off hgr, mset_at], fun m x => rfl, fun m x => by simp [valD_nil], Nat.le_refl _, Nat.le_refl _, keep0⟩ ?_ ?_
  · rintro i d δ μ' C hd ⟨l2, l3, l4, l5, l6, kb, kg, rfl, hR, hB, hG, hbn, hbg, hbl, hgl, hkp⟩ hC
    rw [List.getElem?_map] at hd
    cases hm : bs[i]? with
    | none => rw [hm] at hd; cases hd
    | some b =>
      rw [hm] at hd
      cases hd
      have hi : i < bs.length := (List.getElem?_eq_some_iff.mp hm).1
      have hmem : b ∈ bs := List.mem_of_getElem? hm
      obtain ⟨hs1, hs2⟩ := hs b hmem
      have htake : bs.take (0 + i + 1) = bs.take (0 + i) ++ [b] := by rw [show 0 + i + 1 = i + 1 by omega, show 0 + i = i by omega, List.take_add_one, hm]; rfl
      simp [Bd.dv]
      refine ⟨by omega, dx, _, hR, _, lk_o, by omega, ?_⟩
      refine putv_ref.mpr ((store_T (ys := [.str b.mode, .str b.keys]) hB (ks := [.inr b.mode, .inr b.keys]) rfl).mpr ⟨by omega, ?_⟩)
      have hlen : b.keys.length = b.keys.cps.size := rfl
      refine ⟨by rw [hlen]; omega, by rw [hlen]; omega, ?_⟩
      have hrb : r ≠ pb := hpr.symm
      refine loop_inv _ (fun j δ μ2 => ∃ (l6 : Option Dv) (kg2 : List (List Key × Dv)), δ = [some (.ref r), some (.ref k), some (.str b.mode), some (.str b.keys), some (.str b.cmd), some (.str b.tgt), l6] ∧ μ2 r = some (.ins c.Rules dx [("_bound", .ref pb), ("_begun", .ref pg)]) ∧
          μ2 pb = some (.dT (putD kb [.inr b.mode, .inr b.keys] (.tup [.str b.cmd, .str b.tgt]))) ∧ μ2 pg = some (.dT kg2) ∧ kg2.length ≤ 5 * (0 + i) + j ∧ (∀ b m, b ≠ r → μ b = some m → μ2 b = some m) ∧
          ∀ m x : Str, (valD kg2 [.inr m, .inr x]).isSome = true ↔ ((valD kg [.inr m, .inr x]).isSome = true ∨ (b.mode = m ∧ ∃ z : Nat, 1 ≤ z ∧ z < 1 + j ∧ x = pre b.keys z))) 0
        ⟨_, kg, rfl, by rw [mset_off hrb]; exact hR, mset_at, by rw [mset_off hgb]; exact hG, hgl, fun b' m' h1 h2 => by rw [mset_off (fun q => by rw [q, hpb] at h2; cases h2)]; exact hkp b' m' h1 h2, fun m x => ⟨.inl, fun h => h.elim id fun ⟨_, z, h1, h2, _⟩ => absurd h2 (by omega)⟩⟩ ?_ ?_
      · rintro j d δ μ2 C2 hd2 ⟨l6, kg2, rfl, hR2, hB2, hG2, hl2, hkp2, hv2⟩ hC2
        obtain ⟨hj, rfl⟩ := irange_at hd2
        have hj' : j + 1 < b.keys.cps.size := by rw [hlen] at hj; omega
        simp
        refine ⟨dx, _, hR2, _, lk_g, by rw [hlen]; omega, by omega, ?_⟩
        have epre : cutS b.keys none (some (1 + (j : Int))) = pre b.keys (1 + j) := by unfold pre; congr 2
        rw [epre]
        refine putv_ref.mpr ((store_T (ys := [.str b.mode, .str (pre b.keys (1 + j))]) hG2 (ks := [.inr b.mode, .inr (pre b.keys (1 + j))]) rfl).mpr ⟨by omega, ?_⟩)
        refine hC2 _ _ ⟨_, _, rfl, by rw [mset_off hgr.symm]; exact hR2, by rw [mset_off hgb.symm]; exact hB2, mset_at, Nat.le_trans (putD_length _ _ _) (by omega), fun b' m' h1 h2 => by rw [mset_off (fun q => by rw [q, hpg0] at h2; cases h2)]; exact hkp2 b' m' h1 h2, fun m x => ?_⟩
        rw [valD_put]
        by_cases e : ([.inr m, .inr x] : List Key) = [.inr b.mode, .inr (pre b.keys (1 + j))]
        · rw [if_pos e]
          injection e with q1 q2
          injection q2 with q2 _
          injection q1 with q1
          injection q2 with q2
          exact ⟨fun _ => .inr ⟨q1.symm, 1 + j, by omega, by omega, q2⟩, fun _ => rfl⟩
        · rw [if_neg e, hv2 m x]
          constructor
          · rintro (h | ⟨h, z, h1, h2, h3⟩)
            · exact .inl h
            · exact .inr ⟨h, z, h1, by omega, h3⟩
          · rintro (h | ⟨h, z, h1, h2, h3⟩)
            · exact .inl h
            · refine .inr ⟨h, z, h1, ?_, h3⟩
              by_cases hz' : z = 1 + j
              · exact absurd (by rw [h, h3, hz']) e
              · omega
      · rintro δ μ2 ⟨l6, kg2, rfl, hR2, hB2, hG2, hl2, hkp2, hv2⟩
        have hn : (irange 1 (b.keys.length - 1)).length = b.keys.cps.size - 1 := by simp [irange, hlen]
        rw [hn] at hl2 hv2
        refine hC _ _ ⟨_, _, _, _, _, _, kg2, rfl, hR2, hB2, hG2, by rw [htake]; exact bnd_step hbn, fun m x => ?_, Nat.le_trans (putD_length _ _ _) (by omega), by omega, hkp2⟩
        rw [hv2 m x, hbg m x, htake]
        constructor
        · rintro (⟨b', h1, h2⟩ | ⟨h1, z, h2, h3, h4⟩)
          · exact ⟨b', List.mem_append_left _ h1, h2⟩
          · exact ⟨b, List.mem_append_right _ (List.mem_singleton.mpr rfl), h1, z, h2, by omega, h4⟩
        · rintro ⟨b', h1, h2, z, h3, h4, h5⟩
          rcases List.mem_append.mp h1 with h' | h'
          · exact .inl ⟨b', h', h2, z, h3, h4, h5⟩
          · rw [List.mem_singleton.mp h'] at h2 h4 h5
            exact .inr ⟨h2, z, h3, by omega, h5⟩
  · rintro δ μ' ⟨l2, l3, l4, l5, l6, kb, kg, rfl, hR, hB, hG, hbn, hbg, hbl, hgl, hkp⟩
    have hn : 0 + (bs.map Bd.dv).length = bs.length := by simp
    rw [hn, List.take_length] at hbn hbg
    exact q μ' hkp ⟨dx, pb, pg, kb, kg, hR, hB, hG, hbn, hbg⟩
end
end Lw


set_option Elab.async false
set_option linter.all false
set_option maxRecDepth 100000
namespace Wl
open PySem L2
section
variable {δ : DSt} {μ : Mu} {Q : DV}
def get1 (ty : DE) (δ : DSt) (Q : DV) (x : Dv) (μ1 : Mu) : Prop := match x with
  | .ref a => (match μ1 a with | some (.dK _) => True | some (.dT _) => True | _ => False) ∧ ty δ μ1 fun y μ2 => dlook μ2 a y fun o => Q (o.getD .non) μ2
  | _ => False
@[simp] theorem e_Get1 {td ty : DE} : vDGet1 td ty δ μ Q ↔ td δ μ fun x μ1 => get1 ty δ Q x μ1 := Iff.rfl
theorem get1_T {ty : DE} {a : Addr} {kvs : List (List Key × Dv)} (h : μ a = some (.dT kvs)) : get1 ty δ Q (.ref a) μ ↔ ty δ μ fun y μ2 => dlook μ2 a y fun o => Q (o.getD .non) μ2 := by
  simp [get1, h]
theorem idown_at {lo : Int} {n i : Nat} {d : Dv} (h : (idown lo n)[i]? = some d) : i < n ∧ d = .int (lo - i) := by
  unfold idown at h
  rw [List.getElem?_map] at h
  by_cases hi : i < n
  · rw [List.getElem?_range hi] at h
    simp at h
    exact ⟨hi, h.symm⟩
  · rw [List.getElem?_eq_none (by simpa using hi)] at h
    cases h
end
end Wl
namespace Lw
open PySem L2 Wl
section
variable {P : Program} {w : World} {c : Cs} {μ : Mu} {Q : DV} {E : DX}
/-- the binding of mode m that is the first k keys of x -/
def hit (bs : List Bd) (m x : Str) (k : Nat) : Option Bd := bs.reverse.find? fun b => decide (b.mode = m ∧ b.keys = pre x k)
/-- the longest beginning of x, of at most k keys, that is a binding -/
def best (bs : List Bd) (m x : Str) : Nat → Option (Nat × Bd)
  | 0 => none
  | k + 1 => match hit bs m x (k + 1) with
    | some b => some (k + 1, b)
    | none => best bs m x k
/-- the step: what, its name, how many keys; and the mode behind it -/
def stepOf (bs : List Bd) (m x : Str) : Str × Str × Nat × Str := match best bs m x x.cps.size with
  | some (k, b) => ("command", b.cmd, k, b.tgt)
  | none => ("lost", ⟨#[x.cps.toList.headD 0]⟩, 1, m)
def stepD (s : Str × Str × Nat × Str) : Dv := .tup [.tup [.str s.1, .str s.2.1, .int s.2.2.1], .str s.2.2.2]
theorem m_first_step (r : Addr) (bs : List Bd) (m x : Str) (h : RulesAt c μ r bs) (h1 : 1 ≤ x.cps.size) (h2 : x.cps.size ≤ 1000) (q : Q (stepD (stepOf bs m x)) μ) : sp_Rules_first_step P w c [.ref r, .str m, .str x] μ Q E := by
  have hz : 1000 < sizeLine := by decide
  have hlen : x.length = x.cps.size := rfl
  obtain ⟨dx, pb, pg, kb, kg, hR, hB, hG, hbn, hbg⟩ := h
  simp [sp_Rules_first_step, T_Rules_first_step, N_Rules_first_step, dstart, wRng3]
  refine ⟨by rw [hlen]; omega, by rw [hlen]; omega, ?_⟩
  refine loop_inv _ (fun i δ μ' => μ' = μ ∧ (∃ l3 l4 : Option Dv, δ = [some (.ref r), some (.str m), some (.str x), l3, l4]) ∧ i ≤ x.cps.size ∧ best bs m x x.cps.size = best bs m x (x.cps.size - i)) 0 ⟨rfl, ⟨none, none, rfl⟩, Nat.zero_le _, rfl⟩ ?_ ?_
  · rintro i d δ μ' C hd ⟨rfl, ⟨l3, l4, rfl⟩, hi, hb⟩ hC
    obtain ⟨hlt, rfl⟩ := idown_at hd
    have hlt' : i < x.cps.size := hlt
    simp
    refine ⟨dx, _, hR, _, lk_o, (get1_T hB).mpr ?_⟩
    simp
    refine ⟨by rw [hlen]; omega, by omega, ?_⟩
    have ek : x.cps.size - (0 + i) = (x.cps.size - (i + 1)) + 1 := by omega
    have ecut : cutS x none (some ((x.length : Int) - (i : Int))) = pre x ((x.cps.size - (i + 1)) + 1) := by
      unfold pre
      have : ((x.length : Int) - (i : Int)) = (((x.cps.size - (i + 1)) + 1 : Nat) : Int) := by rw [hlen]; omega
      rw [this]
    refine (look_T (ys := [.str m, .str _]) hB rfl).mpr ?_
    rw [ecut, hbn m _]
    have hh : (bs.reverse.find? fun b => decide (b.mode = m ∧ b.keys = pre x ((x.cps.size - (i + 1)) + 1))) = hit bs m x ((x.cps.size - (i + 1)) + 1) := rfl
    rw [hh]
    cases e : hit bs m x ((x.cps.size - (i + 1)) + 1) with
    | none =>
      simp [isNo]
      refine hC _ _ ⟨rfl, ⟨_, _, rfl⟩, by omega, ?_⟩
      rw [hb, ek]
      show (match hit bs m x ((x.cps.size - (i + 1)) + 1) with | some b => some ((x.cps.size - (i + 1)) + 1, b) | none => best bs m x (x.cps.size - (i + 1))) = _
      rw [e]
      show best bs m x (x.cps.size - (i + 1)) = _
      congr 1; omega
    | some b =>
      have a0 : atI [Dv.str b.cmd, .str b.tgt] 0 = some (.str b.cmd) := rfl
      have a1 : atI [Dv.str b.cmd, .str b.tgt] 1 = some (.str b.tgt) := rfl
      simp [isNo, a0, a1]
      refine ⟨by omega, by omega, ?_⟩
      have hbest : best bs m x x.cps.size = some ((x.cps.size - (i + 1)) + 1, b) := by
        rw [hb, ek]
        show (match hit bs m x ((x.cps.size - (i + 1)) + 1) with | some b => some ((x.cps.size - (i + 1)) + 1, b) | none => best bs m x (x.cps.size - (i + 1))) = _
        rw [e]
      have hq : stepD (stepOf bs m x) = Dv.tup [Dv.tup [Dv.str (Str.ofString "command"), Dv.str b.cmd, Dv.int ((x.length : Int) - (i : Int))], Dv.str b.tgt] := by
        unfold stepOf
        rw [hbest]
        have : ((x.length : Int) - (i : Int)) = (((x.cps.size - (i + 1)) + 1 : Nat) : Int) := by rw [hlen]; omega
        rw [this]; rfl
      rw [hq] at q
      exact q
  · rintro δ μ' ⟨rfl, ⟨l3, l4, rfl⟩, hi, hb⟩
    have hn : (idown (x.length : Int) x.length).length = x.cps.size := by simp [idown]; rfl
    rw [hn, show x.cps.size - (0 + x.cps.size) = 0 by omega] at hb
    have e0 : ∃ ch, x.cps.toList[0]? = some ch := ⟨_, List.getElem?_eq_getElem (by simp; omega)⟩
    obtain ⟨ch, hch⟩ := e0
    have ea : atI x.cps.toList 0 = some ch := by
      unfold atI ixN
      rw [if_pos (by decide), if_pos (by simp; omega)]
      exact hch
    simp [ea]
    refine ⟨by rw [hlen]; omega, by omega, by omega, ?_⟩
    have hd : x.cps.toList.headD 0 = ch := by
      cases hl : x.cps.toList with
      | nil => rw [hl] at hch; cases hch
      | cons a r => rw [hl] at hch; simpa using hch
    have hq : stepD (stepOf bs m x) = Dv.tup [Dv.tup [Dv.str (Str.ofString "lost"), Dv.str ⟨#[ch]⟩, Dv.int 1], Dv.str m] := by
      unfold stepOf
      rw [hb]
      show stepD ("lost", ⟨#[x.cps.toList.headD 0]⟩, 1, m) = _
      rw [hd]; rfl
    rw [hq] at q
    exact q
end
end Lw

set_option Elab.async false
set_option linter.all false
set_option maxRecDepth 100000
namespace Lw
open PySem L2 Wl
/-- a text by its signs -/
def tx (l : List Nat) : Str := ⟨l.toArray⟩
theorem tx_size (l : List Nat) : (tx l).cps.size = l.length := by simp [tx]
theorem tx_list (l : List Nat) : (tx l).cps.toList = l := by simp [tx]
theorem tx_add (l m : List Nat) : tx l ++ tx m = tx (l ++ m) := by
  show (⟨l.toArray ++ m.toArray⟩ : Str) = ⟨(l ++ m).toArray⟩
  simp
theorem tx_of (x : Str) : tx x.cps.toList = x := by cases x; simp [tx]
theorem best_size {bs : List Bd} {m x : Str} : ∀ {k : Nat} {z : Nat} {b : Bd}, best bs m x k = some (z, b) → 1 ≤ z ∧ z ≤ k
  | 0, _, _, h => by cases h
  | k + 1, z, b, h => by
    unfold best at h
    split at h
    · cases h; exact ⟨by omega, by omega⟩
    · have := best_size h; omega
theorem stepOf_size (bs : List Bd) (m x : Str) : 1 ≤ (stepOf bs m x).2.2.1 := by
  unfold stepOf
  split
  · rename_i k b e; exact (best_size e).1
  · exact Nat.le_refl _
/-- a longer binding begins with these keys -/
def begun (bs : List Bd) (m : Str) (l : List Nat) : Bool := bs.any fun b => decide (b.mode = m) && decide (1 ≤ l.length) && decide (l.length < b.keys.cps.size) && decide (b.keys.cps.toList.take l.length = l)
/-- the rules: keys held, keys to come; the steps, the mode, the keys held -/
def run (bs : List Bd) (m : Str) (l : List Nat) : List Nat → List (Str × Str × Nat) × Str × List Nat
  | [] => ([], m, l)
  | k :: r => if begun bs m (l ++ [k]) = true then run bs m (l ++ [k]) r
      else
        let s := stepOf bs m (tx (l ++ [k]))
        let t := run bs s.2.2.2 [] ((l ++ [k]).drop s.2.2.1 ++ r)
        ((s.1, s.2.1, s.2.2.1) :: t.1, t.2)
termination_by r => (l.length + r.length, r.length)
decreasing_by
  · simp_wf
    have e : (l ++ [k]).length + r.length = l.length + (r.length + 1) := by simp; omega
    first | omega | (rw [Prod.lex_def]; simp; omega)
  · simp_wf
    refine Prod.Lex.left _ _ ?_
    have := stepOf_size bs m (tx (l ++ [k]))
    simp; omega
theorem pre_tx (x : Str) (k : Nat) (h : k ≤ x.cps.size) : pre x k = tx (x.cps.toList.take k) := by
  unfold pre cutS tx
  rw [HT.sIx_none, HT.sIx_nat]
  have : min k x.length = k := Nat.min_eq_left h
  rw [this]
  simp
theorem beg_iff {bs : List Bd} {kg : List (List Key × Dv)} (h : Beg bs kg) (m : Str) (l : List Nat) : (valD kg [.inr m, .inr (tx l)]).isSome = begun bs m l := by
  have e : (valD kg [.inr m, .inr (tx l)]).isSome = true ↔ begun bs m l = true := by
    rw [h m (tx l)]
    unfold begun
    rw [List.any_eq_true]
    constructor
    · rintro ⟨b, hb, h1, k, h2, h3, h4⟩
      rw [pre_tx _ _ (by omega)] at h4
      have h5 : l = b.keys.cps.toList.take k := by rw [← tx_list l, h4, tx_list]
      have h6 : l.length = k := by rw [h5]; simp; omega
      refine ⟨b, hb, ?_⟩
      simp [h1, h6]
      exact ⟨⟨h2, h3⟩, h5.symm⟩
    · rintro ⟨b, hb, hh⟩
      simp at hh
      obtain ⟨⟨⟨h1, h2⟩, h3⟩, h4⟩ := hh
      exact ⟨b, hb, h1, l.length, h2, h3, by rw [pre_tx _ _ (by omega)]; simp [h4]⟩
  cases h1 : (valD kg [.inr m, .inr (tx l)]).isSome <;> cases h2 : begun bs m l <;> simp_all
end Lw

set_option Elab.async false
set_option linter.all false
set_option maxRecDepth 100000
namespace Wl
open PySem L2
section
variable {δ : DSt} {μ : Mu} {Q : DV} {D : DEnds} {a : Addr}
@[simp] theorem s_While {c : DT} {tb : DS} : sWhile c tb D δ μ ↔ ∃ n, sTimes c tb n D δ μ := Iff.rfl
def nin (x y : Dv) (μ : Mu) (Q : DV) : Prop := match x with | .ref a => dlook μ a y fun o => Q (.bl (!o.isSome)) μ | _ => False
@[simp] theorem nin_ref {y : Dv} : nin (.ref a) y μ Q ↔ dlook μ a y fun o => Q (.bl (!o.isSome)) μ := Iff.rfl
@[simp] theorem e_DNotIn {ty td : DE} : vDNotIn ty td δ μ Q ↔ ty δ μ fun y μ1 => td δ μ1 fun x μ2 => nin x y μ2 Q := Iff.rfl
def mth (C : Addr) (m : Str) (sp : Sp2) (dds : List Dv) (E2 : DXS) (t : DA) (δ : DSt) (Q : DV) (x : Dv) (μ1 : Mu) : Prop := match x with
  | .ref a => ∃ dx fs, μ1 a = some (.ins C dx fs) ∧ fs.lookup m = none ∧ t δ μ1 fun xs μ2 => sp (.ref a :: (xs ++ dds)) μ2 Q fun C' d μ3 => E2 C' d δ μ3
  | _ => False
@[simp] theorem mth_ref {C : Addr} {m : Str} {sp : Sp2} {dds : List Dv} {E2 : DXS} {t : DA} : mth C m sp dds E2 t δ Q (.ref a) μ ↔ ∃ dx fs, μ a = some (.ins C dx fs) ∧ fs.lookup m = none ∧ t δ μ fun xs μ2 => sp (.ref a :: (xs ++ dds)) μ2 Q fun C' d μ3 => E2 C' d δ μ3 := Iff.rfl
@[simp] theorem e_Meth {C : Addr} {m : Str} {sp : Sp2} {dds : List Dv} {E2 : DXS} {to : DE} {t : DA} : vMeth C m sp dds E2 to t δ μ Q ↔ to δ μ fun x μ1 => mth C m sp dds E2 t δ Q x μ1 := Iff.rfl
end
end Wl
namespace Lw
open PySem L2 Wl
theorem RulesAt.gr {c : Cs} {μ μ' : Mu} {r : Addr} {bs : List Bd} (g : Gr μ μ') (h : RulesAt c μ r bs) : RulesAt c μ' r bs :=
  let ⟨dx, pb, pg, kb, kg, h1, h2, h3, h4, h5⟩ := h
  ⟨dx, pb, pg, kb, kg, g _ _ h1, g _ _ h2, g _ _ h3, h4, h5⟩
def sD (s : Str × Str × Nat) : Dv := .tup [.str s.1, .str s.2.1, .int s.2.2]
theorem cut_from (l : List Nat) (k : Nat) : cutS (tx l) (some (k : Int)) none = tx (l.drop k) := by
  unfold cutS tx
  rw [HT.sIx_none, HT.sIx_nat]
  have : (⟨l.toArray⟩ : Str).length = l.length := by show l.toArray.size = l.length; simp
  rw [this]
  simp
  by_cases h : k ≤ l.length
  · rw [Nat.min_eq_left h]
    exact List.take_of_length_le (by simp)
  · rw [Nat.min_eq_right (by omega), List.drop_of_length_le (by omega), List.drop_of_length_le (by omega)]
    simp
section
variable {P : Program} {w : World} {c : Cs} {μ : Mu} {Q : DV} {E : DX}
theorem m_feed (r : Addr) (bs : List Bd) (m : Str) (l cl : List Nat) (h : RulesAt c μ r bs) (hb : l.length + cl.length ≤ 1000)
    (q : Q (.tup [.lst ((run bs m l cl).1.map sD), .tup [.str (run bs m l cl).2.1, .str (tx (run bs m l cl).2.2)]]) μ) : sp_Rules_feed P w c [.ref r, .tup [.str m, .str (tx l)], .str (tx cl)] μ Q E := by
  have hz : 3000 < sizeLine := by decide
  have hr0 : ∃ o, μ r = some o := let ⟨dx, pb, pg, kb, kg, h1, _⟩ := h; ⟨_, h1⟩
  obtain ⟨o, hro⟩ := hr0
  simp [sp_Rules_feed, T_Rules_feed, N_Rules_feed, dstart]
  intro p hp
  have hrp : r ≠ p := fun e => by rw [e, hp] at hro; cases hro
  refine ⟨(l.length + cl.length) * 2001 + cl.length + 1, while_inv (fun mm δ μ' => ∃ (m' : Str) (l' r' : List Nat) (acc : List (Str × Str × Nat)) (l7 : Option Dv), δ = [some (.ref r), some (.tup [.str m, .str (tx l)]), some (.str (tx cl)), some (.str m'), some (.str (tx l')), some (.str (tx r')), some (.ref p), l7] ∧
      μ' = mset μ p (.lst (acc.map sD)) ∧ run bs m l cl = (acc ++ (run bs m' l' r').1, (run bs m' l' r').2) ∧ acc.length + (l'.length + r'.length) ≤ l.length + cl.length ∧ mm = (l'.length + r'.length) * 2001 + r'.length) ?_ _ _ (Nat.lt_succ_self _) ⟨m, l, cl, [], none, rfl, rfl, rfl, by simp, rfl⟩⟩
  rintro mm δ μ' C ⟨m', l', r', acc, l7, rfl, rfl, hrun, hle, rfl⟩ hC
  have hsz : (tx r').length = r'.length := tx_size r'
  simp
  refine ⟨by rw [hsz]; omega, ?_⟩
  rw [hsz]
  cases r' with
  | nil =>
    simp
    rw [show run bs m' l' [] = ([], m', l') by unfold run; rfl] at hrun
    refine ⟨by omega, ?_⟩
    rw [mdel_mset hp]
    rw [hrun] at q
    simpa using q
  | cons k r2 =>
    simp
    have eadd : tx l' ++ (⟨#[k]⟩ : Str) = tx (l' ++ [k]) := tx_add l' [k]
    have ecut : cutS (tx (k :: r2)) (some 1) none = tx r2 := cut_from (k :: r2) 1
    have hlc : (k :: r2).length = r2.length + 1 := rfl
    rw [hlc] at hle
    obtain ⟨dx, pb, pg, kb, kg, hR, hB, hG, hbn, hbg⟩ := id h
    have hgp : pg ≠ p := fun e => by rw [e, hp] at hG; cases hG
    have hlen : (tx l').length = l'.length := tx_size l'
    refine ⟨by omega, k, by rw [tx_list]; simp [atI, ixN], by rw [hlen]; show l'.length + 1 ≤ sizeLine; omega, by omega, by omega, dx, _, by rw [mset_off hrp]; exact hR, _, lk_g, ?_⟩
    rw [eadd, ecut]
    refine nin_ref.mpr ((look_T (ys := [.str m', .str (tx (l' ++ [k]))]) (kvs := kg) (by rw [mset_off hgp]; exact hG) rfl).mpr ?_)
    rw [beg_iff hbg]
    simp
    have hrl : (l' ++ [k]).length = l'.length + 1 := by simp
    by_cases hbeg : begun bs m' (l' ++ [k]) = true
    · rw [if_pos hbeg]
      have er : run bs m' l' (k :: r2) = run bs m' (l' ++ [k]) r2 := by rw [run, if_pos hbeg]
      rw [er] at hrun
      refine hC _ _ _ ?_ ⟨m', l' ++ [k], r2, acc, _, rfl, rfl, hrun, by rw [hrl]; omega, rfl⟩
      rw [hrl, hlc]; omega
    · have hbeg' : begun bs m' (l' ++ [k]) = false := by simpa using hbeg
      rw [if_neg hbeg]
      have er : run bs m' l' (k :: r2) = ((((stepOf bs m' (tx (l' ++ [k]))).1, (stepOf bs m' (tx (l' ++ [k]))).2.1, (stepOf bs m' (tx (l' ++ [k]))).2.2.1) :: (run bs (stepOf bs m' (tx (l' ++ [k]))).2.2.2 [] ((l' ++ [k]).drop (stepOf bs m' (tx (l' ++ [k]))).2.2.1 ++ r2)).1), (run bs (stepOf bs m' (tx (l' ++ [k]))).2.2.2 [] ((l' ++ [k]).drop (stepOf bs m' (tx (l' ++ [k]))).2.2.1 ++ r2)).2) := by
        rw [run, if_neg hbeg]
      rw [er] at hrun
      have hs1 := stepOf_size bs m' (tx (l' ++ [k]))
      generalize hst : stepOf bs m' (tx (l' ++ [k])) = st at hrun hs1
      have nf : ∀ (a : Str) (b : Dv), (a, b) ∈ ([("_bound", .ref pb), ("_begun", .ref pg)] : List (Str × Dv)) → ¬Str.ofString "_first_step" = a := by
        intro a b hab
        simp at hab
        rcases hab with ⟨rfl, _⟩ | ⟨rfl, _⟩ <;> decide +kernel
      refine ⟨dx, _, by rw [mset_off hrp]; exact hR, nf, ?_⟩
      refine m_first_step r bs m' (tx (l' ++ [k])) (h.gr (Gr.new hp)) (by rw [tx_size, hrl]; omega) (by rw [tx_size, hrl]; omega) ?_
      rw [hst]
      have a2 : atI [Dv.str st.1, .str st.2.1, .int st.2.2.1] 2 = some (.int st.2.2.1) := rfl
      simp [stepD, ty_ref (show (mset μ p (.lst (acc.map sD))) p = some (.lst (acc.map sD)) from mset_at), a2]
      have ecut2 : cutS (tx (l' ++ [k])) (some (st.2.2.1 : Int)) none = tx ((l' ++ [k]).drop st.2.2.1) := cut_from _ _
      rw [ecut2, tx_add]
      have hlx : (tx (l' ++ [k])).length = l'.length + 1 := by show (tx (l' ++ [k])).cps.size = _; rw [tx_size, hrl]
      have hl2 : (tx ((l' ++ [k]).drop st.2.2.1)).length = (l' ++ [k]).length - st.2.2.1 := by show (tx _).cps.size = _; rw [tx_size, List.length_drop]
      have hl3 : (tx r2).length = r2.length := tx_size r2
      refine ⟨by omega, by rw [hlx]; omega, by rw [hl2, hl3, hrl]; omega, ?_⟩
      have hmap : acc.map sD ++ [Dv.tup [.str st.1, .str st.2.1, .int st.2.2.1]] = (acc ++ [(st.1, st.2.1, st.2.2.1)]).map sD := by simp [sD]
      rw [hmap]
      refine hC _ _ _ ?_ ⟨st.2.2.2, [], (l' ++ [k]).drop st.2.2.1 ++ r2, acc ++ [(st.1, st.2.1, st.2.2.1)], _, rfl, rfl, ?_, ?_, rfl⟩
      · rw [List.length_append, List.length_drop, hrl, hlc]
        simp
        omega
      · rw [hrun]; simp
      · rw [List.length_append, List.length_append, List.length_drop, hrl]
        simp
        omega
end
end Lw

set_option Elab.async false
set_option linter.all false
set_option maxRecDepth 100000
namespace Lw
open PySem L2 Wl
/-- what is held is broken up -/
def brk (bs : List Bd) (m : Str) (l : List Nat) : List (Str × Str × Nat) × Str × List Nat :=
  let s := stepOf bs m (tx l)
  let t := run bs s.2.2.2 [] (l.drop s.2.2.1)
  ((s.1, s.2.1, s.2.2.1) :: t.1, t.2)
theorem run_steps (bs : List Bd) : ∀ (m : Str) (l cl : List Nat), (run bs m l cl).1.length + (run bs m l cl).2.2.length ≤ l.length + cl.length := by
  intro m l cl
  induction m, l, cl using run.induct bs with
  | case1 m l => unfold run; simp
  | case2 m l k r hb ih => rw [run, if_pos hb]; simp at ih ⊢; omega
  | case3 m l k r hb s ih =>
    rw [run, if_neg hb]
    have h1 := stepOf_size bs m (tx (l ++ [k]))
    simp at ih ⊢
    have h2 : s = stepOf bs m (tx (l ++ [k])) := rfl
    rw [h2] at ih
    omega
section
variable {P : Program} {w : World} {c : Cs} {μ : Mu} {Q : DV} {E : DX}
theorem m_break_up (r : Addr) (bs : List Bd) (m : Str) (l : List Nat) (h : RulesAt c μ r bs) (h1 : 1 ≤ l.length) (h2 : l.length ≤ 500)
    (q : Q (.tup [.lst ((brk bs m l).1.map sD), .tup [.str (brk bs m l).2.1, .str (tx (brk bs m l).2.2)]]) μ) : sp_Rules_break_up P w c [.ref r, .tup [.str m, .str (tx l)]] μ Q E := by
  have hz : 3000 < sizeLine := by decide
  obtain ⟨dx, pb, pg, kb, kg, hR, hB, hG, hbn, hbg⟩ := id h
  have hlx : (tx l).length = l.length := tx_size l
  have nf : ∀ (a : Str) (b : Dv), (a, b) ∈ ([("_bound", .ref pb), ("_begun", .ref pg)] : List (Str × Dv)) → ¬Str.ofString "_first_step" = a := by
    intro a b hab
    simp at hab
    rcases hab with ⟨rfl, _⟩ | ⟨rfl, _⟩ <;> decide +kernel
  have nf2 : ∀ (a : Str) (b : Dv), (a, b) ∈ ([("_bound", .ref pb), ("_begun", .ref pg)] : List (Str × Dv)) → ¬Str.ofString "feed" = a := by
    intro a b hab
    simp at hab
    rcases hab with ⟨rfl, _⟩ | ⟨rfl, _⟩ <;> decide +kernel
  simp [sp_Rules_break_up, T_Rules_break_up, N_Rules_break_up, dstart]
  refine ⟨dx, _, hR, nf, ?_⟩
  refine m_first_step r bs m (tx l) h (by rw [tx_size]; omega) (by rw [tx_size]; omega) ?_
  unfold brk at q
  generalize hst : stepOf bs m (tx l) = st at q
  have hs1 : 1 ≤ st.2.2.1 := hst ▸ stepOf_size bs m (tx l)
  have a2 : atI [Dv.str st.1, .str st.2.1, .int st.2.2.1] 2 = some (.int st.2.2.1) := rfl
  simp [stepD, a2]
  have ecut2 : cutS (tx l) (some (st.2.2.1 : Int)) none = tx (l.drop st.2.2.1) := cut_from _ _
  rw [ecut2]
  refine ⟨dx, _, hR, nf2, by omega, by rw [hlx]; omega, ?_⟩
  have e0 : Dv.tup [Dv.str st.2.2.2, Dv.str (Str.ofString "")] = .tup [.str st.2.2.2, .str (tx [])] := by rfl
  rw [e0]
  refine m_feed r bs st.2.2.2 [] (l.drop st.2.2.1) h (by simp; omega) ?_
  have hrs := run_steps bs st.2.2.2 [] (l.drop st.2.2.1)
  simp at hrs
  simp
  refine ⟨by omega, by omega, by omega, ?_⟩
  simpa [sD] using q
end
end Lw

set_option Elab.async false
set_option linter.all false
set_option maxRecDepth 100000
namespace Lw
open PySem L2 Wl
abbrev Ev := Str × Int × Str × Nat
def evD (e : Ev) : Dv := .tup [.str e.1, .int e.2.1, .str e.2.2.1, .int e.2.2.2]
def pf (r hp : Addr) (wt : Int) (m : Str) (l : List Nat) (f : Int) : List (Str × Dv) :=
  [("_rules", .ref r), ("_pause", .int wt), ("fed_tick", .int f), ("state", .tup [.str m, .str (tx l)]), ("happened", .ref hp)]
structure PlayerAt (c : Cs) (μ : Mu) (pl hp r : Addr) (bs : List Bd) (wt : Int) (m : Str) (l : List Nat) (f : Int) (evs : List Ev) : Prop where
  at_ : ∃ dx, μ pl = some (.ins c.Player dx (pf r hp wt m l f))
  ev : μ hp = some (.lst (evs.map evD))
  ru : RulesAt c μ r bs
/-- all but the player's two places is kept -/
def But (pl hp : Addr) (μ μ' : Mu) : Prop := ∀ b m, b ≠ pl → b ≠ hp → μ b = some m → μ' b = some m
theorem But.trans {pl hp : Addr} {μ1 μ2 μ3 : Mu} (h : But pl hp μ1 μ2) (g : But pl hp μ2 μ3) : But pl hp μ1 μ3 := fun b m h1 h2 e => g b m h1 h2 (h b m h1 h2 e)
theorem RulesAt.but {c : Cs} {μ μ' : Mu} {pl hp r r' hp' : Addr} {bs : List Bd} {dx : Addr} {wt : Int} {m : Str} {l : List Nat} {f : Int} {xs : List Dv} (g : But pl hp μ μ') (hP : μ pl = some (.ins c.Player dx (pf r' hp' wt m l f))) (hE : μ hp = some (.lst xs)) (h : RulesAt c μ r bs) : RulesAt c μ' r bs := by
  obtain ⟨d, pb, pg, kb, kg, h1, h2, h3, h4, h5⟩ := h
  have n1 : r ≠ pl := fun e => by rw [e, hP] at h1; injection h1 with h1; injection h1 with _ _ h1; simp [pf] at h1
  have n2 : r ≠ hp := fun e => by rw [e, hE] at h1; cases h1
  have n3 : pb ≠ pl := fun e => by rw [e, hP] at h2; cases h2
  have n4 : pb ≠ hp := fun e => by rw [e, hE] at h2; cases h2
  have n5 : pg ≠ pl := fun e => by rw [e, hP] at h3; cases h3
  have n6 : pg ≠ hp := fun e => by rw [e, hE] at h3; cases h3
  exact ⟨d, pb, pg, kb, kg, g _ _ n1 n2 h1, g _ _ n3 n4 h2, g _ _ n5 n6 h3, h4, h5⟩
theorem PlayerAt.ne {c : Cs} {μ : Mu} {pl hp r : Addr} {bs : List Bd} {wt : Int} {m : Str} {l : List Nat} {f : Int} {evs : List Ev} (h : PlayerAt c μ pl hp r bs wt m l f evs) : hp ≠ pl := fun e => by
  obtain ⟨dx, h1⟩ := h.at_
  have h2 := h.ev
  rw [e, h1] at h2; cases h2
section
variable {P : Program} {w : World} {c : Cs} {μ : Mu} {Q : DV} {E : DX}
theorem ps (a b : String) (h : ((Str.ofString a) == (Str.ofString b)) = false) : ¬ Str.ofString a = Str.ofString b := fun e => by rw [e] at h; simp at h
theorem pf_tick (r hp : Addr) (wt : Int) (m : Str) (l : List Nat) (f t : Int) : dput (Str.ofString "fed_tick") (.int t) (pf r hp wt m l f) = pf r hp wt m l t := by
  have e1 := ps "_rules" "fed_tick" (by decide +kernel)
  have e2 := ps "_pause" "fed_tick" (by decide +kernel)
  simp [pf, dput, e1, e2]
theorem pf_state (r hp : Addr) (wt : Int) (m m' : Str) (l l' : List Nat) (f : Int) : dput (Str.ofString "state") (.tup [.str m', .str (tx l')]) (pf r hp wt m l f) = pf r hp wt m' l' f := by
  have e1 := ps "_rules" "state" (by decide +kernel)
  have e2 := ps "_pause" "state" (by decide +kernel)
  have e3 := ps "fed_tick" "state" (by decide +kernel)
  simp [pf, dput, e1, e2, e3]
theorem pf_happened (r hp : Addr) (wt : Int) (m : Str) (l : List Nat) (f : Int) : (pf r hp wt m l f).lookup (Str.ofString "happened") = some (.ref hp) := by
  have e1 : ((Str.ofString "happened") == (Str.ofString "_rules")) = false := by decide +kernel
  have e2 : ((Str.ofString "happened") == (Str.ofString "_pause")) = false := by decide +kernel
  have e3 : ((Str.ofString "happened") == (Str.ofString "fed_tick")) = false := by decide +kernel
  have e4 : ((Str.ofString "happened") == (Str.ofString "state")) = false := by decide +kernel
  simp [pf, List.lookup, e1, e2, e3, e4]
theorem m_note (pl hp r : Addr) (bs : List Bd) (wt : Int) (m : Str) (l : List Nat) (f t : Int) (evs : List Ev) (ss : List (Str × Str × Nat)) (h : PlayerAt c μ pl hp r bs wt m l f evs) (hl : evs.length + ss.length ≤ 10000)
    (q : ∀ μ', But pl hp μ μ' → PlayerAt c μ' pl hp r bs wt m l t (evs ++ ss.map fun s => (s.1, t, s.2.1, s.2.2)) → Q .non μ') : sp_Player_note P w c [.ref pl, .int t, .lst (ss.map sD)] μ Q E := by
  have hz : 20000 < sizeLine := by decide
  have hne := h.ne
  obtain ⟨dx, hP⟩ := h.at_
  simp [sp_Player_note, T_Player_note, N_Player_note, dstart]
  refine ⟨dx, _, hP, by simp [pf], ?_⟩
  rw [pf_tick]
  refine loop_inv _ (fun i δ μ' => ∃ l3 l4 l5 : Option Dv, δ = [some (.ref pl), some (.int t), some (.lst (ss.map sD)), l3, l4, l5] ∧ But pl hp μ μ' ∧ μ' pl = some (.ins c.Player dx (pf r hp wt m l t)) ∧ μ' hp = some (.lst ((evs ++ (ss.take i).map fun s => (s.1, t, s.2.1, s.2.2)).map evD))) 0
    ⟨none, none, none, rfl, fun b n h1 h2 e => by rw [mset_off h1]; exact e, mset_at, by rw [mset_off hne]; simpa using h.ev⟩ ?_ ?_
  · rintro i d δ μ' C hd ⟨l3, l4, l5, rfl, hbut, hP', hE'⟩ hC
    rw [List.getElem?_map] at hd
    cases hm : ss[i]? with
    | none => rw [hm] at hd; cases hd
    | some s =>
      rw [hm] at hd
      cases hd
      have hi : i < ss.length := (List.getElem?_eq_some_iff.mp hm).1
      simp [sD]
      refine ⟨dx, _, hP', _, pf_happened _ _ _ _ _ _, (ty_ref hE').mpr rfl, by omega, ?_⟩
      simp
      refine ⟨_, hE', by simp; omega, ?_⟩
      refine hC _ _ ⟨_, _, _, rfl, fun b n h1 h2 e => by rw [mset_off h2]; exact hbut b n h1 h2 e, by rw [mset_off hne.symm]; exact hP', ?_⟩
      rw [mset_at, show 0 + i + 1 = i + 1 by omega, List.take_add_one, hm]
      simp [evD]
  · rintro δ μ' ⟨l3, l4, l5, rfl, hbut, hP', hE'⟩
    have hn : 0 + (ss.map sD).length = ss.length := by simp
    rw [hn, List.take_length] at hE'
    exact q μ' hbut ⟨⟨dx, hP'⟩, hE', h.ru.but hbut hP h.ev⟩
end
end Lw

set_option Elab.async false
set_option linter.all false
set_option maxRecDepth 100000
namespace Wl
open PySem L2
section
variable {δ : DSt} {μ : Mu} {QS : DSt → Mu → Prop} {d : Dv}
@[simp] theorem g_Attr {C : Addr} {f : Str} {to : DE} : dAttr C f to d δ μ QS ↔ to δ μ fun x μ1 => gFld C f x d μ1 fun μ2 => QS δ μ2 := Iff.rfl
end
end Wl
namespace Lw
open PySem L2 Wl
section
variable {P : Program} {w : World} {c : Cs} {μ : Mu} {Q : DV} {E : DX}
theorem pf_rules (r hp : Addr) (wt : Int) (m : Str) (l : List Nat) (f : Int) : (pf r hp wt m l f).lookup (Str.ofString "_rules") = some (.ref r) := by simp [pf, List.lookup]
theorem pf_pause (r hp : Addr) (wt : Int) (m : Str) (l : List Nat) (f : Int) : (pf r hp wt m l f).lookup (Str.ofString "_pause") = some (.int wt) := by
  have e1 : ((Str.ofString "_pause") == (Str.ofString "_rules")) = false := by decide +kernel
  simp [pf, List.lookup, e1]
theorem pf_fed (r hp : Addr) (wt : Int) (m : Str) (l : List Nat) (f : Int) : (pf r hp wt m l f).lookup (Str.ofString "fed_tick") = some (.int f) := by
  have e1 : ((Str.ofString "fed_tick") == (Str.ofString "_rules")) = false := by decide +kernel
  have e2 : ((Str.ofString "fed_tick") == (Str.ofString "_pause")) = false := by decide +kernel
  simp [pf, List.lookup, e1, e2]
theorem pf_st (r hp : Addr) (wt : Int) (m : Str) (l : List Nat) (f : Int) : (pf r hp wt m l f).lookup (Str.ofString "state") = some (.tup [.str m, .str (tx l)]) := by
  have e1 : ((Str.ofString "state") == (Str.ofString "_rules")) = false := by decide +kernel
  have e2 : ((Str.ofString "state") == (Str.ofString "_pause")) = false := by decide +kernel
  have e3 : ((Str.ofString "state") == (Str.ofString "fed_tick")) = false := by decide +kernel
  simp [pf, List.lookup, e1, e2, e3]
theorem pf_no (r hp : Addr) (wt : Int) (m : Str) (l : List Nat) (f : Int) (x : String) (h : (["_rules", "_pause", "fed_tick", "state", "happened"] : List String).all (fun y => !(Str.ofString y == Str.ofString x)) = true) : ∀ (a : Str) (b : Dv), (a, b) ∈ pf r hp wt m l f → ¬ Str.ofString x = a := by
  intro a b hab e
  subst e
  simp [pf] at hab
  simp at h
  obtain ⟨h1, h2, h3, h4, h5⟩ := h
  rcases hab with ⟨e, _⟩ | ⟨e, _⟩ | ⟨e, _⟩ | ⟨e, _⟩ | ⟨e, _⟩
  · exact h1 e.symm
  · exact h2 e.symm
  · exact h3 e.symm
  · exact h4 e.symm
  · exact h5 e.symm
theorem brk_steps (bs : List Bd) (m : Str) (l : List Nat) : (brk bs m l).1.length ≤ l.length + 1 := by
  unfold brk
  have := run_steps bs (stepOf bs m (tx l)).2.2.2 [] (l.drop (stepOf bs m (tx l)).2.2.1)
  simp at this
  simp
  omega
theorem m_pass_wait (pl hp r : Addr) (bs : List Bd) (wt : Int) (m : Str) (l : List Nat) (f : Int) (evs : List Ev) (h : PlayerAt c μ pl hp r bs wt m l f evs) (h1 : 1 ≤ l.length) (h2 : l.length ≤ 500) (hl : evs.length ≤ 5000)
    (q : ∀ μ', But pl hp μ μ' → PlayerAt c μ' pl hp r bs wt (brk bs m l).2.1 (brk bs m l).2.2 (f + wt) (evs ++ (brk bs m l).1.map fun s => (s.1, f + wt, s.2.1, s.2.2)) → Q .non μ') : sp_Player_pass_wait P w c [.ref pl] μ Q E := by
  have hne := h.ne
  obtain ⟨dx, hP⟩ := id h.at_
  obtain ⟨d, pb, pg, kb, kg, hR, _, _, _, _⟩ := id h.ru
  have nf : ∀ (a : Str) (b : Dv), (a, b) ∈ ([("_bound", .ref pb), ("_begun", .ref pg)] : List (Str × Dv)) → ¬Str.ofString "break_up" = a := by
    intro a b hab
    simp at hab
    rcases hab with ⟨rfl, _⟩ | ⟨rfl, _⟩ <;> decide +kernel
  simp [sp_Player_pass_wait, T_Player_pass_wait, N_Player_pass_wait, dstart]
  refine ⟨dx, _, hP, _, pf_rules _ _ _ _ _ _, mth_ref.mpr ⟨d, _, hR, List.lookup_eq_none_iff.mpr (fun p hp' => by
    have := nf p.1 p.2 hp'
    simpa using this), ?_⟩⟩
  simp
  refine ⟨dx, _, hP, _, pf_st _ _ _ _ _ _, ?_⟩
  refine m_break_up r bs m l h.ru h1 h2 ?_
  simp
  refine ⟨dx, _, hP, by simp [pf], ?_⟩
  rw [pf_state]
  have hP2 : (mset μ pl (.ins c.Player dx (pf r hp wt (brk bs m l).2.1 (brk bs m l).2.2 f))) pl = some (.ins c.Player dx (pf r hp wt (brk bs m l).2.1 (brk bs m l).2.2 f)) := mset_at
  have hB2 : But pl hp μ (mset μ pl (.ins c.Player dx (pf r hp wt (brk bs m l).2.1 (brk bs m l).2.2 f))) := fun b n k1 k2 e => by rw [mset_off k1]; exact e
  have PA : PlayerAt c (mset μ pl (.ins c.Player dx (pf r hp wt (brk bs m l).2.1 (brk bs m l).2.2 f))) pl hp r bs wt (brk bs m l).2.1 (brk bs m l).2.2 f evs :=
    ⟨⟨dx, hP2⟩, by rw [mset_off hne]; exact h.ev, h.ru.but hB2 hP h.ev⟩
  have hbs := brk_steps bs m l
  refine ⟨dx, _, ⟨rfl, rfl⟩, pf_no _ _ _ _ _ _ "_note" (by decide +kernel), dx, _, ⟨rfl, rfl⟩, _, pf_fed _ _ _ _ _ _, dx, _, ⟨rfl, rfl⟩, _, pf_pause _ _ _ _ _ _, ?_⟩
  simp
  exact m_note pl hp r bs wt _ _ f (f + wt) evs (brk bs m l).1 PA (by omega) fun μ' hb hp' => q μ' (hB2.trans hb) hp'
end
end Lw

set_option Elab.async false
set_option linter.all false
set_option maxRecDepth 100000
namespace Lw
open PySem L2 Wl
theorem brk_less (bs : List Bd) (m : Str) (l : List Nat) (h : l ≠ []) : (brk bs m l).2.2.length < l.length := by
  unfold brk
  have h1 := run_steps bs (stepOf bs m (tx l)).2.2.2 [] (l.drop (stepOf bs m (tx l)).2.2.1)
  have h2 := stepOf_size bs m (tx l)
  have h3 : 0 < l.length := List.length_pos_iff.mpr h
  simp at h1
  simp
  omega
/-- waits pass as long as lim lets them -/
def lp (bs : List Bd) (wt : Int) (lim : Int → Bool) (m : Str) (l : List Nat) (f : Int) (evs : List Ev) : Str × List Nat × Int × List Ev :=
  if h : l ≠ [] ∧ lim (f + wt) = true then
    lp bs wt lim (brk bs m l).2.1 (brk bs m l).2.2 (f + wt) (evs ++ (brk bs m l).1.map fun s => (s.1, f + wt, s.2.1, s.2.2))
  else (m, l, f, evs)
termination_by l.length
decreasing_by exact brk_less bs m l h.1
section
variable {P : Program} {w : World} {c : Cs} {μ : Mu} {Q : DV} {E : DX}
theorem m_let_pass (pl hp r : Addr) (bs : List Bd) (wt : Int) (m : Str) (l : List Nat) (f t : Int) (evs : List Ev) (h : PlayerAt c μ pl hp r bs wt m l f evs) (h2 : l.length ≤ 50) (hl : evs.length + 60 * l.length ≤ 5000)
    (q : ∀ μ', But pl hp μ μ' → PlayerAt c μ' pl hp r bs wt (lp bs wt (fun x => decide (x ≤ t)) m l f evs).1 (lp bs wt (fun x => decide (x ≤ t)) m l f evs).2.1 (lp bs wt (fun x => decide (x ≤ t)) m l f evs).2.2.1 (lp bs wt (fun x => decide (x ≤ t)) m l f evs).2.2.2 → Q .non μ') :
    sp_Player_let_pass P w c [.ref pl, .int t] μ Q E := by
  have hz : 20000 < sizeLine := by decide
  simp [sp_Player_let_pass, T_Player_let_pass, N_Player_let_pass, dstart]
  refine ⟨l.length + 1, while_inv (fun mm δ μ' => ∃ (m' : Str) (l' : List Nat) (f' : Int) (evs' : List Ev), δ = [some (.ref pl), some (.int t)] ∧ But pl hp μ μ' ∧ PlayerAt c μ' pl hp r bs wt m' l' f' evs' ∧ l'.length ≤ 50 ∧ evs'.length + 60 * l'.length ≤ 5000 ∧ mm = l'.length ∧
      lp bs wt (fun x => decide (x ≤ t)) m l f evs = lp bs wt (fun x => decide (x ≤ t)) m' l' f' evs') ?_ _ _ (Nat.lt_succ_self _) ⟨m, l, f, evs, rfl, fun b n _ _ e => e, h, h2, hl, rfl, rfl⟩⟩
  rintro mm δ μ' C ⟨m', l', f', evs', rfl, hbut, PA, k1, k2, rfl, e⟩ hC
  obtain ⟨dx, hP⟩ := id PA.at_
  have hlx : (tx l').length = l'.length := tx_size l'
  have a1 : atI [Dv.str m', .str (tx l')] 1 = some (.str (tx l')) := rfl
  simp
  refine ⟨dx, _, hP, _, pf_st _ _ _ _ _ _, ?_⟩
  simp [a1, hlx]
  refine ⟨by omega, ?_⟩
  by_cases hn : l' = []
  · subst hn
    simp
    rw [show lp bs wt (fun x => decide (x ≤ t)) m' [] f' evs' = (m', [], f', evs') by unfold lp; simp] at e
    rw [e] at q
    exact q μ' hbut PA
  · rw [if_neg hn]
    refine ⟨dx, _, hP, _, pf_fed _ _ _ _ _ _, dx, _, hP, _, pf_pause _ _ _ _ _ _, ?_⟩
    simp
    by_cases ht : f' + wt ≤ t
    · rw [if_pos ht]
      refine ⟨dx, _, hP, pf_no _ _ _ _ _ _ "_pass_wait" (by decide +kernel), ?_⟩
      have hpos : 0 < l'.length := List.length_pos_iff.mpr hn
      have hbs := brk_steps bs m' l'
      have hbl := brk_less bs m' l' hn
      refine m_pass_wait pl hp r bs wt m' l' f' evs' PA hpos (by omega) (by omega) fun μ2 hb2 PA2 => ?_
      refine hC _ _ _ hbl ⟨_, _, _, _, rfl, hbut.trans hb2, PA2, by omega, by rw [List.length_append, List.length_map]; omega, rfl, ?_⟩
      rw [e]
      conv => lhs; unfold lp
      rw [dif_pos ⟨hn, by simpa using ht⟩]
    · rw [if_neg ht]
      rw [show lp bs wt (fun x => decide (x ≤ t)) m' l' f' evs' = (m', l', f', evs') by unfold lp; rw [dif_neg (fun q => ht (by simpa using q.2))]] at e
      rw [e] at q
      exact q μ' hbut PA
end
end Lw

set_option Elab.async false
set_option linter.all false
set_option maxRecDepth 100000
namespace Lw
open PySem L2 Wl
theorem lp_len (bs : List Bd) (wt : Int) (lim : Int → Bool) (m : Str) (l : List Nat) (f : Int) (evs : List Ev) : (lp bs wt lim m l f evs).2.1.length ≤ l.length ∧ (lp bs wt lim m l f evs).2.2.2.length + (lp bs wt lim m l f evs).2.1.length ≤ evs.length + 2 * l.length := by
  induction m, l, f, evs using lp.induct bs wt lim with
  | case1 m l f evs h ih =>
    rw [lp, dif_pos h]
    have h1 := brk_less bs m l h.1
    have h2 : (brk bs m l).1.length + (brk bs m l).2.2.length ≤ l.length + 1 := by
      unfold brk
      have h1 := run_steps bs (stepOf bs m (tx l)).2.2.2 [] (l.drop (stepOf bs m (tx l)).2.2.1)
      simp at h1
      simp
      omega
    simp at ih
    have h3 : (brk bs m l).1.length + 2 * (brk bs m l).2.2.length ≤ 2 * l.length := by omega
    exact ⟨by omega, by omega⟩
  | case2 m l f evs h =>
    rw [lp, dif_neg h]
    exact ⟨Nat.le_refl _, by show evs.length + l.length ≤ _; omega⟩
section
variable {P : Program} {w : World} {c : Cs} {μ : Mu} {Q : DV} {E : DX}
theorem m_all_pass (pl hp r : Addr) (bs : List Bd) (wt : Int) (m : Str) (l : List Nat) (f : Int) (evs : List Ev) (h : PlayerAt c μ pl hp r bs wt m l f evs) (h2 : l.length ≤ 50) (hl : evs.length + 60 * l.length ≤ 5000)
    (q : ∀ μ', But pl hp μ μ' → PlayerAt c μ' pl hp r bs wt (lp bs wt (fun _ => true) m l f evs).1 (lp bs wt (fun _ => true) m l f evs).2.1 (lp bs wt (fun _ => true) m l f evs).2.2.1 (lp bs wt (fun _ => true) m l f evs).2.2.2 → Q .non μ') :
    sp_Player_let_all_pass P w c [.ref pl] μ Q E := by
  have hz : 20000 < sizeLine := by decide
  simp [sp_Player_let_all_pass, T_Player_let_all_pass, N_Player_let_all_pass, dstart]
  refine ⟨l.length + 1, while_inv (fun mm δ μ' => ∃ (m' : Str) (l' : List Nat) (f' : Int) (evs' : List Ev), δ = [some (.ref pl)] ∧ But pl hp μ μ' ∧ PlayerAt c μ' pl hp r bs wt m' l' f' evs' ∧ l'.length ≤ 50 ∧ evs'.length + 60 * l'.length ≤ 5000 ∧ mm = l'.length ∧
      lp bs wt (fun _ => true) m l f evs = lp bs wt (fun _ => true) m' l' f' evs') ?_ _ _ (Nat.lt_succ_self _) ⟨m, l, f, evs, rfl, fun b n _ _ e => e, h, h2, hl, rfl, rfl⟩⟩
  rintro mm δ μ' C ⟨m', l', f', evs', rfl, hbut, PA, k1, k2, rfl, e⟩ hC
  obtain ⟨dx, hP⟩ := id PA.at_
  have hlx : (tx l').length = l'.length := tx_size l'
  have a1 : atI [Dv.str m', .str (tx l')] 1 = some (.str (tx l')) := rfl
  simp
  refine ⟨dx, _, hP, _, pf_st _ _ _ _ _ _, ?_⟩
  simp [a1, hlx]
  refine ⟨by omega, ?_⟩
  by_cases hn : l' = []
  · subst hn
    simp
    rw [show lp bs wt (fun _ => true) m' [] f' evs' = (m', [], f', evs') by unfold lp; simp] at e
    rw [e] at q
    exact q μ' hbut PA
  · rw [if_neg hn]
    refine ⟨dx, _, hP, pf_no _ _ _ _ _ _ "_pass_wait" (by decide +kernel), ?_⟩
    have hpos : 0 < l'.length := List.length_pos_iff.mpr hn
    have hbs := brk_steps bs m' l'
    have hbl := brk_less bs m' l' hn
    refine m_pass_wait pl hp r bs wt m' l' f' evs' PA hpos (by omega) (by omega) fun μ2 hb2 PA2 => ?_
    refine hC _ _ _ hbl ⟨_, _, _, _, rfl, hbut.trans hb2, PA2, by omega, by rw [List.length_append, List.length_map]; omega, rfl, ?_⟩
    rw [e]
    conv => lhs; unfold lp
    rw [dif_pos ⟨hn, rfl⟩]
end
end Lw

set_option Elab.async false
set_option linter.all false
set_option maxRecDepth 100000
namespace Lw
open PySem L2 Wl
/-- a key is pressed at t -/
def prs (bs : List Bd) (wt t : Int) (ch : Nat) (m : Str) (l : List Nat) (f : Int) (evs : List Ev) : Str × List Nat × Int × List Ev :=
  let a := lp bs wt (fun x => decide (x ≤ t)) m l f evs
  let b := run bs a.1 a.2.1 [ch]
  (b.2.1, b.2.2, t, a.2.2.2 ++ b.1.map fun s => (s.1, t, s.2.1, s.2.2))
section
variable {P : Program} {w : World} {c : Cs} {μ : Mu} {Q : DV} {E : DX}
theorem m_press (pl hp r : Addr) (bs : List Bd) (wt : Int) (m : Str) (l : List Nat) (f t : Int) (ch : Nat) (evs : List Ev) (h : PlayerAt c μ pl hp r bs wt m l f evs) (h2 : l.length ≤ 50) (hl : evs.length + 60 * l.length ≤ 5000)
    (q : ∀ μ', But pl hp μ μ' → PlayerAt c μ' pl hp r bs wt (prs bs wt t ch m l f evs).1 (prs bs wt t ch m l f evs).2.1 (prs bs wt t ch m l f evs).2.2.1 (prs bs wt t ch m l f evs).2.2.2 → Q .non μ') :
    sp_Player_press P w c [.ref pl, .int t, .str ⟨#[ch]⟩] μ Q E := by
  have hne := h.ne
  obtain ⟨dx0, hP0⟩ := id h.at_
  simp [sp_Player_press, T_Player_press, N_Player_press, dstart]
  refine ⟨dx0, _, hP0, pf_no _ _ _ _ _ _ "let_pass" (by decide +kernel), ?_⟩
  refine m_let_pass pl hp r bs wt m l f t evs h h2 hl fun μ1 hb1 PA1 => ?_
  obtain ⟨n1, n2⟩ := lp_len bs wt (fun x => decide (x ≤ t)) m l f evs
  unfold prs at q
  generalize hlp : lp bs wt (fun x => decide (x ≤ t)) m l f evs = a at q PA1 n1 n2
  obtain ⟨dx, hP⟩ := id PA1.at_
  obtain ⟨d, pb, pg, kb, kg, hR, _, _, _, _⟩ := id PA1.ru
  have nf : List.lookup (Str.ofString "feed") ([("_bound", .ref pb), ("_begun", .ref pg)] : List (Str × Dv)) = none := by
    have e1 : ((Str.ofString "feed") == (Str.ofString "_bound")) = false := by decide +kernel
    have e2 : ((Str.ofString "feed") == (Str.ofString "_begun")) = false := by decide +kernel
    simp [List.lookup, e1, e2]
  refine ⟨dx, _, hP, _, pf_rules _ _ _ _ _ _, mth_ref.mpr ⟨d, _, hR, nf, ?_⟩⟩
  simp
  refine ⟨dx, _, hP, _, pf_st _ _ _ _ _ _, ?_⟩
  have ech : (⟨#[ch]⟩ : Str) = tx [ch] := rfl
  rw [ech]
  refine m_feed r bs a.1 a.2.1 [ch] PA1.ru (by simp; omega) ?_
  have hrs := run_steps bs a.1 a.2.1 [ch]
  simp at hrs
  simp
  refine ⟨dx, _, hP, by simp [pf], ?_⟩
  rw [pf_state]
  generalize hb : run bs a.1 a.2.1 [ch] = b at hrs ⊢
  have hP2 : (mset μ1 pl (.ins c.Player dx (pf r hp wt b.2.1 b.2.2 a.2.2.1))) pl = some (.ins c.Player dx (pf r hp wt b.2.1 b.2.2 a.2.2.1)) := mset_at
  have hB2 : But pl hp μ1 (mset μ1 pl (.ins c.Player dx (pf r hp wt b.2.1 b.2.2 a.2.2.1))) := fun b n k1 k2 e => by rw [mset_off k1]; exact e
  have PA : PlayerAt c (mset μ1 pl (.ins c.Player dx (pf r hp wt b.2.1 b.2.2 a.2.2.1))) pl hp r bs wt b.2.1 b.2.2 a.2.2.1 a.2.2.2 :=
    ⟨⟨dx, hP2⟩, by rw [mset_off hne]; exact PA1.ev, PA1.ru.but hB2 hP PA1.ev⟩
  refine ⟨dx, _, ⟨rfl, rfl⟩, pf_no _ _ _ _ _ _ "_note" (by decide +kernel), ?_⟩
  subst hb
  exact m_note pl hp r bs wt _ _ a.2.2.1 t a.2.2.2 _ PA (by omega) fun μ' hb' hp' => q μ' (hb1.trans (hB2.trans hb')) hp'
end
end Lw

set_option Elab.async false
set_option linter.all false
set_option maxRecDepth 100000
namespace Lw
open PySem L2 Wl
section
variable {P : Program} {w : World} {c : Cs} {μ : Mu} {Q : DV} {E : DX}
theorem m_player_init (pl k dx : Addr) (m0 : Str) (ms : List Str) (wt : Int) (bs : List Bd) (hk : MapAt c μ k (m0 :: ms) wt bs) (hl : bs.length ≤ 30) (hs : ∀ b ∈ bs, 1 ≤ b.keys.cps.size ∧ b.keys.cps.size ≤ 6) (hp : μ pl = some (.ins c.Player dx []))
    (q : ∀ μ' h r, μ h = none → (∀ b m, b ≠ pl → μ b = some m → μ' b = some m) → PlayerAt c μ' pl h r bs wt m0 [] 0 [] → Q .non μ') : sp_Player_init__ P w c [.ref pl, .ref k] μ Q E := by
  have hz : 20000 < sizeLine := by decide
  obtain ⟨dk, hk'⟩ := id hk
  have hkp : k ≠ pl := fun e => by rw [e, hp] at hk'; injection hk' with hk'; injection hk' with _ _ h3; cases h3
  simp [sp_Player_init__, T_Player_init__, N_Player_init__, dstart, vMake]
  intro r dr hr
  have hrp : r ≠ pl := fun e => by rw [e, hp] at hr; cases hr
  have hrk : r ≠ k := fun e => by rw [e, hk'] at hr; cases hr
  have g0 : Gr μ (mset μ r (.ins c.Rules dr [])) := Gr.new hr
  refine m_rules_init r k dr (m0 :: ms) wt bs ⟨dk, g0 _ _ hk'⟩ hl hs mset_at fun μ1 hb1 hR1 => ?_
  have keep1 : ∀ b m, μ b = some m → μ1 b = some m := fun b m e => hb1 b m (fun q => by rw [q, hr] at e; cases e) (g0 _ _ e)
  simp
  refine ⟨dx, _, keep1 _ _ hp, by simp, ?_⟩
  have MA : ∀ X, MapAt c (mset μ1 pl X) k (m0 :: ms) wt bs := fun X => ⟨dk, by rw [mset_off hkp]; exact keep1 _ _ hk'⟩
  have a1 := ps "_rules" "_pause" (by decide +kernel)
  have a2 := ps "_rules" "fed_tick" (by decide +kernel)
  have a3 := ps "_pause" "fed_tick" (by decide +kernel)
  have a4 := ps "_rules" "state" (by decide +kernel)
  have a5 := ps "_pause" "state" (by decide +kernel)
  have a6 := ps "fed_tick" "state" (by decide +kernel)
  have a7 := ps "_rules" "happened" (by decide +kernel)
  have a8 := ps "_pause" "happened" (by decide +kernel)
  have a9 := ps "fed_tick" "happened" (by decide +kernel)
  have a10 := ps "state" "happened" (by decide +kernel)
  have d1 : dput (Str.ofString "_rules") (Dv.ref r) [] = ([("_rules", .ref r)] : List (Str × Dv)) := rfl
  have d2 : dput (Str.ofString "_pause") (Dv.int wt) ([("_rules", .ref r)] : List (Str × Dv)) = ([("_rules", .ref r), ("_pause", .int wt)] : List (Str × Dv)) := by simp [dput, a1]
  have d3 : dput (Str.ofString "fed_tick") (Dv.int 0) ([("_rules", .ref r), ("_pause", .int wt)] : List (Str × Dv)) = ([("_rules", .ref r), ("_pause", .int wt), ("fed_tick", .int 0)] : List (Str × Dv)) := by simp [dput, a2, a3]
  have d4 : dput (Str.ofString "state") (Dv.tup [.str m0, .str (Str.ofString "")]) ([("_rules", .ref r), ("_pause", .int wt), ("fed_tick", .int 0)] : List (Str × Dv)) = ([("_rules", .ref r), ("_pause", .int wt), ("fed_tick", .int 0), ("state", .tup [.str m0, .str (tx [])])] : List (Str × Dv)) := by
    simp [dput, a4, a5, a6]; rfl
  have d5 : ∀ p : Addr, dput (Str.ofString "happened") (Dv.ref p) ([("_rules", .ref r), ("_pause", .int wt), ("fed_tick", .int 0), ("state", .tup [.str m0, .str (tx [])])] : List (Str × Dv)) = pf r p wt m0 [] 0 := fun p => by simp [dput, pf, a7, a8, a9, a10]
  refine ⟨⟨_, _, (MA _).choose_spec⟩, ?_⟩
  refine m_map_wait (MA _) ?_
  refine ⟨dx, _, mset_at, by rw [d1]; simp, dx, _, ⟨rfl, rfl⟩, by rw [d1, d2]; simp, ?_⟩
  rw [d1, d2, d3]
  rw [mset_mset]
  refine ⟨⟨_, _, (MA _).choose_spec⟩, ?_⟩
  refine m_map_modes (MA _) ?_
  have e0 : atI ((m0 :: ms).map Dv.str) 0 = some (.str m0) := by simp [atI, ixN]
  refine ix_tup.mpr ⟨_, e0, by omega, dx, _, mset_at, by simp, fun p hpn => ?_⟩
  rw [mset_mset] at hpn ⊢
  rw [d4] at hpn ⊢
  have hpp : p ≠ pl := fun e => by rw [e, mset_at] at hpn; cases hpn
  have hpn1 : μ1 p = none := by rw [mset_off hpp] at hpn; exact hpn
  have hpn0 : μ p = none := by
    cases e : μ p with
    | none => rfl
    | some m => rw [keep1 _ _ e] at hpn1; cases hpn1
  refine ⟨dx, _, by rw [mset_off hpp.symm, mset_at], by simp, ?_⟩
  rw [d5]
  have hR1' : RulesAt c (mset (mset (mset μ1 pl (.ins c.Player dx [("_rules", .ref r), ("_pause", .int wt), ("fed_tick", .int 0), ("state", .tup [.str m0, .str (tx [])])])) p (.lst [])) pl (.ins c.Player dx (pf r p wt m0 [] 0))) r bs := by
    obtain ⟨d, pb, pg, kb, kg, h1, h2, h3, h4, h5⟩ := hR1
    have hP1 := keep1 _ _ hp
    have kk : ∀ b m, b ≠ pl → μ1 b = some m → (mset (mset (mset μ1 pl (.ins c.Player dx [("_rules", .ref r), ("_pause", .int wt), ("fed_tick", .int 0), ("state", .tup [.str m0, .str (tx [])])])) p (.lst [])) pl (.ins c.Player dx (pf r p wt m0 [] 0))) b = some m := fun b m hb e => by
      rw [mset_off hb, mset_off (fun q => by rw [q, hpn1] at e; cases e), mset_off hb]; exact e
    exact ⟨d, pb, pg, kb, kg, kk _ _ hrp h1, kk _ _ (fun e => by rw [e, hP1] at h2; cases h2) h2, kk _ _ (fun e => by rw [e, hP1] at h3; cases h3) h3, h4, h5⟩
  refine q _ p r hpn0 (fun b m hb e => ?_) ⟨⟨dx, mset_at⟩, by rw [mset_off hpp, mset_at]; rfl, hR1'⟩
  rw [mset_off hb, mset_off (fun q => by rw [q, hpn0] at e; cases e), mset_off hb]
  exact keep1 _ _ e
end
end Lw

set_option Elab.async false
set_option linter.all false
set_option maxRecDepth 100000
namespace Lw
open PySem L2 Wl
abbrev Sta := Str × List Nat × Int × List Ev
def psh (bs : List Bd) (wt : Int) (s : Sta) (p : Int × Nat) : Sta := prs bs wt p.1 p.2 s.1 s.2.1 s.2.2.1 s.2.2.2
theorem psh_len (bs : List Bd) (wt : Int) (s : Sta) (p : Int × Nat) : (psh bs wt s p).2.1.length ≤ s.2.1.length + 1 ∧ (psh bs wt s p).2.2.2.length ≤ s.2.2.2.length + 2 * s.2.1.length + 1 := by
  unfold psh prs
  have h1 := lp_len bs wt (fun x => decide (x ≤ p.1)) s.1 s.2.1 s.2.2.1 s.2.2.2
  have h2 := run_steps bs (lp bs wt (fun x => decide (x ≤ p.1)) s.1 s.2.1 s.2.2.1 s.2.2.2).1 (lp bs wt (fun x => decide (x ≤ p.1)) s.1 s.2.1 s.2.2.1 s.2.2.2).2.1 [p.2]
  simp at h2 ⊢
  omega
/-- all that happens -/
def hap (bs : List Bd) (wt : Int) (m0 : Str) (ss : List (Int × Nat)) : List Ev :=
  let s := ss.foldl (psh bs wt) (m0, [], 0, [])
  (lp bs wt (fun _ => true) s.1 s.2.1 s.2.2.1 s.2.2.2).2.2.2
/-- the state at tick t -/
def sta (bs : List Bd) (wt : Int) (m0 : Str) (ss : List (Int × Nat)) (t : Int) : Sta :=
  let s := (ss.filter fun p => decide (p.1 ≤ t)).foldl (psh bs wt) (m0, [], 0, [])
  lp bs wt (fun x => decide (x ≤ t)) s.1 s.2.1 s.2.2.1 s.2.2.2
def isCmd (e : Ev) : Bool := decide (e.1 = (Str.ofString "command"))
end Lw

set_option Elab.async false
set_option linter.all false
set_option maxRecDepth 100000
namespace Lw
open PySem L2 Wl
section
variable {P : Program} {w : World} {c : Cs} {μ : Mu} {Q : DV} {E : DX}
theorem m_played (k : Addr) (m0 : Str) (ms : List Str) (wt : Int) (bs : List Bd) (ss : List (Int × Nat)) (L : List Nat) (top : Int) (hk : MapAt c μ k (m0 :: ms) wt bs) (hl : bs.length ≤ 30) (hs : ∀ b ∈ bs, 1 ≤ b.keys.cps.size ∧ b.keys.cps.size ≤ 6)
    (ht : top ≤ 100000) (hL : ∀ x ∈ L, x ∈ alpha) (hS : Stks L top ss) (q : ∀ μ' pl hp r m1 h1 t1, Gr μ μ' → μ pl = none → μ hp = none → PlayerAt c μ' pl hp r bs wt m1 h1 t1 (hap bs wt m0 ss) → Q (.ref pl) μ') : sp_played P w c [.ref k, .lst (ss.map stk)] μ Q E := by
  have h12 := hS.len
  simp [sp_played, T_played, N_played, dstart, vMake]
  intro pl dx hpl
  obtain ⟨dk, hk'⟩ := id hk
  have g0 : Gr μ (mset μ pl (.ins c.Player dx [])) := Gr.new hpl
  refine m_player_init pl k dx m0 ms wt bs ⟨dk, g0 _ _ hk'⟩ hl hs mset_at fun μ1 hp r hhp hb1 PA1 => ?_
  have hhp0 : μ hp = none := by
    cases e : μ hp with
    | none => rfl
    | some m => rw [g0 _ _ e] at hhp; cases hhp
  have keep1 : Gr μ μ1 := fun b m e => hb1 b m (fun q => by rw [q, hpl] at e; cases e) (g0 _ _ e)
  have keepB : ∀ {μ2}, Gr μ μ1 → But pl hp μ1 μ2 → Gr μ μ2 := fun {μ2} g hb b m e => hb b m (fun q => by rw [q, hpl] at e; cases e) (fun q => by rw [q, hhp0] at e; cases e) (g b m e)
  simp
  refine loop_inv _ (fun i δ μ' => (∃ l3 l4 : Option Dv, δ = [some (.ref k), some (.lst (ss.map stk)), some (.ref pl), l3, l4]) ∧ But pl hp μ1 μ' ∧ ∃ s : Sta, s = (ss.take i).foldl (psh bs wt) (m0, [], 0, []) ∧ PlayerAt c μ' pl hp r bs wt s.1 s.2.1 s.2.2.1 s.2.2.2 ∧ s.2.1.length ≤ i ∧ s.2.2.2.length ≤ 33 * i) 0
    ⟨⟨none, none, rfl⟩, fun b m _ _ e => e, _, rfl, PA1, Nat.le_refl _, Nat.le_refl _⟩ ?_ ?_
  · rintro i d δ μ' C hd ⟨⟨l3, l4, rfl⟩, hb, s, hs', PA, k1, k2⟩ hC
    rw [List.getElem?_map] at hd
    cases hm : ss[i]? with
    | none => rw [hm] at hd; cases hd
    | some p =>
      rw [hm] at hd
      cases hd
      have hi : i < ss.length := (List.getElem?_eq_some_iff.mp hm).1
      obtain ⟨dx2, hP2⟩ := id PA.at_
      simp [stk]
      refine ⟨dx2, _, hP2, pf_no _ _ _ _ _ _ "press" (by decide +kernel), ?_⟩
      refine m_press pl hp r bs wt s.1 s.2.1 s.2.2.1 p.1 p.2 s.2.2.2 PA (by omega) (by omega) fun μ2 hb2 PA2 => ?_
      have hpl2 := psh_len bs wt s p
      refine hC _ _ ⟨⟨_, _, rfl⟩, hb.trans hb2, psh bs wt s p, ?_, PA2, by omega, by omega⟩
      rw [show 0 + i + 1 = i + 1 by omega, List.take_add_one, hm, List.foldl_append]
      rw [show 0 + i = i by omega] at hs'
      rw [← hs']; rfl
  · rintro δ μ' ⟨⟨l3, l4, rfl⟩, hb, s, hs', PA, k1, k2⟩
    have hn : 0 + (ss.map stk).length = ss.length := by simp
    rw [hn] at hs' k1 k2
    rw [List.take_length] at hs'
    obtain ⟨dx2, hP2⟩ := id PA.at_
    simp
    refine ⟨dx2, _, hP2, pf_no _ _ _ _ _ _ "let_all_pass" (by decide +kernel), ?_⟩
    refine m_all_pass pl hp r bs wt s.1 s.2.1 s.2.2.1 s.2.2.2 PA (by omega) (by omega) fun μ3 hb3 PA3 => ?_
    have eh : hap bs wt m0 ss = (lp bs wt (fun _ => true) s.1 s.2.1 s.2.2.1 s.2.2.2).2.2.2 := by rw [hs']; rfl
    rw [← eh] at PA3
    exact q _ pl hp r _ _ _ (keepB keep1 (hb.trans hb3)) hpl hhp0 PA3
theorem m_play_all (k : Addr) (m0 : Str) (ms : List Str) (wt : Int) (bs : List Bd) (ss : List (Int × Nat)) (L : List Nat) (top : Int) (hk : MapAt c μ k (m0 :: ms) wt bs) (hl : bs.length ≤ 30) (hs : ∀ b ∈ bs, 1 ≤ b.keys.cps.size ∧ b.keys.cps.size ≤ 6)
    (ht : top ≤ 100000) (hL : ∀ x ∈ L, x ∈ alpha) (hS : Stks L top ss) (q : ∀ μ', Gr μ μ' → Q (.lst ((hap bs wt m0 ss).map evD)) μ') : sp_play_all P w c [.ref k, .lst (ss.map stk)] μ Q E := by
  simp [sp_play_all, T_play_all, N_play_all, dstart]
  refine m_played k m0 ms wt bs ss L top hk hl hs ht hL hS fun μ3 pl hp r m1 h1 t1 g3 hpl hhp0 PA3 => ?_
  obtain ⟨dx3, hP3⟩ := id PA3.at_
  simp
  refine ⟨dx3, _, hP3, _, pf_happened _ _ _ _ _ _, frz_ref.mpr ⟨_, PA3.ev, ?_⟩⟩
  refine q _ fun b m e => ?_
  show (if b = hp then none else μ3 b) = some m
  rw [if_neg (fun q => by rw [q, hhp0] at e; cases e)]
  exact g3 b m e
end
end Lw

set_option Elab.async false
set_option linter.all false
set_option maxRecDepth 100000
namespace Lw
open PySem L2 Wl
/-! strokes by which bindings are typed -/
def lastT (ss : List (Int × Nat)) : Int := match ss.getLast? with | some p => p.1 | none => 0
def tyK (inner : Int) (s : List (Int × Nat) × Int) (k : Nat) : List (Int × Nat) × Int := (s.1 ++ [(if s.1 = [] then 0 else lastT s.1 + s.2, k)], inner)
def tyB (inner outer : Int) (ss : List (Int × Nat)) (ks : List Nat) : List (Int × Nat) := (ks.foldl (tyK inner) (ss, outer)).1
def tyS (inner outer : Int) (kss : List (List Nat)) : List (Int × Nat) := kss.foldl (tyB inner outer) []
theorem lastT_snoc (ss : List (Int × Nat)) (p : Int × Nat) : lastT (ss ++ [p]) = p.1 := by simp [lastT]
theorem tyK_gap (inner outer : Int) (ss : List (Int × Nat)) : ∀ (ks : List Nat), (ks.foldl (tyK inner) (ss, outer)).2 = if ks = [] then outer else inner := by
  intro ks
  rcases List.eq_nil_or_concat ks with rfl | ⟨l, k, rfl⟩
  · rfl
  · rw [List.concat_eq_append, List.foldl_append]
    simp [tyK]
structure TyOk (n : Nat) (L : List Nat) (ss : List (Int × Nat)) : Prop where
  len : ss.length ≤ n
  key : ∀ p ∈ ss, p.2 ∈ L
  lo : ∀ p ∈ ss, 0 ≤ p.1 ∧ p.1 ≤ lastT ss
  t0 : 0 ≤ lastT ss
  top : lastT ss ≤ 100 * (ss.length : Int)
  up : ss.Pairwise fun p q => p.1 ≤ q.1
theorem TyOk.nil (n : Nat) (L : List Nat) : TyOk n L [] := ⟨Nat.zero_le _, by simp, by simp, by simp [lastT], by simp [lastT], .nil⟩
theorem TyOk.step {n : Nat} {L : List Nat} {ss : List (Int × Nat)} (h : TyOk n L ss) {g inner : Int} {k : Nat} (hg : 0 ≤ g ∧ g ≤ 100) (hk : k ∈ L) : TyOk (n + 1) L (tyK inner (ss, g) k).1 := by
  have e : (tyK inner (ss, g) k).1 = ss ++ [(if ss = [] then 0 else lastT ss + g, k)] := rfl
  rw [e]
  have h0 := h.t0
  have h1 := h.top
  have hl := h.len
  generalize ht : (if ss = [] then (0 : Int) else lastT ss + g) = t
  have t1 : lastT ss ≤ t := by
    rw [← ht]
    split
    · rename_i z
      rw [z]; simp [lastT]
    · omega
  have t2 : t ≤ 100 * ((ss.length : Int) + 1) := by
    rw [← ht]
    split
    · omega
    · omega
  refine ⟨by simp; omega, fun p hp => ?_, fun p hp => ?_, by rw [lastT_snoc]; show 0 ≤ t; omega, by rw [lastT_snoc]; simp; omega, ?_⟩
  · rcases List.mem_append.mp hp with hp | hp
    · exact h.key p hp
    · rw [List.mem_singleton.mp hp]; exact hk
  · rw [lastT_snoc]
    rcases List.mem_append.mp hp with hp | hp
    · have := h.lo p hp
      exact ⟨this.1, by show p.1 ≤ t; omega⟩
    · rw [List.mem_singleton.mp hp]; exact ⟨by show 0 ≤ t; omega, Int.le_refl _⟩
  · refine List.pairwise_append.mpr ⟨h.up, List.pairwise_singleton _ _, fun p hp q hq => ?_⟩
    rw [List.mem_singleton.mp hq]
    have := (h.lo p hp).2
    show p.1 ≤ t
    omega
theorem TyOk.mono {n m : Nat} {L : List Nat} {ss : List (Int × Nat)} (h : TyOk n L ss) (hm : n ≤ m) : TyOk m L ss := ⟨by have := h.len; omega, h.key, h.lo, h.t0, h.top, h.up⟩
theorem TyOk.foldK {L : List Nat} {inner : Int} (hi : 0 ≤ inner ∧ inner ≤ 100) : ∀ (ks : List Nat) (n : Nat) (ss : List (Int × Nat)) (g : Int), TyOk n L ss → 0 ≤ g ∧ g ≤ 100 → (∀ k ∈ ks, k ∈ L) → TyOk (n + ks.length) L (ks.foldl (tyK inner) (ss, g)).1
  | [], n, ss, g, h, _, _ => h
  | k :: ks, n, ss, g, h, hg, hk => by
    rw [List.foldl_cons, List.length_cons, show n + (ks.length + 1) = (n + 1) + ks.length by omega]
    have e : tyK inner (ss, g) k = ((tyK inner (ss, g) k).1, inner) := rfl
    rw [e]
    exact TyOk.foldK hi ks (n + 1) _ inner (h.step hg (hk k List.mem_cons_self)) hi fun x hx => hk x (List.mem_cons_of_mem _ hx)
theorem TyOk.foldB {L : List Nat} {inner outer : Int} (hi : 0 ≤ inner ∧ inner ≤ 100) (ho : 0 ≤ outer ∧ outer ≤ 100) {z : Nat} : ∀ (kss : List (List Nat)) (n : Nat) (ss : List (Int × Nat)), TyOk n L ss → (∀ ks ∈ kss, ks.length ≤ z ∧ ∀ k ∈ ks, k ∈ L) → TyOk (n + z * kss.length) L (kss.foldl (tyB inner outer) ss)
  | [], n, ss, h, _ => h
  | ks :: kss, n, ss, h, hk => by
    rw [List.foldl_cons, List.length_cons]
    obtain ⟨k1, k2⟩ := hk ks List.mem_cons_self
    have h1 := (TyOk.foldK hi ks n ss outer h ho k2).mono (show n + ks.length ≤ n + z by omega)
    have h2 := TyOk.foldB hi ho kss (n + z) _ h1 fun x hx => hk x (List.mem_cons_of_mem _ hx)
    exact h2.mono (by rw [Nat.mul_add]; omega)
theorem TyOk.stks {n : Nat} {L : List Nat} {ss : List (Int × Nat)} (h : TyOk n L ss) (hn : n ≤ 16) : Stks L 100000 ss :=
  ⟨by have := h.len; omega, h.key, fun p hp => by
    have h1 := h.lo p hp
    have h2 := h.top
    have h3 := h.len
    exact ⟨h1.1, by omega⟩, h.up⟩
/-! whole numbers from 1 that pass -/
def wl (f : Int → Bool) : Nat → List Int
  | 0 => []
  | n + 1 => wl f n ++ (if f (1 + (n : Int)) then [1 + (n : Int)] else [])
theorem wl_len (f : Int → Bool) : ∀ n, (wl f n).length ≤ n
  | 0 => Nat.le_refl _
  | n + 1 => by
    have := wl_len f n
    simp only [wl, List.length_append]
    split <;> simp <;> omega
theorem wl_all {f : Int → Bool} (h : ∀ w, f w = true) : ∀ n, (wl f n).map Dv.int = irange 1 n
  | 0 => rfl
  | n + 1 => by
    have ih := wl_all h n
    simp only [wl, h, if_true, List.map_append, ih]
    simp [irange, List.range_succ]
end Lw

set_option Elab.async false
set_option linter.all false
set_option maxRecDepth 100000
namespace Lw
open PySem
abbrev Ky := Nat × Int
abbrev St3 := Str × Str × Nat
def kk (l : List Ky) : List Nat := l.map (·.1)
@[simp] theorem kk_append (a b : List Ky) : kk (a ++ b) = kk a ++ kk b := by simp [kk]
@[simp] theorem kk_cons (a : Ky) (b : List Ky) : kk (a :: b) = a.1 :: kk b := rfl
@[simp] theorem kk_nil : kk [] = [] := rfl
@[simp] theorem kk_length (a : List Ky) : (kk a).length = a.length := by simp [kk]
@[simp] theorem kk_drop (a : List Ky) (n : Nat) : kk (a.drop n) = (kk a).drop n := by simp [kk]
/-- the tick of the last of the first k keys -/
def typ (l : List Ky) (k : Nat) : Int := (l[k - 1]?.map (·.2)).getD 0
/-- the rules over keys with the ticks of their strokes -/
def runT (bs : List Bd) (m : Str) (l : List Ky) : List Ky → List (St3 × Int) × Str × List Ky
  | [] => ([], m, l)
  | k :: r => if begun bs m (kk (l ++ [k])) = true then runT bs m (l ++ [k]) r
      else
        let s := stepOf bs m (tx (kk (l ++ [k])))
        let t := runT bs s.2.2.2 [] ((l ++ [k]).drop s.2.2.1 ++ r)
        (((s.1, s.2.1, s.2.2.1), typ (l ++ [k]) s.2.2.1) :: t.1, t.2)
termination_by r => (l.length + r.length, r.length)
decreasing_by
  · simp_wf
    have e : (l ++ [k]).length + r.length = l.length + (r.length + 1) := by simp; omega
    first | omega | (rw [Prod.lex_def]; simp; omega)
  · simp_wf
    refine Prod.Lex.left _ _ ?_
    have := stepOf_size bs m (tx (kk (l ++ [k])))
    simp at this
    simp; omega
theorem run_T (bs : List Bd) : ∀ (m : Str) (l cl : List Ky), run bs m (kk l) (kk cl) = ((runT bs m l cl).1.map (·.1), (runT bs m l cl).2.1, kk (runT bs m l cl).2.2) := by
  intro m l cl
  induction m, l, cl using runT.induct bs with
  | case1 m l => unfold runT; simp [run]
  | case2 m l k r hb ih =>
    rw [runT, if_pos hb, ← ih, kk_cons, run, if_pos (by simpa using hb)]; simp
  | case3 m l k r hb s ih =>
    rw [runT, if_neg hb, kk_cons, run, if_neg (by simpa using hb)]
    have hs : s = stepOf bs m (tx (kk (l ++ [k]))) := rfl
    rw [← hs]
    have hs' : stepOf bs m (tx (kk l ++ [k.1])) = s := by rw [hs]; simp
    rw [hs']
    have e9 : kk (List.drop s.2.2.1 (l ++ [k]) ++ r) = List.drop s.2.2.1 (kk l ++ [k.1]) ++ kk r := by simp
    rw [e9, kk_nil] at ih
    dsimp only
    rw [ih]
    rfl
/-- keys one after another, or all at once: the same -/
theorem runT_append (bs : List Bd) : ∀ (m : Str) (l a b : List Ky), runT bs m l (a ++ b) = ((runT bs m l a).1 ++ (runT bs (runT bs m l a).2.1 (runT bs m l a).2.2 b).1, (runT bs (runT bs m l a).2.1 (runT bs m l a).2.2 b).2) := by
  intro m l a
  induction m, l, a using runT.induct bs with
  | case1 m l => intro b; simp [runT]
  | case2 m l k r hb ih =>
    intro b
    rw [List.cons_append, runT, if_pos hb, ih b]
    conv => rhs; rw [runT, if_pos hb]
  | case3 m l k r hb s ih =>
    intro b
    have hs : s = stepOf bs m (tx (kk (l ++ [k]))) := rfl
    rw [List.cons_append, runT, if_neg hb]
    have e : runT bs m l (k :: r) = (((s.1, s.2.1, s.2.2.1), typ (l ++ [k]) s.2.2.1) :: (runT bs s.2.2.2 [] ((l ++ [k]).drop s.2.2.1 ++ r)).1, (runT bs s.2.2.2 [] ((l ++ [k]).drop s.2.2.1 ++ r)).2) := by rw [runT, if_neg hb]
    rw [e]
    have ih' := ih b
    rw [List.append_assoc] at ih'
    simp only [← hs]
    rw [ih']
    simp
def brkT (bs : List Bd) (m : Str) (l : List Ky) : List (St3 × Int) × Str × List Ky :=
  let s := stepOf bs m (tx (kk l))
  let t := runT bs s.2.2.2 [] (l.drop s.2.2.1)
  (((s.1, s.2.1, s.2.2.1), typ l s.2.2.1) :: t.1, t.2)
theorem brk_T (bs : List Bd) (m : Str) (l : List Ky) : brk bs m (kk l) = ((brkT bs m l).1.map (·.1), (brkT bs m l).2.1, kk (brkT bs m l).2.2) := by
  have h := run_T bs (stepOf bs m (tx (kk l))).2.2.2 [] (l.drop (stepOf bs m (tx (kk l))).2.2.1)
  simp only [kk_nil, kk_drop] at h
  unfold brk brkT
  simp [h]
theorem runT_one (bs : List Bd) (m : Str) (l : List Ky) (k : Ky) : runT bs m l [k] = if begun bs m (kk (l ++ [k])) = true then ([], m, l ++ [k]) else brkT bs m (l ++ [k]) := by
  rw [runT]
  split
  · simp [runT]
  · simp [brkT]
theorem runT_len (bs : List Bd) : ∀ (m : Str) (l cl : List Ky), (runT bs m l cl).1.length + (runT bs m l cl).2.2.length ≤ l.length + cl.length := by
  intro m l cl
  have h := run_steps bs m (kk l) (kk cl)
  rw [run_T] at h
  simpa using h
theorem brkT_len (bs : List Bd) (m : Str) (l : List Ky) (h : l ≠ []) : (brkT bs m l).2.2.length < l.length := by
  have := brk_less bs m (kk l) (by cases l <;> simp_all)
  rw [brk_T] at this
  simpa using this
theorem brkT_steps (bs : List Bd) (m : Str) (l : List Ky) (h : l ≠ []) : (brkT bs m l).1.length + (brkT bs m l).2.2.length ≤ l.length := by
  unfold brkT
  have h1 := runT_len bs (stepOf bs m (tx (kk l))).2.2.2 [] (l.drop (stepOf bs m (tx (kk l))).2.2.1)
  have h2 := stepOf_size bs m (tx (kk l))
  have h3 : 0 < l.length := List.length_pos_iff.mpr h
  simp at h1 ⊢
  omega
/-! states -/
abbrev TEv := Ev × Int
abbrev TSta := Str × List Ky × Int × List TEv
def evT (t : Int) (s : St3 × Int) : TEv := ((s.1.1, t, s.1.2.1, s.1.2.2), s.2)
def brkS (bs : List Bd) (t : Int) (s : TSta) : TSta := ((brkT bs s.1 s.2.1).2.1, (brkT bs s.1 s.2.1).2.2, t, s.2.2.2 ++ (brkT bs s.1 s.2.1).1.map (evT t))
def feedS (bs : List Bd) (t : Int) (k : Ky) (s : TSta) : TSta := ((runT bs s.1 s.2.1 [k]).2.1, (runT bs s.1 s.2.1 [k]).2.2, t, s.2.2.2 ++ (runT bs s.1 s.2.1 [k]).1.map (evT t))
def lpT (bs : List Bd) (wt : Int) (lim : Int → Bool) (s : TSta) : TSta :=
  if h : s.2.1 ≠ [] ∧ lim (s.2.2.1 + wt) = true then lpT bs wt lim (brkS bs (s.2.2.1 + wt) s) else s
termination_by s.2.1.length
decreasing_by exact brkT_len bs s.1 s.2.1 h.1
def pshT (bs : List Bd) (wt : Int) (s : TSta) (p : Int × Nat) : TSta := feedS bs p.1 (p.2, p.1) (lpT bs wt (fun x => decide (x ≤ p.1)) s)
def pj (s : TSta) : Sta := (s.1, kk s.2.1, s.2.2.1, s.2.2.2.map (·.1))
theorem lp_T (bs : List Bd) (wt : Int) (lim : Int → Bool) (s : TSta) : lp bs wt lim s.1 (kk s.2.1) s.2.2.1 (s.2.2.2.map (·.1)) = pj (lpT bs wt lim s) := by
  induction s using lpT.induct bs wt lim with
  | case1 s h ih =>
    have h' : kk s.2.1 ≠ [] ∧ lim (s.2.2.1 + wt) = true := ⟨by have := h.1; cases e : s.2.1 <;> simp_all, h.2⟩
    rw [lp, dif_pos h', lpT, dif_pos h, ← ih, brk_T]
    unfold brkS
    simp
    congr 1
  | case2 s h =>
    have h' : ¬ (kk s.2.1 ≠ [] ∧ lim (s.2.2.1 + wt) = true) := fun q => h ⟨by have := q.1; cases e : s.2.1 <;> simp_all, q.2⟩
    rw [lp, dif_neg h', lpT, dif_neg h]; rfl
theorem psh_T (bs : List Bd) (wt : Int) (s : TSta) (p : Int × Nat) : psh bs wt (pj s) p = pj (pshT bs wt s p) := by
  unfold psh prs pshT feedS
  have h := lp_T bs wt (fun x => decide (x ≤ p.1)) s
  have e1 : (pj s).1 = s.1 := rfl
  have e2 : (pj s).2.1 = kk s.2.1 := rfl
  have e3 : (pj s).2.2.1 = s.2.2.1 := rfl
  have e4 : (pj s).2.2.2 = s.2.2.2.map (·.1) := rfl
  rw [e1, e2, e3, e4, h]
  generalize lpT bs wt (fun x => decide (x ≤ p.1)) s = a
  have hr := run_T bs a.1 a.2.1 [(p.2, p.1)]
  simp only [kk_cons, kk_nil] at hr
  simp only [pj, hr]
  simp [evT]
theorem fold_T (bs : List Bd) (wt : Int) (ss : List (Int × Nat)) (s : TSta) : ss.foldl (psh bs wt) (pj s) = pj (ss.foldl (pshT bs wt) s) := by
  induction ss generalizing s with
  | nil => rfl
  | cons p ss ih => rw [List.foldl_cons, List.foldl_cons, psh_T, ih]
def startT (m0 : Str) : TSta := (m0, [], 0, [])
def hapT (bs : List Bd) (wt : Int) (m0 : Str) (ss : List (Int × Nat)) : List TEv := (lpT bs wt (fun _ => true) (ss.foldl (pshT bs wt) (startT m0))).2.2.2
theorem hap_T (bs : List Bd) (wt : Int) (m0 : Str) (ss : List (Int × Nat)) : hap bs wt m0 ss = (hapT bs wt m0 ss).map (·.1) := by
  unfold hap hapT
  have h := fold_T bs wt ss (startT m0)
  have e : pj (startT m0) = (m0, [], 0, []) := rfl
  rw [e] at h
  rw [h]
  exact congrArg (fun z : Sta => z.2.2.2) (lp_T bs wt (fun _ => true) (ss.foldl (pshT bs wt) (startT m0)))
def staT (bs : List Bd) (wt : Int) (m0 : Str) (ss : List (Int × Nat)) (t : Int) : TSta := lpT bs wt (fun x => decide (x ≤ t)) ((ss.filter fun p => decide (p.1 ≤ t)).foldl (pshT bs wt) (startT m0))
theorem sta_T (bs : List Bd) (wt : Int) (m0 : Str) (ss : List (Int × Nat)) (t : Int) : sta bs wt m0 ss t = pj (staT bs wt m0 ss t) := by
  unfold sta staT
  have h := fold_T bs wt (ss.filter fun p => decide (p.1 ≤ t)) (startT m0)
  have e : pj (startT m0) = (m0, [], 0, []) := rfl
  rw [e] at h
  rw [h]
  exact lp_T bs wt (fun x => decide (x ≤ t)) _
/-! waits that pass later pass anyway -/
theorem lpT_lp (bs : List Bd) (wt : Int) (l1 l2 : Int → Bool) (h : ∀ x, l1 x = true → l2 x = true) (s : TSta) : lpT bs wt l2 (lpT bs wt l1 s) = lpT bs wt l2 s := by
  induction s using lpT.induct bs wt l1 with
  | case1 s hs ih =>
    have e1 : lpT bs wt l1 s = lpT bs wt l1 (brkS bs (s.2.2.1 + wt) s) := by rw [lpT, dif_pos hs]
    have e2 : lpT bs wt l2 s = lpT bs wt l2 (brkS bs (s.2.2.1 + wt) s) := by rw [lpT, dif_pos ⟨hs.1, h _ hs.2⟩]
    rw [e1, e2, ih]
  | case2 s hs => rw [show lpT bs wt l1 s = s by rw [lpT, dif_neg hs]]
theorem lpT_le (bs : List Bd) (wt t u : Int) (h : t ≤ u) (s : TSta) : lpT bs wt (fun x => decide (x ≤ u)) (lpT bs wt (fun x => decide (x ≤ t)) s) = lpT bs wt (fun x => decide (x ≤ u)) s :=
  lpT_lp bs wt _ _ (fun x hx => by simp at hx ⊢; omega) s
theorem pshT_lp (bs : List Bd) (wt t : Int) (s : TSta) (p : Int × Nat) (h : t ≤ p.1) : pshT bs wt (lpT bs wt (fun x => decide (x ≤ t)) s) p = pshT bs wt s p := by
  unfold pshT; rw [lpT_le bs wt t p.1 h]
theorem lpT_len (bs : List Bd) (wt : Int) (lim : Int → Bool) (s : TSta) : (lpT bs wt lim s).2.1.length ≤ s.2.1.length := by
  induction s using lpT.induct bs wt lim with
  | case1 s hs ih =>
    rw [lpT, dif_pos hs]
    have := brkT_len bs s.1 s.2.1 hs.1
    have e : (brkS bs (s.2.2.1 + wt) s).2.1 = (brkT bs s.1 s.2.1).2.2 := rfl
    rw [e] at ih; omega
  | case2 s hs => rw [lpT, dif_neg hs]; exact Nat.le_refl _
theorem pshT_len (bs : List Bd) (wt : Int) (s : TSta) (p : Int × Nat) : (pshT bs wt s p).2.1.length ≤ s.2.1.length + 1 := by
  unfold pshT feedS
  have h1 := lpT_len bs wt (fun x => decide (x ≤ p.1)) s
  have h2 := runT_len bs (lpT bs wt (fun x => decide (x ≤ p.1)) s).1 (lpT bs wt (fun x => decide (x ≤ p.1)) s).2.1 [(p.2, p.1)]
  simp at h2
  show (runT bs _ _ [(p.2, p.1)]).2.2.length ≤ _
  omega
/-! the account of the keys -/
/-- the steps take the keys one after another, and these are left -/
inductive Acc : List TEv → List Ky → List Ky → Prop
  | nil (l : List Ky) : Acc [] l l
  | cons {e : TEv} {es : List TEv} {l r : List Ky} : 1 ≤ e.1.2.2.2 → e.1.2.2.2 ≤ l.length → e.2 = typ l e.1.2.2.2 → Acc es (l.drop e.1.2.2.2) r → Acc (e :: es) l r
theorem typ_append (l z : List Ky) (k : Nat) (h1 : 1 ≤ k) (h : k ≤ l.length) : typ (l ++ z) k = typ l k := by
  unfold typ; rw [List.getElem?_append_left (by omega)]
theorem Acc.more {es : List TEv} {l r : List Ky} (h : Acc es l r) (z : List Ky) : Acc es (l ++ z) (r ++ z) := by
  induction h with
  | nil l => exact .nil _
  | cons h1 h2 h3 _ ih => exact .cons h1 (by simp; omega) (by rw [h3, typ_append _ _ _ h1 h2]) (by rw [List.drop_append_of_le_length h2]; exact ih)
theorem Acc.app {es fs : List TEv} {l r z : List Ky} (h : Acc es l r) (g : Acc fs r z) : Acc (es ++ fs) l z := by
  induction h with
  | nil l => exact g
  | cons h1 h2 h3 _ ih => exact .cons h1 h2 h3 (ih g)
theorem stepOf_le (bs : List Bd) (m : Str) (l : List Nat) (h : 1 ≤ l.length) : (stepOf bs m (tx l)).2.2.1 ≤ l.length := by
  unfold stepOf
  split
  · rename_i k b e
    have := (best_size e).2
    rw [tx_size] at this; exact this
  · exact h
theorem runT_acc (bs : List Bd) (t : Int) : ∀ (m : Str) (l cl : List Ky), Acc ((runT bs m l cl).1.map (evT t)) (l ++ cl) (runT bs m l cl).2.2 := by
  intro m l cl
  induction m, l, cl using runT.induct bs with
  | case1 m l => unfold runT; simp; exact .nil _
  | case2 m l k r hb ih => rw [runT, if_pos hb]; simpa using ih
  | case3 m l k r hb s ih =>
    rw [runT, if_neg hb]
    have hs : s = stepOf bs m (tx (kk (l ++ [k]))) := rfl
    simp only [← hs]
    have h1 := stepOf_size bs m (tx (kk (l ++ [k])))
    have h2 := stepOf_le bs m (kk (l ++ [k])) (by simp)
    rw [← hs] at h1 h2
    rw [kk_length] at h2
    have el : l ++ k :: r = (l ++ [k]) ++ r := by simp
    rw [List.map_cons, el]
    refine .cons h1 ?_ ?_ ?_
    · show s.2.2.1 ≤ _
      rw [List.length_append]; omega
    · show typ (l ++ [k]) s.2.2.1 = typ ((l ++ [k]) ++ r) s.2.2.1
      rw [typ_append _ _ _ h1 h2]
    · show Acc _ (((l ++ [k]) ++ r).drop s.2.2.1) _
      rw [List.drop_append_of_le_length h2]
      simpa using ih
theorem brkT_acc (bs : List Bd) (t : Int) (m : Str) (l : List Ky) (h : l ≠ []) : Acc ((brkT bs m l).1.map (evT t)) l (brkT bs m l).2.2 := by
  unfold brkT
  have hl : 1 ≤ (kk l).length := by rw [kk_length]; exact List.length_pos_iff.mpr h
  have h1 := stepOf_size bs m (tx (kk l))
  have h2 := stepOf_le bs m (kk l) hl
  rw [kk_length] at h2
  have := runT_acc bs t (stepOf bs m (tx (kk l))).2.2.2 [] (l.drop (stepOf bs m (tx (kk l))).2.2.1)
  rw [List.map_cons]
  rw [List.nil_append] at this
  exact .cons h1 h2 rfl this
theorem lpT_acc (bs : List Bd) (wt : Int) (lim : Int → Bool) (s : TSta) (f : List Ky) (h : Acc s.2.2.2 f s.2.1) : Acc (lpT bs wt lim s).2.2.2 f (lpT bs wt lim s).2.1 := by
  induction s using lpT.induct bs wt lim with
  | case1 s hs ih =>
    rw [lpT, dif_pos hs]
    exact ih (h.app (brkT_acc bs _ s.1 s.2.1 hs.1))
  | case2 s hs => rw [lpT, dif_neg hs]; exact h
theorem pshT_acc (bs : List Bd) (wt : Int) (s : TSta) (p : Int × Nat) (f : List Ky) (h : Acc s.2.2.2 f s.2.1) : Acc (pshT bs wt s p).2.2.2 (f ++ [(p.2, p.1)]) (pshT bs wt s p).2.1 := by
  unfold pshT feedS
  have h1 := (lpT_acc bs wt (fun x => decide (x ≤ p.1)) s f h).more [(p.2, p.1)]
  exact h1.app (runT_acc bs _ _ _ [(p.2, p.1)])
def sk (p : Int × Nat) : Ky := (p.2, p.1)
theorem fold_acc (bs : List Bd) (wt : Int) (ss : List (Int × Nat)) (s : TSta) (f : List Ky) (h : Acc s.2.2.2 f s.2.1) : Acc (ss.foldl (pshT bs wt) s).2.2.2 (f ++ ss.map sk) (ss.foldl (pshT bs wt) s).2.1 := by
  induction ss generalizing s f with
  | nil => simpa using h
  | cons p ss ih =>
    have := ih (pshT bs wt s p) (f ++ [(p.2, p.1)]) (pshT_acc bs wt s p f h)
    simpa [sk] using this
theorem hapT_acc (bs : List Bd) (wt : Int) (m0 : Str) (ss : List (Int × Nat)) : ∃ r, Acc (hapT bs wt m0 ss) (ss.map sk) r :=
  ⟨_, lpT_acc bs wt (fun _ => true) _ _ (by simpa using fold_acc bs wt ss (startT m0) [] (.nil _))⟩
/-- the tick of an event's stroke is found by counting keys -/
theorem Acc.at_ {es : List TEv} {l r : List Ky} (h : Acc es l r) : ∀ (i : Nat) (e : TEv), es[i]? = some e → ∃ k : Ky, l[((es.take (i + 1)).map (fun e => e.1.2.2.2)).sum - 1]? = some k ∧ k.2 = e.2 ∧ 1 ≤ ((es.take (i + 1)).map (fun e => e.1.2.2.2)).sum := by
  induction h with
  | nil l => intro i e he; simp at he
  | @cons e0 es l r h1 h2 h3 _ ih =>
    intro i e he
    cases i with
    | zero =>
      simp at he
      subst he
      have es : ((List.take (0 + 1) (e0 :: es)).map (fun e => e.1.2.2.2)).sum = e0.1.2.2.2 := by simp
      rw [es]
      have hlt : e0.1.2.2.2 - 1 < l.length := by omega
      obtain ⟨k, hk⟩ : ∃ k, l[e0.1.2.2.2 - 1]? = some k := ⟨_, List.getElem?_eq_getElem hlt⟩
      refine ⟨k, hk, ?_, h1⟩
      rw [h3]; unfold typ; rw [hk]; rfl
    | succ i =>
      simp at he
      obtain ⟨k, hk, h5, h6⟩ := ih i e he
      rw [List.take_succ_cons, List.map_cons, List.sum_cons]
      refine ⟨k, ?_, h5, by omega⟩
      rw [List.getElem?_drop] at hk
      rw [← hk]
      congr 1
      omega
end Lw

set_option Elab.async false
set_option linter.all false
set_option maxRecDepth 100000
namespace Lw
open PySem
/-- a binding of mode m is the beginning of x, or all of it -/
def Fits (m : Str) (x : List Nat) (b : Bd) : Prop := b.mode = m ∧ b.keys = tx (x.take b.keys.cps.size)
instance (m : Str) (x : List Nat) (b : Bd) : Decidable (Fits m x b) := by unfold Fits; infer_instance
def scanStep (m : Str) (x : List Nat) (o : Option Bd) (b : Bd) : Option Bd :=
  if Fits m x b then (match o with | none => some b | some a => if a.keys.cps.size < b.keys.cps.size then some b else some a) else o
def scan (bs : List Bd) (m : Str) (x : List Nat) : Option Bd := bs.foldl (scanStep m x) none
theorem Fits.le {m : Str} {x : List Nat} {b : Bd} (h : Fits m x b) : b.keys.cps.size ≤ x.length := by
  have := congrArg (fun s : Str => s.cps.size) h.2
  simp only [tx_size, List.length_take] at this
  omega
theorem scan_spec (m : Str) (x : List Nat) : ∀ (bs : List Bd) (o : Option Bd), (∀ a, o = some a → Fits m x a) →
    match bs.foldl (scanStep m x) o with
    | none => o = none ∧ ∀ b ∈ bs, ¬ Fits m x b
    | some b => (b ∈ bs ∨ o = some b) ∧ Fits m x b ∧ (∀ b' ∈ bs, Fits m x b' → b'.keys.cps.size ≤ b.keys.cps.size) ∧ ∀ a, o = some a → a.keys.cps.size ≤ b.keys.cps.size := by
  intro bs
  induction bs with
  | nil =>
    intro o ho
    cases o with
    | none => simp
    | some a => exact ⟨.inr rfl, ho a rfl, by simp, fun b hb => by cases hb; exact Nat.le_refl _⟩
  | cons b bs ih =>
    intro o ho
    rw [List.foldl_cons]
    have hs : ∀ a, scanStep m x o b = some a → Fits m x a := fun a ha => by
      unfold scanStep at ha
      split at ha
      · rename_i hf
        cases o with
        | none => cases ha; exact hf
        | some a0 =>
          dsimp only at ha
          split at ha
          · cases ha; exact hf
          · cases ha; exact ho _ rfl
      · exact ho a ha
    have h := ih (scanStep m x o b) hs
    cases e : bs.foldl (scanStep m x) (scanStep m x o b) with
    | none =>
      rw [e] at h
      obtain ⟨h1, h2⟩ := h
      have hnf : ¬ Fits m x b := fun hf => by
        unfold scanStep at h1
        rw [if_pos hf] at h1
        cases o with
        | none => cases h1
        | some a0 =>
          dsimp only at h1
          split at h1 <;> cases h1
      unfold scanStep at h1
      rw [if_neg hnf] at h1
      refine ⟨h1, fun b' hb' => ?_⟩
      rcases List.mem_cons.mp hb' with rfl | hb'
      · exact hnf
      · exact h2 b' hb'
    | some z =>
      rw [e] at h
      obtain ⟨h1, h2, h3, h4⟩ := h
      have hbz : Fits m x b → b.keys.cps.size ≤ z.keys.cps.size := fun hf => by
        unfold scanStep at h4
        rw [if_pos hf] at h4
        cases o with
        | none => exact h4 b rfl
        | some a0 =>
          dsimp only at h4
          by_cases hlt : a0.keys.cps.size < b.keys.cps.size
          · exact h4 b (if_pos hlt)
          · have := h4 a0 (if_neg hlt); omega
      have hoz : ∀ a, o = some a → a.keys.cps.size ≤ z.keys.cps.size := fun a ha => by
        subst ha
        by_cases hf : Fits m x b
        · by_cases hlt : a.keys.cps.size < b.keys.cps.size
          · have := hbz hf; omega
          · exact h4 a (by unfold scanStep; rw [if_pos hf]; exact if_neg hlt)
        · exact h4 a (by unfold scanStep; rw [if_neg hf])
      refine ⟨?_, h2, fun b' hb' hf' => ?_, hoz⟩
      · rcases h1 with h1 | h1
        · exact .inl (List.mem_cons_of_mem _ h1)
        · unfold scanStep at h1
          split at h1
          · cases o with
            | none => cases h1; exact .inl List.mem_cons_self
            | some a0 =>
              dsimp only at h1
              split at h1
              · cases h1; exact .inl List.mem_cons_self
              · exact .inr h1
          · exact .inr h1
      · rcases List.mem_cons.mp hb' with rfl | hb'
        · exact hbz hf'
        · exact h3 b' hb' hf'
theorem hit_some {bs : List Bd} {m x : Str} {k : Nat} {b : Bd} (h : hit bs m x k = some b) : b ∈ bs ∧ b.mode = m ∧ b.keys = pre x k := by
  unfold hit at h
  have h1 := List.mem_of_find?_eq_some h
  have h2 := List.find?_some h
  simp at h1 h2
  exact ⟨h1, h2.1, h2.2⟩
theorem hit_none {bs : List Bd} {m x : Str} {k : Nat} (h : hit bs m x k = none) : ∀ b ∈ bs, ¬ (b.mode = m ∧ b.keys = pre x k) := by
  unfold hit at h
  rw [List.find?_eq_none] at h
  intro b hb hc
  have := h b (List.mem_reverse.mpr hb)
  simp [hc.1, hc.2] at this
theorem best_spec (bs : List Bd) (m : Str) (x : List Nat) : ∀ n, n ≤ x.length →
    match best bs m (tx x) n with
    | none => ∀ b ∈ bs, 1 ≤ b.keys.cps.size → b.keys.cps.size ≤ n → ¬ Fits m x b
    | some (k, b) => b ∈ bs ∧ Fits m x b ∧ k = b.keys.cps.size ∧ ∀ b' ∈ bs, Fits m x b' → b'.keys.cps.size ≤ n → b'.keys.cps.size ≤ k
  | 0, _ => fun b _ h1 h2 => by omega
  | n + 1, hn => by
    have hp : pre (tx x) (n + 1) = tx (x.take (n + 1)) := by rw [pre_tx _ _ (by rw [tx_size]; omega), tx_list]
    cases e : hit bs m (tx x) (n + 1) with
    | some b =>
      have eb : best bs m (tx x) (n + 1) = some (n + 1, b) := by rw [best, e]
      rw [eb]
      obtain ⟨h1, h2, h3⟩ := hit_some e
      rw [hp] at h3
      have hk : b.keys.cps.size = n + 1 := by rw [h3, tx_size, List.length_take]; omega
      exact ⟨h1, ⟨h2, by rw [hk]; exact h3⟩, hk.symm, fun b' _ _ h => h⟩
    | none =>
      have eb : best bs m (tx x) (n + 1) = best bs m (tx x) n := by rw [best, e]
      rw [eb]
      have hno := hit_none e
      have ih := best_spec bs m x n (by omega)
      have hne : ∀ b' ∈ bs, Fits m x b' → b'.keys.cps.size ≠ n + 1 := fun b' hb' hf he => hno b' hb' ⟨hf.1, by rw [hp, ← he]; exact hf.2⟩
      cases e2 : best bs m (tx x) n with
      | none =>
        rw [e2] at ih
        intro b hb h1 h2 hf
        by_cases he : b.keys.cps.size = n + 1
        · exact hne b hb hf he
        · exact ih b hb h1 (by omega) hf
      | some z =>
        obtain ⟨k, b⟩ := z
        rw [e2] at ih
        refine ⟨ih.1, ih.2.1, ih.2.2.1, fun b' hb' hf hl => ih.2.2.2 b' hb' hf ?_⟩
        have := hne b' hb' hf
        omega
theorem fits_eq {bs : List Bd} (hn : (bs.map fun b => (b.mode, b.keys)).Nodup) {m : Str} {x : List Nat} {a b : Bd} (ha : a ∈ bs) (hb : b ∈ bs) (fa : Fits m x a) (fb : Fits m x b) (e : a.keys.cps.size = b.keys.cps.size) : a = b := by
  have h1 : (a.mode, a.keys) = (b.mode, b.keys) := by rw [fa.1, fb.1, fa.2, fb.2, e]
  obtain ⟨i, hi, ei⟩ := List.mem_iff_getElem.mp ha
  obtain ⟨j, hj, ej⟩ := List.mem_iff_getElem.mp hb
  have k1 : (bs.map fun b => (b.mode, b.keys))[i]? = some (a.mode, a.keys) := by simp [List.getElem?_eq_getElem hi, ei]
  have k2 : (bs.map fun b => (b.mode, b.keys))[j]? = some (b.mode, b.keys) := by simp [List.getElem?_eq_getElem hj, ej]
  have : i = j := (List.getElem?_inj (by simpa using hi) hn).mp (k1.trans (by rw [k2, h1]))
  subst this
  rw [← ei, ← ej]
/-- the longest from above, and the first of the longest by a scan: the same -/
theorem scan_best (bs : List Bd) (m : Str) (x : List Nat) (hn : (bs.map fun b => (b.mode, b.keys)).Nodup) (h1 : ∀ b ∈ bs, 1 ≤ b.keys.cps.size) :
    best bs m (tx x) x.length = (scan bs m x).map fun b => (b.keys.cps.size, b) := by
  have hb := best_spec bs m x x.length (Nat.le_refl _)
  have hs := scan_spec m x bs none (by simp)
  unfold scan
  cases e1 : best bs m (tx x) x.length with
  | none =>
    rw [e1] at hb
    cases e2 : bs.foldl (scanStep m x) none with
    | none => rfl
    | some b =>
      rw [e2] at hs
      have hm : b ∈ bs := by rcases hs.1 with h | h; exact h; cases h
      exact absurd hs.2.1 (hb b hm (h1 b hm) hs.2.1.le)
  | some z =>
    obtain ⟨k, b⟩ := z
    rw [e1] at hb
    cases e2 : bs.foldl (scanStep m x) none with
    | none => rw [e2] at hs; exact absurd hb.2.1 (hs.2 b hb.1)
    | some b' =>
      rw [e2] at hs
      have hm : b' ∈ bs := by rcases hs.1 with h | h; exact h; cases h
      have g1 := hb.2.2.2 b' hm hs.2.1 hs.2.1.le
      have g2 := hs.2.2.1 b hb.1 hb.2.1
      have g3 := hb.2.2.1
      have : b = b' := fits_eq hn hb.1 hm hb.2.1 hs.2.1 (by omega)
      subst this
      simp [g3]
theorem stepOf_scan (bs : List Bd) (m : Str) (x : List Nat) (hn : (bs.map fun b => (b.mode, b.keys)).Nodup) (h1 : ∀ b ∈ bs, 1 ≤ b.keys.cps.size) :
    stepOf bs m (tx x) = match scan bs m x with
      | some b => ("command", b.cmd, b.keys.cps.size, b.tgt)
      | none => ("lost", ⟨#[x.headD 0]⟩, 1, m) := by
  unfold stepOf
  rw [tx_size, scan_best bs m x hn h1, tx_list]
  cases scan bs m x <;> rfl
theorem scan_mem {bs : List Bd} {m : Str} {x : List Nat} {b : Bd} (h : scan bs m x = some b) : b ∈ bs ∧ Fits m x b := by
  have hs := scan_spec m x bs none (by simp)
  unfold scan at h
  rw [h] at hs
  refine ⟨?_, hs.2.1⟩
  rcases hs.1 with h2 | h2
  · exact h2
  · cases h2
/-! modes that can be reached -/
def Closed (bs : List Bd) (R : List Str) : Prop := ∀ b ∈ bs, b.mode ∈ R → b.tgt ∈ R
theorem stepOf_tgt {bs : List Bd} {R : List Str} (hc : Closed bs R) {m : Str} (hm : m ∈ R) (x : List Nat) : (stepOf bs m (tx x)).2.2.2 ∈ R := by
  unfold stepOf
  cases e : best bs m (tx x) (tx x).cps.size with
  | none => exact hm
  | some z =>
    obtain ⟨k, b⟩ := z
    have h := best_spec bs m x x.length (Nat.le_refl _)
    rw [tx_size] at e
    rw [e] at h
    exact hc b h.1 (by rw [h.2.1.1]; exact hm)
theorem runT_mode {bs : List Bd} {R : List Str} (hc : Closed bs R) : ∀ (m : Str) (l cl : List Ky), m ∈ R → (runT bs m l cl).2.1 ∈ R := by
  intro m l cl
  induction m, l, cl using runT.induct bs with
  | case1 m l => intro h; unfold runT; exact h
  | case2 m l k r hb ih => intro h; rw [runT, if_pos hb]; exact ih h
  | case3 m l k r hb s ih => intro h; rw [runT, if_neg hb]; exact ih (stepOf_tgt hc h _)
theorem brkT_mode {bs : List Bd} {R : List Str} (hc : Closed bs R) {m : Str} (l : List Ky) (h : m ∈ R) : (brkT bs m l).2.1 ∈ R := by
  unfold brkT
  exact runT_mode hc _ _ _ (stepOf_tgt hc h _)
theorem lpT_mode {bs : List Bd} {R : List Str} (hc : Closed bs R) (wt : Int) (lim : Int → Bool) (s : TSta) (h : s.1 ∈ R) : (lpT bs wt lim s).1 ∈ R := by
  induction s using lpT.induct bs wt lim with
  | case1 s hs ih => rw [lpT, dif_pos hs]; exact ih (brkT_mode hc _ h)
  | case2 s hs => rw [lpT, dif_neg hs]; exact h
theorem pshT_mode {bs : List Bd} {R : List Str} (hc : Closed bs R) (wt : Int) (s : TSta) (p : Int × Nat) (h : s.1 ∈ R) : (pshT bs wt s p).1 ∈ R := by
  unfold pshT feedS
  exact runT_mode hc _ _ _ (lpT_mode hc wt _ s h)
theorem fold_mode {bs : List Bd} {R : List Str} (hc : Closed bs R) (wt : Int) (ss : List (Int × Nat)) (s : TSta) (h : s.1 ∈ R) : (ss.foldl (pshT bs wt) s).1 ∈ R := by
  induction ss generalizing s with
  | nil => exact h
  | cons p ss ih => exact ih _ (pshT_mode hc wt s p h)
theorem staT_mode {bs : List Bd} {R : List Str} (hc : Closed bs R) (wt : Int) (m0 : Str) (ss : List (Int × Nat)) (t : Int) (h : m0 ∈ R) : (staT bs wt m0 ss t).1 ∈ R := by
  unfold staT
  exact lpT_mode hc wt _ _ (fold_mode hc wt _ _ h)
/-- one binding looked at -/
def rst (R : List Str) (b : Bd) : List Str := if b.mode ∈ R then (if b.tgt ∈ R then R else R ++ [b.tgt]) else R
def pas (bs : List Bd) (R : List Str) : List Str := bs.foldl rst R
theorem rst_sub (R : List Str) (b : Bd) : ∀ x ∈ R, x ∈ rst R b := fun x hx => by
  unfold rst
  split
  · split
    · exact hx
    · exact List.mem_append_left _ hx
  · exact hx
theorem pas_sub (bs : List Bd) : ∀ R : List Str, ∀ x ∈ R, x ∈ pas bs R := by
  induction bs with
  | nil => intro R x hx; exact hx
  | cons b bs ih => intro R x hx; exact ih _ x (rst_sub R b x hx)
/-- a pass that adds nothing: closed -/
theorem pas_closed (bs : List Bd) : ∀ R : List Str, (∀ x ∈ pas bs R, x ∈ R) → Closed bs R := by
  induction bs with
  | nil => intro R _ b hb; cases hb
  | cons b bs ih =>
    intro R h
    have hb : b.mode ∈ R → b.tgt ∈ R := fun hm => by
      refine h _ (pas_sub bs _ _ ?_)
      unfold rst
      rw [if_pos hm]
      split
      · assumption
      · exact List.mem_append_right _ (List.mem_singleton.mpr rfl)
    have he : rst R b = R := by
      unfold rst
      split
      · rename_i hm; rw [if_pos (hb hm)]
      · rfl
    have h' : ∀ x ∈ pas bs R, x ∈ R := fun x hx => h x (by show x ∈ bs.foldl rst (rst R b); rw [he]; exact hx)
    intro b' hb'
    rcases List.mem_cons.mp hb' with rfl | hb'
    · exact hb
    · exact ih R h' b' hb'
theorem closed_pas (bs : List Bd) : ∀ (bs' : List Bd), (∀ b ∈ bs', b ∈ bs) → ∀ R : List Str, Closed bs R → pas bs' R = R := by
  intro bs'
  induction bs' with
  | nil => intro _ R _; rfl
  | cons b bs' ih =>
    intro hm R hc
    have he : rst R b = R := by
      unfold rst
      split
      · rename_i h; rw [if_pos (hc b (hm b List.mem_cons_self) h)]
      · rfl
    show bs'.foldl rst (rst R b) = R
    rw [he]
    exact ih (fun b hb => hm b (List.mem_cons_of_mem _ hb)) R hc
def cnt (ms R : List Str) : Nat := (ms.filter fun x => decide (x ∈ R)).length
theorem cnt_le (ms : List Str) {R S : List Str} (h : ∀ x ∈ R, x ∈ S) : cnt ms R ≤ cnt ms S := by
  unfold cnt
  induction ms with
  | nil => exact Nat.le_refl _
  | cons m ms ih =>
    by_cases h1 : m ∈ R
    · rw [List.filter_cons_of_pos (by simpa using h1), List.filter_cons_of_pos (by simpa using h m h1)]
      simp; exact ih
    · rw [List.filter_cons_of_neg (by simpa using h1)]
      by_cases h2 : m ∈ S
      · rw [List.filter_cons_of_pos (by simpa using h2)]; simp; omega
      · rw [List.filter_cons_of_neg (by simpa using h2)]; exact ih
theorem cnt_lt (ms : List Str) {R S : List Str} (h : ∀ x ∈ R, x ∈ S) {y : Str} (hy : y ∈ ms) (h1 : y ∉ R) (h2 : y ∈ S) : cnt ms R < cnt ms S := by
  induction ms with
  | nil => cases hy
  | cons m ms ih =>
    have hle := cnt_le ms h
    unfold cnt at hle ih ⊢
    rcases List.mem_cons.mp hy with rfl | hy
    · rw [List.filter_cons_of_neg (by simpa using h1), List.filter_cons_of_pos (by simpa using h2)]
      simp; omega
    · have ih := ih hy
      by_cases h3 : m ∈ R
      · rw [List.filter_cons_of_pos (by simpa using h3), List.filter_cons_of_pos (by simpa using h m h3)]
        simp; exact ih
      · rw [List.filter_cons_of_neg (by simpa using h3)]
        by_cases h4 : m ∈ S
        · rw [List.filter_cons_of_pos (by simpa using h4)]; simp; omega
        · rw [List.filter_cons_of_neg (by simpa using h4)]; exact ih
def rch (bs : List Bd) (m0 : Str) : Nat → List Str
  | 0 => [m0]
  | n + 1 => pas bs (rch bs m0 n)
theorem rch_sub (bs : List Bd) (ms : List Str) (m0 : Str) (h0 : m0 ∈ ms) (hb : ∀ b ∈ bs, b.tgt ∈ ms) : ∀ n, ∀ x ∈ rch bs m0 n, x ∈ ms := by
  have hp : ∀ (bs' : List Bd), (∀ b ∈ bs', b ∈ bs) → ∀ R : List Str, (∀ x ∈ R, x ∈ ms) → ∀ x ∈ pas bs' R, x ∈ ms := by
    intro bs'
    induction bs' with
    | nil => intro _ R h; exact h
    | cons b bs' ih =>
      intro hm R h
      refine ih (fun b hb => hm b (List.mem_cons_of_mem _ hb)) (rst R b) fun x hx => ?_
      unfold rst at hx
      split at hx
      · split at hx
        · exact h x hx
        · rcases List.mem_append.mp hx with h1 | h1
          · exact h x h1
          · rw [List.mem_singleton.mp h1]; exact hb b (hm b List.mem_cons_self)
      · exact h x hx
  intro n
  induction n with
  | zero => intro x hx; rw [List.mem_singleton.mp hx]; exact h0
  | succ n ih => exact hp bs (fun _ h => h) _ ih
theorem rch_or (bs : List Bd) (ms : List Str) (m0 : Str) (h0 : m0 ∈ ms) (hb : ∀ b ∈ bs, b.tgt ∈ ms) : ∀ n, Closed bs (rch bs m0 n) ∨ n + 1 ≤ cnt ms (rch bs m0 n) := by
  intro n
  induction n with
  | zero =>
    refine .inr ?_
    have := cnt_lt ms (R := []) (S := [m0]) (by simp) h0 (by simp) (by simp)
    show 1 ≤ cnt ms [m0]
    omega
  | succ n ih =>
    rcases ih with h | h
    · left
      show Closed bs (pas bs (rch bs m0 n))
      rw [closed_pas bs bs (fun _ h => h) _ h]; exact h
    · by_cases hc : ∀ x ∈ pas bs (rch bs m0 n), x ∈ rch bs m0 n
      · left
        have := pas_closed bs _ hc
        show Closed bs (pas bs (rch bs m0 n))
        rw [closed_pas bs bs (fun _ h => h) _ this]; exact this
      · right
        have hc' : ∃ x, x ∈ pas bs (rch bs m0 n) ∧ x ∉ rch bs m0 n := by
          refine Classical.byContradiction fun h1 => hc fun x hx => Classical.byContradiction fun h2 => h1 ⟨x, hx, h2⟩
        obtain ⟨y, hy1, hy2⟩ := hc'
        have := cnt_lt ms (pas_sub bs (rch bs m0 n)) (rch_sub bs ms m0 h0 hb (n + 1) y hy1) hy2 hy1
        show n + 1 + 1 ≤ cnt ms (pas bs (rch bs m0 n))
        omega
theorem rch_closed (bs : List Bd) (ms : List Str) (m0 : Str) (h0 : m0 ∈ ms) (hb : ∀ b ∈ bs, b.tgt ∈ ms) : Closed bs (rch bs m0 ms.length) := by
  rcases rch_or bs ms m0 h0 hb ms.length with h | h
  · exact h
  · have : cnt ms (rch bs m0 ms.length) ≤ ms.length := List.length_filter_le _ _
    omega
theorem rch_start (bs : List Bd) (m0 : Str) : ∀ n, m0 ∈ rch bs m0 n := by
  intro n
  induction n with
  | zero => exact List.mem_singleton.mpr rfl
  | succ n ih => exact pas_sub bs _ _ ih
end Lw

set_option Elab.async false
set_option linter.all false
set_option maxRecDepth 100000
namespace Wl
open PySem L2
section
variable {δ : DSt} {μ : Mu} {Q : DV} {QS : DSt → Mu → Prop} {a : Addr} {d v : Dv} {kvs : List (Key × Dv)} {k : Str}
def dget (x y : Dv) (μ : Mu) (Q : DV) : Prop := match x with | .ref a => (dlook μ a y fun o => match o with | some d => Q d μ | none => False) | _ => False
@[simp] theorem e_DGet {td ty : DE} : vDGet td ty δ μ Q ↔ td δ μ fun x μ1 => ty δ μ1 fun y μ2 => dget x y μ2 Q := Iff.rfl
theorem dget_K (h : μ a = some (.dK kvs)) (hv : valD kvs (.inr k) = some d) : dget (.ref a) (.str k) μ Q ↔ Q d μ := by
  simp [dget, dlook, h, keyD, hv]
@[simp] theorem g_SubD {to ti : DE} : dSubD to ti d δ μ QS ↔ to δ μ fun x μ1 => ti δ μ1 fun y μ2 => putv x y d μ2 fun μ3 => QS δ μ3 := Iff.rfl
theorem store_K {Q : Mu → Prop} (h : μ a = some (.dK kvs)) (hl : kvs.length < sizeLine) : dstore μ a (.str k) v Q ↔ Q (mset μ a (.dK (putD kvs (.inr k) v))) := by
  simp [dstore, h, keyD, hl]
@[simp] theorem o_join {x : Str} {ys : List Dv} : gJoin (.str x) [.lst ys] μ Q ↔ ∃ ts, textsD ys = some ts ∧ (ts.map (·.length)).sum + ts.length * x.length ≤ 16777216 ∧ Q (.str (Txt.join x ts)) μ := Iff.rfl
theorem ty_str {T : String} {x : Str} : tyD T (.str x) μ ↔ T = "str" := Iff.rfl
end
end Wl
namespace Wl
open PySem L2
section
variable {δ : DSt} {μ : Mu}
/-- a comprehension whose parts change nothing, with any wish behind it -/
theorem comp_at {vs : List Nat} {g : DG} {tt : DT} {te : DE} {A : Addr} {Qk : List Dv → Mu → Prop} (hA : μ A = none) (f : Dv → Option Dv) (ds : List Dv) (hl : ds.length ≤ sizeLine)
    (hb : ∀ d ∈ ds, ∀ (acc : List Dv) (C : Mu → Prop), acc.length < sizeLine → C (mset μ A (.lst (acc ++ (f d).toList))) →
      g d (dwipe δ vs) (mset μ A (.lst acc)) fun δ1 μ1 => tt δ1 μ1 fun b μ2 => if b = true then te δ1 μ2 fun y μ3 => ∃ acc, μ3 A = some (.lst acc) ∧ acc.length < sizeLine ∧ C (mset μ3 A (.lst (acc ++ [y]))) else C μ2)
    (q : Qk (ds.filterMap f) (mset μ A (.lst (ds.filterMap f)))) : vLoop vs g tt te δ A ds (mset μ A (.lst [])) Qk := by
  have main : ∀ (xs : List Dv) (acc : List Dv), (∀ d ∈ xs, d ∈ ds) → acc.length + xs.length ≤ sizeLine → acc ++ xs.filterMap f = ds.filterMap f → vLoop vs g tt te δ A xs (mset μ A (.lst acc)) Qk := by
    intro xs
    induction xs with
    | nil =>
      intro acc _ _ e
      refine ⟨acc, mset_at, ?_⟩
      have e' : acc = ds.filterMap f := by simpa using e
      rw [e']; exact q
    | cons x xs ih =>
      intro acc hm hle e
      have hle' : acc.length + (xs.length + 1) ≤ sizeLine := hle
      refine hb x (hm x List.mem_cons_self) acc _ (by omega) ?_
      refine ih _ (fun d hd => hm d (List.mem_cons_of_mem _ hd)) ?_ ?_
      · rw [List.length_append]
        have : (f x).toList.length ≤ 1 := by cases f x <;> simp
        omega
      · rw [← e, List.append_assoc]
        congr 1
        cases h : f x with
        | none => simp [List.filterMap_cons, h]
        | some y => simp [List.filterMap_cons, h]
  exact main ds [] (fun _ h => h) (by simpa using hl) rfl
end
end Wl
namespace Wl
open PySem L2
section
variable {δ : DSt} {μ : Mu} {Q : DV}
@[simp] theorem e_ListG {sp : SpY} {dds : List Dv} {t : DA} : vListG sp dds t δ μ Q ↔ t δ μ fun xs μ1 => sp (xs ++ dds) μ1 (fun out μ2 => Q (.lst out) μ2) fun _ _ _ => False := Iff.rfl
end
end Wl
namespace Lw
open PySem L2 Wl
def kyD (k : Ky) : Dv := .tup [.str ⟨#[k.1]⟩, .int k.2]
def levD (e : TEv) : Dv := .tup [.str e.1.1, .int e.1.2.1, .str e.1.2.2.1, .int e.2]
theorem join_tx (l : List Ky) : Txt.join "" (l.map fun k => (⟨#[k.1]⟩ : Str)) = tx (kk l) := by
  unfold Txt.join PySem.Builtin.Str.glued
  have main : ∀ (r : List Ky) (acc : Array Nat), List.foldl (fun acc (p : Str) => acc ++ ("" : Str).cps ++ p.cps) acc (r.map fun k => (⟨#[k.1]⟩ : Str)) = acc ++ (kk r).toArray := by
    intro r
    induction r with
    | nil => intro acc; simp
    | cons k r ih =>
      intro acc
      rw [List.map_cons, List.foldl_cons, ih]
      have : ("" : Str).cps = #[] := by decide
      rw [this]
      simp
  cases l with
  | nil => rfl
  | cons k r =>
    have := main r #[k.1]
    simp only [List.map_cons, List.headD_cons, List.drop_succ_cons, List.drop_zero]
    rw [this]
    simp [tx]
theorem cut_to (l : List Nat) (k : Nat) : cutS (tx l) none (some (k : Int)) = tx (l.take k) := by
  unfold cutS tx
  rw [HT.sIx_none, HT.sIx_nat]
  have : (⟨l.toArray⟩ : Str).length = l.length := by show l.toArray.size = l.length; simp
  rw [this]
  simp
def optD : Option Bd → Dv
  | none => .non
  | some b => b.dv
theorem isNo_opt (o : Option Bd) : isNo (optD o) = o.isNone := by cases o <;> rfl
theorem eqS {x y : Str} : dEq (.str x) (.str y) = decide (x = y) := by
  have h := cln_eq 0 0 (.str x) (.str y) rfl rfl
  by_cases e : x = y
  · rw [decide_eq_true e]; exact h.mpr (by rw [e])
  · rw [decide_eq_false e]
    cases hd : dEq (.str x) (.str y) with
    | false => rfl
    | true => exact absurd (by have := h.mp hd; injection this) e
theorem okS {x y : Str} : eqOk (.str x) (.str y) := cln_ok (n := 0) (m := 0) rfl rfl (by decide)
/-- what the law's player needs of a key map -/
structure Good (bs : List Bd) : Prop where
  len : bs.length ≤ 30
  size : ∀ b ∈ bs, 1 ≤ b.keys.cps.size ∧ b.keys.cps.size ≤ 6
  nodup : (bs.map fun b => (b.mode, b.keys)).Nodup
theorem at2 {x y z : Dv} : atI [x, y, z] 2 = some z := rfl
theorem at1 {x y z : Dv} : atI [x, y, z] 1 = some y := rfl
theorem at0 {x y z : Dv} : atI [x, y, z] 0 = some x := rfl
theorem bt0 {x y z u : Dv} : atI [x, y, z, u] 0 = some x := rfl
theorem bt1 {x y z u : Dv} : atI [x, y, z, u] 1 = some y := rfl
theorem bt2 {x y z u : Dv} : atI [x, y, z, u] 2 = some z := rfl
theorem bt3 {x y z u : Dv} : atI [x, y, z, u] 3 = some u := rfl
theorem pt0 {x y : Dv} : atI [x, y] 0 = some x := rfl
theorem pt1 {x y : Dv} : atI [x, y] 1 = some y := rfl
/-- a feed of keys at one tick -/
def feeds (bs : List Bd) (t : Int) (cl : List Ky) (s : TSta) : TSta := ((runT bs s.1 s.2.1 cl).2.1, (runT bs s.1 s.2.1 cl).2.2, t, s.2.2.2 ++ (runT bs s.1 s.2.1 cl).1.map (evT t))
theorem feeds_nil (bs : List Bd) (s : TSta) : feeds bs s.2.2.1 [] s = s := by unfold feeds; simp [runT]
theorem feeds_snoc (bs : List Bd) (t : Int) (cl : List Ky) (k : Ky) (s : TSta) : feeds bs t (cl ++ [k]) s = feedS bs t k (feeds bs t cl s) := by
  unfold feeds feedS
  rw [runT_append]
  simp
theorem dcut_from {α : Type} (xs : List α) (k : Nat) : dcut xs (some (k : Int)) none = xs.drop k := by
  unfold dcut
  rw [HT.sIx_none, HT.sIx_nat]
  by_cases h : k ≤ xs.length
  · rw [Nat.min_eq_left h]; exact List.take_of_length_le (by simp)
  · rw [Nat.min_eq_right (by omega), List.drop_of_length_le (by omega), List.drop_of_length_le (by omega)]; simp
end Lw

set_option Elab.async false
set_option linter.all false
set_option maxRecDepth 100000
namespace Wl
open PySem L2
section
variable {μ : Mu} {Q : DV} {xs : List Dv} {i j : Int} {b : Bool}
@[simp] theorem wsq_rol {Q : List Dv → Prop} : wsq (.rol xs) Q ↔ Q xs := Iff.rfl
@[simp] theorem o_intb : gInt [.bl b] μ Q ↔ Q (.int (if b then 1 else 0)) μ := Iff.rfl
@[simp] theorem o_max2 : gMax2 [.int i, .int j] μ Q ↔ Q (.int (if j > i then j else i)) μ := Iff.rfl
@[simp] theorem o_starts {x y : Str} : gStarts (.str x) [.str y] μ Q ↔ Q (.bl (Txt.startswith x y)) μ := Iff.rfl
theorem tupOf_lst : gTupOf [.lst xs] μ Q ↔ Q (.tup xs) μ := Iff.rfl
theorem list_lst : gList [.lst xs] μ Q ↔ Q (.lst xs) μ := Iff.rfl
end
end Wl
namespace Lw
open PySem L2 Wl
section
variable {P : Program} {w : World} {c : Cs} {μ : Mu} {Q : DV} {E : DX}
/-- the law's dice: the script, how far it is read, the mixed number, what is left of a number -/
def dic (ns : List Int) (n1 n2 n3 : Int) : Mo := .lst [.rol (ns.map Dv.int), .int n1, .int n2, .int n3]
structure DicOk (n1 n2 : Int) : Prop where
  h1 : 0 ≤ n1
  h2 : 0 ≤ n2
  h3 : n2 < 2147483647
theorem m_dice (ns : List Int) (hns : ns.length ≤ 63) (q : ∀ a n2 μ', Gr μ μ' → μ' a = some (dic ns 0 n2 0) → DicOk 0 n2 → Q (.ref a) μ') : sp_law_dice P w c [.rol (ns.map Dv.int)] μ Q E := by
  have hz : 20000 < sizeLine := by decide
  simp [sp_law_dice, T_law_dice, N_law_dice, dstart]
  refine loop_inv _ (fun i δ μ' => μ' = μ ∧ ∃ (x : Int) (l2 : Option Dv), δ = [some (.rol (ns.map Dv.int)), some (.int x), l2] ∧ 0 ≤ x ∧ x < 2147483647) 0 ⟨rfl, 0, none, rfl, by omega, by omega⟩ ?_ ?_
  · rintro i d δ μ' C hd ⟨rfl, x, l2, rfl, h1, h2⟩ hC
    rw [List.getElem?_map] at hd
    cases hm : ns[i]? with
    | none => rw [hm] at hd; cases hd
    | some n =>
      rw [hm] at hd
      cases hd
      simp [CMul]
      exact hC _ _ ⟨rfl, _, _, rfl, Int.emod_nonneg _ (by omega), Int.emod_lt_of_pos _ (by omega)⟩
  · rintro δ μ' ⟨rfl, x, l2, rfl, h1, h2⟩
    simp [CMul]
    refine ⟨by omega, by omega, fun p hp => ?_⟩
    refine q p _ _ (Gr.new hp) mset_at ?_
    by_cases h : 2 < ns.length
    · have h' : (2 : Int) < (ns.length : Int) := by omega
      rw [if_pos h']; exact ⟨by omega, by omega, by omega⟩
    · have h' : ¬ (2 : Int) < (ns.length : Int) := by omega
      rw [if_neg h']; exact ⟨by omega, by omega, by omega⟩
theorem m_next (a : Addr) (ns : List Int) (n1 n2 n3 m : Int) (hm : 0 < m) (hm2 : m < 1073741824) (h : μ a = some (dic ns n1 n2 n3)) (ho : DicOk n1 n2)
    (q : ∀ v n1' n2' n3', 0 ≤ v → v < m → DicOk n1' n2' → Q (.int v) (mset μ a (dic ns n1' n2' n3'))) : sp_law_next P w c [.ref a, .int m] μ Q E := by
  obtain ⟨h1, h2, h3⟩ := ho
  unfold dic at h
  simp [sp_law_next, T_law_next, N_law_next, dstart, h, atI, ixN, hm, hm2, CDiv, CMul, CPow]
  have hmod : ∀ z : Int, 0 ≤ z % m ∧ z % m < m := fun z => ⟨Int.emod_nonneg _ (by omega), Int.emod_lt_of_pos _ hm⟩
  by_cases h0 : 0 < n3
  · simp [h0]
    exact q _ n1 n2 _ (hmod _).1 (hmod _).2 ⟨h1, h2, h3⟩
  · by_cases hn : n1 + 1 ≤ (ns.length : Int)
    · have hl' : n1 < (ns.length : Int) := by omega
      have hl : n1.toNat < ns.length := by omega
      simp [h0, hn, h1, hl', CDiv, hm, hm2]
      by_cases hz : 1000000000000000000 ≤ ns[n1.toNat]
      · simp [hz]
        exact q _ (n1 + 1) n2 _ (hmod _).1 (hmod _).2 ⟨by omega, h2, h3⟩
      · simp [hz]
        exact q _ (n1 + 1) n2 _ (hmod _).1 (hmod _).2 ⟨by omega, h2, h3⟩
    · simp [h0, hn]
      exact q _ (n1 + 1) _ _ (hmod _).1 (hmod _).2 ⟨by omega, Int.emod_nonneg _ (by omega), Int.emod_lt_of_pos _ (by omega)⟩
theorem at_mem {xs : List Dv} {y : Int} (h0 : 0 ≤ y) (h1 : y < (xs.length : Int)) : ∃ d, d ∈ xs ∧ atI xs y = some d := by
  refine ⟨xs[y.toNat]'(by omega), List.getElem_mem _, ?_⟩
  simp [atI, ixN, h0, h1, show y.toNat < xs.length by omega]
theorem m_pick_lst (a : Addr) (ns : List Int) (n1 n2 n3 : Int) (xs : List Dv) (hx : 0 < xs.length) (hx2 : xs.length < 1000) (h : μ a = some (dic ns n1 n2 n3)) (ho : DicOk n1 n2)
    (q : ∀ d n1' n2' n3', d ∈ xs → DicOk n1' n2' → Q d (mset μ a (dic ns n1' n2' n3'))) : sp_law_pick P w c [.ref a, .lst xs] μ Q E := by
  simp [sp_law_pick, T_law_pick, N_law_pick, dstart]
  refine m_next a ns n1 n2 n3 (xs.length : Int) (by omega) (by omega) h ho fun v m1 m2 m3 hv0 hv1 ho1 => ?_
  obtain ⟨d, hd, ed⟩ := at_mem hv0 hv1
  exact Wl.ix_lst.mpr ⟨d, ed, q d m1 m2 m3 hd ho1⟩
theorem m_pick_tup (a : Addr) (ns : List Int) (n1 n2 n3 : Int) (xs : List Dv) (hx : 0 < xs.length) (hx2 : xs.length < 1000) (h : μ a = some (dic ns n1 n2 n3)) (ho : DicOk n1 n2)
    (q : ∀ d n1' n2' n3', d ∈ xs → DicOk n1' n2' → Q d (mset μ a (dic ns n1' n2' n3'))) : sp_law_pick P w c [.ref a, .tup xs] μ Q E := by
  simp [sp_law_pick, T_law_pick, N_law_pick, dstart]
  refine m_next a ns n1 n2 n3 (xs.length : Int) (by omega) (by omega) h ho fun v m1 m2 m3 hv0 hv1 ho1 => ?_
  obtain ⟨d, hd, ed⟩ := at_mem hv0 hv1
  exact Wl.ix_tup.mpr ⟨d, ed, q d m1 m2 m3 hd ho1⟩
theorem m_pick_str (a : Addr) (ns : List Int) (n1 n2 n3 : Int) (L : Str) (hL : 0 < L.cps.size) (hL2 : L.cps.size < 1000) (h : μ a = some (dic ns n1 n2 n3)) (ho : DicOk n1 n2)
    (q : ∀ ch n1' n2' n3', ch ∈ L.cps.toList → DicOk n1' n2' → Q (.str ⟨#[ch]⟩) (mset μ a (dic ns n1' n2' n3'))) : sp_law_pick P w c [.ref a, .str L] μ Q E := by
  have hz : 20000 < sizeLine := by decide
  have hlen : L.length = L.cps.size := rfl
  simp [sp_law_pick, T_law_pick, N_law_pick, dstart]
  refine ⟨by omega, ?_⟩
  refine m_next a ns n1 n2 n3 (L.length : Int) (by omega) (by omega) h ho fun v m1 m2 m3 hv0 hv1 ho1 => ?_
  have hv : v < (L.cps.size : Int) := hv1
  have e : atI L.cps.toList v = some (L.cps[v.toNat]'(by omega)) := by simp [atI, ixN, hv0, hv]
  exact ix_str.mpr ⟨by omega, _, e, q _ m1 m2 m3 (by simp) ho1⟩
end
end Lw

set_option Elab.async false
set_option linter.all false
set_option maxRecDepth 100000
namespace Lw
open PySem L2 Wl
theorem join_chars (l : List Nat) : Txt.join "" (l.map fun k => (⟨#[k]⟩ : Str)) = tx l := by
  unfold Txt.join PySem.Builtin.Str.glued
  have main : ∀ (r : List Nat) (acc : Array Nat), List.foldl (fun acc (p : Str) => acc ++ ("" : Str).cps ++ p.cps) acc (r.map fun k => (⟨#[k]⟩ : Str)) = acc ++ r.toArray := by
    intro r
    induction r with
    | nil => intro acc; simp
    | cons k r ih =>
      intro acc
      rw [List.map_cons, List.foldl_cons, ih]
      have : ("" : Str).cps = #[] := by decide
      rw [this]
      simp
  cases l with
  | nil => rfl
  | cons k r =>
    have := main r #[k]
    simp only [List.map_cons, List.headD_cons, List.drop_succ_cons, List.drop_zero]
    rw [this]
    simp [tx]
theorem texts_chars (r : List Nat) : textsD (r.map fun k => Dv.str ⟨#[k]⟩) = some (r.map fun k => (⟨#[k]⟩ : Str)) := by
  induction r with
  | nil => rfl
  | cons x r ih => simp [textsD, ih]
theorem sum_chars (r : List Nat) : ((r.map fun k => (⟨#[k]⟩ : Str)).map (·.length)).sum = r.length := by
  induction r with
  | nil => rfl
  | cons x r ih =>
    rw [List.map_cons, List.map_cons, List.sum_cons, ih, List.length_cons]
    have : (⟨#[x]⟩ : Str).length = 1 := rfl
    rw [this]; omega
section
variable {P : Program} {w : World} {c : Cs} {μ : Mu} {Q : DV} {E : DX}
theorem m_keys (a : Addr) (ns : List Int) (n1 n2 n3 most : Int) (L : Str) (hm : 0 < most) (hm2 : most < 100) (hL : 0 < L.cps.size) (hL2 : L.cps.size < 100) (h : μ a = some (dic ns n1 n2 n3)) (ho : DicOk n1 n2)
    (q : ∀ (x : Str) n1' n2' n3', 1 ≤ x.cps.size → (x.cps.size : Int) ≤ most → (∀ ch ∈ x.cps.toList, ch ∈ L.cps.toList) → DicOk n1' n2' → Q (.str x) (mset μ a (dic ns n1' n2' n3'))) : sp_law_keys P w c [.ref a, .str L, .int most] μ Q E := by
  have hz : 20000 < sizeLine := by decide
  simp [sp_law_keys, T_law_keys, N_law_keys, dstart, ty_str]
  refine m_next a ns n1 n2 n3 most hm (by omega) h ho fun v m1 m2 m3 hv0 hv1 ho1 => ?_
  simp
  refine ⟨⟨by omega, by omega⟩, fun A hA => ?_⟩
  have hAa : A ≠ a := fun e => by rw [e, mset_at] at hA; cases hA
  have hA0 : μ A = none := by rw [mset_off hAa] at hA; exact hA
  refine comp_inv _ (fun i acc μ' => ∃ (l : List Nat) (k1 k2 k3 : Int), acc = l.map (fun k => Dv.str ⟨#[k]⟩) ∧ l.length = i ∧ (∀ ch ∈ l, ch ∈ L.cps.toList) ∧ DicOk k1 k2 ∧ μ' = mset (mset μ a (dic ns k1 k2 k3)) A (.lst acc)) 0 [] ⟨[], m1, m2, m3, rfl, rfl, by simp, ho1, rfl⟩ mset_at ?_ ?_
  · rintro i d acc μ' C hd ⟨l, k1, k2, k3, rfl, hl, hc, ho2, rfl⟩ hA' hC
    have hi : i < (1 + v).toNat := by
      have := (List.getElem?_eq_some_iff.mp hd).1
      simpa [irange] using this
    simp [dwipe]
    refine m_pick_str a ns k1 k2 k3 L hL (by omega) (by rw [mset_off hAa.symm, mset_at]) ho2 fun ch j1 j2 j3 hch ho3 => ?_
    refine ⟨_, by rw [mset_off hAa, mset_at], by simp; omega, ?_⟩
    refine hC _ _ ⟨l ++ [ch], j1, j2, j3, by simp, by simp [hl], ?_, ho3, ?_⟩ mset_at
    · intro z hz'
      rcases List.mem_append.mp hz' with h' | h'
      · exact hc z h'
      · rw [List.mem_singleton.mp h']; exact hch
    · funext b
      by_cases h1 : b = A
      · subst h1; rw [mset_at, mset_at]
      · rw [mset_off h1, mset_off h1]
        by_cases h2 : b = a
        · subst h2; rw [mset_at, mset_at]
        · rw [mset_off h2, mset_off h1, mset_off h2, mset_off h2]
  · rintro acc μ' ⟨l, k1, k2, k3, rfl, hl, hc, ho2, rfl⟩ hA'
    have hlr : (irange 0 (1 + v).toNat).length = (1 + v).toNat := by simp [irange]
    rw [hlr] at hl
    have e4 : (Str.ofString "").length = 0 := by decide
    refine ⟨_, texts_chars l, ?_, ?_⟩
    · rw [sum_chars, e4]; omega
    · have hj : Txt.join (Str.ofString "") (l.map fun k => (⟨#[k]⟩ : Str)) = tx l := join_chars l
      rw [hj, mdel_mset (by rw [mset_off hAa]; exact hA0)]
      refine q (tx l) k1 k2 k3 (by rw [tx_size]; omega) (by rw [tx_size]; omega) (by rw [tx_list]; exact hc) ho2
def names2 : List Str := ["n", "i", "vv", "omega"]
def cmds2 : List Str := ["go", "stop", "up", "down", "find"]
structure Parts2 (L : List Nat) (mm rows most wm : Nat) (ms : List Str) (wt : Int) (bs : List Bd) : Prop where
  mods : ∃ n : Nat, 1 ≤ n ∧ n ≤ mm ∧ ms = names2.take n
  wt : 1 ≤ wt ∧ wt ≤ (wm : Int)
  len : bs.length ≤ rows
  mode : ∀ b ∈ bs, b.mode ∈ ms ∧ b.tgt ∈ ms ∧ b.cmd ∈ cmds2
  keys : ∀ b ∈ bs, 1 ≤ b.keys.cps.size ∧ b.keys.cps.size ≤ most ∧ ∀ ch ∈ b.keys.cps.toList, ch ∈ L
  nodup : (bs.map fun b => (b.mode, b.keys)).Nodup
theorem m_map (a : Addr) (ns : List Int) (n1 n2 n3 : Int) (mm rows most wm : Nat) (L : Str) (hmm : 1 ≤ mm ∧ mm ≤ 4) (hrows : rows ≤ 30) (hmost : 1 ≤ most ∧ most ≤ 6) (hwm : 1 ≤ wm ∧ wm ≤ 99) (hL : 0 < L.cps.size) (hL2 : L.cps.size < 100) (h : μ a = some (dic ns n1 n2 n3)) (ho : DicOk n1 n2)
    (q : ∀ ms wt bs n1' n2' n3' μ', Parts2 L.cps.toList mm rows most wm ms wt bs → DicOk n1' n2' → μ' a = some (dic ns n1' n2' n3') → (∀ b m, b ≠ a → μ b = some m → μ' b = some m) → Q (partsD ms wt bs) μ') : sp_law_map P w c [.ref a, .int mm, .str L, .int rows, .int most, .int wm] μ Q E := by
  have hz : 20000 < sizeLine := by decide
  simp [sp_law_map, T_law_map, N_law_map, dstart]
  refine ⟨by omega, ?_⟩
  refine m_next a ns n1 n2 n3 mm (by omega) (by omega) h ho fun v m1 m2 m3 hv0 hv1 ho1 => ?_
  simp
  have hd : ∃ n : Nat, 1 ≤ n ∧ n ≤ mm ∧ dcut [Dv.str (Str.ofString "n"), Dv.str (Str.ofString "i"), Dv.str (Str.ofString "vv"), Dv.str (Str.ofString "omega")] none (some (1 + v)) = (names2.take n).map Dv.str := by
    refine ⟨(1 + v).toNat, by omega, by omega, ?_⟩
    have e : (1 + v : Int) = (((1 + v).toNat : Nat) : Int) := by omega
    have := dcut_to [Dv.str (Str.ofString "n"), Dv.str (Str.ofString "i"), Dv.str (Str.ofString "vv"), Dv.str (Str.ofString "omega")] (1 + v).toNat
    rw [← e] at this
    rw [this, List.map_take]; rfl
  obtain ⟨n, hn1, hn3, en⟩ := hd
  rw [en]
  refine tupOf_lst.mpr ?_
  have hml : ((names2.take n).length : Int) = min (n : Int) 4 := by simp [names2]; omega
  generalize hms : names2.take n = ms at *
  intro pb hpb pu hpu
  have hba : pb ≠ a := fun e => by rw [e, mset_at] at hpb; cases hpb
  have hub : pu ≠ pb := fun e => by rw [e, mset_at] at hpu; cases hpu
  have hua : pu ≠ a := fun e => by rw [e, mset_off hba.symm, mset_at] at hpu; cases hpu
  have hpb0 : μ pb = none := by rw [mset_off hba] at hpb; exact hpb
  have hpu0 : μ pu = none := by rw [mset_off hub, mset_off hua] at hpu; exact hpu
  refine m_next a ns m1 m2 m3 (rows + 1) (by omega) (by omega) (by rw [mset_off hua.symm, mset_off hba.symm, mset_at]) ho1 fun v4 i1 i2 i3 hx0 hx1 ho4 => ?_
  simp
  refine ⟨⟨by omega, by omega⟩, ?_⟩
  have hml0 : 0 < ms.length := by omega
  have hml4 : ms.length ≤ 4 := by omega
  refine loop_inv _ (fun i δ μ' => ∃ (bs : List Bd) (g1 g2 g3 : Int) (l9 l10 l11 l12 : Option Dv), δ = [some (.ref a), some (.int mm), some (.str L), some (.int rows), some (.int most), some (.int wm), some (.tup (ms.map Dv.str)), some (.ref pb), some (.ref pu), l9, l10, l11, l12] ∧ bs.length ≤ i ∧
      (∀ b ∈ bs, b.mode ∈ ms ∧ b.tgt ∈ ms ∧ b.cmd ∈ cmds2) ∧ (∀ b ∈ bs, 1 ≤ b.keys.cps.size ∧ b.keys.cps.size ≤ most ∧ ∀ ch ∈ b.keys.cps.toList, ch ∈ L.cps.toList) ∧ (bs.map fun b => (b.mode, b.keys)).Nodup ∧
      DicOk g1 g2 ∧ μ' a = some (dic ns g1 g2 g3) ∧ μ' pb = some (.lst (bs.map Bd.dv)) ∧ μ' pu = some (.lst (bs.map fun b => Dv.tup [.str b.mode, .str b.keys])) ∧ ∀ b m, b ≠ a → μ b = some m → μ' b = some m) 0
    ⟨[], i1, i2, i3, none, none, none, none, rfl, Nat.le_refl _, (by simp), (by simp), .nil, ho4, mset_at, by rw [mset_off hba, mset_off hub.symm, mset_at]; rfl, by rw [mset_off hua, mset_at]; rfl, fun b m h1 h2 => by rw [mset_off h1, mset_off (fun e => by rw [e, hpu0] at h2; cases h2), mset_off (fun e => by rw [e, hpb0] at h2; cases h2), mset_off h1]; exact h2⟩ ?_ ?_
  · rintro i d δ μ' C hd ⟨bs, g1, g2, g3, l9, l10, l11, l12, rfl, hl, hm, hk, hnd, ho5, ha, hb, hu, hkp⟩ hC
    have hi : i < v4.toNat := by
      have := (List.getElem?_eq_some_iff.mp hd).1
      simpa [irange] using this
    simp
    have hcl : ∀ (bs : List Bd), (bs.map fun b => Dv.tup [Dv.str b.mode, Dv.str b.keys]).all (Cln 1) = true := fun bs => List.all_eq_true.mpr fun z hz' => by
      obtain ⟨b, _, rfl⟩ := List.mem_map.mp hz'
      rfl
    refine m_pick_tup a ns g1 g2 g3 (ms.map Dv.str) (by simpa using hml0) (by simp; omega) ha ho5 fun dmo p1 p2 p3 hdmo ho6 => ?_
    obtain ⟨mo, hmo, rfl⟩ := List.mem_map.mp hdmo
    refine m_keys a ns p1 p2 p3 most L (by omega) (by omega) hL hL2 mset_at ho6 fun x r1 r2 r3 hx1' hx2' hxl ho7 => ?_
    rw [mset_mset]
    have hpu' : (mset μ' a (dic ns r1 r2 r3)) pu = some (.lst (bs.map fun b => Dv.tup [.str b.mode, .str b.keys])) := by rw [mset_off hua]; exact hu
    have hpb' : (mset μ' a (dic ns r1 r2 r3)) pb = some (.lst (bs.map Bd.dv)) := by rw [mset_off hba]; exact hb
    obtain ⟨k1', k2'⟩ := cln_in (n := 1) (m := 1) (x := .tup [.str mo, .str x]) (ys := bs.map fun b => Dv.tup [.str b.mode, .str b.keys]) rfl (hcl bs) (by decide)
    refine ⟨by omega, (in_ref hpu').mpr ⟨k1', ?_⟩⟩
    simp
    by_cases hin : dIn (.tup [.str mo, .str x]) (bs.map fun b => Dv.tup [.str b.mode, .str b.keys]) = true
    · rw [if_pos hin]
      exact hC _ _ ⟨bs, r1, r2, r3, _, _, _, _, rfl, by omega, hm, hk, hnd, ho7, mset_at, hpb', hpu', fun b m h1 h2 => by rw [mset_off h1]; exact hkp b m h1 h2⟩
    · rw [if_neg hin]
      have hno : (mo, x) ∉ bs.map fun b => (b.mode, b.keys) := fun hx => by
        obtain ⟨b, hb1, hb2⟩ := List.mem_map.mp hx
        refine hin (k2'.mpr (List.mem_map.mpr ⟨b, hb1, ?_⟩))
        cases hb2; rfl
      have hnl : bs.length < rows := by omega
      refine ⟨(ty_ref hpu').mpr rfl, by omega, _, hpu', by simp; omega, by omega, ?_⟩
      refine m_pick_lst a ns r1 r2 r3 _ (by simp) (by simp) (by rw [mset_off hua.symm, mset_at]) ho7 fun dco s1 s2 s3 hdco ho8 => ?_
      obtain ⟨co, hco, rfl⟩ : ∃ co, co ∈ cmds2 ∧ Dv.str co = dco := List.mem_map.mp (show dco ∈ cmds2.map Dv.str from hdco)
      have h8 : (mset (mset (mset μ' a (dic ns r1 r2 r3)) pu (.lst ((bs.map fun b => Dv.tup [.str b.mode, .str b.keys]) ++ [.tup [.str mo, .str x]]))) a (dic ns s1 s2 s3)) pb = some (.lst (bs.map Bd.dv)) := by
        rw [mset_off hba, mset_off hub.symm]; exact hpb'
      refine ⟨(ty_ref h8).mpr rfl, ?_⟩
      refine m_pick_tup a ns s1 s2 s3 (ms.map Dv.str) (by simpa using hml0) (by simp; omega) mset_at ho8 fun dtg t1 t2 t3 hdtg ho9 => ?_
      obtain ⟨tg, htg, rfl⟩ := List.mem_map.mp hdtg
      rw [mset_mset]
      refine ⟨by omega, ?_⟩
      refine m_pick_lst a ns t1 t2 t3 _ (by simp) (by simp) mset_at ho9 fun dtt u1 u2 u3 hdtt ho10 => ?_
      obtain ⟨tt, htt, rfl⟩ : ∃ tt, tt ∈ ms ∧ dtt = Dv.str tt := by
        simp at hdtt
        rcases hdtt with rfl | rfl
        · exact ⟨mo, hmo, rfl⟩
        · exact ⟨tg, htg, rfl⟩
      rw [mset_mset]
      refine ⟨by omega, _, by rw [mset_off hba, mset_off hub.symm]; exact hpb', by simp; omega, ?_⟩
      refine hC _ _ ⟨bs ++ [⟨mo, x, co, tt⟩], u1, u2, u3, _, _, _, _, rfl, by simp; omega, ?_, ?_, ?_, ho10, ?_, ?_, ?_, ?_⟩
      · intro b hb'
        rcases List.mem_append.mp hb' with h' | h'
        · exact hm b h'
        · rw [List.mem_singleton.mp h']; exact ⟨hmo, htt, hco⟩
      · intro b hb'
        rcases List.mem_append.mp hb' with h' | h'
        · exact hk b h'
        · rw [List.mem_singleton.mp h']; exact ⟨hx1', (by show x.cps.size ≤ most; omega), hxl⟩
      · rw [List.map_append]
        refine List.nodup_append.mpr ⟨hnd, by simp, ?_⟩
        intro z hz1' z' hz2' e
        rw [List.map_singleton, List.mem_singleton] at hz2'
        rw [e, hz2'] at hz1'
        exact hno hz1'
      · rw [mset_off hba.symm, mset_at]
      · rw [mset_at]; simp [Bd.dv]
      · rw [mset_off hub, mset_off hua, mset_at]; simp
      · intro b m h1 h2
        rw [mset_off (fun e => by rw [e, hpb0] at h2; cases h2), mset_off h1, mset_off (fun e => by rw [e, hpu0] at h2; cases h2), mset_off h1]
        exact hkp b m h1 h2
  · rintro δ μ' ⟨bs, g1, g2, g3, l9, l10, l11, l12, rfl, hl, hm, hk, hnd, ho5, ha, hb, hu, hkp⟩
    have hr : (irange 0 v4.toNat).length = v4.toNat := by simp [irange]
    rw [hr] at hl
    simp
    refine m_next a ns g1 g2 g3 wm (by omega) (by omega) ha ho5 fun v5 j1 j2 j3 hw0 hw1 ho6 => ?_
    simp
    refine tupOf_ref.mpr ⟨_, by rw [mset_off hba]; exact hb, by omega, ?_⟩
    exact q ms (1 + v5) bs j1 j2 j3 _ ⟨⟨n, hn1, hn3, hms.symm⟩, ⟨by omega, by omega⟩, by omega, hm, hk, hnd⟩ ho6 mset_at fun b m h1 h2 => by rw [mset_off h1]; exact hkp b m h1 h2
end
end Lw

set_option Elab.async false
set_option linter.all false
set_option maxRecDepth 100000
namespace Lw
open PySem L2 Wl
theorem starts_tx (a b : List Nat) : Txt.startswith (tx a) (tx b) = decide (a.take b.length = b) := by
  unfold Txt.startswith Builtin.Str.subAt
  have h1 : (tx a).length = a.length := tx_size a
  have h2 : (tx b).length = b.length := tx_size b
  rw [h1, h2]
  have h3 : ((tx a).cps.extract 0 (0 + b.length)) = (a.take b.length).toArray := by
    unfold tx
    simp
  rw [h3]
  have h4 : (tx b).cps = b.toArray := rfl
  rw [h4]
  by_cases h : a.take b.length = b
  · have hl : b.length ≤ a.length := by
      have := congrArg List.length h
      rw [List.length_take] at this
      omega
    rw [h]; simp [hl]
  · have : ((a.take b.length).toArray == b.toArray) = false := by
      rw [beq_eq_false_iff_ne]
      intro e
      exact h (by have := congrArg Array.toList e; simpa using this)
    rw [this]; simp [h]
def Keep (a : Addr) (μ μ' : Mu) : Prop := ∀ b m, b ≠ a → μ b = some m → μ' b = some m
theorem Keep.trans {a : Addr} {μ1 μ2 μ3 : Mu} (h : Keep a μ1 μ2) (g : Keep a μ2 μ3) : Keep a μ1 μ3 := fun b m hb e => g b m hb (h b m hb e)
theorem Keep.of {a : Addr} {μ μ' : Mu} (h : Gr μ μ') : Keep a μ μ' := fun b m _ e => h b m e
theorem keep_set {a : Addr} {μ : Mu} {m : Mo} : Keep a μ (mset μ a m) := fun b n hb e => by rw [mset_off hb]; exact e
end Lw

set_option Elab.async false
set_option linter.all false
set_option maxRecDepth 100000
namespace Lw
open PySem L2 Wl
section
variable {P : Program} {w : World} {c : Cs} {μ : Mu} {Q : DV} {E : DX}
/-- "".join of the keys of what is held, as the law writes it -/
theorem m_word_at {δ : DSt} {vs : List Nat} {g : DG} {l : List Ky} {te : DE} {A : Addr} {Qk : List Dv → Mu → Prop} (hA : μ A = none) (hl : l.length ≤ 1000)
    (hb : ∀ (k : Ky) (acc : List Dv) (C : Mu → Prop), acc.length < sizeLine → C (mset μ A (.lst (acc ++ [.str ⟨#[k.1]⟩]))) →
      g (kyD k) (dwipe δ vs) (mset μ A (.lst acc)) fun δ1 μ1 => vYes δ1 μ1 fun b μ2 => if b = true then te δ1 μ2 fun y μ3 => ∃ acc, μ3 A = some (.lst acc) ∧ acc.length < sizeLine ∧ C (mset μ3 A (.lst (acc ++ [y]))) else C μ2)
    (q : Qk ((kk l).map fun k => Dv.str ⟨#[k]⟩) (mset μ A (.lst ((kk l).map fun k => Dv.str ⟨#[k]⟩)))) : vLoop vs g vYes te δ A (l.map kyD) (mset μ A (.lst [])) Qk := by
  have hz : 20000 < sizeLine := by decide
  refine comp_at hA (fun d => match d with | .tup [a, _] => some a | _ => none) _ (by simp; omega) ?_ ?_
  · intro d hd acc C hla hC
    obtain ⟨k, hk, rfl⟩ := List.mem_map.mp hd
    exact hb k acc C hla hC
  · have e : ∀ r : List Ky, (r.map kyD).filterMap (fun d => match d with | .tup [a, _] => some a | _ => none) = (kk r).map fun k => Dv.str ⟨#[k]⟩ := fun r => by
      induction r with
      | nil => rfl
      | cons x r ih => rw [List.map_cons, List.filterMap_cons, ih]; rfl
    rw [e]; exact q
theorem join_kk (l : List Ky) : Txt.join (Str.ofString "") ((kk l).map fun k => (⟨#[k]⟩ : Str)) = tx (kk l) := join_chars (kk l)
theorem sum_kk (l : List Ky) (hl : l.length ≤ 1000) : (((kk l).map fun k => (⟨#[k]⟩ : Str)).map (fun x => x.length)).sum + ((kk l).map fun k => (⟨#[k]⟩ : Str)).length * (Str.ofString "").length ≤ 16777216 := by
  have e4 : (Str.ofString "").length = 0 := by decide
  have := sum_chars (kk l)
  rw [this, e4]; simp; omega
theorem m_broken {bs : List Bd} (G : Good bs) (m : Str) (l : List Ky) (t : Int) (me : Addr) (es : List TEv) (hne : l ≠ []) (hl : l.length ≤ 500) (he : es.length ≤ 5000) (hme : μ me = some (.lst (es.map levD)))
    (q : Q (.tup [.str (stepOf bs m (tx (kk l))).2.2.2, .lst ((l.drop (stepOf bs m (tx (kk l))).2.2.1).map kyD)]) (mset μ me (.lst ((es ++ [evT t (((stepOf bs m (tx (kk l))).1, (stepOf bs m (tx (kk l))).2.1, (stepOf bs m (tx (kk l))).2.2.1), typ l (stepOf bs m (tx (kk l))).2.2.1)]).map levD)))) :
    sp_law_broken P w c [.tup (bs.map Bd.dv), .str m, .lst (l.map kyD), .int t, .ref me] μ Q E := by
  have hz : 20000 < sizeLine := by decide
  have g1 := G.len
  have hpos : 0 < l.length := List.length_pos_iff.mpr hne
  have hlx : (tx (kk l)).length = l.length := by show (tx _).cps.size = _; rw [tx_size]; simp
  simp [sp_law_broken, T_law_broken, N_law_broken, dstart, ty_str]
  intro A hA
  refine m_word_at hA (by omega) ?_ ?_
  · intro k acc C hla hC
    simp [dwipe, kyD]
    exact ⟨hla, hC⟩
  refine ⟨_, texts_chars _, sum_kk l (by omega), ?_⟩
  rw [join_kk, mdel_mset hA]
  refine loop_inv _ (fun i δ μ' => μ' = μ ∧ ∃ l9 : Option Dv, δ = [some (.tup (bs.map Bd.dv)), some (.str m), some (.lst (l.map kyD)), some (.int t), some (.ref me), some (.str (tx (kk l))), some (optD ((bs.take i).foldl (scanStep m (kk l)) none)), none, none, l9]) 0 ⟨rfl, none, rfl⟩ ?_ ?_
  · rintro i d δ μ' C hd ⟨rfl, l9, rfl⟩ hC
    rw [List.getElem?_map] at hd
    cases hm : bs[i]? with
    | none => rw [hm] at hd; cases hd
    | some b =>
      rw [hm] at hd
      cases hd
      have hi : i < bs.length := (List.getElem?_eq_some_iff.mp hm).1
      have hb1 := G.size b (List.mem_of_getElem? hm)
      have hblen : b.keys.length = b.keys.cps.size := rfl
      have htake : bs.take (0 + i + 1) = bs.take (0 + i) ++ [b] := by rw [show 0 + i + 1 = i + 1 by omega, show 0 + i = i by omega, List.take_add_one, hm]; rfl
      generalize ho : (bs.take (0 + i)).foldl (scanStep m (kk l)) none = o
      have hnext : (bs.take (0 + i + 1)).foldl (scanStep m (kk l)) none = scanStep m (kk l) o b := by rw [htake, List.foldl_append, ho]; rfl
      have hC' : ∀ l9 : Option Dv, C [some (.tup (bs.map Bd.dv)), some (.str m), some (.lst (l.map kyD)), some (.int t), some (.ref me), some (.str (tx (kk l))), some (optD (scanStep m (kk l) o b)), none, none, l9] μ' := fun l9 => hC _ _ ⟨rfl, l9, by rw [hnext]⟩
      unfold scanStep at hC'
      have est : Txt.startswith (tx (kk l)) b.keys = decide (tx ((kk l).take b.keys.cps.size) = b.keys) := by
        have h1 := starts_tx (kk l) b.keys.cps.toList
        rw [tx_of] at h1
        rw [h1]
        have h2 : b.keys.cps.toList.length = b.keys.cps.size := by simp
        rw [h2]
        by_cases hx : (kk l).take b.keys.cps.size = b.keys.cps.toList
        · rw [hx, tx_of]; simp
        · have : ¬ tx ((kk l).take b.keys.cps.size) = b.keys := fun e => hx (by rw [← tx_list ((kk l).take b.keys.cps.size), e])
          simp [hx, this]
      simp [Bd.dv, bt0, bt1, ty_str]
      refine ⟨okS, ?_⟩
      simp [eqS]
      by_cases c1 : b.mode = m
      · rw [if_pos c1, est]
        by_cases c2 : tx ((kk l).take b.keys.cps.size) = b.keys
        · have hfit : Fits m (kk l) b := ⟨c1, c2.symm⟩
          simp [c2]
          rw [isNo_opt]
          cases o with
          | none => simpa [hfit, optD, Bd.dv] using hC' _
          | some a =>
            have halen : a.keys.length = a.keys.cps.size := rfl
            have ham : a ∈ bs := by
              have := scan_spec m (kk l) (bs.take (0 + i)) none (by simp)
              rw [ho] at this
              rcases this.1 with h' | h'
              · exact List.mem_of_mem_take h'
              · cases h'
            have ha1 := G.size a ham
            simp [optD, Bd.dv, bt1]
            refine ⟨by omega, by omega, ?_⟩
            rw [halen, hblen]
            by_cases c3 : a.keys.cps.size < b.keys.cps.size
            · rw [if_pos c3]
              simpa [hfit, c3, optD, Bd.dv] using hC' _
            · rw [if_neg c3]
              simpa [hfit, c3, optD, Bd.dv] using hC' _
        · have hfit : ¬ Fits m (kk l) b := fun q => c2 q.2.symm
          simp [c2]
          simpa [hfit] using hC' _
      · rw [if_neg c1]
        have hfit : ¬ Fits m (kk l) b := fun q => c1 q.1
        simpa [hfit] using hC' _
  · rintro δ μ' ⟨rfl, l9, rfl⟩
    have hn0 : 0 + (bs.map Bd.dv).length = bs.length := by simp
    rw [hn0, List.take_length]
    have hsc := stepOf_scan bs m (kk l) G.nodup (fun b hb => (G.size b hb).1)
    have hsz := stepOf_le bs m (kk l) (by simp; omega)
    change _ = match (bs.foldl (scanStep m (kk l)) none) with | some b => _ | none => _ at hsc
    have hmem : ∀ b, bs.foldl (scanStep m (kk l)) none = some b → b ∈ bs := fun b hb => (scan_mem hb).1
    generalize hst : stepOf bs m (tx (kk l)) = st at hsc hsz q
    rw [kk_length] at hsz
    cases e : bs.foldl (scanStep m (kk l)) none with
    | none =>
      rw [e] at hsc
      subst hsc
      simp [optD, isNo]
      refine ⟨(ty_ref hme).mpr rfl, ?_⟩
      cases hl0 : l with
      | nil => exact absurd hl0 hne
      | cons k0 r =>
        subst hl0
        have a0 : atI ((k0 :: r).map kyD) 0 = some (kyD k0) := by simp [atI, ixN]
        have ec : dcut ((k0 :: r).map kyD) (some 1) none = ((k0 :: r).drop 1).map kyD := by
          have := dcut_from ((k0 :: r).map kyD) 1
          rw [List.map_drop]; exact this
        refine ⟨_, a0, ?_⟩
        simp only [kyD, Wl.ix_tup, pt0, Option.some.injEq]
        refine ⟨_, rfl, _, a0, ?_⟩
        simp only [kyD, Wl.ix_tup, pt1, Option.some.injEq]
        refine ⟨_, rfl, by omega, _, hme, by simp; omega, by omega, ?_⟩
        rw [ec]
        simpa [levD, evT, typ, kyD] using q
    | some b =>
      rw [e] at hsc
      have hb := hmem b e
      have hblen : b.keys.length = b.keys.cps.size := rfl
      have hb1 := G.size b hb
      subst hsc
      simp only at hsz q
      simp [optD, isNo, Bd.dv, bt1, bt2, bt3]
      refine ⟨(ty_ref hme).mpr rfl, by omega, ?_⟩
      obtain ⟨k0, hk0⟩ : ∃ k, l[b.keys.cps.size - 1]? = some k := ⟨_, List.getElem?_eq_getElem (by omega)⟩
      have a0 : atI (l.map kyD) ((b.keys.length : Int) - 1) = some (kyD k0) := by
        have e1 : ((b.keys.length : Int) - 1) = ((b.keys.cps.size - 1 : Nat) : Int) := by omega
        rw [e1]
        unfold atI ixN
        rw [if_pos (by omega), if_pos (by simp; omega)]
        simp [hk0]
      have ec : dcut (l.map kyD) (some (b.keys.length : Int)) none = (l.drop b.keys.cps.size).map kyD := by
        rw [List.map_drop]; exact dcut_from (l.map kyD) b.keys.cps.size
      refine ⟨_, a0, ?_⟩
      simp only [kyD, Wl.ix_tup, pt1, Option.some.injEq]
      refine ⟨_, rfl, by omega, _, hme, by simp; omega, by omega, by omega, ?_⟩
      rw [ec]
      simpa [levD, evT, typ, kyD, hk0] using q
end
end Lw

set_option Elab.async false
set_option linter.all false
set_option maxRecDepth 100000
namespace Lw
open PySem L2 Wl
/-- the state of the law's player, without its events -/
def sdD (m : Str) (l : List Ky) (f : Int) : Dv := .tup [.str m, .lst (l.map kyD), .int f]
theorem begun_starts {bs : List Bd} (m : Str) (l : List Nat) (h1 : 1 ≤ l.length) : begun bs m l = !(bs.filter fun b => decide (b.mode = m) && (decide (b.keys.cps.toList.take l.length = l) && !decide (b.keys = tx l))).isEmpty := by
  have key : ∀ b : Bd, b.keys.cps.toList.take l.length = l → (l.length < b.keys.cps.size ↔ ¬ b.keys = tx l) := fun b hb => by
    have hle : l.length ≤ b.keys.cps.size := by
      have := congrArg List.length hb
      rw [List.length_take] at this
      simp at this
      omega
    constructor
    · intro hlt e
      rw [e, tx_size] at hlt; omega
    · intro hne
      refine Nat.lt_of_le_of_ne hle fun e => hne ?_
      rw [List.take_of_length_le (by simp; omega)] at hb
      rw [← hb, tx_of]
  unfold begun
  rw [Bool.eq_iff_iff, List.any_eq_true]
  constructor
  · rintro ⟨b, hb, hh⟩
    simp at hh
    simp
    exact ⟨b, hb, hh.1.1.1, hh.2, (key b hh.2).mp hh.1.2⟩
  · intro hh
    simp at hh
    obtain ⟨b, hb, h2, h3, h4⟩ := hh
    exact ⟨b, hb, by simp [h2, h3, (key b h3).mpr h4]; omega⟩
section
variable {P : Program} {w : World} {c : Cs} {μ : Mu} {Q : DV} {E : DX}
theorem starts_keys (b : Bd) (l : List Nat) : Txt.startswith b.keys (tx l) = decide (b.keys.cps.toList.take l.length = l) := by
  have := starts_tx b.keys.cps.toList l
  rw [tx_of] at this; exact this
theorem m_grown {ms : List Str} {wt : Int} {bs : List Bd} (G : Good bs) (m : Str) (l cl : List Ky) (f t : Int) (me : Addr) (es : List TEv) (hb : l.length + cl.length ≤ 300) (he : es.length ≤ 3000) (hme : μ me = some (.lst (es.map levD)))
    (q : ∀ f', (cl ≠ [] → f' = t) → (cl = [] → f' = f) → Q (sdD (runT bs m l cl).2.1 (runT bs m l cl).2.2 f') (mset μ me (.lst ((es ++ (runT bs m l cl).1.map (evT t)).map levD)))) :
    sp_law_grown P w c [partsD ms wt bs, sdD m l f, .lst (cl.map kyD), .int t, .ref me] μ Q E := by
  have hz : 20000 < sizeLine := by decide
  have g1 := G.len
  have p2 : ∀ {μ : Mu} {Q : DV}, gIx (partsD ms wt bs) (.int 2) μ Q ↔ Q (.tup (bs.map Bd.dv)) μ := fun {μ} {Q} => by simp [partsD, at2]
  simp [sp_law_grown, T_law_grown, N_law_grown, dstart, p2, sdD, list_lst]
  have hms : mset μ me (.lst (es.map levD)) = μ := by
    funext b
    unfold mset
    by_cases e : b = me
    · rw [if_pos e, e, hme]
    · rw [if_neg e]
  refine ⟨(l.length + cl.length) * 2001 + cl.length + 1, while_inv (fun mm δ μ' => ∃ (m' : Str) (l' r' : List Ky) (f' : Int) (acc : List TEv) (l10 l13 l15 : Option Dv), δ = [some (partsD ms wt bs), some (sdD m l f), some (.lst (cl.map kyD)), some (.int t), some (.ref me), some (.tup (bs.map Bd.dv)), some (.str m'), some (.lst (l'.map kyD)), some (.int f'), some (.lst (r'.map kyD)), l10, none, none, l13, none, l15] ∧
      μ' = mset μ me (.lst ((es ++ acc).map levD)) ∧ ((runT bs m l cl).1.map (evT t), (runT bs m l cl).2) = (acc ++ (runT bs m' l' r').1.map (evT t), (runT bs m' l' r').2) ∧ acc.length + (l'.length + r'.length) ≤ l.length + cl.length ∧ mm = (l'.length + r'.length) * 2001 + r'.length ∧ ((r' = cl ∧ f' = f) ∨ (cl ≠ [] ∧ f' = t))) ?_ _ _ (Nat.lt_succ_self _) ⟨m, l, cl, f, [], none, none, none, rfl, by simp [hms], by simp, by simp, by simp, .inl ⟨rfl, rfl⟩⟩⟩
  rintro mm δ μ' C ⟨m', l', r', f', acc, l10, l13, l15, rfl, rfl, hrun, hle, rfl, hff⟩ hC
  have hcl : Cln 2 (.lst (r'.map kyD)) = true := List.all_eq_true.mpr fun z hz' => by
    obtain ⟨b, _, rfl⟩ := List.mem_map.mp hz'
    rfl
  have hq := cln_eq 2 1 (.lst (r'.map kyD)) (.lst []) hcl rfl
  simp
  refine ⟨cln_ok (n := 2) (m := 1) hcl rfl (by decide), ?_⟩
  cases r' with
  | nil =>
    have hd : dEq (.lst (([] : List Ky).map kyD)) (.lst []) = true := hq.mpr rfl
    simp at hd
    simp [hd]
    have er : runT bs m' l' [] = ([], m', l') := by rw [runT]
    rw [er] at hrun
    have e1 : (runT bs m l cl).1.map (evT t) = acc := by have := congrArg Prod.fst hrun; simpa using this
    have e2 : (runT bs m l cl).2 = (m', l') := congrArg Prod.snd hrun
    have := q f' (fun h => by rcases hff with ⟨h1, _⟩ | ⟨_, h2⟩; exact absurd h1.symm h; exact h2) (fun h => by rcases hff with ⟨_, h2⟩ | ⟨h1, _⟩; exact h2; exact absurd h h1)
    rw [e1, e2] at this
    refine ⟨by omega, ?_⟩
    simpa [sdD] using this
  | cons k r2 =>
    have hd : dEq (.lst ((k :: r2).map kyD)) (.lst []) = false := by
      cases hx : dEq (.lst ((k :: r2).map kyD)) (.lst []) with
      | false => rfl
      | true => have := hq.mp hx; simp at this
    simp at hd
    have a0 : atI (kyD k :: r2.map kyD) 0 = some (kyD k) := by simp [atI, ixN]
    have ec : dcut (kyD k :: r2.map kyD) (some 1) none = r2.map kyD := by
      have := dcut_from (kyD k :: r2.map kyD) 1
      exact this
    have hlc : (k :: r2).length = r2.length + 1 := rfl
    rw [hlc] at hle
    have hrl : (l' ++ [k]).length = l'.length + 1 := by simp
    simp [hd, a0, ec, ty_str]
    refine ⟨by omega, by omega, fun A hA => ?_⟩
    have el : l'.map kyD ++ [kyD k] = (l' ++ [k]).map kyD := by simp
    rw [el]
    refine m_word_at hA (by rw [hrl]; omega) ?_ ?_
    · intro k acc C hla hC
      simp [dwipe, kyD]
      exact ⟨hla, hC⟩
    refine ⟨_, texts_chars _, sum_kk _ (by rw [hrl]; omega), fun A2 hA2 => ?_⟩
    rw [join_kk, mdel_mset hA] at *
    refine comp_at hA2 (fun d => match d with
      | .tup [.str mo, .str ky, _, _] => if decide (mo = m') && (decide (ky.cps.toList.take (kk (l' ++ [k])).length = kk (l' ++ [k])) && !decide (ky = tx (kk (l' ++ [k])))) then some d else none
      | _ => none) _ (by simp; omega) ?_ ?_
    · intro d hd acc C hla hC
      obtain ⟨b, hb, rfl⟩ := List.mem_map.mp hd
      simp [dwipe, Bd.dv, bt0, bt1, ty_str] at hC ⊢
      refine ⟨okS, ?_⟩
      have est := starts_keys b (kk (l' ++ [k]))
      simp at est
      simp [eqS, est]
      by_cases c1 : b.mode = m'
      · by_cases c2 : b.keys.cps.toList.take (l'.length + 1) = kk l' ++ [k.1]
        · simp [c1, c2] at hC ⊢
          refine ⟨okS, ?_⟩
          by_cases c3 : b.keys = tx (kk l' ++ [k.1])
          · simp [c3] at hC ⊢
            exact hC
          · simp [c3] at hC ⊢
            exact ⟨hla, hC⟩
        · simp [c1, c2] at hC ⊢
          exact hC
      · simp [c1] at hC ⊢
        exact hC
    · have hfm : ∀ r : List Bd, (r.map Bd.dv).filterMap (fun d => match d with
        | .tup [.str mo, .str ky, _, _] => if decide (mo = m') && (decide (ky.cps.toList.take (kk (l' ++ [k])).length = kk (l' ++ [k])) && !decide (ky = tx (kk (l' ++ [k])))) then some d else none
        | _ => none) = (r.filter fun b => decide (b.mode = m') && (decide (b.keys.cps.toList.take (kk (l' ++ [k])).length = kk (l' ++ [k])) && !decide (b.keys = tx (kk (l' ++ [k]))))).map Bd.dv := fun r => by
        induction r with
        | nil => rfl
        | cons b r ih =>
          rw [List.map_cons, List.filterMap_cons, ih]
          simp only [Bd.dv]
          split
          · rename_i hh
            split at hh
            · cases hh
            · rename_i hc; rw [List.filter_cons_of_neg (by simpa using hc)]
          · rename_i x hh
            split at hh
            · rename_i hc; cases hh; rw [List.filter_cons_of_pos (by simpa using hc)]; rfl
            · cases hh
      rw [hfm, mdel_mset hA2]
      have hbg := begun_starts (bs := bs) m' (kk (l' ++ [k])) (by simp)
      generalize (bs.filter fun b => decide (b.mode = m') && (decide (b.keys.cps.toList.take (kk (l' ++ [k])).length = kk (l' ++ [k])) && !decide (b.keys = tx (kk (l' ++ [k]))))) = fl at hbg ⊢
      have hcl2 : Cln 2 (.lst (fl.map Bd.dv)) = true := List.all_eq_true.mpr fun z hz' => by
        obtain ⟨b, _, rfl⟩ := List.mem_map.mp hz'
        rfl
      have hq2 := cln_eq 2 1 (.lst (fl.map Bd.dv)) (.lst []) hcl2 rfl
      refine ⟨cln_ok (n := 2) (m := 1) hcl2 rfl (by decide), ?_⟩
      have hcne : cl ≠ [] := by
        rcases hff with ⟨h1, _⟩ | ⟨h1, _⟩
        · rw [← h1]; simp
        · exact h1
      have eml : es.map levD ++ acc.map levD = (es ++ acc).map levD := by simp
      rw [eml]
      cases fl with
      | cons b fl =>
        rw [if_neg (fun e => by have := hq2.mp e; simp at this)]
        have hbf : begun bs m' (kk (l' ++ [k])) = true := by rw [hbg]; rfl
        have er : runT bs m' l' (k :: r2) = runT bs m' (l' ++ [k]) r2 := by rw [runT, if_pos hbf]
        rw [er] at hrun
        refine hC _ _ _ ?_ ⟨m', l' ++ [k], r2, t, acc, _, _, _, rfl, rfl, hrun, by rw [hrl]; omega, rfl, .inr ⟨hcne, rfl⟩⟩
        rw [hrl, hlc]; omega
      | nil =>
        rw [if_pos (hq2.mpr rfl)]
        have hbf : ¬ begun bs m' (kk (l' ++ [k])) = true := by rw [hbg]; simp
        have er : runT bs m' l' (k :: r2) = ((((stepOf bs m' (tx (kk (l' ++ [k])))).1, (stepOf bs m' (tx (kk (l' ++ [k])))).2.1, (stepOf bs m' (tx (kk (l' ++ [k])))).2.2.1), typ (l' ++ [k]) (stepOf bs m' (tx (kk (l' ++ [k])))).2.2.1) :: (runT bs (stepOf bs m' (tx (kk (l' ++ [k])))).2.2.2 [] ((l' ++ [k]).drop (stepOf bs m' (tx (kk (l' ++ [k])))).2.2.1 ++ r2)).1, (runT bs (stepOf bs m' (tx (kk (l' ++ [k])))).2.2.2 [] ((l' ++ [k]).drop (stepOf bs m' (tx (kk (l' ++ [k])))).2.2.1 ++ r2)).2) := by
          rw [runT, if_neg hbf]
        rw [er] at hrun
        have hs1 := stepOf_size bs m' (tx (kk (l' ++ [k])))
        refine m_broken G m' (l' ++ [k]) t me (es ++ acc) (by simp) (by rw [hrl]; omega) (by simp; omega) (by rw [← eml]; exact mset_at) ?_
        generalize hst : stepOf bs m' (tx (kk (l' ++ [k]))) = st at hrun hs1 ⊢
        have hdl : ((l' ++ [k]).drop st.2.2.1).length = l'.length + 1 - st.2.2.1 := by rw [List.length_drop, hrl]
        have key := hC (((([] : List Ky).length + ((l' ++ [k]).drop st.2.2.1 ++ r2).length) * 2001) + ((l' ++ [k]).drop st.2.2.1 ++ r2).length) [some (partsD ms wt bs), some (sdD m l f), some (.lst (cl.map kyD)), some (.int t), some (.ref me), some (.tup (bs.map Bd.dv)), some (.str st.2.2.2), some (.lst (([] : List Ky).map kyD)), some (.int t), some (.lst (((l' ++ [k]).drop st.2.2.1 ++ r2).map kyD)), some (.str (tx (kk (l' ++ [k])))), none, none, some (.lst (([] : List Bd).map Bd.dv)), none, some (.lst (((l' ++ [k]).drop st.2.2.1).map kyD))]
          (mset μ me (.lst ((es ++ (acc ++ [evT t ((st.1, st.2.1, st.2.2.1), typ (l' ++ [k]) st.2.2.1)])).map levD))) ?_ ⟨st.2.2.2, [], (l' ++ [k]).drop st.2.2.1 ++ r2, t, acc ++ [evT t ((st.1, st.2.1, st.2.2.1), typ (l' ++ [k]) st.2.2.1)], _, _, _, rfl, rfl, ?_, ?_, rfl, .inr ⟨hcne, rfl⟩⟩
        · have hfin : l'.length + 1 - st.2.2.1 + r2.length ≤ sizeLine := by omega
          simpa [hfin] using key
        · rw [List.length_append, hdl, hlc]
          simp
          omega
        · rw [hrun]; simp
        · rw [List.length_append, List.length_append, hdl]
          simp
          omega
end
end Lw

set_option Elab.async false
set_option linter.all false
set_option maxRecDepth 100000
namespace Lw
open PySem L2 Wl
/-- the state behind all waits that pass up to a tick; None: all -/
def limO : Option Int → Int → Bool
  | none => fun _ => true
  | some t => fun x => decide (x ≤ t)
def optI : Option Int → Dv
  | none => .non
  | some t => .int t
theorem lpT_evs (bs : List Bd) (wt : Int) (lim : Int → Bool) (s : TSta) : (lpT bs wt lim s).2.2.2.length + (lpT bs wt lim s).2.1.length ≤ s.2.2.2.length + s.2.1.length := by
  induction s using lpT.induct bs wt lim with
  | case1 s h ih =>
    rw [lpT, dif_pos h]
    have h2 := brkT_steps bs s.1 s.2.1 h.1
    have e1 : (brkS bs (s.2.2.1 + wt) s).2.1 = (brkT bs s.1 s.2.1).2.2 := rfl
    have e2 : (brkS bs (s.2.2.1 + wt) s).2.2.2.length = s.2.2.2.length + (brkT bs s.1 s.2.1).1.length := by simp [brkS]
    rw [e1, e2] at ih
    omega
  | case2 s h => rw [lpT, dif_neg h]; exact Nat.le_refl _
theorem pshT_evs (bs : List Bd) (wt : Int) (s : TSta) (p : Int × Nat) : (pshT bs wt s p).2.2.2.length + (pshT bs wt s p).2.1.length ≤ s.2.2.2.length + s.2.1.length + 1 := by
  have h1 := lpT_evs bs wt (fun x => decide (x ≤ p.1)) s
  unfold pshT feedS
  generalize lpT bs wt (fun x => decide (x ≤ p.1)) s = a at h1 ⊢
  have h2 := runT_len bs a.1 a.2.1 [(p.2, p.1)]
  simp at h2 ⊢
  omega
theorem hapT_len (bs : List Bd) (wt : Int) (m0 : Str) (ss : List (Int × Nat)) : (hapT bs wt m0 ss).length ≤ ss.length := by
  have main : ∀ (ss : List (Int × Nat)) (s : TSta), (ss.foldl (pshT bs wt) s).2.2.2.length + (ss.foldl (pshT bs wt) s).2.1.length ≤ s.2.2.2.length + s.2.1.length + ss.length := by
    intro ss
    induction ss with
    | nil => intro s; exact Nat.le_refl _
    | cons p ss ih =>
      intro s
      have h1 := ih (pshT bs wt s p)
      have h2 := pshT_evs bs wt s p
      simp only [List.foldl_cons, List.length_cons]
      omega
  have h1 := main ss (startT m0)
  have h2 := lpT_evs bs wt (fun _ => true) (ss.foldl (pshT bs wt) (startT m0))
  unfold hapT
  have e1 : (startT m0).2.2.2.length = 0 := rfl
  have e2 : (startT m0).2.1.length = 0 := rfl
  omega
def isCmdT (e : TEv) : Bool := isCmd e.1
theorem fold_evs (bs : List Bd) (wt : Int) : ∀ (ss : List (Int × Nat)) (s : TSta), (ss.foldl (pshT bs wt) s).2.2.2.length + (ss.foldl (pshT bs wt) s).2.1.length ≤ s.2.2.2.length + s.2.1.length + ss.length := by
  intro ss
  induction ss with
  | nil => intro s; exact Nat.le_refl _
  | cons p ss ih =>
    intro s
    have h1 := ih (pshT bs wt s p)
    have h2 := pshT_evs bs wt s p
    simp only [List.foldl_cons, List.length_cons]
    omega
end Lw

set_option Elab.async false
set_option linter.all false
set_option maxRecDepth 100000
namespace Lw
open PySem L2 Wl
/-- the state of the law's player: its ticks matter only while keys wait -/
structure StOk (d : Dv) (s : TSta) : Prop where
  eq : ∃ f, (s.2.1 ≠ [] → f = s.2.2.1) ∧ d = sdD s.1 s.2.1 f
section
variable {P : Program} {w : World} {c : Cs} {μ : Mu} {Q : DV} {E : DX}
theorem mset_self {me : Addr} {m : Mo} (h : μ me = some m) : mset μ me m = μ := by
  funext b
  unfold mset
  by_cases e : b = me
  · rw [if_pos e, e, h]
  · rw [if_neg e]
theorem m_passed {ms : List Str} {wt : Int} {bs : List Bd} (G : Good bs) (d : Dv) (s : TSta) (o : Option Int) (me : Addr) (hd : StOk d s) (hl : s.2.1.length ≤ 100) (he : s.2.2.2.length + s.2.1.length ≤ 2000) (hme : μ me = some (.lst (s.2.2.2.map levD)))
    (q : ∀ d', StOk d' (lpT bs wt (limO o) s) → Q d' (mset μ me (.lst ((lpT bs wt (limO o) s).2.2.2.map levD)))) : sp_law_passed P w c [partsD ms wt bs, d, optI o, .ref me] μ Q E := by
  have hz : 20000 < sizeLine := by decide
  have p2 : ∀ {μ : Mu} {Q : DV}, gIx (partsD ms wt bs) (.int 2) μ Q ↔ Q (.tup (bs.map Bd.dv)) μ := fun {μ} {Q} => by simp [partsD, at2]
  have p1 : ∀ {μ : Mu} {Q : DV}, gIx (partsD ms wt bs) (.int 1) μ Q ↔ Q (.int wt) μ := fun {μ} {Q} => by simp [partsD, at1]
  simp [sp_law_passed, T_law_passed, N_law_passed, dstart]
  refine ⟨s.2.1.length + 1, while_inv (fun mm δ μ' => ∃ (d' : Dv) (l4 l5 l6 : Option Dv) (s' : TSta), δ = [some (partsD ms wt bs), some d', some (optI o), some (.ref me), l4, l5, l6] ∧ StOk d' s' ∧ μ' = mset μ me (.lst (s'.2.2.2.map levD)) ∧ lpT bs wt (limO o) s' = lpT bs wt (limO o) s ∧ s'.2.2.2.length + s'.2.1.length ≤ 2000 ∧ s'.2.1.length ≤ 100 ∧ mm = s'.2.1.length) ?_ _ _ (Nat.lt_succ_self _) ⟨d, none, none, none, s, rfl, hd, (mset_self hme).symm, rfl, he, hl, rfl⟩⟩
  rintro mm δ μ' C ⟨d', l4, l5, l6, s', rfl, hd', rfl, e1, e2, e3, rfl⟩ hC
  obtain ⟨f, hf, rfl⟩ := hd'.eq
  have hcl : Cln 2 (.lst (s'.2.1.map kyD)) = true := List.all_eq_true.mpr fun z hz' => by
    obtain ⟨b, _, rfl⟩ := List.mem_map.mp hz'
    rfl
  have hq := cln_eq 2 1 (.lst (s'.2.1.map kyD)) (.lst []) hcl rfl
  have s0 : ∀ {μ : Mu} {Q : DV}, gIx (sdD s'.1 s'.2.1 f) (.int 0) μ Q ↔ Q (.str s'.1) μ := fun {μ} {Q} => by simp [sdD, at0]
  have s1 : ∀ {μ : Mu} {Q : DV}, gIx (sdD s'.1 s'.2.1 f) (.int 1) μ Q ↔ Q (.lst (s'.2.1.map kyD)) μ := fun {μ} {Q} => by simp [sdD, at1]
  have s2 : ∀ {μ : Mu} {Q : DV}, gIx (sdD s'.1 s'.2.1 f) (.int 2) μ Q ↔ Q (.int f) μ := fun {μ} {Q} => by simp [sdD, at2]
  simp [s0, s1, s2, p1, p2]
  refine ⟨cln_ok (n := 2) (m := 1) hcl rfl (by decide), ?_⟩
  by_cases hn : s'.2.1 = []
  · have hdd : dEq (.lst (s'.2.1.map kyD)) (.lst []) = true := hq.mpr (by rw [hn]; rfl)
    rw [if_pos hdd]
    have : lpT bs wt (limO o) s' = s' := by rw [lpT, dif_neg (fun q => q.1 hn)]
    rw [this] at e1
    have := q (sdD s'.1 s'.2.1 f) (e1 ▸ hd')
    rw [← e1] at this
    exact this
  · have hdd : dEq (.lst (s'.2.1.map kyD)) (.lst []) = false := by
      cases hx : dEq (.lst (s'.2.1.map kyD)) (.lst []) with
      | false => rfl
      | true => exact absurd (by have := hq.mp hx; simpa using this) hn
    rw [if_neg (by rw [hdd]; simp)]
    have hff := hf hn
    subst hff
    cases o with
    | none =>
      have hlim : limO none (s'.2.2.1 + wt) = true := rfl
      simp [optI, isNo]
      refine m_broken G s'.1 s'.2.1 (s'.2.2.1 + wt) me s'.2.2.2 hn (by omega) (by omega) mset_at ?_
      have hsz := stepOf_le bs s'.1 (kk s'.2.1) (by simp; exact List.length_pos_iff.mpr hn)
      have hs1 := stepOf_size bs s'.1 (tx (kk s'.2.1))
      have k3 : lpT bs wt (limO none) s' = lpT bs wt (limO none) (brkS bs (s'.2.2.1 + wt) s') := by rw [lpT, dif_pos ⟨hn, hlim⟩]
      have hbl := brkT_len bs s'.1 s'.2.1 hn
      have hbs := brkT_steps bs s'.1 s'.2.1 hn
      have kb : brkT bs s'.1 s'.2.1 = ((((stepOf bs s'.1 (tx (kk s'.2.1))).1, (stepOf bs s'.1 (tx (kk s'.2.1))).2.1, (stepOf bs s'.1 (tx (kk s'.2.1))).2.2.1), typ s'.2.1 (stepOf bs s'.1 (tx (kk s'.2.1))).2.2.1) :: (runT bs (stepOf bs s'.1 (tx (kk s'.2.1))).2.2.2 [] (s'.2.1.drop (stepOf bs s'.1 (tx (kk s'.2.1))).2.2.1)).1, (runT bs (stepOf bs s'.1 (tx (kk s'.2.1))).2.2.2 [] (s'.2.1.drop (stepOf bs s'.1 (tx (kk s'.2.1))).2.2.1)).2) := rfl
      generalize hst : stepOf bs s'.1 (tx (kk s'.2.1)) = st at hsz hs1 kb ⊢
      rw [kk_length] at hsz
      rw [mset_mset]
      simp
      refine ⟨by omega, ?_⟩
      have e0 : Dv.tup [.str st.2.2.2, .lst [], .int (s'.2.2.1 + wt)] = sdD st.2.2.2 [] (s'.2.2.1 + wt) := rfl
      rw [e0, ← List.map_drop]
      have eml : s'.2.2.2.map levD ++ [levD (evT (s'.2.2.1 + wt) ((st.1, st.2.1, st.2.2.1), typ s'.2.1 st.2.2.1))] = (s'.2.2.2 ++ [evT (s'.2.2.1 + wt) ((st.1, st.2.1, st.2.2.1), typ s'.2.1 st.2.2.1)]).map levD := by simp
      rw [eml]
      refine m_grown G st.2.2.2 [] (s'.2.1.drop st.2.2.1) (s'.2.2.1 + wt) (s'.2.2.1 + wt) me _ (by simp; omega) (by simp; omega) mset_at fun f' hf1 hf2 => ?_
      have hf' : f' = s'.2.2.1 + wt := by
        by_cases hx : s'.2.1.drop st.2.2.1 = []
        · exact hf2 hx
        · exact hf1 hx
      subst hf'
      rw [mset_mset]
      have k1 : (brkS bs (s'.2.2.1 + wt) s').2.1.length = (brkT bs s'.1 s'.2.1).2.2.length := rfl
      have k2 : (brkS bs (s'.2.2.1 + wt) s').2.2.2.length = s'.2.2.2.length + (brkT bs s'.1 s'.2.1).1.length := by simp [brkS]
      refine hC (brkS bs (s'.2.2.1 + wt) s').2.1.length _ _ (by rw [k1]; exact hbl) ⟨_, _, _, _, brkS bs (s'.2.2.1 + wt) s', rfl, ⟨⟨_, fun _ => rfl, ?_⟩⟩, ?_, by rw [← k3]; exact e1, by omega, by omega, rfl⟩
      · unfold brkS; rw [kb]
      · unfold brkS; rw [kb]; simp
    | some t =>
      simp [optI, isNo]
      by_cases ht : s'.2.2.1 + wt ≤ t
      · rw [if_pos ht]
        have hlim : limO (some t) (s'.2.2.1 + wt) = true := by simpa [limO] using ht
        refine m_broken G s'.1 s'.2.1 (s'.2.2.1 + wt) me s'.2.2.2 hn (by omega) (by omega) mset_at ?_
        have hsz := stepOf_le bs s'.1 (kk s'.2.1) (by simp; exact List.length_pos_iff.mpr hn)
        have hs1 := stepOf_size bs s'.1 (tx (kk s'.2.1))
        have k3 : lpT bs wt (limO (some t)) s' = lpT bs wt (limO (some t)) (brkS bs (s'.2.2.1 + wt) s') := by rw [lpT, dif_pos ⟨hn, hlim⟩]
        have hbl := brkT_len bs s'.1 s'.2.1 hn
        have hbs := brkT_steps bs s'.1 s'.2.1 hn
        have kb : brkT bs s'.1 s'.2.1 = ((((stepOf bs s'.1 (tx (kk s'.2.1))).1, (stepOf bs s'.1 (tx (kk s'.2.1))).2.1, (stepOf bs s'.1 (tx (kk s'.2.1))).2.2.1), typ s'.2.1 (stepOf bs s'.1 (tx (kk s'.2.1))).2.2.1) :: (runT bs (stepOf bs s'.1 (tx (kk s'.2.1))).2.2.2 [] (s'.2.1.drop (stepOf bs s'.1 (tx (kk s'.2.1))).2.2.1)).1, (runT bs (stepOf bs s'.1 (tx (kk s'.2.1))).2.2.2 [] (s'.2.1.drop (stepOf bs s'.1 (tx (kk s'.2.1))).2.2.1)).2) := rfl
        generalize hst : stepOf bs s'.1 (tx (kk s'.2.1)) = st at hsz hs1 kb ⊢
        rw [kk_length] at hsz
        rw [mset_mset]
        simp
        refine ⟨by omega, ?_⟩
        have e0 : Dv.tup [.str st.2.2.2, .lst [], .int (s'.2.2.1 + wt)] = sdD st.2.2.2 [] (s'.2.2.1 + wt) := rfl
        rw [e0, ← List.map_drop]
        have eml : s'.2.2.2.map levD ++ [levD (evT (s'.2.2.1 + wt) ((st.1, st.2.1, st.2.2.1), typ s'.2.1 st.2.2.1))] = (s'.2.2.2 ++ [evT (s'.2.2.1 + wt) ((st.1, st.2.1, st.2.2.1), typ s'.2.1 st.2.2.1)]).map levD := by simp
        rw [eml]
        refine m_grown G st.2.2.2 [] (s'.2.1.drop st.2.2.1) (s'.2.2.1 + wt) (s'.2.2.1 + wt) me _ (by simp; omega) (by simp; omega) mset_at fun f' hf1 hf2 => ?_
        have hf' : f' = s'.2.2.1 + wt := by
          by_cases hx : s'.2.1.drop st.2.2.1 = []
          · exact hf2 hx
          · exact hf1 hx
        subst hf'
        rw [mset_mset]
        have k1 : (brkS bs (s'.2.2.1 + wt) s').2.1.length = (brkT bs s'.1 s'.2.1).2.2.length := rfl
        have k2 : (brkS bs (s'.2.2.1 + wt) s').2.2.2.length = s'.2.2.2.length + (brkT bs s'.1 s'.2.1).1.length := by simp [brkS]
        refine hC (brkS bs (s'.2.2.1 + wt) s').2.1.length _ _ (by rw [k1]; exact hbl) ⟨_, _, _, _, brkS bs (s'.2.2.1 + wt) s', rfl, ⟨⟨_, fun _ => rfl, ?_⟩⟩, ?_, by rw [← k3]; exact e1, by omega, by omega, rfl⟩
        · unfold brkS; rw [kb]
        · unfold brkS; rw [kb]; simp
      · rw [if_neg ht]
        have : lpT bs wt (limO (some t)) s' = s' := by rw [lpT, dif_neg (fun q => ht (by simpa [limO] using q.2))]
        rw [this] at e1
        have := q (sdD s'.1 s'.2.1 s'.2.2.1) (e1 ▸ hd')
        rw [← e1] at this
        exact this
end
end Lw

set_option Elab.async false
set_option linter.all false
set_option maxRecDepth 100000
namespace Wl
open PySem L2
section
variable {μ : Mu} {Q : DV} {b : Bool}
theorem k_tl : kitB "tuple" "list" = some false := by decide +kernel
theorem k_lt : kitB "list" "tuple" = some false := by decide +kernel
theorem k_it : kitB "int" "tuple" = some false := by decide +kernel
theorem k_il : kitB "int" "list" = some false := by decide +kernel
theorem k_st : kitB "str" "tuple" = some false := by decide +kernel
theorem k_sl : kitB "str" "list" = some false := by decide +kernel
theorem k_is : kitB "int" "str" = some false := by decide +kernel
theorem k_si : kitB "str" "int" = some false := by decide +kernel
theorem k_sb : kitB "str" "bool" = some false := by decide +kernel
theorem ne_b : gNe (.bl b) (.bl b) μ Q ↔ Q (.bl false) μ := by
  have h : eqOk (.bl b) (.bl b) := ⟨rfl, rfl, by cases b <;> decide⟩
  have h2 : dEq (.bl b) (.bl b) = true := by cases b <;> rfl
  rw [ne_, h2]
  exact ⟨fun q => q.2, fun q => ⟨h, q⟩⟩
end
end Wl
namespace Lw
open PySem L2 Wl
/-- plain data at most n deep, no long rows -/
def Sml : Nat → Dv → Bool
  | _, .int _ => true
  | _, .str _ => true
  | n + 1, .tup xs => decide (xs.length ≤ 2000) && xs.all (Sml n)
  | n + 1, .lst xs => decide (xs.length ≤ 2000) && xs.all (Sml n)
  | _, _ => false
theorem all_imp {p q : Dv → Bool} (h : ∀ d, p d = true → q d = true) (xs : List Dv) (e : xs.all p = true) : xs.all q = true :=
  List.all_eq_true.mpr fun d hd => h d (List.all_eq_true.mp e d hd)
theorem sml_cln : ∀ (n : Nat) (d : Dv), Sml n d = true → Cln n d = true := by
  intro n
  induction n with
  | zero => intro d h; cases d <;> first | rfl | cases h
  | succ n ih =>
    intro d h
    cases d <;> first | rfl | (cases h; done) | skip
    all_goals
      simp only [Sml, Bool.and_eq_true] at h
      exact all_imp ih _ h.2
section
variable {P : Program} {w : World} {c : Cs} {μ : Mu} {Q : DV} {E : DX}
theorem okB {b : Bool} : eqOk (.bl b) (.bl b) := ⟨rfl, rfl, by cases b <;> decide⟩
theorem deqB {b : Bool} : dEq (.bl b) (.bl b) = true := by cases b <;> rfl
theorem okI {i j : Int} : eqOk (.int i) (.int j) := cln_ok (n := 0) (m := 0) rfl rfl (by decide)
theorem deqI {i : Int} : dEq (.int i) (.int i) = true := (cln_eq 0 0 (.int i) (.int i) rfl rfl).mpr rfl
theorem m_like_i (i : Int) (k : Nat) (q : Q (.bl true) μ) : spn_law_like P w c (k + 1) 0 [.int i, .int i] μ Q E := by
  have hs := (cln_eq 0 0 (.int i) (.int i) rfl rfl).mpr rfl
  simp [spn_law_like, T_law_like, N_law_like, dstart, tyName, k_it, k_il, k_is, ne_b, hs, okB, deqB, okI]
  exact q
theorem m_like_s (i : Str) (k : Nat) (q : Q (.bl true) μ) : spn_law_like P w c (k + 1) 0 [.str i, .str i] μ Q E := by
  have hs := (cln_eq 0 0 (.str i) (.str i) rfl rfl).mpr rfl
  simp [spn_law_like, T_law_like, N_law_like, dstart, tyName, k_st, k_sl, k_si, k_sb, ne_b, hs, okB, deqB]
  exact ⟨okS, q⟩
theorem m_like_t (xs : List Dv) (k : Nat) (hl : xs.length ≤ 2000) (ih : ∀ x ∈ xs, ∀ {μ : Mu} {Q : DV} {E : DX}, Q (.bl true) μ → spn_law_like P w c k 0 [x, x] μ Q E) (q : Q (.bl true) μ) : spn_law_like P w c (k + 1) 0 [.tup xs, .tup xs] μ Q E := by
  have hz : 20000 < sizeLine := by decide
  simp [spn_law_like, T_law_like, N_law_like, dstart, tyName, k_tl, ne_b, okB, deqB, okI, deqI]
  refine ⟨by omega, ?_⟩
  refine comp_pure (fun acc μ2 => eqOk (.lst acc) (.lst []) ∧ Q (.bl (dEq (.lst acc) (.lst []))) μ2) (fun _ => none) _ (by simp [irange]; omega) ?_ ?_
  · intro d hd A acc C hA hla hC
    obtain ⟨i, hi, rfl⟩ : ∃ i : Nat, i < xs.length ∧ d = .int (i : Int) := by
      unfold irange at hd
      obtain ⟨i, h1, rfl⟩ := List.mem_map.mp hd
      exact ⟨i, by simpa using h1, by simp⟩
    have ea : atI xs (i : Int) = some xs[i] := by
      unfold atI ixN
      rw [if_pos (by omega), if_pos (by simpa using hi)]
      simp [hi]
    simp [dwipe, ea]
    refine ih _ (List.getElem_mem _) ?_
    simpa using hC
  · have e : (irange 0 xs.length).filterMap (fun _ => (none : Option Dv)) = [] := by
      induction (irange 0 xs.length) with
      | nil => rfl
      | cons y ys ih => simp
    rw [e]
    have h1 := cln_eq 1 1 (.lst []) (.lst []) rfl rfl
    rw [h1.mpr rfl]
    exact ⟨cln_ok (n := 1) (m := 1) rfl rfl (by decide), q⟩
theorem m_like_l (xs : List Dv) (k : Nat) (hl : xs.length ≤ 2000) (ih : ∀ x ∈ xs, ∀ {μ : Mu} {Q : DV} {E : DX}, Q (.bl true) μ → spn_law_like P w c k 0 [x, x] μ Q E) (q : Q (.bl true) μ) : spn_law_like P w c (k + 1) 0 [.lst xs, .lst xs] μ Q E := by
  have hz : 20000 < sizeLine := by decide
  simp [spn_law_like, T_law_like, N_law_like, dstart, tyName, k_lt, ne_b, okB, deqB, okI, deqI]
  refine ⟨by omega, ?_⟩
  refine comp_pure (fun acc μ2 => eqOk (.lst acc) (.lst []) ∧ Q (.bl (dEq (.lst acc) (.lst []))) μ2) (fun _ => none) _ (by simp [irange]; omega) ?_ ?_
  · intro d hd A acc C hA hla hC
    obtain ⟨i, hi, rfl⟩ : ∃ i : Nat, i < xs.length ∧ d = .int (i : Int) := by
      unfold irange at hd
      obtain ⟨i, h1, rfl⟩ := List.mem_map.mp hd
      exact ⟨i, by simpa using h1, by simp⟩
    have ea : atI xs (i : Int) = some xs[i] := by
      unfold atI ixN
      rw [if_pos (by omega), if_pos (by simpa using hi)]
      simp [hi]
    simp [dwipe, ea]
    refine ih _ (List.getElem_mem _) ?_
    simpa using hC
  · have e : (irange 0 xs.length).filterMap (fun _ => (none : Option Dv)) = [] := by
      induction (irange 0 xs.length) with
      | nil => rfl
      | cons y ys ih => simp
    rw [e]
    have h1 := cln_eq 1 1 (.lst []) (.lst []) rfl rfl
    rw [h1.mpr rfl]
    exact ⟨cln_ok (n := 1) (m := 1) rfl rfl (by decide), q⟩
theorem m_like : ∀ (n : Nat) (x : Dv) (k : Nat), Sml n x = true → n < k → ∀ {μ : Mu} {Q : DV} {E : DX}, Q (.bl true) μ → spn_law_like P w c k 0 [x, x] μ Q E := by
  intro n
  induction n with
  | zero =>
    intro x k hx hk μ Q E q
    obtain ⟨k, rfl⟩ : ∃ j, k = j + 1 := ⟨k - 1, by omega⟩
    cases x <;> first | (cases hx; done) | skip
    · exact m_like_i _ k q
    · exact m_like_s _ k q
  | succ n ih =>
    intro x k hx hk μ Q E q
    obtain ⟨k, rfl⟩ : ∃ j, k = j + 1 := ⟨k - 1, by omega⟩
    cases x <;> first | (cases hx; done) | skip
    · exact m_like_i _ k q
    · exact m_like_s _ k q
    · simp only [Sml, Bool.and_eq_true, decide_eq_true_eq] at hx
      exact m_like_t _ k hx.1 (fun x hm => ih x k (List.all_eq_true.mp hx.2 x hm) (by omega)) q
    · simp only [Sml, Bool.and_eq_true, decide_eq_true_eq] at hx
      exact m_like_l _ k hx.1 (fun x hm => ih x k (List.all_eq_true.mp hx.2 x hm) (by omega)) q
end
end Lw

set_option Elab.async false
set_option linter.all false
set_option maxRecDepth 100000
namespace Wl
open PySem L2
section
variable {δ : DSt} {μ : Mu} {Q : DV} {D : DEnds} {a : Addr} {d : Dv}
/-- what is walked, with its guard -/
def wan (x : Dv) (μ1 : Mu) (Q : List Dv → (Mu → Prop) → Mu → Prop) : Prop := match x with
  | .tup xs => Q xs (fun _ => True) μ1
  | .rot xs => Q xs (fun _ => True) μ1
  | .lst xs => Q xs (fun _ => True) μ1
  | .rol xs => Q xs (fun _ => True) μ1
  | .ref a => ∃ xs, μ1 a = some (.lst xs) ∧ Q xs (fun μ => μ a = some (.lst xs)) μ1
  | _ => False
@[simp] theorem wan_tup {xs : List Dv} {Q : List Dv → (Mu → Prop) → Mu → Prop} : wan (.tup xs) μ Q ↔ Q xs (fun _ => True) μ := Iff.rfl
@[simp] theorem wan_lst {xs : List Dv} {Q : List Dv → (Mu → Prop) → Mu → Prop} : wan (.lst xs) μ Q ↔ Q xs (fun _ => True) μ := Iff.rfl
@[simp] theorem wan_ref {Q : List Dv → (Mu → Prop) → Mu → Prop} : wan (.ref a) μ Q ↔ ∃ xs, μ a = some (.lst xs) ∧ Q xs (fun μ => μ a = some (.lst xs)) μ := Iff.rfl
@[simp] theorem w_Any {t : DE} {Q : List Dv → (Mu → Prop) → Mu → Prop} : wAny t δ μ Q ↔ t δ μ fun x μ1 => wan x μ1 Q := Iff.rfl
@[simp] theorem la_lst {xs : List Dv} {Q : List Dv → (Mu → Prop) → Prop} : lstAt μ (.lst xs) Q ↔ Q xs (fun _ => True) := Iff.rfl
@[simp] theorem la_ref {Q : List Dv → (Mu → Prop) → Prop} : lstAt μ (.ref a) Q ↔ ∃ xs, μ a = some (.lst xs) ∧ Q xs (fun μ => μ a = some (.lst xs)) := Iff.rfl
@[simp] theorem w_Zip {t u : DE} {Q : List Dv → (Mu → Prop) → Mu → Prop} : wZip (vCons t (vCons u vNil)) δ μ Q ↔ t δ μ fun x μ1 => u δ μ1 fun y μ2 => lstAt μ2 x fun as g => lstAt μ2 y fun bs h => Q (pairsD as bs) (fun μ => g μ ∧ h μ) μ2 := Iff.rfl
@[simp] theorem s_ForG {wi : DIG} {g : DG} {tb : DS} : sForG wi g tb D δ μ ↔ wi δ μ fun ds G μ1 => sLoopG G g tb ds D δ μ1 := Iff.rfl
@[simp] theorem e_CompG {vs : List Nat} {wi : DIG} {g : DG} {tt : DT} {te : DE} : vCompG vs wi g tt te δ μ Q ↔ wi δ μ fun ds G μ1 => ∀ A, μ1 A = none → vLoopG G vs g tt te δ A ds (mset μ1 A (.lst [])) fun acc μ2 => Q (.lst acc) (mdel μ2 A) := Iff.rfl
@[simp] theorem e_CompGM {vs : List Nat} {wi : DIG} {g : DG} {tt : DT} {te : DE} : vCompGM vs wi g tt te δ μ Q ↔ wi δ μ fun ds G μ1 => ∀ A, μ1 A = none → vLoopG G vs g tt te δ A ds (mset μ1 A (.lst [])) fun _ μ2 => Q (.ref A) μ2 := Iff.rfl
def lsr (x : Dv) (μ : Mu) (Q : DV) : Prop := match x with | .int n => RgOk 0 n ∧ Q (.lst (irange 0 (n - 0).toNat)) μ | _ => False
@[simp] theorem lsr_int {n : Int} : lsr (.int n) μ Q ↔ RgOk 0 n ∧ Q (.lst (irange 0 (n - 0).toNat)) μ := Iff.rfl
@[simp] theorem e_ListR {t : DE} : vListR t δ μ Q ↔ t δ μ fun x μ1 => lsr x μ1 Q := Iff.rfl
def lsr2 (x y : Dv) (μ : Mu) (Q : DV) : Prop := match x, y with | .int a, .int n => RgOk a n ∧ Q (.lst (irange a (n - a).toNat)) μ | _, _ => False
@[simp] theorem lsr2_int {a n : Int} : lsr2 (.int a) (.int n) μ Q ↔ RgOk a n ∧ Q (.lst (irange a (n - a).toNat)) μ := Iff.rfl
@[simp] theorem e_ListR2 {t u : DE} : vListR2 t u δ μ Q ↔ t δ μ fun x μ1 => u δ μ1 fun y μ2 => lsr2 x y μ2 Q := Iff.rfl
@[simp] theorem e_RevL {t : DE} : vRevL t δ μ Q ↔ t δ μ fun x μ1 => lstAt μ1 x fun xs _ => Q (.lst xs.reverse) μ1 := Iff.rfl
end
section
variable {μ : Mu} {Q : DV} {a : Addr} {x y : Dv}
@[simp] theorem o_inX {u z : Str} : gInX (.str u) (.str z) μ Q ↔ Q (.bl (!(Builtin.Str.occurrences z u 0 z.length 1).isEmpty)) μ := Iff.rfl
@[simp] theorem pl_lst {xs : List Dv} : plst μ (.lst xs) = some xs := rfl
theorem pl_ref {xs : List Dv} (h : μ a = some (.lst xs)) : plst μ (.ref a) = some xs := by simp only [plst, h]
@[simp] theorem o_catM : gCatM x y μ Q ↔ ∃ xs ys, plst μ x = some xs ∧ plst μ y = some ys ∧ xs.length + ys.length ≤ sizeLine ∧ Q (.lst (xs ++ ys)) μ := Iff.rfl
@[simp] theorem o_sortIM : gSortIM [x] μ Q ↔ ∃ ns : List Int, plst μ x = some (ns.map Dv.int) ∧ ∀ ns' : List Int, ns'.Perm ns → ns'.Pairwise (· ≤ ·) → Q (.lst (ns'.map Dv.int)) μ := Iff.rfl
end
/-- a for loop under a guard, by an invariant -/
theorem loopG_inv {G : Mu → Prop} {g : DG} {tb : DS} {D : DEnds} : ∀ (ds : List Dv) (Iv : Nat → DSt → Mu → Prop) (n : Nat) {δ : DSt} {μ : Mu}, Iv n δ μ → (∀ i δ μ, Iv i δ μ → G μ) →
    (∀ i d δ μ (C : DSt → Mu → Prop), ds[i]? = some d → Iv (n + i) δ μ → (∀ δ' μ', Iv (n + i + 1) δ' μ' → C δ' μ') → g d δ μ fun δ1 μ1 => tb { nx := C, ct := C, bk := D.nx, rt := D.rt } δ1 μ1) →
    (∀ δ μ, Iv (n + ds.length) δ μ → D.nx δ μ) → sLoopG G g tb ds D δ μ
  | [], Iv, n, δ, μ, h0, hG, _, he => ⟨hG _ _ _ h0, he δ μ h0⟩
  | d :: ds, Iv, n, δ, μ, h0, hG, hs, he => ⟨hG _ _ _ h0, hs 0 d δ μ (sLoopG G g tb ds D) rfl h0 fun δ' μ' h => loopG_inv ds Iv (n + 1) h hG
      (fun i d' δ2 μ2 C hd hi hc => hs (i + 1) d' δ2 μ2 C hd (by rw [show n + (i + 1) = n + 1 + i by omega]; exact hi) (fun δ3 μ3 h3 => hc δ3 μ3 (by rw [show n + 1 + i + 1 = n + (i + 1) + 1 by omega]; exact h3)))
      (fun δ2 μ2 h2 => he δ2 μ2 (by rw [List.length_cons, show n + (ds.length + 1) = n + 1 + ds.length by omega]; exact h2))⟩
/-- a comprehension that changes nothing, under a guard -/
theorem compG_at {G : Mu → Prop} {vs : List Nat} {g : DG} {tt : DT} {te : DE} {δ : DSt} {μ : Mu} {A : Addr} {Qk : List Dv → Mu → Prop} (hA : μ A = none) (f : Dv → Option Dv) (ds : List Dv) (hl : ds.length ≤ sizeLine) (hG : ∀ acc, G (mset μ A (.lst acc)))
    (hb : ∀ d ∈ ds, ∀ (acc : List Dv) (C : Mu → Prop), acc.length < sizeLine → C (mset μ A (.lst (acc ++ (f d).toList))) →
      g d (dwipe δ vs) (mset μ A (.lst acc)) fun δ1 μ1 => tt δ1 μ1 fun b μ2 => if b = true then te δ1 μ2 fun y μ3 => ∃ acc, μ3 A = some (.lst acc) ∧ acc.length < sizeLine ∧ C (mset μ3 A (.lst (acc ++ [y]))) else C μ2)
    (q : Qk (ds.filterMap f) (mset μ A (.lst (ds.filterMap f)))) : vLoopG G vs g tt te δ A ds (mset μ A (.lst [])) Qk := by
  have main : ∀ (xs acc : List Dv), (∀ d ∈ xs, d ∈ ds) → acc.length + xs.length ≤ sizeLine → acc ++ xs.filterMap f = ds.filterMap f → vLoopG G vs g tt te δ A xs (mset μ A (.lst acc)) Qk := by
    intro xs
    induction xs with
    | nil =>
      intro acc _ _ e
      have e' : acc = ds.filterMap f := by simpa using e
      exact ⟨hG _, acc, mset_at, by rw [e']; exact q⟩
    | cons x xs ih =>
      intro acc hm hle e
      rw [List.length_cons] at hle
      refine ⟨hG _, hb x (hm x List.mem_cons_self) acc _ (by omega) (ih _ (fun d hd => hm d (List.mem_cons_of_mem _ hd)) ?_ ?_)⟩
      · rw [List.length_append]
        have : (f x).toList.length ≤ 1 := by cases f x <;> simp
        omega
      · rw [← e, List.append_assoc]
        congr 1
        cases h : f x with
        | none => simp [List.filterMap_cons, h]
        | some y => simp [List.filterMap_cons, h]
  exact main ds [] (fun _ h => h) (by simpa using hl) rfl
theorem compG_pure {G : Mu → Prop} {vs : List Nat} {g : DG} {tt : DT} {te : DE} {δ : DSt} {μ : Mu} (R : List Dv → Mu → Prop) (f : Dv → Option Dv) (ds : List Dv) (hl : ds.length ≤ sizeLine) (hG : ∀ A acc, μ A = none → G (mset μ A (.lst acc)))
    (hb : ∀ d ∈ ds, ∀ (A : Addr) (acc : List Dv) (C : Mu → Prop), μ A = none → acc.length < sizeLine → C (mset μ A (.lst (acc ++ (f d).toList))) →
      g d (dwipe δ vs) (mset μ A (.lst acc)) fun δ1 μ1 => tt δ1 μ1 fun b μ2 => if b = true then te δ1 μ2 fun y μ3 => ∃ acc, μ3 A = some (.lst acc) ∧ acc.length < sizeLine ∧ C (mset μ3 A (.lst (acc ++ [y]))) else C μ2)
    (q : R (ds.filterMap f) μ) : ∀ A, μ A = none → vLoopG G vs g tt te δ A ds (mset μ A (.lst [])) fun acc μ2 => R acc (mdel μ2 A) := fun A hA =>
  compG_at hA f ds hl (fun acc => hG A acc hA) (fun d hd acc C hla hC => hb d hd A acc C hA hla hC) (by show R _ (mdel (mset μ A _) A); rw [mdel_mset hA]; exact q)
theorem ref_stays {a : Addr} {m : Mo} {μ : Mu} (h : μ a = some m) : ∀ A acc, μ A = none → (mset μ A (.lst acc)) a = some m := fun A acc hA => by
  rw [mset_off (fun e => by rw [e, hA] at h; cases h)]; exact h
end Wl

set_option Elab.async false
set_option linter.all false
set_option maxRecDepth 100000
namespace Lw
open PySem L2 Wl
section
variable {P : Program} {w : World} {c : Cs} {μ : Mu} {Q : DV} {E : DX}
/-- one stroke of the law's player -/
theorem m_stroke2 {ms : List Str} {wt : Int} {bs : List Bd} (G : Good bs) (d : Dv) (s : TSta) (p : Int × Nat) (me : Addr) (hd : StOk d s) (hl : s.2.1.length ≤ 50) (he : s.2.2.2.length + s.2.1.length ≤ 1000) (hme : μ me = some (.lst (s.2.2.2.map levD))) {QA : DV}
    (q : ∀ d', StOk d' (pshT bs wt s p) → QA d' (mset μ me (.lst ((pshT bs wt s p).2.2.2.map levD)))) : sp_law_passed P w c [partsD ms wt bs, d, .int p.1, .ref me] μ (fun x μ1 => sp_law_grown P w c [partsD ms wt bs, x, .lst [.tup [.str ⟨#[p.2]⟩, .int p.1]], .int p.1, .ref me] μ1 QA E) E := by
  refine m_passed G d s (some p.1) me hd (by omega) (by omega) hme fun d' hd' => ?_
  have h1 := lpT_len bs wt (limO (some p.1)) s
  have h2 := lpT_evs bs wt (limO (some p.1)) s
  obtain ⟨f, hf, rfl⟩ := hd'.eq
  have := m_grown (P := P) (w := w) (c := c) (ms := ms) (wt := wt) (μ := mset μ me (.lst ((lpT bs wt (limO (some p.1)) s).2.2.2.map levD))) (Q := QA) (E := E) G (lpT bs wt (limO (some p.1)) s).1 (lpT bs wt (limO (some p.1)) s).2.1 [(p.2, p.1)] f p.1 me (lpT bs wt (limO (some p.1)) s).2.2.2 (by simp; omega) (by omega) mset_at ?_
  · exact this
  · intro f' hf1 _
    rw [mset_mset]
    exact q _ ⟨⟨f', fun _ => hf1 (by simp), rfl⟩⟩
theorem start_ok (m0 : Str) : StOk (.tup [.str m0, .lst [], .int 0]) (startT m0) := ⟨⟨0, fun _ => rfl, rfl⟩⟩
theorem m_events {m0 : Str} {ms : List Str} {wt : Int} {bs : List Bd} (G : Good bs) (ss : List (Int × Nat)) (h16 : ss.length ≤ 16) (sa : Addr) (hsa : μ sa = some (.lst (ss.map stk))) (q : ∀ μ', Gr μ μ' → Q (.lst ((hapT bs wt m0 ss).map levD)) μ') : sp_law_events P w c [partsD (m0 :: ms) wt bs, .ref sa] μ Q E := by
  have hz : 20000 < sizeLine := by decide
  have p0 : ∀ {μ : Mu} {Q : DV}, gIx (partsD (m0 :: ms) wt bs) (.int 0) μ Q ↔ Q (.tup (Dv.str m0 :: ms.map Dv.str)) μ := fun {μ} {Q} => by simp [partsD, at0]
  have a0 : atI (Dv.str m0 :: ms.map Dv.str) 0 = some (.str m0) := by simp [atI, ixN]
  simp [sp_law_events, T_law_events, N_law_events, dstart, p0, a0]
  intro me hme
  have hsm : sa ≠ me := fun e => by rw [e, hme] at hsa; cases hsa
  refine ⟨by omega, ?_⟩
  refine ⟨_, by rw [mset_off hsm]; exact hsa, ?_⟩
  refine loopG_inv _ (fun i δ μ' => ∃ (d : Dv) (l4 l5 : Option Dv) (s : TSta), δ = [some (partsD (m0 :: ms) wt bs), some (.ref sa), some (.ref me), some d, l4, l5] ∧ StOk d s ∧ s = (ss.take i).foldl (pshT bs wt) (startT m0) ∧ μ' = mset μ me (.lst (s.2.2.2.map levD)) ∧ s.2.2.2.length + s.2.1.length ≤ i) 0
    ⟨_, none, none, startT m0, rfl, start_ok m0, rfl, rfl, Nat.le_refl _⟩ (by rintro i δ μ' ⟨d, l4, l5, s, rfl, -, -, rfl, -⟩; simp [mset_off hsm]; exact hsa) ?_ ?_
  · rintro i d δ μ' C hd ⟨d', l4, l5, s, rfl, hst, hs', rfl, k1⟩ hC
    rw [List.getElem?_map] at hd
    cases hm : ss[i]? with
    | none => rw [hm] at hd; cases hd
    | some p =>
      rw [hm] at hd
      cases hd
      have hi : i < ss.length := (List.getElem?_eq_some_iff.mp hm).1
      simp [stk]
      have hev := pshT_evs bs wt s p
      have hz1 : 1 ≤ sizeLine := by omega
      have hz2 : 2 ≤ sizeLine := by omega
      simp only [hz1, hz2, true_and]
      refine m_stroke2 G d' s p me hst (by omega) (by omega) mset_at fun d2 hd2 => ?_
      rw [mset_mset]
      refine hC _ _ ⟨d2, _, _, pshT bs wt s p, rfl, hd2, ?_, rfl, by omega⟩
      rw [show 0 + i + 1 = i + 1 by omega, List.take_add_one, hm, List.foldl_append]
      rw [show 0 + i = i by omega] at hs'
      rw [← hs']; rfl
  · rintro δ μ' ⟨d', l4, l5, s, rfl, hst, hs', rfl, k1⟩
    have hn : 0 + (ss.map stk).length = ss.length := by simp
    rw [hn] at hs' k1
    rw [List.take_length] at hs'
    simp
    refine m_passed G d' s none me hst (by omega) (by omega) mset_at fun d2 hd2 => ?_
    rw [mset_mset]
    simp
    have eh' : hapT bs wt m0 ss = (lpT bs wt (limO none) s).2.2.2 := by rw [hs']; rfl
    rw [mdel_mset hme, ← eh']
    exact q μ (Gr.refl μ)
end
end Lw

namespace Lw
open PySem L2 Wl
theorem nk (a b : String) (h : ((Str.ofString a) == (Str.ofString b)) = false) : ¬ ((Sum.inr (Str.ofString a) : Key) = Sum.inr (Str.ofString b)) := fun e => by injection e with e; rw [e] at h; simp at h
end Lw

set_option Elab.async false
set_option linter.all false
set_option maxRecDepth 100000
namespace Wl
open PySem L2
section
variable {δ : DSt} {μ : Mu} {Q : DV} {D : DEnds} {E2 : DXS}
@[simp] theorem s_Raise {C : Addr} {ns : List Str} {t : DA} : vRaise E2 C ns t D δ μ ↔ t δ μ fun xs μ1 => xs.length = ns.length ∧ ∀ d, μ1 d = none → E2 C (some d) δ (mset μ1 d (.xd (flds ns xs))) := Iff.rfl
@[simp] theorem flds1 {α : Type} {a : Str} {x : α} : flds [a] [x] = [(a, x)] := rfl
end
end Wl
namespace Lw
open PySem L2 Wl
theorem irange_at' {lo : Int} {n i : Nat} {d : Dv} (h : (irange lo n)[i]? = some d) : i < n ∧ d = .int (lo + i) := by
  simp [irange, List.getElem?_map] at h
  obtain ⟨j, hj, rfl⟩ := h
  obtain ⟨h1, h2⟩ := List.getElem?_eq_some_iff.mp hj
  simp at h1 h2
  subst h2
  exact ⟨h1, rfl⟩
section
variable {P : Program} {w : World} {c : Cs} {μ : Mu} {Q : DV} {E : DX}
theorem m_check_index {k : Addr} {ms : List Str} {wt : Int} {bs : List Bd} (hk : MapAt c μ k ms wt bs) (hl : bs.length ≤ 30) (i : Int)
    (q1 : 0 ≤ i ∧ i < (bs.length : Int) → Q .non μ) (q2 : ¬ (0 ≤ i ∧ i < (bs.length : Int)) → ∀ d, μ d = none → E c.x_UnknownBinding (some d) (mset μ d (.xd [("index", .int i)]))) :
    sp_check_index P w c [.ref k, .int i] μ Q E := by
  have hz : 100 < sizeLine := by decide
  obtain ⟨dx, hP⟩ := id hk
  simp [sp_check_index, T_check_index, N_check_index, dstart]
  refine ⟨⟨dx, _, hP⟩, m_map_bindings hk ?_⟩
  simp
  refine m_is_number i 0 _ ?_
  simp
  by_cases h : 0 ≤ i ∧ i < (bs.length : Int)
  · rw [if_pos ⟨h.1, by omega⟩]; exact q1 h
  · rw [if_neg fun z => h ⟨z.1, by omega⟩]; exact q2 h
theorem m_cw_ok {k : Addr} {ms : List Str} {wt : Int} {bs : List Bd} (hk : MapAt c μ k ms wt bs) (hl : bs.length ≤ 30) (xs : List Int) (hv : ∀ x ∈ xs, 0 ≤ x ∧ x < (bs.length : Int))
    (q : Q .non μ) : sp_check_wanted P w c [.ref k, .lst (xs.map Dv.int)] μ Q E := by
  simp [sp_check_wanted, T_check_wanted, N_check_wanted, dstart, tyName, kitB]
  refine loop_inv _ (fun i δ μ' => (∃ l : Option Dv, δ = [some (.ref k), some (.lst (xs.map Dv.int)), l]) ∧ μ' = μ) 0 ⟨⟨_, rfl⟩, rfl⟩ ?_ ?_
  · rintro i d δ μ' C hd ⟨⟨l, rfl⟩, rfl⟩ hC
    rw [List.getElem?_map] at hd
    cases hm : xs[i]? with
    | none => rw [hm] at hd; cases hd
    | some x =>
      rw [hm] at hd
      cases hd
      simp
      exact m_check_index hk hl x (fun _ => hC _ _ ⟨⟨_, rfl⟩, rfl⟩) fun h => absurd (hv x (List.mem_of_getElem? hm)) h
  · rintro δ μ' ⟨⟨l, rfl⟩, rfl⟩
    exact q
theorem m_cw_bad {k : Addr} {ms : List Str} {wt : Int} {bs : List Bd} (hk : MapAt c μ k ms wt bs) (hl : bs.length ≤ 30) (xs : List Int) (n : Int) (hv : ∀ x ∈ xs, 0 ≤ x ∧ x < (bs.length : Int)) (hn : ¬ (0 ≤ n ∧ n < (bs.length : Int)))
    (q : ∀ d, μ d = none → E c.x_UnknownBinding (some d) (mset μ d (.xd [("index", .int n)]))) : sp_check_wanted P w c [.ref k, .lst (xs.map Dv.int ++ [.int n])] μ Q E := by
  simp [sp_check_wanted, T_check_wanted, N_check_wanted, dstart, tyName, kitB]
  refine loop_inv _ (fun i δ μ' => (∃ l : Option Dv, δ = [some (.ref k), some (.lst (xs.map Dv.int ++ [.int n])), l]) ∧ μ' = μ ∧ i ≤ xs.length) 0 ⟨⟨_, rfl⟩, rfl, Nat.zero_le _⟩ ?_ ?_
  · rintro i d δ μ' C hd ⟨⟨l, rfl⟩, rfl, hi⟩ hC
    by_cases hx : i < xs.length
    · rw [List.getElem?_append_left (by simpa using hx), List.getElem?_map, List.getElem?_eq_getElem hx] at hd
      cases hd
      simp
      exact m_check_index hk hl _ (fun _ => hC _ _ ⟨⟨_, rfl⟩, rfl, by omega⟩) fun h => absurd (hv _ (List.getElem_mem hx)) h
    · have e : i = xs.length := by omega
      subst e
      rw [List.getElem?_append_right (by simp)] at hd
      simp at hd
      subst hd
      simp
      exact m_check_index hk hl n (fun h => absurd h hn) fun _ d hd => q d hd
  · rintro δ μ' ⟨⟨l, rfl⟩, rfl, hi⟩
    simp at hi
    omega
theorem m_check_gap (g : Int) (h : 0 ≤ g ∧ g ≤ 99) (q : Q .non μ) : sp_check_gap P w c [.int g] μ Q E := by
  simp [sp_check_gap, T_check_gap, N_check_gap, dstart]
  refine m_is_number g 0 99 ?_
  simp [h.1, h.2]
  exact q
theorem m_with_wait {k : Addr} {ms : List Str} {wt : Int} {bs : List Bd} (hk : MapAt c μ k ms wt bs) (v : Int) (h0 : ms ≠ []) (hl : ms.length ≤ 4) (hw : ∀ m ∈ ms, Word m 8) (hn : ms.Nodup) (hwt : 1 ≤ v ∧ v ≤ 99) (hbl : bs.length ≤ 30) (hb : ∀ b ∈ bs, BdOk ms b) (hbn : (bs.map fun b => (b.mode, b.keys)).Nodup)
    (q : ∀ k' μ', Gr μ μ' → MapAt c μ' k' ms v bs → Q (.ref k') μ') : sp_KeyMap_with_wait P w c [.ref k, .int v] μ Q E := by
  obtain ⟨dx0, hP⟩ := id hk
  have l1 : List.lookup ("_modes" : Str) [(("_modes" : Str), Dv.tup (ms.map Dv.str)), ("_wait", .int wt), ("_bindings", .tup (bs.map Bd.dv))] = some (.tup (ms.map Dv.str)) := by simp [List.lookup]
  have l2 : List.lookup ("_bindings" : Str) [(("_modes" : Str), Dv.tup (ms.map Dv.str)), ("_wait", .int wt), ("_bindings", .tup (bs.map Bd.dv))] = some (.tup (bs.map Bd.dv)) := by
    have n1 := nk "_bindings" "_modes" (by decide +kernel)
    have n2 := nk "_bindings" "_wait" (by decide +kernel)
    simp [List.lookup]
    rfl
  simp [sp_KeyMap_with_wait, T_KeyMap_with_wait, N_KeyMap_with_wait, dstart, vMake]
  refine ⟨dx0, _, hP, _, l1, dx0, _, hP, _, l2, ?_⟩
  intro k2 dx hk2
  refine m_map_init ms v bs k2 dx h0 hl hw hn hwt hbl hb hbn mset_at fun p m hp => ?_
  have hpk : p ≠ k2 := fun e => by rw [e, mset_at] at hp; cases hp
  have hp' : μ p = none := by rw [mset_off hpk] at hp; exact hp
  refine q k2 _ (fun b n e => ?_) ⟨dx, mset_at⟩
  have h1 : b ≠ k2 := fun q => by rw [q, hk2] at e; cases e
  have h2 : b ≠ p := fun q => by rw [q, hp'] at e; cases e
  rw [mset_off h1, mset_off h2, mset_off h1]; exact e
end
end Lw

set_option Elab.async false
set_option linter.all false
set_option maxRecDepth 100000
namespace Lw
open PySem L2 Wl
section
variable {P : Program} {w : World} {c : Cs} {μ : Mu} {Q : DV} {E : DX}
theorem lastT_at (ss : List (Int × Nat)) (h : ss ≠ []) : ∃ k : Nat, atI (ss.map stk) (-1) = some (stk (lastT ss, k)) := by
  rcases List.eq_nil_or_concat ss with rfl | ⟨l, p, rfl⟩
  · exact absurd rfl h
  · refine ⟨p.2, ?_⟩
    rw [List.concat_eq_append, lastT_snoc]
    unfold atI ixN
    simp [show ¬ (0 : Int) ≤ -1 by omega]
    rw [if_pos (by omega)]
    have e : (-1 + ((l.length : Int) + 1)).toNat = l.length := by omega
    simp [e]
theorem tru_ref {a : Addr} {xs : List Dv} {Q : Bool → Prop} (h : μ a = some (.lst xs)) : gTru (.ref a) μ Q ↔ Q (!xs.isEmpty) := by
  unfold gTru; simp only [h]
def kss (bs : List Bd) : List (List Nat) := bs.map fun b => b.keys.cps.toList
theorem m_typed (bs : List Bd) (hl : bs.length ≤ 4) (hb : ∀ b ∈ bs, b.keys.cps.size ≤ 4) (inner outer : Int) (hi : 0 ≤ inner ∧ inner ≤ 100) (ho : 0 ≤ outer ∧ outer ≤ 100)
    (q : ∀ μ', Gr μ μ' → Q (.lst ((tyS inner outer (kss bs)).map stk)) μ') : sp_typed_strokes P w c [.lst (bs.map Bd.dv), .int inner, .int outer] μ Q E := by
  have hz : 20000 < sizeLine := by decide
  simp [sp_typed_strokes, T_typed_strokes, N_typed_strokes, dstart]
  intro p hp
  have hbs : ∀ {n : Nat}, ∀ ks ∈ (kss bs).take n, ks.length ≤ 4 ∧ ∀ k ∈ ks, k ∈ (kss bs).flatten := fun {n} ks hk => by
    have hk := List.mem_of_mem_take hk
    obtain ⟨b, h1, h2⟩ := List.mem_map.mp hk
    exact ⟨by rw [← h2]; simpa using hb b h1, fun k hk2 => List.mem_flatten.mpr ⟨ks, hk, hk2⟩⟩
  refine loop_inv _ (fun i δ μ' => (∃ l4 l5 l6 l7 : Option Dv, δ = [some (.lst (bs.map Bd.dv)), some (.int inner), some (.int outer), some (.ref p), l4, l5, l6, l7]) ∧ μ' p = some (.lst ((((kss bs).take i).foldl (tyB inner outer) []).map stk)) ∧ ∀ b, b ≠ p → μ' b = μ b) 0
    ⟨⟨_, _, _, _, rfl⟩, mset_at, fun b hb => mset_off hb⟩ ?_ ?_
  · rintro i d δ μ' C hd ⟨⟨l4, l5, l6, l7, rfl⟩, hpl, hoff⟩ hC
    rw [List.getElem?_map] at hd
    cases hm : bs[i]? with
    | none => rw [hm] at hd; cases hd
    | some b =>
      rw [hm] at hd
      cases hd
      have hbm := List.mem_of_getElem? hm
      have hkm : (kss bs)[i]? = some b.keys.cps.toList := by unfold kss; rw [List.getElem?_map, hm]; rfl
      rw [show 0 + i = i by omega] at hpl
      generalize hss : ((kss bs).take i).foldl (tyB inner outer) [] = ss at hpl
      have tk : TyOk (0 + 4 * ((kss bs).take i).length) (kss bs).flatten ss := by
        rw [← hss]
        exact TyOk.foldB hi ho _ 0 [] (TyOk.nil _ _) hbs
      simp [Bd.dv, atI, ixN]
      refine loop_inv _ (fun j δ μ'' => (∃ l6 l7 : Option Dv, δ = [some (.lst (bs.map Bd.dv)), some (.int inner), some (.int outer), some (.ref p), some (.tup [.str b.mode, .str b.keys, .str b.cmd, .str b.tgt]), some (.int (((b.keys.cps.toList.take j).foldl (tyK inner) (ss, outer)).2)), l6, l7]) ∧ μ'' p = some (.lst ((((b.keys.cps.toList.take j).foldl (tyK inner) (ss, outer)).1).map stk)) ∧ ∀ b, b ≠ p → μ'' b = μ b) 0
        ⟨⟨_, _, rfl⟩, by simpa using hpl, hoff⟩ ?_ ?_
      · rintro j d δ μ'' C2 hd ⟨⟨l6, l7, rfl⟩, hpl2, hoff2⟩ hC2
        have hd' : ∃ ch, b.keys.cps.toList[j]? = some ch ∧ d = .str ⟨#[ch]⟩ := by
          unfold signs at hd
          rw [List.getElem?_map] at hd
          cases hz : b.keys.cps.toList[j]? with
          | none => rw [hz] at hd; cases hd
          | some ch => rw [hz] at hd; cases hd; exact ⟨ch, rfl, rfl⟩
        obtain ⟨ch, hch, rfl⟩ := hd'
        rw [show 0 + j = j by omega] at hpl2 ⊢
        have hkb := hb b hbm
        have tk2 := TyOk.foldK (inner := inner) hi (b.keys.cps.toList.take j) _ ss outer tk ho fun k hk => List.mem_flatten.mpr ⟨_, List.mem_of_getElem? hkm, List.mem_of_mem_take hk⟩
        have nxt : (b.keys.cps.toList.take (j + 1)).foldl (tyK inner) (ss, outer) = tyK inner ((b.keys.cps.toList.take j).foldl (tyK inner) (ss, outer)) ch := by
          rw [List.take_add_one, hch, List.foldl_append]; rfl
        have hgap : (((b.keys.cps.toList.take j).foldl (tyK inner) (ss, outer)).2) = outer ∨ (((b.keys.cps.toList.take j).foldl (tyK inner) (ss, outer)).2) = inner := by
          rw [tyK_gap]; split
          · exact .inl rfl
          · exact .inr rfl
        have hlen : ((b.keys.cps.toList.take j).foldl (tyK inner) (ss, outer)).1.length ≤ 40 := by
          have h1 := tk2.len
          have h2 : ((kss bs).take i).length ≤ 4 := by simp [kss]; omega
          have h3 : (b.keys.cps.toList.take j).length ≤ 4 := by simp; omega
          omega
        have htop := tk2.top
        have ht0 := tk2.t0
        rw [show 0 + j + 1 = j + 1 by omega] at hC2
        rw [nxt] at hC2
        generalize hst : (b.keys.cps.toList.take j).foldl (tyK inner) (ss, outer) = st at *
        obtain ⟨s1, g1⟩ := st
        simp only at hpl2 hgap hlen htop ht0
        by_cases he : s1 = []
        · subst he
          simp [tru_ref hpl2, ty_ref hpl2]
          refine ⟨by omega, _, hpl2, by show 0 < _; omega, ?_⟩
          refine hC2 _ _ ⟨⟨_, _, rfl⟩, by rw [mset_at]; simp [tyK, stk], fun x hx => by rw [mset_off hx]; exact hoff2 x hx⟩
        · obtain ⟨k0, hk0⟩ := lastT_at s1 he
          simp [tru_ref hpl2, he]
          refine ⟨_, hpl2, _, hk0, ?_⟩
          simp [stk, atI, ixN, ty_ref hpl2]
          refine ⟨by omega, _, hpl2, by simp; omega, ?_⟩
          refine hC2 _ _ ⟨⟨_, _, rfl⟩, by rw [mset_at]; simp [tyK, stk, he], fun x hx => by rw [mset_off hx]; exact hoff2 x hx⟩
      · rintro δ μ'' ⟨⟨l6, l7, rfl⟩, hpl2, hoff2⟩
        have hn : 0 + (signs b.keys).length = b.keys.cps.toList.length := by simp [signs]
        rw [hn, List.take_length] at hpl2
        refine hC _ _ ⟨⟨_, _, _, _, rfl⟩, ?_, hoff2⟩
        rw [hpl2, show 0 + i + 1 = i + 1 by omega, List.take_add_one, hkm, List.foldl_append, hss]
        rfl
  · rintro δ μ' ⟨⟨l4, l5, l6, l7, rfl⟩, hpl, hoff⟩
    simp
    have hn : 0 + (bs.map Bd.dv).length = (kss bs).length := by simp [kss]
    rw [hn, List.take_length] at hpl
    refine ⟨_, hpl, q _ fun b m e => ?_⟩
    have hbp : b ≠ p := fun z => by rw [z, hp] at e; cases e
    show (if b = p then none else μ' b) = some m
    rw [if_neg hbp, hoff b hbp]; exact e
end
end Lw

set_option Elab.async false
set_option linter.all false
set_option maxRecDepth 100000
namespace Lw
open PySem L2 Wl
/-! good waits -/
def sel (bs : List Bd) (xs : List Int) : List Bd := xs.filterMap fun x => bs[x.toNat]?
def due (bs : List Bd) : List (Str × Str) := bs.map fun b => ("command", b.cmd)
def gw (bs : List Bd) (m0 : Str) (ss : List (Int × Nat)) (du : List (Str × Str)) (w : Int) : Bool := decide ((hap bs w m0 ss).map (fun e => (e.1, e.2.2.1)) = du)
def prD (p : Str × Str) : Dv := .tup [.str p.1, .str p.2]
structure MapK (m0 : Str) (ms : List Str) (bs : List Bd) (L : List Nat) : Prop where
  good : Good bs
  len : (m0 :: ms).length ≤ 4
  word : ∀ m ∈ m0 :: ms, Word m 8
  nodup : (m0 :: ms).Nodup
  bd : ∀ b ∈ bs, BdOk (m0 :: ms) b
  keys : ∀ b ∈ bs, b.keys.cps.size ≤ 4 ∧ ∀ ch ∈ b.keys.cps.toList, ch ∈ L
  al : ∀ x ∈ L, x ∈ alpha
theorem sel_mem {bs : List Bd} {xs : List Int} {b : Bd} (h : b ∈ sel bs xs) : b ∈ bs := by
  obtain ⟨x, _, h2⟩ := List.mem_filterMap.mp h
  exact List.mem_of_getElem? h2
theorem sel_len (bs : List Bd) (xs : List Int) : (sel bs xs).length ≤ xs.length := List.length_filterMap_le _ _
theorem prD_cln (l : List (Str × Str)) : Cln 2 (.lst (l.map prD)) = true := by
  simp [Cln, List.all_eq_true, prD]
theorem prD_inj {l r : List (Str × Str)} : l.map prD = r.map prD ↔ l = r := by
  refine List.map_inj_right fun x y e => ?_
  simp [prD] at e
  exact Prod.ext e.1 e.2
theorem prD_eq (l r : List (Str × Str)) : eqOk (.lst (l.map prD)) (.lst (r.map prD)) ∧ dEq (.lst (l.map prD)) (.lst (r.map prD)) = decide (l = r) := by
  refine ⟨cln_ok (prD_cln l) (prD_cln r) (by omega), ?_⟩
  have h := cln_eq 2 2 _ _ (prD_cln l) (prD_cln r)
  by_cases e : l = r
  · rw [decide_eq_true e]; exact h.mpr (by rw [e])
  · rw [decide_eq_false e]
    cases z : dEq (.lst (l.map prD)) (.lst (r.map prD)) with
    | false => rfl
    | true =>
      have := h.mp z
      rw [Dv.lst.injEq] at this
      exact absurd (prD_inj.mp this) e
section
variable {P : Program} {w : World} {c : Cs} {μ : Mu} {Q : DV} {E : DX}
theorem m_good_bad {k : Addr} {ms : List Str} {wt : Int} {bs : List Bd} (hk : MapAt c μ k ms wt bs) (hl : bs.length ≤ 30) (xs : List Int) (n inner outer : Int) (hv : ∀ x ∈ xs, 0 ≤ x ∧ x < (bs.length : Int)) (hn : ¬ (0 ≤ n ∧ n < (bs.length : Int)))
    (q : ∀ d, μ d = none → E c.x_UnknownBinding (some d) (mset μ d (.xd [("index", .int n)]))) : sp_good_waits P w c [.ref k, .lst (xs.map Dv.int ++ [.int n]), .int inner, .int outer] μ Q E := by
  simp [sp_good_waits, T_good_waits, N_good_waits, dstart]
  exact m_cw_bad hk hl xs n hv hn fun d hd => q d hd
theorem m_good {k : Addr} {m0 : Str} {ms : List Str} {wt : Int} {bs : List Bd} {L : List Nat} (hk : MapAt c μ k (m0 :: ms) wt bs) (K : MapK m0 ms bs L) (xs : List Int) (hv : ∀ x ∈ xs, 0 ≤ x ∧ x < (bs.length : Int)) (hx : xs.length ≤ 4)
    (inner outer : Int) (hi : 0 ≤ inner ∧ inner ≤ 99) (ho : 0 ≤ outer ∧ outer ≤ 99)
    (q : ∀ μ', Gr μ μ' → Q (.lst ((wl (gw bs m0 (tyS inner outer (kss (sel bs xs))) (due (sel bs xs))) 99).map Dv.int)) μ') : sp_good_waits P w c [.ref k, .lst (xs.map Dv.int), .int inner, .int outer] μ Q E := by
  have hz : 20000 < sizeLine := by decide
  have hbl := K.good.len
  simp [sp_good_waits, T_good_waits, N_good_waits, dstart]
  refine m_cw_ok hk hbl xs hv ?_
  refine m_check_gap inner hi ?_
  refine m_check_gap outer ho ?_
  intro A hA
  refine comp_at hA (fun d => match d with | .int x => (bs[x.toNat]?).map Bd.dv | _ => none) (xs.map Dv.int) (by simp; omega) (fun d hd acc C hla hC => ?_) ?_
  · obtain ⟨x, hxm, rfl⟩ := List.mem_map.mp hd
    obtain ⟨x0, x1⟩ := hv x hxm
    have hkA : k ≠ A := fun e => by obtain ⟨dx, h⟩ := hk; rw [e, hA] at h; cases h
    have hk' : MapAt c (mset μ A (.lst acc)) k (m0 :: ms) wt bs := by obtain ⟨dx, h⟩ := hk; exact ⟨dx, by rw [mset_off hkA]; exact h⟩
    have hg : bs[x.toNat]? = some (bs[x.toNat]'(by omega)) := List.getElem?_eq_getElem _
    have hC : C (mset μ A (.lst (acc ++ (Option.map Bd.dv bs[x.toNat]?).toList))) := hC
    rw [hg] at hC
    simp at hC
    simp [dwipe]
    obtain ⟨dx, hP⟩ := id hk'
    refine ⟨⟨dx, _, hP⟩, m_map_bindings hk' ?_⟩
    simp [atI, ixN, x0, x1]
    exact ⟨hla, hC⟩
  · have ef : (xs.map Dv.int).filterMap (fun d => match d with | .int x => (bs[x.toNat]?).map Bd.dv | _ => none) = (sel bs xs).map Bd.dv := by
      rw [List.filterMap_map]
      unfold sel
      rw [List.map_filterMap]
      rfl
    rw [ef, mdel_mset hA]
    have hsl := sel_len bs xs
    refine m_typed (sel bs xs) (by omega) (fun b hb => (K.keys b (sel_mem hb)).1) inner outer ⟨hi.1, by omega⟩ ⟨ho.1, by omega⟩ fun μ1 G1 => ?_
    intro B hB
    refine comp_at hB (fun d => match d with | .tup [_, _, .str cm, _] => some (prD ("command", cm)) | _ => none) ((sel bs xs).map Bd.dv) (by simp; omega) (fun d hd acc C hla hC => ?_) ?_
    · obtain ⟨b, hbm, rfl⟩ := List.mem_map.mp hd
      have hC : C (mset μ1 B (.lst (acc ++ [prD ("command", b.cmd)]))) := hC
      simp [Bd.dv, dwipe, atI, ixN]
      exact ⟨by omega, hla, hC⟩
    · have eg : ((sel bs xs).map Bd.dv).filterMap (fun d => match d with | .tup [_, _, .str cm, _] => some (prD ("command", cm)) | _ => none) = (due (sel bs xs)).map prD := by
        rw [List.filterMap_map]
        unfold due
        rw [List.map_map, ← List.filterMap_eq_map]
        rfl
      rw [eg, mdel_mset hB]
      generalize hss : tyS inner outer (kss (sel bs xs)) = ss at *
      generalize hdu : due (sel bs xs) = du at *
      intro p hp
      have hk1 : MapAt c μ1 k (m0 :: ms) wt bs := by obtain ⟨dx, h⟩ := hk; exact ⟨dx, G1 _ _ h⟩
      have tk := TyOk.foldB (inner := inner) (outer := outer) ⟨hi.1, by omega⟩ ⟨ho.1, by omega⟩ (L := L) (z := 4) (kss (sel bs xs)) 0 [] (TyOk.nil _ _) (fun ks hks => by
        obtain ⟨b, h1, h2⟩ := List.mem_map.mp hks
        have h3 := K.keys b (sel_mem h1)
        subst h2
        exact ⟨by simpa using h3.1, h3.2⟩)
      have hSt : Stks L 100000 ss := by
        rw [← hss]
        refine tk.stks ?_
        simp [kss]
        omega
      refine loop_inv _ (fun i δ μ' => (∃ l5 l8 l10 l11 l12 l13 l14 : Option Dv, δ = [some (.ref k), some (.lst (xs.map Dv.int)), some (.int inner), some (.int outer), some (.lst ((sel bs xs).map Bd.dv)), l5, some (.lst (ss.map stk)), some (.lst (du.map prD)), l8, some (.ref p), l10, l11, l12, l13, l14]) ∧ i ≤ 99 ∧ Gr μ1 μ' ∧ μ' p = some (.lst ((wl (gw bs m0 ss du) i).map Dv.int))) 0
        ⟨⟨_, _, _, _, _, _, _, rfl⟩, by omega, Gr.new hp, mset_at⟩ ?_ ?_
      · rintro i d δ μ' C hd ⟨⟨l5, l8, l10, l11, l12, l13, l14, rfl⟩, hi9, G', hpl⟩ hC
        obtain ⟨hi99, rfl⟩ := irange_at' hd
        rw [show 0 + i = i by omega] at hpl
        have hk2 : MapAt c μ' k (m0 :: ms) wt bs := by obtain ⟨dx, h⟩ := hk1; exact ⟨dx, G' _ _ h⟩
        obtain ⟨dx, hP⟩ := id hk2
        simp
        refine ⟨dx, _, hP, (by rintro a b h; simp only [List.mem_cons, Prod.mk.injEq, List.not_mem_nil, or_false] at h; rcases h with ⟨rfl, _⟩ | ⟨rfl, _⟩ | ⟨rfl, _⟩ <;> exact by decide +kernel), ?_⟩
        refine m_with_wait hk2 _ (by simp) K.len K.word K.nodup ⟨by omega, by omega⟩ hbl K.bd K.good.nodup fun k2 μ2 G2 M2 => ?_
        refine m_play_all k2 m0 ms _ bs ss L 100000 M2 hbl (fun b hb => K.good.size b hb) (by omega) K.al hSt fun μ3 G3 => ?_
        simp
        have hhl : (hap bs (1 + (i : Int)) m0 ss).length ≤ 16 := by
          rw [hap_T, List.length_map]
          have := hapT_len bs (1 + (i : Int)) m0 ss
          have := hSt.len
          omega
        intro B hB
        refine comp_at hB (fun d => match d with | .tup [.str a, _, .str b, _] => some (prD (a, b)) | _ => none) ((hap bs (1 + (i : Int)) m0 ss).map evD) (by simp; omega) (fun d hd acc C hla hC => ?_) ?_
        · obtain ⟨e, hem, rfl⟩ := List.mem_map.mp hd
          have hC : C (mset μ3 B (.lst (acc ++ [prD (e.1, e.2.2.1)]))) := hC
          simp [evD, dwipe]
          exact ⟨by omega, hla, hC⟩
        · have eh : ((hap bs (1 + (i : Int)) m0 ss).map evD).filterMap (fun d => match d with | .tup [.str a, _, .str b, _] => some (prD (a, b)) | _ => none) = ((hap bs (1 + (i : Int)) m0 ss).map fun e => (e.1, e.2.2.1)).map prD := by
            rw [List.filterMap_map, List.map_map, ← List.filterMap_eq_map]
            rfl
          rw [eh, mdel_mset hB]
          obtain ⟨h1, h2⟩ := prD_eq ((hap bs (1 + (i : Int)) m0 ss).map fun e => (e.1, e.2.2.1)) du
          refine ⟨h1, ?_⟩
          rw [h2]
          have hpl3 : μ3 p = some (.lst ((wl (gw bs m0 ss du) i).map Dv.int)) := G3 _ _ (G2 _ _ hpl)
          have hwl := wl_len (gw bs m0 ss du) i
          have hG : Gr μ1 μ3 := (G'.trans G2).trans G3
          split
          · rename_i hz
            simp [ty_ref hpl3]
            refine ⟨_, hpl3, by simp; omega, hC _ _ ⟨⟨_, _, _, _, _, _, _, rfl⟩, by omega, fun b m e => ?_, ?_⟩⟩
            · have hbp : b ≠ p := fun z => by rw [z, hp] at e; cases e
              rw [mset_off hbp]; exact hG _ _ e
            · rw [mset_at, show 0 + i + 1 = i + 1 by omega]
              have hf : gw bs m0 ss du (1 + (i : Int)) = true := hz
              simp [wl, hf]
          · rename_i hz
            refine hC _ _ ⟨⟨_, _, _, _, _, _, _, rfl⟩, by omega, hG, ?_⟩
            rw [hpl3, show 0 + i + 1 = i + 1 by omega]
            have hf : gw bs m0 ss du (1 + (i : Int)) = false := by
              cases zz : gw bs m0 ss du (1 + (i : Int)) with
              | false => rfl
              | true => exact absurd zz hz
            simp [wl, hf]
      · rintro δ μ' ⟨⟨l5, l8, l10, l11, l12, l13, l14, rfl⟩, hi9, G', hpl⟩
        simp
        have hn : 0 + (irange 1 99).length = 99 := by simp [irange]
        rw [hn] at hpl
        refine ⟨_, hpl, q _ fun b m e => ?_⟩
        have e1 := G1 _ _ e
        have hbp : b ≠ p := fun z => by rw [z, hp] at e1; cases e1
        show (if b = p then none else μ' b) = some m
        rw [if_neg hbp]; exact G' _ _ e1
end
end Lw

set_option Elab.async false
set_option linter.all false
set_option maxRecDepth 100000
namespace Wl
open PySem L2
section
variable {δ : DSt} {μ : Mu} {Q : DV} {D : DEnds} {E2 : DXS}
@[simp] theorem e_IsC {isx : Addr → Str → Option Bool} {i : Nat} {a C : Addr} {d : Option Addr} {T : Str} : vIsC isx i a C d T δ μ Q ↔ δ[i]? = some (some (.ref a)) ∧ mOk d μ ∧ ∃ b, isx C T = some b ∧ Q (.bl b) μ := Iff.rfl
@[simp] theorem e_Xf {i : Nat} {a : Addr} {d : Option Addr} {f : Str} : vXf i a d f δ μ Q ↔ δ[i]? = some (some (.ref a)) ∧ ∃ (dd : Addr) (fs : List (Str × Dv)) (v : Dv), d = some dd ∧ μ dd = some (.xd fs) ∧ fs.lookup f = some v ∧ Q v μ := Iff.rfl
@[simp] theorem o_cnt {x y : Dv} : gCnt x [y] μ Q ↔ ∃ ys, plst μ x = some ys ∧ inOk y ys ∧ Q (.int ((ys.countP fun z => dEq z y : Nat) : Int)) μ := Iff.rfl
@[simp] theorem o_idxL {x y : Dv} : gIdxL x [y] μ Q ↔ ∃ (ys : List Dv) (j : Nat), plst μ x = some ys ∧ inOk y ys ∧ j < 1000000 ∧ (ys.findIdx? fun z => dEq z y) = some j ∧ Q (.int (j : Int)) μ := Iff.rfl
theorem ty_lst' {T : String} {xs : List Dv} : tyD T (.lst xs) μ ↔ T = "list" := Iff.rfl
theorem dEq_bl {a b : Bool} : dEq (.bl a) (.bl b) = (a == b) := by cases a <;> cases b <;> rfl
@[simp] theorem s_Raise0 {C : Addr} : vRaise0 E2 C D δ μ ↔ E2 C none δ μ := Iff.rfl
theorem o_addT {xs ys : List Dv} : gAdd (.tup xs) (.tup ys) μ Q ↔ xs.length + ys.length ≤ sizeLine ∧ Q (.tup (xs ++ ys)) μ := Iff.rfl
end
end Wl
namespace Lw
open PySem L2 Wl
/-- what the law gives in place of a number -/
structure Odd (d : Dv) (lo hi : Int) : Prop where
  is : d = .non ∨ d = .bl true ∨ ∃ i : Int, d = .int i ∧ ¬ (lo ≤ i ∧ i ≤ hi)
section
variable {P : Program} {w : World} {c : Cs} {μ : Mu} {Q : DV} {E : DX}
theorem m_is_odd (d : Dv) (lo hi : Int) (h : Odd d lo hi) (q : Q (.bl false) μ) : sp_is_number P w c [d, .int lo, .int hi] μ Q E := by
  rcases h.is with rfl | rfl | ⟨i, rfl, h⟩
  · have e : kitB "NoneType" "int" = some false := by decide +kernel
    simp [sp_is_number, T_is_number, N_is_number, dstart, tyName, e]
    exact q
  · have e : kitB "bool" "int" = some true := by decide +kernel
    have e2 : kitB "bool" "bool" = some true := by decide +kernel
    simp [sp_is_number, T_is_number, N_is_number, dstart, tyName, e, e2]
    exact q
  · refine m_is_number i lo hi ?_
    have : (decide (lo ≤ i) && decide (i ≤ hi)) = false := by
      rcases Int.lt_or_le i lo with h1 | h1
      · simp [show ¬ lo ≤ i by omega]
      · simp [show ¬ i ≤ hi by omega]
    rw [this]; exact q
theorem m_check_index_odd {k : Addr} {ms : List Str} {wt : Int} {bs : List Bd} (hk : MapAt c μ k ms wt bs) (d : Dv) (h : Odd d 0 ((bs.length : Int) - 1))
    (q : ∀ dd, μ dd = none → E c.x_UnknownBinding (some dd) (mset μ dd (.xd [("index", d)]))) :
    sp_check_index P w c [.ref k, d] μ Q E := by
  obtain ⟨dx, hP⟩ := id hk
  simp [sp_check_index, T_check_index, N_check_index, dstart]
  refine ⟨⟨dx, _, hP⟩, m_map_bindings hk ?_⟩
  simp
  refine m_is_odd d 0 _ h ?_
  simp
  exact q
theorem m_cw_odd {k : Addr} {ms : List Str} {wt : Int} {bs : List Bd} (hk : MapAt c μ k ms wt bs) (hl : bs.length ≤ 30) (xs : List Int) (n : Dv) (hv : ∀ x ∈ xs, 0 ≤ x ∧ x < (bs.length : Int)) (hn : Odd n 0 ((bs.length : Int) - 1))
    (q : ∀ d, μ d = none → E c.x_UnknownBinding (some d) (mset μ d (.xd [("index", n)]))) : sp_check_wanted P w c [.ref k, .lst (xs.map Dv.int ++ [n])] μ Q E := by
  simp [sp_check_wanted, T_check_wanted, N_check_wanted, dstart, tyName, kitB]
  refine loop_inv _ (fun i δ μ' => (∃ l : Option Dv, δ = [some (.ref k), some (.lst (xs.map Dv.int ++ [n])), l]) ∧ μ' = μ ∧ i ≤ xs.length) 0 ⟨⟨_, rfl⟩, rfl, Nat.zero_le _⟩ ?_ ?_
  · rintro i d δ μ' C hd ⟨⟨l, rfl⟩, rfl, hi⟩ hC
    by_cases hx : i < xs.length
    · rw [List.getElem?_append_left (by simpa using hx), List.getElem?_map, List.getElem?_eq_getElem hx] at hd
      cases hd
      simp
      exact m_check_index hk hl _ (fun _ => hC _ _ ⟨⟨_, rfl⟩, rfl, by omega⟩) fun h => absurd (hv _ (List.getElem_mem hx)) h
    · have e : i = xs.length := by omega
      subst e
      rw [List.getElem?_append_right (by simp)] at hd
      simp at hd
      subst hd
      simp
      exact m_check_index_odd hk n hn fun d hd => q d hd
  · rintro δ μ' ⟨⟨l, rfl⟩, rfl, hi⟩
    simp at hi
    omega
theorem m_gap_odd (g : Dv) (h : Odd g 0 99) (q : E c.x_InvalidGap none μ) : sp_check_gap P w c [g] μ Q E := by
  simp [sp_check_gap, T_check_gap, N_check_gap, dstart]
  refine m_is_odd g 0 99 h ?_
  simp
  exact q
theorem m_good_odd {k : Addr} {ms : List Str} {wt : Int} {bs : List Bd} (hk : MapAt c μ k ms wt bs) (hl : bs.length ≤ 30) (xs : List Int) (n i o : Dv) (hv : ∀ x ∈ xs, 0 ≤ x ∧ x < (bs.length : Int)) (hn : Odd n 0 ((bs.length : Int) - 1))
    (q : ∀ d, μ d = none → E c.x_UnknownBinding (some d) (mset μ d (.xd [("index", n)]))) : sp_good_waits P w c [.ref k, .lst (xs.map Dv.int ++ [n]), i, o] μ Q E := by
  simp [sp_good_waits, T_good_waits, N_good_waits, dstart]
  exact m_cw_odd hk hl xs n hv hn fun d hd => q d hd
theorem m_good_gap1 {k : Addr} {ms : List Str} {wt : Int} {bs : List Bd} (hk : MapAt c μ k ms wt bs) (hl : bs.length ≤ 30) (xs : List Int) (i o : Dv) (hv : ∀ x ∈ xs, 0 ≤ x ∧ x < (bs.length : Int)) (hn : Odd i 0 99)
    (q : E c.x_InvalidGap none μ) : sp_good_waits P w c [.ref k, .lst (xs.map Dv.int), i, o] μ Q E := by
  simp [sp_good_waits, T_good_waits, N_good_waits, dstart]
  refine m_cw_ok hk hl xs hv ?_
  exact m_gap_odd i hn q
theorem m_good_gap2 {k : Addr} {ms : List Str} {wt : Int} {bs : List Bd} (hk : MapAt c μ k ms wt bs) (hl : bs.length ≤ 30) (xs : List Int) (i : Int) (o : Dv) (hv : ∀ x ∈ xs, 0 ≤ x ∧ x < (bs.length : Int)) (hi : 0 ≤ i ∧ i ≤ 99) (hn : Odd o 0 99)
    (q : E c.x_InvalidGap none μ) : sp_good_waits P w c [.ref k, .lst (xs.map Dv.int), .int i, o] μ Q E := by
  simp [sp_good_waits, T_good_waits, N_good_waits, dstart]
  refine m_cw_ok hk hl xs hv ?_
  refine m_check_gap i hi ?_
  exact m_gap_odd o hn q
theorem m_suite {a d : Addr} {v : Dv} (D : DEnds) (hd : μ d = some (.xd [("index", v)])) (q : D.rt (.tup [.str "error", .str "UnknownBinding", v]) μ) :
    S_law_told P w c a c.x_UnknownBinding (some d) D ((List.replicate 6 none).set 1 (some (.ref a))) μ := by
  have hm : mOk (some d) μ := fun dd e => by cases e; exact ⟨_, hd⟩
  have hz : 100 < sizeLine := by decide
  simp [S_law_told, hm, c.i_UnknownBinding_Contradiction, c.i_UnknownBinding_InvalidGap, c.i_UnknownBinding_InvalidLength, c.i_UnknownBinding_InvalidMap, c.i_UnknownBinding_InvalidNumber, c.i_UnknownBinding_InvalidStrokes, c.i_UnknownBinding_InvalidTick, c.i_UnknownBinding_TooManyKeys, c.i_UnknownBinding_UnknownBinding, c.i_UnknownBinding_ValueError, dEq_bl, List.countP_cons, List.findIdx?_cons, ty_lst']
  refine ⟨by omega, by omega, by omega, by omega, by omega, by omega, by omega, ⟨rfl, rfl, by decide⟩, ?_⟩
  refine ⟨okI, ?_⟩
  rw [if_pos deqI]
  refine ⟨⟨rfl, rfl, by decide⟩, 1, by omega, rfl, ?_⟩
  rw [if_pos (by decide)]
  refine ⟨_, rfl, by omega, ?_⟩
  rw [if_pos (by decide)]
  refine ⟨_, hd, v, by simp [List.lookup], by omega, ?_⟩
  exact o_addT.mpr ⟨by simp; omega, q⟩
theorem m_suiteG {a : Addr} (D : DEnds) (q : D.rt (.tup [.str "error", .str "InvalidGap"]) μ) :
    S_law_told P w c a c.x_InvalidGap none D ((List.replicate 6 none).set 1 (some (.ref a))) μ := by
  have hm : mOk none μ := fun dd e => by cases e
  have hz : 100 < sizeLine := by decide
  simp [S_law_told, hm, c.i_InvalidGap_Contradiction, c.i_InvalidGap_InvalidGap, c.i_InvalidGap_InvalidLength, c.i_InvalidGap_InvalidMap, c.i_InvalidGap_InvalidNumber, c.i_InvalidGap_InvalidStrokes, c.i_InvalidGap_InvalidTick, c.i_InvalidGap_TooManyKeys, c.i_InvalidGap_UnknownBinding, c.i_InvalidGap_ValueError, dEq_bl, List.countP_cons, List.findIdx?_cons, ty_lst']
  refine ⟨by omega, by omega, by omega, by omega, by omega, by omega, by omega, ⟨rfl, rfl, by decide⟩, ?_⟩
  refine ⟨okI, ?_⟩
  rw [if_pos deqI]
  refine ⟨⟨rfl, rfl, by decide⟩, 6, by omega, rfl, ?_⟩
  rw [if_pos (by decide)]
  refine ⟨_, rfl, by omega, ?_⟩
  refine ⟨by decide, okI, by rfl, ?_⟩
  exact o_addT.mpr ⟨by simp; omega, q⟩
end
end Lw

set_option Elab.async false
set_option linter.all false
set_option maxRecDepth 100000
namespace Lw
open PySem L2 Wl LamX
def lw11 (P : Program) (w : World) (c : Cs) (A_ : LamA) (E2 : DXS) : DS := sSeq (sAsg (vTup (vCons (vCall (sp_law_pick P w c) [] E2 (vCons (vV 1) (vCons (vLst (vCons (vUn gNeg (vC (.int 1))) (vCons (vCB gLen (vCons (vV 6) (vNil))) (vCons (vC .non) (vCons (vC (.bl true)) (vNil)))))) (vNil)))) (vCons (vCall (sp_law_pick P w c) [] E2 (vCons (vV 1) (vCons (vLst (vCons (vUn gNeg (vC (.int 1))) (vCons (vC (.int 100)) (vCons (vC .non) (vCons (vC (.bl true)) (vNil)))))) (vNil)))) (vNil)))) (dTup 2 (dCons (dName 19) (dCons (dName 20) (dNil))))) (sSeq (sAsg (vLstM (vCons (vLamA c.tab lamQ A_ 0) (vCons (vLamA c.tab lamQ A_ 1) (vNil)))) (dName 21)) (sSeq (sDrop (vBM "list" gAppend (vV 21) (vCons (vLamA c.tab lamQ A_ 2) (vNil)))) (sSeq (sAsg (vOp gAdd (vLst (vCons (vTup (vCons (vC (.str "error")) (vCons (vC (.str "UnknownBinding")) (vCons (vV 19) (vNil))))) (vNil))) (vOp gRep (vLst (vCons (vTup (vCons (vC (.str "error")) (vCons (vC (.str "InvalidGap")) (vNil)))) (vNil))) (vC (.int 2)))) (dName 15)) (sIf (vTest (vOp gNeM (vTells [22] (wSeq (vFrz (vV 21))) (dName 22) (vItemA A_ (ts_law P w c) (tt_law_told P w c) 22)) (vV 15))) (sRet (vC (.bl false))) (sNext)))))
def lw10 (P : Program) (w : World) (c : Cs) (A_ : LamA) (E2 : DXS) : DS := sSeq (sIf (vNot (vTru (vCall (sp_law_like P w c) [] E2 (vCons (vCall (sp_good_waits P w c) [] E2 (vCons (vV 7) (vCons (vV 8) (vCons (vV 10) (vCons (vV 11) (vNil)))))) (vCons (vFrz (vV 15)) (vNil)))))) (sRet (vC (.bl false))) (sNext)) (lw11 P w c A_ E2)
def lw8 (P : Program) (w : World) (c : Cs) (A_ : LamA) (E2 : DXS) : DS := sSeq (sAsg (vLstM (vNil)) (dName 15)) (sSeq (sFor (wRng2 (vCons (vC (.int 1)) (vCons (vC (.int 100)) (vNil)))) (dName 16) (sSeq (sAsg (vCall (sp_law_events P w c) [] E2 (vCons (vTup (vCons (vV 4) (vCons (vV 16) (vCons (vV 6) (vNil))))) (vCons (vV 12) (vNil)))) (dName 17))
 (sIf (vTest (vOp gEq (vComp [18] (wSeq (vV 17)) (dName 18) (vYes) (vTup (vCons (vOp gIx (vV 18) (vC (.int 0))) (vCons (vOp gIx (vV 18) (vC (.int 2))) (vNil))))) (vComp [14] (wSeq (vV 8)) (dName 14) (vYes) (vTup (vCons (vC (.str "command")) (vCons (vOp gIx (vOp gIx (vV 6) (vV 14)) (vC (.int 2))) (vNil))))))) (sDrop (vBM "list" gAppend (vV 15) (vCons (vV 16) (vNil)))) (sNext)))) (lw10 P w c A_ E2))
def lw7 (P : Program) (w : World) (c : Cs) (A_ : LamA) (E2 : DXS) : DS := sSeq (sFor (wSeq (vV 8)) (dName 14) (sFor (wRng1 (vCons (vCB gLen (vCons (vOp gIx (vOp gIx (vV 6) (vV 14)) (vC (.int 1))) (vNil))) (vNil))) (dName 9) (sSeq (sIf (vTest (vOp gNeM (vV 12) (vLst (vNil)))) (sAsg (vOp gAdd (vV 13) (vIf (vTest (vOp gGt (vV 9) (vC (.int 0)))) (vV 10) (vV 11))) (dName 13)) (sNext))
 (sDrop (vBM "list" gAppend (vV 12) (vCons (vTup (vCons (vV 13) (vCons (vOp gIx (vOp gIx (vOp gIx (vV 6) (vV 14)) (vC (.int 1))) (vV 9)) (vNil)))) (vNil))))))) (lw8 P w c A_ E2)
def lw4 (P : Program) (w : World) (c : Cs) (A_ : LamA) (E2 : DXS) : DS := sSeq (sAsg (vOp gAdd (vV 8) (vOp gRep (vSl (vV 8) (vNoPart) (vPart (vC (.int 1)))) (vCall (sp_law_next P w c) [] E2 (vCons (vV 1) (vCons (vC (.int 2)) (vNil)))))) (dName 8)) (sSeq (sPar 10 11 (vCons (vCall (sp_law_next P w c) [] E2 (vCons (vV 1) (vCons (vOp gIx (vLst (vCons (vC (.int 4)) (vCons (vC (.int 30)) (vNil)))) (vCall (sp_law_next P w c) [] E2 (vCons (vV 1) (vCons (vC (.int 2)) (vNil))))) (vNil)))) (vCons (vCall (sp_law_next P w c) [] E2 (vCons (vV 1) (vCons (vOp gIx (vLst (vCons (vC (.int 9)) (vCons (vC (.int 100)) (vNil)))) (vCall (sp_law_next P w c) [] E2 (vCons (vV 1) (vCons (vC (.int 2)) (vNil))))) (vNil)))) (vNil)))) (sSeq (sPar 12 13 (vCons (vLstM (vNil)) (vCons (vC (.int 0)) (vNil)))) (lw7 P w c A_ E2)))
theorem T_law_eq (P : Program) (w : World) (c : Cs) (A_ : LamA) (E2 : DXS) : T_law P w c A_ E2 = sSeq (sAsg (vCall (sp_law_dice P w c) [] E2 (vCons (vV 0) (vNil))) (dName 1)) (sSeq (sFor (wRng1 (vCons (vC (.int 2)) (vNil))) (dName 2) (sSeq (sAsg (vCall (sp_law_map P w c) [] E2 (vCons (vV 1) (vCons (vC (.int 2)) (vCons (vC (.str "abc")) (vCons (vC (.int 6)) (vCons (vC (.int 4)) (vCons (vC (.int 20)) (vNil)))))))) (dName 3)) (sSeq (sAsg (vV 3) (dTup 3 (dCons (dName 4) (dCons (dName 5) (dCons (dName 6) (dNil)))))) (sSeq (sAsg (vCall (sp_law_made P w c) [] E2 (vCons (vV 3) (vNil))) (dName 7)) (sSeq (sAsg (vComp [9] (wRng1 (vCons (vIf (vTest (vOp gNe (vV 6) (vTup (vNil)))) (vCall (sp_law_next P w c) [] E2 (vCons (vV 1) (vCons (vC (.int 4)) (vNil)))) (vC (.int 0))) (vNil))) (dName 9) (vYes) (vCall (sp_law_next P w c) [] noX (vCons (vV 1) (vCons (vCB gLen (vCons (vV 6) (vNil))) (vNil))))) (dName 8)) (lw4 P w c A_ E2)))))) (sRet (vC (.bl true)))) := rfl
end Lw

set_option Elab.async false
set_option linter.all false
set_option maxRecDepth 100000
namespace Wl
open PySem L2
section
variable {δ : DSt} {μ : Mu} {Q : DV} {D : DEnds} {E2 : DXS}
@[simp] theorem e_LamA {Pt : Addr} {q : Str} {A : LamA} {n : Nat} : vLamA Pt q A n δ μ Q ↔ μ Pt = some (.tab q) ∧ ∀ (μ1 : Mu) (f : Addr) (m : Mo), grown μ μ1 → μ1 f = none → A.is n f (mset μ1 f m) → Q (.ref f) (mset μ1 f m) := Iff.rfl
@[simp] theorem e_Tells {vs : List Nat} {wi : DI} {g : DG} {it : DSt → DE} : vTells vs wi g it δ μ Q ↔ wi δ μ fun ds μ1 => ∀ A, μ1 A = none → vLoop vs g vYes (it δ) δ A ds (mset μ1 A (.lst [])) fun acc μ2 => Q (.lst acc) (mdel μ2 A) := Iff.rfl
@[simp] theorem e_ItemA {A : LamA} {ts : List (DXS → DE)} {tt : DTL → Mu → DV → Prop} {i : Nat} {δ0 : DSt} : vItemA A ts tt i δ0 δ μ Q ↔ ∃ (f : Addr) (n : Nat) (t : DXS → DE), ts[n]? = some t ∧ δ[i]? = some (some (.ref f)) ∧ A.is n f μ ∧ tt (tdA A n f μ t δ0) μ Q := Iff.rfl
theorem loop_cons {vs : List Nat} {g : DG} {tt : DT} {te : DE} {A : Addr} {d : Dv} {ds : List Dv} {R : List Dv → Mu → Prop} : vLoop vs g tt te δ A (d :: ds) μ R ↔ g d (dwipe δ vs) μ fun δ1 μ1 => tt δ1 μ1 fun b μ2 => if b = true then te δ1 μ2 fun y μ3 => ∃ acc, μ3 A = some (.lst acc) ∧ acc.length < sizeLine ∧ vLoop vs g tt te δ A ds (mset μ3 A (.lst (acc ++ [y]))) R else vLoop vs g tt te δ A ds μ2 R := Iff.rfl
theorem loop_nil {vs : List Nat} {g : DG} {tt : DT} {te : DE} {A : Addr} {R : List Dv → Mu → Prop} : vLoop vs g tt te δ A [] μ R ↔ ∃ acc, μ A = some (.lst acc) ∧ R acc μ := Iff.rfl
theorem o_neM' {x y : Dv} {Q : DV} : gNeM x y μ Q ↔ gNe (dref μ x) (dref μ y) μ Q := Iff.rfl
theorem dref_at {a : Addr} {xs : List Dv} (h : μ a = some (.lst xs)) : dref μ (.ref a) = .lst xs := by unfold dref; simp only [h]
end
end Wl
namespace Lw
open PySem L2 Wl LamX
theorem grown_gr {μ μ1 : Mu} (h : grown μ μ1) : Gr μ μ1 := by
  rcases h with rfl | ⟨t, o, h1, rfl⟩
  · exact Gr.refl _
  · exact Gr.new h1
/-- what a lambda is stays while all but a place that is no such thing stays -/
theorem is_keep {A : LamA} {n : Nat} {f D : Addr} {m : Mo} {μ μ' : Mu} (h : A.is n f μ) (hf : μ f = some m) (hD : f ≠ D) (k : Keep D μ μ') (ho : ∀ o, μ D ≠ some (.oth o)) : A.is n f μ' :=
  A.keep n f μ μ' h (by rw [hf]; exact k f m hD hf) fun a o e => k a _ (fun z => ho o (by rw [← z]; exact e)) e
theorem is_gr {A : LamA} {n : Nat} {f : Addr} {m : Mo} {μ μ' : Mu} (h : A.is n f μ) (hf : μ f = some m) (k : Gr μ μ') : A.is n f μ' :=
  A.keep n f μ μ' h (by rw [hf]; exact k f m hf) fun a o e => k a _ e
theorem Gr.keep {D : Addr} {μ μ' : Mu} (h : Gr μ μ') : Keep D μ μ' := fun b m _ e => h b m e
section
variable {P : Program} {w : World} {c : Cs} {μ : Mu} {Q : DV} {E : DX}
/-- the state of the law between its turns -/
structure Lp (c : Cs) (a : Addr) (ns : List Int) (d0 : Option Dv) (δ : DSt) (μ : Mu) : Prop where
  st : ∃ l2 l3 l4 l5 l6 l7 l8 l9 l10 l11 l12 l13 l14 l15 l16 l17 l18 l19 l20 l21 l22 : Option Dv, δ = [d0, some (.ref a), l2, l3, l4, l5, l6, l7, l8, l9, l10, l11, l12, l13, l14, l15, l16, l17, l18, l19, l20, l21, l22]
  tab : μ c.tab = some (.tab lamQ)
  row : ∃ k1 k2 k3, μ a = some (dic ns k1 k2 k3) ∧ DicOk k1 k2
theorem map_keep {k D : Addr} {ms : List Str} {wt : Int} {bs : List Bd} {μ μ' : Mu} (h : MapAt c μ k ms wt bs) (hk : k ≠ D) (g : Keep D μ μ') : MapAt c μ' k ms wt bs := by
  obtain ⟨dx, h⟩ := h; exact ⟨dx, g _ _ hk h⟩
theorem m_tail {A_ : LamA} {a k : Addr} {ns : List Int} {m0 : Str} {ms : List Str} {wt : Int} {bs : List Bd} {L : List Nat} (ht : μ c.tab = some (.tab lamQ)) (hk : MapAt c μ k (m0 :: ms) wt bs) (K : MapK m0 ms bs L) (xs : List Int) (hv : ∀ x ∈ xs, 0 ≤ x ∧ x < (bs.length : Int)) (hx : xs.length ≤ 4)
    (ha : ∃ k1 k2 k3, μ a = some (dic ns k1 k2 k3) ∧ DicOk k1 k2) (D : DEnds) (d0 d2 d3 d4 d5 d9 d10 d11 d12 d13 d14 d15 d16 d17 d18 d19 d20 d21 d22 : Option Dv)
    (q : ∀ δ' μ', Lp c a ns d0 δ' μ' → D.nx δ' μ') :
    lw11 P w c A_ (fun _ _ _ _ => False) D [d0, some (.ref a), d2, d3, d4, d5, some (.tup (bs.map Bd.dv)), some (.ref k), some (.lst (xs.map Dv.int)), d9, d10, d11, d12, d13, d14, d15, d16, d17, d18, d19, d20, d21, d22] μ := by
  have hz : 20000 < sizeLine := by decide
  have hbl := K.good.len
  obtain ⟨k1, k2, k3, ha, ho⟩ := ha
  have hka : k ≠ a := fun e => by obtain ⟨dk, hk'⟩ := hk; rw [e, ha] at hk'; cases hk'
  have hta : c.tab ≠ a := fun e => by rw [e, ha] at ht; cases ht
  simp [lw11]
  refine ⟨by omega, ?_⟩
  refine m_pick_lst a ns k1 k2 k3 _ (by simp) (by simp) ha ho fun bad j1 j2 j3 hb ho1 => ?_
  refine ⟨by omega, ?_⟩
  refine m_pick_lst a ns j1 j2 j3 _ (by simp) (by simp) mset_at ho1 fun gap i1 i2 i3 hg ho2 => ?_
  have hbad : Odd bad 0 ((bs.length : Int) - 1) := ⟨by
    simp at hb
    rcases hb with rfl | rfl | rfl | rfl
    · exact .inr (.inr ⟨_, rfl, by omega⟩)
    · exact .inr (.inr ⟨_, rfl, by omega⟩)
    · exact .inl rfl
    · exact .inr (.inl rfl)⟩
  have hgap : Odd gap 0 99 := ⟨by
    simp at hg
    rcases hg with rfl | rfl | rfl | rfl
    · exact .inr (.inr ⟨_, rfl, by omega⟩)
    · exact .inr (.inr ⟨_, rfl, by omega⟩)
    · exact .inl rfl
    · exact .inr (.inl rfl)⟩
  rw [mset_mset]
  have ht1 : (mset μ a (dic ns i1 i2 i3)) c.tab = some (.tab lamQ) := by rw [mset_off hta]; exact ht
  have hk1 : MapAt c (mset μ a (dic ns i1 i2 i3)) k (m0 :: ms) wt bs := map_keep hk hka keep_set
  have ha1 : (mset μ a (dic ns i1 i2 i3)) a = some (dic ns i1 i2 i3) := mset_at
  generalize mset μ a (dic ns i1 i2 i3) = μ1 at ht1 hk1 ha1
  refine ⟨by omega, ht1, ?_⟩
  intro μ2 f0 n0 g2 hf0 hA0
  have G2 : Gr μ1 (mset μ2 f0 n0) := (grown_gr g2).trans (Gr.new hf0)
  have z0 : (mset μ2 f0 n0) f0 = some n0 := mset_at
  generalize mset μ2 f0 n0 = μ3 at hA0 G2 z0
  refine ⟨G2 _ _ ht1, ?_⟩
  intro μ4 f1 n1 g4 hf1 hA1
  have G4 : Gr μ3 (mset μ4 f1 n1) := (grown_gr g4).trans (Gr.new hf1)
  have z1 : (mset μ4 f1 n1) f1 = some n1 := mset_at
  generalize mset μ4 f1 n1 = μ5 at hA1 G4 z1
  refine ⟨by omega, ?_⟩
  intro p hp
  have G5 : Gr μ5 (mset μ5 p (.lst [.ref f0, .ref f1])) := Gr.new hp
  have zp : (mset μ5 p (.lst [.ref f0, .ref f1])) p = some (.lst [.ref f0, .ref f1]) := mset_at
  refine ⟨(ty_ref zp).mpr rfl, ?_⟩
  refine ⟨G5 _ _ (G4 _ _ (G2 _ _ ht1)), ?_⟩
  intro μ6 f2 n2 g6 hf2 hA2
  have G6 : Gr (mset μ5 p (.lst [.ref f0, .ref f1])) (mset μ6 f2 n2) := (grown_gr g6).trans (Gr.new hf2)
  have z2 : (mset μ6 f2 n2) f2 = some n2 := mset_at
  have hpf : p ≠ f2 := fun e => by
    have := grown_gr g6 _ _ zp
    rw [e, hf2] at this; cases this
  generalize mset μ6 f2 n2 = μ7 at hA2 G6 z2
  have zp7 := G6 _ _ zp
  have G7 : Gr μ5 μ7 := G5.trans G6
  have p0 : f0 ≠ p := fun e => by have := G4 _ _ z0; rw [e, hp] at this; cases this
  have p1 : f1 ≠ p := fun e => by rw [e, hp] at z1; cases z1
  have b0 : A_.is 0 f0 μ7 := is_gr hA0 z0 (G4.trans G7)
  have b1 : A_.is 1 f1 μ7 := is_gr hA1 z1 G7
  have v0 : μ7 f0 = some n0 := G7 _ _ (G4 _ _ z0)
  have v1 : μ7 f1 = some n1 := G7 _ _ z1
  have G8 : Gr μ1 μ7 := (G2.trans G4).trans G7
  refine ⟨_, zp7, by simp; omega, by omega, by omega, by omega, by omega, ?_⟩
  have hpn : μ1 p = none := by
    cases e : μ1 p with
    | none => rfl
    | some m => have := G4 _ _ (G2 _ _ e); rw [hp] at this; cases this
  have K9 : Keep p μ7 (mdel (mset μ7 p (.lst [.ref f0, .ref f1, .ref f2])) p) := fun b m hb e => by
    show (if b = p then none else _) = _
    rw [if_neg hb, mset_off hb]; exact e
  have hno : ∀ o, μ7 p ≠ some (.oth o) := fun o e => by rw [zp7] at e; cases e
  have c0 := is_keep b0 v0 p0 K9 hno
  have c1 := is_keep b1 v1 p1 K9 hno
  have c2 := is_keep hA2 z2 hpf.symm K9 hno
  have u0 := K9 _ _ p0 v0
  have u1 := K9 _ _ p1 v1
  have u2 := K9 _ _ hpf.symm z2
  refine ⟨by omega, by omega, ?_⟩
  have K10 : Keep p μ1 (mdel (mset μ7 p (.lst [.ref f0, .ref f1, .ref f2])) p) := (G8.keep).trans K9
  have tp : c.tab ≠ p := fun e => by rw [← e, ht1] at hpn; cases hpn
  have kp : k ≠ p := fun e => by obtain ⟨dk, hk'⟩ := hk1; rw [← e, hk'] at hpn; cases hpn
  have ap : a ≠ p := fun e => by rw [← e, ha1] at hpn; cases hpn
  have t9 := K10 _ _ tp ht1
  have a9 := K10 _ _ ap ha1
  have k9 := map_keep hk1 kp K10
  rw [show [Dv.ref f0, Dv.ref f1] ++ [Dv.ref f2] = [Dv.ref f0, Dv.ref f1, Dv.ref f2] from rfl]
  generalize mdel (mset μ7 p (.lst [.ref f0, .ref f1, .ref f2])) p = μ9 at c0 c1 c2 u0 u1 u2 t9 a9 k9
  intro A hA
  have fA : ∀ {b : Addr} {m : Mo}, μ9 b = some m → b ≠ A := fun h e => by rw [e, hA] at h; cases h
  have kA : k ≠ A := by obtain ⟨dk, hk'⟩ := k9; exact fA hk'
  have K0 : ∀ m, Keep A μ9 (mset μ9 A m) := fun m => keep_set
  have nA : ∀ o, μ9 A ≠ some (.oth o) := fun o e => by rw [hA] at e; cases e
  -- the first call
  refine loop_cons.mpr ?_
  simp [dwipe]
  refine ⟨f0, 0, _, rfl, rfl, is_keep c0 u0 (fA u0) (K0 _) nA, ?_⟩
  show _ ∧ _ ∧ _
  refine ⟨rfl, is_keep c0 u0 (fA u0) (K0 _) nA, ?_⟩
  simp
  refine ⟨by omega, by omega, ?_⟩
  refine m_good_odd (map_keep k9 kA (K0 _)) hbl xs bad gap gap hv hbad fun dd hdd => ⟨c.i_UnknownBinding_MapError, fun ea hea => m_suite _ mset_at ?_⟩
  have dA : dd ≠ A := fun e => by rw [e, mset_at] at hdd; cases hdd
  have hdd9 : μ9 dd = none := by rw [mset_off dA] at hdd; exact hdd
  have K1 : ∀ m, Keep A μ9 (mset (mset (mset μ9 A (.lst [])) dd (.xd [("index", bad)])) A m) := fun m b n hb e => by
    rw [mset_off hb, mset_off (fun q => by rw [q, hdd9] at e; cases e), mset_off hb]; exact e
  refine ⟨_, by rw [mset_off dA.symm, mset_at], by simp; omega, ?_⟩
  simp only [List.nil_append]
  have A1 : (mset (mset (mset μ9 A (.lst [])) dd (.xd [("index", bad)])) A (.lst [.tup [.str "error", .str "UnknownBinding", bad]])) A = some (.lst [.tup [.str "error", .str "UnknownBinding", bad]]) := mset_at
  have K1 := K1 (.lst [.tup [.str "error", .str "UnknownBinding", bad]])
  generalize mset (mset (mset μ9 A (.lst [])) dd (.xd [("index", bad)])) A (.lst [.tup [.str "error", .str "UnknownBinding", bad]]) = μA at A1 K1
  -- the second
  refine loop_cons.mpr ?_
  simp [dwipe]
  refine ⟨f1, 1, _, rfl, rfl, is_keep c1 u1 (fA u1) K1 nA, ?_⟩
  show _ ∧ _ ∧ _
  refine ⟨rfl, is_keep c1 u1 (fA u1) K1 nA, ?_⟩
  simp
  refine m_good_gap1 (map_keep k9 kA K1) hbl xs gap _ hv hgap ⟨c.i_InvalidGap_MapError, fun ea hea => m_suiteG _ ?_⟩
  refine ⟨_, A1, by simp; omega, ?_⟩
  simp only [List.cons_append, List.nil_append]
  have A2 : (mset μA A (.lst [.tup [.str "error", .str "UnknownBinding", bad], .tup [.str "error", .str "InvalidGap"]])) A = some (.lst [.tup [.str "error", .str "UnknownBinding", bad], .tup [.str "error", .str "InvalidGap"]]) := mset_at
  have K2 : Keep A μ9 (mset μA A (.lst [.tup [.str "error", .str "UnknownBinding", bad], .tup [.str "error", .str "InvalidGap"]])) := K1.trans keep_set
  generalize mset μA A (.lst [.tup [.str "error", .str "UnknownBinding", bad], .tup [.str "error", .str "InvalidGap"]]) = μB at A2 K2
  -- the third
  refine loop_cons.mpr ?_
  simp [dwipe]
  refine ⟨f2, 2, _, rfl, rfl, is_keep c2 u2 (fA u2) K2 nA, ?_⟩
  show _ ∧ _ ∧ _
  refine ⟨rfl, is_keep c2 u2 (fA u2) K2 nA, ?_⟩
  simp
  refine m_good_gap2 (map_keep k9 kA K2) hbl xs 0 gap hv ⟨by omega, by omega⟩ hgap ⟨c.i_InvalidGap_MapError, fun ea hea => m_suiteG _ ?_⟩
  refine ⟨_, A2, by simp; omega, ?_⟩
  simp only [List.cons_append, List.nil_append]
  refine loop_nil.mpr ⟨_, mset_at, ?_⟩
  refine o_neM'.mpr ?_
  have e1 : eqOk (.lst [.tup [.str "error", .str "UnknownBinding", bad], .tup [.str "error", .str "InvalidGap"], .tup [.str "error", .str "InvalidGap"]]) (.lst [.tup [.str "error", .str "UnknownBinding", bad], .tup [.str "error", .str "InvalidGap"], .tup [.str "error", .str "InvalidGap"]]) := by
    rcases hbad.is with rfl | rfl | ⟨i, rfl, -⟩ <;> exact ⟨rfl, rfl, Nat.le_of_ble_eq_true rfl⟩
  refine ⟨e1, ?_⟩
  show tst (.bl (!dEq (.lst _) (.lst _))) _
  rw [show dEq (.lst [.tup [.str "error", .str "UnknownBinding", bad], .tup [.str "error", .str "InvalidGap"], .tup [.str "error", .str "InvalidGap"]]) (.lst [.tup [.str "error", .str "UnknownBinding", bad], .tup [.str "error", .str "InvalidGap"], .tup [.str "error", .str "InvalidGap"]]) = true from dEq_refl _]
  simp
  have K3 : Keep A μ9 (mdel (mset μB A (.lst [.tup [.str "error", .str "UnknownBinding", bad], .tup [.str "error", .str "InvalidGap"], .tup [.str "error", .str "InvalidGap"]])) A) := fun b m hb e => by
    show (if b = A then none else _) = _
    rw [if_neg hb, mset_off hb]; exact K2 b m hb e
  exact q _ _ ⟨⟨_, _, _, _, _, _, _, _, _, _, _, _, _, _, _, _, _, _, _, _, _, rfl⟩, K3 _ _ (fA t9) t9, _, _, _, K3 _ _ (fA a9) a9, ho2⟩
end
end Lw

set_option Elab.async false
set_option linter.all false
set_option maxRecDepth 100000
namespace Lw
open PySem L2 Wl
theorem names2_word : ∀ m ∈ names2, Word m 8 := by
  intro m hm
  unfold names2 at hm
  rcases List.mem_cons.mp hm with rfl | hm
  · exact ⟨by decide +kernel, by decide +kernel, by decide +kernel⟩
  rcases List.mem_cons.mp hm with rfl | hm
  · exact ⟨by decide +kernel, by decide +kernel, by decide +kernel⟩
  rcases List.mem_cons.mp hm with rfl | hm
  · exact ⟨by decide +kernel, by decide +kernel, by decide +kernel⟩
  rcases List.mem_cons.mp hm with rfl | hm
  · exact ⟨by decide +kernel, by decide +kernel, by decide +kernel⟩
  cases hm
theorem cmds2_word : ∀ m ∈ cmds2, Word m 8 := by
  intro m hm
  unfold cmds2 at hm
  rcases List.mem_cons.mp hm with rfl | hm
  · exact ⟨by decide +kernel, by decide +kernel, by decide +kernel⟩
  rcases List.mem_cons.mp hm with rfl | hm
  · exact ⟨by decide +kernel, by decide +kernel, by decide +kernel⟩
  rcases List.mem_cons.mp hm with rfl | hm
  · exact ⟨by decide +kernel, by decide +kernel, by decide +kernel⟩
  rcases List.mem_cons.mp hm with rfl | hm
  · exact ⟨by decide +kernel, by decide +kernel, by decide +kernel⟩
  rcases List.mem_cons.mp hm with rfl | hm
  · exact ⟨by decide +kernel, by decide +kernel, by decide +kernel⟩
  cases hm
theorem names2_nodup : names2.Nodup := by decide +kernel
structure MapOk (m0 : Str) (ms : List Str) (wt : Int) (bs : List Bd) : Prop where
  good : Good bs
  len : (m0 :: ms).length ≤ 4
  word : ∀ m ∈ m0 :: ms, Word m 8
  nodup : (m0 :: ms).Nodup
  wt : 1 ≤ wt ∧ wt ≤ 99
  bd : ∀ b ∈ bs, BdOk (m0 :: ms) b
theorem Parts2.ok {L : List Nat} (hL : ∀ x ∈ L, x ∈ alpha) {mm rows most wm : Nat} {ms : List Str} {wt : Int} {bs : List Bd} (hm4 : mm ≤ 4) (hr : rows ≤ 30) (h6 : most ≤ 6) (hw : wm ≤ 99) (h : Parts2 L mm rows most wm ms wt bs) : ∃ m0 ms', ms = m0 :: ms' ∧ MapOk m0 ms' wt bs := by
  obtain ⟨n, h1, h2, h3⟩ := h.mods
  cases n with
  | zero => omega
  | succ n =>
    have e : ms = ("n" : Str) :: (List.take n (["i", "vv", "omega"] : List Str)) := by rw [h3]; rfl
    refine ⟨_, _, e, ⟨⟨by have := h.len; omega, fun b hb => ?_, h.nodup⟩, ?_, ?_, ?_, ⟨h.wt.1, by have := h.wt.2; omega⟩, fun b hb => ?_⟩⟩
    · have := h.keys b hb; exact ⟨this.1, by omega⟩
    · simp; omega
    · rw [← e, h3]
      exact fun m hm => names2_word m (List.mem_of_mem_take hm)
    · rw [← e, h3]
      exact (List.take_sublist _ _).nodup names2_nodup
    · obtain ⟨k1, k2, k3⟩ := h.mode b hb
      obtain ⟨k4, k5, k6⟩ := h.keys b hb
      exact ⟨e ▸ k1, e ▸ k2, ⟨k4, by omega, fun ch hc => hL ch (k6 ch hc)⟩, cmds2_word _ k3⟩
end Lw

set_option Elab.async false
set_option linter.all false
set_option maxRecDepth 100000
namespace Lw
open PySem L2 Wl LamX
section
variable {P : Program} {w : World} {c : Cs} {μ : Mu} {Q : DV} {E : DX}
theorem sml_ints (l : List Int) (h : l.length ≤ 2000) : Sml 1 (.lst (l.map Dv.int)) = true := by
  simp only [Sml, Bool.and_eq_true, decide_eq_true_eq]
  exact ⟨by simpa using h, List.all_eq_true.mpr fun z hz' => by obtain ⟨b, _, rfl⟩ := List.mem_map.mp hz'; rfl⟩
theorem m_l10 {A_ : LamA} {a k g : Addr} {ns : List Int} {m0 : Str} {ms : List Str} {wt : Int} {bs : List Bd} {L : List Nat} (ht : μ c.tab = some (.tab lamQ)) (hk : MapAt c μ k (m0 :: ms) wt bs) (K : MapK m0 ms bs L) (xs : List Int) (hv : ∀ x ∈ xs, 0 ≤ x ∧ x < (bs.length : Int)) (hx : xs.length ≤ 4)
    (inner outer : Int) (hi : 0 ≤ inner ∧ inner ≤ 99) (ho : 0 ≤ outer ∧ outer ≤ 99)
    (ha : ∃ k1 k2 k3, μ a = some (dic ns k1 k2 k3) ∧ DicOk k1 k2) (hga : g ≠ a)
    (hg : μ g = some (.lst ((wl (gw bs m0 (tyS inner outer (kss (sel bs xs))) (due (sel bs xs))) 99).map Dv.int))) (D : DEnds) (d0 d2 d3 d4 d5 d9 d12 d13 d14 d16 d17 d18 d19 d20 d21 d22 : Option Dv)
    (q : ∀ δ' μ', Lp c a ns d0 δ' μ' → D.nx δ' μ') :
    lw10 P w c A_ (fun _ _ _ _ => False) D [d0, some (.ref a), d2, d3, d4, d5, some (.tup (bs.map Bd.dv)), some (.ref k), some (.lst (xs.map Dv.int)), d9, some (.int inner), some (.int outer), d12, d13, d14, some (.ref g), d16, d17, d18, d19, d20, d21, d22] μ := by
  have hz : 20000 < sizeLine := by decide
  simp [lw10]
  refine m_good hk K xs hv hx inner outer hi ho fun μ1 G1 => ?_
  refine ⟨_, G1 _ _ hg, ?_⟩
  have hl := wl_len (gw bs m0 (tyS inner outer (kss (sel bs xs))) (due (sel bs xs))) 99
  refine m_like 1 _ 40 (sml_ints _ (by omega)) (by decide) ?_
  simp
  have hb : ∀ {b : Addr} {m : Mo}, b ≠ g → μ b = some m → (mdel μ1 g) b = some m := fun {b} {m} h e => by
    show (if b = g then none else μ1 b) = _
    rw [if_neg h]; exact G1 _ _ e
  obtain ⟨k1, k2, k3, ha, hd⟩ := ha
  have htg : c.tab ≠ g := fun e => by rw [e, hg] at ht; cases ht
  have hkg : k ≠ g := fun e => by obtain ⟨dk, hk'⟩ := hk; rw [e, hg] at hk'; cases hk'
  obtain ⟨dk, hk'⟩ := hk
  exact m_tail (hb htg ht) ⟨dk, hb hkg hk'⟩ K xs hv hx ⟨k1, k2, k3, hb hga.symm ha, hd⟩ D _ _ _ _ _ _ _ _ _ _ _ _ _ _ _ _ _ _ _ q
theorem m_l8 {A_ : LamA} {a k p : Addr} {ns : List Int} {m0 : Str} {ms : List Str} {wt : Int} {bs : List Bd} {L : List Nat} (ht : μ c.tab = some (.tab lamQ)) (hk : MapAt c μ k (m0 :: ms) wt bs) (K : MapK m0 ms bs L) (xs : List Int) (hv : ∀ x ∈ xs, 0 ≤ x ∧ x < (bs.length : Int)) (hx : xs.length ≤ 4)
    (inner outer : Int) (hi : 0 ≤ inner ∧ inner ≤ 99) (ho : 0 ≤ outer ∧ outer ≤ 99)
    (ha : ∃ k1 k2 k3, μ a = some (dic ns k1 k2 k3) ∧ DicOk k1 k2)
    (hp : μ p = some (.lst ((tyS inner outer (kss (sel bs xs))).map stk))) (D : DEnds) (d0 d2 d3 d5 d9 d13 d14 d15 d16 d17 d18 d19 d20 d21 d22 : Option Dv)
    (q : ∀ δ' μ', Lp c a ns d0 δ' μ' → D.nx δ' μ') :
    lw8 P w c A_ (fun _ _ _ _ => False) D [d0, some (.ref a), d2, d3, some (.tup ((m0 :: ms).map Dv.str)), d5, some (.tup (bs.map Bd.dv)), some (.ref k), some (.lst (xs.map Dv.int)), d9, some (.int inner), some (.int outer), some (.ref p), d13, d14, d15, d16, d17, d18, d19, d20, d21, d22] μ := by
  have hz : 20000 < sizeLine := by decide
  have hbl := K.good.len
  have tk := TyOk.foldB (inner := inner) (outer := outer) ⟨hi.1, by omega⟩ ⟨ho.1, by omega⟩ (L := L) (z := 4) (kss (sel bs xs)) 0 [] (TyOk.nil _ _) (fun ks hks => by
    obtain ⟨b, h1, h2⟩ := List.mem_map.mp hks
    have h3 := K.keys b (sel_mem h1)
    subst h2
    exact ⟨by simpa using h3.1, h3.2⟩)
  have hsl := sel_len bs xs
  have hss : (tyS inner outer (kss (sel bs xs))).length ≤ 16 := by
    have := tk.len
    have e : (kss (sel bs xs)).length = (sel bs xs).length := by simp [kss]
    unfold tyS
    omega
  simp [lw8]
  intro g hg
  have hpg : p ≠ g := fun e => by rw [e, hg] at hp; cases hp
  have hag : a ≠ g := fun e => by obtain ⟨_, _, _, h, _⟩ := ha; rw [e, hg] at h; cases h
  refine loop_inv _ (fun i δ μ' => (∃ l14 l16 l17 l18 : Option Dv, δ = [d0, some (.ref a), d2, d3, some (.tup ((m0 :: ms).map Dv.str)), d5, some (.tup (bs.map Bd.dv)), some (.ref k), some (.lst (xs.map Dv.int)), d9, some (.int inner), some (.int outer), some (.ref p), d13, l14, some (.ref g), l16, l17, l18, d19, d20, d21, d22]) ∧ i ≤ 99 ∧ Gr μ μ' ∧ μ' g = some (.lst ((wl (gw bs m0 (tyS inner outer (kss (sel bs xs))) (due (sel bs xs))) i).map Dv.int))) 0
    ⟨⟨_, _, _, _, rfl⟩, by omega, Gr.new hg, mset_at⟩ ?_ ?_
  · rintro i d δ μ' C hd ⟨⟨l14, l16, l17, l18, rfl⟩, hi9, G', hgl⟩ hC
    obtain ⟨hi99, rfl⟩ := irange_at' hd
    rw [show 0 + i = i by omega] at hgl
    have hp' := G' _ _ hp
    simp
    refine ⟨by omega, ?_⟩
    refine m_events (m0 := m0) (ms := ms) (wt := 1 + (i : Int)) (bs := bs) K.good (tyS inner outer (kss (sel bs xs))) hss p hp' fun μ2 G2 => ?_
    simp
    have hhl := hapT_len bs (1 + (i : Int)) m0 (tyS inner outer (kss (sel bs xs)))
    intro B2 hB2
    refine comp_at hB2 (fun d => match d with | .tup [.str a, _, .str b, _] => some (prD (a, b)) | _ => none) ((hapT bs (1 + (i : Int)) m0 (tyS inner outer (kss (sel bs xs)))).map levD) (by simp; omega) (fun d hd acc C2 hla hC2 => ?_) ?_
    · obtain ⟨e, hem, rfl⟩ := List.mem_map.mp hd
      have hC2 : C2 (mset μ2 B2 (.lst (acc ++ [prD (e.1.1, e.1.2.2.1)]))) := hC2
      simp [levD, dwipe, bt0, bt2]
      exact ⟨by omega, hla, hC2⟩
    · have eh : ((hapT bs (1 + (i : Int)) m0 (tyS inner outer (kss (sel bs xs)))).map levD).filterMap (fun d => match d with | .tup [.str a, _, .str b, _] => some (prD (a, b)) | _ => none) = ((hap bs (1 + (i : Int)) m0 (tyS inner outer (kss (sel bs xs)))).map fun e => (e.1, e.2.2.1)).map prD := by
        rw [List.filterMap_map, hap_T, List.map_map, List.map_map, ← List.filterMap_eq_map]
        rfl
      rw [eh, mdel_mset hB2]
      intro B3 hB3
      refine comp_at hB3 (fun d => match d with | .int x => (bs[x.toNat]?).map fun b => prD ("command", b.cmd) | _ => none) (xs.map Dv.int) (by simp; omega) (fun d hd acc C3 hla hC3 => ?_) ?_
      · obtain ⟨x, hxm, rfl⟩ := List.mem_map.mp hd
        obtain ⟨x0, x1⟩ := hv x hxm
        have hgt : bs[x.toNat]? = some (bs[x.toNat]'(by omega)) := List.getElem?_eq_getElem _
        have hC3 : C3 (mset μ2 B3 (.lst (acc ++ ((bs[x.toNat]?).map fun b => prD ("command", b.cmd)).toList))) := hC3
        rw [hgt] at hC3
        simp at hC3
        simp [dwipe]
        simp [atI, ixN, x0, x1, Bd.dv]
        exact ⟨by omega, hla, hC3⟩
      · have ef : (xs.map Dv.int).filterMap (fun d => match d with | .int x => (bs[x.toNat]?).map fun b => prD ("command", b.cmd) | _ => none) = (due (sel bs xs)).map prD := by
          rw [List.filterMap_map]
          unfold due sel
          rw [List.map_map, List.map_filterMap]
          rfl
        rw [ef, mdel_mset hB3]
        obtain ⟨h1, h2⟩ := prD_eq ((hap bs (1 + (i : Int)) m0 (tyS inner outer (kss (sel bs xs)))).map fun e => (e.1, e.2.2.1)) (due (sel bs xs))
        refine ⟨h1, ?_⟩
        rw [h2]
        have hgl3 : μ2 g = some (.lst ((wl (gw bs m0 (tyS inner outer (kss (sel bs xs))) (due (sel bs xs))) i).map Dv.int)) := G2 _ _ hgl
        have hwl := wl_len (gw bs m0 (tyS inner outer (kss (sel bs xs))) (due (sel bs xs))) i
        have hG : Gr μ μ2 := G'.trans G2
        split
        · rename_i hzz
          simp [ty_ref hgl3]
          refine ⟨_, hgl3, by simp; omega, hC _ _ ⟨⟨_, _, _, _, rfl⟩, by omega, fun b m e => ?_, ?_⟩⟩
          · have hbg : b ≠ g := fun z => by rw [z, hg] at e; cases e
            rw [mset_off hbg]; exact hG _ _ e
          · rw [mset_at, show 0 + i + 1 = i + 1 by omega]
            have hf : gw bs m0 (tyS inner outer (kss (sel bs xs))) (due (sel bs xs)) (1 + (i : Int)) = true := hzz
            simp [wl, hf]
        · rename_i hzz
          refine hC _ _ ⟨⟨_, _, _, _, rfl⟩, by omega, hG, ?_⟩
          rw [hgl3, show 0 + i + 1 = i + 1 by omega]
          have hf : gw bs m0 (tyS inner outer (kss (sel bs xs))) (due (sel bs xs)) (1 + (i : Int)) = false := by
            cases zz : gw bs m0 (tyS inner outer (kss (sel bs xs))) (due (sel bs xs)) (1 + (i : Int)) with
            | false => rfl
            | true => exact absurd zz hzz
          simp [wl, hf]
  · rintro δ μ' ⟨⟨l14, l16, l17, l18, rfl⟩, hi9, G', hgl⟩
    have hn : 0 + (irange 1 99).length = 99 := by simp [irange]
    rw [hn] at hgl
    obtain ⟨k1, k2, k3, ha, hd⟩ := ha
    exact m_l10 (G' _ _ ht) (by obtain ⟨dx, h⟩ := hk; exact ⟨dx, G' _ _ h⟩) K xs hv hx inner outer hi ho ⟨k1, k2, k3, G' _ _ ha, hd⟩ hag.symm hgl D _ _ _ _ _ _ _ _ _ _ _ _ _ _ _ _ q
end
end Lw

set_option Elab.async false
set_option linter.all false
set_option maxRecDepth 100000
namespace Lw
open PySem L2 Wl LamX
theorem sel_all {bs : List Bd} : ∀ {xs : List Int}, (∀ x ∈ xs, 0 ≤ x ∧ x < (bs.length : Int)) → (sel bs xs).length = xs.length ∧ ∀ (i : Nat) (x : Int), xs[i]? = some x → (sel bs xs)[i]? = bs[x.toNat]?
  | [], _ => ⟨rfl, fun i x h => by simp at h⟩
  | x :: xs, h => by
    obtain ⟨h1, h2⟩ := sel_all (bs := bs) (xs := xs) fun y hy => h y (List.mem_cons_of_mem _ hy)
    obtain ⟨x0, x1⟩ := h x List.mem_cons_self
    have hg : bs[x.toNat]? = some (bs[x.toNat]'(by omega)) := List.getElem?_eq_getElem _
    have e : sel bs (x :: xs) = bs[x.toNat]'(by omega) :: sel bs xs := by
      unfold sel
      rw [List.filterMap_cons, hg]
    rw [e]
    refine ⟨by simp [h1], fun i y hy => ?_⟩
    cases i with
    | zero => simp at hy; subst hy; rw [hg]; rfl
    | succ i => simp at hy ⊢; exact h2 i y hy
theorem stk_cln (ss : List (Int × Nat)) : Cln 2 (.lst (ss.map stk)) = true := by simp [Cln, List.all_eq_true, stk]
theorem stk_nil (ss : List (Int × Nat)) : eqOk (.lst (ss.map stk)) (.lst []) ∧ dEq (.lst (ss.map stk)) (.lst []) = decide (ss = []) := by
  refine ⟨cln_ok (n := 2) (m := 2) (stk_cln ss) rfl (by omega), ?_⟩
  have h := cln_eq 2 2 (.lst (ss.map stk)) (.lst []) (stk_cln ss) rfl
  by_cases e : ss = []
  · rw [decide_eq_true e]; exact h.mpr (by rw [e]; rfl)
  · rw [decide_eq_false e]
    cases z : dEq (.lst (ss.map stk)) (.lst []) with
    | false => rfl
    | true =>
      have := h.mp z
      rw [Dv.lst.injEq, List.map_eq_nil_iff] at this
      exact absurd this e
section
variable {P : Program} {w : World} {c : Cs} {μ : Mu}
theorem m_l7 {A_ : LamA} {a k p : Addr} {ns : List Int} {m0 : Str} {ms : List Str} {wt : Int} {bs : List Bd} {L : List Nat} (ht : μ c.tab = some (.tab lamQ)) (hk : MapAt c μ k (m0 :: ms) wt bs) (K : MapK m0 ms bs L) (xs : List Int) (hv : ∀ x ∈ xs, 0 ≤ x ∧ x < (bs.length : Int)) (hx : xs.length ≤ 4)
    (inner outer : Int) (hi : 0 ≤ inner ∧ inner ≤ 99) (ho : 0 ≤ outer ∧ outer ≤ 99)
    (ha : ∃ k1 k2 k3, μ a = some (dic ns k1 k2 k3) ∧ DicOk k1 k2)
    (hp : μ p = none) (D : DEnds) (d0 d2 d3 d5 d9 d14 d15 d16 d17 d18 d19 d20 d21 d22 : Option Dv)
    (q : ∀ δ' μ', Lp c a ns d0 δ' μ' → D.nx δ' μ') :
    lw7 P w c A_ (fun _ _ _ _ => False) D [d0, some (.ref a), d2, d3, some (.tup ((m0 :: ms).map Dv.str)), d5, some (.tup (bs.map Bd.dv)), some (.ref k), some (.lst (xs.map Dv.int)), d9, some (.int inner), some (.int outer), some (.ref p), some (.int 0), d14, d15, d16, d17, d18, d19, d20, d21, d22] (mset μ p (.lst [])) := by
  have hz : 20000 < sizeLine := by decide
  have hbl := K.good.len
  obtain ⟨sl, sa⟩ := sel_all hv
  have hbs : ∀ {n : Nat}, ∀ ks ∈ (kss (sel bs xs)).take n, ks.length ≤ 4 ∧ ∀ k ∈ ks, k ∈ L := fun {n} ks hks => by
    obtain ⟨b, h1, h2⟩ := List.mem_map.mp (List.mem_of_mem_take hks)
    have h3 := K.keys b (sel_mem h1)
    subst h2
    exact ⟨by simpa using h3.1, h3.2⟩
  simp [lw7]
  refine loop_inv _ (fun i δ μ' => (∃ l9 l14 : Option Dv, δ = [d0, some (.ref a), d2, d3, some (.tup ((m0 :: ms).map Dv.str)), d5, some (.tup (bs.map Bd.dv)), some (.ref k), some (.lst (xs.map Dv.int)), l9, some (.int inner), some (.int outer), some (.ref p), some (.int (lastT (((kss (sel bs xs)).take i).foldl (tyB inner outer) []))), l14, d15, d16, d17, d18, d19, d20, d21, d22]) ∧ μ' p = some (.lst ((((kss (sel bs xs)).take i).foldl (tyB inner outer) []).map stk)) ∧ ∀ b, b ≠ p → μ' b = μ b) 0
    ⟨⟨_, _, rfl⟩, mset_at, fun b hb => mset_off hb⟩ ?_ ?_
  · rintro i d δ μ' C hd ⟨⟨l9, l14, rfl⟩, hpl, hoff⟩ hC
    rw [List.getElem?_map] at hd
    cases hm : xs[i]? with
    | none => rw [hm] at hd; cases hd
    | some x =>
      rw [hm] at hd
      cases hd
      obtain ⟨x0, x1⟩ := hv x (List.mem_of_getElem? hm)
      have hsel := sa i x hm
      have hg : bs[x.toNat]? = some (bs[x.toNat]'(by omega)) := List.getElem?_eq_getElem _
      generalize hb : bs[x.toNat]'(by omega) = b at hg
      rw [hg] at hsel
      have hbm : b ∈ bs := List.mem_of_getElem? hg
      have hkb := (K.keys b hbm)
      have hkm : (kss (sel bs xs))[i]? = some b.keys.cps.toList := by unfold kss; rw [List.getElem?_map, hsel]; rfl
      have hil : i < xs.length := (List.getElem?_eq_some_iff.mp hm).1
      rw [show 0 + i = i by omega] at hpl ⊢
      have tk : TyOk (0 + 4 * ((kss (sel bs xs)).take i).length) L (((kss (sel bs xs)).take i).foldl (tyB inner outer) []) := TyOk.foldB ⟨hi.1, by omega⟩ ⟨ho.1, by omega⟩ _ 0 [] (TyOk.nil _ _) hbs
      generalize hss : ((kss (sel bs xs)).take i).foldl (tyB inner outer) [] = ss at *
      have hat : atI (bs.map Bd.dv) x = some b.dv := by simp [atI, ixN, x0, x1, hb]
      simp [hat]
      have hb1 : atI [Dv.str b.mode, .str b.keys, .str b.cmd, .str b.tgt] 1 = some (.str b.keys) := rfl
      have hsz : b.keys.cps.size ≤ 4 := hkb.1
      refine ⟨_, hb1, ?_⟩
      simp
      refine ⟨by show b.keys.cps.size ≤ _; omega, by show (b.keys.cps.size : Int) < _; omega, ?_⟩
      refine loop_inv _ (fun j δ μ'' => (∃ l9 : Option Dv, δ = [d0, some (.ref a), d2, d3, some (.tup (.str m0 :: ms.map Dv.str)), d5, some (.tup (bs.map Bd.dv)), some (.ref k), some (.lst (xs.map Dv.int)), l9, some (.int inner), some (.int outer), some (.ref p), some (.int (lastT (((b.keys.cps.toList.take j).foldl (tyK inner) (ss, outer)).1))), some (.int x), d15, d16, d17, d18, d19, d20, d21, d22]) ∧ μ'' p = some (.lst ((((b.keys.cps.toList.take j).foldl (tyK inner) (ss, outer)).1).map stk)) ∧ ∀ b, b ≠ p → μ'' b = μ b) 0
        ⟨⟨_, rfl⟩, by simpa using hpl, hoff⟩ ?_ ?_
      · rintro j d δ μ'' C2 hd ⟨⟨l9, rfl⟩, hpl2, hoff2⟩ hC2
        obtain ⟨hj, rfl⟩ := irange_at' hd
        have hj : j < b.keys.cps.size := hj
        rw [show 0 + j = j by omega] at hpl2 ⊢
        have hch : b.keys.cps.toList[j]? = some (b.keys.cps.toList[j]'(by simpa using hj)) := List.getElem?_eq_getElem _
        generalize b.keys.cps.toList[j]'(by simpa using hj) = ch at hch
        have tk2 := TyOk.foldK (inner := inner) ⟨hi.1, by omega⟩ (b.keys.cps.toList.take j) _ ss outer tk ⟨ho.1, by omega⟩ fun y hy => hkb.2 y (List.mem_of_mem_take hy)
        have nxt : (b.keys.cps.toList.take (j + 1)).foldl (tyK inner) (ss, outer) = tyK inner ((b.keys.cps.toList.take j).foldl (tyK inner) (ss, outer)) ch := by
          rw [List.take_add_one, hch, List.foldl_append]; rfl
        have hgap : (((b.keys.cps.toList.take j).foldl (tyK inner) (ss, outer)).2) = if j = 0 then outer else inner := by
          rw [tyK_gap]
          by_cases h0 : j = 0
          · rw [if_pos h0, if_pos (by rw [h0]; rfl)]
          · rw [if_neg h0, if_neg]
            intro e
            have h9 := congrArg List.length e
            rw [List.length_take, List.length_nil, Array.length_toList] at h9
            omega
        have hlen : ((b.keys.cps.toList.take j).foldl (tyK inner) (ss, outer)).1.length ≤ 40 := by
          have h1 := tk2.len
          have h2 : ((kss (sel bs xs)).take i).length ≤ 4 := by simp [kss, sl]; omega
          have h3 : (b.keys.cps.toList.take j).length ≤ 4 := by simp; omega
          omega
        have htop := tk2.top
        have ht0 := tk2.t0
        rw [show 0 + j + 1 = j + 1 by omega] at hC2
        rw [nxt] at hC2
        generalize hst : (b.keys.cps.toList.take j).foldl (tyK inner) (ss, outer) = st at *
        obtain ⟨s1, g1⟩ := st
        simp only at hpl2 hgap hlen htop ht0
        obtain ⟨e1, e2⟩ := stk_nil s1
        simp
        refine o_neM'.mpr ?_
        rw [dref_at hpl2]
        refine ⟨e1, ?_⟩
        rw [show dref μ'' (Dv.lst []) = Dv.lst [] from rfl, e2]
        have hatk : atI b.keys.cps.toList (j : Int) = some ch := by
          have h9 : j < b.keys.cps.toList.length := by simpa using hj
          unfold atI ixN
          rw [if_pos (by omega)]
          show (if (j : Int) < (b.keys.cps.toList.length : Int) then some (j : Int).toNat else none).bind _ = _
          rw [if_pos (by omega)]
          exact hch
        by_cases he : s1 = []
        · subst he
          simp [ty_ref hpl2]
          refine ⟨_, hat, ?_⟩
          simp [Bd.dv, hb1]
          exact ⟨by show b.keys.cps.size ≤ _; omega, ch, hatk, by omega, _, hpl2, by simp; omega, hC2 _ _ ⟨⟨some (.int (j : Int)), by simp [tyK, lastT]⟩, by rw [mset_at]; simp [tyK, lastT, stk], fun y hy => by rw [mset_off hy]; exact hoff2 y hy⟩⟩
        · simp [he, ty_ref hpl2]
          split
          · rename_i hj0
            rw [if_neg (by omega)] at hgap
            refine ⟨_, hat, ?_⟩
            simp [Bd.dv, hb1]
            exact ⟨by show b.keys.cps.size ≤ _; omega, ch, hatk, by omega, _, hpl2, by simp; omega, hC2 _ _ ⟨⟨some (.int (j : Int)), by simp [tyK, lastT_snoc, he, hgap]⟩, by rw [mset_at]; simp [tyK, stk, he, hgap], fun y hy => by rw [mset_off hy]; exact hoff2 y hy⟩⟩
          · rename_i hj0
            rw [if_pos (by omega)] at hgap
            refine ⟨_, hat, ?_⟩
            simp [Bd.dv, hb1]
            exact ⟨by show b.keys.cps.size ≤ _; omega, ch, hatk, by omega, _, hpl2, by simp; omega, hC2 _ _ ⟨⟨some (.int (j : Int)), by simp [tyK, lastT_snoc, he, hgap]⟩, by rw [mset_at]; simp [tyK, stk, he, hgap], fun y hy => by rw [mset_off hy]; exact hoff2 y hy⟩⟩
      · rintro δ μ'' ⟨⟨l9, rfl⟩, hpl2, hoff2⟩
        have hn : 0 + (irange 0 b.keys.length).length = b.keys.cps.toList.length := by
          show 0 + (irange 0 b.keys.cps.size).length = _
          simp [irange]
        rw [hn, List.take_length] at hpl2 ⊢
        have e : ((kss (sel bs xs)).take (i + 1)).foldl (tyB inner outer) [] = (b.keys.cps.toList.foldl (tyK inner) (ss, outer)).1 := by
          rw [List.take_add_one, hkm, List.foldl_append, hss]; rfl
        refine hC _ _ ⟨⟨l9, some (.int x), ?_⟩, ?_, hoff2⟩
        · rw [show 0 + i + 1 = i + 1 by omega, e]; rfl
        · rw [show 0 + i + 1 = i + 1 by omega, e]; exact hpl2
  · rintro δ μ' ⟨⟨l9, l14, rfl⟩, hpl, hoff⟩
    have hn : 0 + (xs.map Dv.int).length = (kss (sel bs xs)).length := by simp [kss, sl]
    rw [hn, List.take_length] at hpl ⊢
    have htp : c.tab ≠ p := fun e => by rw [e, hp] at ht; cases ht
    obtain ⟨k1, k2, k3, ha, hd⟩ := ha
    have hap : a ≠ p := fun e => by rw [e, hp] at ha; cases ha
    refine m_l8 (by rw [hoff _ htp]; exact ht) (by
      obtain ⟨dx, h⟩ := hk
      have hkp : k ≠ p := fun e => by rw [e, hp] at h; cases h
      exact ⟨dx, by rw [hoff _ hkp]; exact h⟩) K xs hv hx inner outer hi ho ⟨k1, k2, k3, by rw [hoff _ hap]; exact ha, hd⟩ hpl D _ _ _ _ _ _ _ _ _ _ _ _ _ _ _ q
end
end Lw

set_option Elab.async false
set_option linter.all false
set_option maxRecDepth 100000
namespace Lw
open PySem L2 Wl LamX
theorem bd_cln (bs : List Bd) : Cln 2 (.tup (bs.map Bd.dv)) = true := by simp [Cln, List.all_eq_true, Bd.dv]
theorem bd_nil (bs : List Bd) : eqOk (.tup (bs.map Bd.dv)) (.tup []) ∧ dEq (.tup (bs.map Bd.dv)) (.tup []) = decide (bs = []) := by
  refine ⟨cln_ok (n := 2) (m := 2) (bd_cln bs) rfl (by omega), ?_⟩
  have h := cln_eq 2 2 (.tup (bs.map Bd.dv)) (.tup []) (bd_cln bs) rfl
  by_cases e : bs = []
  · rw [decide_eq_true e]; exact h.mpr (by rw [e]; rfl)
  · rw [decide_eq_false e]
    cases z : dEq (.tup (bs.map Bd.dv)) (.tup []) with
    | false => rfl
    | true =>
      have := h.mp z
      rw [Dv.tup.injEq, List.map_eq_nil_iff] at this
      exact absurd this e
theorem abc_al : ∀ x ∈ (Str.ofString "abc").cps.toList, x ∈ alpha := by decide +kernel
theorem Parts2.mapK {L : List Nat} (hL : ∀ x ∈ L, x ∈ alpha) {mm rows wm : Nat} {ms : List Str} {wt : Int} {bs : List Bd} (hm4 : mm ≤ 4) (hr : rows ≤ 30) (hw : wm ≤ 99) (h : Parts2 L mm rows 4 wm ms wt bs) : ∃ m0 ms', ms = m0 :: ms' ∧ MapOk m0 ms' wt bs ∧ MapK m0 ms' bs L := by
  obtain ⟨m0, ms', e, M⟩ := h.ok hL hm4 hr (by omega) hw
  exact ⟨m0, ms', e, M, ⟨M.good, M.len, M.word, M.nodup, M.bd, fun b hb => ⟨(h.keys b hb).2.1, (h.keys b hb).2.2⟩, hL⟩⟩
section
variable {P : Program} {w : World} {c : Cs} {μ : Mu}
theorem m_l4 {A_ : LamA} {a k : Addr} {ns : List Int} {m0 : Str} {ms : List Str} {wt : Int} {bs : List Bd} {L : List Nat} (ht : μ c.tab = some (.tab lamQ)) (hk : MapAt c μ k (m0 :: ms) wt bs) (K : MapK m0 ms bs L) (xs : List Int) (hv : ∀ x ∈ xs, 0 ≤ x ∧ x < (bs.length : Int)) (hx : xs.length ≤ 3)
    (ha : ∃ k1 k2 k3, μ a = some (dic ns k1 k2 k3) ∧ DicOk k1 k2) (D : DEnds) (d0 d2 d3 d5 d9 d10 d11 d12 d13 d14 d15 d16 d17 d18 d19 d20 d21 d22 : Option Dv)
    (q : ∀ δ' μ', Lp c a ns d0 δ' μ' → D.nx δ' μ') :
    lw4 P w c A_ (fun _ _ _ _ => False) D [d0, some (.ref a), d2, d3, some (.tup ((m0 :: ms).map Dv.str)), d5, some (.tup (bs.map Bd.dv)), some (.ref k), some (.lst (xs.map Dv.int)), d9, d10, d11, d12, d13, d14, d15, d16, d17, d18, d19, d20, d21, d22] μ := by
  have hz : 20000 < sizeLine := by decide
  have hbl := K.good.len
  obtain ⟨k1, k2, k3, ha, hd⟩ := ha
  have hka : k ≠ a := fun e => by obtain ⟨dk, hk'⟩ := hk; rw [e, ha] at hk'; cases hk'
  have hta : c.tab ≠ a := fun e => by rw [e, ha] at ht; cases ht
  simp [lw4]
  refine m_next a ns k1 k2 k3 2 (by decide) (by decide) ha hd fun v j1 j2 j3 hv0 hv1 ho1 => ?_
  have e1 : dcut (xs.map Dv.int) none (some 1) = (xs.take 1).map Dv.int := by
    have := dcut_to (xs.map Dv.int) 1
    rw [List.map_take]; exact this
  have hv2 : v.toNat ≤ 1 := by omega
  have e2 : (List.replicate v.toNat ((xs.take 1).map Dv.int)).flatten = ((List.replicate v.toNat (xs.take 1)).flatten).map Dv.int := by
    rcases (show v.toNat = 0 ∨ v.toNat = 1 by omega) with h | h <;> rw [h] <;> simp
  have h1 : ((List.replicate v.toNat (xs.take 1)).flatten).length ≤ 1 := by
    rcases (show v.toNat = 0 ∨ v.toNat = 1 by omega) with h | h <;> rw [h] <;> simp <;> omega
  have hmem : ∀ x ∈ (List.replicate v.toNat (xs.take 1)).flatten, x ∈ xs := fun x hx => by
    obtain ⟨l, h2, h3⟩ := List.mem_flatten.mp hx
    rw [(List.mem_replicate.mp h2).2] at h3
    exact List.mem_of_mem_take h3
  rw [e1]
  refine o_rep.mpr ⟨⟨by omega, by omega⟩, ?_, ?_⟩
  · rw [List.length_map, List.length_take]
    have : min 1 xs.length * v.toNat ≤ 1 * 1 := Nat.mul_le_mul (Nat.min_le_left _ _) hv2
    omega
  rw [e2]
  refine o_addL.mpr ⟨by simp only [List.length_map]; omega, ?_⟩
  rw [← List.map_append]
  generalize hys : xs ++ (List.replicate v.toNat (xs.take 1)).flatten = ys
  have hyl : ys.length ≤ 4 := by rw [← hys, List.length_append]; omega
  have hyv : ∀ x ∈ ys, 0 ≤ x ∧ x < (bs.length : Int) := fun x h => by
    rw [← hys] at h
    rcases List.mem_append.mp h with h | h
    · exact hv x h
    · exact hv x (hmem x h)
  refine ⟨by omega, ?_⟩
  refine m_next a ns j1 j2 j3 2 (by decide) (by decide) mset_at ho1 fun v1 i1 i2 i3 ha0 ha1 ho2 => ?_
  have e3 : ∃ g : Int, atI [Dv.int 4, Dv.int 30] v1 = some (.int g) ∧ 0 < g ∧ g ≤ 100 := by
    rcases (show v1 = 0 ∨ v1 = 1 by omega) with rfl | rfl
    · exact ⟨4, rfl, by decide, by decide⟩
    · exact ⟨30, rfl, by decide, by decide⟩
  obtain ⟨g, eg, hg0, hg1⟩ := e3
  simp [eg]
  refine m_next a ns i1 i2 i3 g hg0 (by omega) mset_at ho2 fun inner h1 h2 h3 hi0 hi1 ho3 => ?_
  refine ⟨by omega, ?_⟩
  refine m_next a ns h1 h2 h3 2 (by decide) (by decide) mset_at ho3 fun v4 f1 f2 f3 hb0 hb1 ho4 => ?_
  have e4 : ∃ g : Int, atI [Dv.int 9, Dv.int 100] v4 = some (.int g) ∧ 0 < g ∧ g ≤ 100 := by
    rcases (show v4 = 0 ∨ v4 = 1 by omega) with rfl | rfl
    · exact ⟨9, rfl, by decide, by decide⟩
    · exact ⟨100, rfl, by decide, by decide⟩
  obtain ⟨g', eg', hg0', hg1'⟩ := e4
  simp [eg']
  refine m_next a ns f1 f2 f3 g' hg0' (by omega) mset_at ho4 fun outer o1 o2 o3 hu0 hu1 ho5 => ?_
  simp only [mset_mset]
  intro p hp
  exact m_l7 (by rw [mset_off hta]; exact ht) (map_keep hk hka keep_set) K ys hyv hyl inner outer ⟨hi0, by omega⟩ ⟨hu0, by omega⟩ ⟨_, _, _, mset_at, ho5⟩ hp D _ _ _ _ _ _ _ _ _ _ _ _ _ _ q
theorem maths (P : Program) (w : World) (c : Cs) (ns : List Int) (hns : ns.length ≤ 63) : sp_law P w c [.rol (ns.map Dv.int)] (muT c.tab lamQ) (fun d _ => d = .bl true) fun _ _ _ => False := by
  have hz : 20000 < sizeLine := by decide
  have ht : muT c.tab lamQ c.tab = some (.tab lamQ) := by unfold muT; exact mset_same
  generalize muT c.tab lamQ = μt at ht
  refine ⟨rfl, fun A_ => ?_⟩
  simp [T_law_eq, N_law, dstart]
  refine m_dice ns hns fun a n2 μ0 G0 ha0 ho0 => ?_
  have ht0 := G0 _ _ ht
  refine loop_inv _ (fun i δ μ' => Lp c a ns (some (.rol (ns.map Dv.int))) δ μ') 0
    ⟨⟨none, none, none, none, none, none, none, none, none, none, none, none, none, none, none, none, none, none, none, none, none, rfl⟩, ht0, _, _, _, ha0, ho0⟩ ?_ ?_
  · rintro i d δ μ C hd ⟨⟨l2, l3, l4, l5, l6, l7, l8, l9, l10, l11, l12, l13, l14, l15, l16, l17, l18, l19, l20, l21, l22, rfl⟩, ht1, k1, k2, k3, ha, ho⟩ hC
    have hta : c.tab ≠ a := fun e => by rw [e, ha] at ht1; cases ht1
    simp
    refine m_map a ns k1 k2 k3 2 6 4 20 (Str.ofString "abc") (by decide) (by decide) (by decide) (by decide) (by decide +kernel) (by decide +kernel) ha ho fun ms wt bs g1 g2 g3 μ1 hP ho3 ha1 hkp1 => ?_
    obtain ⟨m0, ms', rfl, hM, K⟩ := hP.mapK abc_al (by decide) (by decide) (by decide)
    have hbl := K.good.len
    have ht2 := hkp1 _ _ hta ht1
    unfold partsD
    simp
    refine m_made (m0 :: ms') wt bs (by simp) hM.len hM.word hM.nodup hM.wt hM.good.len hM.bd hM.good.nodup fun k μ2 gr2 MA2 => ?_
    have ha2 := gr2 _ _ ha1
    have ht3 := gr2 _ _ ht2
    have hka : k ≠ a := fun e => by obtain ⟨dx, hk⟩ := MA2; rw [e, ha2] at hk; cases hk
    obtain ⟨q1, q2⟩ := bd_nil bs
    refine ⟨q1, ?_⟩
    rw [q2]
    have fin : ∀ (xs : List Int) (μ3 : Mu) (l9 : Option Dv), (∀ x ∈ xs, 0 ≤ x ∧ x < (bs.length : Int)) → xs.length ≤ 3 → (∃ j1 j2 j3, μ3 a = some (dic ns j1 j2 j3) ∧ DicOk j1 j2) → μ3 c.tab = some (.tab lamQ) → MapAt c μ3 k (m0 :: ms') wt bs → _ := fun xs μ3 l9 hv hx hrow h3 h4 => m_l4 (P := P) (w := w) (A_ := A_) h3 h4 K xs hv hx hrow { nx := C, rt := fun d x => d = Dv.bl true, bk := sRet (vC (Dv.bl true)) { nx := fun x μ2 => False, rt := fun d x => d = Dv.bl true }, ct := C } (some (.rol (ns.map Dv.int))) (some d) (some (.tup [.tup (.str m0 :: ms'.map Dv.str), .int wt, .tup (bs.map Bd.dv)])) (some (.int wt)) l9 l10 l11 l12 l13 l14 l15 l16 l17 l18 l19 l20 l21 l22 (fun δ' μ' h => hC δ' μ' h)
    by_cases hb0 : bs = []
    · rw [if_pos (by rw [hb0]; rfl)]
      intro A hA
      refine loop_nil.mpr ⟨[], mset_at, ?_⟩
      rw [mdel_mset hA]
      exact fin [] μ2 _ (by simp) (by simp) ⟨_, _, _, ha2, ho3⟩ ht3 MA2
    · rw [if_neg (by simp [hb0])]
      have hpos : 0 < bs.length := List.length_pos_iff.mpr hb0
      refine m_next a ns g1 g2 g3 4 (by decide) (by decide) ha2 ho3 fun v2 k1 k2 k3 hw0 hw1 ho3 => ?_
      simp
      refine ⟨⟨by omega, by omega⟩, fun A hA => ?_⟩
      have hAa : A ≠ a := fun e => by rw [e, mset_at] at hA; cases hA
      have hA3 : μ2 A = none := by rw [mset_off hAa] at hA; exact hA
      have hkA : k ≠ A := fun e => by obtain ⟨dk, hk'⟩ := MA2; rw [e, hA3] at hk'; cases hk'
      have htA : c.tab ≠ A := fun e => by rw [e, hA3] at ht3; cases ht3
      refine comp_inv _ (fun i acc μ' => ∃ (xs : List Int) (j1 j2 j3 : Int), acc = xs.map Dv.int ∧ xs.length = i ∧ (∀ x ∈ xs, 0 ≤ x ∧ x < (bs.length : Int)) ∧ DicOk j1 j2 ∧ μ' a = some (dic ns j1 j2 j3) ∧ ∀ b, b ≠ a → b ≠ A → μ' b = μ2 b) 0 []
        ⟨[], k1, k2, k3, rfl, rfl, by simp, ho3, by rw [mset_off hAa.symm, mset_at], fun b h1 h2 => by rw [mset_off h2, mset_off h1]⟩ mset_at ?_ ?_
      · rintro i d acc μ' C hd ⟨xs, j1, j2, j3, rfl, hl, hv, ho4, ha4, hof4⟩ hA4 hC
        obtain ⟨hi, rfl⟩ := irange_at' hd
        simp [dwipe]
        refine m_next a ns j1 j2 j3 (bs.length : Int) (by omega) (by omega) ha4 ho4 fun u i1 i2 i3 hu0 hu1 ho5 => ?_
        have hA5 : (mset μ' a (dic ns i1 i2 i3)) A = some (.lst (xs.map Dv.int)) := by rw [mset_off hAa]; exact hA4
        refine ⟨_, hA5, by simp; omega, hC _ _ ⟨xs ++ [u], i1, i2, i3, by simp, by simp [hl], fun x hx => ?_, ho5, by rw [mset_off hAa.symm, mset_at], fun b h1 h2 => by rw [mset_off h2, mset_off h1]; exact hof4 b h1 h2⟩ mset_at⟩
        rcases List.mem_append.mp hx with h | h
        · exact hv x h
        · rw [List.mem_singleton.mp h]; exact ⟨hu0, hu1⟩
      · rintro acc μ' ⟨xs, j1, j2, j3, rfl, hl, hv, ho4, ha4, hof4⟩ hA4
        have hll : (irange 0 v2.toNat).length = v2.toNat := by simp [irange]
        have md : ∀ b, b ≠ A → mdel μ' A b = μ' b := fun b h => by show (if b = A then none else μ' b) = _; rw [if_neg h]
        exact fin xs _ _ hv (by omega) ⟨_, _, _, by rw [md _ hAa.symm]; exact ha4, ho4⟩ (by rw [md _ htA, hof4 _ hta htA]; exact ht3) (by obtain ⟨dk, hk'⟩ := MA2; exact ⟨dk, by rw [md _ hkA, hof4 _ hka hkA]; exact hk'⟩)
  · rintro δ μ' ⟨⟨l2, l3, l4, l5, l6, l7, l8, l9, l10, l11, l12, l13, l14, l15, l16, l17, l18, l19, l20, l21, l22, rfl⟩, h⟩
    simp
end
end Lw

set_option Elab.async false
set_option linter.all false
set_option maxRecDepth 100000
set_option maxHeartbeats 4000000
namespace Lw
open PySem L2 Wl LamX
def top (i : Nat) : Stmt := PySem.Challenge.pw_keywaits_k12_waits_that_suit.main.body.getD i (.Pass ⟨0, 0, 0, 0⟩)
structure Tp (K : PySem.W.Frag) (mg : Str → Option Value) (c : Cs) : Prop where
  n_all : mg "all" = none
  n_bool : mg "bool" = none
  n_enumerate : mg "enumerate" = none
  n_int : mg "int" = none
  n_isinstance : mg "isinstance" = none
  n_len : mg "len" = none
  n_list : mg "list" = none
  n_range : mg "range" = none
  n_set : mg "set" = none
  n_str : mg "str" = none
  n_tuple : mg "tuple" = none
  k_GREATEST_GAP : ∃ t, mg "GREATEST_GAP" = some (.int 99 t)
  k_GREATEST_WAIT : ∃ t, mg "GREATEST_WAIT" = some (.int 99 t)
  k_LETTERS : ∃ t, mg "LETTERS" = some (.str "abcdefghijklmnopqrstuvwxyz" t)
  k_LONGEST_NAME : ∃ t, mg "LONGEST_NAME" = some (.int 8 t)
  k_MOST_BINDINGS : ∃ t, mg "MOST_BINDINGS" = some (.int 30 t)
  k_MOST_KEYS_OF_BINDING : ∃ t, mg "MOST_KEYS_OF_BINDING" = some (.int 6 t)
  k_MOST_MODES : ∃ t, mg "MOST_MODES" = some (.int 4 t)
  cl_KeyMap : Cls K c.KeyMap
  cl_Player : Cls K c.Player
  cl_Rules : Cls K c.Rules
  na_KeyMap__bindings : NoAttr K c.KeyMap "_bindings"
  na_KeyMap__modes : NoAttr K c.KeyMap "_modes"
  na_KeyMap__wait : NoAttr K c.KeyMap "_wait"
  na_Player__pause : NoAttr K c.Player "_pause"
  na_Player__rules : NoAttr K c.Player "_rules"
  na_Player_fed_tick : NoAttr K c.Player "fed_tick"
  na_Player_happened : NoAttr K c.Player "happened"
  na_Player_state : NoAttr K c.Player "state"
  na_Rules__begun : NoAttr K c.Rules "_begun"
  na_Rules__bound : NoAttr K c.Rules "_bound"
  it : IsTab K mg c.isx
  hm_MapError : mg "MapError" = some (.ref c.MapError)
  xm_MapError : ∀ C, c.isx C "MapError" = some true → PySem.W.exmOne K (.ref C) (.ref c.MapError) = some true
  q_InvalidGap : PySem.W.excIn K c.x_InvalidGap [.type "ValueError", .type "Exception", .type "BaseException", .type "object"] "ValueError.__new__" = true
  g_InvalidGap : mg "InvalidGap" = some (.ref c.x_InvalidGap)
  kp_InvalidGap : PySem.W.keepIn K (.ref c.x_InvalidGap) = true
  be_InvalidGap : PySem.W.subIn K (.ref c.x_InvalidGap) (.type "BaseException") = some true
  ty_InvalidGap : PySem.W.typeIn K (.ref c.x_InvalidGap) = some (.type "type")
  xf : ∀ C, c.isx C "MapError" = some true → XfC K C
  xn_index : ∀ C, c.isx C "MapError" = some true → PySem.W.findIn K (.ref C) "index" = some none
  xn_part : ∀ C, c.isx C "MapError" = some true → PySem.W.findIn K (.ref C) "part" = some none
section
variable {P : Program} {w : World} {K : PySem.W.Frag} {mg : Str → Option Value} {base : Heap} {c : Cs}
abbrev s_law_told : Stmt := top 43
theorem sc_law_told : FnScope N_law_told ["_law_work"] (defScope s_law_told) := ⟨rfl, rfl, rfl, by decide +kernel, rfl, by decide +kernel, by decide +kernel⟩
theorem tell_law_told {f : Addr} (F : FunF K "_law_told" "_law_told" s_law_told f) (hm : mg "_law_told" = some (.ref f)) (T : Tp K mg c) : TellD P w K mg base "_law_told" (tt_law_told P w c) := by
  obtain ⟨oc, od, an, osl, kV, doc, pm, cdv, ct, lk, hcd⟩ := F.l
  refine ⟨f, _, _, _, _, _, _, _, _, _, _, _, _, _, N_law_told, "_law_work", hm, F.k, lk, hcd, .all (fun us hl => match us, hl with | [_], _ => rfl), sc_law_told, rfl, .inl rfl, by decide, by decide, fun X q e1 e2 e3 e4 e5 hu => ?_⟩
  subst e1 e2 e3 e4 e5
  show GivesTo _ _ _ _ _ _ _ _ _ (TTD _ (ttT c.isx "MapError" N_law_told.length 1 (S_law_told _ _ c)))
  refine gives_told (en := "e") (CS := c.MapError) ?_
  exact ⟨rfl, T.hm_MapError, by decide, sc_law_told.nd, rfl, rfl, by decide, hu, T.xm_MapError, fun s H a oe C d pn J hx hz hf is =>
 wss_cons (ws_set 2 (we_lst (wa_cons (we_isC (i := 1) is T.it hz hf T.n_isinstance rfl rfl rfl (.inl rfl)) (wa_cons (we_isC (i := 1) is T.it hz hf T.n_isinstance rfl rfl rfl (.inl rfl)) (wa_cons (we_isC (i := 1) is T.it hz hf T.n_isinstance rfl rfl rfl (.inl rfl)) (wa_nil))))) sc_law_told.nd)
 (wss_cons (ws_set 2 (we_op wo_add (we_var 2) (we_lst (wa_cons (we_isC (i := 1) is T.it hz hf T.n_isinstance rfl rfl rfl (.inl rfl)) (wa_cons (we_isC (i := 1) is T.it hz hf T.n_isinstance rfl rfl rfl (.inl rfl)) (wa_cons (we_isC (i := 1) is T.it hz hf T.n_isinstance rfl rfl rfl (.inl rfl)) (wa_nil)))))) sc_law_told.nd)
 (wss_cons (ws_set 2 (we_op wo_add (we_var 2) (we_lst (wa_cons (we_isC (i := 1) is T.it hz hf T.n_isinstance rfl rfl rfl (.inl rfl)) (wa_cons (we_isC (i := 1) is T.it hz hf T.n_isinstance rfl rfl rfl (.inl rfl)) (wa_cons (we_isC (i := 1) is T.it hz hf T.n_isinstance rfl rfl rfl (.inl rfl)) (wa_nil)))))) sc_law_told.nd)
 (wss_cons (ws_set 3 (we_lst (wa_cons (we_str) (wa_cons (we_str) (wa_cons (we_str) (wa_cons (we_str) (wa_cons (we_str) (wa_cons (we_str) (wa_nil)))))))) sc_law_told.nd)
 (wss_cons (ws_set 3 (we_op wo_add (we_var 3) (we_lst (wa_cons (we_str) (wa_cons (we_str) (wa_cons (we_str) (wa_nil)))))) sc_law_told.nd)
 (wss_cons (ws_set 4 (we_if (wt_bool (ww_and (wt_cmp wo_eq (we_count (we_var 2) (wa_cons (we_bl) (wa_nil))) (we_int)) (ww_and1 (wt_tru (we_isC (i := 1) is T.it hz hf T.n_isinstance rfl rfl rfl (.inl rfl)))))) (we_indexL (we_var 2) (wa_cons (we_bl) (wa_nil))) (we_int)) sc_law_told.nd)
 (wss_cons (ws_set 5 (we_tup (wa_cons (we_str) (wa_cons (we_if (wt_cmp wo_lt (we_var 4) (we_int)) (we_ix (we_var 3) (we_var 4)) (we_str)) (wa_nil)))) sc_law_told.nd)
 (wss_cons (ws_if (wt_cmp wo_lt (we_var 4) (we_int)) (wss_one (ws_ret (we_op wo_add (we_var 5) (we_tup (wa_cons (we_xf (i := 1) is (T.xf C hx) (T.xn_index C hx) hz hf rfl (.inl rfl)) (wa_nil)))))) (wss_nil))
 (wss_one (ws_ret (we_op wo_add (we_var 5) (we_if (wt_cmp wo_eq (we_var 4) (we_int)) (we_tup (wa_cons (we_xf (i := 1) is (T.xf C hx) (T.xn_part C hx) hz hf rfl (.inl rfl)) (wa_cons (we_xf (i := 1) is (T.xf C hx) (T.xn_index C hx) hz hf rfl (.inl rfl)) (wa_nil)))) (we_tup (wa_nil)))))))))))))⟩
abbrev s_is_number : Stmt := top 14
theorem sc_is_number : FnScope N_is_number ["value", "least", "greatest"] (defScope s_is_number) := ⟨rfl, rfl, rfl, by decide +kernel, rfl, by decide +kernel, by decide +kernel⟩
theorem ok_is_number {f : Addr} {fd : FuncData} (F : Fun K "is_number" "is_number" s_is_number f fd) (T : Tp K mg c) : Ok P w K mg base 1 f fd ["value", "least", "greatest"] (sp_is_number P w c) := by
  exact ok_def F sc_is_number (T_is_number P w c) (fun _ _ _ _ h => h) (fun cdv A outer s H E J W E2 tr =>
 wss_one (ws_ret (we_and (we_callB wc_isi T.n_isinstance (by decide +kernel) (wa_cons (we_var 0) (wa_cons (we_bty "int" T.n_int rfl rfl) (wa_nil)))) (we_and (we_not (we_callB wc_isi T.n_isinstance (by decide +kernel) (wa_cons (we_var 0) (wa_cons (we_bty "bool" T.n_bool rfl rfl) (wa_nil))))) (we_one (we_chain wo_le wo_le (we_var 1) (we_var 0) (we_var 2)))))))
abbrev s_is_word : Stmt := top 15
theorem sc_is_word : FnScope N_is_word ["value", "longest"] (defScope s_is_word) := ⟨rfl, rfl, rfl, by decide +kernel, rfl, by decide +kernel, by decide +kernel⟩
theorem ok_is_word {f : Addr} {fd : FuncData} (F : Fun K "is_word" "is_word" s_is_word f fd) (T : Tp K mg c) : Ok P w K mg base 1 f fd ["value", "longest"] (sp_is_word P w c) := by
  obtain ⟨_, c_LETTERS⟩ := T.k_LETTERS
  exact ok_def F sc_is_word (T_is_word P w c) (fun _ _ _ _ h => h) (fun cdv A outer s H E J W E2 tr =>
 wss_cons (ws_if (wt_bool (ww_or (wt_not (wt_tru (we_callB wc_isi T.n_isinstance (by decide +kernel) (wa_cons (we_var 0) (wa_cons (we_bty "str" T.n_str rfl rfl) (wa_nil)))))) (ww_or1 (wt_not (wt_chain wo_le wo_le (we_int) (we_callB wc_len T.n_len (by decide +kernel) (wa_cons (we_var 0) (wa_nil))) (we_var 1)))))) (wss_one (ws_ret (we_bl))) (wss_nil))
 (wss_one (ws_ret (we_callB wc_all T.n_all (by decide +kernel) (wa_cons (we_comp (own := [("letter", 2)]) sc_is_word.nd (wi_str (we_var 0)) (fun _ => blkOk_by (N := N_is_word) (sc := defScope s_is_word) (by decide +kernel)) (wgv_name 2 sc_is_word.nd) (wts_nil) (we_cmp wo_inS (we_var 2) (we_gstr "abcdefghijklmnopqrstuvwxyz" c_LETTERS ))) (wa_nil))))))
abbrev s_KeyMap_bindings : Stmt := inClass (top 30) 5
theorem sc_KeyMap_bindings : FnScope N_KeyMap_bindings ["self"] (defScope s_KeyMap_bindings) := ⟨rfl, rfl, rfl, by decide +kernel, rfl, by decide +kernel, by decide +kernel⟩
theorem ok_KeyMap_bindings {f : Addr} {fd : FuncData} (F : Fun K "bindings" "KeyMap.bindings" s_KeyMap_bindings f fd) (T : Tp K mg c) : Ok P w K mg base 1 f fd ["self"] (sp_KeyMap_bindings P w c) := by
  exact ok_def F sc_KeyMap_bindings (T_KeyMap_bindings P w c) (fun _ _ _ _ h => h) (fun cdv A outer s H E J W E2 tr =>
 wss_one (ws_ret (we_fld T.cl_KeyMap T.na_KeyMap__bindings (we_var 0))))
abbrev s_Rules_init__ : Stmt := inClass (top 17) 0
theorem sc_Rules_init__ : FnScope N_Rules_init__ ["self", "keymap"] (defScope s_Rules_init__) := ⟨rfl, rfl, rfl, by decide +kernel, rfl, by decide +kernel, by decide +kernel⟩
theorem ok_Rules_init__ {f : Addr} {fd : FuncData} (F : Fun K "__init__" "Rules.__init__" s_Rules_init__ f fd) (T : Tp K mg c) (prp_KeyMap_bindings : PrpD P w K mg base 1 c.KeyMap "bindings" (sp_KeyMap_bindings P w c)) : Ok P w K mg base 3 f fd ["self", "keymap"] (sp_Rules_init__ P w c) := by
  exact ok_def F sc_Rules_init__ (T_Rules_init__ P w c) (fun _ _ _ _ h => h) (fun cdv A outer s H E J W E2 tr =>
 wss_cons (ws_fld T.cl_Rules T.na_Rules__bound (we_var 0) (we_dnewT))
 (wss_cons (ws_fld T.cl_Rules T.na_Rules__begun (we_var 0) (we_dnewT))
 (wss_one (ws_for (wi_seq (we_prop prp_KeyMap_bindings (show 2 ≤ 2 by decide) (we_var 1))) (wg_tup (wgs_cons (wg_name 2 sc_Rules_init__.nd) (wgs_cons (wg_name 3 sc_Rules_init__.nd) (wgs_cons (wg_name 4 sc_Rules_init__.nd) (wgs_cons (wg_name 5 sc_Rules_init__.nd) (wgs_nil)))))) (wss_cons (ws_dput (we_fld T.cl_Rules T.na_Rules__bound (we_var 0)) (we_tup (wa_cons (we_var 2) (wa_cons (we_var 3) (wa_nil)))) (we_tup (wa_cons (we_var 4) (wa_cons (we_var 5) (wa_nil)))))
 (wss_one (ws_for (wi_rng2 T.n_range (wa_cons (we_int) (wa_cons (we_callB wc_len T.n_len (by decide +kernel) (wa_cons (we_var 3) (wa_nil))) (wa_nil)))) (wg_name 6 sc_Rules_init__.nd) (wss_one (ws_dput (we_fld T.cl_Rules T.na_Rules__begun (we_var 0)) (we_tup (wa_cons (we_var 2) (wa_cons (we_slice (we_var 3) (wp_none) (wp_some (we_var 6))) (wa_nil)))) (we_bl))))))))))
abbrev s_Rules_first_step : Stmt := inClass (top 17) 3
theorem sc_Rules_first_step : FnScope N_Rules_first_step ["self", "mode", "waiting"] (defScope s_Rules_first_step) := ⟨rfl, rfl, rfl, by decide +kernel, rfl, by decide +kernel, by decide +kernel⟩
theorem ok_Rules_first_step {f : Addr} {fd : FuncData} (F : Fun K "_first_step" "Rules._first_step" s_Rules_first_step f fd) (T : Tp K mg c) : Ok P w K mg base 1 f fd ["self", "mode", "waiting"] (sp_Rules_first_step P w c) := by
  exact ok_def F sc_Rules_first_step (T_Rules_first_step P w c) (fun _ _ _ _ h => h) (fun cdv A outer s H E J W E2 tr =>
 wss_cons (ws_for (wi_rng3 T.n_range (wa_cons (we_callB wc_len T.n_len (by decide +kernel) (wa_cons (we_var 2) (wa_nil))) (wa_cons (we_int) (wa_cons (we_un wu_neg (we_int)) (wa_nil))))) (wg_name 3 sc_Rules_first_step.nd) (wss_cons (ws_set 4 (we_dget1 (we_fld T.cl_Rules T.na_Rules__bound (we_var 0)) (we_tup (wa_cons (we_var 1) (wa_cons (we_slice (we_var 2) (wp_none) (wp_some (we_var 3))) (wa_nil))))) sc_Rules_first_step.nd)
 (wss_one (ws_if (wt_cmp wo_notN (we_var 4) (we_non)) (wss_one (ws_ret (we_tup (wa_cons (we_tup (wa_cons (we_str) (wa_cons (we_ix (we_var 4) (we_int)) (wa_cons (we_var 3) (wa_nil))))) (wa_cons (we_ix (we_var 4) (we_int)) (wa_nil)))))) (wss_nil)))))
 (wss_one (ws_ret (we_tup (wa_cons (we_tup (wa_cons (we_str) (wa_cons (we_ix (we_var 2) (we_int)) (wa_cons (we_int) (wa_nil))))) (wa_cons (we_var 1) (wa_nil)))))))
abbrev s_Rules_feed : Stmt := inClass (top 17) 1
theorem sc_Rules_feed : FnScope N_Rules_feed ["self", "state", "keys"] (defScope s_Rules_feed) := ⟨rfl, rfl, rfl, by decide +kernel, rfl, by decide +kernel, by decide +kernel⟩
theorem ok_Rules_feed {f : Addr} {fd : FuncData} (F : Fun K "feed" "Rules.feed" s_Rules_feed f fd) (T : Tp K mg c) (met_Rules_first_step : MetD P w K mg base 1 c.Rules "_first_step" (sp_Rules_first_step P w c) []) : Ok P w K mg base 2 f fd ["self", "state", "keys"] (sp_Rules_feed P w c) := by
  exact ok_def F sc_Rules_feed (T_Rules_feed P w c) (fun _ _ _ _ h => h) (fun cdv A outer s H E J W E2 tr =>
 wss_cons (ws_asg (we_var 1) (wg_tup (wgs_cons (wg_name 3 sc_Rules_feed.nd) (wgs_cons (wg_name 4 sc_Rules_feed.nd) (wgs_nil)))))
 (wss_cons (ws_set 5 (we_var 2) sc_Rules_feed.nd)
 (wss_cons (ws_set 6 (we_lstM (wa_nil)) sc_Rules_feed.nd)
 (wss_cons (ws_while (wt_tru (we_var 5)) (wss_cons (ws_set 4 (we_op wo_add (we_var 4) (we_ix (we_var 5) (we_int))) sc_Rules_feed.nd)
 (wss_cons (ws_set 5 (we_slice (we_var 5) (wp_some (we_int)) (wp_none)) sc_Rules_feed.nd)
 (wss_one (ws_if (wt_dnotin (we_tup (wa_cons (we_var 3) (wa_cons (we_var 4) (wa_nil)))) (we_fld T.cl_Rules T.na_Rules__begun (we_var 0))) (wss_cons (ws_asg (we_meth met_Rules_first_step (show 1 ≤ 1 by decide) (we_var 0) (wa_cons (we_var 3) (wa_cons (we_var 4) (wa_nil)))) (wg_tup (wgs_cons (wg_name 7 sc_Rules_feed.nd) (wgs_cons (wg_name 3 sc_Rules_feed.nd) (wgs_nil)))))
 (wss_cons (ws_expr (we_append (we_var 6) (wa_cons (we_var 7) (wa_nil))))
 (wss_cons (ws_set 5 (we_op wo_add (we_slice (we_var 4) (wp_some (we_ix (we_var 7) (we_int))) (wp_none)) (we_var 5)) sc_Rules_feed.nd)
 (wss_one (ws_set 4 (we_str) sc_Rules_feed.nd))))) (wss_nil))))))
 (wss_one (ws_ret (we_tup (wa_cons (we_frz (we_var 6)) (wa_cons (we_tup (wa_cons (we_var 3) (wa_cons (we_var 4) (wa_nil)))) (wa_nil))))))))))
abbrev s_Rules_break_up : Stmt := inClass (top 17) 2
theorem sc_Rules_break_up : FnScope N_Rules_break_up ["self", "state"] (defScope s_Rules_break_up) := ⟨rfl, rfl, rfl, by decide +kernel, rfl, by decide +kernel, by decide +kernel⟩
theorem ok_Rules_break_up {f : Addr} {fd : FuncData} (F : Fun K "break_up" "Rules.break_up" s_Rules_break_up f fd) (T : Tp K mg c) (met_Rules_feed : MetD P w K mg base 2 c.Rules "feed" (sp_Rules_feed P w c) []) (met_Rules_first_step : MetD P w K mg base 1 c.Rules "_first_step" (sp_Rules_first_step P w c) []) : Ok P w K mg base 3 f fd ["self", "state"] (sp_Rules_break_up P w c) := by
  exact ok_def F sc_Rules_break_up (T_Rules_break_up P w c) (fun _ _ _ _ h => h) (fun cdv A outer s H E J W E2 tr =>
 wss_cons (ws_asg (we_var 1) (wg_tup (wgs_cons (wg_name 2 sc_Rules_break_up.nd) (wgs_cons (wg_name 3 sc_Rules_break_up.nd) (wgs_nil)))))
 (wss_cons (ws_asg (we_meth met_Rules_first_step (show 1 ≤ 2 by decide) (we_var 0) (wa_cons (we_var 2) (wa_cons (we_var 3) (wa_nil)))) (wg_tup (wgs_cons (wg_name 4 sc_Rules_break_up.nd) (wgs_cons (wg_name 5 sc_Rules_break_up.nd) (wgs_nil)))))
 (wss_cons (ws_asg (we_meth met_Rules_feed (show 2 ≤ 2 by decide) (we_var 0) (wa_cons (we_tup (wa_cons (we_var 5) (wa_cons (we_str) (wa_nil)))) (wa_cons (we_slice (we_var 3) (wp_some (we_ix (we_var 4) (we_int))) (wp_none)) (wa_nil)))) (wg_tup (wgs_cons (wg_name 6 sc_Rules_break_up.nd) (wgs_cons (wg_name 7 sc_Rules_break_up.nd) (wgs_nil)))))
 (wss_one (ws_ret (we_tup (wa_cons (we_op wo_add (we_lst (wa_cons (we_var 4) (wa_nil))) (we_var 6)) (wa_cons (we_var 7) (wa_nil)))))))))
abbrev s_KeyMap_modes : Stmt := inClass (top 30) 3
theorem sc_KeyMap_modes : FnScope N_KeyMap_modes ["self"] (defScope s_KeyMap_modes) := ⟨rfl, rfl, rfl, by decide +kernel, rfl, by decide +kernel, by decide +kernel⟩
theorem ok_KeyMap_modes {f : Addr} {fd : FuncData} (F : Fun K "modes" "KeyMap.modes" s_KeyMap_modes f fd) (T : Tp K mg c) : Ok P w K mg base 1 f fd ["self"] (sp_KeyMap_modes P w c) := by
  exact ok_def F sc_KeyMap_modes (T_KeyMap_modes P w c) (fun _ _ _ _ h => h) (fun cdv A outer s H E J W E2 tr =>
 wss_one (ws_ret (we_fld T.cl_KeyMap T.na_KeyMap__modes (we_var 0))))
abbrev s_KeyMap_wait : Stmt := inClass (top 30) 4
theorem sc_KeyMap_wait : FnScope N_KeyMap_wait ["self"] (defScope s_KeyMap_wait) := ⟨rfl, rfl, rfl, by decide +kernel, rfl, by decide +kernel, by decide +kernel⟩
theorem ok_KeyMap_wait {f : Addr} {fd : FuncData} (F : Fun K "wait" "KeyMap.wait" s_KeyMap_wait f fd) (T : Tp K mg c) : Ok P w K mg base 1 f fd ["self"] (sp_KeyMap_wait P w c) := by
  exact ok_def F sc_KeyMap_wait (T_KeyMap_wait P w c) (fun _ _ _ _ h => h) (fun cdv A outer s H E J W E2 tr =>
 wss_one (ws_ret (we_fld T.cl_KeyMap T.na_KeyMap__wait (we_var 0))))
abbrev s_Player_init__ : Stmt := inClass (top 18) 0
theorem sc_Player_init__ : FnScope N_Player_init__ ["self", "keymap"] (defScope s_Player_init__) := ⟨rfl, rfl, rfl, by decide +kernel, rfl, by decide +kernel, by decide +kernel⟩
theorem ok_Player_init__ {f : Addr} {fd : FuncData} (F : Fun K "__init__" "Player.__init__" s_Player_init__ f fd) (T : Tp K mg c) (prp_KeyMap_modes : PrpD P w K mg base 1 c.KeyMap "modes" (sp_KeyMap_modes P w c)) (prp_KeyMap_wait : PrpD P w K mg base 1 c.KeyMap "wait" (sp_KeyMap_wait P w c)) (mak_Rules_init__ : MakD P w K mg base 3 "Rules" c.Rules (sp_Rules_init__ P w c) []) : Ok P w K mg base 5 f fd ["self", "keymap"] (sp_Player_init__ P w c) := by
  exact ok_def F sc_Player_init__ (T_Player_init__ P w c) (fun _ _ _ _ h => h) (fun cdv A outer s H E J W E2 tr =>
 wss_cons (ws_fld T.cl_Player T.na_Player__rules (we_var 0) (we_make mak_Rules_init__ (show 4 ≤ 4 by decide) (wa_cons (we_var 1) (wa_nil))))
 (wss_cons (ws_fld T.cl_Player T.na_Player__pause (we_var 0) (we_prop prp_KeyMap_wait (show 2 ≤ 4 by decide) (we_var 1)))
 (wss_cons (ws_fld T.cl_Player T.na_Player_fed_tick (we_var 0) (we_int))
 (wss_cons (ws_fld T.cl_Player T.na_Player_state (we_var 0) (we_tup (wa_cons (we_ix (we_prop prp_KeyMap_modes (show 2 ≤ 4 by decide) (we_var 1)) (we_int)) (wa_cons (we_str) (wa_nil)))))
 (wss_one (ws_fld T.cl_Player T.na_Player_happened (we_var 0) (we_lstM (wa_nil))))))))
abbrev s_Player_note : Stmt := inClass (top 18) 6
theorem sc_Player_note : FnScope N_Player_note ["self", "tick", "steps"] (defScope s_Player_note) := ⟨rfl, rfl, rfl, by decide +kernel, rfl, by decide +kernel, by decide +kernel⟩
theorem ok_Player_note {f : Addr} {fd : FuncData} (F : Fun K "_note" "Player._note" s_Player_note f fd) (T : Tp K mg c) : Ok P w K mg base 1 f fd ["self", "tick", "steps"] (sp_Player_note P w c) := by
  exact ok_def F sc_Player_note (T_Player_note P w c) (fun _ _ _ _ h => h) (fun cdv A outer s H E J W E2 tr =>
 wss_cons (ws_fld T.cl_Player T.na_Player_fed_tick (we_var 0) (we_var 1))
 (wss_one (ws_for (wi_seq (we_var 2)) (wg_tup (wgs_cons (wg_name 3 sc_Player_note.nd) (wgs_cons (wg_name 4 sc_Player_note.nd) (wgs_cons (wg_name 5 sc_Player_note.nd) (wgs_nil))))) (wss_one (ws_expr (we_append (we_fld T.cl_Player T.na_Player_happened (we_var 0)) (wa_cons (we_tup (wa_cons (we_var 3) (wa_cons (we_var 1) (wa_cons (we_var 4) (wa_cons (we_var 5) (wa_nil)))))) (wa_nil))))))))
abbrev s_Player_pass_wait : Stmt := inClass (top 18) 5
theorem sc_Player_pass_wait : FnScope N_Player_pass_wait ["self"] (defScope s_Player_pass_wait) := ⟨rfl, rfl, rfl, by decide +kernel, rfl, by decide +kernel, by decide +kernel⟩
theorem ok_Player_pass_wait {f : Addr} {fd : FuncData} (F : Fun K "_pass_wait" "Player._pass_wait" s_Player_pass_wait f fd) (T : Tp K mg c) (met_Player_note : MetD P w K mg base 1 c.Player "_note" (sp_Player_note P w c) []) (met_Rules_break_up : MetD P w K mg base 3 c.Rules "break_up" (sp_Rules_break_up P w c) []) : Ok P w K mg base 4 f fd ["self"] (sp_Player_pass_wait P w c) := by
  exact ok_def F sc_Player_pass_wait (T_Player_pass_wait P w c) (fun _ _ _ _ h => h) (fun cdv A outer s H E J W E2 tr =>
 wss_cons (ws_asg (we_meth met_Rules_break_up (show 3 ≤ 3 by decide) (we_fld T.cl_Player T.na_Player__rules (we_var 0)) (wa_cons (we_fld T.cl_Player T.na_Player_state (we_var 0)) (wa_nil))) (wg_tup (wgs_cons (wg_name 1 sc_Player_pass_wait.nd) (wgs_cons (wg_attr T.cl_Player T.na_Player_state (we_var 0)) (wgs_nil)))))
 (wss_one (ws_expr (we_meth met_Player_note (show 1 ≤ 3 by decide) (we_var 0) (wa_cons (we_op wo_add (we_fld T.cl_Player T.na_Player_fed_tick (we_var 0)) (we_fld T.cl_Player T.na_Player__pause (we_var 0))) (wa_cons (we_var 1) (wa_nil)))))))
abbrev s_Player_let_pass : Stmt := inClass (top 18) 2
theorem sc_Player_let_pass : FnScope N_Player_let_pass ["self", "tick"] (defScope s_Player_let_pass) := ⟨rfl, rfl, rfl, by decide +kernel, rfl, by decide +kernel, by decide +kernel⟩
theorem ok_Player_let_pass {f : Addr} {fd : FuncData} (F : Fun K "let_pass" "Player.let_pass" s_Player_let_pass f fd) (T : Tp K mg c) (met_Player_pass_wait : MetD P w K mg base 4 c.Player "_pass_wait" (sp_Player_pass_wait P w c) []) : Ok P w K mg base 5 f fd ["self", "tick"] (sp_Player_let_pass P w c) := by
  exact ok_def F sc_Player_let_pass (T_Player_let_pass P w c) (fun _ _ _ _ h => h) (fun cdv A outer s H E J W E2 tr =>
 wss_one (ws_while (wt_bool (ww_and (wt_tru (we_ix (we_fld T.cl_Player T.na_Player_state (we_var 0)) (we_int))) (ww_and1 (wt_cmp wo_le (we_op wo_add (we_fld T.cl_Player T.na_Player_fed_tick (we_var 0)) (we_fld T.cl_Player T.na_Player__pause (we_var 0))) (we_var 1))))) (wss_one (ws_expr (we_meth0 met_Player_pass_wait (show 4 ≤ 4 by decide) (we_var 0))))))
abbrev s_Player_press : Stmt := inClass (top 18) 1
theorem sc_Player_press : FnScope N_Player_press ["self", "tick", "key"] (defScope s_Player_press) := ⟨rfl, rfl, rfl, by decide +kernel, rfl, by decide +kernel, by decide +kernel⟩
theorem ok_Player_press {f : Addr} {fd : FuncData} (F : Fun K "press" "Player.press" s_Player_press f fd) (T : Tp K mg c) (met_Player_let_pass : MetD P w K mg base 5 c.Player "let_pass" (sp_Player_let_pass P w c) []) (met_Player_note : MetD P w K mg base 1 c.Player "_note" (sp_Player_note P w c) []) (met_Rules_feed : MetD P w K mg base 2 c.Rules "feed" (sp_Rules_feed P w c) []) : Ok P w K mg base 6 f fd ["self", "tick", "key"] (sp_Player_press P w c) := by
  exact ok_def F sc_Player_press (T_Player_press P w c) (fun _ _ _ _ h => h) (fun cdv A outer s H E J W E2 tr =>
 wss_cons (ws_expr (we_meth met_Player_let_pass (show 5 ≤ 5 by decide) (we_var 0) (wa_cons (we_var 1) (wa_nil))))
 (wss_cons (ws_asg (we_meth met_Rules_feed (show 2 ≤ 5 by decide) (we_fld T.cl_Player T.na_Player__rules (we_var 0)) (wa_cons (we_fld T.cl_Player T.na_Player_state (we_var 0)) (wa_cons (we_var 2) (wa_nil)))) (wg_tup (wgs_cons (wg_name 3 sc_Player_press.nd) (wgs_cons (wg_attr T.cl_Player T.na_Player_state (we_var 0)) (wgs_nil)))))
 (wss_one (ws_expr (we_meth met_Player_note (show 1 ≤ 5 by decide) (we_var 0) (wa_cons (we_var 1) (wa_cons (we_var 3) (wa_nil))))))))
abbrev s_Player_let_all_pass : Stmt := inClass (top 18) 3
theorem sc_Player_let_all_pass : FnScope N_Player_let_all_pass ["self"] (defScope s_Player_let_all_pass) := ⟨rfl, rfl, rfl, by decide +kernel, rfl, by decide +kernel, by decide +kernel⟩
theorem ok_Player_let_all_pass {f : Addr} {fd : FuncData} (F : Fun K "let_all_pass" "Player.let_all_pass" s_Player_let_all_pass f fd) (T : Tp K mg c) (met_Player_pass_wait : MetD P w K mg base 4 c.Player "_pass_wait" (sp_Player_pass_wait P w c) []) : Ok P w K mg base 5 f fd ["self"] (sp_Player_let_all_pass P w c) := by
  exact ok_def F sc_Player_let_all_pass (T_Player_let_all_pass P w c) (fun _ _ _ _ h => h) (fun cdv A outer s H E J W E2 tr =>
 wss_one (ws_while (wt_tru (we_ix (we_fld T.cl_Player T.na_Player_state (we_var 0)) (we_int))) (wss_one (ws_expr (we_meth0 met_Player_pass_wait (show 4 ≤ 4 by decide) (we_var 0))))))
abbrev s_played : Stmt := top 19
theorem sc_played : FnScope N_played ["keymap", "strokes"] (defScope s_played) := ⟨rfl, rfl, rfl, by decide +kernel, rfl, by decide +kernel, by decide +kernel⟩
theorem ok_played {f : Addr} {fd : FuncData} (F : Fun K "_played" "_played" s_played f fd) (T : Tp K mg c) (mak_Player_init__ : MakD P w K mg base 5 "Player" c.Player (sp_Player_init__ P w c) []) (met_Player_let_all_pass : MetD P w K mg base 5 c.Player "let_all_pass" (sp_Player_let_all_pass P w c) []) (met_Player_press : MetD P w K mg base 6 c.Player "press" (sp_Player_press P w c) []) : Ok P w K mg base 7 f fd ["keymap", "strokes"] (sp_played P w c) := by
  exact ok_def F sc_played (T_played P w c) (fun _ _ _ _ h => h) (fun cdv A outer s H E J W E2 tr =>
 wss_cons (ws_set 2 (we_make mak_Player_init__ (show 6 ≤ 6 by decide) (wa_cons (we_var 0) (wa_nil))) sc_played.nd)
 (wss_cons (ws_for (wi_seq (we_var 1)) (wg_tup (wgs_cons (wg_name 3 sc_played.nd) (wgs_cons (wg_name 4 sc_played.nd) (wgs_nil)))) (wss_one (ws_expr (we_meth met_Player_press (show 6 ≤ 6 by decide) (we_var 2) (wa_cons (we_var 3) (wa_cons (we_var 4) (wa_nil)))))))
 (wss_cons (ws_expr (we_meth0 met_Player_let_all_pass (show 5 ≤ 6 by decide) (we_var 2)))
 (wss_one (ws_ret (we_var 2))))))
abbrev s_play_all : Stmt := top 20
theorem sc_play_all : FnScope N_play_all ["keymap", "strokes"] (defScope s_play_all) := ⟨rfl, rfl, rfl, by decide +kernel, rfl, by decide +kernel, by decide +kernel⟩
theorem ok_play_all {f : Addr} {fd : FuncData} (F : Fun K "play_all" "play_all" s_play_all f fd) (T : Tp K mg c) (cal_played : CalD P w K mg base 7 "_played" (sp_played P w c) []) : Ok P w K mg base 8 f fd ["keymap", "strokes"] (sp_play_all P w c) := by
  exact ok_def F sc_play_all (T_play_all P w c) (fun _ _ _ _ h => h) (fun cdv A outer s H E J W E2 tr =>
 wss_one (ws_ret (we_frz (we_fld T.cl_Player T.na_Player_happened (we_cal cal_played (show 7 ≤ 7 by decide) (wa_cons (we_var 0) (wa_cons (we_var 1) (wa_nil))))))))
abbrev s_is_binding : Stmt := top 27
theorem sc_is_binding : FnScope N_is_binding ["modes", "value"] (defScope s_is_binding) := ⟨rfl, rfl, rfl, by decide +kernel, rfl, by decide +kernel, by decide +kernel⟩
theorem ok_is_binding {f : Addr} {fd : FuncData} (F : Fun K "is_binding" "is_binding" s_is_binding f fd) (T : Tp K mg c) (cal_is_word : CalD P w K mg base 1 "is_word" (sp_is_word P w c) []) : Ok P w K mg base 2 f fd ["modes", "value"] (sp_is_binding P w c) := by
  obtain ⟨_, c_LONGEST_NAME⟩ := T.k_LONGEST_NAME
  obtain ⟨_, c_MOST_KEYS_OF_BINDING⟩ := T.k_MOST_KEYS_OF_BINDING
  exact ok_def F sc_is_binding (T_is_binding P w c) (fun _ _ _ _ h => h) (fun cdv A outer s H E J W E2 tr =>
 wss_cons (ws_if (wt_bool (ww_or (wt_not (wt_tru (we_callB wc_isi T.n_isinstance (by decide +kernel) (wa_cons (we_var 1) (wa_cons (we_bty "tuple" T.n_tuple rfl rfl) (wa_nil)))))) (ww_or1 (wt_cmp wo_ne (we_callB wc_len T.n_len (by decide +kernel) (wa_cons (we_var 1) (wa_nil))) (we_int))))) (wss_one (ws_ret (we_bl))) (wss_nil))
 (wss_cons (ws_asg (we_var 1) (wg_tup (wgs_cons (wg_name 2 sc_is_binding.nd) (wgs_cons (wg_name 3 sc_is_binding.nd) (wgs_cons (wg_name 4 sc_is_binding.nd) (wgs_cons (wg_name 5 sc_is_binding.nd) (wgs_nil)))))))
 (wss_cons (ws_if (wt_bool (ww_or (wt_cmp wo_notIn (we_var 2) (we_var 0)) (ww_or1 (wt_cmp wo_notIn (we_var 5) (we_var 0))))) (wss_one (ws_ret (we_bl))) (wss_nil))
 (wss_one (ws_ret (we_and (we_cal cal_is_word (show 1 ≤ 1 by decide) (wa_cons (we_var 3) (wa_cons (we_gint 6 c_MOST_KEYS_OF_BINDING ) (wa_nil)))) (we_one (we_cal cal_is_word (show 1 ≤ 1 by decide) (wa_cons (we_var 4) (wa_cons (we_gint 8 c_LONGEST_NAME ) (wa_nil)))))))))))
abbrev s_check_modes : Stmt := top 28
theorem sc_check_modes : FnScope N_check_modes ["modes"] (defScope s_check_modes) := ⟨rfl, rfl, rfl, by decide +kernel, rfl, by decide +kernel, by decide +kernel⟩
theorem ok_check_modes {f : Addr} {fd : FuncData} (F : Fun K "check_modes" "check_modes" s_check_modes f fd) (T : Tp K mg c) (cal_is_word : CalD P w K mg base 1 "is_word" (sp_is_word P w c) []) : Ok P w K mg base 2 f fd ["modes"] (sp_check_modes P w c) := by
  obtain ⟨_, c_LONGEST_NAME⟩ := T.k_LONGEST_NAME
  obtain ⟨_, c_MOST_MODES⟩ := T.k_MOST_MODES
  exact ok_def F sc_check_modes (T_check_modes P w c) (fun _ _ _ _ h => h) (fun cdv A outer s H E J W E2 tr =>
 wss_cons (ws_if (wt_bool (ww_or (wt_not (wt_tru (we_callB wc_isi T.n_isinstance (by decide +kernel) (wa_cons (we_var 0) (wa_cons (we_bty "tuple" T.n_tuple rfl rfl) (wa_nil)))))) (ww_or1 (wt_cmp wo_eq (we_callB wc_len T.n_len (by decide +kernel) (wa_cons (we_var 0) (wa_nil))) (we_int))))) (wss_one (ws_never)) (wss_nil))
 (wss_one (ws_for (wi_enum T.n_enumerate (wa_cons (we_var 0) (wa_nil))) (wg_tup (wgs_cons (wg_name 1 sc_check_modes.nd) (wgs_cons (wg_name 2 sc_check_modes.nd) (wgs_nil)))) (wss_one (ws_if (wt_bool (ww_or (wt_cmp wo_ge (we_var 1) (we_gint 4 c_MOST_MODES )) (ww_or (wt_not (wt_tru (we_cal cal_is_word (show 1 ≤ 1 by decide) (wa_cons (we_var 2) (wa_cons (we_gint 8 c_LONGEST_NAME ) (wa_nil)))))) (ww_or1 (wt_cmp wo_in (we_var 2) (we_slice (we_var 0) (wp_none) (wp_some (we_var 1)))))))) (wss_one (ws_never)) (wss_nil))))))
abbrev s_check_bindings : Stmt := top 29
theorem sc_check_bindings : FnScope N_check_bindings ["modes", "bindings"] (defScope s_check_bindings) := ⟨rfl, rfl, rfl, by decide +kernel, rfl, by decide +kernel, by decide +kernel⟩
theorem ok_check_bindings {f : Addr} {fd : FuncData} (F : Fun K "check_bindings" "check_bindings" s_check_bindings f fd) (T : Tp K mg c) (cal_is_binding : CalD P w K mg base 2 "is_binding" (sp_is_binding P w c) []) : Ok P w K mg base 3 f fd ["modes", "bindings"] (sp_check_bindings P w c) := by
  obtain ⟨_, c_MOST_BINDINGS⟩ := T.k_MOST_BINDINGS
  exact ok_def F sc_check_bindings (T_check_bindings P w c) (fun _ _ _ _ h => h) (fun cdv A outer s H E J W E2 tr =>
 wss_cons (ws_if (wt_not (wt_tru (we_callB wc_isi T.n_isinstance (by decide +kernel) (wa_cons (we_var 1) (wa_cons (we_bty "tuple" T.n_tuple rfl rfl) (wa_nil)))))) (wss_one (ws_never)) (wss_nil))
 (wss_cons (ws_set 2 (we_set0 T.n_set) sc_check_bindings.nd)
 (wss_one (ws_for (wi_enum T.n_enumerate (wa_cons (we_var 1) (wa_nil))) (wg_tup (wgs_cons (wg_name 3 sc_check_bindings.nd) (wgs_cons (wg_name 4 sc_check_bindings.nd) (wgs_nil)))) (wss_cons (ws_if (wt_bool (ww_or (wt_cmp wo_ge (we_var 3) (we_gint 30 c_MOST_BINDINGS )) (ww_or (wt_not (wt_tru (we_cal cal_is_binding (show 2 ≤ 2 by decide) (wa_cons (we_var 0) (wa_cons (we_var 4) (wa_nil)))))) (ww_or1 (wt_cmp wo_inT (we_slice (we_var 4) (wp_none) (wp_some (we_int))) (we_var 2)))))) (wss_one (ws_never)) (wss_nil))
 (wss_one (ws_expr (we_addT (we_var 2) (we_slice (we_var 4) (wp_none) (wp_some (we_int)))))))))))
abbrev s_KeyMap_init__ : Stmt := inClass (top 30) 0
theorem sc_KeyMap_init__ : FnScope N_KeyMap_init__ ["self", "modes", "wait", "bindings"] (defScope s_KeyMap_init__) := ⟨rfl, rfl, rfl, by decide +kernel, rfl, by decide +kernel, by decide +kernel⟩
theorem ok_KeyMap_init__ {f : Addr} {fd : FuncData} (F : Fun K "__init__" "KeyMap.__init__" s_KeyMap_init__ f fd) (T : Tp K mg c) (cal_check_bindings : CalD P w K mg base 3 "check_bindings" (sp_check_bindings P w c) []) (cal_check_modes : CalD P w K mg base 2 "check_modes" (sp_check_modes P w c) []) (cal_is_number : CalD P w K mg base 1 "is_number" (sp_is_number P w c) []) : Ok P w K mg base 4 f fd ["self", "modes", "wait", "bindings"] (sp_KeyMap_init__ P w c) := by
  obtain ⟨_, c_GREATEST_WAIT⟩ := T.k_GREATEST_WAIT
  exact ok_def F sc_KeyMap_init__ (T_KeyMap_init__ P w c) (fun _ _ _ _ h => h) (fun cdv A outer s H E J W E2 tr =>
 wss_cons (ws_expr (we_cal cal_check_modes (show 2 ≤ 3 by decide) (wa_cons (we_var 1) (wa_nil))))
 (wss_cons (ws_if (wt_not (wt_tru (we_cal cal_is_number (show 1 ≤ 3 by decide) (wa_cons (we_var 2) (wa_cons (we_int) (wa_cons (we_gint 99 c_GREATEST_WAIT ) (wa_nil))))))) (wss_one (ws_never)) (wss_nil))
 (wss_cons (ws_expr (we_cal cal_check_bindings (show 3 ≤ 3 by decide) (wa_cons (we_var 1) (wa_cons (we_var 3) (wa_nil)))))
 (wss_cons (ws_fld T.cl_KeyMap T.na_KeyMap__modes (we_var 0) (we_var 1))
 (wss_cons (ws_fld T.cl_KeyMap T.na_KeyMap__wait (we_var 0) (we_var 2))
 (wss_one (ws_fld T.cl_KeyMap T.na_KeyMap__bindings (we_var 0) (we_var 3))))))))
abbrev s_KeyMap_with_wait : Stmt := inClass (top 30) 6
theorem sc_KeyMap_with_wait : FnScope N_KeyMap_with_wait ["self", "wait"] (defScope s_KeyMap_with_wait) := ⟨rfl, rfl, rfl, by decide +kernel, rfl, by decide +kernel, by decide +kernel⟩
theorem ok_KeyMap_with_wait {f : Addr} {fd : FuncData} (F : Fun K "with_wait" "KeyMap.with_wait" s_KeyMap_with_wait f fd) (T : Tp K mg c) (mak_KeyMap_init__ : MakD P w K mg base 4 "KeyMap" c.KeyMap (sp_KeyMap_init__ P w c) []) : Ok P w K mg base 6 f fd ["self", "wait"] (sp_KeyMap_with_wait P w c) := by
  exact ok_def F sc_KeyMap_with_wait (T_KeyMap_with_wait P w c) (fun _ _ _ _ h => h) (fun cdv A outer s H E J W E2 tr =>
 wss_one (ws_ret (we_make mak_KeyMap_init__ (show 5 ≤ 5 by decide) (wa_cons (we_fld T.cl_KeyMap T.na_KeyMap__modes (we_var 0)) (wa_cons (we_var 1) (wa_cons (we_fld T.cl_KeyMap T.na_KeyMap__bindings (we_var 0)) (wa_nil)))))))
abbrev s_check_index : Stmt := top 31
theorem sc_check_index : FnScope N_check_index ["keymap", "index"] (defScope s_check_index) := ⟨rfl, rfl, rfl, by decide +kernel, rfl, by decide +kernel, by decide +kernel⟩
theorem ok_check_index {f : Addr} {fd : FuncData} (F : Fun K "check_index" "check_index" s_check_index f fd) (T : Tp K mg c) (oex_UnknownBinding : OexF P w K mg base 1 "UnknownBinding" c.x_UnknownBinding ["index"]) (prp_KeyMap_bindings : PrpD P w K mg base 1 c.KeyMap "bindings" (sp_KeyMap_bindings P w c)) (cal_is_number : CalD P w K mg base 1 "is_number" (sp_is_number P w c) []) : Ok P w K mg base 3 f fd ["keymap", "index"] (sp_check_index P w c) := by
  exact ok_def F sc_check_index (T_check_index P w c) (fun _ _ _ _ h => h) (fun cdv A outer s H E J W E2 tr =>
 wss_one (ws_if (wt_not (wt_tru (we_cal cal_is_number (show 1 ≤ 2 by decide) (wa_cons (we_var 1) (wa_cons (we_int) (wa_cons (we_op wo_sub (we_callB wc_len T.n_len (by decide +kernel) (wa_cons (we_prop prp_KeyMap_bindings (show 2 ≤ 2 by decide) (we_var 0)) (wa_nil))) (we_int)) (wa_nil))))))) (wss_one (ws_raise oex_UnknownBinding (show 2 ≤ 2 by decide) (by decide) (wa_cons (we_var 1) (wa_nil)))) (wss_nil)))
abbrev s_check_wanted : Stmt := top 34
theorem sc_check_wanted : FnScope N_check_wanted ["keymap", "wanted"] (defScope s_check_wanted) := ⟨rfl, rfl, rfl, by decide +kernel, rfl, by decide +kernel, by decide +kernel⟩
theorem ok_check_wanted {f : Addr} {fd : FuncData} (F : Fun K "_check_wanted" "_check_wanted" s_check_wanted f fd) (T : Tp K mg c) (cal_check_index : CalD P w K mg base 3 "check_index" (sp_check_index P w c) []) : Ok P w K mg base 4 f fd ["keymap", "wanted"] (sp_check_wanted P w c) := by
  exact ok_def F sc_check_wanted (T_check_wanted P w c) (fun _ _ _ _ h => h) (fun cdv A outer s H E J W E2 tr =>
 wss_cons (ws_if (wt_not (wt_tru (we_callB wc_isi T.n_isinstance (by decide +kernel) (wa_cons (we_var 1) (wa_cons (we_bty "list" T.n_list rfl rfl) (wa_nil)))))) (wss_one (ws_never)) (wss_nil))
 (wss_one (ws_for (wi_seq (we_var 1)) (wg_name 2 sc_check_wanted.nd) (wss_one (ws_expr (we_cal cal_check_index (show 3 ≤ 3 by decide) (wa_cons (we_var 0) (wa_cons (we_var 2) (wa_nil)))))))))
abbrev s_check_gap : Stmt := top 35
theorem sc_check_gap : FnScope N_check_gap ["gap"] (defScope s_check_gap) := ⟨rfl, rfl, rfl, by decide +kernel, rfl, by decide +kernel, by decide +kernel⟩
theorem ok_check_gap {f : Addr} {fd : FuncData} (F : Fun K "_check_gap" "_check_gap" s_check_gap f fd) (T : Tp K mg c) (cal_is_number : CalD P w K mg base 1 "is_number" (sp_is_number P w c) []) : Ok P w K mg base 3 f fd ["gap"] (sp_check_gap P w c) := by
  obtain ⟨_, c_GREATEST_GAP⟩ := T.k_GREATEST_GAP
  exact ok_def F sc_check_gap (T_check_gap P w c) (fun _ _ _ _ h => h) (fun cdv A outer s H E J W E2 tr =>
 wss_one (ws_if (wt_not (wt_tru (we_cal cal_is_number (show 1 ≤ 2 by decide) (wa_cons (we_var 0) (wa_cons (we_int) (wa_cons (we_gint 99 c_GREATEST_GAP ) (wa_nil))))))) (wss_one (ws_raise0 PySem.F.excBase_ValueError T.q_InvalidGap T.g_InvalidGap T.kp_InvalidGap T.be_InvalidGap T.ty_InvalidGap)) (wss_nil)))
abbrev s_typed_strokes : Stmt := top 36
theorem sc_typed_strokes : FnScope N_typed_strokes ["bindings", "inner", "outer"] (defScope s_typed_strokes) := ⟨rfl, rfl, rfl, by decide +kernel, rfl, by decide +kernel, by decide +kernel⟩
theorem ok_typed_strokes {f : Addr} {fd : FuncData} (F : Fun K "_typed_strokes" "_typed_strokes" s_typed_strokes f fd) (T : Tp K mg c) : Ok P w K mg base 1 f fd ["bindings", "inner", "outer"] (sp_typed_strokes P w c) := by
  exact ok_def F sc_typed_strokes (T_typed_strokes P w c) (fun _ _ _ _ h => h) (fun cdv A outer s H E J W E2 tr =>
 wss_cons (ws_set 3 (we_lstM (wa_nil)) sc_typed_strokes.nd)
 (wss_cons (ws_for (wi_seq (we_var 0)) (wg_name 4 sc_typed_strokes.nd) (wss_cons (ws_set 5 (we_var 2) sc_typed_strokes.nd)
 (wss_one (ws_for (wi_str (we_ix (we_var 4) (we_int))) (wg_name 6 sc_typed_strokes.nd) (wss_cons (ws_set 7 (we_if (wt_tru (we_var 3)) (we_op wo_add (we_ix (we_ix (we_var 3) (we_un wu_neg (we_int))) (we_int)) (we_var 5)) (we_int)) sc_typed_strokes.nd)
 (wss_cons (ws_expr (we_append (we_var 3) (wa_cons (we_tup (wa_cons (we_var 7) (wa_cons (we_var 6) (wa_nil)))) (wa_nil))))
 (wss_one (ws_set 5 (we_var 1) sc_typed_strokes.nd))))))))
 (wss_one (ws_ret (we_frz (we_var 3))))))
abbrev s_good_waits : Stmt := top 37
theorem sc_good_waits : FnScope N_good_waits ["keymap", "wanted", "inner", "outer"] (defScope s_good_waits) := ⟨rfl, rfl, rfl, by decide +kernel, rfl, by decide +kernel, by decide +kernel⟩
theorem ok_good_waits {f : Addr} {fd : FuncData} (F : Fun K "good_waits" "good_waits" s_good_waits f fd) (T : Tp K mg c) (prp_KeyMap_bindings : PrpD P w K mg base 1 c.KeyMap "bindings" (sp_KeyMap_bindings P w c)) (met_KeyMap_with_wait : MetD P w K mg base 6 c.KeyMap "with_wait" (sp_KeyMap_with_wait P w c) []) (cal_check_gap : CalD P w K mg base 3 "_check_gap" (sp_check_gap P w c) []) (cal_check_wanted : CalD P w K mg base 4 "_check_wanted" (sp_check_wanted P w c) []) (cal_play_all : CalD P w K mg base 8 "play_all" (sp_play_all P w c) []) (cal_typed_strokes : CalD P w K mg base 1 "_typed_strokes" (sp_typed_strokes P w c) []) : Ok P w K mg base 9 f fd ["keymap", "wanted", "inner", "outer"] (sp_good_waits P w c) := by
  obtain ⟨_, c_GREATEST_WAIT⟩ := T.k_GREATEST_WAIT
  exact ok_def F sc_good_waits (T_good_waits P w c) (fun _ _ _ _ h => h) (fun cdv A outer s H E J W E2 tr =>
 wss_cons (ws_expr (we_cal cal_check_wanted (show 4 ≤ 8 by decide) (wa_cons (we_var 0) (wa_cons (we_var 1) (wa_nil)))))
 (wss_cons (ws_expr (we_cal cal_check_gap (show 3 ≤ 8 by decide) (wa_cons (we_var 2) (wa_nil))))
 (wss_cons (ws_expr (we_cal cal_check_gap (show 3 ≤ 8 by decide) (wa_cons (we_var 3) (wa_nil))))
 (wss_cons (ws_setComp 4 (own := [("index", 5)]) sc_good_waits.nd (wi_seq (we_var 1)) (fun _ => blkOk_by (N := N_good_waits) (sc := defScope s_good_waits) (by decide +kernel)) (wgv_name 5 sc_good_waits.nd) (wts_nil) (we_ix (we_prop prp_KeyMap_bindings (show 2 ≤ 8 by decide) (we_var 0)) (we_var 5)))
 (wss_cons (ws_set 6 (we_cal cal_typed_strokes (show 1 ≤ 8 by decide) (wa_cons (we_var 4) (wa_cons (we_var 2) (wa_cons (we_var 3) (wa_nil))))) sc_good_waits.nd)
 (wss_cons (ws_setComp 7 (own := [("binding", 8)]) sc_good_waits.nd (wi_seq (we_var 4)) (fun _ => blkOk_by (N := N_good_waits) (sc := defScope s_good_waits) (by decide +kernel)) (wgv_name 8 sc_good_waits.nd) (wts_nil) (we_tup (wa_cons (we_str) (wa_cons (we_ix (we_var 8) (we_int)) (wa_nil)))))
 (wss_cons (ws_set 9 (we_lstM (wa_nil)) sc_good_waits.nd)
 (wss_cons (ws_for (wi_rng2 T.n_range (wa_cons (we_int) (wa_cons (we_op wo_add (we_gint 99 c_GREATEST_WAIT ) (we_int)) (wa_nil)))) (wg_name 10 sc_good_waits.nd) (wss_cons (ws_set 11 (we_cal cal_play_all (show 8 ≤ 8 by decide) (wa_cons (we_meth met_KeyMap_with_wait (show 6 ≤ 8 by decide) (we_var 0) (wa_cons (we_var 10) (wa_nil))) (wa_cons (we_var 6) (wa_nil)))) sc_good_waits.nd)
 (wss_one (ws_if (wt_cmp wo_eq (we_comp (own := [("what", 12), ("_", 13), ("name", 14)]) sc_good_waits.nd (wi_seq (we_var 11)) (fun _ => blkOk_by (N := N_good_waits) (sc := defScope s_good_waits) (by decide +kernel)) (wgv_tup (wgsv_cons (wgv_name 12 sc_good_waits.nd) (wgsv_cons (wgv_name 13 sc_good_waits.nd) (wgsv_cons (wgv_name 14 sc_good_waits.nd) (wgsv_cons (wgv_name 13 sc_good_waits.nd) (wgsv_nil)))))) (wts_nil) (we_tup (wa_cons (we_var 12) (wa_cons (we_var 14) (wa_nil))))) (we_var 7)) (wss_one (ws_expr (we_append (we_var 9) (wa_cons (we_var 10) (wa_nil))))) (wss_nil)))))
 (wss_one (ws_ret (we_frz (we_var 9))))))))))))
abbrev s_law_dice : Stmt := top 39
theorem sc_law_dice : FnScope N_law_dice ["_law_script"] (defScope s_law_dice) := ⟨rfl, rfl, rfl, by decide +kernel, rfl, by decide +kernel, by decide +kernel⟩
theorem ok_law_dice {f : Addr} {fd : FuncData} (F : Fun K "_law_dice" "_law_dice" s_law_dice f fd) (T : Tp K mg c) : Ok P w K mg base 1 f fd ["_law_script"] (sp_law_dice P w c) := by
  exact ok_def F sc_law_dice (T_law_dice P w c) (fun _ _ _ _ h => h) (fun cdv A outer s H E J W E2 tr =>
 wss_cons (ws_set 1 (we_int) sc_law_dice.nd)
 (wss_cons (ws_for (wi_seq (we_var 0)) (wg_name 2 sc_law_dice.nd) (wss_one (ws_set 1 (we_op wo_mod (we_op wo_add (we_op wo_add (we_op wo_mul (we_var 1) (we_int)) (we_op wo_mul (we_op wo_mod (we_callTy wc_int T.n_int (by decide +kernel) (wa_cons (we_var 2) (wa_nil))) (we_int)) (we_int))) (we_int)) (we_int)) sc_law_dice.nd)))
 (wss_one (ws_ret (we_lstM (wa_cons (we_var 0) (wa_cons (we_int) (wa_cons (we_op wo_mul (we_var 1) (we_callTy wc_int T.n_int (by decide +kernel) (wa_cons (we_cmp wo_gt (we_callB wc_len T.n_len (by decide +kernel) (wa_cons (we_var 0) (wa_nil))) (we_int)) (wa_nil)))) (wa_cons (we_int) (wa_nil))))))))))
abbrev s_law_next : Stmt := top 40
theorem sc_law_next : FnScope N_law_next ["_law_dice_here", "_law_many"] (defScope s_law_next) := ⟨rfl, rfl, rfl, by decide +kernel, rfl, by decide +kernel, by decide +kernel⟩
theorem ok_law_next {f : Addr} {fd : FuncData} (F : Fun K "_law_next" "_law_next" s_law_next f fd) (T : Tp K mg c) : Ok P w K mg base 1 f fd ["_law_dice_here", "_law_many"] (sp_law_next P w c) := by
  exact ok_def F sc_law_next (T_law_next P w c) (fun _ _ _ _ h => h) (fun cdv A outer s H E J W E2 tr =>
 wss_cons (ws_if (wt_cmp wo_gt (we_ix (we_var 0) (we_int)) (we_int)) (wss_cons (ws_set 2 (we_op wo_mod (we_callTy wc_int T.n_int (by decide +kernel) (wa_cons (we_ix (we_var 0) (we_int)) (wa_nil))) (we_var 1)) sc_law_next.nd)
 (wss_cons (ws_asg (we_op wo_fdiv (we_ix (we_var 0) (we_int)) (we_var 1)) (wg_subL (we_var 0) (we_int)))
 (wss_one (ws_ret (we_var 2))))) (wss_nil))
 (wss_cons (ws_asg (we_op wo_add (we_ix (we_var 0) (we_int)) (we_int)) (wg_subL (we_var 0) (we_int)))
 (wss_cons (ws_if (wt_cmp wo_le (we_ix (we_var 0) (we_int)) (we_callB wc_len T.n_len (by decide +kernel) (wa_cons (we_ix (we_var 0) (we_int)) (wa_nil)))) (wss_cons (ws_set 3 (we_ix (we_ix (we_var 0) (we_int)) (we_op wo_sub (we_ix (we_var 0) (we_int)) (we_int))) sc_law_next.nd)
 (wss_cons (ws_asg (we_if (wt_cmp wo_ge (we_var 3) (we_op wo_pow (we_int) (we_int))) (we_op wo_fdiv (we_var 3) (we_var 1)) (we_int)) (wg_subL (we_var 0) (we_int)))
 (wss_one (ws_ret (we_op wo_mod (we_callTy wc_int T.n_int (by decide +kernel) (wa_cons (we_var 3) (wa_nil))) (we_var 1)))))) (wss_nil))
 (wss_cons (ws_asg (we_op wo_mod (we_callTy wc_int T.n_int (by decide +kernel) (wa_cons (we_op wo_mul (we_ix (we_var 0) (we_int)) (we_int)) (wa_nil))) (we_int)) (wg_subL (we_var 0) (we_int)))
 (wss_one (ws_ret (we_op wo_mod (we_op wo_fdiv (we_ix (we_var 0) (we_int)) (we_int)) (we_var 1))))))))
abbrev s_law_like : Stmt := top 41
theorem sc_law_like : FnScope N_law_like ["_law_found", "_law_due"] (defScope s_law_like) := ⟨rfl, rfl, rfl, by decide +kernel, rfl, by decide +kernel, by decide +kernel⟩
theorem okn_law_like {f_law_like : Addr} {fd_law_like : FuncData} (D_law_like : DefD K mg "_law_like" "_law_like" s_law_like f_law_like fd_law_like ["_law_found", "_law_due"] []) (T : Tp K mg c) : ∀ n, Ok P w K mg base (0 + n) f_law_like fd_law_like ["_law_found", "_law_due"] (spn_law_like P w c n 0)
  | 0 => ok_no
  | n + 1 => by
    have o_law_like := okn_law_like D_law_like T  n
    have cal_law_like := D_law_like.cal o_law_like
    exact ok_def D_law_like.fn sc_law_like (T_law_like P w c (spn_law_like P w c n 0)) (fun _ _ _ _ h => h) (fun cdv A outer s H E J W E2 tr =>
 wss_cons (ws_if (wt_bool (ww_or (wt_tru (we_callB wc_isi T.n_isinstance (by decide +kernel) (wa_cons (we_var 1) (wa_cons (we_bty "tuple" T.n_tuple rfl rfl) (wa_nil))))) (ww_or1 (wt_tru (we_callB wc_isi T.n_isinstance (by decide +kernel) (wa_cons (we_var 1) (wa_cons (we_bty "list" T.n_list rfl rfl) (wa_nil)))))))) (wss_cons (ws_if (wt_cmp wo_ne (we_callB wc_isi T.n_isinstance (by decide +kernel) (wa_cons (we_var 0) (wa_cons (we_bty "tuple" T.n_tuple rfl rfl) (wa_nil)))) (we_callB wc_isi T.n_isinstance (by decide +kernel) (wa_cons (we_var 1) (wa_cons (we_bty "tuple" T.n_tuple rfl rfl) (wa_nil))))) (wss_one (ws_ret (we_bl))) (wss_nil))
 (wss_cons (ws_if (wt_bool (ww_or (wt_cmp wo_ne (we_callB wc_isi T.n_isinstance (by decide +kernel) (wa_cons (we_var 0) (wa_cons (we_bty "list" T.n_list rfl rfl) (wa_nil)))) (we_callB wc_isi T.n_isinstance (by decide +kernel) (wa_cons (we_var 1) (wa_cons (we_bty "list" T.n_list rfl rfl) (wa_nil))))) (ww_or1 (wt_cmp wo_ne (we_callB wc_len T.n_len (by decide +kernel) (wa_cons (we_var 0) (wa_nil))) (we_callB wc_len T.n_len (by decide +kernel) (wa_cons (we_var 1) (wa_nil))))))) (wss_one (ws_ret (we_bl))) (wss_nil))
 (wss_one (ws_ret (we_cmp wo_eq (we_comp (own := [("_law_k", 2)]) sc_law_like.nd (wi_rng1 T.n_range (wa_cons (we_callB wc_len T.n_len (by decide +kernel) (wa_cons (we_var 1) (wa_nil))) (wa_nil))) (fun _ => blkOk_by (N := N_law_like) (sc := defScope s_law_like) (by decide +kernel)) (wgv_name 2 sc_law_like.nd) (wts_one (wt_not (wt_tru (we_cal cal_law_like (show 0 + n ≤ 0 + n from Nat.le_refl _) (wa_cons (we_ix (we_var 0) (we_var 2)) (wa_cons (we_ix (we_var 1) (we_var 2)) (wa_nil))))))) (we_var 2)) (we_lst (wa_nil))))))) (wss_nil))
 (wss_cons (ws_if (wt_cmp wo_ne (we_callB wc_isi T.n_isinstance (by decide +kernel) (wa_cons (we_var 0) (wa_cons (we_bty "bool" T.n_bool rfl rfl) (wa_nil)))) (we_callB wc_isi T.n_isinstance (by decide +kernel) (wa_cons (we_var 1) (wa_cons (we_bty "bool" T.n_bool rfl rfl) (wa_nil))))) (wss_one (ws_ret (we_bl))) (wss_nil))
 (wss_cons (ws_if (wt_bool (ww_or (wt_cmp wo_ne (we_callB wc_isi T.n_isinstance (by decide +kernel) (wa_cons (we_var 0) (wa_cons (we_bty "int" T.n_int rfl rfl) (wa_nil)))) (we_callB wc_isi T.n_isinstance (by decide +kernel) (wa_cons (we_var 1) (wa_cons (we_bty "int" T.n_int rfl rfl) (wa_nil))))) (ww_or1 (wt_cmp wo_ne (we_callB wc_isi T.n_isinstance (by decide +kernel) (wa_cons (we_var 0) (wa_cons (we_bty "str" T.n_str rfl rfl) (wa_nil)))) (we_callB wc_isi T.n_isinstance (by decide +kernel) (wa_cons (we_var 1) (wa_cons (we_bty "str" T.n_str rfl rfl) (wa_nil)))))))) (wss_one (ws_ret (we_bl))) (wss_nil))
 (wss_one (ws_ret (we_cmp wo_eq (we_var 0) (we_var 1)))))))
abbrev s_law_pick : Stmt := top 42
theorem sc_law_pick : FnScope N_law_pick ["_law_d", "_law_some"] (defScope s_law_pick) := ⟨rfl, rfl, rfl, by decide +kernel, rfl, by decide +kernel, by decide +kernel⟩
theorem ok_law_pick {f : Addr} {fd : FuncData} (F : Fun K "_law_pick" "_law_pick" s_law_pick f fd) (T : Tp K mg c) (cal_law_next : CalD P w K mg base 1 "_law_next" (sp_law_next P w c) []) : Ok P w K mg base 2 f fd ["_law_d", "_law_some"] (sp_law_pick P w c) := by
  exact ok_def F sc_law_pick (T_law_pick P w c) (fun _ _ _ _ h => h) (fun cdv A outer s H E J W E2 tr =>
 wss_one (ws_ret (we_ix (we_var 1) (we_cal cal_law_next (show 1 ≤ 1 by decide) (wa_cons (we_var 0) (wa_cons (we_callB wc_len T.n_len (by decide +kernel) (wa_cons (we_var 1) (wa_nil))) (wa_nil)))))))
abbrev s_law_keys : Stmt := top 44
theorem sc_law_keys : FnScope N_law_keys ["_law_d", "_law_letters", "_law_most"] (defScope s_law_keys) := ⟨rfl, rfl, rfl, by decide +kernel, rfl, by decide +kernel, by decide +kernel⟩
theorem ok_law_keys {f : Addr} {fd : FuncData} (F : Fun K "_law_keys" "_law_keys" s_law_keys f fd) (T : Tp K mg c) (cal_law_next : CalD P w K mg base 1 "_law_next" (sp_law_next P w c) []) (cal_law_pick : CalD P w K mg base 2 "_law_pick" (sp_law_pick P w c) []) : Ok P w K mg base 3 f fd ["_law_d", "_law_letters", "_law_most"] (sp_law_keys P w c) := by
  exact ok_def F sc_law_keys (T_law_keys P w c) (fun _ _ _ _ h => h) (fun cdv A outer s H E J W E2 tr =>
 wss_one (ws_ret (we_bm PySem.F.plainAttrs_str PySem.F.slot_str_join PySem.F.type_str_join wm_join (we_str) (wa_cons (we_comp (own := [("_law_k", 3)]) sc_law_keys.nd (wi_rng1 T.n_range (wa_cons (we_op wo_add (we_int) (we_cal cal_law_next (show 1 ≤ 2 by decide) (wa_cons (we_var 0) (wa_cons (we_var 2) (wa_nil))))) (wa_nil))) (fun _ => blkOk_by (N := N_law_keys) (sc := defScope s_law_keys) (by decide +kernel)) (wgv_name 3 sc_law_keys.nd) (wts_nil) (we_cal cal_law_pick (show 2 ≤ 2 by decide) (wa_cons (we_var 0) (wa_cons (we_var 1) (wa_nil))))) (wa_nil)))))
abbrev s_law_map : Stmt := top 45
theorem sc_law_map : FnScope N_law_map ["_law_d", "_law_modes", "_law_letters", "_law_rows", "_law_most", "_law_wait"] (defScope s_law_map) := ⟨rfl, rfl, rfl, by decide +kernel, rfl, by decide +kernel, by decide +kernel⟩
theorem ok_law_map {f : Addr} {fd : FuncData} (F : Fun K "_law_map" "_law_map" s_law_map f fd) (T : Tp K mg c) (cal_law_keys : CalD P w K mg base 3 "_law_keys" (sp_law_keys P w c) []) (cal_law_next : CalD P w K mg base 1 "_law_next" (sp_law_next P w c) []) (cal_law_pick : CalD P w K mg base 2 "_law_pick" (sp_law_pick P w c) []) : Ok P w K mg base 4 f fd ["_law_d", "_law_modes", "_law_letters", "_law_rows", "_law_most", "_law_wait"] (sp_law_map P w c) := by
  exact ok_def F sc_law_map (T_law_map P w c) (fun _ _ _ _ h => h) (fun cdv A outer s H E J W E2 tr =>
 wss_cons (ws_set 6 (we_callTy wc_tuple T.n_tuple (by decide +kernel) (wa_cons (we_slice (we_lst (wa_cons (we_str) (wa_cons (we_str) (wa_cons (we_str) (wa_cons (we_str) (wa_nil)))))) (wp_none) (wp_some (we_op wo_add (we_int) (we_cal cal_law_next (show 1 ≤ 3 by decide) (wa_cons (we_var 0) (wa_cons (we_var 1) (wa_nil))))))) (wa_nil))) sc_law_map.nd)
 (wss_cons (ws_par 7 8 (wa_cons (we_lstM (wa_nil)) (wa_cons (we_lstM (wa_nil)) (wa_nil))) sc_law_map.nd)
 (wss_cons (ws_for (wi_rng1 T.n_range (wa_cons (we_cal cal_law_next (show 1 ≤ 3 by decide) (wa_cons (we_var 0) (wa_cons (we_op wo_add (we_var 3) (we_int)) (wa_nil)))) (wa_nil))) (wg_name 9 sc_law_map.nd) (wss_cons (ws_par 10 11 (wa_cons (we_cal cal_law_pick (show 2 ≤ 3 by decide) (wa_cons (we_var 0) (wa_cons (we_var 6) (wa_nil)))) (wa_cons (we_cal cal_law_keys (show 3 ≤ 3 by decide) (wa_cons (we_var 0) (wa_cons (we_var 2) (wa_cons (we_var 4) (wa_nil))))) (wa_nil))) sc_law_map.nd)
 (wss_one (ws_if (wt_cmp wo_notIn (we_tup (wa_cons (we_var 10) (wa_cons (we_var 11) (wa_nil)))) (we_var 8)) (wss_cons (ws_expr (we_append (we_var 8) (wa_cons (we_tup (wa_cons (we_var 10) (wa_cons (we_var 11) (wa_nil)))) (wa_nil))))
 (wss_cons (ws_set 12 (we_cal cal_law_pick (show 2 ≤ 3 by decide) (wa_cons (we_var 0) (wa_cons (we_lst (wa_cons (we_str) (wa_cons (we_str) (wa_cons (we_str) (wa_cons (we_str) (wa_cons (we_str) (wa_nil))))))) (wa_nil)))) sc_law_map.nd)
 (wss_one (ws_expr (we_append (we_var 7) (wa_cons (we_tup (wa_cons (we_var 10) (wa_cons (we_var 11) (wa_cons (we_var 12) (wa_cons (we_cal cal_law_pick (show 2 ≤ 3 by decide) (wa_cons (we_var 0) (wa_cons (we_lst (wa_cons (we_var 10) (wa_cons (we_var 10) (wa_cons (we_cal cal_law_pick (show 2 ≤ 3 by decide) (wa_cons (we_var 0) (wa_cons (we_var 6) (wa_nil)))) (wa_nil))))) (wa_nil)))) (wa_nil)))))) (wa_nil))))))) (wss_nil)))))
 (wss_one (ws_ret (we_tup (wa_cons (we_var 6) (wa_cons (we_op wo_add (we_int) (we_cal cal_law_next (show 1 ≤ 3 by decide) (wa_cons (we_var 0) (wa_cons (we_var 5) (wa_nil))))) (wa_cons (we_callTy wc_tuple T.n_tuple (by decide +kernel) (wa_cons (we_var 7) (wa_nil))) (wa_nil))))))))))
abbrev s_law_broken : Stmt := top 47
theorem sc_law_broken : FnScope N_law_broken ["_law_rows", "_law_mode", "_law_held", "_law_tick", "_law_made_here"] (defScope s_law_broken) := ⟨rfl, rfl, rfl, by decide +kernel, rfl, by decide +kernel, by decide +kernel⟩
theorem ok_law_broken {f : Addr} {fd : FuncData} (F : Fun K "_law_broken" "_law_broken" s_law_broken f fd) (T : Tp K mg c) : Ok P w K mg base 1 f fd ["_law_rows", "_law_mode", "_law_held", "_law_tick", "_law_made_here"] (sp_law_broken P w c) := by
  exact ok_def F sc_law_broken (T_law_broken P w c) (fun _ _ _ _ h => h) (fun cdv A outer s H E J W E2 tr =>
 wss_cons (ws_par 5 6 (wa_cons (we_bm PySem.F.plainAttrs_str PySem.F.slot_str_join PySem.F.type_str_join wm_join (we_str) (wa_cons (we_comp (own := [("_law_key", 7), ("_law_when", 8)]) sc_law_broken.nd (wi_seq (we_var 2)) (fun _ => blkOk_by (N := N_law_broken) (sc := defScope s_law_broken) (by decide +kernel)) (wgv_tup (wgsv_cons (wgv_name 7 sc_law_broken.nd) (wgsv_cons (wgv_name 8 sc_law_broken.nd) (wgsv_nil)))) (wts_nil) (we_var 7)) (wa_nil))) (wa_cons (we_non) (wa_nil))) sc_law_broken.nd)
 (wss_cons (ws_for (wi_seq (we_var 0)) (wg_name 9 sc_law_broken.nd) (wss_one (ws_if (wt_bool (ww_and (wt_cmp wo_eq (we_ix (we_var 9) (we_int)) (we_var 1)) (ww_and (wt_tru (we_bm PySem.F.plainAttrs_str PySem.F.slot_str_startswith PySem.F.type_str_startswith wm_startswith (we_var 5) (wa_cons (we_ix (we_var 9) (we_int)) (wa_nil)))) (ww_and1 (wt_bool (ww_or (wt_cmp wo_isN (we_var 6) (we_non)) (ww_or1 (wt_cmp wo_gt (we_callB wc_len T.n_len (by decide +kernel) (wa_cons (we_ix (we_var 9) (we_int)) (wa_nil))) (we_callB wc_len T.n_len (by decide +kernel) (wa_cons (we_ix (we_var 6) (we_int)) (wa_nil))))))))))) (wss_one (ws_set 6 (we_var 9) sc_law_broken.nd)) (wss_nil))))
 (wss_cons (ws_if (wt_cmp wo_isN (we_var 6) (we_non)) (wss_cons (ws_expr (we_append (we_var 4) (wa_cons (we_tup (wa_cons (we_str) (wa_cons (we_var 3) (wa_cons (we_ix (we_ix (we_var 2) (we_int)) (we_int)) (wa_cons (we_ix (we_ix (we_var 2) (we_int)) (we_int)) (wa_nil)))))) (wa_nil))))
 (wss_one (ws_ret (we_tup (wa_cons (we_var 1) (wa_cons (we_slice (we_var 2) (wp_some (we_int)) (wp_none)) (wa_nil))))))) (wss_nil))
 (wss_cons (ws_expr (we_append (we_var 4) (wa_cons (we_tup (wa_cons (we_str) (wa_cons (we_var 3) (wa_cons (we_ix (we_var 6) (we_int)) (wa_cons (we_ix (we_ix (we_var 2) (we_op wo_sub (we_callB wc_len T.n_len (by decide +kernel) (wa_cons (we_ix (we_var 6) (we_int)) (wa_nil))) (we_int))) (we_int)) (wa_nil)))))) (wa_nil))))
 (wss_one (ws_ret (we_tup (wa_cons (we_ix (we_var 6) (we_int)) (wa_cons (we_slice (we_var 2) (wp_some (we_callB wc_len T.n_len (by decide +kernel) (wa_cons (we_ix (we_var 6) (we_int)) (wa_nil)))) (wp_none)) (wa_nil))))))))))
abbrev s_law_grown : Stmt := top 46
theorem sc_law_grown : FnScope N_law_grown ["_law_parts", "_law_state", "_law_keys_here", "_law_tick", "_law_made_here"] (defScope s_law_grown) := ⟨rfl, rfl, rfl, by decide +kernel, rfl, by decide +kernel, by decide +kernel⟩
theorem ok_law_grown {f : Addr} {fd : FuncData} (F : Fun K "_law_grown" "_law_grown" s_law_grown f fd) (T : Tp K mg c) (cal_law_broken : CalD P w K mg base 1 "_law_broken" (sp_law_broken P w c) []) : Ok P w K mg base 2 f fd ["_law_parts", "_law_state", "_law_keys_here", "_law_tick", "_law_made_here"] (sp_law_grown P w c) := by
  exact ok_def F sc_law_grown (T_law_grown P w c) (fun _ _ _ _ h => h) (fun cdv A outer s H E J W E2 tr =>
 wss_cons (ws_set 5 (we_ix (we_var 0) (we_int)) sc_law_grown.nd)
 (wss_cons (ws_asg (we_var 1) (wg_tup (wgs_cons (wg_name 6 sc_law_grown.nd) (wgs_cons (wg_name 7 sc_law_grown.nd) (wgs_cons (wg_name 8 sc_law_grown.nd) (wgs_nil))))))
 (wss_cons (ws_set 9 (we_callTy wc_list T.n_list (by decide +kernel) (wa_cons (we_var 2) (wa_nil))) sc_law_grown.nd)
 (wss_cons (ws_while (wt_cmp wo_ne (we_var 9) (we_lst (wa_nil))) (wss_cons (ws_par3 7 9 8 (wa_cons (we_op wo_add (we_var 7) (we_lst (wa_cons (we_ix (we_var 9) (we_int)) (wa_nil)))) (wa_cons (we_slice (we_var 9) (wp_some (we_int)) (wp_none)) (wa_cons (we_var 3) (wa_nil)))) sc_law_grown.nd)
 (wss_cons (ws_set 10 (we_bm PySem.F.plainAttrs_str PySem.F.slot_str_join PySem.F.type_str_join wm_join (we_str) (wa_cons (we_comp (own := [("_law_key", 11), ("_law_when", 12)]) sc_law_grown.nd (wi_seq (we_var 7)) (fun _ => blkOk_by (N := N_law_grown) (sc := defScope s_law_grown) (by decide +kernel)) (wgv_tup (wgsv_cons (wgv_name 11 sc_law_grown.nd) (wgsv_cons (wgv_name 12 sc_law_grown.nd) (wgsv_nil)))) (wts_nil) (we_var 11)) (wa_nil))) sc_law_grown.nd)
 (wss_cons (ws_setComp 13 (own := [("_law_row", 14)]) sc_law_grown.nd (wi_seq (we_var 5)) (fun _ => blkOk_by (N := N_law_grown) (sc := defScope s_law_grown) (by decide +kernel)) (wgv_name 14 sc_law_grown.nd) (wts_one (wt_bool (ww_and (wt_cmp wo_eq (we_ix (we_var 14) (we_int)) (we_var 6)) (ww_and (wt_tru (we_bm PySem.F.plainAttrs_str PySem.F.slot_str_startswith PySem.F.type_str_startswith wm_startswith (we_ix (we_var 14) (we_int)) (wa_cons (we_var 10) (wa_nil)))) (ww_and1 (wt_cmp wo_ne (we_ix (we_var 14) (we_int)) (we_var 10))))))) (we_var 14))
 (wss_one (ws_if (wt_cmp wo_eq (we_var 13) (we_lst (wa_nil))) (wss_cons (ws_asg (we_cal cal_law_broken (show 1 ≤ 1 by decide) (wa_cons (we_var 5) (wa_cons (we_var 6) (wa_cons (we_var 7) (wa_cons (we_var 3) (wa_cons (we_var 4) (wa_nil))))))) (wg_tup (wgs_cons (wg_name 6 sc_law_grown.nd) (wgs_cons (wg_name 15 sc_law_grown.nd) (wgs_nil)))))
 (wss_one (ws_par 7 9 (wa_cons (we_lst (wa_nil)) (wa_cons (we_op wo_add (we_var 15) (we_var 9)) (wa_nil))) sc_law_grown.nd))) (wss_nil)))))))
 (wss_one (ws_ret (we_tup (wa_cons (we_var 6) (wa_cons (we_var 7) (wa_cons (we_var 8) (wa_nil)))))))))))
abbrev s_law_passed : Stmt := top 48
theorem sc_law_passed : FnScope N_law_passed ["_law_parts", "_law_state", "_law_until", "_law_made_here"] (defScope s_law_passed) := ⟨rfl, rfl, rfl, by decide +kernel, rfl, by decide +kernel, by decide +kernel⟩
theorem ok_law_passed {f : Addr} {fd : FuncData} (F : Fun K "_law_passed" "_law_passed" s_law_passed f fd) (T : Tp K mg c) (cal_law_broken : CalD P w K mg base 1 "_law_broken" (sp_law_broken P w c) []) (cal_law_grown : CalD P w K mg base 2 "_law_grown" (sp_law_grown P w c) []) : Ok P w K mg base 3 f fd ["_law_parts", "_law_state", "_law_until", "_law_made_here"] (sp_law_passed P w c) := by
  exact ok_def F sc_law_passed (T_law_passed P w c) (fun _ _ _ _ h => h) (fun cdv A outer s H E J W E2 tr =>
 wss_cons (ws_while (wt_bool (ww_and (wt_cmp wo_ne (we_ix (we_var 1) (we_int)) (we_lst (wa_nil))) (ww_and1 (wt_bool (ww_or (wt_cmp wo_isN (we_var 2) (we_non)) (ww_or1 (wt_cmp wo_le (we_op wo_add (we_ix (we_var 1) (we_int)) (we_ix (we_var 0) (we_int))) (we_var 2)))))))) (wss_cons (ws_set 4 (we_op wo_add (we_ix (we_var 1) (we_int)) (we_ix (we_var 0) (we_int))) sc_law_passed.nd)
 (wss_cons (ws_asg (we_cal cal_law_broken (show 1 ≤ 2 by decide) (wa_cons (we_ix (we_var 0) (we_int)) (wa_cons (we_ix (we_var 1) (we_int)) (wa_cons (we_ix (we_var 1) (we_int)) (wa_cons (we_var 4) (wa_cons (we_var 3) (wa_nil))))))) (wg_tup (wgs_cons (wg_name 5 sc_law_passed.nd) (wgs_cons (wg_name 6 sc_law_passed.nd) (wgs_nil)))))
 (wss_one (ws_set 1 (we_cal cal_law_grown (show 2 ≤ 2 by decide) (wa_cons (we_var 0) (wa_cons (we_tup (wa_cons (we_var 5) (wa_cons (we_lst (wa_nil)) (wa_cons (we_var 4) (wa_nil))))) (wa_cons (we_var 6) (wa_cons (we_var 4) (wa_cons (we_var 3) (wa_nil))))))) sc_law_passed.nd)))))
 (wss_one (ws_ret (we_var 1))))
abbrev s_law_events : Stmt := top 49
theorem sc_law_events : FnScope N_law_events ["_law_parts", "_law_strokes"] (defScope s_law_events) := ⟨rfl, rfl, rfl, by decide +kernel, rfl, by decide +kernel, by decide +kernel⟩
theorem ok_law_events {f : Addr} {fd : FuncData} (F : Fun K "_law_events" "_law_events" s_law_events f fd) (T : Tp K mg c) (cal_law_grown : CalD P w K mg base 2 "_law_grown" (sp_law_grown P w c) []) (cal_law_passed : CalD P w K mg base 3 "_law_passed" (sp_law_passed P w c) []) : Ok P w K mg base 4 f fd ["_law_parts", "_law_strokes"] (sp_law_events P w c) := by
  exact ok_def F sc_law_events (T_law_events P w c) (fun _ _ _ _ h => h) (fun cdv A outer s H E J W E2 tr =>
 wss_cons (ws_par 2 3 (wa_cons (we_lstM (wa_nil)) (wa_cons (we_tup (wa_cons (we_ix (we_ix (we_var 0) (we_int)) (we_int)) (wa_cons (we_lst (wa_nil)) (wa_cons (we_int) (wa_nil))))) (wa_nil))) sc_law_events.nd)
 (wss_cons (ws_forG (wi_any (we_var 1)) (wg_tup (wgs_cons (wg_name 4 sc_law_events.nd) (wgs_cons (wg_name 5 sc_law_events.nd) (wgs_nil)))) (wss_cons (ws_set 3 (we_cal cal_law_passed (show 3 ≤ 3 by decide) (wa_cons (we_var 0) (wa_cons (we_var 3) (wa_cons (we_var 4) (wa_cons (we_var 2) (wa_nil)))))) sc_law_events.nd)
 (wss_one (ws_set 3 (we_cal cal_law_grown (show 2 ≤ 3 by decide) (wa_cons (we_var 0) (wa_cons (we_var 3) (wa_cons (we_lst (wa_cons (we_tup (wa_cons (we_var 5) (wa_cons (we_var 4) (wa_nil)))) (wa_nil))) (wa_cons (we_var 4) (wa_cons (we_var 2) (wa_nil))))))) sc_law_events.nd))))
 (wss_cons (ws_expr (we_cal cal_law_passed (show 3 ≤ 3 by decide) (wa_cons (we_var 0) (wa_cons (we_var 3) (wa_cons (we_non) (wa_cons (we_var 2) (wa_nil)))))))
 (wss_one (ws_ret (we_frz (we_var 2)))))))
abbrev s_law_made : Stmt := top 50
theorem sc_law_made : FnScope N_law_made ["_law_parts"] (defScope s_law_made) := ⟨rfl, rfl, rfl, by decide +kernel, rfl, by decide +kernel, by decide +kernel⟩
theorem ok_law_made {f : Addr} {fd : FuncData} (F : Fun K "_law_made" "_law_made" s_law_made f fd) (T : Tp K mg c) (mak_KeyMap_init__ : MakD P w K mg base 4 "KeyMap" c.KeyMap (sp_KeyMap_init__ P w c) []) : Ok P w K mg base 6 f fd ["_law_parts"] (sp_law_made P w c) := by
  exact ok_def F sc_law_made (T_law_made P w c) (fun _ _ _ _ h => h) (fun cdv A outer s H E J W E2 tr =>
 wss_one (ws_ret (we_make mak_KeyMap_init__ (show 5 ≤ 5 by decide) (wa_cons (we_ix (we_var 0) (we_int)) (wa_cons (we_ix (we_var 0) (we_int)) (wa_cons (we_ix (we_var 0) (we_int)) (wa_nil)))))))
abbrev s_law : Stmt := top 51
theorem sc_law : FnScope N_law ["_law_script"] (defScope s_law) := ⟨rfl, rfl, rfl, by decide +kernel, rfl, by decide +kernel, by decide +kernel⟩
abbrev TL_law (P : Program) (w : World) (c : Cs) : List LamT := tlOf (lamS 12 s_law) [(none, fun E2 => vCall (sp_good_waits P w c) [] E2 (vCons (vV 7) (vCons (vOp gAdd (vV 8) (vLst (vCons (vV 19) (vNil)))) (vCons (vV 20) (vCons (vV 20) (vNil)))))),
 (some "_law_a", fun E2 => vCall (sp_good_waits P w c) [] E2 (vCons (vV 7) (vCons (vV 8) (vCons (vV 20) (vCons (vC (.int 0)) (vNil)))))),
 (some "_law_b", fun E2 => vCall (sp_good_waits P w c) [] E2 (vCons (vV 7) (vCons (vV 8) (vCons (vC (.int 0)) (vCons (vV 20) (vNil))))))]
theorem ok_law {f cod : Addr} {oc kV doc pm ct : Value} {od an : Option Addr} {osl : Array (Option Value)} (lk : K.lookup f = some ⟨oc, od, .func (PySem.W.fnOf "law" "law" (defArgs s_law) (defBody s_law) (defScope s_law) .none kV doc pm an (.ref cod) ct), osl⟩) (hcd : PySem.W.codeIn K (.ref cod) "law" = true) (tb : TabB base mg cod c.tab) (T : Tp K mg c) (tell_law_told : TellD P w K mg base "_law_told" (tt_law_told P w c)) (cal_good_waits : CalD P w K mg base 9 "good_waits" (sp_good_waits P w c) []) (cal_law_dice : CalD P w K mg base 1 "_law_dice" (sp_law_dice P w c) []) (cal_law_events : CalD P w K mg base 4 "_law_events" (sp_law_events P w c) []) (cal_law_like : CalD P w K mg base 40 "_law_like" (sp_law_like P w c) []) (cal_law_made : CalD P w K mg base 6 "_law_made" (sp_law_made P w c) []) (cal_law_map : CalD P w K mg base 4 "_law_map" (sp_law_map P w c) []) (cal_law_next : CalD P w K mg base 1 "_law_next" (sp_law_next P w c) []) (cal_law_pick : CalD P w K mg base 2 "_law_pick" (sp_law_pick P w c) []) : Ok P w K mg base 41 f (PySem.W.fnOf "law" "law" (defArgs s_law) (defBody s_law) (defScope s_law) .none kV doc pm an (.ref cod) ct) ["_law_script"] (sp_law P w c) := by
  refine ok_defCN lk hcd sc_law (fun cs => T_law P w c (lamA lamQ (TL_law P w c) cs)) (fun _ _ _ _ h => ⟨h.1, fun _ => h.2 _⟩) (fun A outer s H E J W E2 tr => ?_)
  have HT_ : AllT (LamOk ⟨P, w, K, mg, base, 40, N_law, J, W, E2, tr, false⟩ (fun _ : Unit => cxOf (L2.CX P w) P w K mg base N_law "law" (defScope s_law) f (.ref cod) A outer s H E) 38) (TL_law P w c) :=
 ⟨⟨fun _ _ _ _ _ _ => rfl, fun _ => lamQ_by (by rfl), fun E_ J_ E2 tr_ =>
 we_cal cal_good_waits (show 9 ≤ 38 by decide) (wa_cons (we_var 7) (wa_cons (we_op wo_add (we_var 8) (we_lst (wa_cons (we_var 19) (wa_nil)))) (wa_cons (we_var 20) (wa_cons (we_var 20) (wa_nil)))))⟩,
 ⟨⟨by rfl, fun _ _ _ _ _ _ _ => ⟨_, rfl, fun _ => rfl⟩⟩, fun _ => lamQ_by (by rfl), fun E_ J_ E2 tr_ =>
 we_cal cal_good_waits (show 9 ≤ 38 by decide) (wa_cons (we_var 7) (wa_cons (we_var 8) (wa_cons (we_var 20) (wa_cons (we_int) (wa_nil)))))⟩,
 ⟨⟨by rfl, fun _ _ _ _ _ _ _ => ⟨_, rfl, fun _ => rfl⟩⟩, fun _ => lamQ_by (by rfl), fun E_ J_ E2 tr_ =>
 we_cal cal_good_waits (show 9 ≤ 38 by decide) (wa_cons (we_var 7) (wa_cons (we_var 8) (wa_cons (we_int) (wa_cons (we_var 20) (wa_nil)))))⟩, trivial⟩
  exact (wss_cons (ws_set 1 (we_cal cal_law_dice (show 1 ≤ 40 by decide) (wa_cons (we_var 0) (wa_nil))) sc_law.nd)
 (wss_cons (ws_for (wi_rng1 T.n_range (wa_cons (we_int) (wa_nil))) (wg_name 2 sc_law.nd) (wss_cons (ws_set 3 (we_cal cal_law_map (show 4 ≤ 40 by decide) (wa_cons (we_var 1) (wa_cons (we_int) (wa_cons (we_str) (wa_cons (we_int) (wa_cons (we_int) (wa_cons (we_int) (wa_nil)))))))) sc_law.nd)
 (wss_cons (ws_asg (we_var 3) (wg_tup (wgs_cons (wg_name 4 sc_law.nd) (wgs_cons (wg_name 5 sc_law.nd) (wgs_cons (wg_name 6 sc_law.nd) (wgs_nil))))))
 (wss_cons (ws_set 7 (we_cal cal_law_made (show 6 ≤ 40 by decide) (wa_cons (we_var 3) (wa_nil))) sc_law.nd)
 (wss_cons (ws_setCell 8 (we_comp (own := [("_law_k", 9)]) sc_law.nd (wi_rng1 T.n_range (wa_cons (we_if (wt_cmp wo_ne (we_var 6) (we_tup (wa_nil))) (we_cal cal_law_next (show 1 ≤ 40 by decide) (wa_cons (we_var 1) (wa_cons (we_int) (wa_nil)))) (we_int)) (wa_nil))) (fun _ => blkOk_by (N := N_law) (sc := defScope s_law) (by decide +kernel)) (wgv_name 9 sc_law.nd) (wts_nil) (we_cal cal_law_next (show 1 ≤ 40 by decide) (wa_cons (we_var 1) (wa_cons (we_callB wc_len T.n_len (by decide +kernel) (wa_cons (we_var 6) (wa_nil))) (wa_nil))))) sc_law.nd)
 (wss_cons (ws_set 8 (we_op wo_add (we_var 8) (we_op wo_rep (we_slice (we_var 8) (wp_none) (wp_some (we_int))) (we_cal cal_law_next (show 1 ≤ 40 by decide) (wa_cons (we_var 1) (wa_cons (we_int) (wa_nil)))))) sc_law.nd)
 (wss_cons (ws_par 10 11 (wa_cons (we_cal cal_law_next (show 1 ≤ 40 by decide) (wa_cons (we_var 1) (wa_cons (we_ix (we_lst (wa_cons (we_int) (wa_cons (we_int) (wa_nil)))) (we_cal cal_law_next (show 1 ≤ 40 by decide) (wa_cons (we_var 1) (wa_cons (we_int) (wa_nil))))) (wa_nil)))) (wa_cons (we_cal cal_law_next (show 1 ≤ 40 by decide) (wa_cons (we_var 1) (wa_cons (we_ix (we_lst (wa_cons (we_int) (wa_cons (we_int) (wa_nil)))) (we_cal cal_law_next (show 1 ≤ 40 by decide) (wa_cons (we_var 1) (wa_cons (we_int) (wa_nil))))) (wa_nil)))) (wa_nil))) sc_law.nd)
 (wss_cons (ws_par 12 13 (wa_cons (we_lstM (wa_nil)) (wa_cons (we_int) (wa_nil))) sc_law.nd)
 (wss_cons (ws_for (wi_seq (we_var 8)) (wg_name 14 sc_law.nd) (wss_one (ws_for (wi_rng1 T.n_range (wa_cons (we_callB wc_len T.n_len (by decide +kernel) (wa_cons (we_ix (we_ix (we_var 6) (we_var 14)) (we_int)) (wa_nil))) (wa_nil))) (wg_name 9 sc_law.nd) (wss_cons (ws_if (wt_cmp wo_neM (we_var 12) (we_lst (wa_nil))) (wss_one (ws_set 13 (we_op wo_add (we_var 13) (we_if (wt_cmp wo_gt (we_var 9) (we_int)) (we_var 10) (we_var 11))) sc_law.nd)) (wss_nil))
 (wss_one (ws_expr (we_append (we_var 12) (wa_cons (we_tup (wa_cons (we_var 13) (wa_cons (we_ix (we_ix (we_ix (we_var 6) (we_var 14)) (we_int)) (we_var 9)) (wa_nil)))) (wa_nil)))))))))
 (wss_cons (ws_set 15 (we_lstM (wa_nil)) sc_law.nd)
 (wss_cons (ws_for (wi_rng2 T.n_range (wa_cons (we_int) (wa_cons (we_int) (wa_nil)))) (wg_name 16 sc_law.nd) (wss_cons (ws_set 17 (we_cal cal_law_events (show 4 ≤ 40 by decide) (wa_cons (we_tup (wa_cons (we_var 4) (wa_cons (we_var 16) (wa_cons (we_var 6) (wa_nil))))) (wa_cons (we_var 12) (wa_nil)))) sc_law.nd)
 (wss_one (ws_if (wt_cmp wo_eq (we_comp (own := [("_law_row", 18)]) sc_law.nd (wi_seq (we_var 17)) (fun _ => blkOk_by (N := N_law) (sc := defScope s_law) (by decide +kernel)) (wgv_name 18 sc_law.nd) (wts_nil) (we_tup (wa_cons (we_ix (we_var 18) (we_int)) (wa_cons (we_ix (we_var 18) (we_int)) (wa_nil))))) (we_comp (own := [("_law_number", 14)]) sc_law.nd (wi_seq (we_var 8)) (fun _ => blkOk_by (N := N_law) (sc := defScope s_law) (by decide +kernel)) (wgv_name 14 sc_law.nd) (wts_nil) (we_tup (wa_cons (we_str) (wa_cons (we_ix (we_ix (we_var 6) (we_var 14)) (we_int)) (wa_nil)))))) (wss_one (ws_expr (we_append (we_var 15) (wa_cons (we_var 16) (wa_nil))))) (wss_nil)))))
 (wss_cons (ws_if (wt_not (wt_tru (we_cal cal_law_like (show 40 ≤ 40 by decide) (wa_cons (we_cal cal_good_waits (show 9 ≤ 40 by decide) (wa_cons (we_var 7) (wa_cons (we_var 8) (wa_cons (we_var 10) (wa_cons (we_var 11) (wa_nil)))))) (wa_cons (we_frz (we_var 15)) (wa_nil)))))) (wss_one (ws_ret (we_bl))) (wss_nil))
 (wss_cons (ws_asg (we_tup (wa_cons (we_cal cal_law_pick (show 2 ≤ 40 by decide) (wa_cons (we_var 1) (wa_cons (we_lst (wa_cons (we_un wu_neg (we_int)) (wa_cons (we_callB wc_len T.n_len (by decide +kernel) (wa_cons (we_var 6) (wa_nil))) (wa_cons (we_non) (wa_cons (we_bl) (wa_nil)))))) (wa_nil)))) (wa_cons (we_cal cal_law_pick (show 2 ≤ 40 by decide) (wa_cons (we_var 1) (wa_cons (we_lst (wa_cons (we_un wu_neg (we_int)) (wa_cons (we_int) (wa_cons (we_non) (wa_cons (we_bl) (wa_nil)))))) (wa_nil)))) (wa_nil)))) (wg_tup (wgs_cons (wg_name 19 sc_law.nd) (wgs_cons (wg_name 20 sc_law.nd) (wgs_nil)))))
 (wss_cons (ws_set 21 (we_lstM (wa_cons (we_lamA0 (n := 0) (T := TL_law P w c) tb rfl (fun _ => rfl) (fun _ => lamQ_by (by rfl))) (wa_cons (we_lamA1 (n := 1) (T := TL_law P w c) (nm := "_law_a") tb rfl (fun _ => rfl) (fun _ => lamQ_by (by rfl)) (fun _ => pe_int)) (wa_nil)))) sc_law.nd)
 (wss_cons (ws_expr (we_append (we_var 21) (wa_cons (we_lamA1 (n := 2) (T := TL_law P w c) (nm := "_law_b") tb rfl (fun _ => rfl) (fun _ => lamQ_by (by rfl)) (fun _ => pe_int)) (wa_nil))))
 (wss_cons (ws_set 15 (we_op wo_add (we_lst (wa_cons (we_tup (wa_cons (we_str) (wa_cons (we_str) (wa_cons (we_var 19) (wa_nil))))) (wa_nil))) (we_op wo_rep (we_lst (wa_cons (we_tup (wa_cons (we_str) (wa_cons (we_str) (wa_nil)))) (wa_nil))) (we_int))) sc_law.nd)
 (wss_one (ws_if (wt_cmp wo_neM (we_tellsA (T := TL_law P w c) (ts := ts_law P w c) (k := 38) (i := 22) (own := [("_law_one", 22)]) tell_law_told (show 38 + 2 ≤ 40 by decide) sc_law.nd (wi_seq (we_frz (we_var 21))) (fun _ => blkOk_by (N := N_law) (sc := defScope s_law) (by decide +kernel)) (wgv_name 22 sc_law.nd) (fun _ => rfl) HT_ rfl ttT_mono rfl (fun _ _ _ => .inl rfl) (fun _ _ _ _ _ _ => rfl)) (we_var 15)) (wss_one (ws_ret (we_bl))) (wss_nil)))))))))))))))))))
 (wss_one (ws_ret (we_bl)))))
end
end Lw

set_option Elab.async false
set_option linter.all false
set_option maxRecDepth 100000
set_option maxHeartbeats 40000000
namespace Lw
open PySem L2 Wl LamX
theorem all_mk {l : PySem.W.OpenLaw} {w : World} {K : PySem.W.Frag} {h : Heap} {mg : Str → Option Value} {fa : Addr} {c_KeyMap c_Player c_Rules c_MapError x_UnknownBinding x_InvalidGap f_is_number f_is_word f_KeyMap_bindings f_Rules_init__ f_Rules_first_step f_Rules_feed f_Rules_break_up f_KeyMap_modes f_KeyMap_wait f_Player_init__ f_Player_note f_Player_pass_wait f_Player_let_pass f_Player_press f_Player_let_all_pass f_played f_play_all f_is_binding f_check_modes f_check_bindings f_KeyMap_init__ f_KeyMap_with_wait f_check_index f_check_wanted f_check_gap f_typed_strokes f_good_waits f_law_dice f_law_next f_law_like f_law_pick f_law_keys f_law_map f_law_broken f_law_grown f_law_passed f_law_events f_law_made f_law f_law_told p_KeyMap_bindings p_KeyMap_modes p_KeyMap_wait cod tab : Addr}
    (X : K.In h) (G : h.Ns mainGlobals mg) (hfa : mg "law" = some (.ref fa))
    (z_all : PySem.W.nsIn K mainGlobals "all" = some none)
    (z_bool : PySem.W.nsIn K mainGlobals "bool" = some none)
    (z_enumerate : PySem.W.nsIn K mainGlobals "enumerate" = some none)
    (z_int : PySem.W.nsIn K mainGlobals "int" = some none)
    (z_isinstance : PySem.W.nsIn K mainGlobals "isinstance" = some none)
    (z_len : PySem.W.nsIn K mainGlobals "len" = some none)
    (z_list : PySem.W.nsIn K mainGlobals "list" = some none)
    (z_range : PySem.W.nsIn K mainGlobals "range" = some none)
    (z_set : PySem.W.nsIn K mainGlobals "set" = some none)
    (z_str : PySem.W.nsIn K mainGlobals "str" = some none)
    (z_tuple : PySem.W.nsIn K mainGlobals "tuple" = some none)
    (k_GREATEST_GAP : ∃ t, PySem.W.nsIn K mainGlobals "GREATEST_GAP" = some (some (.int 99 t)))
    (k_GREATEST_WAIT : ∃ t, PySem.W.nsIn K mainGlobals "GREATEST_WAIT" = some (some (.int 99 t)))
    (k_LETTERS : ∃ t, PySem.W.nsIn K mainGlobals "LETTERS" = some (some (.str "abcdefghijklmnopqrstuvwxyz" t)))
    (k_LONGEST_NAME : ∃ t, PySem.W.nsIn K mainGlobals "LONGEST_NAME" = some (some (.int 8 t)))
    (k_MOST_BINDINGS : ∃ t, PySem.W.nsIn K mainGlobals "MOST_BINDINGS" = some (some (.int 30 t)))
    (k_MOST_KEYS_OF_BINDING : ∃ t, PySem.W.nsIn K mainGlobals "MOST_KEYS_OF_BINDING" = some (some (.int 6 t)))
    (k_MOST_MODES : ∃ t, PySem.W.nsIn K mainGlobals "MOST_MODES" = some (some (.int 4 t)))
    (C_KeyMap : ClsF K "KeyMap" c_KeyMap)
    (C_Player : ClsF K "Player" c_Player)
    (C_Rules : ClsF K "Rules" c_Rules)
    (na_KeyMap__bindings : NoAttr K c_KeyMap "_bindings")
    (na_KeyMap__modes : NoAttr K c_KeyMap "_modes")
    (na_KeyMap__wait : NoAttr K c_KeyMap "_wait")
    (na_Player__pause : NoAttr K c_Player "_pause")
    (na_Player__rules : NoAttr K c_Player "_rules")
    (na_Player_fed_tick : NoAttr K c_Player "fed_tick")
    (na_Player_happened : NoAttr K c_Player "happened")
    (na_Player_state : NoAttr K c_Player "state")
    (na_Rules__begun : NoAttr K c_Rules "_begun")
    (na_Rules__bound : NoAttr K c_Rules "_bound")
    (H_MapError : PySem.W.nsIn K mainGlobals "MapError" = some (some (.ref c_MapError)))
    (O_x_UnknownBinding : OexK l.prog K "UnknownBinding" x_UnknownBinding "index")
    (E_UnknownBinding : L2.ExcC K x_UnknownBinding) (V_UnknownBinding : XfC K x_UnknownBinding)
    (m_UnknownBinding_MapError : PySem.W.exmOne K (.ref x_UnknownBinding) (.ref c_MapError) = some true)
    (n_UnknownBinding_index : PySem.W.findIn K (.ref x_UnknownBinding) "index" = some none)
    (n_UnknownBinding_part : PySem.W.findIn K (.ref x_UnknownBinding) "part" = some none)
    (ia_UnknownBinding_Contradiction : IsaF K x_UnknownBinding "Contradiction" false)
    (ia_UnknownBinding_InvalidGap : IsaF K x_UnknownBinding "InvalidGap" false)
    (ia_UnknownBinding_InvalidLength : IsaF K x_UnknownBinding "InvalidLength" false)
    (ia_UnknownBinding_InvalidMap : IsaF K x_UnknownBinding "InvalidMap" false)
    (ia_UnknownBinding_InvalidNumber : IsaF K x_UnknownBinding "InvalidNumber" false)
    (ia_UnknownBinding_InvalidStrokes : IsaF K x_UnknownBinding "InvalidStrokes" false)
    (ia_UnknownBinding_InvalidTick : IsaF K x_UnknownBinding "InvalidTick" false)
    (ia_UnknownBinding_MapError : IsaF K x_UnknownBinding "MapError" true)
    (ia_UnknownBinding_TooManyKeys : IsaF K x_UnknownBinding "TooManyKeys" false)
    (ia_UnknownBinding_UnknownBinding : IsaF K x_UnknownBinding "UnknownBinding" true)
    (ia_UnknownBinding_ValueError : IsaF K x_UnknownBinding "ValueError" true)
    (A_InvalidGap : PySem.W.nsIn K mainGlobals "InvalidGap" = some (some (.ref x_InvalidGap)))
    (q_InvalidGap : PySem.W.excIn K x_InvalidGap [.type "ValueError", .type "Exception", .type "BaseException", .type "object"] "ValueError.__new__" = true)
    (kp_InvalidGap : PySem.W.keepIn K (.ref x_InvalidGap) = true)
    (be_InvalidGap : PySem.W.subIn K (.ref x_InvalidGap) (.type "BaseException") = some true)
    (ty_InvalidGap : PySem.W.typeIn K (.ref x_InvalidGap) = some (.type "type"))
    (E_InvalidGap : L2.ExcC K x_InvalidGap) (V_InvalidGap : XfC K x_InvalidGap)
    (m_InvalidGap_MapError : PySem.W.exmOne K (.ref x_InvalidGap) (.ref c_MapError) = some true)
    (n_InvalidGap_index : PySem.W.findIn K (.ref x_InvalidGap) "index" = some none)
    (n_InvalidGap_part : PySem.W.findIn K (.ref x_InvalidGap) "part" = some none)
    (ne_InvalidGap_UnknownBinding : x_InvalidGap ≠ x_UnknownBinding)
    (ia_InvalidGap_Contradiction : IsaF K x_InvalidGap "Contradiction" false)
    (ia_InvalidGap_InvalidGap : IsaF K x_InvalidGap "InvalidGap" true)
    (ia_InvalidGap_InvalidLength : IsaF K x_InvalidGap "InvalidLength" false)
    (ia_InvalidGap_InvalidMap : IsaF K x_InvalidGap "InvalidMap" false)
    (ia_InvalidGap_InvalidNumber : IsaF K x_InvalidGap "InvalidNumber" false)
    (ia_InvalidGap_InvalidStrokes : IsaF K x_InvalidGap "InvalidStrokes" false)
    (ia_InvalidGap_InvalidTick : IsaF K x_InvalidGap "InvalidTick" false)
    (ia_InvalidGap_MapError : IsaF K x_InvalidGap "MapError" true)
    (ia_InvalidGap_TooManyKeys : IsaF K x_InvalidGap "TooManyKeys" false)
    (ia_InvalidGap_UnknownBinding : IsaF K x_InvalidGap "UnknownBinding" false)
    (ia_InvalidGap_ValueError : IsaF K x_InvalidGap "ValueError" true)
    (F_is_number : TopF K "is_number" "is_number" s_is_number f_is_number)
    (F_is_word : TopF K "is_word" "is_word" s_is_word f_is_word)
    (F_KeyMap_bindings : PrpF K c_KeyMap "bindings" "KeyMap.bindings" s_KeyMap_bindings p_KeyMap_bindings f_KeyMap_bindings)
    (F_Rules_init__ : MetF K c_Rules "__init__" "Rules.__init__" s_Rules_init__ f_Rules_init__)
    (F_Rules_first_step : MetF K c_Rules "_first_step" "Rules._first_step" s_Rules_first_step f_Rules_first_step)
    (F_Rules_feed : MetF K c_Rules "feed" "Rules.feed" s_Rules_feed f_Rules_feed)
    (F_Rules_break_up : MetF K c_Rules "break_up" "Rules.break_up" s_Rules_break_up f_Rules_break_up)
    (F_KeyMap_modes : PrpF K c_KeyMap "modes" "KeyMap.modes" s_KeyMap_modes p_KeyMap_modes f_KeyMap_modes)
    (F_KeyMap_wait : PrpF K c_KeyMap "wait" "KeyMap.wait" s_KeyMap_wait p_KeyMap_wait f_KeyMap_wait)
    (F_Player_init__ : MetF K c_Player "__init__" "Player.__init__" s_Player_init__ f_Player_init__)
    (F_Player_note : MetF K c_Player "_note" "Player._note" s_Player_note f_Player_note)
    (F_Player_pass_wait : MetF K c_Player "_pass_wait" "Player._pass_wait" s_Player_pass_wait f_Player_pass_wait)
    (F_Player_let_pass : MetF K c_Player "let_pass" "Player.let_pass" s_Player_let_pass f_Player_let_pass)
    (F_Player_press : MetF K c_Player "press" "Player.press" s_Player_press f_Player_press)
    (F_Player_let_all_pass : MetF K c_Player "let_all_pass" "Player.let_all_pass" s_Player_let_all_pass f_Player_let_all_pass)
    (F_played : TopF K "_played" "_played" s_played f_played)
    (F_play_all : TopF K "play_all" "play_all" s_play_all f_play_all)
    (F_is_binding : TopF K "is_binding" "is_binding" s_is_binding f_is_binding)
    (F_check_modes : TopF K "check_modes" "check_modes" s_check_modes f_check_modes)
    (F_check_bindings : TopF K "check_bindings" "check_bindings" s_check_bindings f_check_bindings)
    (F_KeyMap_init__ : MetF K c_KeyMap "__init__" "KeyMap.__init__" s_KeyMap_init__ f_KeyMap_init__)
    (F_KeyMap_with_wait : MetF K c_KeyMap "with_wait" "KeyMap.with_wait" s_KeyMap_with_wait f_KeyMap_with_wait)
    (F_check_index : TopF K "check_index" "check_index" s_check_index f_check_index)
    (F_check_wanted : TopF K "_check_wanted" "_check_wanted" s_check_wanted f_check_wanted)
    (F_check_gap : TopF K "_check_gap" "_check_gap" s_check_gap f_check_gap)
    (F_typed_strokes : TopF K "_typed_strokes" "_typed_strokes" s_typed_strokes f_typed_strokes)
    (F_good_waits : TopF K "good_waits" "good_waits" s_good_waits f_good_waits)
    (F_law_dice : TopF K "_law_dice" "_law_dice" s_law_dice f_law_dice)
    (F_law_next : TopF K "_law_next" "_law_next" s_law_next f_law_next)
    (F_law_like : TopF K "_law_like" "_law_like" s_law_like f_law_like)
    (F_law_pick : TopF K "_law_pick" "_law_pick" s_law_pick f_law_pick)
    (F_law_keys : TopF K "_law_keys" "_law_keys" s_law_keys f_law_keys)
    (F_law_map : TopF K "_law_map" "_law_map" s_law_map f_law_map)
    (F_law_broken : TopF K "_law_broken" "_law_broken" s_law_broken f_law_broken)
    (F_law_grown : TopF K "_law_grown" "_law_grown" s_law_grown f_law_grown)
    (F_law_passed : TopF K "_law_passed" "_law_passed" s_law_passed f_law_passed)
    (F_law_events : TopF K "_law_events" "_law_events" s_law_events f_law_events)
    (F_law_made : TopF K "_law_made" "_law_made" s_law_made f_law_made)
    (F_law : TopC K "law" "law" s_law f_law cod) (cdF : CodF K cod tab) (tb0 : h.get? tab = some { cls := .none, data := .fields #[] })
    (F_law_told : TopF K "_law_told" "_law_told" s_law_told f_law_told)
    : LawAtS l w K (L2.CX l.prog w) 41 63 "_law_script" mg fa h := by
  have isL : ∀ p ∈ ([(x_UnknownBinding, [("Contradiction", false), ("InvalidGap", false), ("InvalidLength", false), ("InvalidMap", false), ("InvalidNumber", false), ("InvalidStrokes", false), ("InvalidTick", false), ("MapError", true), ("TooManyKeys", false), ("UnknownBinding", true), ("ValueError", true)]), (x_InvalidGap, [("Contradiction", false), ("InvalidGap", true), ("InvalidLength", false), ("InvalidMap", false), ("InvalidNumber", false), ("InvalidStrokes", false), ("InvalidTick", false), ("MapError", true), ("TooManyKeys", false), ("UnknownBinding", false), ("ValueError", true)])] : List (Addr × List (Str × Bool))), L2.ExcC K p.1 ∧ ∀ q ∈ p.2, IsaF K p.1 q.1 q.2 := fun p hp => by
    simp only [List.mem_cons, List.not_mem_nil, or_false] at hp
    rcases hp with rfl | rfl
    · refine ⟨E_UnknownBinding, fun q hq => ?_⟩
      simp only [List.mem_cons, List.not_mem_nil, or_false] at hq
      rcases hq with rfl | rfl | rfl | rfl | rfl | rfl | rfl | rfl | rfl | rfl | rfl
      · exact ia_UnknownBinding_Contradiction
      · exact ia_UnknownBinding_InvalidGap
      · exact ia_UnknownBinding_InvalidLength
      · exact ia_UnknownBinding_InvalidMap
      · exact ia_UnknownBinding_InvalidNumber
      · exact ia_UnknownBinding_InvalidStrokes
      · exact ia_UnknownBinding_InvalidTick
      · exact ia_UnknownBinding_MapError
      · exact ia_UnknownBinding_TooManyKeys
      · exact ia_UnknownBinding_UnknownBinding
      · exact ia_UnknownBinding_ValueError
    · refine ⟨E_InvalidGap, fun q hq => ?_⟩
      simp only [List.mem_cons, List.not_mem_nil, or_false] at hq
      rcases hq with rfl | rfl | rfl | rfl | rfl | rfl | rfl | rfl | rfl | rfl | rfl
      · exact ia_InvalidGap_Contradiction
      · exact ia_InvalidGap_InvalidGap
      · exact ia_InvalidGap_InvalidLength
      · exact ia_InvalidGap_InvalidMap
      · exact ia_InvalidGap_InvalidNumber
      · exact ia_InvalidGap_InvalidStrokes
      · exact ia_InvalidGap_InvalidTick
      · exact ia_InvalidGap_MapError
      · exact ia_InvalidGap_TooManyKeys
      · exact ia_InvalidGap_UnknownBinding
      · exact ia_InvalidGap_ValueError
  have T : Tp K mg ⟨c_KeyMap, c_Player, c_Rules, c_MapError, x_UnknownBinding, x_InvalidGap, tab, fun C T => (([(x_UnknownBinding, [("Contradiction", false), ("InvalidGap", false), ("InvalidLength", false), ("InvalidMap", false), ("InvalidNumber", false), ("InvalidStrokes", false), ("InvalidTick", false), ("MapError", true), ("TooManyKeys", false), ("UnknownBinding", true), ("ValueError", true)]), (x_InvalidGap, [("Contradiction", false), ("InvalidGap", true), ("InvalidLength", false), ("InvalidMap", false), ("InvalidNumber", false), ("InvalidStrokes", false), ("InvalidTick", false), ("MapError", true), ("TooManyKeys", false), ("UnknownBinding", false), ("ValueError", true)])] : List (Addr × List (Str × Bool))).lookup C).bind fun r => r.lookup T, isx_at lk_head rfl, isx_at lk_head rfl, isx_at lk_head rfl, isx_at lk_head rfl, isx_at lk_head rfl, isx_at lk_head rfl, isx_at lk_head rfl, isx_at lk_head rfl, isx_at lk_head rfl, isx_at lk_head rfl, isx_at lk_head rfl, isx_at (lk_tail ne_InvalidGap_UnknownBinding lk_head) rfl, isx_at (lk_tail ne_InvalidGap_UnknownBinding lk_head) rfl, isx_at (lk_tail ne_InvalidGap_UnknownBinding lk_head) rfl, isx_at (lk_tail ne_InvalidGap_UnknownBinding lk_head) rfl, isx_at (lk_tail ne_InvalidGap_UnknownBinding lk_head) rfl, isx_at (lk_tail ne_InvalidGap_UnknownBinding lk_head) rfl, isx_at (lk_tail ne_InvalidGap_UnknownBinding lk_head) rfl, isx_at (lk_tail ne_InvalidGap_UnknownBinding lk_head) rfl, isx_at (lk_tail ne_InvalidGap_UnknownBinding lk_head) rfl, isx_at (lk_tail ne_InvalidGap_UnknownBinding lk_head) rfl, isx_at (lk_tail ne_InvalidGap_UnknownBinding lk_head) rfl⟩ := ⟨PySem.W.mg_none_of X G z_all,
    PySem.W.mg_none_of X G z_bool,
    PySem.W.mg_none_of X G z_enumerate,
    PySem.W.mg_none_of X G z_int,
    PySem.W.mg_none_of X G z_isinstance,
    PySem.W.mg_none_of X G z_len,
    PySem.W.mg_none_of X G z_list,
    PySem.W.mg_none_of X G z_range,
    PySem.W.mg_none_of X G z_set,
    PySem.W.mg_none_of X G z_str,
    PySem.W.mg_none_of X G z_tuple,
    (let ⟨t, e⟩ := k_GREATEST_GAP; ⟨t, PySem.W.mg_of X G e⟩),
    (let ⟨t, e⟩ := k_GREATEST_WAIT; ⟨t, PySem.W.mg_of X G e⟩),
    (let ⟨t, e⟩ := k_LETTERS; ⟨t, PySem.W.mg_of X G e⟩),
    (let ⟨t, e⟩ := k_LONGEST_NAME; ⟨t, PySem.W.mg_of X G e⟩),
    (let ⟨t, e⟩ := k_MOST_BINDINGS; ⟨t, PySem.W.mg_of X G e⟩),
    (let ⟨t, e⟩ := k_MOST_KEYS_OF_BINDING; ⟨t, PySem.W.mg_of X G e⟩),
    (let ⟨t, e⟩ := k_MOST_MODES; ⟨t, PySem.W.mg_of X G e⟩),
    C_KeyMap.cls,
    C_Player.cls,
    C_Rules.cls,
    na_KeyMap__bindings,
    na_KeyMap__modes,
    na_KeyMap__wait,
    na_Player__pause,
    na_Player__rules,
    na_Player_fed_tick,
    na_Player_happened,
    na_Player_state,
    na_Rules__begun,
    na_Rules__bound,
    isTab_of X G isL,
    PySem.W.mg_of X G H_MapError,
    fun C h => (isx_all (Q := fun C => PySem.W.exmOne K (.ref C) (.ref c_MapError) = some true) (fun p hp => by simp only [List.mem_cons, List.not_mem_nil, or_false] at hp; rcases hp with rfl | rfl <;> assumption) h),
    q_InvalidGap,
    PySem.W.mg_of X G A_InvalidGap,
    kp_InvalidGap,
    be_InvalidGap,
    ty_InvalidGap,
    fun C h => (isx_all (Q := fun C => XfC K C) (fun p hp => by simp only [List.mem_cons, List.not_mem_nil, or_false] at hp; rcases hp with rfl | rfl <;> assumption) h),
    fun C h => (isx_all (Q := fun C => PySem.W.findIn K (.ref C) "index" = some none) (fun p hp => by simp only [List.mem_cons, List.not_mem_nil, or_false] at hp; rcases hp with rfl | rfl <;> assumption) h),
    fun C h => (isx_all (Q := fun C => PySem.W.findIn K (.ref C) "part" = some none) (fun p hp => by simp only [List.mem_cons, List.not_mem_nil, or_false] at hp; rcases hp with rfl | rfl <;> assumption) h)⟩
  obtain ⟨fd_is_number, D_is_number⟩ := F_is_number.at_ (ps := ["value", "least", "greatest"]) X G (fun _ _ _ _ _ _ us hl => match us, hl with | [_, _, _], _ => rfl)
  obtain ⟨fd_is_word, D_is_word⟩ := F_is_word.at_ (ps := ["value", "longest"]) X G (fun _ _ _ _ _ _ us hl => match us, hl with | [_, _], _ => rfl)
  obtain ⟨fd_KeyMap_bindings, G_KeyMap_bindings, B_KeyMap_bindings⟩ := F_KeyMap_bindings.f.bound (ps := ["self"]) (fun _ _ _ _ _ _ us hl => match us, hl with | [_], _ => rfl)
  obtain ⟨fd_Rules_init__, G_Rules_init__, B_Rules_init__⟩ := F_Rules_init__.f.bound (ps := ["self", "keymap"]) (fun _ _ _ _ _ _ us hl => match us, hl with | [_, _], _ => rfl)
  obtain ⟨fd_Rules_first_step, G_Rules_first_step, B_Rules_first_step⟩ := F_Rules_first_step.f.bound (ps := ["self", "mode", "waiting"]) (fun _ _ _ _ _ _ us hl => match us, hl with | [_, _, _], _ => rfl)
  obtain ⟨fd_Rules_feed, G_Rules_feed, B_Rules_feed⟩ := F_Rules_feed.f.bound (ps := ["self", "state", "keys"]) (fun _ _ _ _ _ _ us hl => match us, hl with | [_, _, _], _ => rfl)
  obtain ⟨fd_Rules_break_up, G_Rules_break_up, B_Rules_break_up⟩ := F_Rules_break_up.f.bound (ps := ["self", "state"]) (fun _ _ _ _ _ _ us hl => match us, hl with | [_, _], _ => rfl)
  obtain ⟨fd_KeyMap_modes, G_KeyMap_modes, B_KeyMap_modes⟩ := F_KeyMap_modes.f.bound (ps := ["self"]) (fun _ _ _ _ _ _ us hl => match us, hl with | [_], _ => rfl)
  obtain ⟨fd_KeyMap_wait, G_KeyMap_wait, B_KeyMap_wait⟩ := F_KeyMap_wait.f.bound (ps := ["self"]) (fun _ _ _ _ _ _ us hl => match us, hl with | [_], _ => rfl)
  obtain ⟨fd_Player_init__, G_Player_init__, B_Player_init__⟩ := F_Player_init__.f.bound (ps := ["self", "keymap"]) (fun _ _ _ _ _ _ us hl => match us, hl with | [_, _], _ => rfl)
  obtain ⟨fd_Player_note, G_Player_note, B_Player_note⟩ := F_Player_note.f.bound (ps := ["self", "tick", "steps"]) (fun _ _ _ _ _ _ us hl => match us, hl with | [_, _, _], _ => rfl)
  obtain ⟨fd_Player_pass_wait, G_Player_pass_wait, B_Player_pass_wait⟩ := F_Player_pass_wait.f.bound (ps := ["self"]) (fun _ _ _ _ _ _ us hl => match us, hl with | [_], _ => rfl)
  obtain ⟨fd_Player_let_pass, G_Player_let_pass, B_Player_let_pass⟩ := F_Player_let_pass.f.bound (ps := ["self", "tick"]) (fun _ _ _ _ _ _ us hl => match us, hl with | [_, _], _ => rfl)
  obtain ⟨fd_Player_press, G_Player_press, B_Player_press⟩ := F_Player_press.f.bound (ps := ["self", "tick", "key"]) (fun _ _ _ _ _ _ us hl => match us, hl with | [_, _, _], _ => rfl)
  obtain ⟨fd_Player_let_all_pass, G_Player_let_all_pass, B_Player_let_all_pass⟩ := F_Player_let_all_pass.f.bound (ps := ["self"]) (fun _ _ _ _ _ _ us hl => match us, hl with | [_], _ => rfl)
  obtain ⟨fd_played, D_played⟩ := F_played.at_ (ps := ["keymap", "strokes"]) X G (fun _ _ _ _ _ _ us hl => match us, hl with | [_, _], _ => rfl)
  obtain ⟨fd_play_all, D_play_all⟩ := F_play_all.at_ (ps := ["keymap", "strokes"]) X G (fun _ _ _ _ _ _ us hl => match us, hl with | [_, _], _ => rfl)
  obtain ⟨fd_is_binding, D_is_binding⟩ := F_is_binding.at_ (ps := ["modes", "value"]) X G (fun _ _ _ _ _ _ us hl => match us, hl with | [_, _], _ => rfl)
  obtain ⟨fd_check_modes, D_check_modes⟩ := F_check_modes.at_ (ps := ["modes"]) X G (fun _ _ _ _ _ _ us hl => match us, hl with | [_], _ => rfl)
  obtain ⟨fd_check_bindings, D_check_bindings⟩ := F_check_bindings.at_ (ps := ["modes", "bindings"]) X G (fun _ _ _ _ _ _ us hl => match us, hl with | [_, _], _ => rfl)
  obtain ⟨fd_KeyMap_init__, G_KeyMap_init__, B_KeyMap_init__⟩ := F_KeyMap_init__.f.bound (ps := ["self", "modes", "wait", "bindings"]) (fun _ _ _ _ _ _ us hl => match us, hl with | [_, _, _, _], _ => rfl)
  obtain ⟨fd_KeyMap_with_wait, G_KeyMap_with_wait, B_KeyMap_with_wait⟩ := F_KeyMap_with_wait.f.bound (ps := ["self", "wait"]) (fun _ _ _ _ _ _ us hl => match us, hl with | [_, _], _ => rfl)
  obtain ⟨fd_check_index, D_check_index⟩ := F_check_index.at_ (ps := ["keymap", "index"]) X G (fun _ _ _ _ _ _ us hl => match us, hl with | [_, _], _ => rfl)
  obtain ⟨fd_check_wanted, D_check_wanted⟩ := F_check_wanted.at_ (ps := ["keymap", "wanted"]) X G (fun _ _ _ _ _ _ us hl => match us, hl with | [_, _], _ => rfl)
  obtain ⟨fd_check_gap, D_check_gap⟩ := F_check_gap.at_ (ps := ["gap"]) X G (fun _ _ _ _ _ _ us hl => match us, hl with | [_], _ => rfl)
  obtain ⟨fd_typed_strokes, D_typed_strokes⟩ := F_typed_strokes.at_ (ps := ["bindings", "inner", "outer"]) X G (fun _ _ _ _ _ _ us hl => match us, hl with | [_, _, _], _ => rfl)
  obtain ⟨fd_good_waits, D_good_waits⟩ := F_good_waits.at_ (ps := ["keymap", "wanted", "inner", "outer"]) X G (fun _ _ _ _ _ _ us hl => match us, hl with | [_, _, _, _], _ => rfl)
  obtain ⟨fd_law_dice, D_law_dice⟩ := F_law_dice.at_ (ps := ["_law_script"]) X G (fun _ _ _ _ _ _ us hl => match us, hl with | [_], _ => rfl)
  obtain ⟨fd_law_next, D_law_next⟩ := F_law_next.at_ (ps := ["_law_dice_here", "_law_many"]) X G (fun _ _ _ _ _ _ us hl => match us, hl with | [_, _], _ => rfl)
  obtain ⟨fd_law_like, D_law_like⟩ := F_law_like.at_ (ps := ["_law_found", "_law_due"]) X G (fun _ _ _ _ _ _ us hl => match us, hl with | [_, _], _ => rfl)
  obtain ⟨fd_law_pick, D_law_pick⟩ := F_law_pick.at_ (ps := ["_law_d", "_law_some"]) X G (fun _ _ _ _ _ _ us hl => match us, hl with | [_, _], _ => rfl)
  obtain ⟨fd_law_keys, D_law_keys⟩ := F_law_keys.at_ (ps := ["_law_d", "_law_letters", "_law_most"]) X G (fun _ _ _ _ _ _ us hl => match us, hl with | [_, _, _], _ => rfl)
  obtain ⟨fd_law_map, D_law_map⟩ := F_law_map.at_ (ps := ["_law_d", "_law_modes", "_law_letters", "_law_rows", "_law_most", "_law_wait"]) X G (fun _ _ _ _ _ _ us hl => match us, hl with | [_, _, _, _, _, _], _ => rfl)
  obtain ⟨fd_law_broken, D_law_broken⟩ := F_law_broken.at_ (ps := ["_law_rows", "_law_mode", "_law_held", "_law_tick", "_law_made_here"]) X G (fun _ _ _ _ _ _ us hl => match us, hl with | [_, _, _, _, _], _ => rfl)
  obtain ⟨fd_law_grown, D_law_grown⟩ := F_law_grown.at_ (ps := ["_law_parts", "_law_state", "_law_keys_here", "_law_tick", "_law_made_here"]) X G (fun _ _ _ _ _ _ us hl => match us, hl with | [_, _, _, _, _], _ => rfl)
  obtain ⟨fd_law_passed, D_law_passed⟩ := F_law_passed.at_ (ps := ["_law_parts", "_law_state", "_law_until", "_law_made_here"]) X G (fun _ _ _ _ _ _ us hl => match us, hl with | [_, _, _, _], _ => rfl)
  obtain ⟨fd_law_events, D_law_events⟩ := F_law_events.at_ (ps := ["_law_parts", "_law_strokes"]) X G (fun _ _ _ _ _ _ us hl => match us, hl with | [_, _], _ => rfl)
  obtain ⟨fd_law_made, D_law_made⟩ := F_law_made.at_ (ps := ["_law_parts"]) X G (fun _ _ _ _ _ _ us hl => match us, hl with | [_], _ => rfl)
  have e := hfa.symm.trans (PySem.W.mg_of X G F_law.a)
  cases e
  obtain ⟨ocl, odl, anl, osl, kVl, dcl, pml, ctl, lkl⟩ := F_law.l
  refine lawAt X tb0 lkl rfl cdF (fun s u => .of_eq rfl) fun base _ _ tb => ?_
  have oex_UnknownBinding := O_x_UnknownBinding w mg base h X G
  have tell_law_told := tell_law_told (P := l.prog) (w := w) (base := base) F_law_told.f (PySem.W.mg_of X G F_law_told.a) T
  have O_is_number := ok_is_number (P := l.prog) (w := w) (base := base) D_is_number.fn T 
  have cal_is_number := D_is_number.cal O_is_number
  have O_is_word := ok_is_word (P := l.prog) (w := w) (base := base) D_is_word.fn T 
  have cal_is_word := D_is_word.cal O_is_word
  have O_KeyMap_bindings := ok_KeyMap_bindings (P := l.prog) (w := w) (base := base) G_KeyMap_bindings T 
  have prp_KeyMap_bindings := F_KeyMap_bindings.prp C_KeyMap.cls B_KeyMap_bindings O_KeyMap_bindings
  have O_Rules_init__ := ok_Rules_init__ (P := l.prog) (w := w) (base := base) G_Rules_init__ T prp_KeyMap_bindings
  have mak_Rules_init__ := F_Rules_init__.mak X G C_Rules B_Rules_init__ O_Rules_init__
  have O_Rules_first_step := ok_Rules_first_step (P := l.prog) (w := w) (base := base) G_Rules_first_step T 
  have met_Rules_first_step := F_Rules_first_step.met C_Rules.cls B_Rules_first_step O_Rules_first_step
  have O_Rules_feed := ok_Rules_feed (P := l.prog) (w := w) (base := base) G_Rules_feed T met_Rules_first_step
  have met_Rules_feed := F_Rules_feed.met C_Rules.cls B_Rules_feed O_Rules_feed
  have O_Rules_break_up := ok_Rules_break_up (P := l.prog) (w := w) (base := base) G_Rules_break_up T met_Rules_feed met_Rules_first_step
  have met_Rules_break_up := F_Rules_break_up.met C_Rules.cls B_Rules_break_up O_Rules_break_up
  have O_KeyMap_modes := ok_KeyMap_modes (P := l.prog) (w := w) (base := base) G_KeyMap_modes T 
  have prp_KeyMap_modes := F_KeyMap_modes.prp C_KeyMap.cls B_KeyMap_modes O_KeyMap_modes
  have O_KeyMap_wait := ok_KeyMap_wait (P := l.prog) (w := w) (base := base) G_KeyMap_wait T 
  have prp_KeyMap_wait := F_KeyMap_wait.prp C_KeyMap.cls B_KeyMap_wait O_KeyMap_wait
  have O_Player_init__ := ok_Player_init__ (P := l.prog) (w := w) (base := base) G_Player_init__ T prp_KeyMap_modes prp_KeyMap_wait mak_Rules_init__
  have mak_Player_init__ := F_Player_init__.mak X G C_Player B_Player_init__ O_Player_init__
  have O_Player_note := ok_Player_note (P := l.prog) (w := w) (base := base) G_Player_note T 
  have met_Player_note := F_Player_note.met C_Player.cls B_Player_note O_Player_note
  have O_Player_pass_wait := ok_Player_pass_wait (P := l.prog) (w := w) (base := base) G_Player_pass_wait T met_Player_note met_Rules_break_up
  have met_Player_pass_wait := F_Player_pass_wait.met C_Player.cls B_Player_pass_wait O_Player_pass_wait
  have O_Player_let_pass := ok_Player_let_pass (P := l.prog) (w := w) (base := base) G_Player_let_pass T met_Player_pass_wait
  have met_Player_let_pass := F_Player_let_pass.met C_Player.cls B_Player_let_pass O_Player_let_pass
  have O_Player_press := ok_Player_press (P := l.prog) (w := w) (base := base) G_Player_press T met_Player_let_pass met_Player_note met_Rules_feed
  have met_Player_press := F_Player_press.met C_Player.cls B_Player_press O_Player_press
  have O_Player_let_all_pass := ok_Player_let_all_pass (P := l.prog) (w := w) (base := base) G_Player_let_all_pass T met_Player_pass_wait
  have met_Player_let_all_pass := F_Player_let_all_pass.met C_Player.cls B_Player_let_all_pass O_Player_let_all_pass
  have O_played := ok_played (P := l.prog) (w := w) (base := base) D_played.fn T mak_Player_init__ met_Player_let_all_pass met_Player_press
  have cal_played := D_played.cal O_played
  have O_play_all := ok_play_all (P := l.prog) (w := w) (base := base) D_play_all.fn T cal_played
  have cal_play_all := D_play_all.cal O_play_all
  have O_is_binding := ok_is_binding (P := l.prog) (w := w) (base := base) D_is_binding.fn T cal_is_word
  have cal_is_binding := D_is_binding.cal O_is_binding
  have O_check_modes := ok_check_modes (P := l.prog) (w := w) (base := base) D_check_modes.fn T cal_is_word
  have cal_check_modes := D_check_modes.cal O_check_modes
  have O_check_bindings := ok_check_bindings (P := l.prog) (w := w) (base := base) D_check_bindings.fn T cal_is_binding
  have cal_check_bindings := D_check_bindings.cal O_check_bindings
  have O_KeyMap_init__ := ok_KeyMap_init__ (P := l.prog) (w := w) (base := base) G_KeyMap_init__ T cal_check_bindings cal_check_modes cal_is_number
  have mak_KeyMap_init__ := F_KeyMap_init__.mak X G C_KeyMap B_KeyMap_init__ O_KeyMap_init__
  have O_KeyMap_with_wait := ok_KeyMap_with_wait (P := l.prog) (w := w) (base := base) G_KeyMap_with_wait T mak_KeyMap_init__
  have met_KeyMap_with_wait := F_KeyMap_with_wait.met C_KeyMap.cls B_KeyMap_with_wait O_KeyMap_with_wait
  have O_check_index := ok_check_index (P := l.prog) (w := w) (base := base) D_check_index.fn T oex_UnknownBinding prp_KeyMap_bindings cal_is_number
  have cal_check_index := D_check_index.cal O_check_index
  have O_check_wanted := ok_check_wanted (P := l.prog) (w := w) (base := base) D_check_wanted.fn T cal_check_index
  have cal_check_wanted := D_check_wanted.cal O_check_wanted
  have O_check_gap := ok_check_gap (P := l.prog) (w := w) (base := base) D_check_gap.fn T cal_is_number
  have cal_check_gap := D_check_gap.cal O_check_gap
  have O_typed_strokes := ok_typed_strokes (P := l.prog) (w := w) (base := base) D_typed_strokes.fn T 
  have cal_typed_strokes := D_typed_strokes.cal O_typed_strokes
  have O_good_waits := ok_good_waits (P := l.prog) (w := w) (base := base) D_good_waits.fn T prp_KeyMap_bindings met_KeyMap_with_wait cal_check_gap cal_check_wanted cal_play_all cal_typed_strokes
  have cal_good_waits := D_good_waits.cal O_good_waits
  have O_law_dice := ok_law_dice (P := l.prog) (w := w) (base := base) D_law_dice.fn T 
  have cal_law_dice := D_law_dice.cal O_law_dice
  have O_law_next := ok_law_next (P := l.prog) (w := w) (base := base) D_law_next.fn T 
  have cal_law_next := D_law_next.cal O_law_next
  have O_law_like := okn_law_like (P := l.prog) (w := w) (base := base) D_law_like T  40
  have cal_law_like : CalD l.prog w K mg base 40 "_law_like" (sp_law_like l.prog w _) [] := D_law_like.cal O_law_like
  have O_law_pick := ok_law_pick (P := l.prog) (w := w) (base := base) D_law_pick.fn T cal_law_next
  have cal_law_pick := D_law_pick.cal O_law_pick
  have O_law_keys := ok_law_keys (P := l.prog) (w := w) (base := base) D_law_keys.fn T cal_law_next cal_law_pick
  have cal_law_keys := D_law_keys.cal O_law_keys
  have O_law_map := ok_law_map (P := l.prog) (w := w) (base := base) D_law_map.fn T cal_law_keys cal_law_next cal_law_pick
  have cal_law_map := D_law_map.cal O_law_map
  have O_law_broken := ok_law_broken (P := l.prog) (w := w) (base := base) D_law_broken.fn T 
  have cal_law_broken := D_law_broken.cal O_law_broken
  have O_law_grown := ok_law_grown (P := l.prog) (w := w) (base := base) D_law_grown.fn T cal_law_broken
  have cal_law_grown := D_law_grown.cal O_law_grown
  have O_law_passed := ok_law_passed (P := l.prog) (w := w) (base := base) D_law_passed.fn T cal_law_broken cal_law_grown
  have cal_law_passed := D_law_passed.cal O_law_passed
  have O_law_events := ok_law_events (P := l.prog) (w := w) (base := base) D_law_events.fn T cal_law_grown cal_law_passed
  have cal_law_events := D_law_events.cal O_law_events
  have O_law_made := ok_law_made (P := l.prog) (w := w) (base := base) D_law_made.fn T mak_KeyMap_init__
  have cal_law_made := D_law_made.cal O_law_made
  have O_law := ok_law (P := l.prog) (w := w) (base := base) lkl F_law.c tb T tell_law_told cal_good_waits cal_law_dice cal_law_events cal_law_like cal_law_made cal_law_map cal_law_next cal_law_pick
  exact ok_endT (q := lamQ) O_law rfl (maths _ _ _)
theorem walk_law {l : PySem.W.OpenLaw} {q : Program} {loose : List Str} {XP : (Str → Option Value) → Heap → Prop} {YP : World → Heap → Prop} {d : DefRec} {K : Params → PySem.W.Frag} (hn : l.most = some 63) (hdf : d.params.defaults = [])
    (hY : ∀ (w : World) (h : Heap), YP w h → (K w.params).In h)
    (F : ∀ (w : World) (mg : Str → Option Value) (fa : Addr) (h : Heap), YP w h → (K w.params).In h → h.Ns mainGlobals mg → mg d.name = some (.ref fa) → LawAtS l w (K w.params) (L2.CX l.prog w) 41 63 "_law_script" mg fa h) :
    PySem.W.WalkO q loose XP YP l.row.toRowW d [] (fun f vs => PySem.call f vs) :=
  LamX.walk_ofTs (n := 63) (k := 41) (x := "_law_script") (CX := fun w => L2.CX l.prog w) hn (by decide) hdf ⟨rfl, by decide, by decide⟩ hY F fun w H s e s1 hc => by
    obtain ⟨a, B, H1, cls, d, z1, fl, z2, ub, z3, z4, z5, z6⟩ := hc
    first | exact z6.elim | exact z5.elim | exact z4.elim | exact z3.elim | exact z2.elim
end Lw
open PySem PySem.W PyProof.Rows
theorem Lw.fin : PySem.Challenge.rw_keywaits_k12_waits_that_suit.Holds := by
  w_on; o_law; k_head; (case hw => w_witness2)
  k_fill
  refine Lw.walk_law (l := PySem.Challenge.rw_keywaits_k12_waits_that_suit) rfl rfl (fun w h Y => PySem.W.km_in_of Y) ?F
  case F =>
    intro w mg fa h Y KX G hmg
    refine' Lw.all_mk KX G hmg ?z_all ?z_bool ?z_enumerate ?z_int ?z_isinstance ?z_len ?z_list ?z_range ?z_set ?z_str ?z_tuple ?k_GREATEST_GAP ?k_GREATEST_WAIT ?k_LETTERS ?k_LONGEST_NAME ?k_MOST_BINDINGS ?k_MOST_KEYS_OF_BINDING ?k_MOST_MODES ?C_KeyMap ?C_Player ?C_Rules ?na_KeyMap__bindings ?na_KeyMap__modes ?na_KeyMap__wait ?na_Player__pause ?na_Player__rules ?na_Player_fed_tick ?na_Player_happened ?na_Player_state ?na_Rules__begun ?na_Rules__bound ?H_MapError ?O_x_UnknownBinding ?E_UnknownBinding ?V_UnknownBinding ?m_UnknownBinding_MapError ?n_UnknownBinding_index ?n_UnknownBinding_part ?ia_UnknownBinding_Contradiction ?ia_UnknownBinding_InvalidGap ?ia_UnknownBinding_InvalidLength ?ia_UnknownBinding_InvalidMap ?ia_UnknownBinding_InvalidNumber ?ia_UnknownBinding_InvalidStrokes ?ia_UnknownBinding_InvalidTick ?ia_UnknownBinding_MapError ?ia_UnknownBinding_TooManyKeys ?ia_UnknownBinding_UnknownBinding ?ia_UnknownBinding_ValueError ?A_InvalidGap ?q_InvalidGap ?kp_InvalidGap ?be_InvalidGap ?ty_InvalidGap ?E_InvalidGap ?V_InvalidGap ?m_InvalidGap_MapError ?n_InvalidGap_index ?n_InvalidGap_part ?ne_InvalidGap_UnknownBinding ?ia_InvalidGap_Contradiction ?ia_InvalidGap_InvalidGap ?ia_InvalidGap_InvalidLength ?ia_InvalidGap_InvalidMap ?ia_InvalidGap_InvalidNumber ?ia_InvalidGap_InvalidStrokes ?ia_InvalidGap_InvalidTick ?ia_InvalidGap_MapError ?ia_InvalidGap_TooManyKeys ?ia_InvalidGap_UnknownBinding ?ia_InvalidGap_ValueError ?F_is_number ?F_is_word ?F_KeyMap_bindings ?F_Rules_init__ ?F_Rules_first_step ?F_Rules_feed ?F_Rules_break_up ?F_KeyMap_modes ?F_KeyMap_wait ?F_Player_init__ ?F_Player_note ?F_Player_pass_wait ?F_Player_let_pass ?F_Player_press ?F_Player_let_all_pass ?F_played ?F_play_all ?F_is_binding ?F_check_modes ?F_check_bindings ?F_KeyMap_init__ ?F_KeyMap_with_wait ?F_check_index ?F_check_wanted ?F_check_gap ?F_typed_strokes ?F_good_waits ?F_law_dice ?F_law_next ?F_law_like ?F_law_pick ?F_law_keys ?F_law_map ?F_law_broken ?F_law_grown ?F_law_passed ?F_law_events ?F_law_made ?F_law ?cdF ?tb0 ?F_law_told
    (case C_KeyMap => refine' ⟨?zza, ?zzb, ?zzc, ?zzd, ?zze, ?zzf, ?zzg⟩; (case zza => k_is); (case zzb => k_is); (case zzc => k_is); (case zzd => k_is); (case zze => k_is); (case zzf => k_is); (case zzg => k_is))
    (case C_Player => refine' ⟨?zza, ?zzb, ?zzc, ?zzd, ?zze, ?zzf, ?zzg⟩; (case zza => k_is); (case zzb => k_is); (case zzc => k_is); (case zzd => k_is); (case zze => k_is); (case zzf => k_is); (case zzg => k_is))
    (case C_Rules => refine' ⟨?zza, ?zzb, ?zzc, ?zzd, ?zze, ?zzf, ?zzg⟩; (case zza => k_is); (case zzb => k_is); (case zzc => k_is); (case zzd => k_is); (case zze => k_is); (case zzf => k_is); (case zzg => k_is))
    (case H_MapError => k_is)
    (case O_x_UnknownBinding => refine' Wl.OexK.of ?zza ?zzhin ?zzlk ?zzhcd ?zzhfi ?zzS ?zzT ?zzhcc ?zzhead ?zzsup ?zzopq ?zzsub ?zzmro ?zzkS ?zzkC ?zztop ?zzhsu ?zzhno ?zzhty ?zzhb ?zzhev ?zzhd ?zzhcd2; (case zza => k_is); (case zzhin => k_is); (case zzlk => k_is); (case zzhcd => k_is); (case zzhfi => kernel_rfl); (case zzS => exact ⟨rfl, rfl, rfl, by decide +kernel, rfl, by decide +kernel, by decide +kernel, by decide +kernel⟩); (case zzT => refine' Wl.OexC.of ?zzl2 ?zzb2 ?zzs2 ?zze2 ?zzt2 ?zzk2; (case zzl2 => k_is); (case zzb2 => first | rfl | kernel_rfl); (case zzs2 => k_is); (case zze2 => k_is); (case zzt2 => k_is); (case zzk2 => k_is)); (case zzhcc => k_is); (case zzhead => exact ⟨_, rfl, rfl⟩); (case zzsup => first | ks_is | kernel_rfl); (case zzopq => k_is); (case zzsub => k_is); (case zzmro => k_is); (case zzkS => rfl); (case zzkC => rfl); (case zztop => kernel_rfl); (case zzhsu => k_is); (case zzhno => k_is); (case zzhty => k_is); (case zzhb => exact fun us hl => match us, hl with | [_, _], _ => rfl); (case zzhev => exact fun _ => rfl); (case zzhd => decide); (case zzhcd2 => decide))
    (case A_InvalidGap => k_is)
    (case F_law => refine' Wl.TopC.of ?zza ?zzl ?zzc; (case zza => k_is); (case zzl => k_is); (case zzc => k_is))
    (case cdF => refine' Wl.CodF.of ?zzl ?zzh1 ?zzh3 ?zzh4 ?zzh5 ?zzh6 ?zzne ?zzn; (case zzl => k_is); (case zzh1 => rfl); (case zzh3 => rfl); (case zzh4 => rfl); (case zzh5 => rfl); (case zzh6 => rfl); (case zzne => decide); (case zzn => first | kernel_rfl | rfl))
    (case z_all => k_is)
    (case z_bool => k_is)
    (case z_enumerate => k_is)
    (case z_int => k_is)
    (case z_isinstance => k_is)
    (case z_len => k_is)
    (case z_list => k_is)
    (case z_range => k_is)
    (case z_set => k_is)
    (case z_str => k_is)
    (case z_tuple => k_is)
    (case k_GREATEST_GAP => refine' Wl.con_int ?zzq; (case zzq => k_is))
    (case k_GREATEST_WAIT => refine' Wl.con_int ?zzq; (case zzq => k_is))
    (case k_LETTERS => refine' Wl.con_str ?zzq; (case zzq => k_is))
    (case k_LONGEST_NAME => refine' Wl.con_int ?zzq; (case zzq => k_is))
    (case k_MOST_BINDINGS => refine' Wl.con_int ?zzq; (case zzq => k_is))
    (case k_MOST_KEYS_OF_BINDING => refine' Wl.con_int ?zzq; (case zzq => k_is))
    (case k_MOST_MODES => refine' Wl.con_int ?zzq; (case zzq => k_is))
    (case na_KeyMap__bindings => show PySem.W.findIn _ _ _ = _; k_is)
    (case na_KeyMap__modes => show PySem.W.findIn _ _ _ = _; k_is)
    (case na_KeyMap__wait => show PySem.W.findIn _ _ _ = _; k_is)
    (case na_Player__pause => show PySem.W.findIn _ _ _ = _; k_is)
    (case na_Player__rules => show PySem.W.findIn _ _ _ = _; k_is)
    (case na_Player_fed_tick => show PySem.W.findIn _ _ _ = _; k_is)
    (case na_Player_happened => show PySem.W.findIn _ _ _ = _; k_is)
    (case na_Player_state => show PySem.W.findIn _ _ _ = _; k_is)
    (case na_Rules__begun => show PySem.W.findIn _ _ _ = _; k_is)
    (case na_Rules__bound => show PySem.W.findIn _ _ _ = _; k_is)
    (case E_UnknownBinding => refine' ⟨?zz1, ?zz2, ?zz3, ?zz4, ?zz5, ?zz6, ?zz7, ?zz8⟩; (case zz1 => k_is); (case zz2 => k_is); (case zz3 => k_is); (case zz4 => k_is); (case zz5 => k_is); (case zz6 => k_is); (case zz7 => k_is); (case zz8 => k_is))
    (case V_UnknownBinding => refine' ⟨?zz1, ?zz2, ?zz3, ?zz4⟩; (case zz1 => k_is); (case zz2 => k_is); (case zz3 => k_is); (case zz4 => k_is))
    (case m_UnknownBinding_MapError => first | k_is | kit_is | kernel_rfl)
    (case n_UnknownBinding_index => k_is)
    (case n_UnknownBinding_part => k_is)
    (case ia_UnknownBinding_Contradiction => refine' Wl.IsaF.cls ?zza ?zzk; (case zza => k_is); (case zzk => first | k_is | kit_is | kernel_rfl))
    (case ia_UnknownBinding_InvalidGap => refine' Wl.IsaF.cls ?zza ?zzk; (case zza => k_is); (case zzk => first | k_is | kit_is | kernel_rfl))
    (case ia_UnknownBinding_InvalidLength => refine' Wl.IsaF.cls ?zza ?zzk; (case zza => k_is); (case zzk => first | k_is | kit_is | kernel_rfl))
    (case ia_UnknownBinding_InvalidMap => refine' Wl.IsaF.cls ?zza ?zzk; (case zza => k_is); (case zzk => first | k_is | kit_is | kernel_rfl))
    (case ia_UnknownBinding_InvalidNumber => refine' Wl.IsaF.cls ?zza ?zzk; (case zza => k_is); (case zzk => first | k_is | kit_is | kernel_rfl))
    (case ia_UnknownBinding_InvalidStrokes => refine' Wl.IsaF.cls ?zza ?zzk; (case zza => k_is); (case zzk => first | k_is | kit_is | kernel_rfl))
    (case ia_UnknownBinding_InvalidTick => refine' Wl.IsaF.cls ?zza ?zzk; (case zza => k_is); (case zzk => first | k_is | kit_is | kernel_rfl))
    (case ia_UnknownBinding_MapError => refine' Wl.IsaF.cls ?zza ?zzk; (case zza => k_is); (case zzk => first | k_is | kit_is | kernel_rfl))
    (case ia_UnknownBinding_TooManyKeys => refine' Wl.IsaF.cls ?zza ?zzk; (case zza => k_is); (case zzk => first | k_is | kit_is | kernel_rfl))
    (case ia_UnknownBinding_UnknownBinding => refine' Wl.IsaF.cls ?zza ?zzk; (case zza => k_is); (case zzk => first | k_is | kit_is | kernel_rfl))
    (case ia_UnknownBinding_ValueError => refine' Wl.IsaF.blt ?zza ?zzv ?zzne ?zzk; (case zza => k_is); (case zzv => first | rfl | kernel_rfl); (case zzne => decide); (case zzk => first | k_is | kit_is | kernel_rfl))
    (case q_InvalidGap => first | k_is | kernel_rfl)
    (case kp_InvalidGap => k_is)
    (case be_InvalidGap => k_is)
    (case ty_InvalidGap => k_is)
    (case E_InvalidGap => refine' ⟨?zz1, ?zz2, ?zz3, ?zz4, ?zz5, ?zz6, ?zz7, ?zz8⟩; (case zz1 => k_is); (case zz2 => k_is); (case zz3 => k_is); (case zz4 => k_is); (case zz5 => k_is); (case zz6 => k_is); (case zz7 => k_is); (case zz8 => k_is))
    (case V_InvalidGap => refine' ⟨?zz1, ?zz2, ?zz3, ?zz4⟩; (case zz1 => k_is); (case zz2 => k_is); (case zz3 => k_is); (case zz4 => k_is))
    (case m_InvalidGap_MapError => first | k_is | kit_is | kernel_rfl)
    (case n_InvalidGap_index => k_is)
    (case n_InvalidGap_part => k_is)
    (case ne_InvalidGap_UnknownBinding => decide)
    (case ia_InvalidGap_Contradiction => refine' Wl.IsaF.cls ?zza ?zzk; (case zza => k_is); (case zzk => first | k_is | kit_is | kernel_rfl))
    (case ia_InvalidGap_InvalidGap => refine' Wl.IsaF.cls ?zza ?zzk; (case zza => k_is); (case zzk => first | k_is | kit_is | kernel_rfl))
    (case ia_InvalidGap_InvalidLength => refine' Wl.IsaF.cls ?zza ?zzk; (case zza => k_is); (case zzk => first | k_is | kit_is | kernel_rfl))
    (case ia_InvalidGap_InvalidMap => refine' Wl.IsaF.cls ?zza ?zzk; (case zza => k_is); (case zzk => first | k_is | kit_is | kernel_rfl))
    (case ia_InvalidGap_InvalidNumber => refine' Wl.IsaF.cls ?zza ?zzk; (case zza => k_is); (case zzk => first | k_is | kit_is | kernel_rfl))
    (case ia_InvalidGap_InvalidStrokes => refine' Wl.IsaF.cls ?zza ?zzk; (case zza => k_is); (case zzk => first | k_is | kit_is | kernel_rfl))
    (case ia_InvalidGap_InvalidTick => refine' Wl.IsaF.cls ?zza ?zzk; (case zza => k_is); (case zzk => first | k_is | kit_is | kernel_rfl))
    (case ia_InvalidGap_MapError => refine' Wl.IsaF.cls ?zza ?zzk; (case zza => k_is); (case zzk => first | k_is | kit_is | kernel_rfl))
    (case ia_InvalidGap_TooManyKeys => refine' Wl.IsaF.cls ?zza ?zzk; (case zza => k_is); (case zzk => first | k_is | kit_is | kernel_rfl))
    (case ia_InvalidGap_UnknownBinding => refine' Wl.IsaF.cls ?zza ?zzk; (case zza => k_is); (case zzk => first | k_is | kit_is | kernel_rfl))
    (case ia_InvalidGap_ValueError => refine' Wl.IsaF.blt ?zza ?zzv ?zzne ?zzk; (case zza => k_is); (case zzv => first | rfl | kernel_rfl); (case zzne => decide); (case zzk => first | k_is | kit_is | kernel_rfl))
    (case F_is_number => refine' Wl.TopF.of ?zza ?zzl ?zzc ?zzk; (case zza => k_is); (case zzl => k_is); (case zzc => k_is); (case zzk => k_is))
    (case F_is_word => refine' Wl.TopF.of ?zza ?zzl ?zzc ?zzk; (case zza => k_is); (case zzl => k_is); (case zzc => k_is); (case zzk => k_is))
    (case F_KeyMap_bindings => refine' Wl.PrpF.of ?zza ?zzg ?zzt ?zzr ?zzl ?zzc ?zzk; (case zza => k_is); (case zzg => k_is); (case zzt => k_is); (case zzr => k_is); (case zzl => k_is); (case zzc => k_is); (case zzk => k_is))
    (case F_Rules_init__ => refine' Wl.MetF.of ?zza ?zzi ?zzl ?zzc ?zzk; (case zza => k_is); (case zzi => k_is); (case zzl => k_is); (case zzc => k_is); (case zzk => k_is))
    (case F_Rules_first_step => refine' Wl.MetF.of ?zza ?zzi ?zzl ?zzc ?zzk; (case zza => k_is); (case zzi => k_is); (case zzl => k_is); (case zzc => k_is); (case zzk => k_is))
    (case F_Rules_feed => refine' Wl.MetF.of ?zza ?zzi ?zzl ?zzc ?zzk; (case zza => k_is); (case zzi => k_is); (case zzl => k_is); (case zzc => k_is); (case zzk => k_is))
    (case F_Rules_break_up => refine' Wl.MetF.of ?zza ?zzi ?zzl ?zzc ?zzk; (case zza => k_is); (case zzi => k_is); (case zzl => k_is); (case zzc => k_is); (case zzk => k_is))
    (case F_KeyMap_modes => refine' Wl.PrpF.of ?zza ?zzg ?zzt ?zzr ?zzl ?zzc ?zzk; (case zza => k_is); (case zzg => k_is); (case zzt => k_is); (case zzr => k_is); (case zzl => k_is); (case zzc => k_is); (case zzk => k_is))
    (case F_KeyMap_wait => refine' Wl.PrpF.of ?zza ?zzg ?zzt ?zzr ?zzl ?zzc ?zzk; (case zza => k_is); (case zzg => k_is); (case zzt => k_is); (case zzr => k_is); (case zzl => k_is); (case zzc => k_is); (case zzk => k_is))
    (case F_Player_init__ => refine' Wl.MetF.of ?zza ?zzi ?zzl ?zzc ?zzk; (case zza => k_is); (case zzi => k_is); (case zzl => k_is); (case zzc => k_is); (case zzk => k_is))
    (case F_Player_note => refine' Wl.MetF.of ?zza ?zzi ?zzl ?zzc ?zzk; (case zza => k_is); (case zzi => k_is); (case zzl => k_is); (case zzc => k_is); (case zzk => k_is))
    (case F_Player_pass_wait => refine' Wl.MetF.of ?zza ?zzi ?zzl ?zzc ?zzk; (case zza => k_is); (case zzi => k_is); (case zzl => k_is); (case zzc => k_is); (case zzk => k_is))
    (case F_Player_let_pass => refine' Wl.MetF.of ?zza ?zzi ?zzl ?zzc ?zzk; (case zza => k_is); (case zzi => k_is); (case zzl => k_is); (case zzc => k_is); (case zzk => k_is))
    (case F_Player_press => refine' Wl.MetF.of ?zza ?zzi ?zzl ?zzc ?zzk; (case zza => k_is); (case zzi => k_is); (case zzl => k_is); (case zzc => k_is); (case zzk => k_is))
    (case F_Player_let_all_pass => refine' Wl.MetF.of ?zza ?zzi ?zzl ?zzc ?zzk; (case zza => k_is); (case zzi => k_is); (case zzl => k_is); (case zzc => k_is); (case zzk => k_is))
    (case F_played => refine' Wl.TopF.of ?zza ?zzl ?zzc ?zzk; (case zza => k_is); (case zzl => k_is); (case zzc => k_is); (case zzk => k_is))
    (case F_play_all => refine' Wl.TopF.of ?zza ?zzl ?zzc ?zzk; (case zza => k_is); (case zzl => k_is); (case zzc => k_is); (case zzk => k_is))
    (case F_is_binding => refine' Wl.TopF.of ?zza ?zzl ?zzc ?zzk; (case zza => k_is); (case zzl => k_is); (case zzc => k_is); (case zzk => k_is))
    (case F_check_modes => refine' Wl.TopF.of ?zza ?zzl ?zzc ?zzk; (case zza => k_is); (case zzl => k_is); (case zzc => k_is); (case zzk => k_is))
    (case F_check_bindings => refine' Wl.TopF.of ?zza ?zzl ?zzc ?zzk; (case zza => k_is); (case zzl => k_is); (case zzc => k_is); (case zzk => k_is))
    (case F_KeyMap_init__ => refine' Wl.MetF.of ?zza ?zzi ?zzl ?zzc ?zzk; (case zza => k_is); (case zzi => k_is); (case zzl => k_is); (case zzc => k_is); (case zzk => k_is))
    (case F_KeyMap_with_wait => refine' Wl.MetF.of ?zza ?zzi ?zzl ?zzc ?zzk; (case zza => k_is); (case zzi => k_is); (case zzl => k_is); (case zzc => k_is); (case zzk => k_is))
    (case F_check_index => refine' Wl.TopF.of ?zza ?zzl ?zzc ?zzk; (case zza => k_is); (case zzl => k_is); (case zzc => k_is); (case zzk => k_is))
    (case F_check_wanted => refine' Wl.TopF.of ?zza ?zzl ?zzc ?zzk; (case zza => k_is); (case zzl => k_is); (case zzc => k_is); (case zzk => k_is))
    (case F_check_gap => refine' Wl.TopF.of ?zza ?zzl ?zzc ?zzk; (case zza => k_is); (case zzl => k_is); (case zzc => k_is); (case zzk => k_is))
    (case F_typed_strokes => refine' Wl.TopF.of ?zza ?zzl ?zzc ?zzk; (case zza => k_is); (case zzl => k_is); (case zzc => k_is); (case zzk => k_is))
    (case F_good_waits => refine' Wl.TopF.of ?zza ?zzl ?zzc ?zzk; (case zza => k_is); (case zzl => k_is); (case zzc => k_is); (case zzk => k_is))
    (case F_law_dice => refine' Wl.TopF.of ?zza ?zzl ?zzc ?zzk; (case zza => k_is); (case zzl => k_is); (case zzc => k_is); (case zzk => k_is))
    (case F_law_next => refine' Wl.TopF.of ?zza ?zzl ?zzc ?zzk; (case zza => k_is); (case zzl => k_is); (case zzc => k_is); (case zzk => k_is))
    (case F_law_like => refine' Wl.TopF.of ?zza ?zzl ?zzc ?zzk; (case zza => k_is); (case zzl => k_is); (case zzc => k_is); (case zzk => k_is))
    (case F_law_pick => refine' Wl.TopF.of ?zza ?zzl ?zzc ?zzk; (case zza => k_is); (case zzl => k_is); (case zzc => k_is); (case zzk => k_is))
    (case F_law_keys => refine' Wl.TopF.of ?zza ?zzl ?zzc ?zzk; (case zza => k_is); (case zzl => k_is); (case zzc => k_is); (case zzk => k_is))
    (case F_law_map => refine' Wl.TopF.of ?zza ?zzl ?zzc ?zzk; (case zza => k_is); (case zzl => k_is); (case zzc => k_is); (case zzk => k_is))
    (case F_law_broken => refine' Wl.TopF.of ?zza ?zzl ?zzc ?zzk; (case zza => k_is); (case zzl => k_is); (case zzc => k_is); (case zzk => k_is))
    (case F_law_grown => refine' Wl.TopF.of ?zza ?zzl ?zzc ?zzk; (case zza => k_is); (case zzl => k_is); (case zzc => k_is); (case zzk => k_is))
    (case F_law_passed => refine' Wl.TopF.of ?zza ?zzl ?zzc ?zzk; (case zza => k_is); (case zzl => k_is); (case zzc => k_is); (case zzk => k_is))
    (case F_law_events => refine' Wl.TopF.of ?zza ?zzl ?zzc ?zzk; (case zza => k_is); (case zzl => k_is); (case zzc => k_is); (case zzk => k_is))
    (case F_law_made => refine' Wl.TopF.of ?zza ?zzl ?zzc ?zzk; (case zza => k_is); (case zzl => k_is); (case zzc => k_is); (case zzk => k_is))
    (case tb0 => exact PySem.W.km_tabs_of Y _ (by simp))
    (case F_law_told => refine' Wl.TopF.of ?zza ?zzl ?zzc ?zzk; (case zza => k_is); (case zzl => k_is); (case zzc => k_is); (case zzk => k_is))

theorem PySem.Challenge.cw_keywaits_k12_waits_that_suit_holds : PySem.Challenge.rw_keywaits_k12_waits_that_suit.Holds :=
  Lw.fin
