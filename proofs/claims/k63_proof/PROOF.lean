import PyProof.Rows.All
import Wide.All
import OpenK.AllK
import Wide.FinOn
import HandS.TupSets
import HandS.ForMost
import HandS.SetKeys
import HandS.ForExc
import HandS.Flow
import HandS.Walk
import HandS.CallSlots
import HandS.Lambda
import KE.KDictKeyed
import KE.KDictDisplayH
import KE.DataEq
import HandS.TupAny
import HandS.Codes
import HandS.IsInst
import HandS.Style
import HandS.Property
import KE.GoesEnum
import HandS.Steps
import HandS.GenCall
import HandS.GenList
import HandS.Text
import HandS.SortInts
import HandS.More
import HandS.DictComp
import HandS.Iter
import HandS.Deep
import KE.DataFind
import HandS.Wide
import KE.KDictZip
import HandS.Zip
import HandS.Conv
import HandS.ExcInit
import HandS.EndTab
import KE.KExcSuper
import KE.KExcIs
import HandS.ExcIs
import HandS.ExcField
import HandS.EndOwn
import HandS.FStr
import HandS.Defaults
import HandS.MakeKwOnly
import HandS.SetFor
import HandS.Strs
import KE.DataMinMax
import HandS.Star
import HandS.WordsDict
import PySem.Challenge.RW_keywaits_k63_whole_bindings_to_give_up_b
set_option Elab.async false
set_option linter.all false
set_option maxRecDepth 100000
set_option maxHeartbeats 4000000
/-! sets of flat tuples of texts and ints, at the library's level: what lies in one, the search, add, in -/
namespace Ws
open PySem L2
open PySem.Spec PyProof.Rows
section
variable {P : Program} {w : World} {A : Around} {E : Value → Shared → Prop} {s : Shared}
abbrev KT (P : Program) (w : World) (h : Heap) (k : List Key) (a : Addr) : Prop := IsTupleKey (mixKind P w) h k a
abbrev kh (P : Program) (w : World) (k : List Key) : Int := tupleKeyHash (mixKind P w) k
def Plain1 (v : Value) : Prop := (∃ i t, v = Value.int i t) ∨ ∃ x t, v = Value.str x t
theorem plain_items {k : List Key} {vs : List Value} (hi : ItemsAre (mixKind P w) k vs) : ∀ v ∈ vs, Plain1 v := by
  induction hi with
  | nil => intro v hv; cases hv
  | cons h1 h2 ih =>
    intro v hv
    rcases List.mem_cons.mp hv with rfl | hv
    · rcases keyIs_shape h1 with ⟨i, t, _, e⟩ | ⟨x, t, _, e⟩
      · exact .inl ⟨i, t, e⟩
      · exact .inr ⟨x, t, e⟩
    · exact ih v hv
theorem ofA_plain {v : Value} (hv : Plain1 v) (n : Nat) : ofAClassStatement n v = pure false := by
  rcases hv with ⟨i, t, rfl⟩ | ⟨x, t, rfl⟩ <;> cases n <;> rfl
theorem hashBy_plain {v : Value} (hv : Plain1 v) (n : Nat) : ∃ b, hashByValue n v = pure b := by
  rcases hv with ⟨i, t, rfl⟩ | ⟨x, t, rfl⟩
  · exact ⟨true, by cases n <;> rfl⟩
  · exact ⟨false, by cases n <;> rfl⟩
theorem ofA_key {k : List Key} {b : Addr} {Q : Bool → Shared → Prop} (hk : KT P w s.heap k b) (hQ : Q false s) : wpAny (model P w) A (ofAClassStatement 8 (.ref b)) Q E s := by
  have tyT := hk.typeIs
  obtain ⟨ob, its, sz, hob, _, hda, hit⟩ := hk
  unfold ofAClassStatement
  refine wpAny_bind (wpAny_typeOf tyT ?_)
  dsimp only
  simp only [show (("tuple" : String) == "tuple") = true by decide, if_true, Bool.not_true, Bool.false_eq_true, if_false]
  try refine wpAny_bind (wpAny_pure ?_)
  try simp only [Bool.not_true, Bool.false_eq_true, if_false]
  show wpAny _ _ (seqItems? (.ref b) >>= _) _ _ s
  refine wpAny_bind (wpAny_seqItems hob hda ?_)
  dsimp only
  refine wpAny_bind ?_
  show wpAny _ _ (forIn its _ _) _ _ s
  rw [← Array.forIn_toList]
  refine wpAny_forIn_list _ (fun todo acc s2 => acc.1 = none ∧ s2 = s ∧ ∀ v ∈ todo, Plain1 v) _ ?_ ?_ _ _ ⟨rfl, rfl, plain_items hit⟩
  · rintro v todo acc s2 ⟨hacc, rfl, hpl⟩
    rw [ofA_plain (hpl v List.mem_cons_self)]
    refine wpAny_bind (wpAny_pure ?_)
    simp only [Bool.false_eq_true, if_false]
    exact wpAny_pure ⟨rfl, rfl, fun y hy => hpl y (List.mem_cons_of_mem _ hy)⟩
  · rintro ⟨c1, c2⟩ s2 ⟨hacc, rfl, _⟩
    simp only at hacc
    subst hacc
    exact wpAny_pure hQ
theorem hashBy_key {k : List Key} {b : Addr} {Q : Bool → Shared → Prop} (hk : KT P w s.heap k b) (hQ : ∀ z, Q z s) : wpAny (model P w) A (hashByValue 8 (.ref b)) Q E s := by
  have tyT := hk.typeIs
  obtain ⟨ob, its, sz, hob, _, hda, hit⟩ := hk
  unfold hashByValue
  refine wpAny_bind (wpAny_specialOf tyT F.slot_tuple_hash.lookup ?_)
  show wpAny _ _ (seqItems? (.ref b) >>= _) _ _ s
  refine wpAny_bind (wpAny_seqItems hob hda ?_)
  refine wpAny_bind ?_
  show wpAny _ _ (forIn its _ _) _ _ s
  rw [← Array.forIn_toList]
  refine wpAny_forIn_list _ (fun todo acc s2 => acc.1 = none ∧ s2 = s ∧ ∀ v ∈ todo, Plain1 v) _ ?_ ?_ _ _ ⟨rfl, rfl, plain_items hit⟩
  · rintro v todo acc s2 ⟨hacc, rfl, hpl⟩
    obtain ⟨z, hz⟩ := hashBy_plain (hpl v List.mem_cons_self) 7
    have more : ∀ y ∈ todo, Plain1 y := fun y hy => hpl y (List.mem_cons_of_mem _ hy)
    rw [hz]
    refine wpAny_bind (wpAny_pure ?_)
    cases z
    · simp only [Bool.not_false, if_true]
      exact wpAny_pure (wpAny_pure (hQ false))
    · simp only [Bool.not_true, Bool.false_eq_true, if_false]
      exact wpAny_pure ⟨rfl, rfl, more⟩
  · rintro ⟨c1, c2⟩ s2 ⟨hacc, rfl, _⟩
    simp only at hacc
    subst hacc
    exact wpAny_pure (hQ true)
theorem seen_key {k : List Key} {b : Addr} {Q : Bool → Shared → Prop} (hk : KT P w s.heap k b) {ys : List Value} (hys : ∀ y ∈ ys, ∃ k2 c, y = Value.ref c ∧ KT P w s.heap k2 c) (hQ : Q false s) :
    wpAny (model P w) A (searchCouldBeSeen (.ref b) ys) Q E s := by
  unfold searchCouldBeSeen
  refine wpAny_bind ?_
  refine wpAny_forIn_list _ (fun todo acc s2 => acc.1 = none ∧ s2 = s ∧ ∀ y ∈ todo, ∃ k2 c, y = Value.ref c ∧ KT P w s.heap k2 c) _ ?_ ?_ _ _ ⟨rfl, rfl, hys⟩
  · rintro v todo acc s2 ⟨hacc, rfl, hpl⟩
    obtain ⟨k2, c, rfl, hc⟩ := hpl v List.mem_cons_self
    have more : ∀ y ∈ todo, ∃ k2 c, y = Value.ref c ∧ KT P w s2.heap k2 c := fun y hy => hpl y (List.mem_cons_of_mem _ hy)
    dsimp only
    by_cases same : (b == c || (carriedByValue (.ref b) && carriedByValue (.ref c))) = true
    · exact wp_if_pos same (wpAny_pure ⟨rfl, rfl, more⟩)
    · refine wp_if_neg same (wpAny_bind (wpAny_eqIsQuiet_tuple hk ?_))
      simp only [Bool.not_true, Bool.false_eq_true, if_false]
      refine wpAny_bind (wpAny_eqIsQuiet_tuple hc ?_)
      simp only [Bool.not_true, Bool.false_eq_true, if_false]
      refine wpAny_bind (ofA_key hk ?_)
      simp only [Bool.false_eq_true, if_false]
      refine wpAny_bind (ofA_key hc ?_)
      simp only [Bool.false_eq_true, if_false]
      exact wpAny_pure ⟨rfl, rfl, more⟩
  · rintro ⟨c1, c2⟩ s2 ⟨hacc, rfl, _⟩
    simp only at hacc
    subst hacc
    exact wpAny_pure hQ

/-! ### what lies in the set -/
abbrev El := Addr × List Key
def hs (P : Program) (w : World) (L : List El) : List Int := L.map fun p => kh P w p.2
def ents (P : Program) (w : World) (L : List El) : List (Int × Value) := L.map fun p => (kh P w p.2, Value.ref p.1)
/-- the object's own part (no tuple is asked for) -/
structure Tab (P : Program) (w : World) (h : Heap) (a : Addr) (L : List El) (es : Array (Int × Value)) (ep : Nat) (t : SetTable) : Prop where
  obj : ∃ o, h.get? a = some o ∧ o.ExactSet ∧ o.data = .set es ep t
  ent : es.toList = ents P w L
  tab : TabOk t (hs P w L)
  nd : (L.map (·.2)).Nodup
  led : w.params.followText "set-order" = true ∨ t.led = true
  roomy : L.length * 5 < t.mask * 3
  few : L.length < 64
def Els (P : Program) (w : World) (h : Heap) (L : List El) : Prop := ∀ p ∈ L, KT P w h p.2 p.1
variable {a : Addr} {L : List El} {es : Array (Int × Value)} {ep : Nat} {t : SetTable}
theorem size_ents {l : List El} {es : Array (Int × Value)} (e : es.toList = ents P w l) : es.size = l.length := by
  have q := congrArg List.length e
  rw [Array.length_toList] at q
  rw [q]
  exact List.length_map ..
theorem Tab.sz (T : Tab P w s.heap a L es ep t) : es.size = L.length := size_ents T.ent
theorem Tab.plc (T : Tab P w s.heap a L es ep t) : t.place.size = L.length := by
  have q := T.tab.sz
  unfold hs at q
  rw [List.length_map] at q
  exact q
theorem Tab.fits (T : Tab P w s.heap a L es ep t) : t.fits es.size = true := by
  have q1 := T.plc
  have q2 := T.sz
  have q3 := T.roomy
  unfold SetTable.fits SetTable.fill
  rw [T.tab.dm, Bool.and_eq_true, beq_iff_eq, decide_eq_true_eq]
  show t.place.size = es.size ∧ t.place.size + 0 ≤ t.mask
  omega
theorem Tab.at_ (T : Tab P w s.heap a L es ep t) {i : Nat} {p : El} (e : L[i]? = some p) : es[i]? = some (kh P w p.2, Value.ref p.1) := by
  rw [← Array.getElem?_toList, T.ent]
  unfold ents
  rw [List.getElem?_map, e]
  rfl
theorem Tab.stays (T : Tab P w s.heap a L es ep t) : ¬ t.gaveWay = true := by
  unfold SetTable.gaveWay
  rw [mask_odd T.tab.mok]
  decide
/-- the c-th step of the way of a hash -/
abbrev stepN (t : SetTable) (z : Int) (c : Nat) : SetTable.Probe := nth t.mask (runAt t.mask (SetTable.bits z % (t.mask + 1)) (SetTable.bits z)) c
theorem step_dummy (t : SetTable) (z : Int) (c : Nat) : (stepN t z c).dummy = none := by
  have gen : ∀ (n : Nat) (p : SetTable.Probe), p.dummy = none → (nth t.mask p n).dummy = none := by
    intro n
    induction n with
    | zero => exact fun _ q => q
    | succ n ih =>
      intro p q
      refine ih (adv t.mask p) ?_
      unfold adv
      split <;> exact q
  exact gen c _ rfl
theorem step_add (t : SetTable) (z : Int) (c q : Nat) : nth t.mask (stepN t z c) q = stepN t z (c + q) := (nth_add t.mask c _ q).symm
theorem step_j (t : SetTable) (z : Int) (c : Nat) : (stepN t z c).j = way t.mask z c := rfl
end
end Ws

set_option Elab.async false
set_option linter.all false
set_option maxRecDepth 100000
set_option maxHeartbeats 4000000
namespace Ws
open PySem L2
open PySem.Spec PyProof.Rows
section
variable {P : Program} {w : World} {A : Around} {E : Value → Shared → Prop} {s : Shared}
variable {a : Addr} {L : List El} {es : Array (Int × Value)} {ep : Nat} {t : SetTable}
theorem mem_same (t : SetTable) : t.sameMemory t.moves t.mask = some true := by
  unfold SetTable.sameMemory
  exact if_pos (beq_self_eq_true _)
/-- the search, from the c-th step of the way on; adding or only asking -/
theorem look_from (T : Tab P w s.heap a L es ep t) (G : Els P w s.heap L) {x : Addr} {k : List Key} {add : Bool} (hx : KT P w s.heap k x) (hu : A.units < cLine) {N : Nat} (hN : N < 10 * SetTable.turns t.mask)
    (hfree : way t.mask (kh P w k) N ∉ t.place.toList) (htaken : ∀ c, c < N → way t.mask (kh P w k) c ∈ t.place.toList) {Q : SetFound → Shared → Prop}
    (yes : k ∈ L.map (·.2) → ∀ r, (add = false → r.isSome = true) → Q (.there r) s) (no : k ∉ L.map (·.2) → Q (.free (way t.mask (kh P w k) N) false) s) :
    ∀ (fuel c : Nat) (from_ : Option SetTable.Probe), from_.getD (t.probeStart (kh P w k)) = stepN t (kh P w k) c → c ≤ N → N - c < fuel →
      (∀ (i : Nat) (p : El), L[i]? = some p → p.2 = k → ∃ d, c ≤ d ∧ d < N ∧ t.place.toList[i]? = some (way t.mask (kh P w k) d)) →
      wpAny (model P w) A (setSearchFrom a (.ref x) (kh P w k) add fuel from_) Q E s
  | 0, _, _, _, _, z, _ => absurd z (Nat.not_lt_zero _)
  | fuel + 1, c, from_, hfrom, hcN, hfu, ahead => by
    obtain ⟨ob, hob, hexs, hdat⟩ := T.obj
    rw [setSearchFrom_succ]
    refine wpAny_bind (wpAny_setState_of hob hdat T.fits ?_)
    dsimp only
    refine wp_if_neg T.stays ?_
    try refine wpAny_bind (wpAny_pure ?_)
    have jj : ∀ q, (nth t.mask (stepN t (kh P w k) c) q).j = way t.mask (kh P w k) (c + q) := fun q => by rw [step_add]
    have jN : (nth t.mask (stepN t (kh P w k) c) (N - c)).j = way t.mask (kh P w k) N := by
      rw [jj]
      congr 1
      omega
    have atH : ∀ (i : Nat) (p : El), L[i]? = some p → (fun i => (es[i]?.map (·.1)).getD 0) i = kh P w p.2 := fun i p hp => by
      show (es[i]?.map (·.1)).getD 0 = _
      rw [T.at_ hp]
      rfl
    have way1 := go_spec t T.tab.ris T.tab.dm (fun i => (es[i]?.map (·.1)).getD 0) (kh P w k) (10 * SetTable.turns t.mask) (N - c) (stepN t (kh P w k) c) (step_dummy t _ c) (by omega)
      (fun q hq => by rw [jj]; exact htaken _ (by omega)) (by rw [jN]; exact hfree)
    rcases way1 with ⟨q, i, hqN, hat, hhash, before, hprobe⟩ | ⟨before, hprobe⟩
    · rw [hfrom]
      have hprobe' : t.probe (fun i => (es[i]?.map (·.1)).getD 0) (kh P w k) (stepN t (kh P w k) c) = some (.candidate (way t.mask (kh P w k) (c + q)) i (stepN t (kh P w k) (c + (q + 1)))) := by
        rw [← jj, ← step_add]
        exact hprobe
      rw [hprobe']
      dsimp only
      rw [jj] at hat
      have hiL : i < L.length := by
        have z1 : i < t.place.toList.length := (List.getElem?_eq_some_iff.mp hat).1
        rw [Array.length_toList, T.plc] at z1
        exact z1
      obtain ⟨p, hp⟩ : ∃ p, L[i]? = some p := ⟨L[i], List.getElem?_eq_getElem hiL⟩
      have pIn : p ∈ L := List.mem_of_getElem? hp
      have hslot : t.slot (way t.mask (kh P w k) (c + q)) = .live i := slot_live T.tab.ris hat
      have tail : wpAny (model P w) A (searchRest a (.ref x) (kh P w k) add fuel es t (way t.mask (kh P w k) (c + q)) i (stepN t (kh P w k) (c + (q + 1)))) Q E s := by
        unfold searchRest
        rw [T.at_ hp]
        dsimp only
        refine wpAny_bind (wpAny_holding (wpAny_eqBool_tuple hu (G p pIn) hx ?_))
        refine wpAny_bind (wpAny_setState_of hob hdat T.fits ?_)
        dsimp only
        by_cases hpk : p.2 = k
        · have inL : k ∈ L.map (·.2) := List.mem_map.mpr ⟨p, pIn, hpk⟩
          cases add with
          | true =>
            refine wp_if_pos (by simp [hpk]) ?_
            exact wpAny_pure (yes inL none (fun z => nomatch z))
          | false =>
            refine wp_if_neg (by simp) ?_
            try refine wpAny_bind (wpAny_pure ?_)
            rw [mem_same]
            dsimp only
            simp only [if_true, hslot, T.at_ hp]
            refine wpAny_bind (wpAny_isSame_ref_self (wpAny_bind (wpAny_pure ?_)))
            simp only [if_true]
            refine wp_if_pos (by simp [hpk]) ?_
            exact wpAny_pure (yes inL (some i) fun _ => rfl)
        · refine wp_if_neg (by simp [hpk]) ?_
          try refine wpAny_bind (wpAny_pure ?_)
          rw [mem_same]
          dsimp only
          simp only [if_true, hslot, T.at_ hp]
          refine wpAny_bind (wpAny_isSame_ref_self (wpAny_bind (wpAny_pure ?_)))
          simp only [if_true]
          refine wp_if_neg (by simp [hpk]) ?_
          refine look_from T G hx hu hN hfree htaken yes no fuel (c + (q + 1)) _ rfl (by omega) (by omega) fun i2 p2 hp2 hk2 => ?_
          obtain ⟨d, d1, d2, d3⟩ := ahead i2 p2 hp2 hk2
          refine ⟨d, ?_, d2, d3⟩
          rcases Nat.lt_trichotomy d (c + q) with z | z | z
          · exact absurd ((atH i2 p2 hp2).trans (congrArg (kh P w) hk2)) (before (d - c) i2 (by omega) (by rw [jj, d3]; congr 2; omega))
          · subst z
            have s2 := slot_live T.tab.ris d3
            rw [hslot] at s2
            injection s2 with s2
            rw [← s2, hp] at hp2
            exact absurd ((congrArg Prod.snd (Option.some.inj hp2)).trans hk2) hpk
          · omega
      by_cases hled : t.led = true
      · refine wp_if_neg (by simp [hled]) ?_
        try refine wpAny_bind (wpAny_pure ?_)
        exact tail
      · refine wp_if_pos (by simp [hled]) ?_
        refine wpAny_bind (seen_key hx (fun y hy => ?_) ?_)
        · obtain ⟨e, he, rfl⟩ := List.mem_map.mp hy
          have he' : e ∈ es.toList := by
            have z : e ∈ es ∧ e.1 = kh P w k := by simpa using he
            simpa using z.1
          rw [T.ent] at he'
          obtain ⟨p2, hp2, rfl⟩ := List.mem_map.mp he'
          exact ⟨p2.2, p2.1, rfl, G p2 hp2⟩
        · refine wp_if_neg (by decide) ?_
          try refine wpAny_bind (wpAny_pure ?_)
          exact tail
    · rw [hfrom]
      have hprobe' : t.probe (fun i => (es[i]?.map (·.1)).getD 0) (kh P w k) (stepN t (kh P w k) c) = some (.empty (way t.mask (kh P w k) N) none) := by
        rw [← jN]
        exact hprobe
      rw [hprobe']
      dsimp only
      refine wpAny_pure (no fun hm => ?_)
      obtain ⟨p2, hp2, hk2⟩ := List.mem_map.mp hm
      obtain ⟨i2, hi2⟩ := List.getElem?_of_mem hp2
      obtain ⟨d, d1, d2, d3⟩ := ahead i2 p2 hi2 hk2
      exact before (d - c) i2 (by omega) (by rw [jj, d3]; congr 2; omega) ((atH i2 p2 hi2).trans (congrArg (kh P w) hk2))
theorem look_at (T : Tab P w s.heap a L es ep t) (G : Els P w s.heap L) {x : Addr} {k : List Key} {add : Bool} (hx : KT P w s.heap k x) (hu : A.units < cLine) {Q : SetFound → Shared → Prop}
    (yes : k ∈ L.map (·.2) → ∀ r, (add = false → r.isSome = true) → Q (.there r) s)
    (no : ∀ N, k ∉ L.map (·.2) → way t.mask (kh P w k) N ∉ t.place.toList → (∀ c, c < N → way t.mask (kh P w k) c ∈ t.place.toList) → Q (.free (way t.mask (kh P w k) N) false) s) :
    wpAny (model P w) A (setSearch a (.ref x) (kh P w k) add) Q E s := by
  have room := T.roomy
  obtain ⟨N, n1, n2, n3⟩ := T.tab.first (by unfold hs; rw [List.length_map]; omega) (kh P w k)
  have small : N < 100000 := by
    have z : 10 * SetTable.turns t.mask ≤ 1420 := by
      unfold SetTable.turns
      rcases T.tab.mok with q | q | q <;> omega
    omega
  unfold setSearch
  refine look_from T G hx hu n1 n2 n3 yes (fun q => no N q n2 n3) 100000 0 none rfl (Nat.zero_le _) (by omega) fun i p hp hpk => ?_
  have hi : (hs P w L)[i]? = some (kh P w k) := by
    unfold hs
    rw [List.getElem?_map, hp, ← hpk]
    rfl
  have hlt : i < t.place.toList.length := by
    rw [Array.length_toList, T.plc]
    exact (List.getElem?_eq_some_iff.mp hp).1
  have hj := List.getElem?_eq_getElem hlt
  obtain ⟨c, c1, c2⟩ := T.tab.before n2 hi hj
  exact ⟨c, Nat.zero_le _, c1, by rw [hj, c2]⟩
/-- x in the set -/
theorem has_at (T : Tab P w s.heap a L es ep t) (G : Els P w s.heap L) {x : Addr} {k : List Key} (hx : KT P w s.heap k x) (hu : A.units < cLine) {Q : Option Nat → Shared → Prop}
    (hQ : ∀ r : Option Nat, (r.isSome = true ↔ k ∈ L.map (·.2)) → Q r s) : wpAny (model P w) A (setFind a (.ref x) (kh P w k)) Q E s := by
  obtain ⟨ob, hob, hexs, hdat⟩ := T.obj
  unfold setFind
  rw [show (100000 : Nat) = 99999 + 1 from rfl]
  unfold setFindIn
  refine wpAny_bind (wpAny_setState_of hob hdat T.fits ?_)
  dsimp only
  refine wp_if_neg (by simp [byScan, Value.scannable]) ?_
  try refine wpAny_bind (wpAny_pure ?_)
  refine wpAny_bind (look_at T G hx hu (fun hm r hr => ?_) fun N hm _ _ => ?_)
  · exact wpAny_pure (hQ r ⟨fun _ => hm, fun _ => hr rfl⟩)
  · exact wpAny_pure (hQ none ⟨fun z => absurd z (by simp), fun z => absurd z hm⟩)
end
end Ws

set_option Elab.async false
set_option linter.all false
set_option maxRecDepth 100000
set_option maxHeartbeats 4000000
namespace Ws
open PySem L2
open PySem.Spec PyProof.Rows
section
variable {P : Program} {w : World} {A : Around} {E : Value → Shared → Prop} {s : Shared}
variable {a : Addr} {L : List El} {es : Array (Int × Value)} {ep : Nat} {t : SetTable}
theorem kt_kept {h h' : Heap} {k : List Key} {b : Addr} {o : Obj} (z : KT P w h k b) (ho : h.get? a = some o) (hd : o.data = .set es ep t) (sb : Heap.SameBut a h h') : KT P w h' k b := by
  obtain ⟨ob, its, n, g1, g2, g3, g4⟩ := z
  refine ⟨ob, its, n, (sb.2 b ?_).trans g1, g2, g3, g4⟩
  intro e
  rw [e, ho] at g1
  cases g1
  rw [hd] at g3
  cases g3
theorem els_kept {h h' : Heap} {o : Obj} (z : Els P w h L) (ho : h.get? a = some o) (hd : o.data = .set es ep t) (sb : Heap.SameBut a h h') : Els P w h' L := fun p hp => kt_kept (z p hp) ho hd sb
/-- the elements in another order -/
theorem turned {order : List Nat} (he : es.toList = ents P w L) (hp : order.Perm (List.range L.length)) :
    ∃ M, order.filterMap (fun i => es[i]?) = ents P w M ∧ M.Perm L ∧ hs P w M = order.map fun i => (es.map (·.1)).getD i 0 := by
  have hsz := size_ents he
  have get : ∀ i, i < L.length → ∃ p, L[i]? = some p ∧ es[i]? = some (kh P w p.2, Value.ref p.1) := fun i hi => by
    refine ⟨L[i], List.getElem?_eq_getElem hi, ?_⟩
    rw [← Array.getElem?_toList, he]
    unfold ents
    rw [List.getElem?_map, List.getElem?_eq_getElem hi]
    rfl
  have gen : ∀ l : List Nat, (∀ i ∈ l, i < L.length) → l.filterMap (fun i => es[i]?) = ents P w (l.filterMap fun i => L[i]?) ∧ hs P w (l.filterMap fun i => L[i]?) = l.map fun i => (es.map (·.1)).getD i 0 := by
    intro l
    induction l with
    | nil => exact fun _ => ⟨rfl, rfl⟩
    | cons i l ih =>
      intro hl
      obtain ⟨p, h1, h2⟩ := get i (hl i List.mem_cons_self)
      obtain ⟨e1, e2⟩ := ih fun j hj => hl j (List.mem_cons_of_mem _ hj)
      rw [List.filterMap_cons_some h2, List.filterMap_cons_some h1, e1]
      refine ⟨rfl, ?_⟩
      unfold hs at e2 ⊢
      rw [List.map_cons, List.map_cons, e2]
      congr 1
      have h3 : (es.map (·.1))[i]? = some (kh P w p.2) := by
        rw [Array.getElem?_map, h2]
        rfl
      simp [Array.getD_eq_getD_getElem?, h3]
  obtain ⟨g1, g2⟩ := gen order fun i hi => List.mem_range.mp (hp.mem_iff.mp hi)
  refine ⟨_, g1, ?_, g2⟩
  have all : (List.range L.length).filterMap (fun i => L[i]?) = L := by
    have upto : ∀ n, n ≤ L.length → (List.range n).filterMap (fun i => L[i]?) = L.take n := by
      intro n
      induction n with
      | zero => exact fun _ => rfl
      | succ n ih =>
        intro hn
        rw [List.range_succ, List.filterMap_append, ih (Nat.le_of_succ_le hn), List.take_succ]
        congr 1
    rw [upto _ (Nat.le_refl _), List.take_length]
  have h4 := hp.filterMap (fun i => L[i]?)
  rw [all] at h4
  exact h4
theorem relay (he : es.toList = ents P w L) {o : Obj} (ho : s.heap.get? a = some o) (hex : o.ExactSet) (hd : o.data = .set es ep t) (h1 : t.place.size = es.size) (h2 : t.dummies = #[]) (h3 : es.size ≤ t.mask) (nd : (L.map (·.2)).Nodup)
    (ld : w.params.followText "set-order" = true ∨ t.led = true) (few : L.length < 64) {n m : Nat} (m1 : SetTable.sizeAbove n - 1 = m) (m2 : MaskOk m) (m3 : SetTable.sizeAbove n ≤ 128) (m4 : L.length * 5 < m * 3) {Q : Unit → Shared → Prop}
    (hQ : ∀ h' L' es' ep' t', Heap.SameBut a s.heap h' → Tab P w h' a L' es' ep' t' → L'.Perm L → Q () { s with heap := h' }) : wpAny (model P w) A (setRelay a n) Q E s := by
  have hsz := size_ents he
  have ft : t.fits es.size = true := by
    unfold SetTable.fits SetTable.fill
    rw [h2, Bool.and_eq_true, beq_iff_eq, decide_eq_true_eq]
    show t.place.size = es.size ∧ t.place.size + 0 ≤ t.mask
    omega
  obtain ⟨t', order, e, hp, TT, em, el, _, _⟩ := relaid_ok t (hs := es.map (·.1)) (wanted := n) m1 m2 (by rw [Array.size_map, hsz]; omega)
  rw [Array.size_map, hsz] at hp
  obtain ⟨M, r1, r2, r3⟩ := turned he hp
  rw [← r3] at TT
  have r1' : (order.filterMap (es[·]?)).toList = ents P w M := by simpa using r1
  have s2 : (order.filterMap (es[·]?)).size = es.size := by rw [size_ents r1', r2.length_eq, hsz]
  rw [setRelay_eq]
  refine wpAny_bind (wpAny_setState_of ho hd ft ?_)
  dsimp only
  refine wp_if_neg (by rw [sizeLine_eq]; omega) ?_
  try refine wpAny_bind (wpAny_pure ?_)
  rw [e]
  dsimp only
  refine wpAny_bind ?_
  refine wp_if_neg (by rw [s2]; simp) ?_
  try refine wpAny_bind (wpAny_pure ?_)
  refine wpAny_pure ?_
  dsimp only
  refine wpAny_storeSet_of ho hd ?_ (by rw [s2, hsz, sizeLine_eq]; omega)
  refine hQ _ M (order.filterMap (es[·]?)) (ep + 1) t' (Heap.SameBut.update ..) ⟨⟨_, store_at ho hd, ⟨hex.1, hex.2.1, hex.2.2⟩, rfl⟩, r1', TT, (r2.map (·.2)).nodup_iff.mpr nd, by rw [el]; exact ld, ?_, by rw [r2.length_eq]; exact few⟩ r2
  rw [r2.length_eq, em]
  exact m4
/-- x is added -/
theorem add_to (T : Tab P w s.heap a L es ep t) (G : Els P w s.heap L) {x : Addr} {k : List Key} (hx : KT P w s.heap k x) (hu : A.units < cLine) (few : L.length + 1 < 64) {Q : Bool → Shared → Prop}
    (hQ : ∀ b h' L' es' ep' t', Heap.SameBut a s.heap h' → Tab P w h' a L' es' ep' t' → (k ∈ L.map (·.2) → L' = L) → (k ∉ L.map (·.2) → L'.Perm ((x, k) :: L)) → Q b { s with heap := h' }) :
    wpAny (model P w) A (setAddHashed a (.ref x) (kh P w k)) Q E s := by
  obtain ⟨o, ho, hex, hd⟩ := T.obj
  have hsz := T.sz
  have room := T.roomy
  unfold setAddHashed
  refine wpAny_holding ?_
  rw [show (100000 : Nat) = 99999 + 1 from rfl, setAddHashedIn_succ]
  refine wpAny_bind (wpAny_setState_of ho hd T.fits ?_)
  dsimp only
  refine wp_if_neg (by simp [byScan, Value.scannable]) ?_
  try refine wpAny_bind (wpAny_pure ?_)
  refine wpAny_bind (look_at T G hx hu (fun hm r _ => ?_) fun N hm free taken => ?_)
  · dsimp only
    exact wpAny_pure (hQ false s.heap L es ep t (Heap.SameBut.refl a s.heap) T (fun _ => rfl) fun z => absurd hm z)
  · dsimp only
    refine wpAny_bind (wpAny_setState_of ho hd T.fits ?_)
    dsimp only
    obtain ⟨p1, p2, p3, p4, p5, p6, p7, p8, p9⟩ := T.tab.put free taken
    generalize hput : t.put (way t.mask (kh P w k) N) = pt at p1 p3 p4 p5 p6 p7 p8 p9 ⊢
    obtain ⟨t0, n⟩ := pt
    dsimp only at p1 p3 p4 p5 p6 p7 p8 p9 ⊢
    have fin : ∀ t1 : SetTable, TabOk t1 ((hs P w L).take n ++ kh P w k :: (hs P w L).drop n) → t1.mask = t.mask → t1.led = t.led → t1.fill = (hs P w L).length + 1 →
        wpAny (model P w) A (storeSet a (SetTable.insertAt es n (kh P w k, Value.ref x)) t1 >>= fun _ => (do
          if !false && t1.tooFull then setRelay a (SetTable.grown (es.size + 1))
          return true)) Q E s := by
      intro t1 q1 q2 q3 q4
      have hin : (SetTable.insertAt es n (kh P w k, Value.ref x)).toList = ents P w (L.take n ++ (x, k) :: L.drop n) := by
        rw [SetTable.toList_insertAt, T.ent]
        unfold ents
        rw [List.map_append, List.map_cons, List.map_take, List.map_drop]
      have pm : (L.take n ++ (x, k) :: L.drop n).Perm ((x, k) :: L) := by
        have z : (L.take n ++ (x, k) :: L.drop n).Perm ((x, k) :: (L.take n ++ L.drop n)) := List.perm_middle
        rw [List.take_append_drop] at z
        exact z
      have hh : hs P w (L.take n ++ (x, k) :: L.drop n) = (hs P w L).take n ++ kh P w k :: (hs P w L).drop n := by
        unfold hs
        rw [List.map_append, List.map_cons, List.map_take, List.map_drop]
      rw [← hh] at q1
      have nd1 : ((L.take n ++ (x, k) :: L.drop n).map (·.2)).Nodup := by
        refine (pm.map (·.2)).nodup_iff.mpr ?_
        rw [List.map_cons]
        exact List.nodup_cons.mpr ⟨hm, T.nd⟩
      have len1 : (L.take n ++ (x, k) :: L.drop n).length = L.length + 1 := pm.length_eq
      have sz1 := size_ents hin
      rw [len1] at sz1
      generalize SetTable.insertAt es n (kh P w k, Value.ref x) = es1 at hin sz1 ⊢
      generalize L.take n ++ (x, k) :: L.drop n = L1 at pm len1 q1 nd1 hin hh
      refine wpAny_bind (wpAny_storeSet_of ho hd ?_ (by rw [sz1, sizeLine_eq]; omega))
      have sb : Heap.SameBut a s.heap (s.heap.update a (Obj.putSet es1 t1)) := Heap.SameBut.update ..
      have ho1 := store_at (es' := es1) (t' := t1) ho hd
      generalize s.heap.update a (Obj.putSet es1 t1) = h1 at sb ho1 ⊢
      have ld1 : w.params.followText "set-order" = true ∨ t1.led = true := by
        rw [q3]
        exact T.led
      have hl0 : (hs P w L).length = L.length := List.length_map ..
      by_cases full : t1.tooFull = true
      · first
          | (refine wpAny_bind ?_; refine wp_if_pos (by simp [full]) ?_)
          | (refine wp_if_pos (by simp [full]) ?_; refine wpAny_bind ?_)
        have many : (L.length + 1) * 5 ≥ t1.mask * 3 := by
          have z := full
          unfold SetTable.tooFull at z
          rw [decide_eq_true_eq, q4, hl0] at z
          exact z
        rw [hsz]
        have pl1 : t1.place.size = es1.size := by
          have z := q1.sz
          unfold hs at z
          rw [List.length_map, len1] at z
          rw [z, sz1]
        have two : (t.mask = 7 ∧ L.length = 4) ∨ (t.mask = 31 ∧ L.length = 18) := by
          rcases T.tab.mok with e | e | e
          · exact .inl ⟨e, by rw [q2, e] at many; rw [e] at room; omega⟩
          · exact .inr ⟨e, by rw [q2, e] at many; rw [e] at room; omega⟩
          · rw [q2, e] at many
            omega
        have grow : ∀ m, SetTable.sizeAbove (SetTable.grown (L.length + 1)) - 1 = m → MaskOk m → SetTable.sizeAbove (SetTable.grown (L.length + 1)) ≤ 128 → (L.length + 1) * 5 < m * 3 →
            wpAny (model P w) A (setRelay a (SetTable.grown (L.length + 1))) (fun _ s2 => wpAny (model P w) A (pure true) Q E s2) E { s with heap := h1 } := fun m z1 z2 z3 z4 => by
          refine relay (s := { s with heap := h1 }) hin ho1 ⟨hex.1, hex.2.1, hex.2.2⟩ rfl pl1 q1.dm (by rw [sz1, q2]; rcases two with ⟨e, e2⟩ | ⟨e, e2⟩ <;> omega) nd1 ld1 (by rw [len1]; exact few) z1 z2 z3 (by rw [len1]; exact z4) ?_
          intro h2 L2 es2 ep2 t2 sb2 T2 pm2
          exact wpAny_pure (hQ true h2 L2 es2 ep2 t2 (sb.trans sb2) T2 (fun z => absurd z hm) fun _ => pm2.trans pm)
        rcases two with ⟨_, e⟩ | ⟨_, e⟩
        · exact grow 31 (by rw [e, size_20]) (.inr (.inl rfl)) (by rw [e, size_20]; decide) (by omega)
        · exact grow 127 (by rw [e, size_76]) (.inr (.inr rfl)) (by rw [e, size_76]; decide) (by omega)
      · first
          | refine wp_if_neg (by simp [full]) ?_
          | (refine wpAny_bind ?_; refine wp_if_neg (by simp [full]) ?_; refine wpAny_pure ?_)
        refine wpAny_pure (hQ true h1 L1 es1 (ep + 1) t1 sb ⟨⟨_, ho1, ⟨hex.1, hex.2.1, hex.2.2⟩, rfl⟩, hin, q1, nd1, ld1, ?_, by rw [len1]; exact few⟩ (fun z => absurd z hm) fun _ => pm)
        have z := full
        unfold SetTable.tooFull at z
        rw [decide_eq_true_eq, q4, hl0] at z
        rw [len1]
        omega
    subst p1
    have okp : ∀ z : Bool, TabOk { t0 with plain := z } ((hs P w L).take (SetTable.below t.place (way t.mask (kh P w k) N)) ++ kh P w k :: (hs P w L).drop (SetTable.below t.place (way t.mask (kh P w k) N))) := fun z => ⟨p3.ris, p3.dm, p3.sz, p3.mok, p3.bd, p3.reach⟩
    by_cases hpl : t0.plain = true
    · first
        | (refine wpAny_bind ?_; refine wp_if_pos hpl ?_; refine hashBy_key hx fun z => ?_)
        | refine wp_if_pos hpl (wpAny_bind (hashBy_key hx fun z => ?_))
      cases z
      · exact fin { t0 with plain := false } (okp false) p4 p5 p9
      · exact fin t0 p3 p4 p5 p9
    · first
        | (refine wpAny_bind ?_; refine wp_if_neg hpl ?_; refine wpAny_pure ?_)
        | refine wp_if_neg hpl (wpAny_bind (wpAny_pure ?_))
      exact fin t0 p3 p4 p5 p9
end
end Ws

set_option Elab.async false
set_option linter.all false
set_option maxRecDepth 100000
set_option maxHeartbeats 4000000
/-! sets of flat tuples over the hand layer: set(), add, in -/
namespace Ws
open PySem L2
open PySem.Spec PyProof.Rows
def SetT (P : Program) (w : World) (a : Addr) (L : List El) : HO := .ext fun h => ∃ es ep t, Tab P w h a L es ep t
theorem Tab.moved {P : Program} {w : World} {h h' : Heap} {a : Addr} {L : List El} {es : Array (Int × Value)} {ep : Nat} {t : SetTable} (T : Tab P w h a L es ep t) (k : ∀ o, h.get? a = some o → h'.get? a = some o) : Tab P w h' a L es ep t :=
  ⟨let ⟨o, h1, h2⟩ := T.obj; ⟨o, k o h1, h2⟩, T.ent, T.tab, T.nd, T.led, T.roomy, T.few⟩
theorem setT_new {P : Program} {w : World} {H : Hp} {h : Heap} {a : Addr} {L : List El} {es : Array (Int × Value)} {ep : Nat} {t : SetTable} (T : Tab P w h a L es ep t) : ObjOk P w H h a (SetT P w a L) :=
  ⟨⟨es, ep, t, T⟩, let ⟨o, h1, _⟩ := T.obj; ⟨o, h1⟩, fun _ _ z k => let ⟨es, ep, t, T⟩ := z; ⟨es, ep, t, T.moved k⟩⟩
theorem fresh_tab {P : Program} {w : World} {h : Heap} {a : Addr} (e : h.get? a = some { cls := .type "set", dict := none, data := .set #[] 0 (.fresh 0 0 (!w.params.followText "set-order")) }) : Tab P w h a [] #[] 0 (.fresh 0 0 (!w.params.followText "set-order")) where
  obj := ⟨_, e, ⟨rfl, rfl, rfl⟩, rfl⟩
  ent := rfl
  tab := ⟨by first | exact trivial | (show List.Pairwise _ []; exact List.Pairwise.nil) | simp [Ris, SetTable.fresh], rfl, rfl, .inl rfl, fun x hx => by simp [SetTable.fresh] at hx, fun i hh j hi => by simp [hs] at hi⟩
  nd := List.nodup_nil
  led := by
    cases w.params.followText "set-order"
    · exact .inr rfl
    · exact .inl rfl
  roomy := by show 0 * 5 < 7 * 3; decide
  few := by decide
section
variable {P : Program} {w : World} {A : Around} {E : Value → Shared → Prop} {s : Shared} {a : Addr} {L : List El} {es : Array (Int × Value)} {ep : Nat} {t : SetTable}
theorem Tab.ty (T : Tab P w s.heap a L es ep t) : s.TypeIs (.ref a) "set" := let ⟨o, h1, h2, _⟩ := T.obj; ⟨o, h1, h2.1⟩
theorem Tab.nodict (T : Tab P w s.heap a L es ep t) : ∀ b, Value.ref a = .ref b → ∃ ob, s.heap.get? b = some ob ∧ ob.dict = none := fun b e => by
  cases e
  obtain ⟨o, h1, h2, _⟩ := T.obj
  exact ⟨o, h1, h2.2.1⟩
theorem Tab.toks {n : Nat} (T : Tab P w s.heap a L es ep t) : Tab P w ({ s with toks := n } : Shared).heap a L es ep t := T
/-- the set is asked for a tuple -/
theorem asks (T : Tab P w s.heap a L es ep t) (G : Els P w s.heap L) {x : Addr} {k : List Key} (hx : KT P w s.heap k x) (hu : A.units + 8 < cLine) {Q : Bool → Shared → Prop}
    (hQ : ∀ (r : Bool) n, (r = true ↔ k ∈ L.map (·.2)) → Q r { s with toks := n }) : wpAny (model P w) A (contains (.ref a) (.ref x)) Q E s := by
  unfold contains
  try with_reducible refine wpAny_holding ?_
  refine wpAny_bind (wpAny_specialOf T.ty F.slot_set_contains.lookup ?_)
  show wpAny _ _ (if (some (Value.builtin "set.__contains__") == some Value.none) = true then _ else _) _ E s
  refine wp_if_neg (by rw [beq_builtin_none]; exact Bool.false_ne_true) ?_
  refine wpAny_bind (wpAny_callSpecialUnlessNone?_slot (name := Str.ofString "__contains__") T.ty F.slot_set_contains
    (wpAny_call_entry F.slot_set_contains T.ty entry_set_contains ?_ (F.args_set_contains_2 _ _)))
  unfold Builtin.«frozenset.__contains__» Builtin.Frozenset.oneOther
  simp only [List.isEmpty_nil, bind_assoc]
  unfold Builtin.Frozenset.addrOf Builtin.Frozenset.withSetAsKey setContains
  refine wpAny_bind (wpAny_pure ?_)
  try dsimp only
  refine wpAny_bind (wpAny_pure ?_)
  try dsimp only
  refine wpAny_bind (wpAny_tryCatch (wpAny_holding (wpAny_bind (wpAny_pyHash_tuple ?hu hx ?_))))
  case hu => first | (show A.units + 1 < cLine; omega) | (show A.units + 1 + 1 < cLine; omega) | (show A.units < cLine; omega)
  refine wpAny_bind (has_at (k := k) (L := L) (es := es) (ep := ep) (t := t) ?hT ?hG ?hk ?hv fun r hr => ?_)
  case hT => exact T
  case hG => exact G
  case hk => exact hx
  case hv => first | (show A.units + 1 < cLine; omega) | (show A.units + 1 + 1 < cLine; omega) | (show A.units < cLine; omega)
  refine wpAny_pure ?_
  show wpAny _ _ (ret (Value.bool r.isSome)) _ _ _
  exact wpAny_pure ⟨_, rfl, wpAny_truthy_bool (hQ _ _ hr)⟩
theorem adds (T : Tab P w s.heap a L es ep t) (G : Els P w s.heap L) {x : Addr} {k : List Key} (hx : KT P w s.heap k x) (hu : A.units + 8 < cLine) (few : L.length + 1 < 64) {Q : Value → Shared → Prop}
    (hQ : ∀ n h' L' es' ep' t', Heap.SameBut a s.heap h' → Tab P w h' a L' es' ep' t' → (k ∈ L.map (·.2) → L' = L) → (k ∉ L.map (·.2) → L'.Perm ((x, k) :: L)) → Q .none { s with heap := h', toks := n }) :
    wpAny (model P w) A (call (.builtin "set.add") [.ref a, .ref x]) Q E s := by
  refine wpAny_call_entry F.slot_set_add T.ty F.entry_set_add ?_ (F.args_set_add_2 _ _)
  unfold Builtin.«set.add» Builtin.Frozenset.oneOther
  simp only [List.isEmpty_nil, bind_assoc]
  unfold Builtin.Frozenset.addrOf setAdd
  refine wpAny_bind (wpAny_pure ?_)
  try dsimp only
  refine wpAny_bind (wpAny_pure ?_)
  try dsimp only
  refine wpAny_bind (wpAny_holding (wpAny_bind (wpAny_pyHash_tuple ?hu hx ?_)))
  case hu => first | (show A.units + 1 < cLine; omega) | (show A.units + 1 + 1 < cLine; omega) | (show A.units < cLine; omega)
  refine add_to (k := k) (L := L) (es := es) (ep := ep) (t := t) ?hT ?hG ?hk ?hv few fun b h' L' es' ep' t' sb T' e1 e2 => ?_
  case hT => exact T
  case hG => exact G
  case hk => exact hx
  case hv => first | (show A.units + 1 < cLine; omega) | (show A.units + 1 + 1 < cLine; omega) | (show A.units < cLine; omega)
  show wpAny _ _ (ret Value.none) _ _ _
  exact wpAny_pure ⟨_, rfl, hQ _ h' L' es' ep' t' sb T' e1 e2⟩
end
section
variable {X : Cx}
def Known (H : Hp) (L : List El) : Prop := ∀ p ∈ L, H p.1 = some (.tup (p.2.map kV))
theorem known_els {pins : List (Addr × Obj)} {σ : L2.St} {H : Hp} {s : Shared} {L : List El} (I : L2.Inv X pins σ H s) (k : Known H L) : Els X.prog X.w s.heap L := fun p hp => key_of I.hok (k p hp)
theorem setT_at {pins : List (Addr × Obj)} {σ : L2.St} {H : Hp} {s : Shared} {a : Addr} {L : List El} (I : L2.Inv X pins σ H s) (h : H a = some (SetT X.prog X.w a L)) : ∃ es ep t, Tab X.prog X.w s.heap a L es ep t := by
  have z : ObjOk X.prog X.w H s.heap a (.ext fun h => ∃ es ep t, Tab X.prog X.w h a L es ep t) := I.hok a _ h
  exact z.1
def rSet0T (P : Program) (w : World) : List V → Hp → VK → Prop := fun xs H Q => xs = [] ∧ ∀ p, H p = none → Q (.ref p) (upd H p (SetT P w p []))
theorem cr_set0T : CallR X (.type "set") (rSet0T X.prog X.w) := by
  intro pins s σ H xs us Q I r h
  obtain ⟨rfl, q⟩ := h
  cases r
  refine setR_new fun _ => ?_
  refine ⟨.ref s.heap.objs.size, upd H s.heap.objs.size (SetT X.prog X.w s.heap.objs.size []), I.laid (t' := s.toks) (fun b u e => Heap.get?_push_of_some _ e) (Nat.le_refl _) (setT_new (fresh_tab (Heap.get?_push_size _ rfl))), rfl, q _ (I.hok.fresh (Nat.le_refl _))⟩
/-- k in found, k not in found -/
def rInT (P : Program) (w : World) (neg : Bool) : V → V → Hp → VK → Prop := fun x y H Q => ∃ b a k L, x = V.ref b ∧ y = V.ref a ∧ H b = some (.tup (List.map kV k)) ∧ H a = some (SetT P w a L) ∧ Known H L ∧ ∀ r : Bool, (r = true ↔ k ∈ L.map (·.2)) → Q (.bl (if neg then !r else r)) H
theorem or_inT (hu : X.A.units + 16 < cLine) : OpR X (compareOp .In) (rInT X.prog X.w false) := by
  intro pins s σ H x y v u Q I rx ry h
  obtain ⟨b, a, k, L, rfl, rfl, hb, ha, kn, q⟩ := h
  cases rx
  cases ry
  obtain ⟨es, ep, t, T⟩ := setT_at I ha
  show wpAny _ _ (do return Value.bool (← contains (.ref a) (.ref b))) _ _ s
  refine wpAny_bind (asks T (known_els I kn) (key_of I.hok hb) (by omega) fun r n hr => wpAny_pure ⟨.bl r, H, I.tok n, rfl, q r hr⟩)
theorem or_notInT (hu : X.A.units + 16 < cLine) : OpR X (compareOp .NotIn) (rInT X.prog X.w true) := by
  intro pins s σ H x y v u Q I rx ry h
  obtain ⟨b, a, k, L, rfl, rfl, hb, ha, kn, q⟩ := h
  cases rx
  cases ry
  obtain ⟨es, ep, t, T⟩ := setT_at I ha
  show wpAny _ _ (do return Value.bool (!(← contains (.ref a) (.ref b)))) _ _ s
  refine wpAny_bind (asks T (known_els I kn) (key_of I.hok hb) (by omega) fun r n hr => wpAny_pure ⟨.bl (!r), H, I.tok n, rfl, q r hr⟩)
/-- found.add(k) -/
def rAddT (P : Program) (w : World) : V → List V → Hp → VK → Prop := fun x xs H Q => ∃ a b k L, x = V.ref a ∧ xs = [V.ref b] ∧ H a = some (SetT P w a L) ∧ H b = some (.tup (List.map kV k)) ∧ Known H L ∧ L.length + 1 < 64 ∧
  ∀ L', (k ∈ L.map (·.2) → L' = L) → (k ∉ L.map (·.2) → L'.Perm ((b, k) :: L)) → Q .non (upd H a (SetT P w a L'))
theorem mt_addT (hu : X.A.units + 16 < cLine) : MtR X "set.add" (rAddT X.prog X.w) := by
  intro pins s σ H x xs v us Q I rx rxs h
  obtain ⟨a, b, k, L, rfl, rfl, ha, hb, kn, few, q⟩ := h
  cases rx
  cases rxs with
  | cons ry rt =>
    cases rt
    cases ry
    obtain ⟨es, ep, t, T⟩ := setT_at I ha
    refine adds T (known_els I kn) (key_of I.hok hb) (by omega) few fun n h' L' es' ep' t' sb T' e1 e2 => ?_
    have he : ∃ u, h'.get? a = some u := let ⟨o, h1, _⟩ := T'.obj; ⟨o, h1⟩
    exact ⟨.non, upd H a (SetT X.prog X.w a L'), I.write (e := a) (t' := n) (by rw [ha]; trivial) (.inl rfl) (fun c u hc hu' => (sb.2 c hc).trans hu') he (setT_new T'), rfl, q L' e1 e2⟩
def tAddT (P : Program) (w : World) (to : TE) (t : TA) : TE := fun σ H Q => to σ H fun x H1 => (∃ a L, x = V.ref a ∧ H1 a = some (SetT P w a L)) ∧ t σ H1 fun xs H2 => rAddT P w x xs H2 Q
theorem pe_addT {o e : Expr} {es : List Expr} {to : TE} {t : TA} {apos cpos : Pos} (hu : X.A.units + 16 < cLine) (ho : PE X o to) (ha : PA X (e :: es) t) (hbase : attributeBase o "add" X.env (eval o X.env) = eval o X.env)
    (hfew : ((backTo cpos (starEach (e :: es) X.env)).all (fun x => !x.1) && (backToKw cpos (keywordEach [] X.env)).all (fun x => x.1.isSome)
      && decide ((e :: es).length + ([] : List Keyword).length + (if ([] : List Keyword).isEmpty then 0 else 1) < 30)) = true)
    (hline : (apos.endLine == cpos.line) = true) (hs : starEach (e :: es) X.env = (false, eval e X.env) :: starEach es X.env) (hplain : (backTo cpos (starEach es X.env)).any (·.1) = false) :
    PE X (.Call (.Attribute o "add" apos) (e :: es) [] cpos) (tAddT X.prog X.w to t) := by
  refine ⟨fun pins s σ H Q I h => ?_⟩
  refine wpAny_Call_method_late hbase hfew hline rfl (thn (ho.run pins s σ H _ I h) fun v s1 ⟨x, H1, I1, r1, ty, q1⟩ => ?_)
  obtain ⟨a, L, rfl, hka⟩ := ty
  obtain ⟨es', ep, t', T⟩ := setT_at I1 hka
  cases r1
  refine ⟨"set", "set.add", F.plainAttrs_set, F.slot_set_add, F.type_set_add, T.ty, T.nodict, ?_⟩
  have hA := ha.run cpos pins s1 σ H1 _ I1 q1
  rw [hs] at hA ⊢
  refine Calls.callWith_builtin (by show (false || (backTo cpos (starEach es X.env)).any (·.1)) = false; rw [hplain]; rfl) (Calls.evalArgs_plain ?_)
  exact thn hA fun us s2 ⟨xs, H2, I2, rs, q2⟩ => mt_addT hu pins s2 σ H2 (.ref a) xs (.ref a) us Q I2 rfl rs q2
end
end Ws

set_option Elab.async false
set_option linter.all false
set_option maxRecDepth 100000
set_option maxHeartbeats 2000000
namespace Wl
open PySem L2

/-! ## deep values, what lies at mutable places -/
inductive Dv where
  | non | bl (b : Bool) | int (i : Int) | str (x : Str) | byt (b : Array UInt8) | ref (a : Addr) | ty (n : String)
  | tup (xs : List Dv) | lst (xs : List Dv) | rol (xs : List Dv) | rot (xs : List Dv)

mutual
inductive Rep (K : PySem.W.Frag) (I : Hp) : Dv → V → Prop
  | non : Rep K I .non .non
  | bl (b : Bool) : Rep K I (.bl b) (.bl b)
  | int (i : Int) : Rep K I (.int i) (.int i)
  | str (x : Str) : Rep K I (.str x) (.str x)
  | byt (x : Array UInt8) : Rep K I (.byt x) (.byt x)
  | ref (a : Addr) : Rep K I (.ref a) (.ref a)
  | ty (n : String) : Rep K I (.ty n) (.ty n)
  | tup {a : Addr} {vs : List V} {xs : List Dv} : I a = some (.tup vs) → RepL K I xs vs → Rep K I (.tup xs) (.ref a)
  | rot {a : Addr} {vs : List V} {xs : List Dv} : SqT K I a vs → RepL K I xs vs → Rep K I (.rot xs) (.ref a)
  | lst {a : Addr} {vs : List V} {xs : List Dv} : I a = some (.lst vs) → RepL K I xs vs → Rep K I (.lst xs) (.ref a)
  | rol {a : Addr} {vs : List V} {xs : List Dv} : SqL K I a vs → RepL K I xs vs → Rep K I (.rol xs) (.ref a)
inductive RepL (K : PySem.W.Frag) (I : Hp) : List Dv → List V → Prop
  | nil : RepL K I [] []
  | cons {d : Dv} {v : V} {ds : List Dv} {vs : List V} : Rep K I d v → RepL K I ds vs → RepL K I (d :: ds) (v :: vs)
end

/-! keys of dicts that are nested tuples -/
mutual
def nkD : Dv → Option NestedKey
  | .non => some .none
  | .bl b => some (.num (if b = true then 1 else 0))
  | .int i => some (.num i)
  | .str x => some (.text x)
  | .tup xs => (nksD xs).map .tup
  | _ => none
def nksD : List Dv → Option (List NestedKey)
  | [] => some []
  | d :: ds => match nkD d, nksD ds with
    | some k, some ks => some (k :: ks)
    | _, _ => none
end
/-- a key that is a tuple, not too deep -/
def nkT (d : Dv) : Option NestedKey := match d with
  | .tup xs => (nksD xs).bind fun ks => if (NestedKey.tup ks).depth ≤ 8 then some (.tup ks) else none
  | _ => none
def DNo (P : Program) (w : World) (a : Addr) (L : List (NestedKey × Addr × Value)) (h : Heap) : Prop :=
  (a == sysModules) = false ∧ L.length ≤ sizeLine ∧ ∃ o es ep, h.get? a = some o ∧ o.ExactDict ∧ o.data = .dict es ep ∧ es.toList = L.map (entryOfKey (nestedKind P w)) ∧ (L.map (·.1)).Nodup
def DN (P : Program) (w : World) (a : Addr) (L : List (NestedKey × Addr × Value)) : HO := .ext (DNo P w a L)
def DNRel (K : PySem.W.Frag) (I : Hp) : List (NestedKey × Dv) → List (NestedKey × Addr × Value) → Prop :=
  Paired fun p q => p.1 = q.1 ∧ (∃ d, nkT d = some p.1 ∧ Rep K I d (.ref q.2.1)) ∧ ∃ v, Rep K I p.2 v ∧ RelV v q.2.2
inductive Mo where
  | dN (P : Program) (w : World) (kvs : List (NestedKey × Dv))
  | lst (xs : List Dv)
  | dK (kvs : List (Key × Dv))
  | dT (kvs : List (List Key × Dv))
  | fdK (o : Obj) (kvs : List (Key × Dv)) (vs : List (Key × V))
  | ins (C dx : Addr) (fs : List (Str × Dv))
  | xd (fs : List (Str × Dv))
  | st (P : Program) (w : World) (ks : List (List Key))
  | tab (q : Str)
  | fn (o : Obj) (b : Addr) (q : Str)
  | oth (o : HO)
abbrev Mu := Addr → Option Mo
def mset (μ : Mu) (a : Addr) (m : Mo) : Mu := fun b => if b = a then some m else μ b
def mdel (μ : Mu) (a : Addr) : Mu := fun b => if b = a then none else μ b
theorem mset_same {μ : Mu} {a : Addr} {m : Mo} : mset μ a m a = some m := if_pos rfl
theorem mset_ne {μ : Mu} {a b : Addr} {m : Mo} (h : b ≠ a) : mset μ a m b = μ b := if_neg h
theorem mdel_same {μ : Mu} {a : Addr} : mdel μ a a = none := if_pos rfl
theorem mdel_ne {μ : Mu} {a b : Addr} (h : b ≠ a) : mdel μ a b = μ b := if_neg h
theorem mset_mset {μ : Mu} {a : Addr} {m n : Mo} : mset (mset μ a m) a n = mset μ a n := by
  funext b; unfold mset; split <;> rfl

def RepP (K : PySem.W.Frag) (I : Hp) {κ : Type} : List (κ × Dv) → List (κ × V) → Prop := Paired fun (p : κ × Dv) (q : κ × V) => p.1 = q.1 ∧ Rep K I p.2 q.2
def MRep (K : PySem.W.Frag) (I H : Hp) (a : Addr) : Mo → Prop
  | .dN P w kvs => ∃ L, DNRel K I kvs L ∧ H a = some (DN P w a L)
  | .lst xs => ∃ vs, RepL K I xs vs ∧ H a = some (.lst vs)
  | .dK kvs => ∃ vs, RepP K I kvs vs ∧ H a = some (.dK vs)
  | .dT kvs => ∃ vs, RepP K I kvs vs ∧ H a = some (.dT vs)
  | .fdK o kvs vs => RepP K I kvs vs ∧ H a = some (.frz o (.dK vs))
  | .ins C dx fs => ∃ gs, RepP K I fs gs ∧ H a = some (.ins C dx gs)
  | .xd fs => ∃ gs, RepP K I fs gs ∧ H a = some (.xd gs)
  | .st P w ks => ∃ L : List Ws.El, (L.map (·.2)).Perm ks ∧ (∀ p ∈ L, I p.1 = some (.tup (List.map kV p.2))) ∧ H a = some (Ws.SetT P w a L)
  | .tab q => ∃ ps : Array Value, H a = some (.tbl ps) ∧ TriplesOk ps.toList ∧ ∀ (pos : Pos) (cv : Value), codeAmong pos ps.toList = some cv → ∃ c, cv = .ref c ∧ I c = some (LamX.CodeO c q)
  | .fn o b q => H a = some (.ext fun h => h.get? a = some o) ∧ I b = some (LamX.CodeO b q)
  | .oth o => H a = some o

theorem same_rd {I I' : Hp} {a : Addr} {u : HO} (s : Same I I') (h : Rd I a u) : Rd I' a u := by
  rcases h with h | ⟨o, h⟩
  · exact .inl (s _ _ h)
  · exact .inr ⟨o, s _ _ h⟩
theorem same_t {K : PySem.W.Frag} {I I' : Hp} {a : Addr} {xs : List V} (s : Same I I') (h : SqT K I a xs) : SqT K I' a xs := by
  rcases h with h | h
  · exact .inl (same_rd s h)
  · exact .inr h
theorem same_l {K : PySem.W.Frag} {I I' : Hp} {a : Addr} {xs : List V} (s : Same I I') (h : SqL K I a xs) : SqL K I' a xs := by
  rcases h with h | h
  · exact .inl (same_rd s h)
  · exact .inr h
section
variable {K : PySem.W.Frag} {I I' : Hp}
mutual
theorem Rep.mono (s : Same I I') : ∀ (d : Dv) (v : V), Rep K I d v → Rep K I' d v
  | .non, _, h => by cases h; exact .non
  | .bl b, _, h => by cases h; exact .bl _
  | .int _, _, h => by cases h; exact .int _
  | .str _, _, h => by cases h; exact .str _
  | .byt _, _, h => by cases h; exact .byt _
  | .ref _, _, h => by cases h; exact .ref _
  | .ty _, _, h => by cases h; exact .ty _
  | .tup xs, _, h => by
    cases h with
    | tup h1 h2 => exact .tup (s _ _ h1) (RepL.mono s xs _ h2)
  | .rot xs, _, h => by
    cases h with
    | rot h1 h2 => exact .rot (same_t s h1) (RepL.mono s xs _ h2)
  | .lst xs, _, h => by
    cases h with
    | lst h1 h2 => exact .lst (s _ _ h1) (RepL.mono s xs _ h2)
  | .rol xs, _, h => by
    cases h with
    | rol h1 h2 => exact .rol (same_l s h1) (RepL.mono s xs _ h2)
theorem RepL.mono (s : Same I I') : ∀ (ds : List Dv) (vs : List V), RepL K I ds vs → RepL K I' ds vs
  | [], _, h => by cases h; exact .nil
  | d :: ds, _, h => by
    cases h with
    | cons h1 h2 => exact .cons (Rep.mono s d _ h1) (RepL.mono s ds _ h2)
end
theorem RepP.mono {κ : Type} (s : Same I I') : ∀ {ps : List (κ × Dv)} {qs : List (κ × V)}, RepP K I ps qs → RepP K I' ps qs
  | _, _, .nil => .nil
  | _, _, .cons h t => .cons ⟨h.1, Rep.mono s _ _ h.2⟩ (RepP.mono s t)
theorem RepL.length : ∀ {ds : List Dv} {vs : List V}, RepL K I ds vs → ds.length = vs.length
  | _, _, .nil => rfl
  | _, _, .cons _ t => by rw [List.length_cons, List.length_cons, RepL.length t]
theorem RepL.get : ∀ {ds : List Dv} {vs : List V} {i : Nat} {d : Dv}, RepL K I ds vs → ds[i]? = some d → ∃ v, vs[i]? = some v ∧ Rep K I d v
  | _, _, _, _, .nil, e => by simp at e
  | _, _, 0, _, .cons r _, e => by simp at e; subst e; exact ⟨_, rfl, r⟩
  | _, _, i + 1, _, .cons _ t, e => by
    obtain ⟨v, h1, h2⟩ := RepL.get (i := i) t (by simpa using e)
    exact ⟨v, by simpa using h1, h2⟩
theorem RepL.getV : ∀ {ds : List Dv} {vs : List V} {i : Nat} {v : V}, RepL K I ds vs → vs[i]? = some v → ∃ d, ds[i]? = some d ∧ Rep K I d v
  | _, _, _, _, .nil, e => by simp at e
  | _, _, 0, _, .cons r _, e => by simp at e; subst e; exact ⟨_, rfl, r⟩
  | _, _, i + 1, _, .cons _ t, e => by
    obtain ⟨v, h1, h2⟩ := RepL.getV (i := i) t (by simpa using e)
    exact ⟨v, by simpa using h1, h2⟩
theorem RepL.append : ∀ {ds es : List Dv} {vs us : List V}, RepL K I ds vs → RepL K I es us → RepL K I (ds ++ es) (vs ++ us)
  | _, _, _, _, .nil, s => s
  | _, _, _, _, .cons r t, s => .cons r (RepL.append t s)
theorem RepL.take : ∀ {ds : List Dv} {vs : List V} (n : Nat), RepL K I ds vs → RepL K I (ds.take n) (vs.take n)
  | _, _, 0, _ => by simp; exact .nil
  | _, _, _ + 1, .nil => .nil
  | _, _, n + 1, .cons r t => .cons r (RepL.take n t)
theorem RepL.drop : ∀ {ds : List Dv} {vs : List V} (n : Nat), RepL K I ds vs → RepL K I (ds.drop n) (vs.drop n)
  | _, _, 0, r => r
  | _, _, _ + 1, .nil => .nil
  | _, _, n + 1, .cons _ t => RepL.drop n t
theorem RepL.set {d : Dv} {v : V} (r : Rep K I d v) : ∀ {ds : List Dv} {vs : List V} (i : Nat), RepL K I ds vs → RepL K I (ds.set i d) (vs.set i v)
  | _, _, _, .nil => .nil
  | _, _, 0, .cons _ t => .cons r t
  | _, _, i + 1, .cons q t => .cons q (RepL.set r i t)
end

/-! ## the state -/
abbrev DSt := List (Option Dv)
structure SatM (K : PySem.W.Frag) (I : Hp) (μ : Mu) (H : Hp) : Prop where
  ex : Same I H
  mu : ∀ a m, μ a = some m → I a = none ∧ MRep K I H a m
structure RepS (K : PySem.W.Frag) (I : Hp) (δ : DSt) (σ : St) : Prop where
  len : δ.length = σ.length
  at_ : ∀ (i : Nat) (d : Dv), δ[i]? = some (some d) → ∃ v, σ[i]? = some (some v) ∧ Rep K I d v
theorem DNRel.mono {K : PySem.W.Frag} {I I' : Hp} (s : Same I I') : ∀ {ps : List (NestedKey × Dv)} {qs : List (NestedKey × Addr × Value)}, DNRel K I ps qs → DNRel K I' ps qs
  | _, _, .nil => .nil
  | _, _, .cons ⟨h1, ⟨d, h2, h3⟩, v, h4, h5⟩ t => .cons ⟨h1, ⟨d, h2, Rep.mono s _ _ h3⟩, v, Rep.mono s _ _ h4, h5⟩ (DNRel.mono s t)
theorem MRep.mono {K : PySem.W.Frag} {I I' H : Hp} {a : Addr} (s : Same I I') : ∀ {m : Mo}, MRep K I H a m → MRep K I' H a m
  | .dN _ _ _, ⟨L, r, h⟩ => ⟨L, r.mono s, h⟩
  | .lst _, ⟨vs, r, h⟩ => ⟨vs, RepL.mono s _ _ r, h⟩
  | .dK _, ⟨vs, r, h⟩ => ⟨vs, r.mono s, h⟩
  | .dT _, ⟨vs, r, h⟩ => ⟨vs, r.mono s, h⟩
  | .fdK _ _ _, ⟨r, h⟩ => ⟨r.mono s, h⟩
  | .ins _ _ _, ⟨vs, r, h⟩ => ⟨vs, r.mono s, h⟩
  | .xd _, ⟨vs, r, h⟩ => ⟨vs, r.mono s, h⟩
  | .st _ _ _, ⟨L, p, r, h⟩ => ⟨L, p, fun q hq => s _ _ (r q hq), h⟩
  | .tab _, ⟨ps, h, t, c⟩ => ⟨ps, h, t, fun pos cv e => let ⟨x, a, b⟩ := c pos cv e; ⟨x, a, s _ _ b⟩⟩
  | .fn _ _ _, ⟨h, c⟩ => ⟨h, s _ _ c⟩
  | .oth _, h => h
theorem MRep.at_ {K : PySem.W.Frag} {I H H' : Hp} {a : Addr} (e : H' a = H a) : ∀ {m : Mo}, MRep K I H a m → MRep K I H' a m
  | .dN _ _ _, ⟨L, r, h⟩ => ⟨L, r, e.trans h⟩
  | .lst _, ⟨vs, r, h⟩ => ⟨vs, r, e.trans h⟩
  | .dK _, ⟨vs, r, h⟩ => ⟨vs, r, e.trans h⟩
  | .dT _, ⟨vs, r, h⟩ => ⟨vs, r, e.trans h⟩
  | .fdK _ _ _, ⟨r, h⟩ => ⟨r, e.trans h⟩
  | .ins _ _ _, ⟨vs, r, h⟩ => ⟨vs, r, e.trans h⟩
  | .xd _, ⟨vs, r, h⟩ => ⟨vs, r, e.trans h⟩
  | .st _ _ _, ⟨L, p, r, h⟩ => ⟨L, p, r, e.trans h⟩
  | .tab _, ⟨ps, h, t, c⟩ => ⟨ps, e.trans h, t, c⟩
  | .fn _ _ _, ⟨h, c⟩ => ⟨e.trans h, c⟩
  | .oth _, h => e.trans h
theorem MRep.some {K : PySem.W.Frag} {I H : Hp} {a : Addr} : ∀ {m : Mo}, MRep K I H a m → ∃ o, H a = some o
  | .dN _ _ _, ⟨L, _, h⟩ => ⟨_, h⟩
  | .lst _, ⟨vs, _, h⟩ => ⟨_, h⟩
  | .dK _, ⟨vs, _, h⟩ => ⟨_, h⟩
  | .dT _, ⟨vs, _, h⟩ => ⟨_, h⟩
  | .fdK _ _ _, ⟨_, h⟩ => ⟨_, h⟩
  | .ins _ _ _, ⟨vs, _, h⟩ => ⟨_, h⟩
  | .xd _, ⟨vs, _, h⟩ => ⟨_, h⟩
  | .st _ _ _, ⟨_, _, _, h⟩ => ⟨_, h⟩
  | .tab _, ⟨_, h, _⟩ => ⟨_, h⟩
  | .fn _ _ _, ⟨h, _⟩ => ⟨_, h⟩
  | .oth _, h => ⟨_, h⟩
section
variable {K : PySem.W.Frag} {I I' H H' : Hp} {μ : Mu} {a p : Addr} {o : HO} {m : Mo} {δ : DSt} {σ : St}
theorem RepS.mono (s : Same I I') (r : RepS K I δ σ) : RepS K I' δ σ := ⟨r.len, fun i d e => let ⟨v, h1, h2⟩ := r.at_ i d e; ⟨v, h1, Rep.mono s _ _ h2⟩⟩
theorem RepS.set {d : Dv} {v : V} (r : RepS K I δ σ) (i : Nat) (h : Rep K I d v) : RepS K I (δ.set i (some d)) (σ.set i (some v)) := by
  refine ⟨by rw [List.length_set, List.length_set, r.len], fun j e q => ?_⟩
  rw [List.getElem?_set] at q ⊢
  by_cases hij : i = j
  · rw [if_pos hij] at q ⊢
    by_cases hl : i < δ.length
    · rw [if_pos hl] at q
      rw [if_pos (r.len ▸ hl)]
      cases q
      exact ⟨v, rfl, h⟩
    · rw [if_neg hl] at q; cases q
  · rw [if_neg hij] at q ⊢
    exact r.at_ j e q
theorem same_new {I : Hp} {p : Addr} {o : HO} (hp : I p = none) : Same I (upd I p o) := fun b u e => by
  rw [upd_ne (ne_of_none e hp)]; exact e
/-- a new object that never changes -/
theorem SatM.newI (S : SatM K I μ H) (hp : H p = none) (o : HO) : Same I (upd I p o) ∧ SatM K (upd I p o) μ (upd H p o) := by
  have h0 : I p = none := S.ex.free hp
  refine ⟨same_new h0, fun b u e => ?_, fun a m e => ?_⟩
  · by_cases hb : b = p
    · subst hb; rw [upd_same] at e ⊢; exact e
    · rw [upd_ne hb] at e ⊢; exact S.ex b u e
  · obtain ⟨h1, h2⟩ := S.mu a m e
    obtain ⟨u, hu⟩ := h2.some
    have hap : a ≠ p := ne_of_none hu hp
    exact ⟨by rw [upd_ne hap]; exact h1, (h2.at_ (upd_ne hap)).mono (same_new h0)⟩
/-- the heap grows by something of no account -/
theorem SatM.keep (S : SatM K I μ H) (h : Same H H') : SatM K I μ H' := ⟨S.ex.trans h, fun a m e => by
  obtain ⟨h1, h2⟩ := S.mu a m e
  obtain ⟨u, hu⟩ := h2.some
  exact ⟨h1, h2.at_ ((h a u hu).trans hu.symm)⟩⟩
/-- a new or changed object at a mutable place -/
theorem SatM.setM (S : SatM K I μ H) (hp : I p = none) (h : MRep K I (upd H p o) p m) : SatM K I (mset μ p m) (upd H p o) := by
  refine ⟨fun b u e => ?_, fun a n e => ?_⟩
  · rw [upd_ne (ne_of_none e hp)]; exact S.ex b u e
  · by_cases ha : a = p
    · subst ha
      rw [mset_same] at e
      cases e
      exact ⟨hp, h⟩
    · rw [mset_ne ha] at e
      obtain ⟨h1, h2⟩ := S.mu a n e
      exact ⟨h1, h2.at_ (upd_ne ha)⟩
theorem SatM.memo (S : SatM K I μ H) (e : μ p = some m) : MRep K I H p m := (S.mu p m e).2
/-- what is mutable becomes fixed -/
theorem SatM.freeze {xs : List Dv} (S : SatM K I μ H) (e : μ p = some (.lst xs)) : ∃ vs, RepL K I xs vs ∧ Same I (upd I p (.lst vs)) ∧ SatM K (upd I p (.lst vs)) (mdel μ p) H := by
  obtain ⟨h1, vs, r, h2⟩ := S.mu p _ e
  refine ⟨vs, r, same_new h1, fun b u q => ?_, fun a n q => ?_⟩
  · by_cases hb : b = p
    · subst hb; rw [upd_same] at q; cases q; exact h2
    · rw [upd_ne hb] at q; exact S.ex b u q
  · by_cases ha : a = p
    · subst ha; rw [mdel_same] at q; cases q
    · rw [mdel_ne ha] at q
      obtain ⟨k1, k2⟩ := S.mu a n q
      exact ⟨by rw [upd_ne ha]; exact k1, k2.mono (same_new h1)⟩
end
end Wl

set_option Elab.async false
set_option linter.all false
set_option maxRecDepth 100000
set_option maxHeartbeats 2000000
namespace Wl
open PySem L2

/-! ## the context by its record, readings over deep values -/
abbrev DV := Dv → Mu → Prop
abbrev DE := DSt → Mu → DV → Prop
abbrev DT := DSt → Mu → (Bool → Mu → Prop) → Prop
abbrev DA := DSt → Mu → (List Dv → Mu → Prop) → Prop
abbrev DX := Addr → Option Addr → Mu → Prop
abbrev DXS := Addr → Option Addr → DSt → Mu → Prop
structure DEnds where
  nx : DSt → Mu → Prop
  rt : DV
  bk : DSt → Mu → Prop := fun _ _ => False
  ct : DSt → Mu → Prop := fun _ _ => False
abbrev DS := DEnds → DSt → Mu → Prop
abbrev DG := Dv → DSt → Mu → (DSt → Mu → Prop) → Prop
abbrev DGs := List Dv → DSt → Mu → (DSt → Mu → Prop) → Prop
abbrev D1 := Dv → Mu → DV → Prop
abbrev D2 := Dv → Dv → Mu → DV → Prop
abbrev DC := List Dv → Mu → DV → Prop
abbrev DM := Dv → List Dv → Mu → DV → Prop

structure Sg where
  P : Program
  w : World
  K : PySem.W.Frag
  mg : Str → Option Value
  base : Heap
  k : Nat
  N : List Str
  J : Hp
  W : WX
  E2 : DXS
  tr : ∀ I C d δ μ σ H, Same J I → SatM K I μ H → RepS K I δ σ → E2 C d δ μ → W (.ref C) d σ H
  cold : Bool
structure Is (S : Sg) (X : Cx) : Prop where
  prog : X.prog = S.P
  w : X.w = S.w
  K : X.K = S.K
  mg : X.mg = S.mg
  base : X.base = S.base
  N : X.N = S.N
  calm : S.cold = false → X.calm = true
  room : S.cold = false → Room S.k X.A
  tk : Takes X S.W
  own : PassesOwn (model X.prog X.w) X.A X.env X.xe
  units : X.A.units + 64 < cLine

def Up (K : PySem.W.Frag) (I : Hp) (Q : DV) (Q' : VK) : Prop := ∀ I' d v μ' H', Same I I' → SatM K I' μ' H' → Rep K I' d v → Q d μ' → Q' v H'
def UpT (K : PySem.W.Frag) (I : Hp) (Q : Bool → Mu → Prop) (Q' : Bool → Hp → Prop) : Prop := ∀ I' b μ' H', Same I I' → SatM K I' μ' H' → Q b μ' → Q' b H'
def UpA (K : PySem.W.Frag) (I : Hp) (Q : List Dv → Mu → Prop) (Q' : List V → Hp → Prop) : Prop := ∀ I' ds vs μ' H', Same I I' → SatM K I' μ' H' → RepL K I' ds vs → Q ds μ' → Q' vs H'
def UpS (K : PySem.W.Frag) (I : Hp) (Q : DSt → Mu → Prop) (Q' : St → Hp → Prop) : Prop := ∀ I' δ' σ' μ' H', Same I I' → SatM K I' μ' H' → RepS K I' δ' σ' → Q δ' μ' → Q' σ' H'
structure UpE (K : PySem.W.Frag) (I : Hp) (D : DEnds) (D' : Ends) : Prop where
  nx : UpS K I D.nx D'.nx
  rt : Up K I D.rt D'.rt
  bk : UpS K I D.bk D'.bk
  ct : UpS K I D.ct D'.ct
section
variable {K : PySem.W.Frag} {I I' : Hp}
theorem Up.mono {Q : DV} {Q' : VK} (s : Same I I') (u : Up K I Q Q') : Up K I' Q Q' := fun I2 d v μ H e => u I2 d v μ H (s.trans e)
theorem UpT.mono {Q : Bool → Mu → Prop} {Q' : Bool → Hp → Prop} (s : Same I I') (u : UpT K I Q Q') : UpT K I' Q Q' := fun I2 d μ H e => u I2 d μ H (s.trans e)
theorem UpS.mono {Q : DSt → Mu → Prop} {Q' : St → Hp → Prop} (s : Same I I') (u : UpS K I Q Q') : UpS K I' Q Q' := fun I2 d v μ H e => u I2 d v μ H (s.trans e)
theorem UpE.mono {D : DEnds} {D' : Ends} (s : Same I I') (u : UpE K I D D') : UpE K I' D D' := ⟨u.nx.mono s, u.rt.mono s, u.bk.mono s, u.ct.mono s⟩
end

def RE (S : Sg) (te : TE) (t : DE) : Prop := ∀ I δ μ σ H, Same S.J I → SatM S.K I μ H → RepS S.K I δ σ → ∀ Q Q', t δ μ Q → Up S.K I Q Q' → te σ H Q'
def RT (S : Sg) (tt : TT) (t : DT) : Prop := ∀ I δ μ σ H, Same S.J I → SatM S.K I μ H → RepS S.K I δ σ → ∀ Q Q', t δ μ Q → UpT S.K I Q Q' → tt σ H Q'
def RA (S : Sg) (ta : TA) (t : DA) : Prop := ∀ I δ μ σ H, Same S.J I → SatM S.K I μ H → RepS S.K I δ σ → ∀ Q Q', t δ μ Q → UpA S.K I Q Q' → ta σ H Q'
def RS (S : Sg) (ts : TS) (t : DS) : Prop := ∀ I δ μ σ H, Same S.J I → SatM S.K I μ H → RepS S.K I δ σ → ∀ D D', t D δ μ → UpE S.K I D D' → ts D' σ H
def RG (S : Sg) (g : TG) (t : DG) : Prop := ∀ I δ μ σ H d v, Same S.J I → SatM S.K I μ H → RepS S.K I δ σ → Rep S.K I d v → ∀ Q Q', t d δ μ Q → UpS S.K I Q Q' → g v σ H Q'
def RGs (S : Sg) (g : TGs) (t : DGs) : Prop := ∀ I δ μ σ H ds vs, Same S.J I → SatM S.K I μ H → RepS S.K I δ σ → RepL S.K I ds vs → ∀ Q Q', t ds δ μ Q → UpS S.K I Q Q' → g vs σ H Q'
def R2v (S : Sg) (r : R2) (f : D2) : Prop := ∀ I μ H, Same S.J I → SatM S.K I μ H → ∀ dx dy x y, Rep S.K I dx x → Rep S.K I dy y → ∀ Q Q', f dx dy μ Q → Up S.K I Q Q' → r x y H Q'
def R1v (S : Sg) (r : V → Hp → VK → Prop) (f : D1) : Prop := ∀ I μ H, Same S.J I → SatM S.K I μ H → ∀ dx x, Rep S.K I dx x → ∀ Q Q', f dx μ Q → Up S.K I Q Q' → r x H Q'
def RCv (S : Sg) (r : List V → Hp → VK → Prop) (f : DC) : Prop := ∀ I μ H, Same S.J I → SatM S.K I μ H → ∀ ds vs, RepL S.K I ds vs → ∀ Q Q', f ds μ Q → Up S.K I Q Q' → r vs H Q'
def RMv (S : Sg) (r : V → List V → Hp → VK → Prop) (f : DM) : Prop := ∀ I μ H, Same S.J I → SatM S.K I μ H → ∀ dx x ds vs, Rep S.K I dx x → RepL S.K I ds vs → ∀ Q Q', f dx ds μ Q → Up S.K I Q Q' → r x vs H Q'

section
variable (S : Sg) {ι : Type} (F : ι → Cx)
def WE (e : Expr) (t : DE) : Prop := ∃ te, (∀ i, Is S (F i) → PE (F i) e te) ∧ RE S te t
def WT (e : Expr) (t : DT) : Prop := ∃ te, (∀ i, Is S (F i) → PT (F i) e te) ∧ RT S te t
def WW (e : Expr) (t : DT) : Prop := ∃ te, (∀ i, Is S (F i) → PW (F i) e te) ∧ RT S te t
def WA (es : List Expr) (t : DA) : Prop := ∃ te, (∀ i, Is S (F i) → PA (F i) es te) ∧ RA S te t
def WS (st : Stmt) (t : DS) : Prop := ∃ te, (∀ i, Is S (F i) → PS (F i) st te) ∧ RS S te t
def WSs (st : List Stmt) (t : DS) : Prop := ∃ te, (∀ i, Is S (F i) → PSs (F i) st te) ∧ RS S te t
def WG (e : Expr) (t : DG) : Prop := ∃ te, (∀ i, Is S (F i) → PG (F i) e te) ∧ RG S te t
def WGs (es : List Expr) (t : DGs) : Prop := ∃ te, (∀ i, Is S (F i) → PGs (F i) es te) ∧ RGs S te t
/-- operations, by values; they may ask the room -/
def WO (f : Value → Value → Sem Value) (t : D2) : Prop := ∃ r, (∀ X, Is S X → OpR X f r) ∧ R2v S r t
def WU (f : Value → Sem Value) (t : D1) : Prop := ∃ r, (∀ X, Is S X → UnR X f r) ∧ R1v S r t
def WC (f : Value) (t : DC) : Prop := ∃ r, (∀ X, Is S X → CallR X f r) ∧ RCv S r t
end

/-! ## names and constants -/
section
variable {S : Sg} {ι : Type} {F : ι → Cx} {pos : Pos}
def vV (i : Nat) : DE := fun δ μ Q => ∃ d, δ[i]? = some (some d) ∧ Q d μ
def vC (d : Dv) : DE := fun _ μ Q => Q d μ
theorem we_var (i : Nat) {x : Str} (hN : S.N[i]? = some x := by rfl) (hv : ∀ j, Vis (F j).env.scope x := by first | exact fun _ => .inl rfl | exact fun _ => .inr (.inl rfl) | exact fun _ => .inr (.inr rfl))
    (hd : (x == ("__debug__" : Str)) = false := by decide) (hcd : (x == ("__classdict__" : Str)) = false := by decide) : WE S F (.Name x pos) (vV i) :=
  ⟨tVar i, fun j hj => pe_var (hj.N ▸ hN) (hv j) hd hcd, fun I δ μ σ H _ SM RS Q Q' ⟨d, e, q⟩ u => let ⟨v, h1, h2⟩ := RS.at_ i d e; ⟨v, h1, u I d v μ H (Same.refl I) SM h2 q⟩⟩
theorem re_c {d : Dv} {v : V} (h : ∀ I, Rep S.K I d v) : RE S (tC v) (vC d) := fun I δ μ σ H _ SM RS Q Q' q u => u I d v μ H (Same.refl I) SM (h I) q
theorem we_int {i : Int} {j} : WE S F (.Constant (.int i) j pos) (vC (.int i)) := ⟨_, fun _ _ => pe_int, re_c fun _ => .int i⟩
theorem we_bl {b : Bool} {j} : WE S F (.Constant (.bool b) j pos) (vC (.bl b)) := ⟨_, fun _ _ => pe_bl, re_c fun _ => .bl b⟩
theorem we_non {j} : WE S F (.Constant .none j pos) (vC .non) := ⟨_, fun _ _ => pe_non, re_c fun _ => .non⟩
theorem we_str {x : Str} {j} : WE S F (.Constant (.str x) j pos) (vC (.str x)) := ⟨_, fun _ _ => pe_str, re_c fun _ => .str x⟩
/-- a module's name that holds a number, a text, a class, a def .. -/
theorem we_glob {x : Str} {d : Dv} {v : V} {u : Value} (hm : S.mg x = some u) (r : RelV v u) (hr : ∀ I, Rep S.K I d v) (hg : ∀ j, Gl (F j) x := by exact fun _ => rfl) (hd : (x == ("__debug__" : Str)) = false := by decide) : WE S F (.Name x pos) (vC d) :=
  ⟨_, fun j hj => pe_glob (hg j) (hj.mg ▸ hm) r hd, re_c hr⟩
theorem we_bltn {x : Str} {d : Dv} {v : V} {u : Value} (hm : S.mg x = none) (hv : bootBuiltins x = some u) (r : RelV v u) (hr : ∀ I, Rep S.K I d v) (hg : ∀ j, Gl (F j) x := by exact fun _ => rfl) (hn : x ≠ "__name__" := by decide) (hd : (x == ("__debug__" : Str)) = false := by decide) :
    WE S F (.Name x pos) (vC d) := ⟨_, fun j hj => pe_bltn (hg j) (hj.mg ▸ hm) hv r hn hd, re_c hr⟩

/-! ## operations -/
def vOp (f : D2) (ta tb : DE) : DE := fun δ μ Q => ta δ μ fun x μ1 => tb δ μ1 fun y μ2 => f x y μ2 Q
def vUn (f : D1) (ta : DE) : DE := fun δ μ Q => ta δ μ fun x μ1 => f x μ1 Q
theorem re_op {r : R2} {f : D2} {ta tb : TE} {sa sb : DE} (hr : R2v S r f) (ha : RE S ta sa) (hb : RE S tb sb) : RE S (tOp r ta tb) (vOp f sa sb) := fun I δ μ σ H hJ SM hS Q Q' q u =>
  ha I δ μ σ H hJ SM hS _ _ q fun I1 x vx μ1 H1 e1 S1 r1 q1 =>
    hb I1 δ μ1 σ H1 (hJ.trans e1) S1 (hS.mono e1) _ _ q1 fun I2 y vy μ2 H2 e2 S2 r2 q2 =>
      hr I2 μ2 H2 ((hJ.trans e1).trans e2) S2 x y vx vy (Rep.mono e2 _ _ r1) r2 _ _ q2 (u.mono (e1.trans e2))
theorem re_un {r : V → Hp → VK → Prop} {f : D1} {ta : TE} {sa : DE} (hr : R1v S r f) (ha : RE S ta sa) : RE S (tUn r ta) (vUn f sa) := fun I δ μ σ H hJ SM hS Q Q' q u =>
  ha I δ μ σ H hJ SM hS _ _ q fun I1 x vx μ1 H1 e1 S1 r1 q1 => hr I1 μ1 H1 (hJ.trans e1) S1 x vx r1 _ _ q1 (u.mono e1)
theorem we_op {op : Operator} {f : D2} {a b : Expr} {sa sb : DE} (ho : WO S (binaryOp op) f) (ha : WE S F a sa) (hb : WE S F b sb) : WE S F (.BinOp a op b pos) (vOp f sa sb) :=
  let ⟨r, h1, h2⟩ := ho; let ⟨ta, a1, a2⟩ := ha; let ⟨tb, b1, b2⟩ := hb
  ⟨tOp r ta tb, fun i hi => pe_op (h1 _ hi) (a1 i hi) (b1 i hi), re_op h2 a2 b2⟩
theorem we_un {op : UnaryOp} {f : D1} {a : Expr} {sa : DE} (ho : WU S (unaryOp op) f) (ha : WE S F a sa) : WE S F (.UnaryOp op a pos) (vUn f sa) :=
  let ⟨r, h1, h2⟩ := ho; let ⟨ta, a1, a2⟩ := ha
  ⟨tUn r ta, fun i hi => pe_un (h1 _ hi) (a1 i hi), re_un h2 a2⟩
theorem we_cmp {op : CmpOp} {f : D2} {a b : Expr} {sa sb : DE} (ho : WO S (compareOp op) f) (ha : WE S F a sa) (hb : WE S F b sb) (hm : behindInMarks op b = false := by first | exact nobehind _ (by decide) (by decide) | rfl) : WE S F (.Compare a [op] [b] pos) (vOp f sa sb) :=
  let ⟨r, h1, h2⟩ := ho; let ⟨ta, a1, a2⟩ := ha; let ⟨tb, b1, b2⟩ := hb
  ⟨tOp r ta tb, fun i hi => pe_cmpR (h1 _ hi) (a1 i hi) (b1 i hi) hm, re_op h2 a2 b2⟩
/-! tests -/
def vTest (t : DE) : DT := fun δ μ Q => t δ μ fun x μ1 => match x with | .bl k => Q k μ1 | _ => False
theorem rt_test {te : TE} {t : DE} (h : RE S te t) : RT S (tTest te) (vTest t) := fun I δ μ σ H hJ SM hS Q Q' q u =>
  h I δ μ σ H hJ SM hS _ _ q fun I1 x vx μ1 H1 e1 S1 r1 q1 => by
    cases r1 <;> first | exact False.elim q1 | exact ⟨_, rfl, u I1 _ μ1 H1 e1 S1 q1⟩
theorem wt_cmp {op : CmpOp} {f : D2} {a b : Expr} {sa sb : DE} (ho : WO S (compareOp op) f) (ha : WE S F a sa) (hb : WE S F b sb) (hm : behindInMarks op b = false := by first | exact nobehind _ (by decide) (by decide) | rfl) : WT S F (.Compare a [op] [b] pos) (vTest (vOp f sa sb)) :=
  let ⟨r, h1, h2⟩ := ho; let ⟨ta, a1, a2⟩ := ha; let ⟨tb, b1, b2⟩ := hb
  ⟨_, fun i hi => pt_cmpR (h1 _ hi) (a1 i hi) (b1 i hi) hm, rt_test (re_op h2 a2 b2)⟩
def vChain (f f' : D2) (ta tb tc : DE) : DE := fun δ μ Q => ta δ μ fun x μ1 => tb δ μ1 fun y μ2 => f x y μ2 fun z μ3 => match z with
  | .bl true => tc δ μ3 fun w' μ4 => f' y w' μ4 Q
  | .bl false => Q (.bl false) μ3
  | _ => False
theorem re_chain {r r' : R2} {f f' : D2} {ta tb tc : TE} {sa sb sc : DE} (hr : R2v S r f) (hr' : R2v S r' f') (ha : RE S ta sa) (hb : RE S tb sb) (hc : RE S tc sc) : RE S (tChain r r' ta tb tc) (vChain f f' sa sb sc) := fun I δ μ σ H hJ SM hS Q Q' q u =>
  ha I δ μ σ H hJ SM hS _ _ q fun I1 x vx μ1 H1 e1 S1 r1 q1 =>
    hb I1 δ μ1 σ H1 (hJ.trans e1) S1 (hS.mono e1) _ _ q1 fun I2 y vy μ2 H2 e2 S2 r2 q2 =>
      hr I2 μ2 H2 ((hJ.trans e1).trans e2) S2 x y vx vy (Rep.mono e2 _ _ r1) r2 _ _ q2 fun I3 z vz μ3 H3 e3 S3 r3 q3 => by
        cases r3 <;> first
          | exact False.elim q3
          | (rename_i b
             refine ⟨b, rfl, ?_⟩
             cases b with
             | true =>
               rw [if_pos rfl]
               exact hc I3 δ μ3 σ H3 (((hJ.trans e1).trans e2).trans e3) S3 (hS.mono ((e1.trans e2).trans e3)) _ _ q3 fun I4 w' vw μ4 H4 e4 S4 r4 q4 =>
                 hr' I4 μ4 H4 ((((hJ.trans e1).trans e2).trans e3).trans e4) S4 y w' vy vw (Rep.mono (e3.trans e4) _ _ r2) r4 _ _ q4 (u.mono (((e1.trans e2).trans e3).trans e4))
             | false =>
               rw [if_neg Bool.false_ne_true]
               exact u I3 _ _ μ3 H3 ((e1.trans e2).trans e3) S3 (.bl false) q3)
theorem we_chain {op op' : CmpOp} {f f' : D2} {a b c : Expr} {sa sb sc : DE} (ho : WO S (compareOp op) f) (ho' : WO S (compareOp op') f') (ha : WE S F a sa) (hb : WE S F b sb) (hc : WE S F c sc) (hm : lastMarks [op, op'] [b, c] = false := by with_unfolding_all rfl) :
    WE S F (.Compare a [op, op'] [b, c] pos) (vChain f f' sa sb sc) :=
  let ⟨r, h1, h2⟩ := ho; let ⟨r', h1', h2'⟩ := ho'; let ⟨ta, a1, a2⟩ := ha; let ⟨tb, b1, b2⟩ := hb; let ⟨tc, c1, c2⟩ := hc
  ⟨_, fun i hi => pe_chain (h1 _ hi) (h1' _ hi) (a1 i hi) (b1 i hi) (c1 i hi) hm, re_chain h2 h2' a2 b2 c2⟩
theorem wt_chain {op op' : CmpOp} {f f' : D2} {a b c : Expr} {sa sb sc : DE} (ho : WO S (compareOp op) f) (ho' : WO S (compareOp op') f') (ha : WE S F a sa) (hb : WE S F b sb) (hc : WE S F c sc) (hm : lastMarks [op, op'] [b, c] = false := by with_unfolding_all rfl) :
    WT S F (.Compare a [op, op'] [b, c] pos) (vTest (vChain f f' sa sb sc)) :=
  let ⟨r, h1, h2⟩ := ho; let ⟨r', h1', h2'⟩ := ho'; let ⟨ta, a1, a2⟩ := ha; let ⟨tb, b1, b2⟩ := hb; let ⟨tc, c1, c2⟩ := hc
  ⟨_, fun i hi => pt_chain (h1 _ hi) (h1' _ hi) (a1 i hi) (b1 i hi) (c1 i hi) hm, rt_test (re_chain h2 h2' a2 b2 c2)⟩
/-- a value's truth -/
def gTru (x : Dv) (μ : Mu) (Q : Bool → Prop) : Prop := match x with
  | .non => Q false
  | .bl b => Q b
  | .int i => Q (i != 0)
  | .str y => y.length ≤ sizeLine ∧ Q ((y.length : Int) != 0)
  | .tup xs => Q (!xs.isEmpty)
  | .rot xs => Q (!xs.isEmpty)
  | .lst xs => Q (!xs.isEmpty)
  | .rol xs => Q (!xs.isEmpty)
  | .ref p => match μ p with
    | some (.lst xs) => Q (!xs.isEmpty)
    | some (.dK kvs) => Q (!kvs.isEmpty)
    | _ => False
  | _ => False
theorem RepL.isEmpty {K : PySem.W.Frag} {I : Hp} {ds : List Dv} {vs : List V} (r : RepL K I ds vs) : ds.isEmpty = vs.isEmpty := by cases r <;> rfl
theorem RepP.isEmpty {K : PySem.W.Frag} {I : Hp} {κ : Type} {ds : List (κ × Dv)} {vs : List (κ × V)} (r : RepP K I ds vs) : ds.isEmpty = vs.isEmpty := by cases r <;> rfl
theorem gTru_ok {K : PySem.W.Frag} {I H : Hp} {μ : Mu} (SM : SatM K I μ H) {d : Dv} {v : V} (r : Rep K I d v) {Q : Bool → Prop} (q : gTru d μ Q) : ∃ k, TruV K v H k ∧ Q k := by
  cases r with
  | non => exact ⟨_, rfl, q⟩
  | bl b => exact ⟨_, rfl, q⟩
  | int i => exact ⟨_, rfl, q⟩
  | str x => exact ⟨_, ⟨q.1, rfl⟩, q.2⟩
  | byt x => exact q.elim
  | ty n => exact q.elim
  | tup h1 h2 => exact ⟨_, .inr (.inl ⟨_, .inl (.inl (SM.ex _ _ h1)), rfl⟩), by rw [← h2.isEmpty]; exact q⟩
  | rot h1 h2 => exact ⟨_, .inr (.inl ⟨_, same_t SM.ex h1, rfl⟩), by rw [← h2.isEmpty]; exact q⟩
  | lst h1 h2 => exact ⟨_, .inl ⟨_, .inl (.inl (SM.ex _ _ h1)), rfl⟩, by rw [← h2.isEmpty]; exact q⟩
  | rol h1 h2 => exact ⟨_, .inl ⟨_, same_l SM.ex h1, rfl⟩, by rw [← h2.isEmpty]; exact q⟩
  | ref a =>
    unfold gTru at q
    cases e : μ a with
    | none => simp only [e] at q
    | some m =>
      have hm := SM.memo e
      cases m with
      | lst xs => simp only [e] at q; obtain ⟨vs, r, h⟩ := hm; exact ⟨_, .inl ⟨_, .inl (.inl h), rfl⟩, by rw [← r.isEmpty]; exact q⟩
      | dK kvs => simp only [e] at q; obtain ⟨vs, r, h⟩ := hm; exact ⟨_, .inr (.inr ⟨_, h, rfl⟩), by rw [← r.isEmpty]; exact q⟩
      | _ => simp only [e] at q
def vTru (t : DE) : DT := fun δ μ Q => t δ μ fun x μ1 => gTru x μ1 fun b => Q b μ1
theorem wt_tru {a : Expr} {sa : DE} (ha : WE S F a sa) (he : ∀ env, ∀ whole, isTrue a env whole = (do let v ← whole; standAt a.pos; holding [v] (truthy v)) := by exact fun _ _ => rfl) : WT S F a (vTru sa) :=
  let ⟨ta, a1, a2⟩ := ha
  ⟨fun σ H Q => ta σ H fun x H' => ∃ k, TruV S.K x H' k ∧ Q k H', fun i hi => by have h := pt_truth (a1 i hi) (he _); rw [hi.K] at h; exact h, fun I δ μ σ H hJ SM hS Q Q' q u =>
    a2 I δ μ σ H hJ SM hS _ _ q fun I1 x vx μ1 H1 e1 S1 r1 q1 => let ⟨k, h1, h2⟩ := gTru_ok S1 r1 q1; ⟨k, h1, u I1 k μ1 H1 e1 S1 h2⟩⟩
def vNot (t : DT) : DT := fun δ μ Q => t δ μ fun b μ1 => Q (!b) μ1
theorem wt_not {a : Expr} {sa : DT} (ha : WT S F a sa) : WT S F (.UnaryOp .Not a pos) (vNot sa) :=
  let ⟨ta, a1, a2⟩ := ha
  ⟨_, fun i hi => pt_not (a1 i hi), fun I δ μ σ H hJ SM hS Q Q' q u => a2 I δ μ σ H hJ SM hS _ _ q fun I1 b μ1 H1 e1 S1 q1 => u I1 _ μ1 H1 e1 S1 q1⟩
def vAnd (t s : DT) : DT := fun δ μ Q => t δ μ fun b μ1 => if b = true then s δ μ1 Q else Q false μ1
def vOr (t s : DT) : DT := fun δ μ Q => t δ μ fun b μ1 => if b = true then Q true μ1 else s δ μ1 Q
theorem ww_and1 {a : Expr} {sa : DT} (ha : WT S F a sa) : WW S F (.BoolOp .And [a] pos) sa := let ⟨ta, a1, a2⟩ := ha; ⟨_, fun i hi => pw_and1 (a1 i hi), a2⟩
theorem ww_or1 {a : Expr} {sa : DT} (ha : WT S F a sa) : WW S F (.BoolOp .Or [a] pos) sa := let ⟨ta, a1, a2⟩ := ha; ⟨_, fun i hi => pw_or1 (a1 i hi), a2⟩
theorem rt_and {ta tb : TT} {sa sb : DT} (a2 : RT S ta sa) (b2 : RT S tb sb) : RT S (tAnd ta tb) (vAnd sa sb) := fun I δ μ σ H hJ SM hS Q Q' q u =>
  a2 I δ μ σ H hJ SM hS _ _ q fun I1 b μ1 H1 e1 S1 q1 => by
    cases b with
    | true => rw [if_pos rfl] at q1 ⊢; exact b2 I1 δ μ1 σ H1 (hJ.trans e1) S1 (hS.mono e1) _ _ q1 (u.mono e1)
    | false => rw [if_neg Bool.false_ne_true] at q1 ⊢; exact u I1 _ μ1 H1 e1 S1 q1
theorem rt_or {ta tb : TT} {sa sb : DT} (a2 : RT S ta sa) (b2 : RT S tb sb) : RT S (tOr ta tb) (vOr sa sb) := fun I δ μ σ H hJ SM hS Q Q' q u =>
  a2 I δ μ σ H hJ SM hS _ _ q fun I1 b μ1 H1 e1 S1 q1 => by
    cases b with
    | true => rw [if_pos rfl] at q1 ⊢; exact u I1 _ μ1 H1 e1 S1 q1
    | false => rw [if_neg Bool.false_ne_true] at q1 ⊢; exact b2 I1 δ μ1 σ H1 (hJ.trans e1) S1 (hS.mono e1) _ _ q1 (u.mono e1)
theorem ww_and {a b : Expr} {rest : List Expr} {sa sb : DT} (ha : WT S F a sa) (hb : WW S F (.BoolOp .And (b :: rest) pos) sb) : WW S F (.BoolOp .And (a :: b :: rest) pos) (vAnd sa sb) :=
  let ⟨ta, a1, a2⟩ := ha; let ⟨tb, b1, b2⟩ := hb
  ⟨_, fun i hi => pw_and (a1 i hi) (b1 i hi), rt_and a2 b2⟩
theorem ww_or {a b : Expr} {rest : List Expr} {sa sb : DT} (ha : WT S F a sa) (hb : WW S F (.BoolOp .Or (b :: rest) pos) sb) : WW S F (.BoolOp .Or (a :: b :: rest) pos) (vOr sa sb) :=
  let ⟨ta, a1, a2⟩ := ha; let ⟨tb, b1, b2⟩ := hb
  ⟨_, fun i hi => pw_or (a1 i hi) (b1 i hi), rt_or a2 b2⟩
theorem wt_bool {e : Expr} {t : DT} (h : WW S F e t) : WT S F e t := let ⟨te, h1, h2⟩ := h; ⟨te, fun i hi => (h1 i hi).pt, h2⟩
/-! as values -/
def vTruth (x : Dv) (Q : Bool → Prop) : Prop := match x with | .bl b => Q b | _ => False
def vAndV (ta tb : DE) : DE := fun δ μ Q => ta δ μ fun x μ1 => vTruth x fun c => if c = true then tb δ μ1 Q else Q (.bl false) μ1
def vOrV (ta tb : DE) : DE := fun δ μ Q => ta δ μ fun x μ1 => vTruth x fun c => if c = true then Q (.bl true) μ1 else tb δ μ1 Q
def vNotV (ta : DE) : DE := fun δ μ Q => ta δ μ fun x μ1 => vTruth x fun c => Q (.bl (!c)) μ1
theorem vTruth_ok {K : PySem.W.Frag} {I : Hp} {d : Dv} {v : V} (r : Rep K I d v) {Q : Bool → Prop} (q : vTruth d Q) : ∃ c, v = .bl c ∧ Q c := by
  cases r <;> first | exact False.elim q | exact ⟨_, rfl, q⟩
theorem we_one {op : BoolOp} {a : Expr} {t : DE} (h : WE S F a t) : WE S F (.BoolOp op [a] pos) t := let ⟨te, h1, h2⟩ := h; ⟨te, fun i hi => pe_one (h1 i hi), h2⟩
theorem we_and {a b : Expr} {rest : List Expr} {sa sb : DE} (ha : WE S F a sa) (hb : WE S F (.BoolOp .And (b :: rest) pos) sb) : WE S F (.BoolOp .And (a :: b :: rest) pos) (vAndV sa sb) :=
  let ⟨ta, a1, a2⟩ := ha; let ⟨tb, b1, b2⟩ := hb
  ⟨_, fun i hi => pe_and (a1 i hi) (b1 i hi), fun I δ μ σ H hJ SM hS Q Q' q u => a2 I δ μ σ H hJ SM hS _ _ q fun I1 x vx μ1 H1 e1 S1 r1 q1 => by
    obtain ⟨c, ec, q2⟩ := vTruth_ok r1 q1
    refine ⟨c, ec, ?_⟩
    cases c with
    | true => rw [if_pos rfl] at q2 ⊢; exact b2 I1 δ μ1 σ H1 (hJ.trans e1) S1 (hS.mono e1) _ _ q2 (u.mono e1)
    | false => rw [if_neg Bool.false_ne_true] at q2 ⊢; exact u I1 _ _ μ1 H1 e1 S1 (.bl _) q2⟩
theorem we_or {a b : Expr} {rest : List Expr} {sa sb : DE} (ha : WE S F a sa) (hb : WE S F (.BoolOp .Or (b :: rest) pos) sb) : WE S F (.BoolOp .Or (a :: b :: rest) pos) (vOrV sa sb) :=
  let ⟨ta, a1, a2⟩ := ha; let ⟨tb, b1, b2⟩ := hb
  ⟨_, fun i hi => pe_or (a1 i hi) (b1 i hi), fun I δ μ σ H hJ SM hS Q Q' q u => a2 I δ μ σ H hJ SM hS _ _ q fun I1 x vx μ1 H1 e1 S1 r1 q1 => by
    obtain ⟨c, ec, q2⟩ := vTruth_ok r1 q1
    refine ⟨c, ec, ?_⟩
    cases c with
    | false => rw [if_neg Bool.false_ne_true] at q2 ⊢; exact b2 I1 δ μ1 σ H1 (hJ.trans e1) S1 (hS.mono e1) _ _ q2 (u.mono e1)
    | true => rw [if_pos rfl] at q2 ⊢; exact u I1 _ _ μ1 H1 e1 S1 (.bl _) q2⟩
theorem we_not {a : Expr} {sa : DE} (ha : WE S F a sa) : WE S F (.UnaryOp .Not a pos) (vNotV sa) :=
  let ⟨ta, a1, a2⟩ := ha
  ⟨_, fun i hi => pe_not (a1 i hi), fun I δ μ σ H hJ SM hS Q Q' q u => a2 I δ μ σ H hJ SM hS _ _ q fun I1 x vx μ1 H1 e1 S1 r1 q1 => by
    obtain ⟨c, ec, q2⟩ := vTruth_ok r1 q1
    exact ⟨c, ec, u I1 _ _ μ1 H1 e1 S1 (.bl _) q2⟩⟩
def vIf (c : DT) (ta tb : DE) : DE := fun δ μ Q => c δ μ fun b μ1 => if b = true then ta δ μ1 Q else tb δ μ1 Q
theorem we_if {c a b : Expr} {sc : DT} {sa sb : DE} (hc : WT S F c sc) (ha : WE S F a sa) (hb : WE S F b sb) : WE S F (.IfExp c a b pos) (vIf sc sa sb) :=
  let ⟨tc, c1, c2⟩ := hc; let ⟨ta, a1, a2⟩ := ha; let ⟨tb, b1, b2⟩ := hb
  ⟨_, fun i hi => pe_ifExp (c1 i hi) (a1 i hi) (b1 i hi), fun I δ μ σ H hJ SM hS Q Q' q u => c2 I δ μ σ H hJ SM hS _ _ q fun I1 b μ1 H1 e1 S1 q1 => by
    cases b with
    | true => rw [if_pos rfl] at q1 ⊢; exact a2 I1 δ μ1 σ H1 (hJ.trans e1) S1 (hS.mono e1) _ _ q1 (u.mono e1)
    | false => rw [if_neg Bool.false_ne_true] at q1 ⊢; exact b2 I1 δ μ1 σ H1 (hJ.trans e1) S1 (hS.mono e1) _ _ q1 (u.mono e1)⟩

/-! ## arguments, displays -/
def vNil : DA := fun _ μ Q => Q [] μ
def vCons (t : DE) (r : DA) : DA := fun δ μ Q => t δ μ fun x μ1 => r δ μ1 fun xs μ2 => Q (x :: xs) μ2
theorem wa_nil : WA S F [] vNil := ⟨_, fun _ _ => pa_nil, fun I δ μ σ H hJ SM hS Q Q' q u => u I [] [] μ H (Same.refl I) SM .nil q⟩
theorem wa_cons {e : Expr} {es : List Expr} {t : DE} {r : DA} (he : WE S F e t) (hr : WA S F es r) (hs : ∀ env, starEach (e :: es) env = (false, eval e env) :: starEach es env := by exact fun _ => rfl) : WA S F (e :: es) (vCons t r) :=
  let ⟨ta, a1, a2⟩ := he; let ⟨tb, b1, b2⟩ := hr
  ⟨_, fun i hi => pa_cons (a1 i hi) (b1 i hi) (hs _), fun I δ μ σ H hJ SM hS Q Q' q u => a2 I δ μ σ H hJ SM hS _ _ q fun I1 x vx μ1 H1 e1 S1 r1 q1 =>
    b2 I1 δ μ1 σ H1 (hJ.trans e1) S1 (hS.mono e1) _ _ q1 fun I2 ds vs μ2 H2 e2 S2 r2 q2 => u I2 _ _ μ2 H2 (e1.trans e2) S2 (.cons (Rep.mono e2 _ _ r1) r2) q2⟩
def vTup (t : DA) : DE := fun δ μ Q => t δ μ fun xs μ1 => xs.length ≤ sizeLine ∧ Q (.tup xs) μ1
def vLst (t : DA) : DE := fun δ μ Q => t δ μ fun xs μ1 => xs.length ≤ sizeLine ∧ Q (.lst xs) μ1
/-- a list that will change -/
def vLstM (t : DA) : DE := fun δ μ Q => t δ μ fun xs μ1 => xs.length ≤ sizeLine ∧ ∀ p, μ1 p = none → Q (.ref p) (mset μ1 p (.lst xs))
theorem we_tup {es : List Expr} {t : DA} {x1} (h : WA S F es t) : WE S F (.Tuple es x1 pos) (vTup t) :=
  let ⟨ta, a1, a2⟩ := h
  ⟨_, fun i hi => pe_tup (a1 i hi), fun I δ μ σ H hJ SM hS Q Q' q u => a2 I δ μ σ H hJ SM hS _ _ q fun I1 ds vs μ1 H1 e1 S1 r1 q1 => ⟨r1.length ▸ q1.1, fun p hp => by
    obtain ⟨s1, s2⟩ := S1.newI hp (.tup vs)
    exact u _ _ _ μ1 _ (e1.trans s1) s2 (.tup upd_same (RepL.mono s1 _ _ r1)) q1.2⟩⟩
theorem we_lst {es : List Expr} {t : DA} (h : WA S F es t) : WE S F (.List es pos) (vLst t) :=
  let ⟨ta, a1, a2⟩ := h
  ⟨_, fun i hi => pe_lst (a1 i hi), fun I δ μ σ H hJ SM hS Q Q' q u => a2 I δ μ σ H hJ SM hS _ _ q fun I1 ds vs μ1 H1 e1 S1 r1 q1 => ⟨r1.length ▸ q1.1, fun p hp => by
    obtain ⟨s1, s2⟩ := S1.newI hp (.lst vs)
    exact u _ _ _ μ1 _ (e1.trans s1) s2 (.lst upd_same (RepL.mono s1 _ _ r1)) q1.2⟩⟩
theorem SatM.muNone {K : PySem.W.Frag} {I H : Hp} {μ : Mu} {p : Addr} (S1 : SatM K I μ H) (hp : H p = none) : μ p = none := by
  cases e : μ p with
  | none => rfl
  | some m => obtain ⟨o, ho⟩ := (S1.memo e).some; rw [hp] at ho; cases ho
theorem we_lstM {es : List Expr} {t : DA} (h : WA S F es t) : WE S F (.List es pos) (vLstM t) :=
  let ⟨ta, a1, a2⟩ := h
  ⟨_, fun i hi => pe_lst (a1 i hi), fun I δ μ σ H hJ SM hS Q Q' q u => a2 I δ μ σ H hJ SM hS _ _ q fun I1 ds vs μ1 H1 e1 S1 r1 q1 => ⟨r1.length ▸ q1.1, fun p hp =>
    u I1 _ _ _ _ e1 (S1.setM (m := .lst ds) (S1.ex.free hp) ⟨vs, r1, upd_same⟩) (.ref p) (q1.2 p (S1.muNone hp))⟩⟩
end
end Wl

set_option Elab.async false
set_option linter.all false
set_option maxRecDepth 100000
set_option maxHeartbeats 2000000
namespace Wl
open PySem L2

/-! ## operations by value -/
theorem OpR.or2 {X : Cx} {f : Value → Value → Sem Value} {r r' : R2} (h : OpR X f r) (h' : OpR X f r') : OpR X f (fun x y H Q => r x y H Q ∨ r' x y H Q) := by
  intro pins s σ H x y v u Q I rx ry q
  rcases q with q | q
  · exact h pins s σ H x y v u Q I rx ry q
  · exact h' pins s σ H x y v u Q I rx ry q
theorem CallR.or2 {X : Cx} {f : Value} {r r' : List V → Hp → VK → Prop} (h : CallR X f r) (h' : CallR X f r') : CallR X f (fun xs H Q => r xs H Q ∨ r' xs H Q) := by
  intro pins s σ H xs us Q I rs q
  rcases q with q | q
  · exact h pins s σ H xs us Q I rs q
  · exact h' pins s σ H xs us Q I rs q
section
variable {S : Sg}
def gAdd : D2
  | .int i, .int j, μ, Q => Q (.int (i + j)) μ
  | .str i, .str j, μ, Q => i.length + j.length ≤ sizeLine ∧ Q (.str (i ++ j)) μ
  | .tup xs, .tup ys, μ, Q => xs.length + ys.length ≤ sizeLine ∧ Q (.tup (xs ++ ys)) μ
  | .lst xs, .lst ys, μ, Q => xs.length + ys.length ≤ sizeLine ∧ Q (.lst (xs ++ ys)) μ
  | _, _, _, _ => False
theorem wo_add : WO S (binaryOp .Add) gAdd := by
  refine ⟨fun x y H Q => (rI0 (fun i j => .int (i + j)) x y H Q ∨ (∃ i j, x = .str i ∧ y = .str j ∧ i.length + j.length ≤ sizeLine ∧ Q (.str (i ++ j)) H)) ∨ (rCatA S.K x y H Q ∨ rCat x y H Q),
    fun X hX => OpR.or2 (OpR.or2 op_add op_add_str) (OpR.or2 (hX.K ▸ op_catA) op_cat), ?_⟩
  intro I μ H _ SM dx dy x y rx ry Q Q' q u
  cases rx <;> cases ry <;> first | exact False.elim q | skip
  · exact .inl (.inl ⟨_, _, rfl, rfl, u I _ _ μ H (Same.refl I) SM (.int _) q⟩)
  · exact .inl (.inr ⟨_, _, rfl, rfl, q.1, u I _ _ μ H (Same.refl I) SM (.str _) q.2⟩)
  · rename_i a vs xs h1 h2 b us ys k1 k2
    refine .inr (.inl ⟨_, _, _, _, rfl, rfl, .inl (.inl (SM.ex _ _ h1)), .inl (.inl (SM.ex _ _ k1)), by rw [← h2.length, ← k2.length]; exact q.1, ?_⟩)
    have r := h2.append k2
    refine ⟨fun e => u I _ _ μ H (Same.refl I) SM ?_ q.2, fun _ e => u I _ _ μ H (Same.refl I) SM ?_ q.2, fun e1 e2 p hp => ?_⟩
    · subst e
      exact .tup k1 r
    · subst e
      exact .tup h1 (by rw [List.append_nil] at r; exact r)
    · obtain ⟨s1, s2⟩ := SM.newI hp (.tup (vs ++ us))
      exact u _ _ _ μ _ s1 s2 (.tup upd_same (RepL.mono s1 _ _ r)) q.2
  · rename_i a vs xs h1 h2 b us ys k1 k2
    refine .inr (.inr ⟨_, _, _, _, rfl, rfl, SM.ex _ _ h1, SM.ex _ _ k1, by rw [← h2.length, ← k2.length]; exact q.1, fun p hp => ?_⟩)
    obtain ⟨s1, s2⟩ := SM.newI hp (.lst (vs ++ us))
    exact u _ _ _ μ _ s1 s2 (.lst upd_same (RepL.mono s1 _ _ (h2.append k2))) q.2
def gI (C : Int → Int → Prop) (g : Int → Int → Dv) : D2
  | .int i, .int j, μ, Q => C i j ∧ Q (g i j) μ
  | _, _, _, _ => False
theorem wo_int {f : Value → Value → Sem Value} {C : Int → Int → Prop} {g : Int → Int → V} {g' : Int → Int → Dv} (h : ∀ X, OpR X f (rI C g)) (hg : ∀ I i j, Rep S.K I (g' i j) (g i j)) : WO S f (gI C g') := by
  refine ⟨_, fun X _ => h X, ?_⟩
  intro I μ H _ SM dx dy x y rx ry Q Q' q u
  cases rx <;> cases ry <;> first | exact False.elim q | skip
  exact ⟨_, _, rfl, rfl, q.1, u I _ _ μ H (Same.refl I) SM (hg I _ _) q.2⟩
def gI0 (g : Int → Int → Dv) : D2
  | .int i, .int j, μ, Q => Q (g i j) μ
  | _, _, _, _ => False
theorem wo_int0 {f : Value → Value → Sem Value} {g : Int → Int → V} {g' : Int → Int → Dv} (h : ∀ X, OpR X f (rI0 g)) (hg : ∀ I i j, Rep S.K I (g' i j) (g i j)) : WO S f (gI0 g') := by
  refine ⟨_, fun X _ => h X, ?_⟩
  intro I μ H _ SM dx dy x y rx ry Q Q' q u
  cases rx <;> cases ry <;> first | exact False.elim q | skip
  exact ⟨_, _, rfl, rfl, u I _ _ μ H (Same.refl I) SM (hg I _ _) q⟩
def gSub : D2 := gI0 fun i j => .int (i - j)
def gMul : D2 := gI CMul fun i j => .int (i * j)
def gFdiv : D2 := gI CDiv fun i j => .int (i / j)
def gMod : D2 := gI (fun _ j => 0 < j) fun i j => .int (i % j)
def gPow : D2 := gI CPow fun i j => .int (i ^ j.toNat)
def gLt : D2 := gI0 fun i j => .bl (decide (i < j))
def gLe : D2 := gI0 fun i j => .bl (decide (i ≤ j))
def gGt : D2 := gI0 fun i j => .bl (decide (j < i))
def gGe : D2 := gI0 fun i j => .bl (decide (j ≤ i))
theorem wo_sub : WO S (binaryOp .Sub) gSub := wo_int0 (fun _ => op_sub) fun _ _ _ => .int _
theorem wo_mul : WO S (binaryOp .Mult) gMul := wo_int (fun _ => op_mul) fun _ _ _ => .int _
theorem wo_fdiv : WO S (binaryOp .FloorDiv) gFdiv := wo_int (fun _ => op_fdiv) fun _ _ _ => .int _
theorem wo_mod : WO S (binaryOp .Mod) gMod := wo_int (fun _ => op_mod) fun _ _ _ => .int _
theorem wo_pow : WO S (binaryOp .Pow) gPow := wo_int (fun _ => op_pow) fun _ _ _ => .int _
theorem wo_lt : WO S (compareOp .Lt) gLt := wo_int0 (fun _ => op_lt) fun _ _ _ => .bl _
theorem wo_le : WO S (compareOp .LtE) gLe := wo_int0 (fun _ => op_le) fun _ _ _ => .bl _
theorem wo_gt : WO S (compareOp .Gt) gGt := wo_int0 (fun _ => op_gt) fun _ _ _ => .bl _
theorem wo_ge : WO S (compareOp .GtE) gGe := wo_int0 (fun _ => op_ge) fun _ _ _ => .bl _
def gNeg : D1
  | .int i, μ, Q => Q (.int (-i)) μ
  | _, _, _ => False
theorem wu_neg : WU S (unaryOp .USub) gNeg := by
  refine ⟨_, fun X _ => un_neg, ?_⟩
  intro I μ H _ SM dx x rx Q Q' q u
  cases rx <;> first | exact False.elim q | exact ⟨_, rfl, u I _ _ μ H (Same.refl I) SM (.int _) q⟩

/-! ### data: equality, membership -/
mutual
def Dv.pd : Dv → PyData
  | .bl b => .bool b
  | .int i => .int i
  | .str x => .str x
  | .tup xs => .tuple (Dv.pds xs)
  | .rot xs => .tuple (Dv.pds xs)
  | .lst xs => .list (Dv.pds xs)
  | .rol xs => .list (Dv.pds xs)
  | _ => .none
def Dv.pds : List Dv → List PyData
  | [] => []
  | x :: xs => x.pd :: Dv.pds xs
end
mutual
/-- plain data -/
def Dv.isD : Dv → Bool
  | .non => true
  | .bl _ => true
  | .int _ => true
  | .str _ => true
  | .tup xs => Dv.areD xs
  | .rot xs => Dv.areD xs
  | .lst xs => Dv.areD xs
  | .rol xs => Dv.areD xs
  | _ => false
def Dv.areD : List Dv → Bool
  | [] => true
  | x :: xs => x.isD && Dv.areD xs
end
theorem Dv.pds_length : ∀ xs : List Dv, (Dv.pds xs).length = xs.length
  | [] => rfl
  | _ :: xs => by simp [Dv.pds, Dv.pds_length xs]
theorem Dv.pds_map (xs : List Dv) : Dv.pds xs = xs.map Dv.pd := by
  induction xs with
  | nil => rfl
  | cons x xs ih => simp [Dv.pds, ih]
section
variable {K : PySem.W.Frag} {I H : Hp} {μ : Mu}
mutual
theorem Rep.dp (s : Same I H) : ∀ (d : Dv) (v : V), d.isD = true → Rep K I d v → Dp K H v d.pd
  | .non, _, _, h => by cases h; exact .non
  | .bl b, _, _, h => by cases h; exact .bl b
  | .int i, _, _, h => by cases h; exact .int i
  | .str x, _, _, h => by cases h; exact .str x
  | .tup xs, _, e, h => by
    cases h with
    | tup h1 h2 => exact .tup (.inl (.inl (s _ _ h1))) (RepL.dp s xs _ (by simpa [Dv.isD] using e) h2)
  | .rot xs, _, e, h => by
    cases h with
    | rot h1 h2 => exact .tup (same_t s h1) (RepL.dp s xs _ (by simpa [Dv.isD] using e) h2)
  | .lst xs, _, e, h => by
    cases h with
    | lst h1 h2 => exact .lst (.inl (.inl (s _ _ h1))) (RepL.dp s xs _ (by simpa [Dv.isD] using e) h2)
  | .rol xs, _, e, h => by
    cases h with
    | rol h1 h2 => exact .lst (same_l s h1) (RepL.dp s xs _ (by simpa [Dv.isD] using e) h2)
  | .ref _, _, e, _ => by simp [Dv.isD] at e
  | .ty _, _, e, _ => by simp [Dv.isD] at e
  | .byt _, _, e, _ => by simp [Dv.isD] at e
theorem RepL.dp (s : Same I H) : ∀ (ds : List Dv) (vs : List V), Dv.areD ds = true → RepL K I ds vs → DpAll K H vs (Dv.pds ds)
  | [], _, _, h => by cases h; exact .nil
  | d :: ds, _, e, h => by
    cases h with
    | cons h1 h2 =>
      have e2 : d.isD = true ∧ Dv.areD ds = true := by simpa [Dv.areD] using e
      exact .cons (Rep.dp s d _ e2.1 h1) (RepL.dp s ds _ e2.2 h2)
end
end
mutual
theorem Dv.plain : ∀ d : Dv, d.pd.plain = true
  | .non => by simp [Dv.pd, PyData.plain]
  | .bl _ => by simp [Dv.pd, PyData.plain]
  | .int _ => by simp [Dv.pd, PyData.plain]
  | .str _ => by simp [Dv.pd, PyData.plain]
  | .byt _ => by simp [Dv.pd, PyData.plain]
  | .ref _ => by simp [Dv.pd, PyData.plain]
  | .ty _ => by simp [Dv.pd, PyData.plain]
  | .tup xs => by simp [Dv.pd, PyData.plain, Dv.plains xs]
  | .rot xs => by simp [Dv.pd, PyData.plain, Dv.plains xs]
  | .lst xs => by simp [Dv.pd, PyData.plain, Dv.plains xs]
  | .rol xs => by simp [Dv.pd, PyData.plain, Dv.plains xs]
theorem Dv.plains : ∀ ds : List Dv, PyData.plainAll (Dv.pds ds) = true
  | [] => by simp [Dv.pds, PyData.plainAll]
  | d :: ds => by simp [Dv.pds, PyData.plainAll, Dv.plain d, Dv.plains ds]
end
def rEqP (K : PySem.W.Frag) : R2 := fun x y H Q => ∃ d e, Dp K H x d ∧ Dp K H y e ∧ d.plain = true ∧ e.plain = true ∧ min d.depth e.depth ≤ 60 ∧ Q (.bl (PyData.eqv d e)) H
def rNeP (K : PySem.W.Frag) : R2 := fun x y H Q => ∃ d e, Dp K H x d ∧ Dp K H y e ∧ d.plain = true ∧ e.plain = true ∧ min d.depth e.depth ≤ 60 ∧ Q (.bl (!PyData.eqv d e)) H
theorem op_eqP {X : Cx} (hu : X.A.units + 64 < cLine) : OpR X (compareOp .Eq) (rEqP X.K) := by
  intro pins s σ H x y v u Q I rx ry h
  obtain ⟨d, e, hd, he, pd, pe, hz, q⟩ := h
  obtain ⟨as, r1⟩ := Dp.reads I d x v hd rx
  obtain ⟨bs, r2⟩ := Dp.reads I e y u he ry
  exact SeqAt.eq_plain r1 r2 pd pe (by omega) ⟨.bl _, H, I, rfl, q⟩
theorem op_neP {X : Cx} (hu : X.A.units + 64 < cLine) : OpR X (compareOp .NotEq) (rNeP X.K) := by
  intro pins s σ H x y v u Q I rx ry h
  obtain ⟨d, e, hd, he, pd, pe, hz, q⟩ := h
  obtain ⟨as, r1⟩ := Dp.reads I d x v hd rx
  obtain ⟨bs, r2⟩ := Dp.reads I e y u he ry
  exact SeqAt.ne_plain r1 r2 pd pe (by omega) ⟨.bl _, H, I, rfl, q⟩
def eqOk (x y : Dv) : Prop := x.isD = true ∧ y.isD = true ∧ min x.pd.depth y.pd.depth ≤ 60
def dEq (x y : Dv) : Bool := PyData.eqv x.pd y.pd
def gEq : D2 := fun x y μ Q => eqOk x y ∧ Q (.bl (dEq x y)) μ
def gNe : D2 := fun x y μ Q => eqOk x y ∧ Q (.bl (!dEq x y)) μ
theorem wo_eq : WO S (compareOp .Eq) gEq := ⟨rEqP S.K, fun X hX => hX.K ▸ op_eqP hX.units, fun I μ H _ SM dx dy x y rx ry Q Q' q u =>
  ⟨dx.pd, dy.pd, rx.dp SM.ex _ _ q.1.1, ry.dp SM.ex _ _ q.1.2.1, dx.plain, dy.plain, q.1.2.2, u I _ _ μ H (Same.refl I) SM (.bl _) q.2⟩⟩
theorem wo_ne : WO S (compareOp .NotEq) gNe := ⟨rNeP S.K, fun X hX => hX.K ▸ op_neP hX.units, fun I μ H _ SM dx dy x y rx ry Q Q' q u =>
  ⟨dx.pd, dy.pd, rx.dp SM.ex _ _ q.1.1, ry.dp SM.ex _ _ q.1.2.1, dx.plain, dy.plain, q.1.2.2, u I _ _ μ H (Same.refl I) SM (.bl _) q.2⟩⟩
end
end Wl

set_option Elab.async false
set_option linter.all false
set_option maxRecDepth 100000
set_option maxHeartbeats 2000000
namespace Wl
open PySem L2
section
variable {S : Sg} {ι : Type} {F : ι → Cx} {pos : Pos}
theorem RepL.at_ {K : PySem.W.Frag} {I : Hp} {ds : List Dv} {vs : List V} {i : Int} {d : Dv} (r : RepL K I ds vs) (e : atI ds i = some d) : ∃ v, atI vs i = some v ∧ Rep K I d v := by
  unfold atI at e ⊢
  rw [← r.length]
  cases h : ixN ds.length i with
  | none => rw [h] at e; cases e
  | some j =>
    rw [h] at e
    exact r.get e
/-! ### a[i], a[i:j] -/
def gIx : D2
  | .tup xs, .int i, μ, Q => ∃ d, atI xs i = some d ∧ Q d μ
  | .rot xs, .int i, μ, Q => ∃ d, atI xs i = some d ∧ Q d μ
  | .lst xs, .int i, μ, Q => ∃ d, atI xs i = some d ∧ Q d μ
  | .rol xs, .int i, μ, Q => ∃ d, atI xs i = some d ∧ Q d μ
  | .str z, .int i, μ, Q => z.length ≤ sizeLine ∧ ∃ c, atI z.cps.toList i = some c ∧ Q (.str ⟨#[c]⟩) μ
  | .ref a, .int i, μ, Q => ∃ xs d, μ a = some (.lst xs) ∧ atI xs i = some d ∧ Q d μ
  | _, _, _, _ => False
def WX2 (S : Sg) (t : D2) : Prop := ∃ r, (∀ X, Is S X → IxR X r) ∧ R2v S r t
theorem wx_ix : WX2 S gIx := by
  refine ⟨rIx S.K, fun X hX => hX.K ▸ ix_seq, ?_⟩
  intro I μ H _ SM dx dy x y rx ry Q Q' q u
  cases rx <;> cases ry <;> first | exact False.elim q | skip
  · obtain ⟨h1, c, e, q⟩ := q
    exact .inr (.inr ⟨_, _, _, rfl, rfl, h1, e, u I _ _ μ H (Same.refl I) SM (.str _) q⟩)
  · obtain ⟨xs, d, e, h, q⟩ := q
    obtain ⟨vs, r, hv⟩ := SM.memo e
    obtain ⟨v, h1, h2⟩ := r.at_ h
    exact .inl ⟨_, _, _, _, rfl, rfl, .inl (.inl hv), h1, u I _ _ μ H (Same.refl I) SM h2 q⟩
  · rename_i h1 h2 _
    obtain ⟨d, h, q⟩ := q
    obtain ⟨v, k1, k2⟩ := h2.at_ h
    exact .inr (.inl ⟨_, _, _, _, rfl, rfl, .inl (.inl (SM.ex _ _ h1)), k1, u I _ _ μ H (Same.refl I) SM k2 q⟩)
  · rename_i h1 h2 _
    obtain ⟨d, h, q⟩ := q
    obtain ⟨v, k1, k2⟩ := h2.at_ h
    exact .inr (.inl ⟨_, _, _, _, rfl, rfl, same_t SM.ex h1, k1, u I _ _ μ H (Same.refl I) SM k2 q⟩)
  · rename_i h1 h2 _
    obtain ⟨d, h, q⟩ := q
    obtain ⟨v, k1, k2⟩ := h2.at_ h
    exact .inl ⟨_, _, _, _, rfl, rfl, .inl (.inl (SM.ex _ _ h1)), k1, u I _ _ μ H (Same.refl I) SM k2 q⟩
  · rename_i h1 h2 _
    obtain ⟨d, h, q⟩ := q
    obtain ⟨v, k1, k2⟩ := h2.at_ h
    exact .inl ⟨_, _, _, _, rfl, rfl, same_l SM.ex h1, k1, u I _ _ μ H (Same.refl I) SM k2 q⟩
theorem we_ix {a b : Expr} {sa sb : DE} (ha : WE S F a sa) (hb : WE S F b sb) (hs : PlainIx b := by exact fun _ _ => rfl) : WE S F (.Subscript a b pos) (vOp gIx sa sb) :=
  let ⟨r, h1, h2⟩ := wx_ix (S := S); let ⟨ta, a1, a2⟩ := ha; let ⟨tb, b1, b2⟩ := hb
  ⟨_, fun i hi => pe_ix (h1 _ hi) (a1 i hi) (b1 i hi) hs, re_op h2 a2 b2⟩
def dcut {α : Type} (xs : List α) (lo hi : Option Int) : List α := (xs.drop (HT.sIx xs.length 0 lo)).take (HT.sIx xs.length xs.length hi - HT.sIx xs.length 0 lo)
theorem RepL.cut {K : PySem.W.Frag} {I : Hp} {ds : List Dv} {vs : List V} (r : RepL K I ds vs) (lo hi : Option Int) : RepL K I (dcut ds lo hi) (cutV vs lo hi) := by
  unfold dcut cutV
  rw [r.length]
  exact (r.drop _).take _
theorem dcut_all {α : Type} {xs : List α} {lo hi : Option Int} (h : HT.sIx xs.length 0 lo = 0 ∧ HT.sIx xs.length xs.length hi = xs.length) : dcut xs lo hi = xs := by
  unfold dcut
  rw [h.1, h.2]
  simp
abbrev DO := DSt → Mu → (Option Int → Mu → Prop) → Prop
def RO (S : Sg) (to : TO) (t : DO) : Prop := ∀ I δ μ σ H, Same S.J I → SatM S.K I μ H → RepS S.K I δ σ → ∀ (Q : Option Int → Mu → Prop) (Q' : Option Int → Hp → Prop), t δ μ Q → (∀ I' o μ' H', Same I I' → SatM S.K I' μ' H' → Q o μ' → Q' o H') → to σ H Q'
def WP (S : Sg) {ι : Type} (F : ι → Cx) (e : Option Expr) (t : DO) : Prop := ∃ te, (∀ i, Is S (F i) → PO (F i) e te) ∧ RO S te t
def vNoPart : DO := fun _ μ Q => Q none μ
def vPart (t : DE) : DO := fun δ μ Q => t δ μ fun x μ1 => match x with | .int i => Q (some i) μ1 | _ => False
theorem wp_none : WP S F none vNoPart := ⟨_, fun _ _ => po_none, fun I δ μ σ H hJ SM hS Q Q' q u => u I none μ H (Same.refl I) SM q⟩
theorem wp_some {e : Expr} {t : DE} (h : WE S F e t) : WP S F (some e) (vPart t) := let ⟨te, h1, h2⟩ := h
  ⟨_, fun i hi => po_some (h1 i hi), fun I δ μ σ H hJ SM hS Q Q' q u => h2 I δ μ σ H hJ SM hS _ _ q fun I1 x vx μ1 H1 e1 S1 r1 q1 => by
    cases r1 <;> first | exact False.elim q1 | exact ⟨_, rfl, u I1 _ μ1 H1 e1 S1 q1⟩⟩
def gSl (x : Dv) (lo hi : Option Int) (μ : Mu) (Q : DV) : Prop := match x with
  | .tup xs => Q (.tup (dcut xs lo hi)) μ
  | .lst xs => Q (.lst (dcut xs lo hi)) μ
  | .str z => z.length ≤ sizeLine ∧ Q (.str (cutS z lo hi)) μ
  | .ref a => ∃ xs, μ a = some (.lst xs) ∧ Q (.lst (dcut xs lo hi)) μ
  | _ => False
def vSl (te : DE) (tl th : DO) : DE := fun δ μ Q => te δ μ fun x μ1 => tl δ μ1 fun l μ2 => th δ μ2 fun h μ3 => gSl x l h μ3 Q
theorem we_slice {a : Expr} {lo hi : Option Expr} {sa : DE} {sl sh : DO} {p2 : Pos} (ha : WE S F a sa) (hl : WP S F lo sl) (hh : WP S F hi sh) : WE S F (.Subscript a (.Slice lo hi none p2) pos) (vSl sa sl sh) :=
  let ⟨ta, a1, a2⟩ := ha; let ⟨tl, b1, b2⟩ := hl; let ⟨th, c1, c2⟩ := hh
  ⟨_, fun i hi => pe_slice (r := fun x lo hi H Q => (rSlA S.K x lo hi H Q ∨ rSlL S.K x lo hi H Q) ∨ rSlS x lo hi H Q) ((SlR.or (hi.K ▸ sl_tupA) (hi.K ▸ sl_list)).or sl_str) (a1 i hi) (b1 i hi) (c1 i hi), fun I δ μ σ H hJ SM hS Q Q' q u =>
    a2 I δ μ σ H hJ SM hS _ _ q fun I1 x vx μ1 H1 e1 S1 r1 q1 =>
      b2 I1 δ μ1 σ H1 (hJ.trans e1) S1 (hS.mono e1) _ _ q1 fun I2 l μ2 H2 e2 S2 q2 =>
        c2 I2 δ μ2 σ H2 ((hJ.trans e1).trans e2) S2 (hS.mono (e1.trans e2)) _ _ q2 fun I3 h μ3 H3 e3 S3 q3 => by
          have r3 := Rep.mono (e2.trans e3) _ _ r1
          have u3 := u.mono ((e1.trans e2).trans e3)
          cases r3 <;> first | exact False.elim q3 | skip
          · exact .inr ⟨_, rfl, q3.1, u3 I3 _ _ μ3 H3 (Same.refl _) S3 (.str _) q3.2⟩
          · obtain ⟨xs, em, q4⟩ := q3
            obtain ⟨vs, r, hv⟩ := S3.memo em
            refine .inl (.inr ⟨_, _, rfl, .inl (.inl hv), fun p hp => ?_⟩)
            obtain ⟨s1, s2⟩ := S3.newI hp (.lst (cutV vs l h))
            exact u3 _ _ _ μ3 _ s1 s2 (.lst upd_same (RepL.mono s1 _ _ (r.cut l h))) q4
          · rename_i a vs xs k1 k2
            refine .inl (.inl ⟨_, _, rfl, .inl (.inl (S3.ex _ _ k1)), fun e => ?_, fun _ p hp => ?_⟩)
            · refine u3 I3 _ _ μ3 H3 (Same.refl _) S3 ?_ q3
              rw [dcut_all (by rw [k2.length]; exact e)]
              exact .tup k1 k2
            · obtain ⟨s1, s2⟩ := S3.newI hp (.tup (cutV vs l h))
              exact u3 _ _ _ μ3 _ s1 s2 (.tup upd_same (RepL.mono s1 _ _ (k2.cut l h))) q3
          · rename_i a vs xs k1 k2
            refine .inl (.inr ⟨_, _, rfl, .inl (.inl (S3.ex _ _ k1)), fun p hp => ?_⟩)
            obtain ⟨s1, s2⟩ := S3.newI hp (.lst (cutV vs l h))
            exact u3 _ _ _ μ3 _ s1 s2 (.lst upd_same (RepL.mono s1 _ _ (k2.cut l h))) q3⟩

/-! ### calls of built-ins -/
def vCB (f : DC) (t : DA) : DE := fun δ μ Q => t δ μ fun xs μ1 => f xs μ1 Q
theorem re_cb {r : List V → Hp → VK → Prop} {f : DC} {ta : TA} {t : DA} (hr : RCv S r f) (ha : RA S ta t) : RE S (tCB r ta) (vCB f t) := fun I δ μ σ H hJ SM hS Q Q' q u =>
  ha I δ μ σ H hJ SM hS _ _ q fun I1 ds vs μ1 H1 e1 S1 r1 q1 => hr I1 μ1 H1 (hJ.trans e1) S1 ds vs r1 _ _ q1 (u.mono e1)
theorem we_callB {f : DC} {x : Str} {id : String} {e : Expr} {es : List Expr} {t : DA} {p : Pos} (hc : WC S (.builtin id) f) (hm : S.mg x = none) (hv : bootBuiltins x = some (.builtin id)) (ha : WA S F (e :: es) t) (hg : ∀ j, Gl (F j) x := by exact fun _ => rfl)
    (hn : x ≠ "__name__" := by decide) (hdb : (x == ("__debug__" : Str)) = false := by decide) (he : ∀ env, starEach (e :: es) env = (false, eval e env) :: starEach es env := by exact fun _ => rfl) (hpl : ∀ env, (backTo pos (starEach es env)).any (·.1) = false := by exact fun _ => rfl) :
    WE S F (.Call (.Name x p) (e :: es) [] pos) (vCB f t) :=
  let ⟨r, h1, h2⟩ := hc; let ⟨ta, a1, a2⟩ := ha
  ⟨_, fun i hi => pe_callB (h1 _ hi) (hg i) (hi.mg ▸ hm) hv (a1 i hi) hn hdb (he _) (hpl _), re_cb h2 a2⟩
theorem we_callTy {f : DC} {x : Str} {T : String} {e : Expr} {es : List Expr} {t : DA} {p : Pos} (hc : WC S (.type T) f) (hm : S.mg x = none) (hv : bootBuiltins x = some (.type T)) (ha : WA S F (e :: es) t) (hg : ∀ j, Gl (F j) x := by exact fun _ => rfl)
    (hn : x ≠ "__name__" := by decide) (hdb : (x == ("__debug__" : Str)) = false := by decide) (he : ∀ env, starEach (e :: es) env = (false, eval e env) :: starEach es env := by exact fun _ => rfl) (hpl : ∀ env, (backTo pos (starEach es env)).any (·.1) = false := by exact fun _ => rfl) :
    WE S F (.Call (.Name x p) (e :: es) [] pos) (vCB f t) :=
  let ⟨r, h1, h2⟩ := hc; let ⟨ta, a1, a2⟩ := ha
  ⟨_, fun i hi => pe_callTy (h1 _ hi) (hg i) (hi.mg ▸ hm) hv (a1 i hi) hn hdb (he _) (hpl _), re_cb h2 a2⟩
def gLen1 (x : Dv) (μ : Mu) (Q : DV) : Prop := match x with
  | .str y => y.length ≤ sizeLine ∧ Q (.int y.length) μ
  | .tup xs => Q (.int xs.length) μ
  | .rot xs => Q (.int xs.length) μ
  | .lst xs => Q (.int xs.length) μ
  | .rol xs => Q (.int xs.length) μ
  | .ref a => ∃ xs, μ a = some (.lst xs) ∧ Q (.int xs.length) μ
  | _ => False
def gLen : DC
  | [x], μ, Q => gLen1 x μ Q
  | _, _, _ => False
theorem wc_len : WC S (.builtin "len") gLen := by
  refine ⟨_, fun X hX => hX.K ▸ call_len, ?_⟩
  intro I μ H _ SM ds vs r Q Q' q u
  cases r with
  | nil => exact q.elim
  | cons r1 r2 =>
    cases r2 with
    | cons _ _ => exact q.elim
    | nil =>
      replace q : gLen1 _ μ Q := q
      cases r1 <;> first | exact False.elim q | skip
      · exact ⟨_, _, rfl, ⟨q.1, rfl⟩, u I _ _ μ H (Same.refl I) SM (.int _) q.2⟩
      · obtain ⟨xs, em, q4⟩ := q
        obtain ⟨vs, r, hv⟩ := SM.memo em
        exact ⟨_, _, rfl, .inl ⟨_, .inl (.inl hv), rfl⟩, u I _ _ μ H (Same.refl I) SM (.int _) (by rw [← r.length]; exact q4)⟩
      · rename_i h1 h2
        exact ⟨_, _, rfl, .inr ⟨_, .inl (.inl (SM.ex _ _ h1)), rfl⟩, u I _ _ μ H (Same.refl I) SM (.int _) (by rw [← h2.length]; exact q)⟩
      · rename_i h1 h2
        exact ⟨_, _, rfl, .inr ⟨_, same_t SM.ex h1, rfl⟩, u I _ _ μ H (Same.refl I) SM (.int _) (by rw [← h2.length]; exact q)⟩
      · rename_i h1 h2
        exact ⟨_, _, rfl, .inl ⟨_, .inl (.inl (SM.ex _ _ h1)), rfl⟩, u I _ _ μ H (Same.refl I) SM (.int _) (by rw [← h2.length]; exact q)⟩
      · rename_i h1 h2
        exact ⟨_, _, rfl, .inl ⟨_, same_l SM.ex h1, rfl⟩, u I _ _ μ H (Same.refl I) SM (.int _) (by rw [← h2.length]; exact q)⟩
def gInt : DC
  | [.int i], μ, Q => Q (.int i) μ
  | [.bl k], μ, Q => Q (.int (if k then 1 else 0)) μ
  | _, _, _ => False
theorem wc_int : WC S (.type "int") gInt := by
  refine ⟨_, fun X hX => call_int1, ?_⟩
  intro I μ H _ SM ds vs r Q Q' q u
  cases r with
  | nil => exact q.elim
  | cons r1 r2 =>
    cases r2 with
    | cons _ _ => cases r1 <;> exact q.elim
    | nil =>
      cases r1 <;> first | exact False.elim q | skip
      · exact .inr ⟨_, rfl, u I _ _ μ H (Same.refl I) SM (.int _) q⟩
      · exact .inl ⟨_, rfl, u I _ _ μ H (Same.refl I) SM (.int _) q⟩
def gMax2 : DC
  | [.int i, .int j], μ, Q => Q (.int (if j > i then j else i)) μ
  | _, _, _ => False
def gMin2 : DC
  | [.int i, .int j], μ, Q => Q (.int (if j < i then j else i)) μ
  | _, _, _ => False
theorem wc_max2 (hcold : S.cold = false := by rfl) : WC S (.builtin "max") gMax2 := by
  refine ⟨_, fun X hX => call_max2 (hX.calm hcold), ?_⟩
  intro I μ H _ SM ds vs r Q Q' q u
  rcases r with _ | ⟨r1, _ | ⟨r2, _ | _⟩⟩ <;> first | exact q.elim | skip
  all_goals cases r1 <;> first | exact False.elim q | skip
  all_goals cases r2 <;> first | exact False.elim q | skip
  exact ⟨_, _, rfl, u I _ _ μ H (Same.refl I) SM (.int _) q⟩
theorem wc_min2 (hcold : S.cold = false := by rfl) : WC S (.builtin "min") gMin2 := by
  refine ⟨_, fun X hX => call_min2 (hX.calm hcold), ?_⟩
  intro I μ H _ SM ds vs r Q Q' q u
  rcases r with _ | ⟨r1, _ | ⟨r2, _ | _⟩⟩ <;> first | exact q.elim | skip
  all_goals cases r1 <;> first | exact False.elim q | skip
  all_goals cases r2 <;> first | exact False.elim q | skip
  exact ⟨_, _, rfl, u I _ _ μ H (Same.refl I) SM (.int _) q⟩
/-- list(x), tuple(x) -/
def gList : DC
  | [.tup xs], μ, Q => Q (.lst xs) μ
  | [.lst xs], μ, Q => Q (.lst xs) μ
  | [.rol xs], μ, Q => Q (.lst xs) μ
  | [.ref a], μ, Q => ∃ xs, μ a = some (.lst xs) ∧ Q (.lst xs) μ
  | _, _, _ => False
theorem gSeqList {K : PySem.W.Frag} {I H : Hp} {μ : Mu} (SM : SatM K I μ H) {ds : List Dv} {vs : List V} {Q : DV} (r : RepL K I ds vs) (q : gList ds μ Q) :
    ∃ p ys xs, vs = [.ref p] ∧ (SqL K H p ys ∨ SqT K H p ys) ∧ RepL K I xs ys ∧ Q (.lst xs) μ := by
  rcases r with _ | ⟨r1, _ | ⟨r2, r3⟩⟩
  · exact q.elim
  · cases r1 <;> first | exact False.elim q | skip
    · obtain ⟨xs, em, q4⟩ := q
      obtain ⟨vs, r, hv⟩ := SM.memo em
      exact ⟨_, _, _, rfl, .inl (.inl (.inl hv)), r, q4⟩
    · rename_i h1 h2; exact ⟨_, _, _, rfl, .inr (.inl (.inl (SM.ex _ _ h1))), h2, q⟩
    · rename_i h1 h2; exact ⟨_, _, _, rfl, .inl (.inl (.inl (SM.ex _ _ h1))), h2, q⟩
    · rename_i h1 h2; exact ⟨_, _, _, rfl, .inl (same_l SM.ex h1), h2, q⟩
  · cases r1 <;> exact q.elim
theorem wc_list : WC S (.type "list") gList := by
  refine ⟨_, fun X hX => hX.K ▸ call_list_of, ?_⟩
  intro I μ H _ SM ds vs r Q Q' q u
  obtain ⟨p, ys, xs, h1, h2, h3, h4⟩ := gSeqList SM r q
  refine ⟨p, ys, h1, h2, fun l hl => ?_⟩
  obtain ⟨s1, s2⟩ := SM.newI hl (.lst ys)
  exact u _ _ _ μ _ s1 s2 (.lst upd_same (RepL.mono s1 _ _ h3)) h4
/-- list(x) that will change -/
def gListM : DC := fun ds μ Q => gList ds μ fun d μ1 => match d with | .lst xs => ∀ p, μ1 p = none → Q (.ref p) (mset μ1 p (.lst xs)) | _ => False
theorem wc_listM : WC S (.type "list") gListM := by
  refine ⟨_, fun X hX => hX.K ▸ call_list_of, ?_⟩
  intro I μ H _ SM ds vs r Q Q' q u
  obtain ⟨p, ys, xs, h1, h2, h3, h4⟩ := gSeqList SM r q
  refine ⟨p, ys, h1, h2, fun l hl => ?_⟩
  exact u I _ _ _ _ (Same.refl I) (SM.setM (m := .lst xs) (SM.ex.free hl) ⟨ys, h3, upd_same⟩) (.ref l) (h4 l (SM.muNone hl))
def gTupOf : DC
  | [.lst xs], μ, Q => Q (.tup xs) μ
  | [.ref a], μ, Q => ∃ xs, μ a = some (.lst xs) ∧ Q (.tup xs) μ
  | [.tup xs], μ, Q => Q (.tup xs) μ
  | _, _, _ => False
theorem wc_tuple : WC S (.type "tuple") gTupOf := by
  refine ⟨_, fun X hX => hX.K ▸ call_tuple_of, ?_⟩
  intro I μ H _ SM ds vs r Q Q' q u
  rcases r with _ | ⟨r1, _ | ⟨r2, r3⟩⟩
  · exact q.elim
  · cases r1 <;> first | exact False.elim q | skip
    · obtain ⟨xs, em, q4⟩ := q
      obtain ⟨vs, r, hv⟩ := SM.memo em
      refine ⟨_, _, rfl, .inl ⟨.inl (.inl hv), fun l hl => ?_⟩⟩
      obtain ⟨s1, s2⟩ := SM.newI hl (.tup vs)
      exact u _ _ _ μ _ s1 s2 (.tup upd_same (RepL.mono s1 _ _ r)) q4
    · rename_i h1 h2
      exact ⟨_, _, rfl, .inr ⟨.inl (.inl (SM.ex _ _ h1)), u I _ _ μ H (Same.refl I) SM (.tup h1 h2) q⟩⟩
    · rename_i vs xs h1 h2
      refine ⟨_, _, rfl, .inl ⟨.inl (.inl (SM.ex _ _ h1)), fun l hl => ?_⟩⟩
      obtain ⟨s1, s2⟩ := SM.newI hl (.tup vs)
      exact u _ _ _ μ _ s1 s2 (.tup upd_same (RepL.mono s1 _ _ h2)) q
  · cases r1 <;> exact q.elim

/-! ### methods of built-in types -/
def tyD (T : String) (x : Dv) (μ : Mu) : Prop := match x with
  | .str _ => T = "str"
  | .int _ => T = "int"
  | .lst _ => T = "list"
  | .rol _ => T = "list"
  | .ref a => match μ a with
    | some (.lst _) => T = "list"
    | some (.dK _) => T = "dict"
    | some (.dT _) => T = "dict"
    | _ => False
  | _ => False
theorem tyD_ok {K : PySem.W.Frag} {I H : Hp} {μ : Mu} (SM : SatM K I μ H) {T : String} {d : Dv} {v : V} (r : Rep K I d v) (q : tyD T d μ) : tyV K T v H := by
  cases r <;> first | exact False.elim q | skip
  · exact q
  · exact q
  · rename_i a
    unfold tyD at q
    cases e : μ a with
    | none => simp only [e] at q
    | some m =>
      have hm := SM.memo e
      cases m with
      | lst xs => simp only [e] at q; obtain ⟨vs, r, h⟩ := hm; exact .inl ⟨q, _, .inl (.inl h)⟩
      | dK kvs => simp only [e] at q; obtain ⟨vs, r, h⟩ := hm; exact .inr (.inr (.inl ⟨q, .inl ⟨_, h⟩⟩))
      | dT kvs => simp only [e] at q; obtain ⟨vs, r, h⟩ := hm; exact .inr (.inr (.inl ⟨q, .inr ⟨_, h⟩⟩))
      | _ => simp only [e] at q
  · rename_i h1 h2; exact .inl ⟨q, _, .inl (.inl (SM.ex _ _ h1))⟩
  · rename_i h1 h2; exact .inl ⟨q, _, same_l SM.ex h1⟩
def WM (S : Sg) (id : String) (t : DM) : Prop := ∃ r, (∀ X, Is S X → MtR X id r) ∧ RMv S r t
def vBM (T : String) (f : DM) (to : DE) (t : DA) : DE := fun δ μ Q => to δ μ fun x μ1 => tyD T x μ1 ∧ t δ μ1 fun xs μ2 => f x xs μ2 Q
theorem we_bm {T id : String} {name : Str} {f : DM} {o e : Expr} {es : List Expr} {so : DE} {t : DA} {apos cpos : Pos} (pa : PlainAttrs T) (slot : Slot T name id) (hty : typeOf (.builtin id) = pure (.type "method_descriptor")) (hm : WM S id f) (ho : WE S F o so) (ha : WA S F (e :: es) t)
    (hbase : ∀ env, attributeBase o name env (eval o env) = eval o env := by exact fun _ => rfl)
    (hfew : ∀ env, ((backTo cpos (starEach (e :: es) env)).all (fun x => !x.1) && (backToKw cpos (keywordEach [] env)).all (fun x => x.1.isSome)
      && decide ((e :: es).length + ([] : List Keyword).length + (if ([] : List Keyword).isEmpty then 0 else 1) < 30)) = true := by exact fun _ => rfl)
    (hline : (apos.endLine == cpos.line) = true := by rfl) (hs : ∀ env, starEach (e :: es) env = (false, eval e env) :: starEach es env := by exact fun _ => rfl) (hplain : ∀ env, (backTo cpos (starEach es env)).any (·.1) = false := by exact fun _ => rfl) :
    WE S F (.Call (.Attribute o name apos) (e :: es) [] cpos) (vBM T f so t) :=
  let ⟨r, h1, h2⟩ := hm; let ⟨ta, a1, a2⟩ := ho; let ⟨tb, b1, b2⟩ := ha
  ⟨tBM S.K T r ta tb, fun i hi => hi.K ▸ pe_bm pa slot hty (h1 _ hi) (a1 i hi) (b1 i hi) (hbase _) (hfew _) hline (hs _) (hplain _), fun I δ μ σ H hJ SM hS Q Q' q u =>
    a2 I δ μ σ H hJ SM hS _ _ q fun I1 x vx μ1 H1 e1 S1 r1 q1 => ⟨tyD_ok S1 r1 q1.1, b2 I1 δ μ1 σ H1 (hJ.trans e1) S1 (hS.mono e1) _ _ q1.2 fun I2 ds vs μ2 H2 e2 S2 r2 q2 =>
      h2 I2 μ2 H2 ((hJ.trans e1).trans e2) S2 x vx ds vs (Rep.mono e2 _ _ r1) r2 _ _ q2 (u.mono (e1.trans e2))⟩⟩
def gAppend : DM
  | .ref a, [y], μ, Q => ∃ xs, μ a = some (.lst xs) ∧ xs.length < sizeLine ∧ Q .non (mset μ a (.lst (xs ++ [y])))
  | _, _, _, _ => False
theorem wm_append : WM S "list.append" gAppend := by
  refine ⟨rAppend, fun X hX => mt_append, ?_⟩
  intro I μ H _ SM dx x ds vs rx r Q Q' q u
  cases rx <;> first | exact False.elim q | skip
  rcases r with _ | ⟨r1, _ | ⟨r2, r3⟩⟩
  · exact q.elim
  · obtain ⟨xs, em, hl, q4⟩ := q
    obtain ⟨ws, r, hv⟩ := SM.memo em
    refine ⟨_, ws, _, rfl, rfl, hv, by rw [← r.length]; exact hl, ?_⟩
    exact u I _ _ _ _ (Same.refl I) (SM.setM (m := .lst (xs ++ [_])) (SM.mu _ _ em).1 ⟨_, r.append (.cons r1 .nil), upd_same⟩) .non q4
  · exact q.elim
theorem we_append {o e : Expr} {so : DE} {t : DA} {apos cpos : Pos} (ho : WE S F o so) (ha : WA S F [e] t)
    (hbase : ∀ env, attributeBase o "append" env (eval o env) = eval o env := by exact fun _ => rfl)
    (hfew : ∀ env, ((backTo cpos (starEach [e] env)).all (fun x => !x.1) && (backToKw cpos (keywordEach [] env)).all (fun x => x.1.isSome)
      && decide ([e].length + ([] : List Keyword).length + (if ([] : List Keyword).isEmpty then 0 else 1) < 30)) = true := by exact fun _ => rfl)
    (hline : (apos.endLine == cpos.line) = true := by rfl) (hs : ∀ env, starEach [e] env = (false, eval e env) :: starEach [] env := by exact fun _ => rfl) :
    WE S F (.Call (.Attribute o "append" apos) [e] [] cpos) (vBM "list" gAppend so t) :=
  we_bm PySem.F.plainAttrs_list PySem.F.slot_list_append PySem.F.type_list_append wm_append ho ha hbase hfew hline hs (fun _ => rfl)
end
end Wl

set_option Elab.async false
set_option linter.all false
set_option maxRecDepth 100000
set_option maxHeartbeats 2000000
namespace Wl
open PySem L2
open PySem.Spec PyProof.Rows
section
variable {S : Sg} {ι : Type} {F : ι → Cx} {pos : Pos}

/-! ## statements -/
def sNext : DS := fun D δ μ => D.nx δ μ
def sSeq (t u : DS) : DS := fun D δ μ => t { D with nx := u D } δ μ
def sDrop (t : DE) : DS := fun D δ μ => t δ μ fun _ μ1 => D.nx δ μ1
def sRet (t : DE) : DS := fun D δ μ => t δ μ D.rt
def sRetN : DS := fun D _ μ => D.rt .non μ
def sIf (c : DT) (t u : DS) : DS := fun D δ μ => c δ μ fun b μ1 => if b = true then t D δ μ1 else u D δ μ1
def sNever : DS := fun _ _ _ => False
def sAsg (t : DE) (g : DG) : DS := fun D δ μ => t δ μ fun x μ1 => g x δ μ1 D.nx
def dName (i : Nat) : DG := fun d δ μ Q => Q (δ.set i (some d)) μ
theorem wss_nil : WSs S F [] sNext := ⟨_, fun _ _ => pss_nil, fun I δ μ σ H hJ SM hS D D' q u => u.nx I δ σ μ H (Same.refl I) SM hS q⟩
theorem ws_pass : WS S F (.Pass pos) sNext := ⟨_, fun _ _ => ps_pass, fun I δ μ σ H hJ SM hS D D' q u => u.nx I δ σ μ H (Same.refl I) SM hS q⟩
theorem rs_seq {t u : TS} {s v : DS} (h1 : RS S t s) (h2 : RS S u v) : RS S (tSeq t u) (sSeq s v) := fun I δ μ σ H hJ SM hS D D' q up =>
  h1 I δ μ σ H hJ SM hS _ _ q ⟨fun I1 δ1 σ1 μ1 H1 e1 S1 R1 q1 => h2 I1 δ1 μ1 σ1 H1 (hJ.trans e1) S1 R1 _ _ q1 (up.mono e1), up.rt, up.bk, up.ct⟩
theorem wss_cons {st : Stmt} {rest : List Stmt} {t u : DS} (h1 : WS S F st t) (h2 : WSs S F rest u) : WSs S F (st :: rest) (sSeq t u) :=
  let ⟨a, a1, a2⟩ := h1; let ⟨b, b1, b2⟩ := h2; ⟨_, fun i hi => pss_cons (a1 i hi) (b1 i hi), rs_seq a2 b2⟩
theorem wss_one {st : Stmt} {t : DS} (h1 : WS S F st t) : WSs S F [st] t := let ⟨a, a1, a2⟩ := h1; ⟨_, fun i hi => pss_one (a1 i hi), a2⟩
theorem ws_never {st : Stmt} : WS S F st sNever := ⟨_, fun _ _ => ps_never, fun _ _ _ _ _ _ _ _ _ _ q _ => q.elim⟩
theorem wss_never {st : List Stmt} : WSs S F st sNever := ⟨_, fun _ _ => pss_never, fun _ _ _ _ _ _ _ _ _ _ q _ => q.elim⟩
theorem ws_expr {e : Expr} {t : DE} (h : WE S F e t) (hs : ∀ env, swapsWith e none pos.line env = pure false := by exact fun _ => rfl) : WS S F (.Expr e pos) (sDrop t) :=
  let ⟨a, a1, a2⟩ := h; ⟨_, fun i hi => ps_expr (a1 i hi) (hs _), fun I δ μ σ H hJ SM hS D D' q u => a2 I δ μ σ H hJ SM hS _ _ q fun I1 d v μ1 H1 e1 S1 r1 q1 => u.nx I1 δ σ μ1 H1 e1 S1 (hS.mono e1) q1⟩
theorem ws_ret {e : Expr} {t : DE} (h : WE S F e t) : WS S F (.Return (some e) pos) (sRet t) :=
  let ⟨a, a1, a2⟩ := h; ⟨_, fun i hi => ps_ret (a1 i hi), fun I δ μ σ H hJ SM hS D D' q u => a2 I δ μ σ H hJ SM hS _ _ q u.rt⟩
theorem ws_retN : WS S F (.Return none pos) sRetN := ⟨_, fun _ _ => ps_retN, fun I δ μ σ H hJ SM hS D D' q u => u.rt I _ _ μ H (Same.refl I) SM .non q⟩
theorem ws_if {c : Expr} {a b : List Stmt} {sc : DT} {t u : DS} (hc : WT S F c sc) (ha : WSs S F a t) (hb : WSs S F b u) : WS S F (.If c a b pos) (sIf sc t u) :=
  let ⟨tc, c1, c2⟩ := hc; let ⟨ta, a1, a2⟩ := ha; let ⟨tb, b1, b2⟩ := hb
  ⟨_, fun i hi => ps_if (c1 i hi) (a1 i hi) (b1 i hi), fun I δ μ σ H hJ SM hS D D' q u => c2 I δ μ σ H hJ SM hS _ _ q fun I1 b μ1 H1 e1 S1 q1 => by
    cases b with
    | true => rw [if_pos rfl] at q1 ⊢; exact a2 I1 δ μ1 σ H1 (hJ.trans e1) S1 (hS.mono e1) _ _ q1 (u.mono e1)
    | false => rw [if_neg Bool.false_ne_true] at q1 ⊢; exact b2 I1 δ μ1 σ H1 (hJ.trans e1) S1 (hS.mono e1) _ _ q1 (u.mono e1)⟩
theorem ws_set (i : Nat) {x : Str} {e : Expr} {t : DE} {pos' : Pos} (he : WE S F e t) (hN : S.N.Nodup) (hi : S.N[i]? = some x := by rfl) (hx : ∀ j, Loc (F j).env.scope x := by first | exact fun _ => .inl rfl | exact fun _ => .inr rfl)
    (hs : ∀ env, swapsWith e (some (.Name x pos')) pos.line env = pure false := by exact fun _ => rfl) (hf : ∀ j, (F j).fn x = true ∨ (F j).env.scope.names.lookup x = some .local := by first | exact fun _ => .inl rfl | exact fun _ => .inr rfl) :
    WS S F (.Assign [.Name x pos'] e pos) (sAsg t (dName i)) :=
  let ⟨a, a1, a2⟩ := he
  ⟨_, fun j hj => ps_set (hj.N ▸ hN) (hj.N ▸ hi) (hx j) (a1 j hj) (hs _) (hf j), fun I δ μ σ H hJ SM hS D D' q u => a2 I δ μ σ H hJ SM hS _ _ q fun I1 d v μ1 H1 e1 S1 r1 q1 => u.nx I1 _ _ μ1 H1 e1 S1 ((hS.mono e1).set i r1) q1⟩

/-! ### targets -/
theorem wg_name (i : Nat) {x : Str} (hN : S.N.Nodup) (hi : S.N[i]? = some x := by rfl) (hx : ∀ j, Loc (F j).env.scope x := by first | exact fun _ => .inl rfl | exact fun _ => .inr rfl)
    (hf : ∀ j, (F j).fn x = true ∨ (F j).env.scope.names.lookup x = some .local := by first | exact fun _ => .inl rfl | exact fun _ => .inr rfl) : WG S F (.Name x pos) (dName i) :=
  ⟨_, fun j hj => pg_name (hj.N ▸ hN) (hj.N ▸ hi) (hx j) (hf j), fun I δ μ σ H d v hJ SM hS r Q Q' q u => u I _ _ μ H (Same.refl I) SM (hS.set i r) q⟩
def dNil : DGs := fun ds δ μ Q => match ds with | [] => Q δ μ | _ => False
def dCons (t : DG) (u : DGs) : DGs := fun ds δ μ Q => match ds with | d :: r => t d δ μ fun δ1 μ1 => u r δ1 μ1 Q | [] => False
theorem wgs_nil : WGs S F [] dNil := ⟨_, fun _ _ => pgs_nil, fun I δ μ σ H ds vs hJ SM hS r Q Q' q u => by
  cases r with
  | nil => exact ⟨rfl, u I δ σ μ H (Same.refl I) SM hS q⟩
  | cons _ _ => exact q.elim⟩
theorem wgs_cons {e : Expr} {es : List Expr} {t : DG} {u : DGs} (h1 : WG S F e t) (h2 : WGs S F es u) (hs : ∀ env, (assignEach (e :: es) env).map (·.2) = assign e env :: (assignEach es env).map (·.2) := by exact fun _ => rfl) : WGs S F (e :: es) (dCons t u) :=
  let ⟨a, a1, a2⟩ := h1; let ⟨b, b1, b2⟩ := h2
  ⟨_, fun i hi => pgs_cons (a1 i hi) (b1 i hi) (hs _), fun I δ μ σ H ds vs hJ SM hS r Q Q' q u => by
    cases r with
    | nil => exact q.elim
    | cons r1 r2 => exact ⟨_, _, rfl, a2 I δ μ σ H _ _ hJ SM hS r1 _ _ q fun I1 δ1 σ1 μ1 H1 e1 S1 R1 q1 => b2 I1 δ1 μ1 σ1 H1 _ _ (hJ.trans e1) S1 R1 (r2.mono e1 _ _) _ _ q1 (u.mono e1)⟩⟩
/-- (a, b, ..) = a tuple -/
def dTup (n : Nat) (t : DGs) : DG := fun d δ μ Q => match d with | .tup xs => xs.length = n ∧ t xs δ μ Q | .rot xs => xs.length = n ∧ t xs δ μ Q | _ => False
theorem wg_tup {es : List Expr} {k : Nat} {t : DGs} {n : Nat} (h : WGs S F es t) (hn : ∀ env, (assignEach es env).length = n := by exact fun _ => rfl) (hst : ∀ env, (assignEach es env).findIdx? (·.1) = none := by exact fun _ => rfl) (hcold : S.cold = false := by rfl) : WG S F (.Tuple es k pos) (dTup n t) :=
  let ⟨a, a1, a2⟩ := h
  ⟨gTup S.K n a, fun i hi => hi.K ▸ pg_tup (hi.calm hcold) (a1 i hi) (hn _) (hst _), fun I δ μ σ H d v hJ SM hS r Q Q' q u => by
    cases r <;> first | exact False.elim q | skip
    · rename_i h1 h2
      exact ⟨_, _, rfl, .inl (.inl (SM.ex _ _ h1)), by rw [← h2.length]; exact q.1, a2 I δ μ σ H _ _ hJ SM hS h2 _ _ q.2 u⟩
    · rename_i h1 h2
      exact ⟨_, _, rfl, same_t SM.ex h1, by rw [← h2.length]; exact q.1, a2 I δ μ σ H _ _ hJ SM hS h2 _ _ q.2 u⟩⟩
/-- target = value -/
theorem ws_asg {tg e : Expr} {t : DE} {g : DG} (he : WE S F e t) (hg : WG S F tg g) (hs : ∀ env, swapsWithSole [tg] e pos.line env = pure false := by exact fun _ => rfl) (hw : ∀ j, swappedStores [tg] e (F j).env = pure none := by exact fun _ => rfl)
    (h1 : ∀ env, (assignEach [tg] env).map (·.2) = [assign tg env] := by exact fun _ => rfl) : WS S F (.Assign [tg] e pos) (sAsg t g) :=
  let ⟨a, a1, a2⟩ := he; let ⟨b, b1, b2⟩ := hg
  ⟨_, fun i hi => ps_asg (a1 i hi) (b1 i hi) (hs _) (hw i) (h1 _), fun I δ μ σ H hJ SM hS D D' q u => a2 I δ μ σ H hJ SM hS _ _ q fun I1 d v μ1 H1 e1 S1 r1 q1 => b2 I1 δ μ1 σ H1 d v (hJ.trans e1) S1 (hS.mono e1) r1 _ _ q1 (u.nx.mono e1)⟩
def sPar (i j : Nat) (t : DA) : DS := fun D δ μ => t δ μ fun ds μ1 => match ds with | [v, w] => D.nx ((δ.set i (some v)).set j (some w)) μ1 | _ => False
theorem ws_par (i j : Nat) {x y : Str} {a b : Expr} {t : DA} {px py pt : Pos} {kt k2 pt2} (ha : WA S F [a, b] t) (hN : S.N.Nodup) (hi : S.N[i]? = some x := by rfl) (hj : S.N[j]? = some y := by rfl) (hij : i ≠ j := by decide)
    (hx : ∀ k, (F k).env.scope.names.lookup x = some .local := by exact fun _ => rfl) (hy : ∀ k, (F k).env.scope.names.lookup y = some .local := by exact fun _ => rfl)
    (hw : ∀ k, swappedStores [.Tuple [.Name x px, .Name y py] kt pt] (.Tuple [a, b] k2 pt2) (F k).env = pure (some [x, y]) := by exact fun _ => rfl)
    (hs : ∀ env, swapsWithSole [.Tuple [.Name x px, .Name y py] kt pt] (.Tuple [a, b] k2 pt2) pos.line env = pure false := by exact fun _ => rfl) (hcold : S.cold = false := by rfl) :
    WS S F (.Assign [.Tuple [.Name x px, .Name y py] kt pt] (.Tuple [a, b] k2 pt2) pos) (sPar i j t) :=
  let ⟨ta, a1, a2⟩ := ha
  ⟨_, fun k hk => ps_par (hk.calm hcold) (hk.N ▸ hN) (hk.N ▸ hi) (hk.N ▸ hj) hij (hx k) (hy k) (a1 k hk) (hw k) (hs _), fun I δ μ σ H hJ SM hS D D' q u => a2 I δ μ σ H hJ SM hS _ _ q fun I1 ds vs μ1 H1 e1 S1 r1 q1 => by
    rcases r1 with _ | ⟨r1, _ | ⟨r2, _ | _⟩⟩ <;> first | exact q1.elim | exact ⟨_, _, rfl, u.nx I1 _ _ μ1 H1 e1 S1 (((hS.mono e1).set i r1).set j r2) q1⟩⟩
def sPar3 (i j l : Nat) (t : DA) : DS := fun D δ μ => t δ μ fun ds μ1 => match ds with | [v, w, z] => D.nx (((δ.set i (some v)).set j (some w)).set l (some z)) μ1 | _ => False
theorem ws_par3 (i j l : Nat) {x y z : Str} {a b c : Expr} {t : DA} {px py pz pt : Pos} {kt k2 pt2} (ha : WA S F [a, b, c] t) (hN : S.N.Nodup) (hi : S.N[i]? = some x := by rfl) (hj : S.N[j]? = some y := by rfl) (hl : S.N[l]? = some z := by rfl) (hij : i ≠ j := by decide) (hil : i ≠ l := by decide) (hjl : j ≠ l := by decide)
    (hx : ∀ k, (F k).env.scope.names.lookup x = some .local := by exact fun _ => rfl) (hy : ∀ k, (F k).env.scope.names.lookup y = some .local := by exact fun _ => rfl) (hz : ∀ k, (F k).env.scope.names.lookup z = some .local := by exact fun _ => rfl)
    (hw : ∀ k, swappedStores [.Tuple [.Name x px, .Name y py, .Name z pz] kt pt] (.Tuple [a, b, c] k2 pt2) (F k).env = pure (some [x, y, z]) := by exact fun _ => rfl)
    (hs : ∀ env, swapsWithSole [.Tuple [.Name x px, .Name y py, .Name z pz] kt pt] (.Tuple [a, b, c] k2 pt2) pos.line env = pure false := by exact fun _ => rfl) (hcold : S.cold = false := by rfl) :
    WS S F (.Assign [.Tuple [.Name x px, .Name y py, .Name z pz] kt pt] (.Tuple [a, b, c] k2 pt2) pos) (sPar3 i j l t) :=
  let ⟨ta, a1, a2⟩ := ha
  ⟨_, fun k hk => ps_par3 (hk.calm hcold) (hk.N ▸ hN) (hk.N ▸ hi) (hk.N ▸ hj) (hk.N ▸ hl) hij hil hjl (hx k) (hy k) (hz k) (a1 k hk) (hw k) (hs _), fun I δ μ σ H hJ SM hS D D' q u => a2 I δ μ σ H hJ SM hS _ _ q fun I1 ds vs μ1 H1 e1 S1 r1 q1 => by
    rcases r1 with _ | ⟨r1, _ | ⟨r2, _ | ⟨r3, _ | _⟩⟩⟩ <;> first | exact q1.elim | exact ⟨_, _, _, rfl, u.nx I1 _ _ μ1 H1 e1 S1 ((((hS.mono e1).set i r1).set j r2).set l r3) q1⟩⟩
/-- xs[i] = v, a list that changes -/
def gSetL (o i v : Dv) (μ : Mu) (Q : Mu → Prop) : Prop := match o, i with
  | .ref a, .int k => ∃ xs j, μ a = some (.lst xs) ∧ ixN xs.length k = some j ∧ Q (mset μ a (.lst (xs.set j v)))
  | _, _ => False
def dSubL (to ti : DE) : DG := fun v δ μ Q => to δ μ fun o μ1 => ti δ μ1 fun i μ2 => gSetL o i v μ2 fun μ3 => Q δ μ3
theorem wg_subL {o i : Expr} {to ti : DE} (ho : WE S F o to) (hi : WE S F i ti) (ha : ∀ env, ∀ v, assign (.Subscript o i pos) env v = (do
      let ov ← holding [v] (eval o env)
      let iv ← holding [v, ov] (eval i env)
      standAt pos
      holding [v, ov, iv] (setItem ov iv v)
      release [v, ov, iv] []) := by exact fun _ _ => rfl) : WG S F (.Subscript o i pos) (dSubL to ti) :=
  let ⟨ta, a1, a2⟩ := ho; let ⟨tb, b1, b2⟩ := hi
  ⟨_, fun k hk => pg_sub (a1 k hk) (b1 k hk) set_list (ha _), fun I δ μ σ H d v hJ SM hS r Q Q' q u => a2 I δ μ σ H hJ SM hS _ _ q fun I1 x vx μ1 H1 e1 S1 r1 q1 =>
    b2 I1 δ μ1 σ H1 (hJ.trans e1) S1 (hS.mono e1) _ _ q1 fun I2 y vy μ2 H2 e2 S2 r2 q2 => by
      have r3 := r.mono (e1.trans e2) _ _
      have r1' := r1.mono e2 _ _
      cases r1' <;> first | exact False.elim q2 | skip
      cases r2 <;> first | exact False.elim q2 | skip
      obtain ⟨xs, j, em, hj, q3⟩ := q2
      obtain ⟨ws, rw', hv⟩ := S2.memo em
      exact ⟨_, ws, _, j, rfl, rfl, hv, by rw [← rw'.length]; exact hj, u I2 _ _ _ _ (e1.trans e2) (S2.setM (m := .lst (xs.set j d)) (S2.mu _ _ em).1 ⟨_, rw'.set r3 j, upd_same⟩) (hS.mono (e1.trans e2)) q3⟩⟩

/-! ## what is walked -/
structure ItOk (K : PySem.W.Frag) (J : It) (I : Hp) (ds : List Dv) : Prop where
  go : ∀ i μ I' H, Same I I' → SatM K I' μ H → i < ds.length → J.go i H
  stop : ∀ μ I' H, Same I I' → SatM K I' μ H → J.stop ds.length H
  yld : ∀ i μ I' H x H' d, Same I I' → SatM K I' μ H → ds[i]? = some d → J.yld i H x H' → ∃ I'', Same I' I'' ∧ SatM K I'' μ H' ∧ Rep K I'' d x
abbrev DI := DSt → Mu → (List Dv → Mu → Prop) → Prop
def RI (S : Sg) (wi : TI) (t : DI) : Prop := ∀ I δ μ σ H, Same S.J I → SatM S.K I μ H → RepS S.K I δ σ → ∀ (Q : List Dv → Mu → Prop) (Q' : It → Hp → Prop), t δ μ Q →
  (∀ I' ds μ' H' J, Same I I' → SatM S.K I' μ' H' → ItOk S.K J I' ds → Q ds μ' → Q' J H') → wi σ H Q'
def WI (S : Sg) {ι : Type} (F : ι → Cx) (tg e : Expr) (t : DI) : Prop := ∃ te, (∀ i, Is S (F i) → PI (F i) tg e te) ∧ RI S te t
/-- a list or a tuple -/
def iSeq (K : PySem.W.Frag) (tl : TE) : TI := fun σ H R => tl σ H fun x H1 => ∃ a, x = .ref a ∧ (((∃ xs, SqL K H1 a xs) ∧ R (Itl K a) H1) ∨ ((∃ xs, SqT K H1 a xs) ∧ R (Itt K a) H1))
theorem pi_seq {X : Cx} {tg l : Expr} {tl : TE} (hl : PE X l tl) : PI X tg l (iSeq X.K tl) := by
  refine ⟨fun pins s σ H R I h => ?_⟩
  refine thn (hl.run pins s σ H _ I h) fun v s1 ⟨x, H1, I1, r1, q1⟩ => ?_
  obtain ⟨a, e, q1⟩ := q1
  subst e
  cases r1
  have fin : ∀ b ∈ [s1.heap.objs.size], FpOk X pins H1 b := fun b hb => by
    have e : b = s1.heap.objs.size := by simpa using hb
    subst e
    exact I1.fpOk (Nat.le_refl _) (I1.hok.fresh (Nat.le_refl _))
  rcases q1 with ⟨⟨xs, hq⟩, q⟩ | ⟨⟨xs, hq⟩, q⟩
  · obtain ⟨its, rv, p, hz⟩ := I1.list hq
    refine wpAny_pyIter_list p.isList ?_
    exact ⟨s1.heap.objs.size, [s1.heap.objs.size], _, _, H1, rfl, I1.kept (t' := s1.toks) fun b o e => Heap.get?_push_of_some _ e, turn_list a _, ⟨_, Heap.get?_push_size _ rfl, rfl, rfl⟩, fin, q⟩
  · obtain ⟨its, rv, p, hz⟩ := I1.tuple hq
    refine wpAny_pyIter_tuple (show s1.heap.IsTuple a its.toArray from p) ?_
    exact ⟨s1.heap.objs.size, [s1.heap.objs.size], _, _, H1, rfl, I1.kept (t' := s1.toks) fun b o e => Heap.get?_push_of_some _ e, turn_tuple a _, ⟨_, Heap.get?_push_size _ rfl, rfl, rfl⟩, fin, q⟩
def wSeq (t : DE) : DI := fun δ μ Q => t δ μ fun x μ1 => match x with | .tup xs => Q xs μ1 | .rot xs => Q xs μ1 | .lst xs => Q xs μ1 | .rol xs => Q xs μ1 | _ => False
theorem itl_ok {K : PySem.W.Frag} {I : Hp} {a : Addr} {vs : List V} {ds : List Dv} (h : SqL K I a vs) (r : RepL K I ds vs) : ItOk K (Itl K a) I ds := by
  refine ⟨fun i μ I' H e SM hi => ⟨vs, vs[i]'(r.length ▸ hi), same_l SM.ex (same_l e h), by simp⟩, fun μ I' H e SM => ⟨vs, same_l SM.ex (same_l e h), by rw [r.length]; exact Nat.le_refl _⟩, fun i μ I' H x H' d e SM hd hy => ?_⟩
  obtain ⟨rfl, hy⟩ := hy
  obtain ⟨v, h1, h2⟩ := r.get hd
  have h3 := hy vs (same_l SM.ex (same_l e h))
  rw [h1] at h3
  cases h3
  exact ⟨I', Same.refl _, SM, h2.mono e _ _⟩
theorem itt_ok {K : PySem.W.Frag} {I : Hp} {a : Addr} {vs : List V} {ds : List Dv} (h : SqT K I a vs) (r : RepL K I ds vs) : ItOk K (Itt K a) I ds := by
  refine ⟨fun i μ I' H e SM hi => ⟨vs, vs[i]'(r.length ▸ hi), same_t SM.ex (same_t e h), by simp⟩, fun μ I' H e SM => ⟨vs, same_t SM.ex (same_t e h), by rw [r.length]; exact Nat.le_refl _⟩, fun i μ I' H x H' d e SM hd hy => ?_⟩
  obtain ⟨rfl, hy⟩ := hy
  obtain ⟨v, h1, h2⟩ := r.get hd
  have h3 := hy vs (same_t SM.ex (same_t e h))
  rw [h1] at h3
  cases h3
  exact ⟨I', Same.refl _, SM, h2.mono e _ _⟩
theorem wi_seq {tg e : Expr} {t : DE} (he : WE S F e t) : WI S F tg e (wSeq t) :=
  let ⟨ta, a1, a2⟩ := he
  ⟨iSeq S.K ta, fun i hi => hi.K ▸ pi_seq (a1 i hi), fun I δ μ σ H hJ SM hS Q Q' q u => a2 I δ μ σ H hJ SM hS _ _ q fun I1 x vx μ1 H1 e1 S1 r1 q1 => by
    cases r1 <;> first | exact False.elim q1 | skip
    · rename_i h1 h2; exact ⟨_, rfl, .inr ⟨⟨_, .inl (.inl (S1.ex _ _ h1))⟩, u I1 _ μ1 H1 _ e1 S1 (itt_ok (.inl (.inl h1)) h2) q1⟩⟩
    · rename_i h1 h2; exact ⟨_, rfl, .inr ⟨⟨_, same_t S1.ex h1⟩, u I1 _ μ1 H1 _ e1 S1 (itt_ok h1 h2) q1⟩⟩
    · rename_i h1 h2; exact ⟨_, rfl, .inl ⟨⟨_, .inl (.inl (S1.ex _ _ h1))⟩, u I1 _ μ1 H1 _ e1 S1 (itl_ok (.inl (.inl h1)) h2) q1⟩⟩
    · rename_i h1 h2; exact ⟨_, rfl, .inl ⟨⟨_, same_l S1.ex h1⟩, u I1 _ μ1 H1 _ e1 S1 (itl_ok h1 h2) q1⟩⟩⟩
/-- a text, sign by sign -/
def signs (z : Str) : List Dv := z.cps.toList.map fun c => .str ⟨#[c]⟩
def wStr (t : DE) : DI := fun δ μ Q => t δ μ fun x μ1 => match x with | .str z => Q (signs z) μ1 | _ => False
theorem wi_str {tg e : Expr} {t : DE} (he : WE S F e t) : WI S F tg e (wStr t) :=
  let ⟨ta, a1, a2⟩ := he
  ⟨_, fun i hi => pi_str (a1 i hi), fun I δ μ σ H hJ SM hS Q Q' q u => a2 I δ μ σ H hJ SM hS _ _ q fun I1 x vx μ1 H1 e1 S1 r1 q1 => by
    cases r1 <;> first | exact False.elim q1 | skip
    rename_i z
    refine ⟨_, rfl, u I1 _ μ1 H1 _ e1 S1 ⟨fun i _ _ _ _ _ hi => ?_, fun _ _ _ _ _ => ?_, fun i μ I' H x H' d e SM hd hy => ?_⟩ q1⟩
    · show i < z.cps.size
      simpa [signs] using hi
    · show z.cps.size ≤ (signs z).length
      simp [signs]
    · obtain ⟨rfl, c, hc, rfl⟩ := hy
      have : d = .str ⟨#[c]⟩ := by
        have h2 : (signs z)[i]? = some (Dv.str ⟨#[c]⟩) := by
          have hc' : z.cps.toList[i]? = some c := by simpa using hc
          simp [signs, hc']
        rw [h2] at hd
        exact (Option.some.inj hd).symm
      subst this
      exact ⟨I', Same.refl _, SM, .str _⟩⟩
/-- range(n), range(a, b) -/
def irange (lo : Int) (n : Nat) : List Dv := (List.range n).map fun (i : Nat) => Dv.int (lo + (i : Int))
theorem itr_ok {K : PySem.W.Frag} {I : Hp} {lo : Int} {n : Nat} : ItOk K (Itr lo n) I (irange lo n) := by
  refine ⟨fun i _ _ _ _ _ hi => ?_, fun _ _ _ _ _ => ?_, fun i μ I' H x H' d e SM hd hy => ?_⟩
  · show i < n
    simpa [irange] using hi
  · show n ≤ (irange lo n).length
    simp [irange]
  · obtain ⟨rfl, rfl⟩ := hy
    have : d = .int (lo + (i : Int)) := by
      simp [irange, List.getElem?_map] at hd
      obtain ⟨j, hj, rfl⟩ := hd
      obtain ⟨h1, h2⟩ := List.getElem?_eq_some_iff.mp hj
      simp at h2
      subst h2
      rfl
    subst this
    exact ⟨I', Same.refl _, SM, .int _⟩
def wRng1 (t : DA) : DI := fun δ μ Q => t δ μ fun xs μ1 => match xs with | [.int j] => (-(2 ^ 62) ≤ j ∧ j < 2 ^ 62) ∧ Q (irange 0 j.toNat) μ1 | _ => False
def wRng2 (t : DA) : DI := fun δ μ Q => t δ μ fun xs μ1 => match xs with | [.int i, .int j] => (-(2 ^ 62) ≤ i ∧ i < 2 ^ 62 ∧ -(2 ^ 62) ≤ j ∧ j < 2 ^ 62) ∧ Q (irange i (j - i).toNat) μ1 | _ => False
theorem wi_rng1 {tg a : Expr} {t : DA} {p : Pos} (hm : S.mg "range" = none) (ha : WA S F [a] t) (hg : ∀ j, Gl (F j) "range" := by exact fun _ => rfl) (hs : ∀ env, starEach [a] env = [(false, eval a env)] := by exact fun _ => rfl) : WI S F tg (.Call (.Name "range" p) [a] [] pos) (wRng1 t) :=
  let ⟨ta, a1, a2⟩ := ha
  ⟨_, fun i hi => pi_range1 (hg i) (hi.mg ▸ hm) (a1 i hi) (hs _), fun I δ μ σ H hJ SM hS Q Q' q u => a2 I δ μ σ H hJ SM hS _ _ q fun I1 ds vs μ1 H1 e1 S1 r1 q1 => by
    cases r1 with
    | nil => exact q1.elim
    | cons r1 r2 =>
      cases r2 with
      | cons _ _ => cases r1 <;> exact False.elim q1
      | nil =>
        cases r1 <;> first | exact False.elim q1 | exact ⟨_, rfl, q1.1.1, q1.1.2, u I1 _ μ1 H1 _ e1 S1 itr_ok q1.2⟩⟩
theorem wi_rng2 {tg a b : Expr} {t : DA} {p : Pos} (hm : S.mg "range" = none) (ha : WA S F [a, b] t) (hg : ∀ j, Gl (F j) "range" := by exact fun _ => rfl) (hs : ∀ env, starEach [a, b] env = [(false, eval a env), (false, eval b env)] := by exact fun _ => rfl) (hs2 : ∀ env, starEach [b] env = [(false, eval b env)] := by exact fun _ => rfl) : WI S F tg (.Call (.Name "range" p) [a, b] [] pos) (wRng2 t) :=
  let ⟨ta, a1, a2⟩ := ha
  ⟨_, fun i hi => pi_range2 (hg i) (hi.mg ▸ hm) (a1 i hi) (hs _) (hs2 _), fun I δ μ σ H hJ SM hS Q Q' q u => a2 I δ μ σ H hJ SM hS _ _ q fun I1 ds vs μ1 H1 e1 S1 r1 q1 => by
    cases r1 with
    | nil => exact q1.elim
    | cons r1 r2 =>
      cases r2 with
      | nil => cases r1 <;> exact False.elim q1
      | cons r2 r3 =>
        cases r3 with
        | cons _ _ => cases r1 <;> first | exact False.elim q1 | (cases r2 <;> exact False.elim q1)
        | nil => cases r1 <;> first | exact False.elim q1 | (cases r2 <;> first | exact False.elim q1 | exact ⟨_, _, rfl, q1.1, u I1 _ μ1 H1 _ e1 S1 itr_ok q1.2⟩)⟩

/-! ## loops -/
def sLoop (g : DG) (tb : DS) : List Dv → DEnds → DSt → Mu → Prop
  | [], D, δ, μ => D.nx δ μ
  | d :: ds, D, δ, μ => g d δ μ fun δ1 μ1 => tb { nx := sLoop g tb ds D, ct := sLoop g tb ds D, bk := D.nx, rt := D.rt } δ1 μ1
def sFor (wi : DI) (g : DG) (tb : DS) : DS := fun D δ μ => wi δ μ fun ds μ1 => sLoop g tb ds D δ μ1
theorem ws_for {tg iter : Expr} {body : List Stmt} {wi : DI} {g : DG} {tb : DS} (hi : WI S F tg iter wi) (hg : WG S F tg g) (hb : WSs S F body tb) (hs : ∀ env, ∀ x, foldedSetIterable iter env x = pure x := by exact fun _ _ => rfl) (hcold : S.cold = false := by rfl) :
    WS S F (.For tg iter body [] pos) (sFor wi g tb) :=
  let ⟨ti, i1, i2⟩ := hi; let ⟨tg', g1, g2⟩ := hg; let ⟨tb', b1, b2⟩ := hb
  ⟨_, fun i h => ps_for h.own (h.calm hcold) (i1 i h) (g1 i h) (b1 i h) (hs _), fun I δ μ σ H hJ SM hS D D' q u => i2 I δ μ σ H hJ SM hS _ _ q fun I1 ds μ1 H1 J e1 S1 ok q1 => by
    refine ⟨fun i m σ' H' => m = ds.length - i ∧ i ≤ ds.length ∧ ∃ I' δ' μ', Same I1 I' ∧ SatM S.K I' μ' H' ∧ RepS S.K I' δ' σ' ∧ sLoop g tb (ds.drop i) D δ' μ', ⟨ds.length, by simp, Nat.zero_le _, I1, δ, μ1, Same.refl _, S1, hS.mono e1, by simpa using q1⟩, ?_⟩
    rintro i m σ' H' ⟨rfl, hle, I', δ', μ', e', S', R', q'⟩
    by_cases hlt : i < ds.length
    · refine .inr ⟨ok.go i μ' I' H' e' S' hlt, fun σ2 H2 => ∃ I2 δ2 μ2, Same I1 I2 ∧ SatM S.K I2 μ2 H2 ∧ RepS S.K I2 δ2 σ2 ∧ sLoop g tb (ds.drop (i + 1)) D δ2 μ2, fun σ2 H2 w => ⟨ds.length - (i + 1), by omega, rfl, hlt, w⟩, fun x H2 hy => ?_⟩
      have hd : ds[i]? = some ds[i] := by simp [hlt]
      obtain ⟨I2, e2, S2, r2⟩ := ok.yld i μ' I' H' x H2 _ e' S' hd hy
      rw [List.drop_eq_getElem_cons hlt] at q'
      have hJ2 := (hJ.trans e1).trans (e'.trans e2)
      refine g2 I2 δ' μ' σ' H2 _ _ hJ2 S2 (R'.mono e2) r2 _ _ q' fun I3 δ3 σ3 μ3 H3 e3 S3 R3 q3 => ?_
      have e13 := (e'.trans e2).trans e3
      refine b2 I3 δ3 μ3 σ3 H3 (hJ2.trans e3) S3 R3 _ _ q3 ⟨?_, ?_, ?_, ?_⟩
      · exact fun I4 δ4 σ4 μ4 H4 e4 S4 R4 q4 => ⟨I4, δ4, μ4, e13.trans e4, S4, R4, q4⟩
      · exact u.rt.mono (e1.trans e13)
      · exact u.nx.mono (e1.trans e13)
      · exact fun I4 δ4 σ4 μ4 H4 e4 S4 R4 q4 => ⟨I4, δ4, μ4, e13.trans e4, S4, R4, q4⟩
    · have e : i = ds.length := by omega
      subst e
      rw [List.drop_length] at q'
      exact .inl ⟨ok.stop μ' I' H' e' S', u.nx I' δ' σ' μ' H' (e1.trans e') S' R' q'⟩⟩
def sTimes (c : DT) (tb : DS) : Nat → DEnds → DSt → Mu → Prop
  | 0, _, _, _ => False
  | n + 1, D, δ, μ => c δ μ fun b μ1 => if b = true then tb { nx := sTimes c tb n D, ct := sTimes c tb n D, bk := D.nx, rt := D.rt } δ μ1 else D.nx δ μ1
def sWhile (c : DT) (tb : DS) : DS := fun D δ μ => ∃ n, sTimes c tb n D δ μ
theorem ws_while {c : Expr} {body : List Stmt} {sc : DT} {tb : DS} (hc : WT S F c sc) (hb : WSs S F body tb) : WS S F (.While c body [] pos) (sWhile sc tb) :=
  let ⟨tc, c1, c2⟩ := hc; let ⟨tb', b1, b2⟩ := hb
  ⟨_, fun i h => ps_while h.own (c1 i h) (b1 i h), fun I δ μ σ H hJ SM hS D D' q u => by
    obtain ⟨n, q⟩ := q
    refine ⟨fun m σ' H' => ∃ I' δ' μ', Same I I' ∧ SatM S.K I' μ' H' ∧ RepS S.K I' δ' σ' ∧ sTimes sc tb m D δ' μ', ⟨n, I, δ, μ, Same.refl _, SM, hS, q⟩, ?_⟩
    rintro m σ' H' ⟨I', δ', μ', e', S', R', q'⟩
    cases m with
    | zero => exact q'.elim
    | succ m =>
      refine c2 I' δ' μ' σ' H' (hJ.trans e') S' R' _ _ q' fun I1 b μ1 H1 e1 S1 q1 => ?_
      have e11 := e'.trans e1
      cases b with
      | true =>
        rw [if_pos rfl] at q1 ⊢
        refine ⟨fun σ2 H2 => ∃ I2 δ2 μ2, Same I I2 ∧ SatM S.K I2 μ2 H2 ∧ RepS S.K I2 δ2 σ2 ∧ sTimes sc tb m D δ2 μ2, fun σ2 H2 w => ⟨m, Nat.lt_succ_self _, w⟩, ?_⟩
        refine b2 I1 δ' μ1 σ' H1 (hJ.trans e11) S1 (R'.mono e1) _ _ q1 ⟨?_, ?_, ?_, ?_⟩
        · exact fun I4 δ4 σ4 μ4 H4 e4 S4 R4 q4 => ⟨I4, δ4, μ4, e11.trans e4, S4, R4, q4⟩
        · exact u.rt.mono e11
        · exact u.nx.mono e11
        · exact fun I4 δ4 σ4 μ4 H4 e4 S4 R4 q4 => ⟨I4, δ4, μ4, e11.trans e4, S4, R4, q4⟩
      | false =>
        rw [if_neg Bool.false_ne_true] at q1 ⊢
        exact u.nx I1 _ _ μ1 H1 e11 S1 (R'.mono e1) q1⟩
end
end Wl

set_option Elab.async false
set_option linter.all false
set_option maxRecDepth 100000
set_option maxHeartbeats 2000000
namespace Wl
open PySem L2
open PySem.Spec PyProof.Rows
/-! ## comprehensions -/
def dwipe (δ : DSt) : List Nat → DSt
  | [] => δ
  | v :: vs => (dwipe δ vs).set v none
theorem RepS.wipe {K : PySem.W.Frag} {I : Hp} {δ : DSt} {σ : L2.St} (r : RepS K I δ σ) : ∀ vs : List Nat, RepS K I (dwipe δ vs) (L2.wipe σ vs)
  | [] => r
  | v :: vs => by
    have h := RepS.wipe r vs
    refine ⟨by show ((dwipe δ vs).set v none).length = ((L2.wipe σ vs).set v none).length; rw [List.length_set, List.length_set, h.len], fun i d e => ?_⟩
    have e' : ((dwipe δ vs).set v none)[i]? = some (some d) := e
    show ∃ x, ((L2.wipe σ vs).set v none)[i]? = some (some x) ∧ _
    rw [List.getElem?_set] at e' ⊢
    by_cases hv : v = i
    · rw [if_pos hv] at e'
      split at e' <;> cases e'
    · rw [if_neg hv] at e' ⊢
      exact h.at_ i d e'
theorem wipe_get {σ : L2.St} {i : Nat} : ∀ {vs : List Nat}, i ∉ vs → (L2.wipe σ vs)[i]? = σ[i]?
  | [], _ => rfl
  | v :: vs, h => by
    show ((L2.wipe σ vs).set v none)[i]? = _
    rw [List.getElem?_set_ne (fun e => h (by simp [e]))]
    exact wipe_get fun e => h (List.mem_cons_of_mem _ e)
theorem wipe_in {σ : L2.St} {i : Nat} : ∀ {vs : List Nat}, i ∈ vs → (L2.wipe σ vs)[i]? = if i < σ.length then some none else none
  | v :: vs, h => by
    show ((L2.wipe σ vs).set v none)[i]? = _
    rw [List.getElem?_set, wipe_length]
    by_cases hv : v = i
    · subst hv; simp
    · rw [if_neg hv]
      exact wipe_in (by simpa [Ne.symm hv] using h)
theorem wipe_set {σ : L2.St} {i : Nat} {x : Option V} {vs : List Nat} (h : i ∈ vs) : L2.wipe (σ.set i x) vs = L2.wipe σ vs := by
  apply List.ext_getElem?
  intro j
  by_cases hj : j ∈ vs
  · rw [wipe_in hj, wipe_in hj, List.length_set]
  · rw [wipe_get hj, wipe_get hj, List.getElem?_set_ne (fun (e : i = j) => hj (e ▸ h))]
theorem wipe_wipe {σ : L2.St} {vs : List Nat} : L2.wipe (L2.wipe σ vs) vs = L2.wipe σ vs := by
  apply List.ext_getElem?
  intro j
  by_cases hj : j ∈ vs
  · rw [wipe_in hj, wipe_in hj, wipe_length]
  · rw [wipe_get hj]
section
variable {S : Sg} {ι : Type} {F : ι → Cx} {pos : Pos}
def RGv (S : Sg) (vs : List Nat) (g : TG) (t : DG) : Prop := ∀ I δ μ σ H d v, Same S.J I → SatM S.K I μ H → RepS S.K I δ σ → Rep S.K I d v → ∀ (Q : DSt → Mu → Prop) (Q' : L2.St → Hp → Prop), t d δ μ Q →
  (∀ I' δ' σ' μ' H', Same I I' → SatM S.K I' μ' H' → RepS S.K I' δ' σ' → L2.wipe σ' vs = L2.wipe σ vs → Q δ' μ' → Q' σ' H') → g v σ H Q'
def RGsv (S : Sg) (vs : List Nat) (g : TGs) (t : DGs) : Prop := ∀ I δ μ σ H ds us, Same S.J I → SatM S.K I μ H → RepS S.K I δ σ → RepL S.K I ds us → ∀ (Q : DSt → Mu → Prop) (Q' : L2.St → Hp → Prop), t ds δ μ Q →
  (∀ I' δ' σ' μ' H', Same I I' → SatM S.K I' μ' H' → RepS S.K I' δ' σ' → L2.wipe σ' vs = L2.wipe σ vs → Q δ' μ' → Q' σ' H') → g us σ H Q'
def WGv (S : Sg) {ι : Type} (F : ι → Cx) (vs : List Nat) (e : Expr) (t : DG) : Prop := ∃ te, (∀ i, Is S (F i) → PG (F i) e te) ∧ RGv S vs te t
def WGsv (S : Sg) {ι : Type} (F : ι → Cx) (vs : List Nat) (es : List Expr) (t : DGs) : Prop := ∃ te, (∀ i, Is S (F i) → PGs (F i) es te) ∧ RGsv S vs te t
theorem wgv_name (i : Nat) {vs : List Nat} {x : Str} (hN : S.N.Nodup) (hi : S.N[i]? = some x := by rfl) (hv : i ∈ vs := by decide) (hx : ∀ j, Loc (F j).env.scope x := by first | exact fun _ => .inl rfl | exact fun _ => .inr rfl)
    (hf : ∀ j, (F j).fn x = true ∨ (F j).env.scope.names.lookup x = some .local := by first | exact fun _ => .inl rfl | exact fun _ => .inr rfl) : WGv S F vs (.Name x pos) (dName i) :=
  ⟨_, fun j hj => pg_name (hj.N ▸ hN) (hj.N ▸ hi) (hx j) (hf j), fun I δ μ σ H d v hJ SM hS r Q Q' q u => u I _ _ μ H (Same.refl I) SM (hS.set i r) (wipe_set hv) q⟩
theorem wgsv_nil {vs : List Nat} : WGsv S F vs [] dNil := ⟨_, fun _ _ => pgs_nil, fun I δ μ σ H ds us hJ SM hS r Q Q' q u => by
  cases r with
  | nil => exact ⟨rfl, u I δ σ μ H (Same.refl I) SM hS rfl q⟩
  | cons _ _ => exact q.elim⟩
theorem wgsv_cons {vs : List Nat} {e : Expr} {es : List Expr} {t : DG} {u : DGs} (h1 : WGv S F vs e t) (h2 : WGsv S F vs es u) (hs : ∀ env, (assignEach (e :: es) env).map (·.2) = assign e env :: (assignEach es env).map (·.2) := by exact fun _ => rfl) : WGsv S F vs (e :: es) (dCons t u) :=
  let ⟨a, a1, a2⟩ := h1; let ⟨b, b1, b2⟩ := h2
  ⟨_, fun i hi => pgs_cons (a1 i hi) (b1 i hi) (hs _), fun I δ μ σ H ds us hJ SM hS r Q Q' q u => by
    cases r with
    | nil => exact q.elim
    | cons r1 r2 => exact ⟨_, _, rfl, a2 I δ μ σ H _ _ hJ SM hS r1 _ _ q fun I1 δ1 σ1 μ1 H1 e1 S1 R1 w1 q1 => b2 I1 δ1 μ1 σ1 H1 _ _ (hJ.trans e1) S1 R1 (r2.mono e1 _ _) _ _ q1 fun I2 δ2 σ2 μ2 H2 e2 S2 R2 w2 q2 => u I2 δ2 σ2 μ2 H2 (e1.trans e2) S2 R2 (w2.trans w1) q2⟩⟩
theorem wgv_tup {vs : List Nat} {es : List Expr} {k : Nat} {t : DGs} {n : Nat} (h : WGsv S F vs es t) (hn : ∀ env, (assignEach es env).length = n := by exact fun _ => rfl) (hst : ∀ env, (assignEach es env).findIdx? (·.1) = none := by exact fun _ => rfl) (hcold : S.cold = false := by rfl) : WGv S F vs (.Tuple es k pos) (dTup n t) :=
  let ⟨a, a1, a2⟩ := h
  ⟨gTup S.K n a, fun i hi => hi.K ▸ pg_tup (hi.calm hcold) (a1 i hi) (hn _) (hst _), fun I δ μ σ H d v hJ SM hS r Q Q' q u => by
    cases r <;> first | exact False.elim q | skip
    · rename_i h1 h2
      exact ⟨_, _, rfl, .inl (.inl (SM.ex _ _ h1)), by rw [← h2.length]; exact q.1, a2 I δ μ σ H _ _ hJ SM hS h2 _ _ q.2 u⟩
    · rename_i h1 h2
      exact ⟨_, _, rfl, same_t SM.ex h1, by rw [← h2.length]; exact q.1, a2 I δ μ σ H _ _ hJ SM hS h2 _ _ q.2 u⟩⟩
/-- the tests of a comprehension -/
def WTs (S : Sg) {ι : Type} (F : ι → Cx) (es : List Expr) (t : DT) : Prop := ∃ te, (∀ i, Is S (F i) → PTs (F i) es te) ∧ RT S te t
def vYes : DT := fun _ μ Q => Q true μ
theorem wts_nil : WTs S F [] vYes := ⟨_, fun _ _ => pts_nil, fun I δ μ σ H hJ SM hS Q Q' q u => u I true μ H (Same.refl I) SM q⟩
theorem wts_one {e : Expr} {t : DT} (h : WT S F e t) : WTs S F [e] t := let ⟨te, h1, h2⟩ := h; ⟨te, fun i hi => pts_one (h1 i hi), h2⟩
/-- a block's record: nothing leaves it -/
def Sg.blk (S : Sg) : Sg := { S with W := fun _ _ _ _ => False, E2 := fun _ _ _ _ => False, tr := fun _ _ _ _ _ _ _ _ _ _ q => q }
abbrev BlkI (ι : Type) := ι × Shared × Hp × Addr × List (Str × Addr) × List Addr
abbrev blkF {ι : Type} (F : ι → Cx) (scope : Scope) : BlkI ι → Cx := fun p => (F p.1).blk p.2.1 p.2.2.1 scope (compEnvC scope p.2.2.2.2.1 p.2.2.2.1 (F p.1).env) p.2.2.2.2.2
theorem Is.blk {X : Cx} (h : Is S X) (s : Shared) (H : Hp) (scope : Scope) (cenv : Env) (fp : List Addr) : Is S.blk (X.blk s H scope cenv fp) :=
  ⟨h.prog, h.w, h.K, h.mg, h.base, h.N, h.calm, h.room, L2.takes0, PassesOwn.never, h.units⟩
def vLoop (vs : List Nat) (g : DG) (tt : DT) (te : DE) (δ : DSt) (D : Addr) : List Dv → Mu → (List Dv → Mu → Prop) → Prop
  | [], μ, Q => ∃ acc, μ D = some (.lst acc) ∧ Q acc μ
  | d :: ds, μ, Q => g d (dwipe δ vs) μ fun δ1 μ1 => tt δ1 μ1 fun b μ2 => if b = true then te δ1 μ2 fun y μ3 => ∃ acc, μ3 D = some (.lst acc) ∧ acc.length < sizeLine ∧ vLoop vs g tt te δ D ds (mset μ3 D (.lst (acc ++ [y]))) Q else vLoop vs g tt te δ D ds μ2 Q
def vComp (vs : List Nat) (wi : DI) (g : DG) (tt : DT) (te : DE) : DE := fun δ μ Q => wi δ μ fun ds μ1 => ∀ D, μ1 D = none → vLoop vs g tt te δ D ds (mset μ1 D (.lst [])) fun acc μ2 => Q (.lst acc) (mdel μ2 D)
/-- a new list that will change -/
def vCompM (vs : List Nat) (wi : DI) (g : DG) (tt : DT) (te : DE) : DE := fun δ μ Q => wi δ μ fun ds μ1 => ∀ D, μ1 D = none → vLoop vs g tt te δ D ds (mset μ1 D (.lst [])) fun _ μ2 => Q (.ref D) μ2
theorem re_comp0 {vs : List Nat} {ti : TI} {wi : DI} {tg : TG} {g : DG} {t1 : TT} {tt : DT} {t2 : TE} {te : DE} (i2 : RI S ti wi) (g2 : RGv S.blk vs tg g) (b2 : RT S.blk t1 tt) (c2 : RE S.blk t2 te) (P : Addr → List Dv → Mu → Prop) :
    ∀ I δ μ σ H, Same S.J I → SatM S.K I μ H → RepS S.K I δ σ → ∀ (Q' : VK), (wi δ μ fun ds μ1 => ∀ D, μ1 D = none → vLoop vs g tt te δ D ds (mset μ1 D (.lst [])) (P D)) →
      (∀ I' D acc μ' H', Same I I' → SatM S.K I' μ' H' → μ' D = some (.lst acc) → P D acc μ' → Q' (.ref D) H') → tLc ti tg t1 t2 vs σ H Q' :=
  fun I δ μ σ H hJ SM hS Q' q u => i2 I δ μ σ H hJ SM hS _ _ q fun I1 ds μ1 H1 J e1 S1 ok q1 D hD => by
    refine ⟨fun i m H' => m = ds.length - i ∧ i ≤ ds.length ∧ ∃ I' μ', Same I1 I' ∧ SatM S.K I' μ' H' ∧ vLoop vs g tt te δ D (ds.drop i) μ' (P D),
      ⟨ds.length, by simp, Nat.zero_le _, I1, _, Same.refl _, S1.setM (m := .lst []) (S1.ex.free hD) ⟨[], .nil, upd_same⟩, by simpa using q1 D (S1.muNone hD)⟩, ?_⟩
    rintro i m H' ⟨rfl, hle, I', μ', e', S', q'⟩
    by_cases hlt : i < ds.length
    · refine .inr ⟨ok.go i μ' I' H' e' S' hlt, fun H2 => ∃ I2 μ2, Same I1 I2 ∧ SatM S.K I2 μ2 H2 ∧ vLoop vs g tt te δ D (ds.drop (i + 1)) μ2 (P D),
        fun H2 w => ⟨ds.length - (i + 1), by omega, rfl, hlt, w⟩, fun x H2 hy => ?_⟩
      have hd : ds[i]? = some ds[i] := by simp [hlt]
      obtain ⟨I2, e2, S2, r2⟩ := ok.yld i μ' I' H' x H2 _ e' S' hd hy
      rw [List.drop_eq_getElem_cons hlt] at q'
      have hJ2 := (hJ.trans e1).trans (e'.trans e2)
      refine g2 I2 _ μ' _ H2 _ _ hJ2 S2 ((hS.mono (e1.trans (e'.trans e2))).wipe vs) r2 _ _ q' fun I3 δ3 σ3 μ3 H3 e3 S3 R3 w3 q3 => ⟨w3.trans wipe_wipe, ?_⟩
      refine b2 I3 δ3 μ3 σ3 H3 (hJ2.trans e3) S3 R3 _ _ q3 fun I4 b μ4 H4 e4 S4 q4 => ?_
      have e14 := ((e'.trans e2).trans e3).trans e4
      cases b with
      | false =>
        rw [if_neg Bool.false_ne_true] at q4 ⊢
        exact ⟨I4, μ4, e14, S4, q4⟩
      | true =>
        rw [if_pos rfl] at q4 ⊢
        refine c2 I4 δ3 μ4 σ3 H4 ((hJ2.trans e3).trans e4) S4 (R3.mono e4) _ _ q4 fun I5 y vy μ5 H5 e5 S5 r5 q5 => ?_
        obtain ⟨acc, em, hl, q6⟩ := q5
        obtain ⟨vs', rl, hv⟩ := S5.memo em
        refine ⟨vs', hv, by rw [← rl.length]; exact hl, I5, _, e14.trans e5, S5.setM (m := .lst (acc ++ [y])) (S5.mu _ _ em).1 ⟨_, rl.append (.cons r5 .nil), upd_same⟩, q6⟩
    · have e : i = ds.length := by omega
      subst e
      rw [List.drop_length] at q'
      obtain ⟨acc, em, q6⟩ := q'
      exact .inl ⟨ok.stop μ' I' H' e' S', u I' D acc μ' H' (e1.trans e') S' em q6⟩
theorem re_comp {vs : List Nat} {ti : TI} {wi : DI} {tg : TG} {g : DG} {t1 : TT} {tt : DT} {t2 : TE} {te : DE} (i2 : RI S ti wi) (g2 : RGv S.blk vs tg g) (b2 : RT S.blk t1 tt) (c2 : RE S.blk t2 te) : RE S (tLc ti tg t1 t2 vs) (vComp vs wi g tt te) :=
  fun I δ μ σ H hJ SM hS Q Q' q u => re_comp0 i2 g2 b2 c2 (fun D acc μ2 => Q (.lst acc) (mdel μ2 D)) I δ μ σ H hJ SM hS Q' q fun I' D acc μ' H' e' S' em q' => by
    obtain ⟨vs', rl, s1, s2⟩ := S'.freeze em
    exact u _ _ _ _ H' (e'.trans s1) s2 (.lst upd_same (rl.mono s1 _ _)) q'
theorem re_compM {vs : List Nat} {ti : TI} {wi : DI} {tg : TG} {g : DG} {t1 : TT} {tt : DT} {t2 : TE} {te : DE} (i2 : RI S ti wi) (g2 : RGv S.blk vs tg g) (b2 : RT S.blk t1 tt) (c2 : RE S.blk t2 te) : RE S (tLc ti tg t1 t2 vs) (vCompM vs wi g tt te) :=
  fun I δ μ σ H hJ SM hS Q Q' q u => re_comp0 i2 g2 b2 c2 (fun D _ μ2 => Q (.ref D) μ2) I δ μ σ H hJ SM hS Q' q fun I' D acc μ' H' e' S' em q' => u _ _ _ _ H' e' S' (.ref D) q'
theorem we_comp {elt tg iter : Expr} {ifs : List Expr} {scope : Scope} {own : List (Str × Nat)} {wi : DI} {g : DG} {tt : DT} {te : DE} (hN : S.N.Nodup) (hi : WI S F tg iter wi) (ok : ∀ i, BlkOk S.N (F i).env.scope scope own)
    (hg : WGv S.blk (blkF F scope) (own.map (·.2)) tg g) (ht : WTs S.blk (blkF F scope) ifs tt) (he : WE S.blk (blkF F scope) elt te) (hs : ∀ env, ∀ x, foldedSetIterable iter env x = pure x := by exact fun _ _ => rfl) (hcold : S.cold = false := by rfl) :
    WE S F (.ListComp elt [⟨tg, iter, ifs, 0⟩] scope pos) (vComp (own.map (·.2)) wi g tt te) :=
  let ⟨ti, i1, i2⟩ := hi; let ⟨tg', g1, g2⟩ := hg; let ⟨t1, b1, b2⟩ := ht; let ⟨t2, c1, c2⟩ := he
  ⟨_, fun i h => pe_lc (h.calm hcold) (h.N ▸ hN) (i1 i h) (h.N ▸ ok i) (fun s H C cl fp => g1 (i, s, H, C, cl, fp) (h.blk s H scope _ fp)) (fun s H C cl fp => b1 (i, s, H, C, cl, fp) (h.blk s H scope _ fp)) (fun s H C cl fp => c1 (i, s, H, C, cl, fp) (h.blk s H scope _ fp)) (hs _), re_comp i2 g2 b2 c2⟩
theorem we_compM {elt tg iter : Expr} {ifs : List Expr} {scope : Scope} {own : List (Str × Nat)} {wi : DI} {g : DG} {tt : DT} {te : DE} (hN : S.N.Nodup) (hi : WI S F tg iter wi) (ok : ∀ i, BlkOk S.N (F i).env.scope scope own)
    (hg : WGv S.blk (blkF F scope) (own.map (·.2)) tg g) (ht : WTs S.blk (blkF F scope) ifs tt) (he : WE S.blk (blkF F scope) elt te) (hs : ∀ env, ∀ x, foldedSetIterable iter env x = pure x := by exact fun _ _ => rfl) (hcold : S.cold = false := by rfl) :
    WE S F (.ListComp elt [⟨tg, iter, ifs, 0⟩] scope pos) (vCompM (own.map (·.2)) wi g tt te) :=
  let ⟨ti, i1, i2⟩ := hi; let ⟨tg', g1, g2⟩ := hg; let ⟨t1, b1, b2⟩ := ht; let ⟨t2, c1, c2⟩ := he
  ⟨_, fun i h => pe_lc (h.calm hcold) (h.N ▸ hN) (i1 i h) (h.N ▸ ok i) (fun s H C cl fp => g1 (i, s, H, C, cl, fp) (h.blk s H scope _ fp)) (fun s H C cl fp => b1 (i, s, H, C, cl, fp) (h.blk s H scope _ fp)) (fun s H C cl fp => c1 (i, s, H, C, cl, fp) (h.blk s H scope _ fp)) (hs _), re_compM i2 g2 b2 c2⟩
/-! ## what is mutable becomes fixed where it is read: a name, an attribute .. -/
def vFrz (t : DE) : DE := fun δ μ Q => t δ μ fun x μ1 => match x with | .ref a => ∃ xs, μ1 a = some (.lst xs) ∧ Q (.lst xs) (mdel μ1 a) | _ => False
theorem we_frz {e : Expr} {t : DE} (h : WE S F e t) : WE S F e (vFrz t) :=
  let ⟨te, h1, h2⟩ := h
  ⟨te, h1, fun I δ μ σ H hJ SM hS Q Q' q u => h2 I δ μ σ H hJ SM hS _ _ q fun I1 x vx μ1 H1 e1 S1 r1 q1 => by
    cases r1 <;> first | exact False.elim q1 | skip
    obtain ⟨xs, em, q2⟩ := q1
    obtain ⟨vs', rl, s1, s2⟩ := S1.freeze em
    exact u _ _ _ _ H1 (e1.trans s1) s2 (.lst upd_same (rl.mono s1 _ _)) q2⟩
end
end Wl

set_option Elab.async false
set_option linter.all false
set_option maxRecDepth 100000
set_option maxHeartbeats 2000000
namespace Wl
open PySem L2
open PySem.Spec PyProof.Rows
/-! ## defs -/
abbrev Sp2 := List Dv → Mu → DV → DX → Prop
def UpX (K : PySem.W.Frag) (I : Hp) (E : DX) (E' : XK) : Prop := ∀ I' C d μ' H', Same I I' → SatM K I' μ' H' → E C d μ' → E' (.ref C) d H'
def toSp (K : PySem.W.Frag) (sp : Sp2) : Sp := fun vs H Q E => ∃ I ds μ Q2 E2, SatM K I μ H ∧ RepL K I ds vs ∧ sp ds μ Q2 E2 ∧ Up K I Q2 Q ∧ UpX K I E2 E
/-- a def's promise by deep values -/
abbrev Ok (P : Program) (w : World) (K : PySem.W.Frag) (mg : Str → Option Value) (base : Heap) (k : Nat) (f : Addr) (fd : FuncData) (ps : List Str) (sp : Sp2) : Prop := FnOk P w K mg base (L2.CX P w) k f fd ps (toSp K sp)
def dstart (N : List Str) (ds : List Dv) : DSt := ds.map some ++ List.replicate (N.length - ds.length) none
theorem RepL.start {K : PySem.W.Frag} {I : Hp} {ds : List Dv} {vs : List V} (r : RepL K I ds vs) (N : List Str) : RepS K I (dstart N ds) (L2.start N vs) := by
  refine ⟨by simp [dstart, L2.start, r.length], fun i d e => ?_⟩
  unfold dstart at e
  unfold L2.start
  have hl := r.length
  by_cases hi : i < ds.length
  · rw [List.getElem?_append_left (by simpa using hi), List.getElem?_map] at e
    rw [List.getElem?_append_left (by simpa [← hl] using hi), List.getElem?_map]
    cases h : ds[i]? with
    | none => rw [h] at e; cases e
    | some d' =>
      rw [h] at e
      cases e
      obtain ⟨v, h1, h2⟩ := r.get h
      exact ⟨v, by rw [h1]; rfl, h2⟩
  · rw [List.getElem?_append_right (by simpa using Nat.le_of_not_lt hi)] at e
    have := List.mem_of_getElem? e
    simp at this
section
variable {S : Sg} {ι : Type} {F : ι → Cx} {pos : Pos}
def vCall (sp : Sp2) (dds : List Dv) (E2 : DXS) (t : DA) : DE := fun δ μ Q => t δ μ fun xs μ1 => sp (xs ++ dds) μ1 Q fun C d μ2 => E2 C d δ μ2
theorem sp_run {sp : Sp2} {I1 : Hp} {δ : DSt} {σ : L2.St} {μ1 : Mu} {H1 : Hp} {ds : List Dv} {vs : List V} {Q : DV} {Q' : VK} (hJ : Same S.J I1) (S1 : SatM S.K I1 μ1 H1) (hS : RepS S.K I1 δ σ) (r : RepL S.K I1 ds vs) (q : sp ds μ1 Q fun C d μ2 => S.E2 C d δ μ2) (u : Up S.K I1 Q Q') :
    toSp S.K sp vs H1 Q' (L2.WE S.W σ) := ⟨I1, ds, μ1, Q, _, S1, r, q, u, fun I' C d μ' H' e' S' q' => S.tr I' C d δ μ' σ H' (hJ.trans e') S' (hS.mono e') q'⟩
theorem we_call {x : Str} {f : Addr} {fd : FuncData} {ps : List Str} {sp : Sp2} {dds : List Dv} {dvs : List V} {dus : List Value} {j : Nat} {e : Expr} {es : List Expr} {t : DA} {p : Pos} (Fn : Ok S.P S.w S.K S.mg S.base j f fd ps sp) (hm : S.mg x = some (.ref f)) (hk : PySem.W.keepIn S.K (.ref f) = true) (hb : Binds S.K fd ps dus) (hd : Vals dvs dus) (hdd : ∀ I, RepL S.K I dds dvs)
    (hj : j ≤ S.k) (ha : WA S F (e :: es) t) (hg : ∀ j, Gl (F j) x := by exact fun _ => rfl)
    (hdb : (x == ("__debug__" : Str)) = false := by decide) (he : ∀ env, starEach (e :: es) env = (false, eval e env) :: starEach es env := by exact fun _ => rfl) (hpl : ∀ env, (backTo pos (starEach es env)).any (·.1) = false := by exact fun _ => rfl) (hcold : S.cold = false := by rfl) :
    WE S F (.Call (.Name x p) (e :: es) [] pos) (vCall sp dds S.E2 t) :=
  let ⟨ta, a1, a2⟩ := ha
  ⟨tCallSD (toSp S.K sp) dvs (L2.WE S.W) ta, fun i hi => by
    obtain ⟨P, w, K, mg, base, k, N, J, W, E2, tr, cold⟩ := S
    obtain ⟨h1, h2, h3, h4, h5, h6, h7, h8, h9, h10, h11⟩ := id hi
    have r8 := h8 hcold
    dsimp only at h1 h2 h3 h4 h5 h6 r8 h9 Fn hm hk hb hj hdd a2 ⊢
    subst h1 h2 h3 h4 h5
    exact pe_callSD Fn (r8.mono hj) (hg i) hm hk hb hd (fun σ => passAt h9 σ) (a1 i hi) hdb (he _) (hpl _),
   fun I δ μ σ H hJ SM hS Q Q' q u => a2 I δ μ σ H hJ SM hS _ _ q fun I1 ds vs μ1 H1 e1 S1 r1 q1 =>
    sp_run (hJ.trans e1) S1 (hS.mono e1) (r1.append (hdd I1)) q1 (u.mono e1)⟩
end
/-- a def's body and its promise -/
theorem ok_def {P : Program} {w : World} {K : PySem.W.Frag} {mg : Str → Option Value} {base : Heap} {x qual : Str} {st : Stmt} {f : Addr} {fd : FuncData} {N ps : List Str} {k : Nat} {sp : Sp2} (Fn : Fun K x qual st f fd) (Sc : FnScope N ps (defScope st))
    (t : DXS → DS) (hsp : ∀ ds μ Q E, sp ds μ Q E → ds.length = ps.length ∧ t (fun C d _ μ => E C d μ) { nx := fun _ μ' => Q .non μ', rt := Q } (dstart N ds) μ)
    (body : ∀ (cdv : Value) (A : Around) (outer : List Env) (s : Shared) (H : Hp) (E : XK) (J : Hp) (W : WX) (E2 : DXS) tr, WSs ⟨P, w, K, mg, base, k, N, J, W, E2, tr, false⟩ (fun _ : Unit => cxOf (L2.CX P w) P w K mg base N qual (defScope st) f cdv A outer s H E) (defBody st) (t E2)) :
    Ok P w K mg base (k + 1) f fd ps sp := by
  refine Fn.okX Sc (fun vs H Q E h => ?_) (fun cdv A outer s H vs Q E hr h => ?_)
  · obtain ⟨I, ds, μ, Q2, E2, _, r, h, _⟩ := h
    rw [← r.length]
    exact (hsp ds μ Q2 E2 h).1
  · obtain ⟨I, ds, μ, Q2, E2, SM, r, h, u, ux⟩ := h
    obtain ⟨ts, h1, h2⟩ := body cdv A outer s H E I (fun cls d _ H => E cls d H) (fun C d _ μ => E2 C d μ) (fun I' C d δ μ' σ H' e' S' R' q' => ux I' C d μ' H' e' S' q')
    refine ⟨ts, h1 () ⟨rfl, rfl, rfl, rfl, rfl, rfl, fun _ => rfl, fun _ => hr, takes_of rfl rfl rfl rfl, passes_of rfl, hr.units⟩, ?_⟩
    refine h2 I _ μ _ H (Same.refl I) SM (r.start N) _ _ (hsp ds μ Q2 E2 h).2 ⟨?_, u, ?_, ?_⟩
    · exact fun I' δ' σ' μ' H' e' S' R' q' => u I' .non .non μ' H' e' S' .non q'
    · exact fun _ _ _ _ _ _ _ _ q' => q'.elim
    · exact fun _ _ _ _ _ _ _ _ q' => q'.elim
end Wl
namespace Wl
open PySem L2
/-- the promise that a body gives as it stands -/
def spOf (n : Nat) (N : List Str) (t : DXS → DS) : Sp2 := fun ds μ Q E => ds.length = n ∧ t (fun C d _ μ => E C d μ) { nx := fun _ μ' => Q .non μ', rt := Q } (dstart N ds) μ
abbrev noX : DXS := fun _ _ _ _ => False
end Wl

set_option Elab.async false
set_option linter.all false
set_option maxRecDepth 100000
set_option maxHeartbeats 2000000
namespace Wl
open PySem L2
open PySem.Spec PyProof.Rows
def dput (f : Str) (v : Dv) : List (Str × Dv) → List (Str × Dv)
  | [] => [(f, v)]
  | (g, x) :: r => if g = f then (g, v) :: r else (g, x) :: dput f v r
theorem RepP.lookup {K : PySem.W.Frag} {I : Hp} : ∀ {fs : List (Str × Dv)} {gs : List (Str × V)} {f : Str} {d : Dv}, RepP K I fs gs → fs.lookup f = some d → ∃ v, gs.lookup f = some v ∧ Rep K I d v
  | _, _, f, _, .nil, e => by simp [List.lookup] at e
  | (g, x) :: r, (g', x') :: r', f, d, .cons h t, e => by
    obtain ⟨h1, h2⟩ := h
    cases h1
    rw [List.lookup_cons] at e ⊢
    cases hb : f == g with
    | true =>
      simp only [hb] at e
      cases e
      exact ⟨x', by simp, h2⟩
    | false =>
      simp only [hb] at e
      obtain ⟨v, k1, k2⟩ := RepP.lookup t e
      exact ⟨v, by simpa using k1, k2⟩
theorem RepP.lookup_none {K : PySem.W.Frag} {I : Hp} : ∀ {fs : List (Str × Dv)} {gs : List (Str × V)} {f : Str}, RepP K I fs gs → fs.lookup f = none → gs.lookup f = none
  | _, _, f, .nil, _ => rfl
  | (g, x) :: r, (g', x') :: r', f, .cons h t, e => by
    obtain ⟨h1, h2⟩ := h
    cases h1
    rw [List.lookup_cons] at e ⊢
    cases hb : f == g with
    | true => simp only [hb] at e; cases e
    | false => simp only [hb] at e; exact RepP.lookup_none t e
theorem RepP.putF {K : PySem.W.Frag} {I : Hp} {f : Str} {d : Dv} {v : V} (r : Rep K I d v) : ∀ {fs : List (Str × Dv)} {gs : List (Str × V)}, RepP K I fs gs → RepP K I (dput f d fs) (L2.putF f v gs)
  | _, _, .nil => .cons ⟨rfl, r⟩ .nil
  | (g, x) :: r1, (g', x') :: r', .cons h t => by
    obtain ⟨h1, h2⟩ := h
    cases h1
    show RepP K I (if g = f then (g, d) :: r1 else (g, x) :: dput f d r1) (if g = f then (g, v) :: r' else (g, x') :: L2.putF f v r')
    by_cases e : g = f
    · rw [if_pos e, if_pos e]; exact .cons ⟨rfl, r⟩ t
    · rw [if_neg e, if_neg e]; exact .cons ⟨rfl, h2⟩ (RepP.putF r t)
theorem RepP.len {K : PySem.W.Frag} {I : Hp} {κ : Type} {fs : List (κ × Dv)} {gs : List (κ × V)} (r : RepP K I fs gs) : fs.length = gs.length := Paired.length r
section
variable {S : Sg} {ι : Type} {F : ι → Cx} {pos : Pos}
/-- e.f of an instance of the class at C -/
def vFld (C : Addr) (f : Str) (t : DE) : DE := fun δ μ Q => t δ μ fun x μ1 => match x with | .ref a => ∃ dx fs d, μ1 a = some (.ins C dx fs) ∧ fs.lookup f = some d ∧ Q d μ1 | _ => False
theorem we_fld {C : Addr} {f : Str} {e : Expr} {t : DE} (c : Cls S.K C) (n : NoAttr S.K C f) (he : WE S F e t) (hb : ∀ env, attributeBase e f env (eval e env) = eval e env := by exact fun _ => rfl) : WE S F (.Attribute e f pos) (vFld C f t) :=
  let ⟨ta, a1, a2⟩ := he
  ⟨_, fun i hi => hi.K ▸ pe_fld (a1 i hi) (hb _), fun I δ μ σ H hJ SM hS Q Q' q u => a2 I δ μ σ H hJ SM hS _ _ q fun I1 x vx μ1 H1 e1 S1 r1 q1 => by
    cases r1 <;> first | exact False.elim q1 | skip
    obtain ⟨dx, fs, d, em, hl, q2⟩ := q1
    obtain ⟨gs, rp, hv⟩ := S1.memo em
    obtain ⟨v, k1, k2⟩ := rp.lookup hl
    exact ⟨_, _, _, _, _, rfl, hv, c, n, k1, u I1 _ _ μ1 H1 e1 S1 k2 q2⟩⟩
def gFld (C : Addr) (f : Str) (x y : Dv) (μ : Mu) (Q : Mu → Prop) : Prop := match x with | .ref a => ∃ dx fs, μ a = some (.ins C dx fs) ∧ fs.length < 1000 ∧ Q (mset μ a (.ins C dx (dput f y fs))) | _ => False
def sFldV (C : Addr) (f : Str) (to te : DE) : DS := fun D δ μ => te δ μ fun y μ1 => to δ μ1 fun x μ2 => gFld C f x y μ2 fun μ3 => D.nx δ μ3
theorem gFld_ok {C : Addr} {f : Str} {x y : Dv} {vx vy : V} {K : PySem.W.Frag} {I H : Hp} {μ : Mu} {Q : Mu → Prop} (SM : SatM K I μ H) (rx : Rep K I x vx) (ry : Rep K I y vy) (q : gFld C f x y μ Q) :
    ∃ a dx gs μ3, vx = .ref a ∧ H a = some (.ins C dx gs) ∧ gs.length < 1000 ∧ SatM K I μ3 (upd H a (.ins C dx (L2.putF f vy gs))) ∧ Q μ3 := by
  cases rx <;> first | exact False.elim q | skip
  obtain ⟨dx, fs, em, hl, q2⟩ := q
  obtain ⟨gs, rp, hv⟩ := SM.memo em
  exact ⟨_, dx, gs, _, rfl, hv, by rw [← rp.len]; exact hl, SM.setM (m := .ins C dx (dput f y fs)) (SM.mu _ _ em).1 ⟨_, rp.putF ry, upd_same⟩, q2⟩
theorem ws_fld {C : Addr} {f : Str} {o e : Expr} {to te : DE} {pos' : Pos} (c : Cls S.K C) (n : NoAttr S.K C f) (ho : WE S F o to) (he : WE S F e te) (hs : ∀ env, swapsWith e (some (.Attribute o f pos')) pos.line env = pure false := by exact fun _ => rfl) : WS S F (.Assign [.Attribute o f pos'] e pos) (sFldV C f to te) :=
  let ⟨ta, a1, a2⟩ := ho; let ⟨tb, b1, b2⟩ := he
  ⟨_, fun i hi => hi.K ▸ ps_fld (a1 i hi) (b1 i hi) (hs _), fun I δ μ σ H hJ SM hS D D' q u => b2 I δ μ σ H hJ SM hS _ _ q fun I1 y vy μ1 H1 e1 S1 r1 q1 =>
    a2 I1 δ μ1 σ H1 (hJ.trans e1) S1 (hS.mono e1) _ _ q1 fun I2 x vx μ2 H2 e2 S2 r2 q2 => by
      obtain ⟨a, dx, gs, μ3, h1, h2, h3, h4, h5⟩ := gFld_ok S2 r2 (r1.mono e2 _ _) q2
      exact ⟨a, C, dx, gs, h1, h2, c, n, h3, u.nx I2 δ σ μ3 _ (e1.trans e2) h4 (hS.mono (e1.trans e2)) h5⟩⟩
/-- o.f as a target among others -/
def gAttr (K : PySem.W.Frag) (f : Str) (to : TE) : TG := fun v σ H Q => to σ H fun x H2 => ∃ a C dx fs, x = .ref a ∧ H2 a = some (.ins C dx fs) ∧ Cls K C ∧ NoAttr K C f ∧ fs.length < 1000 ∧ Q σ (upd H2 a (.ins C dx (L2.putF f v fs)))
theorem pg_attr {X : Cx} {o : Expr} {f : Str} {to : TE} (ho : PE X o to) (ha : ∀ v, assign (.Attribute o f pos) X.env v = (do
      let ov ← holding [v] (eval o X.env)
      standAt pos.atName
      holding [v, ov] (setAttr ov f v)
      release [v, ov] [])) : PG X (.Attribute o f pos) (gAttr X.K f to) := by
  refine ⟨fun pins s σ H v u Q I r h => ?_⟩
  rw [ha]
  refine wpAny_bind (wpAny_holding (thn (ho.run pins s σ H _ I h) fun ov s1 ⟨x, H1, I1, r1, a, C, dx, fs, ex, ea, c, n, l, q2⟩ => ?_))
  subst ex
  obtain rfl : ov = Value.ref a := r1
  refine wpAny_bind (wpAny_standAt (wpAny_bind (wpAny_holding (setattr_ok I1 ea c n l r fun s3 I3 => ?_))))
  exact wpAny_release ⟨σ, _, I3, q2⟩
def dAttr (C : Addr) (f : Str) (to : DE) : DG := fun y δ μ Q => to δ μ fun x μ1 => gFld C f x y μ1 fun μ2 => Q δ μ2
theorem wg_attr {C : Addr} {f : Str} {o : Expr} {to : DE} (c : Cls S.K C) (n : NoAttr S.K C f) (ho : WE S F o to) (ha : ∀ env, ∀ v, assign (.Attribute o f pos) env v = (do
      let ov ← holding [v] (eval o env)
      standAt pos.atName
      holding [v, ov] (setAttr ov f v)
      release [v, ov] []) := by exact fun _ _ => rfl) : WG S F (.Attribute o f pos) (dAttr C f to) :=
  let ⟨ta, a1, a2⟩ := ho
  ⟨gAttr S.K f ta, fun i hi => hi.K ▸ pg_attr (a1 i hi) (ha _), fun I δ μ σ H d v hJ SM hS r Q Q' q u => a2 I δ μ σ H hJ SM hS _ _ q fun I1 x vx μ1 H1 e1 S1 r1 q1 => by
    obtain ⟨a, dx, gs, μ3, h1, h2, h3, h4, h5⟩ := gFld_ok S1 r1 (r.mono e1 _ _) q1
    exact ⟨a, C, dx, gs, h1, h2, c, n, h3, u I1 δ σ μ3 _ e1 h4 (hS.mono e1) h5⟩⟩

/-! ## calls: a def by its name, a method, a class, a property -/
structure CalD (P : Program) (w : World) (K : PySem.W.Frag) (mg : Str → Option Value) (base : Heap) (j : Nat) (x : Str) (sp : Sp2) (dds : List Dv) : Prop where
  ex : ∃ (f : Addr) (fd : FuncData) (ps : List Str) (dvs : List V) (dus : List Value), Ok P w K mg base j f fd ps sp ∧ mg x = some (.ref f) ∧ PySem.W.keepIn K (.ref f) = true ∧ Binds K fd ps dus ∧ Vals dvs dus ∧ ∀ I, RepL K I dds dvs
structure MetD (P : Program) (w : World) (K : PySem.W.Frag) (mg : Str → Option Value) (base : Heap) (j : Nat) (C : Addr) (m : Str) (sp : Sp2) (dds : List Dv) : Prop where
  ex : ∃ (f : Addr) (fd : FuncData) (ps : List Str) (dvs : List V) (dus : List Value), Ok P w K mg base j f fd ps sp ∧ Cls K C ∧ Meth K C m f ∧ Binds K fd ps dus ∧ Vals dvs dus ∧ ∀ I, RepL K I dds dvs
structure MakD (P : Program) (w : World) (K : PySem.W.Frag) (mg : Str → Option Value) (base : Heap) (j : Nat) (x : Str) (C : Addr) (sp : Sp2) (dds : List Dv) : Prop where
  ex : ∃ (f : Addr) (fd : FuncData) (ps : List Str) (dvs : List V) (dus : List Value), Ok P w K mg base j f fd ps sp ∧ mg x = some (.ref C) ∧ Mk K C f ∧ Binds K fd ps dus ∧ Vals dvs dus ∧ ∀ I, RepL K I dds dvs
structure PrpD (P : Program) (w : World) (K : PySem.W.Frag) (mg : Str → Option Value) (base : Heap) (j : Nat) (C : Addr) (m : Str) (sp : Sp2) : Prop where
  ex : ∃ (p f : Addr) (fd : FuncData) (ps : List Str), Ok P w K mg base j f fd ps sp ∧ Cls K C ∧ PropOf K C m p f ∧ Binds K fd ps []
theorem we_cal {x : Str} {sp : Sp2} {dds : List Dv} {j : Nat} {e : Expr} {es : List Expr} {t : DA} {p : Pos} (Fn : CalD S.P S.w S.K S.mg S.base j x sp dds) (hj : j ≤ S.k) (ha : WA S F (e :: es) t) (hg : ∀ j, Gl (F j) x := by exact fun _ => rfl)
    (hdb : (x == ("__debug__" : Str)) = false := by decide) (he : ∀ env, starEach (e :: es) env = (false, eval e env) :: starEach es env := by exact fun _ => rfl) (hpl : ∀ env, (backTo pos (starEach es env)).any (·.1) = false := by exact fun _ => rfl) (hcold : S.cold = false := by rfl) :
    WE S F (.Call (.Name x p) (e :: es) [] pos) (vCall sp dds S.E2 t) := by
  obtain ⟨f, fd, ps, dvs, dus, h1, h2, h3, h4, h5, h6⟩ := Fn.ex
  exact we_call h1 h2 h3 h4 h5 h6 hj ha hg hdb he hpl hcold
theorem pe_methD {X : Cx} {CX : CXT} {k : Nat} {f C : Addr} {fd : FuncData} {ps : List Str} {sp : Sp} {dvs : List V} {ds : List Value} {E : L2.St → XK} {m : Str} {apos : Pos} {e o : Expr} {es : List Expr} {ta : TE} {t : TA} {pl : Sem Bool} (he : PE X o ta) (c : Cls X.K C) (hm : Meth X.K C m f) (Fn : FnOk X.prog X.w X.K X.mg X.base CX k f fd ps sp) (hr : Room k X.A) (hb : Binds X.K fd ps ds) (hd : Vals dvs ds) (hx : ∀ σ, PassesAt CX X σ (E σ)) (ha : PA X (e :: es) t)
    (hst : starEach (e :: es) X.env = (false, eval e X.env) :: starEach es X.env) (hpl : (backTo pos (starEach es X.env)).any (·.1) = false)
    (ht : eval (.Call (.Attribute o m apos) (e :: es) [] pos) X.env = (do
      let ov ← eval o X.env
      standAt apos.atName
      let (f, first) ← holding [ov] (getMethod ov m pl)
      callWith pos f first (backTo pos (starEach (e :: es) X.env)) (backToKw pos (keywordEach [] X.env)))) :
    PE X (.Call (.Attribute o m apos) (e :: es) [] pos) (fun σ H Q => ta σ H fun x H1 => ∃ a dx fs, x = .ref a ∧ H1 a = some (.ins C dx fs) ∧ fs.lookup m = none ∧ t σ H1 fun vs H2 => sp (x :: (vs ++ dvs)) H2 Q (E σ)) := by
  refine ⟨fun pins s σ H Q I h => ?_⟩
  refine PySem.W.methodCall_KW (pl := pl) (thn (he.run pins s σ H _ I h) fun u s1 ⟨x, H1, I1, rx, a, dx, fs, ex, ea, l, q⟩ => ?_) ht
  subst ex
  obtain rfl : u = Value.ref a := rx
  refine getmeth_ok I1 ea c hm l ?_
  refine PySem.W.callWith_K (first := [.ref a]) (h₀ := X.base) I.ok.mod.kin hm.kp (thn (ha.run pos pins s1 σ H1 _ I1 q) fun us s2 ⟨vs, H2, I2, r, q2⟩ => ⟨I2.kIn, ?_⟩) hst hpl
  exact run_fnSD (us := .ref a :: us) (vs := .ref a :: vs) Fn hr hb hd (hx σ) I2 (.cons rfl r) q2
theorem pe_methD0 {X : Cx} {CX : CXT} {k : Nat} {f C : Addr} {fd : FuncData} {ps : List Str} {sp : Sp} {dvs : List V} {ds : List Value} {E : L2.St → XK} {m : Str} {apos : Pos} {o : Expr} {ta : TE} {pl : Sem Bool} (he : PE X o ta) (c : Cls X.K C) (hm : Meth X.K C m f) (Fn : FnOk X.prog X.w X.K X.mg X.base CX k f fd ps sp) (hr : Room k X.A) (hb : Binds X.K fd ps ds) (hd : Vals dvs ds) (hx : ∀ σ, PassesAt CX X σ (E σ))
    (ht : eval (.Call (.Attribute o m apos) [] [] pos) X.env = (do
      let ov ← eval o X.env
      standAt apos.atName
      let (f, first) ← holding [ov] (getMethod ov m pl)
      callWith pos f first (backTo pos (starEach [] X.env)) (backToKw pos (keywordEach [] X.env)))) :
    PE X (.Call (.Attribute o m apos) [] [] pos) (fun σ H Q => ta σ H fun x H1 => ∃ a dx fs, x = .ref a ∧ H1 a = some (.ins C dx fs) ∧ fs.lookup m = none ∧ sp (x :: dvs) H1 Q (E σ)) := by
  refine ⟨fun pins s σ H Q I h => ?_⟩
  refine PySem.W.methodCall_KW (pl := pl) (thn (he.run pins s σ H _ I h) fun u s1 ⟨x, H1, I1, rx, a, dx, fs, ex, ea, l, q⟩ => ?_) ht
  subst ex
  obtain rfl : u = Value.ref a := rx
  refine getmeth_ok I1 ea c hm l ?_
  exact PySem.W.callWith_K0 (first := [.ref a]) I1.kIn hm.kp (run_fnSD (us := [.ref a]) (vs := [.ref a]) Fn hr hb hd (hx σ) I1 (.cons rfl .nil) q)
/-- o.m(e, ..) of an instance of the class at C -/
def vMeth (C : Addr) (m : Str) (sp : Sp2) (dds : List Dv) (E2 : DXS) (to : DE) (t : DA) : DE := fun δ μ Q => to δ μ fun x μ1 => match x with
  | .ref a => ∃ dx fs, μ1 a = some (.ins C dx fs) ∧ fs.lookup m = none ∧ t δ μ1 fun xs μ2 => sp (.ref a :: (xs ++ dds)) μ2 Q fun C' d μ3 => E2 C' d δ μ3
  | _ => False
theorem we_meth {C : Addr} {m : Str} {sp : Sp2} {dds : List Dv} {j : Nat} {o e : Expr} {es : List Expr} {to : DE} {t : DA} {apos : Pos} {pl : Env → Sem Bool} (Fn : MetD S.P S.w S.K S.mg S.base j C m sp dds) (hj : j ≤ S.k) (ho : WE S F o to) (ha : WA S F (e :: es) t)
    (hst : ∀ env, starEach (e :: es) env = (false, eval e env) :: starEach es env := by exact fun _ => rfl) (hpl : ∀ env, (backTo pos (starEach es env)).any (·.1) = false := by exact fun _ => rfl)
    (ht : ∀ env, eval (.Call (.Attribute o m apos) (e :: es) [] pos) env = (do
      let ov ← eval o env
      standAt apos.atName
      let (f, first) ← holding [ov] (getMethod ov m (pl env))
      callWith pos f first (backTo pos (starEach (e :: es) env)) (backToKw pos (keywordEach [] env))) := by exact fun _ => rfl) (hcold : S.cold = false := by rfl) : WE S F (.Call (.Attribute o m apos) (e :: es) [] pos) (vMeth C m sp dds S.E2 to t) := by
  obtain ⟨f, fd, ps, dvs, dus, h1, h2, h3, h4, h5, h6⟩ := Fn.ex
  obtain ⟨ta, a1, a2⟩ := ho
  obtain ⟨tb, b1, b2⟩ := ha
  refine ⟨fun σ H Q => ta σ H fun x H1 => ∃ a dx fs, x = .ref a ∧ H1 a = some (.ins C dx fs) ∧ fs.lookup m = none ∧ tb σ H1 fun vs H2 => toSp S.K sp (x :: (vs ++ dvs)) H2 Q (L2.WE S.W σ), fun i hi => ?_, fun I δ μ σ H hJ SM hS Q Q' q u => a2 I δ μ σ H hJ SM hS _ _ q fun I1 x vx μ1 H1 e1 S1 r1 q1 => ?_⟩
  · obtain ⟨P, w, K, mg, base, k, N, J, W, E2, tr, cold⟩ := S
    obtain ⟨k1, k2, k3, k4, k5, k6, k7, k8, k9, k10, k11⟩ := id hi
    have r8 := k8 hcold
    dsimp only at k1 k2 k3 k4 k5 k6 r8 k9 h1 h2 h3 h4 hj a2 b2 ⊢
    subst k1 k2 k3 k4 k5
    exact pe_methD (a1 i hi) h2 h3 h1 (r8.mono hj) h4 h5 (fun σ => passAt k9 σ) (b1 i hi) (hst _) (hpl _) (ht _)
  · cases r1 <;> first | exact False.elim q1 | skip
    obtain ⟨dx, fs, em, hl, q2⟩ := q1
    obtain ⟨gs, rp, hv⟩ := S1.memo em
    refine ⟨_, dx, gs, rfl, hv, rp.lookup_none hl, b2 I1 δ μ1 σ H1 (hJ.trans e1) S1 (hS.mono e1) _ _ q2 fun I2 ds vs μ2 H2 e2 S2 r2 q3 => ?_⟩
    exact sp_run ((hJ.trans e1).trans e2) S2 (hS.mono (e1.trans e2)) (.cons (.ref _) (r2.append (h6 I2))) q3 (u.mono (e1.trans e2))
theorem we_meth0 {C : Addr} {m : Str} {sp : Sp2} {dds : List Dv} {j : Nat} {o : Expr} {to : DE} {apos : Pos} {pl : Env → Sem Bool} (Fn : MetD S.P S.w S.K S.mg S.base j C m sp dds) (hj : j ≤ S.k) (ho : WE S F o to)
    (ht : ∀ env, eval (.Call (.Attribute o m apos) [] [] pos) env = (do
      let ov ← eval o env
      standAt apos.atName
      let (f, first) ← holding [ov] (getMethod ov m (pl env))
      callWith pos f first (backTo pos (starEach [] env)) (backToKw pos (keywordEach [] env))) := by exact fun _ => rfl) (hcold : S.cold = false := by rfl) : WE S F (.Call (.Attribute o m apos) [] [] pos) (vMeth C m sp dds S.E2 to vNil) := by
  obtain ⟨f, fd, ps, dvs, dus, h1, h2, h3, h4, h5, h6⟩ := Fn.ex
  obtain ⟨ta, a1, a2⟩ := ho
  refine ⟨fun σ H Q => ta σ H fun x H1 => ∃ a dx fs, x = .ref a ∧ H1 a = some (.ins C dx fs) ∧ fs.lookup m = none ∧ toSp S.K sp (x :: dvs) H1 Q (L2.WE S.W σ), fun i hi => ?_, fun I δ μ σ H hJ SM hS Q Q' q u => a2 I δ μ σ H hJ SM hS _ _ q fun I1 x vx μ1 H1 e1 S1 r1 q1 => ?_⟩
  · obtain ⟨P, w, K, mg, base, k, N, J, W, E2, tr, cold⟩ := S
    obtain ⟨k1, k2, k3, k4, k5, k6, k7, k8, k9, k10, k11⟩ := id hi
    have r8 := k8 hcold
    dsimp only at k1 k2 k3 k4 k5 k6 r8 k9 h1 h2 h3 h4 hj a2 ⊢
    subst k1 k2 k3 k4 k5
    exact pe_methD0 (a1 i hi) h2 h3 h1 (r8.mono hj) h4 h5 (fun σ => passAt k9 σ) (ht _)
  · cases r1 <;> first | exact False.elim q1 | skip
    obtain ⟨dx, fs, em, hl, q2⟩ := q1
    obtain ⟨gs, rp, hv⟩ := S1.memo em
    exact ⟨_, dx, gs, rfl, hv, rp.lookup_none hl, sp_run (hJ.trans e1) S1 (hS.mono e1) (.cons (.ref _) (h6 I1)) q2 (u.mono e1)⟩
/-- C(e, ..) -/
def vMake (C : Addr) (sp : Sp2) (dds : List Dv) (E2 : DXS) (t : DA) : DE := fun δ μ Q => t δ μ fun xs μ1 => ∀ a dx, μ1 a = none → sp (.ref a :: (xs ++ dds)) (mset μ1 a (.ins C dx [])) (fun d μ2 => match d with | .non => Q (.ref a) μ2 | _ => False) fun C' d μ3 => E2 C' d δ μ3
theorem run_makeD {X : Cx} {CX : CXT} {k : Nat} {f C : Addr} {fd : FuncData} {ps : List Str} {sp : Sp} {dvs : List V} {ds : List Value} {E : L2.St → XK} {pins : List (Addr × Obj)} {σ : L2.St} {H : Hp} {s : Shared} {Q : VK} {us : List Value} {vs : List V} (M : Mk X.K C f) (Fn : FnOk X.prog X.w X.K X.mg X.base CX k f fd ps sp) (hr : Room (k + 1) X.A) (hb : Binds X.K fd ps ds) (hd : Vals dvs ds)
    (hx : PassesAt CX X σ (E σ)) (I : Inv X pins σ H s) (r : Vals vs us)
    (h : ∀ x dx, H x = none → H dx = none → dx ≠ x → sp (.ref x :: (vs ++ dvs)) (upd (upd H dx (.own x)) x (.ins C dx [])) (fun v H2 => v = .non ∧ Q (.ref x) H2) (E σ)) :
    wpAny (model X.prog X.w) X.A (call (.ref C) us) (EP X pins σ Q) X.xe s := by
  have hq := h (s.heap.objs.size + 1) s.heap.objs.size (I.hok.fresh (Nat.le_succ _)) (I.hok.fresh (Nat.le_refl _)) (Nat.ne_of_lt (Nat.lt_succ_self _))
  have I2 := Inv.made (C := C) I
  have r2 : Vals (V.ref (s.heap.objs.size + 1) :: (vs ++ dvs)) (Value.ref (s.heap.objs.size + 1) :: (us ++ ds)) := .cons rfl (r.append hd)
  have hl : (Value.ref (s.heap.objs.size + 1) :: us ++ ds).length = ps.length := by
    have e := r2.length
    rw [Fn.len _ _ _ _ hq] at e
    exact e.symm
  refine wpAny_call (make_map (f := f) I.kIn M.makes M.init (beq_iff_eq.mp M.fn) (codeAny_mono (Fn.run _ X.stack _ _ ⟨Value.ref (s.heap.objs.size + 1) :: us, []⟩ (Value.ref (s.heap.objs.size + 1) :: (us ++ ds)) _ _ (E σ) (hr.make C us [])
    (I2.env0.make C us []) (hb _ (Value.ref (s.heap.objs.size + 1) :: us) I2.kIn hl) r2 hq) fun r s' hq' => ?_))
  cases r with
  | error e => exact hx pins _ _ e s' I2 hq'
  | ok fl =>
    cases fl with
    | ret u =>
      obtain ⟨v, H', I3, rv, ev, q3⟩ := I2.after hq'
      subst ev
      exact ⟨rv, ⟨V.ref (s.heap.objs.size + 1), H', I3, rfl, q3⟩⟩
    | next => exact False.elim hq'
    | brk => exact False.elim hq'
    | cont => exact False.elim hq'
theorem we_make {x : Str} {C : Addr} {sp : Sp2} {dds : List Dv} {j : Nat} {e : Expr} {es : List Expr} {t : DA} {p : Pos} (Fn : MakD S.P S.w S.K S.mg S.base j x C sp dds) (hj : j + 1 ≤ S.k) (ha : WA S F (e :: es) t) (hg : ∀ j, Gl (F j) x := by exact fun _ => rfl)
    (hdb : (x == ("__debug__" : Str)) = false := by decide) (he : ∀ env, starEach (e :: es) env = (false, eval e env) :: starEach es env := by exact fun _ => rfl) (hpl : ∀ env, (backTo pos (starEach es env)).any (·.1) = false := by exact fun _ => rfl) (hcold : S.cold = false := by rfl) :
    WE S F (.Call (.Name x p) (e :: es) [] pos) (vMake C sp dds S.E2 t) := by
  obtain ⟨f, fd, ps, dvs, dus, h1, h2, h3, h4, h5, h6⟩ := Fn.ex
  obtain ⟨tb, b1, b2⟩ := ha
  refine ⟨fun σ H Q => tb σ H fun vs H1 => ∀ x dx, H1 x = none → H1 dx = none → dx ≠ x → toSp S.K sp (.ref x :: (vs ++ dvs)) (upd (upd H1 dx (.own x)) x (.ins C dx [])) (fun v H2 => v = .non ∧ Q (.ref x) H2) (L2.WE S.W σ), fun i hi => ?_, fun I δ μ σ H hJ SM hS Q Q' q u => b2 I δ μ σ H hJ SM hS _ _ q fun I1 ds vs μ1 H1 e1 S1 r1 q1 a dx ha hdx hne => ?_⟩
  · obtain ⟨P, w, K, mg, base, k, N, J, W, E2, tr, cold⟩ := S
    obtain ⟨k1, k2, k3, k4, k5, k6, k7, k8, k9, k10, k11⟩ := id hi
    have r8 := k8 hcold
    dsimp only at k1 k2 k3 k4 k5 k6 r8 k9 h1 h2 h3 h4 hj b2 ⊢
    subst k1 k2 k3 k4 k5
    refine ⟨fun pins s σ H Q I h => ?_⟩
    refine wpAny_Call_Name_kw (ld_glob I (hg i) h2 ?_ hdb)
    refine PySem.W.callWith_K (h₀ := (F i).base) I.ok.mod.kin h3.kp (thn ((b1 i hi).run pos pins s σ H _ I h) fun us s1 ⟨vs, H1, I1, r, q⟩ => ⟨I1.kIn, ?_⟩) (he _) (hpl _)
    exact run_makeD (E := L2.WE W) h3 h1 (r8.mono hj) h4 h5 (passAt k9 σ) I1 r q
  · have n1 : I1 a = none := S1.ex.free ha
    have n2 : I1 dx = none := S1.ex.free hdx
    have S2 : SatM S.K I1 μ1 (upd H1 dx (.own a)) := S1.keep (fun b o eb => by rw [upd_ne (ne_of_none eb hdx)]; exact eb)
    have S3 := S2.setM (p := a) (o := .ins C dx []) (m := .ins C dx []) n1 ⟨[], .nil, upd_same⟩
    refine sp_run (hJ.trans e1) S3 (hS.mono e1) (.cons (.ref a) (r1.append (h6 I1))) (q1 a dx (S1.muNone ha)) fun I' d v μ' H' e' S' r' q' => ?_
    cases r' <;> first | exact False.elim q' | exact ⟨rfl, u I' _ _ μ' H' (e1.trans e') S' (.ref a) q'⟩
/-- o.f, a property of the class at C -/
def vProp (C : Addr) (sp : Sp2) (to : DE) : DE := fun δ μ Q => to δ μ fun x μ1 => match x with | .ref a => ∃ dx fs, μ1 a = some (.ins C dx fs) ∧ sp [.ref a] μ1 Q fun _ _ _ => False | _ => False
theorem we_prop {C : Addr} {m : Str} {sp : Sp2} {j : Nat} {e : Expr} {t : DE} (Fn : PrpD S.P S.w S.K S.mg S.base j C m sp) (hj : j + 1 ≤ S.k) (he : WE S F e t) (hb : ∀ env, attributeBase e m env (eval e env) = eval e env := by exact fun _ => rfl) (hcold : S.cold = false := by rfl) : WE S F (.Attribute e m pos) (vProp C sp t) := by
  obtain ⟨p, f, fd, ps, h1, h2, h3, h4⟩ := Fn.ex
  obtain ⟨ta, a1, a2⟩ := he
  refine ⟨tProp C (toSp S.K sp) [] E0 ta, fun i hi => ?_, fun I δ μ σ H hJ SM hS Q Q' q u => a2 I δ μ σ H hJ SM hS _ _ q fun I1 x vx μ1 H1 e1 S1 r1 q1 => ?_⟩
  · obtain ⟨P, w, K, mg, base, k, N, J, W, E2, tr, cold⟩ := S
    obtain ⟨k1, k2, k3, k4, k5, k6, k7, k8, k9, k10, k11⟩ := id hi
    have r8 := k8 hcold
    dsimp only at k1 k2 k3 k4 k5 k6 r8 k9 h1 h2 h3 h4 hj a2 ⊢
    subst k1 k2 k3 k4 k5
    exact pe_prop (a1 i hi) h2 h3 h1 (r8.mono hj) h4 .nil passL (hb _)
  · cases r1 <;> first | exact False.elim q1 | skip
    obtain ⟨dx, fs, em, q2⟩ := q1
    obtain ⟨gs, rp, hv⟩ := S1.memo em
    exact ⟨_, dx, gs, rfl, hv, I1, _, μ1, Q, _, S1, .cons (.ref _) .nil, q2, u.mono e1, fun _ _ _ _ _ _ _ z => z.elim⟩
end
end Wl

set_option Elab.async false
set_option linter.all false
set_option maxRecDepth 100000
set_option maxHeartbeats 4000000
/-! enumerate over a list or a tuple -/
namespace PySem
open Sem (wp)
namespace WlEnum
theorem newT (l : Addr) (items : Array Value) :
    Meets (Builtin.«enumerate.__new__» ⟨[.type "enumerate", .ref l], []⟩) (fun _ R s => s.heap.IsTuple l items ∧
      R (.ok (.ret (.ref (s.heap.push { cls := .type "tuple_iterator", data := .fields #[.ref l, .int 0 0] }).objs.size)))
        { s with heap := (s.heap.push { cls := .type "tuple_iterator", data := .fields #[.ref l, .int 0 0] }).push { cls := .type "enumerate", data := .fields #[.none, .bool false, .ref s.heap.objs.size, rawInt 0, .none, .none] } }) :=
  .of_wp fun prog w A R s h => by
    obtain ⟨hp, g, d, tk, os⟩ := s; obtain ⟨h1, h⟩ := h
    have hsub := sub_enumerate
    have q1 : ∀ {A' : Around} {E : Value → Shared → Prop} {Q : Value → Shared → Prop}, Q (.ref hp.objs.size) ⟨hp.push { cls := .type "tuple_iterator", data := .fields #[.ref l, .int 0 0] }, g, d, tk, os⟩ → wpAny (model prog w) A' (pyIter (.ref l)) Q E ⟨hp, g, d, tk, os⟩ :=
      fun q => wpAny_pyIter_tuple h1 q
    wp_walk using q1
    refine wpAny_stack_any fun st => wpAny_pure ?_
    split
    · rename_i c _ _ _ _ _
      cases (c == Value.type "enumerate")
      · wp_walk using q1
        exact ⟨_, rfl, h⟩
      · wp_walk using q1
        exact ⟨_, rfl, h⟩
    · wp_walk using q1
      exact ⟨_, rfl, h⟩
section
variable {prog : Program} {w : World} {A : Around} {E : Value → Shared → Prop} {s : Shared}
theorem enumT {l : Addr} {items : Array Value} {Q : Value → Shared → Prop} (h1 : s.heap.IsTuple l items)
    (h : ∀ h', IsEnum h' (s.heap.objs.size + 1) s.heap.objs.size 0 .none → h'.IsTupleIter s.heap.objs.size l 0 → h'.objs.size = s.heap.objs.size + 2 →
      (∀ b o, s.heap.get? b = some o → h'.get? b = some o) → Q (.ref (s.heap.objs.size + 1)) { s with heap := h' }) :
    wpAny (model prog w) A (call (.type "enumerate") [.ref l]) Q E s := by
  refine callType_new F.called_enumerate (by decide) (F.typeCall_enumerate_1 _) (F.newCall_enumerate_1 _) (fun obj => F.args_object_init_2 obj _) F.entry_enumerate_new
    (newT l items) ⟨h1, ?_⟩
  have hz : (s.heap.push { cls := .type "tuple_iterator", data := .fields #[.ref l, .int 0 0] }).objs.size = s.heap.objs.size + 1 := Heap.size_push ..
  show _ ∧ _
  rw [hz]
  have he : IsEnum ((s.heap.push { cls := .type "tuple_iterator", data := .fields #[.ref l, .int 0 0] }).push { cls := .type "enumerate", data := .fields #[.none, .bool false, .ref s.heap.objs.size, rawInt 0, .none, .none] }) (s.heap.objs.size + 1) s.heap.objs.size 0 .none := by
    have := Heap.get?_push_size (s.heap.push { cls := .type "tuple_iterator", data := .fields #[.ref l, .int 0 0] }) (o := { cls := .type "enumerate", data := .fields #[.none, .bool false, .ref s.heap.objs.size, rawInt 0, .none, .none] }) rfl
    rw [hz] at this; exact this
  refine ⟨⟨_, he, rfl⟩, h _ he ⟨_, Heap.get?_push_of_some _ (Heap.get?_push_size _ rfl), rfl, rfl⟩ (by rw [Heap.size_push, hz]) fun b o x => Heap.get?_push_of_some _ (Heap.get?_push_of_some _ x)⟩
end
end WlEnum
end PySem
namespace Wl
open PySem L2
open PySem.Spec PyProof.Rows
def IteT (K : PySem.W.Frag) (a : Addr) : It :=
  ⟨fun i H => ∃ (xs : List V) (x : V), SqT K H a xs ∧ xs[i]? = some x, fun i H v H' => ∃ T x, v = .ref T ∧ H T = none ∧ H' = upd H T (.tup [.int (i : Nat), x]) ∧ ∀ xs, SqT K H a xs → xs[i]? = some x, fun i H => ∃ xs : List V, SqT K H a xs ∧ xs.length = i⟩
theorem turn_enumT {P : Program} {w : World} {K : PySem.W.Frag} {elts : List Expr} {kk : Nat} {tpos : Pos} (a e it : Addr) :
    Turn P w K (.Tuple elts kk tpos) (IteT K a) [e, it] e (fun i h => (∃ old, IsEnum h e it ((i : Nat) : Int) old) ∧ h.IsTupleIter it a i ∧ e ≠ it ∧ a ≠ it ∧ a ≠ e) where
  mem := by simp
  obj := fun i h st b hb => by
    obtain ⟨⟨old, he⟩, ⟨o, ho, hc, hd⟩, _⟩ := st
    have e' : b = e ∨ b = it := by simpa using hb
    rcases e' with z | z
    · rw [z]; exact ⟨_, he, fun v q => nomatch q⟩
    · rw [z]; exact ⟨o, ho, fun v q => by rw [hd] at q; cases q⟩
  keep := fun i h h' st k => let ⟨⟨old, he⟩, hi, hne⟩ := st; ⟨⟨old, k e (by simp) _ he⟩, hi.at fun o q => k it (by simp) o q, hne⟩
  item := by
    intro X hP hw hK hc i pins s σ H E I hf st hg
    subst hP hw hK
    obtain ⟨⟨old, he⟩, hit, hne, hai, hae⟩ := st
    obtain ⟨xs, x, hq, hx⟩ := hg
    obtain ⟨its, rv, p, hz⟩ := I.tuple hq
    obtain ⟨u, hu, ru⟩ := rv.get hx
    have hlt : i < its.toArray.size := by
      have := (List.getElem?_eq_some_iff.mp hu).1
      simpa using this
    have hel : e < s.heap.objs.size := Heap.lt_size he
    have hil : it < s.heap.objs.size := by obtain ⟨_, q, _⟩ := hit; exact Heap.lt_size q
    have D := Draws.tuple (prog := X.prog) (w := X.w) (A := X.A.in1) (I.ok.hd hc) it a hai its.toArray
    refine wpAny_pyNext_enum_itemD D he ⟨hit, p⟩ hlt hne (by simp [hne, Ne.symm hae]) fun y h' tk hP' ho hst' hT hsz hk => ?_
    have ey : y = u := by
      have h2 : its.toArray[i]? = some u := by simpa using hu
      rw [h2] at hP'
      exact (Option.some.inj hP').symm
    subst ey
    refine ⟨_, rfl, wpAny_letOwnedTupleGo_enum (s := { s with heap := h', toks := tk + 1 }) ho fun h'' he' sb => ?_⟩
    have hT2 : h''.get? s.heap.objs.size = some { cls := .type "tuple", data := .seq #[.int i tk, y] } := (sb.2 _ (Nat.ne_of_gt hel)).trans hT
    have new : ObjOk X.prog X.w (upd H s.heap.objs.size (.tup [.int (i : Nat), x])) h'' s.heap.objs.size (.tup [.int (i : Nat), x]) :=
      ⟨by show 2 ≤ sizeLine; decide, [.int i tk, y], .cons ⟨_, rfl⟩ (.cons ru .nil), ⟨_, hT2, rfl, _, rfl⟩⟩
    have I1 : Inv X pins σ (upd H s.heap.objs.size (.tup [.int (i : Nat), x])) { s with heap := h'', toks := tk + 1 } :=
      I.turnedNew (ch := [e, it]) (fun b ob hb q => (sb.2 b (fun z => hb (by simp [z]))).trans (hk b ob (fun z => hb (by simp [z])) (fun z => hb (by simp [z])) q)) hf (Nat.le_refl _) new
    refine ⟨.ref s.heap.objs.size, _, I1, rfl, ⟨_, x, rfl, I.hok.fresh (Nat.le_refl _), rfl, fun ys hy => ?_⟩, ⟨⟨y, ?_⟩, hst'.1.at fun o q => (sb.2 it (Ne.symm hne)).trans q, hne, hai, hae⟩, fun b hb => ?_⟩
    · rw [I.tuple_inj hy hq]; exact hx
    · have e1 : ((i + 1 : Nat) : Int) = (i : Int) + 1 := by omega
      rw [e1]; exact he'
    · have hb' : b < s.heap.objs.size := by
        have e' : b = e ∨ b = it := by simpa using hb
        rcases e' with z | z
        · rw [z]; exact hel
        · rw [z]; exact hil
      rw [upd_ne (Nat.ne_of_lt hb')]
      exact (hf b hb).1
  done := by
    intro X hP hw hK hc i pins s σ H E I hf st hg
    subst hP hw hK
    obtain ⟨⟨old, he⟩, hit, hne, hai, hae⟩ := st
    obtain ⟨xs, hq, hx⟩ := hg
    obtain ⟨its, rv, p, hz⟩ := I.tuple hq
    obtain ⟨f0, f1, f2, f3, f4, f5⟩ := hf it (by simp)
    have hl := rv.length
    have D := Draws.tuple (prog := X.prog) (w := X.w) (A := X.A.in1) (I.ok.hd hc) it a hai its.toArray
    have e3 : i = its.toArray.size := by simp; omega
    subst e3
    exact wpAny_pyNext_enum_endD D he ⟨hit, p⟩ fun h' eb => ⟨rfl, I.turned (t' := s.toks) (fun b o hb q => eb b o hb q) f0 f1 f3 f4 f5⟩
  self := fun A i s Q E st h => let ⟨⟨_, he⟩, _⟩ := st; wpAny_pyIter_enum he h
def iEnumA (K : PySem.W.Frag) (ta : TA) : TI := fun σ H R => ta σ H fun vs H1 => ∃ a, vs = [.ref a] ∧ (((∃ xs, SqL K H1 a xs) ∧ R (Ite K a) H1) ∨ ((∃ xs, SqT K H1 a xs) ∧ R (IteT K a) H1))
theorem pi_enumA {X : Cx} {e : Expr} {ta : TA} {p pos tpos : Pos} {elts : List Expr} {kk : Nat} (hg : Gl X "enumerate") (hm : X.mg "enumerate" = none) (ha : PA X [e] ta) (hs : starEach [e] X.env = [(false, eval e X.env)]) :
    PI X (.Tuple elts kk tpos) (.Call (.Name "enumerate" p) [e] [] pos) (iEnumA X.K ta) := by
  refine ⟨fun pins s σ H R I h => ?_⟩
  refine Call_ (ld_blt I hg hm boot_enumerate (PyProof.Rows.callWith_type1 (thn (ha.run pos pins s σ H _ I h) fun us s1 ⟨vs, H1, I1, r1, q1⟩ => ?_) hs rfl))
  obtain ⟨a, ex, q1⟩ := q1
  subst ex
  cases r1 with
  | cons r rr =>
    cases rr
    cases r
    have fin : ∀ b ∈ [s1.heap.objs.size + 1, s1.heap.objs.size], FpOk X pins H1 b := fun b hb => by
      have e' : b = s1.heap.objs.size + 1 ∨ b = s1.heap.objs.size := by simpa using hb
      have hle : s1.heap.objs.size ≤ b := by
        rcases e' with z | z
        · rw [z]; exact Nat.le_add_right _ _
        · rw [z]; exact Nat.le_refl _
      exact I1.fpOk hle (I1.hok.fresh hle)
    rcases q1 with ⟨⟨xs, hq⟩, q⟩ | ⟨⟨xs, hq⟩, q⟩
    · obtain ⟨its, rv, p', hz⟩ := I1.list hq
      refine call_enumerate_list p'.isList fun h' he hit hsz hk => wpAny_pyIter_enum he ?_
      have I2 : Inv X pins σ H1 { s1 with heap := h' } := I1.kept (t' := s1.toks) hk
      exact ⟨s1.heap.objs.size + 1, [s1.heap.objs.size + 1, s1.heap.objs.size], _, _, H1, rfl, I2, turn_enum a (s1.heap.objs.size + 1) s1.heap.objs.size, ⟨⟨.none, he⟩, hit, Nat.succ_ne_self _⟩, fin, q⟩
    · obtain ⟨its, rv, p', hz⟩ := I1.tuple hq
      have hla : a < s1.heap.objs.size := by obtain ⟨o, q, _⟩ := p'; exact Heap.lt_size q
      refine PySem.WlEnum.enumT p' fun h' he hit hsz hk => wpAny_pyIter_enum he ?_
      have I2 : Inv X pins σ H1 { s1 with heap := h' } := I1.kept (t' := s1.toks) hk
      exact ⟨s1.heap.objs.size + 1, [s1.heap.objs.size + 1, s1.heap.objs.size], _, _, H1, rfl, I2, turn_enumT a (s1.heap.objs.size + 1) s1.heap.objs.size, ⟨⟨.none, he⟩, hit, Nat.succ_ne_self _, Nat.ne_of_lt hla, Nat.ne_of_lt (Nat.lt_succ_of_lt hla)⟩, fin, q⟩
/-- the items with their numbers -/
def numbered (ds : List Dv) : List Dv := ds.zipIdx.map fun p => .tup [.int (p.2 : Int), p.1]
theorem numbered_at {ds : List Dv} {i : Nat} {d : Dv} (h : (numbered ds)[i]? = some d) : ∃ x, ds[i]? = some x ∧ d = .tup [.int (i : Int), x] := by
  unfold numbered at h
  rw [List.getElem?_map, List.getElem?_zipIdx] at h
  cases e : ds[i]? with
  | none => rw [e] at h; cases h
  | some x =>
    rw [e] at h
    simp at h
    exact ⟨x, rfl, h.symm⟩
def wEnum (t : DA) : DI := fun δ μ Q => t δ μ fun xs μ1 => match xs with | [.tup xs] => Q (numbered xs) μ1 | [.rot xs] => Q (numbered xs) μ1 | [.lst xs] => Q (numbered xs) μ1 | [.rol xs] => Q (numbered xs) μ1 | _ => False
theorem ite_ok {K : PySem.W.Frag} {I : Hp} {a : Addr} {vs : List V} {ds : List Dv} (h : SqL K I a vs) (r : RepL K I ds vs) : ItOk K (Ite K a) I (numbered ds) := by
  have hl : (numbered ds).length = vs.length := by simp [numbered, r.length]
  refine ⟨fun i μ I' H e SM hi => ⟨vs, vs[i]'(hl ▸ hi), same_l SM.ex (same_l e h), by simp⟩, fun μ I' H e SM => ⟨vs, same_l SM.ex (same_l e h), by rw [hl]; exact Nat.le_refl _⟩, fun i μ I' H x H' d e SM hd hy => ?_⟩
  obtain ⟨T, y, rfl, hT, rfl, hy⟩ := hy
  obtain ⟨z, hz, rfl⟩ := numbered_at hd
  obtain ⟨v, h1, h2⟩ := r.get hz
  have h3 := hy vs (same_l SM.ex (same_l e h))
  rw [h1] at h3
  cases h3
  obtain ⟨s1, s2⟩ := SM.newI hT (.tup [.int (i : Nat), y])
  exact ⟨_, s1, s2, .tup upd_same (.cons (.int _) (.cons (h2.mono (e.trans s1) _ _) .nil))⟩
theorem itet_ok {K : PySem.W.Frag} {I : Hp} {a : Addr} {vs : List V} {ds : List Dv} (h : SqT K I a vs) (r : RepL K I ds vs) : ItOk K (IteT K a) I (numbered ds) := by
  have hl : (numbered ds).length = vs.length := by simp [numbered, r.length]
  refine ⟨fun i μ I' H e SM hi => ⟨vs, vs[i]'(hl ▸ hi), same_t SM.ex (same_t e h), by simp⟩, fun μ I' H e SM => ⟨vs, same_t SM.ex (same_t e h), hl.symm⟩, fun i μ I' H x H' d e SM hd hy => ?_⟩
  obtain ⟨T, y, rfl, hT, rfl, hy⟩ := hy
  obtain ⟨z, hz, rfl⟩ := numbered_at hd
  obtain ⟨v, h1, h2⟩ := r.get hz
  have h3 := hy vs (same_t SM.ex (same_t e h))
  rw [h1] at h3
  cases h3
  obtain ⟨s1, s2⟩ := SM.newI hT (.tup [.int (i : Nat), y])
  exact ⟨_, s1, s2, .tup upd_same (.cons (.int _) (.cons (h2.mono (e.trans s1) _ _) .nil))⟩
theorem wi_enum {S : Sg} {ι : Type} {F : ι → Cx} {pos : Pos} {e : Expr} {t : DA} {p tpos : Pos} {elts : List Expr} {kk : Nat} (hm : S.mg "enumerate" = none) (ha : WA S F [e] t) (hg : ∀ j, Gl (F j) "enumerate" := by exact fun _ => rfl) (hs : ∀ env, starEach [e] env = [(false, eval e env)] := by exact fun _ => rfl) :
    WI S F (.Tuple elts kk tpos) (.Call (.Name "enumerate" p) [e] [] pos) (wEnum t) :=
  let ⟨ta, a1, a2⟩ := ha
  ⟨iEnumA S.K ta, fun i hi => hi.K ▸ pi_enumA (hg i) (hi.mg ▸ hm) (a1 i hi) (hs _), fun I δ μ σ H hJ SM hS Q Q' q u => a2 I δ μ σ H hJ SM hS _ _ q fun I1 ds vs μ1 H1 e1 S1 r1 q1 => by
    cases r1 with
    | nil => exact q1.elim
    | cons r1 r2 =>
      cases r2 with
      | cons _ _ => cases r1 <;> exact False.elim q1
      | nil =>
        cases r1 <;> first | exact False.elim q1 | skip
        · rename_i h1 h2; exact ⟨_, rfl, .inr ⟨⟨_, .inl (.inl (S1.ex _ _ h1))⟩, u I1 _ μ1 H1 _ e1 S1 (itet_ok (.inl (.inl h1)) h2) q1⟩⟩
        · rename_i h1 h2; exact ⟨_, rfl, .inr ⟨⟨_, same_t S1.ex h1⟩, u I1 _ μ1 H1 _ e1 S1 (itet_ok h1 h2) q1⟩⟩
        · rename_i h1 h2; exact ⟨_, rfl, .inl ⟨⟨_, .inl (.inl (S1.ex _ _ h1))⟩, u I1 _ μ1 H1 _ e1 S1 (ite_ok (.inl (.inl h1)) h2) q1⟩⟩
        · rename_i h1 h2; exact ⟨_, rfl, .inl ⟨⟨_, same_l S1.ex h1⟩, u I1 _ μ1 H1 _ e1 S1 (ite_ok h1 h2) q1⟩⟩⟩
end Wl

set_option Elab.async false
set_option linter.all false
set_option maxRecDepth 100000
set_option maxHeartbeats 2000000
namespace Wl
open PySem L2
open PySem.Spec PyProof.Rows
/-! ## keys -/
def kD : Key → Dv
  | .inl i => .int i
  | .inr x => .str x
def keyD : Dv → Option Key
  | .int i => some (.inl i)
  | .str x => some (.inr x)
  | _ => none
def keysD : List Dv → Option (List Key)
  | [] => some []
  | x :: xs => match keyD x, keysD xs with
    | some k, some ks => some (k :: ks)
    | _, _ => none
section
variable {K : PySem.W.Frag} {I : Hp}
theorem rep_key {d : Dv} {v : V} {k : Key} (r : Rep K I d v) (h : keyD d = some k) : v = kV k := by
  cases r <;> cases h <;> rfl
theorem rep_kD {v : V} {k : Key} (r : Rep K I (kD k) v) : v = kV k := by
  cases k <;> cases r <;> rfl
theorem rep_keys : ∀ {ds : List Dv} {vs : List V} {ks : List Key}, RepL K I ds vs → keysD ds = some ks → vs = ks.map kV
  | _, _, _, .nil, h => by cases h; rfl
  | d :: ds, _, ks, .cons h1 h2, h => by
    unfold keysD at h
    cases e1 : keyD d with
    | none => rw [e1] at h; cases h
    | some k =>
      cases e2 : keysD ds with
      | none => rw [e1, e2] at h; cases h
      | some ks2 =>
        rw [e1, e2] at h
        cases h
        rw [rep_key h1 e1, rep_keys h2 e2]
        rfl
end
def valD {κ : Type} [DecidableEq κ] (kvs : List (κ × Dv)) (k : κ) : Option Dv := (kvs.find? fun kv => decide (kv.1 = k)).map (·.2)
def putD {κ : Type} [DecidableEq κ] (kvs : List (κ × Dv)) (k : κ) (v : Dv) : List (κ × Dv) :=
  if (kvs.any fun kv => decide (kv.1 = k)) = true then kvs.map (fun kv => if kv.1 = k then (kv.1, v) else kv) else kvs ++ [(k, v)]
section
variable {K : PySem.W.Frag} {I : Hp} {κ : Type} [DecidableEq κ]
theorem RepP.val : ∀ {kvs : List (κ × Dv)} {vs : List (κ × V)} (k : κ), RepP K I kvs vs → (valD kvs k = none ∧ valV vs k = none) ∨ ∃ d v, valD kvs k = some d ∧ valV vs k = some v ∧ Rep K I d v
  | _, _, k, .nil => .inl ⟨rfl, rfl⟩
  | (k1, d) :: r, (k2, v) :: r', k, .cons h t => by
    obtain ⟨h1, h2⟩ := h
    cases h1
    by_cases e : k1 = k
    · exact .inr ⟨d, v, by simp [valD, List.find?_cons, e], by simp [valV, List.find?_cons, e], h2⟩
    · have := RepP.val k t
      have e1 : valD ((k1, d) :: r) k = valD r k := by simp [valD, List.find?_cons, e]
      have e2 : valV ((k1, v) :: r') k = valV r' k := by simp [valV, List.find?_cons, e]
      rw [e1, e2]
      exact this
theorem RepP.any : ∀ {kvs : List (κ × Dv)} {vs : List (κ × V)} (k : κ), RepP K I kvs vs → (kvs.any fun kv => decide (kv.1 = k)) = (vs.any fun kv => decide (kv.1 = k))
  | _, _, k, .nil => rfl
  | (k1, d) :: r, (k2, v) :: r', k, .cons h t => by
    obtain ⟨h1, h2⟩ := h
    cases h1
    simp only [List.any_cons, RepP.any k t]
theorem RepP.repl {d : Dv} {v : V} (r : Rep K I d v) (k : κ) : ∀ {kvs : List (κ × Dv)} {vs : List (κ × V)}, RepP K I kvs vs → RepP K I (kvs.map fun kv => if kv.1 = k then (kv.1, d) else kv) (vs.map fun kv => if kv.1 = k then (kv.1, v) else kv)
  | _, _, .nil => .nil
  | (k1, d1) :: r1, (k2, v1) :: r2, .cons h t => by
    obtain ⟨h1, h2⟩ := h
    cases h1
    simp only [List.map_cons]
    by_cases e : k1 = k
    · rw [if_pos e, if_pos e]; exact .cons ⟨rfl, r⟩ (RepP.repl r k t)
    · rw [if_neg e, if_neg e]; exact .cons ⟨rfl, h2⟩ (RepP.repl r k t)
theorem RepP.app : ∀ {ps ps2 : List (κ × Dv)} {qs qs2 : List (κ × V)}, RepP K I ps qs → RepP K I ps2 qs2 → RepP K I (ps ++ ps2) (qs ++ qs2)
  | _, _, _, _, .nil, s => s
  | _, _, _, _, .cons h t, s => .cons h (RepP.app t s)
theorem RepP.put {kvs : List (κ × Dv)} {vs : List (κ × V)} {d : Dv} {v : V} (r : RepP K I kvs vs) (k : κ) (rd : Rep K I d v) : RepP K I (putD kvs k d) (putK vs k v) := by
  unfold putD putK
  rw [r.any k]
  split
  · exact r.repl rd k
  · exact r.app (.cons ⟨rfl, rd⟩ .nil)
end
/-! ## dicts -/
/-- what the dict at a holds at y -/
def dlook (μ : Mu) (a : Addr) (y : Dv) (Q : Option Dv → Prop) : Prop := match μ a with
  | some (.dK kvs) => match keyD y with | some k => Q (valD kvs k) | none => False
  | some (.fdK _ kvs _) => match keyD y with | some k => Q (valD kvs k) | none => False
  | some (.dT kvs) => match y with
    | .tup ys => match keysD ys with | some ks => Q (valD kvs ks) | none => False
    | _ => False
  | _ => False
theorem dlook_ok {K : PySem.W.Frag} {I H : Hp} {μ : Mu} {a : Addr} {y : Dv} {v : V} {Q : Option Dv → Prop} (SM : SatM K I μ H) (r : Rep K I y v) (q : dlook μ a y Q) :
    (DGet H a v none ∧ Q none) ∨ ∃ d u, DGet H a v (some u) ∧ Rep K I d u ∧ Q (some d) := by
  unfold dlook at q
  cases e : μ a with
  | none => simp only [e] at q
  | some m =>
    have hm := SM.memo e
    cases m with
    | dK kvs =>
      simp only [e] at q
      obtain ⟨vs, rp, hv⟩ := hm
      cases ek : keyD y with
      | none => simp only [ek] at q
      | some k =>
        simp only [ek] at q
        have ev := rep_key r ek
        subst ev
        have g := DGet.k (k := k) hv
        rcases rp.val k with ⟨h1, h2⟩ | ⟨d, u, h1, h2, h3⟩
        · rw [h2] at g; rw [h1] at q; exact .inl ⟨g, q⟩
        · rw [h2] at g; rw [h1] at q; exact .inr ⟨d, u, g, h3, q⟩
    | fdK o kvs vs =>
      simp only [e] at q
      obtain ⟨rp, hv⟩ := hm
      cases ek : keyD y with
      | none => simp only [ek] at q
      | some k =>
        simp only [ek] at q
        have ev := rep_key r ek
        subst ev
        have g : DGet H a (kV k) (valV vs k) := .inl ⟨vs, k, .inr ⟨o, hv⟩, rfl, rfl⟩
        rcases rp.val k with ⟨h1, h2⟩ | ⟨d, u, h1, h2, h3⟩
        · rw [h2] at g; rw [h1] at q; exact .inl ⟨g, q⟩
        · rw [h2] at g; rw [h1] at q; exact .inr ⟨d, u, g, h3, q⟩
    | dT kvs =>
      simp only [e] at q
      obtain ⟨vs, rp, hv⟩ := hm
      cases r <;> first | exact False.elim q | skip
      rename_i b ws ys h1 h2
      dsimp only at q
      cases ek : keysD ys with
      | none => simp only [ek] at q
      | some ks =>
        simp only [ek] at q
        have ew := rep_keys h2 ek
        subst ew
        have g := DGet.t (k := ks) hv (SM.ex _ _ h1)
        rcases rp.val ks with ⟨k1, k2⟩ | ⟨d, u, k1, k2, k3⟩
        · rw [k2] at g; rw [k1] at q; exact .inl ⟨g, q⟩
        · rw [k2] at g; rw [k1] at q; exact .inr ⟨d, u, g, k3, q⟩
    | _ => simp only [e] at q
/-- a[y] = v -/
def dstore (μ : Mu) (a : Addr) (y v : Dv) (Q : Mu → Prop) : Prop := match μ a with
  | some (.dK kvs) => match keyD y with | some k => kvs.length < sizeLine ∧ Q (mset μ a (.dK (putD kvs k v))) | none => False
  | some (.dT kvs) => match y with
    | .tup ys => match keysD ys with | some ks => kvs.length < sizeLine ∧ Q (mset μ a (.dT (putD kvs ks v))) | none => False
    | _ => False
  | _ => False
theorem dstore_ok {K : PySem.W.Frag} {I H : Hp} {μ : Mu} {a : Addr} {y d : Dv} {vy v : V} {Q : Mu → Prop} (SM : SatM K I μ H) (ry : Rep K I y vy) (rv : Rep K I d v) (q : dstore μ a y d Q) :
    ∃ H' μ', DPut H a vy v H' ∧ SatM K I μ' H' ∧ Q μ' := by
  unfold dstore at q
  cases e : μ a with
  | none => simp only [e] at q
  | some m =>
    have hm := SM.mu _ _ e
    cases m with
    | dK kvs =>
      simp only [e] at q
      obtain ⟨hI, vs, rp, hv⟩ := hm
      cases ek : keyD y with
      | none => simp only [ek] at q
      | some k =>
        simp only [ek] at q
        have ev := rep_key ry ek
        subst ev
        exact ⟨_, _, DPut.k (v := v) hv (by rw [← rp.len]; exact q.1), SM.setM (m := .dK (putD kvs k d)) hI ⟨_, rp.put k rv, upd_same⟩, q.2⟩
    | dT kvs =>
      simp only [e] at q
      obtain ⟨hI, vs, rp, hv⟩ := hm
      cases ry <;> first | exact False.elim q | skip
      rename_i b ws ys h1 h2
      dsimp only at q
      cases ek : keysD ys with
      | none => simp only [ek] at q
      | some ks =>
        simp only [ek] at q
        have ew := rep_keys h2 ek
        subst ew
        exact ⟨_, _, DPut.t (v := v) hv (SM.ex _ _ h1) (by rw [← rp.len]; exact q.1), SM.setM (m := .dT (putD kvs ks d)) hI ⟨_, rp.put ks rv, upd_same⟩, q.2⟩
    | _ => simp only [e] at q
section
variable {S : Sg} {ι : Type} {F : ι → Cx} {pos : Pos}
theorem room1 {X : Cx} (h : Is S X) : X.A.units + 1 < cLine := by have := h.units; omega
def vDGet (td ty : DE) : DE := fun δ μ Q => td δ μ fun x μ1 => ty δ μ1 fun y μ2 => match x with | .ref a => (dlook μ2 a y fun o => match o with | some d => Q d μ2 | none => False) | _ => False
theorem we_dget {o i : Expr} {td ty : DE} (ho : WE S F o td) (hi : WE S F i ty) (hs : NoSl i := by exact fun _ _ => rfl) : WE S F (.Subscript o i pos) (vDGet td ty) :=
  let ⟨ta, a1, a2⟩ := ho; let ⟨tb, b1, b2⟩ := hi
  ⟨_, fun i hi => pe_dget (room1 hi) (a1 i hi) (b1 i hi) hs, fun I δ μ σ H hJ SM hS Q Q' q u => a2 I δ μ σ H hJ SM hS _ _ q fun I1 x vx μ1 H1 e1 S1 r1 q1 =>
    b2 I1 δ μ1 σ H1 (hJ.trans e1) S1 (hS.mono e1) _ _ q1 fun I2 y vy μ2 H2 e2 S2 r2 q2 => by
      have r1' := r1.mono e2 _ _
      cases r1' <;> first | exact False.elim q2 | skip
      rcases dlook_ok S2 r2 q2 with ⟨_, q3⟩ | ⟨d, v, g, rd, q3⟩
      · exact q3.elim
      · exact ⟨_, v, rfl, g, u I2 d v μ2 H2 (e1.trans e2) S2 rd q3⟩⟩
def vDIn (ty td : DE) : DE := fun δ μ Q => ty δ μ fun y μ1 => td δ μ1 fun x μ2 => match x with | .ref a => dlook μ2 a y fun o => Q (.bl o.isSome) μ2 | _ => False
def vDNotIn (ty td : DE) : DE := fun δ μ Q => ty δ μ fun y μ1 => td δ μ1 fun x μ2 => match x with | .ref a => dlook μ2 a y fun o => Q (.bl (!o.isSome)) μ2 | _ => False
theorem re_din {ty td : TE} {sy sd : DE} (b2 : RE S ty sy) (a2 : RE S td sd) : RE S (tDIn ty td) (vDIn sy sd) := fun I δ μ σ H hJ SM hS Q Q' q u => b2 I δ μ σ H hJ SM hS _ _ q fun I1 y vy μ1 H1 e1 S1 r1 q1 =>
    a2 I1 δ μ1 σ H1 (hJ.trans e1) S1 (hS.mono e1) _ _ q1 fun I2 x vx μ2 H2 e2 S2 r2 q2 => by
      have r1' := r1.mono e2 _ _
      cases r2 <;> first | exact False.elim q2 | skip
      rcases dlook_ok S2 r1' q2 with ⟨g, q3⟩ | ⟨d, v, g, rd, q3⟩
      · exact ⟨_, _, rfl, g, u I2 _ _ μ2 H2 (e1.trans e2) S2 (.bl _) q3⟩
      · exact ⟨_, _, rfl, g, u I2 _ _ μ2 H2 (e1.trans e2) S2 (.bl _) q3⟩
theorem re_dnotin {ty td : TE} {sy sd : DE} (b2 : RE S ty sy) (a2 : RE S td sd) : RE S (tDNotIn ty td) (vDNotIn sy sd) := fun I δ μ σ H hJ SM hS Q Q' q u => b2 I δ μ σ H hJ SM hS _ _ q fun I1 y vy μ1 H1 e1 S1 r1 q1 =>
    a2 I1 δ μ1 σ H1 (hJ.trans e1) S1 (hS.mono e1) _ _ q1 fun I2 x vx μ2 H2 e2 S2 r2 q2 => by
      have r1' := r1.mono e2 _ _
      cases r2 <;> first | exact False.elim q2 | skip
      rcases dlook_ok S2 r1' q2 with ⟨g, q3⟩ | ⟨d, v, g, rd, q3⟩
      · exact ⟨_, _, rfl, g, u I2 _ _ μ2 H2 (e1.trans e2) S2 (.bl _) q3⟩
      · exact ⟨_, _, rfl, g, u I2 _ _ μ2 H2 (e1.trans e2) S2 (.bl _) q3⟩
theorem vTest_B {te : TE} {t : DE} (h : RE S te t) : RT S (tB te) (vTest t) := fun I δ μ σ H hJ SM hS Q Q' q u =>
  h I δ μ σ H hJ SM hS _ _ q fun I1 x vx μ1 H1 e1 S1 r1 q1 => by
    cases r1 <;> first | exact False.elim q1 | exact ⟨_, rfl, u I1 _ μ1 H1 e1 S1 q1⟩
theorem wt_din {i o : Expr} {ty td : DE} (hi : WE S F i ty) (ho : WE S F o td) (hm : behindInMarks .In o = false := by rfl) : WT S F (.Compare i [.In] [o] pos) (vTest (vDIn ty td)) :=
  let ⟨ta, a1, a2⟩ := ho; let ⟨tb, b1, b2⟩ := hi
  ⟨_, fun i hi => pt_cmp (pc_din (room1 hi) (b1 i hi) (a1 i hi)) hm, vTest_B (re_din b2 a2)⟩
theorem wt_dnotin {i o : Expr} {ty td : DE} (hi : WE S F i ty) (ho : WE S F o td) (hm : behindInMarks .NotIn o = false := by rfl) : WT S F (.Compare i [.NotIn] [o] pos) (vTest (vDNotIn ty td)) :=
  let ⟨ta, a1, a2⟩ := ho; let ⟨tb, b1, b2⟩ := hi
  ⟨_, fun i hi => pt_cmp (pc_dnotin (room1 hi) (b1 i hi) (a1 i hi)) hm, vTest_B (re_dnotin b2 a2)⟩
theorem we_din {i o : Expr} {ty td : DE} (hi : WE S F i ty) (ho : WE S F o td) (hm : behindInMarks .In o = false := by rfl) : WE S F (.Compare i [.In] [o] pos) (vDIn ty td) :=
  let ⟨ta, a1, a2⟩ := ho; let ⟨tb, b1, b2⟩ := hi
  ⟨_, fun i hi => pe_cmp (pc_din (room1 hi) (b1 i hi) (a1 i hi)) hm, re_din b2 a2⟩
def sDPutV (td ty tv : DE) : DS := fun D δ μ => tv δ μ fun v μ1 => td δ μ1 fun x μ2 => ty δ μ2 fun y μ3 => match x with | .ref a => dstore μ3 a y v fun μ4 => D.nx δ μ4 | _ => False
theorem ws_dput {o i e : Expr} {td ty tv : DE} {pos' : Pos} (ho : WE S F o td) (hi : WE S F i ty) (hv : WE S F e tv) (hs : ∀ env, swapsWith e (some (.Subscript o i pos')) pos.line env = pure false := by exact fun _ => rfl) : WS S F (.Assign [.Subscript o i pos'] e pos) (sDPutV td ty tv) :=
  let ⟨ta, a1, a2⟩ := ho; let ⟨tb, b1, b2⟩ := hi; let ⟨tc, c1, c2⟩ := hv
  ⟨_, fun i hi => ps_dput (room1 hi) (a1 i hi) (b1 i hi) (c1 i hi) (hs _), fun I δ μ σ H hJ SM hS D D' q u => c2 I δ μ σ H hJ SM hS _ _ q fun I1 v vv μ1 H1 e1 S1 r1 q1 =>
    a2 I1 δ μ1 σ H1 (hJ.trans e1) S1 (hS.mono e1) _ _ q1 fun I2 x vx μ2 H2 e2 S2 r2 q2 =>
      b2 I2 δ μ2 σ H2 ((hJ.trans e1).trans e2) S2 (hS.mono (e1.trans e2)) _ _ q2 fun I3 y vy μ3 H3 e3 S3 r3 q3 => by
        have r2' := r2.mono e3 _ _
        cases r2' <;> first | exact False.elim q3 | skip
        obtain ⟨H', μ', g, S4, q4⟩ := dstore_ok S3 r3 (r1.mono (e2.trans e3) _ _) q3
        exact ⟨_, H', rfl, g, u.nx I3 δ σ μ' H' ((e1.trans e2).trans e3) S4 (hS.mono ((e1.trans e2).trans e3)) q4⟩⟩
def vDNewK : DE := fun _ μ Q => ∀ p, μ p = none → Q (.ref p) (mset μ p (.dK []))
def vDNewT : DE := fun _ μ Q => ∀ p, μ p = none → Q (.ref p) (mset μ p (.dT []))
theorem we_dnewK : WE S F (.Dict [] [] pos) vDNewK := ⟨_, fun _ _ => pe_dnewK, fun I δ μ σ H hJ SM hS Q Q' q u p hp => u I _ _ _ _ (Same.refl I) (SM.setM (m := .dK []) (SM.ex.free hp) ⟨[], .nil, upd_same⟩) (.ref p) (q p (SM.muNone hp))⟩
theorem we_dnewT : WE S F (.Dict [] [] pos) vDNewT := ⟨_, fun _ _ => pe_dnewT, fun I δ μ σ H hJ SM hS Q Q' q u p hp => u I _ _ _ _ (Same.refl I) (SM.setM (m := .dT []) (SM.ex.free hp) ⟨[], .nil, upd_same⟩) (.ref p) (q p (SM.muNone hp))⟩
/-! {k: v, ..} -/
def dPairs : List (DE × DE) → DSt → Mu → (List (Dv × Dv) → Mu → Prop) → Prop
  | [], _, μ, Q => Q [] μ
  | (tk, tv) :: r, δ, μ, Q => tk δ μ fun x μ1 => tv δ μ1 fun y μ2 => dPairs r δ μ2 fun ps μ3 => Q ((x, y) :: ps) μ3
def WPs (S : Sg) {ι : Type} (F : ι → Cx) (pos : Pos) (keys : List (Option Expr)) (values : List Expr) (prs : List (DE × DE)) : Prop := ∃ trs, (∀ i, Is S (F i) → PPs (F i) pos keys values trs) ∧ Paired (fun p q => RE S p.1 q.1 ∧ RE S p.2 q.2) trs prs
theorem wps_nil : WPs S F pos [] [] [] := ⟨[], fun _ _ => pps_nil, .nil⟩
theorem wps_cons {k v : Expr} {ks : List (Option Expr)} {vs : List Expr} {tk tv : DE} {prs : List (DE × DE)} (hk : WE S F k tk) (hv : WE S F v tv) (hr : WPs S F pos ks vs prs) : WPs S F pos (some k :: ks) (v :: vs) ((tk, tv) :: prs) :=
  let ⟨a, a1, a2⟩ := hk; let ⟨b, b1, b2⟩ := hv; let ⟨c, c1, c2⟩ := hr
  ⟨_, fun i hi => pps_cons (a1 i hi) (b1 i hi) (c1 i hi), .cons ⟨a2, b2⟩ c2⟩
theorem pairs_run : ∀ {trs : List (TE × TE)} {prs : List (DE × DE)}, Paired (fun p q => RE S p.1 q.1 ∧ RE S p.2 q.2) trs prs → ∀ I δ μ σ H, Same S.J I → SatM S.K I μ H → RepS S.K I δ σ → ∀ (Q : List (Dv × Dv) → Mu → Prop) (Q' : List (V × V) → Hp → Prop), dPairs prs δ μ Q →
    (∀ I' ps vs μ' H', Same I I' → SatM S.K I' μ' H' → Paired (fun (p : Dv × Dv) (q : V × V) => Rep S.K I' p.1 q.1 ∧ Rep S.K I' p.2 q.2) ps vs → Q ps μ' → Q' vs H') → tPairs trs σ H Q'
  | _, _, .nil, I, δ, μ, σ, H, hJ, SM, hS, Q, Q', q, u => u I [] [] μ H (Same.refl I) SM .nil q
  | _, _, .cons h t, I, δ, μ, σ, H, hJ, SM, hS, Q, Q', q, u => h.1 I δ μ σ H hJ SM hS _ _ q fun I1 x vx μ1 H1 e1 S1 r1 q1 =>
    h.2 I1 δ μ1 σ H1 (hJ.trans e1) S1 (hS.mono e1) _ _ q1 fun I2 y vy μ2 H2 e2 S2 r2 q2 =>
      pairs_run t I2 δ μ2 σ H2 ((hJ.trans e1).trans e2) S2 (hS.mono (e1.trans e2)) _ _ q2 fun I3 ps vs μ3 H3 e3 S3 r3 q3 =>
        u I3 _ _ μ3 H3 ((e1.trans e2).trans e3) S3 (.cons ⟨r1.mono (e2.trans e3) _ _, r2.mono e3 _ _⟩ r3) q3
def vDisp (prs : List (DE × DE)) : DE := fun δ μ Q => ∀ p, μ p = none → dPairs prs δ (mset μ p (.dK [])) fun ps μ2 => μ2 p = some (.dK []) ∧ ∃ kvs : List (Key × Dv), ps = kvs.map (fun kv => (kD kv.1, kv.2)) ∧ kvs.length ≤ 15 ∧ Q (.ref p) (mset μ2 p (.dK (kvs.foldl (fun acc kv => putD acc kv.1 kv.2) [])))
theorem pairs_kv {K : PySem.W.Frag} {I : Hp} : ∀ {kvs : List (Key × Dv)} {vs : List (V × V)}, Paired (fun (p : Dv × Dv) (q : V × V) => Rep K I p.1 q.1 ∧ Rep K I p.2 q.2) (kvs.map fun kv => (kD kv.1, kv.2)) vs → ∃ ws : List (Key × V), vs = ws.map (fun kv => (kV kv.1, kv.2)) ∧ RepP K I kvs ws
  | [], _, .nil => ⟨[], rfl, .nil⟩
  | (k, d) :: kvs, (x, y) :: vs, .cons h t => by
    obtain ⟨ws, e, r⟩ := pairs_kv t
    have hx : x = kV k := rep_kD h.1
    subst hx
    exact ⟨(k, y) :: ws, by rw [e]; rfl, .cons ⟨rfl, h.2⟩ r⟩
theorem merge_rep {K : PySem.W.Frag} {I : Hp} : ∀ {kvs : List (Key × Dv)} {ws : List (Key × V)} {a : List (Key × Dv)} {b : List (Key × V)}, RepP K I kvs ws → RepP K I a b → RepP K I (kvs.foldl (fun acc kv => putD acc kv.1 kv.2) a) (ws.foldl (fun acc kv => putK acc kv.1 kv.2) b)
  | _, _, _, _, .nil, s => s
  | (k, d) :: _, (k2, v) :: _, _, _, .cons h t, s => by
    obtain ⟨h1, h2⟩ := h
    cases h1
    have z := merge_rep t (RepP.put s k h2)
    exact z
theorem we_disp {keys : List (Option Expr)} {values : List Expr} {prs : List (DE × DE)} (h : WPs S F pos keys values prs) (hall : keys.all (·.isSome) = true := by rfl) (hl : keys.length = values.length := by rfl) (h0 : keys ≠ [] := by exact List.cons_ne_nil _ _) (h15 : keys.length ≤ 15 := by decide) : WE S F (.Dict keys values pos) (vDisp prs) :=
  let ⟨trs, a1, a2⟩ := h
  ⟨_, fun i hi => pe_disp (a1 i hi) hall hl h0 h15, fun I δ μ σ H hJ SM hS Q Q' q u p hp => by
    have S1 := SM.setM (o := .dK []) (m := .dK []) (SM.ex.free hp) ⟨[], .nil, upd_same⟩
    refine pairs_run a2 I δ _ σ _ hJ S1 hS _ _ (q p (SM.muNone hp)) fun I2 ps vs μ2 H2 e2 S2 r2 q2 => ?_
    obtain ⟨em, kvs, e, hlen, q3⟩ := q2
    subst e
    obtain ⟨ws, ew, rw'⟩ := pairs_kv r2
    obtain ⟨hI, b, rb, hb⟩ := S2.mu _ _ em
    cases rb
    exact ⟨hb, ws, ew, by rw [← rw'.len]; exact hlen, u I2 _ _ _ _ e2 (S2.setM (m := .dK (kvs.foldl (fun acc kv => putD acc kv.1 kv.2) [])) hI ⟨_, merge_rep rw' .nil, upd_same⟩) (.ref p) q3⟩⟩
/-- d.get(k) -/
def vDGet1 (td ty : DE) : DE := fun δ μ Q => td δ μ fun x μ1 => match x with
  | .ref a => (match μ1 a with | some (.dK _) => True | some (.dT _) => True | _ => False) ∧ ty δ μ1 fun y μ2 => dlook μ2 a y fun o => Q (o.getD .non) μ2
  | _ => False
theorem we_dget1 {o e : Expr} {td ty : DE} {apos cpos : Pos} (ho : WE S F o td) (he : WE S F e ty) (hm : ∀ j, M1 (F j) o "get" apos e cpos := by exact fun _ => ⟨rfl, rfl, rfl, rfl⟩) : WE S F (.Call (.Attribute o "get" apos) [e] [] cpos) (vDGet1 td ty) :=
  let ⟨ta, a1, a2⟩ := ho; let ⟨tb, b1, b2⟩ := he
  ⟨_, fun i hi => pe_dget1 (room1 hi) (a1 i hi) (b1 i hi) (hm i), fun I δ μ σ H hJ SM hS Q Q' q u => a2 I δ μ σ H hJ SM hS _ _ q fun I1 x vx μ1 H1 e1 S1 r1 q1 => by
    cases r1 <;> first | exact False.elim q1 | skip
    rename_i a
    refine ⟨a, rfl, ?_, b2 I1 δ μ1 σ H1 (hJ.trans e1) S1 (hS.mono e1) _ _ q1.2 fun I2 y vy μ2 H2 e2 S2 r2 q2 => ?_⟩
    · have h := q1.1
      cases e : μ1 a with
      | none => simp only [e] at h
      | some m =>
        have hm' := S1.memo e
        cases m with
        | dK kvs => obtain ⟨vs, _, hv⟩ := hm'; exact .inl ⟨vs, .inl hv⟩
        | dT kvs => obtain ⟨vs, _, hv⟩ := hm'; exact .inr ⟨vs, .inl hv⟩
        | _ => simp only [e] at h
    · rcases dlook_ok S2 r2 q2 with ⟨g, q3⟩ | ⟨d, v, g, rd, q3⟩
      · exact ⟨none, g, u I2 _ _ μ2 H2 (e1.trans e2) S2 .non q3⟩
      · exact ⟨some v, g, u I2 _ _ μ2 H2 (e1.trans e2) S2 rd q3⟩⟩
end
end Wl

set_option Elab.async false
set_option linter.all false
set_option maxRecDepth 100000
set_option maxHeartbeats 2000000
namespace Wl
open PySem L2
open PySem.Spec PyProof.Rows
section
variable {S : Sg} {ι : Type} {F : ι → Cx} {pos : Pos}
/-! ## is None -/
def isNo : Dv → Bool
  | .non => true
  | _ => false
def gIsN : D2 := fun x y μ Q => match y with | .non => Q (.bl (isNo x)) μ | _ => False
def gNotN : D2 := fun x y μ Q => match y with | .non => Q (.bl (!isNo x)) μ | _ => False
theorem rep_isNo {K : PySem.W.Frag} {I : Hp} {d : Dv} {v : V} (r : Rep K I d v) : decide (v = .non) = isNo d := by cases r <;> rfl
theorem wo_isN : WO S (compareOp .Is) gIsN := ⟨_, fun X _ => op_isN, fun I μ H _ SM dx dy x y rx ry Q Q' q u => by
  cases ry <;> first | exact False.elim q | exact ⟨rfl, by rw [rep_isNo rx]; exact u I _ _ μ H (Same.refl I) SM (.bl _) q⟩⟩
theorem wo_notN : WO S (compareOp .IsNot) gNotN := ⟨_, fun X _ => op_notN, fun I μ H _ SM dx dy x y rx ry Q Q' q u => by
  cases ry <;> first | exact False.elim q | exact ⟨rfl, by rw [rep_isNo rx]; exact u I _ _ μ H (Same.refl I) SM (.bl _) q⟩⟩
/-! ## isinstance(x, T), T a built-in type -/
def tyName (x : Dv) (μ : Mu) : Option String := match x with
  | .non => some "NoneType"
  | .bl _ => some "bool"
  | .int _ => some "int"
  | .str _ => some "str"
  | .tup _ => some "tuple"
  | .lst _ => some "list"
  | .ref a => match μ a with
    | some (.lst _) => some "list"
    | some (.dK _) => some "dict"
    | some (.dT _) => some "dict"
    | _ => none
  | _ => none
def gIsi : DC := fun xs μ Q => match xs with
  | [x, .ty T] => ∃ n b, tyName x μ = some n ∧ kitB n T = some b ∧ Q (.bl b) μ
  | _ => False
theorem tyName_ok {K : PySem.W.Frag} {I H : Hp} {μ : Mu} (SM : SatM K I μ H) {d : Dv} {v : V} {n : String} (r : Rep K I d v) (e : tyName d μ = some n) : TyX K H v (.type n) := by
  cases r <;> first | cases e | skip
  · exact .base .non
  · exact .base (.bl _)
  · exact .base (.int _)
  · exact .base (.str _)
  · rename_i a
    unfold tyName at e
    cases em : μ a with
    | none => simp only [em] at e; cases e
    | some m =>
      have hm := SM.memo em
      cases m with
      | lst xs => simp only [em] at e; cases e; obtain ⟨vs, _, h⟩ := hm; exact .base (.lst h)
      | dK kvs => simp only [em] at e; cases e; obtain ⟨vs, _, h⟩ := hm; exact .base (.dK h)
      | dT kvs => simp only [em] at e; cases e; obtain ⟨vs, _, h⟩ := hm; exact .base (.dT h)
      | _ => simp only [em] at e; cases e
  · rename_i h1 h2; exact .base (.tup (SM.ex _ _ h1))
  · rename_i h1 h2; exact .base (.lst (SM.ex _ _ h1))
theorem wc_isi : WC S (.builtin "isinstance") gIsi := ⟨rIsi S.K, fun X hX => hX.K ▸ call_isi, fun I μ H _ SM ds vs r Q Q' q u => by
  cases r with
  | nil => exact q.elim
  | cons r1 r2 =>
    cases r2 with
    | nil => exact q.elim
    | cons r2 r3 =>
      cases r3 with
      | cons _ _ => cases r2 <;> exact q.elim
      | nil =>
        cases r2 <;> first | exact False.elim q | skip
        obtain ⟨n, b, e1, e2, q2⟩ := q
        exact ⟨_, _, _, _, b, rfl, .ty _, tyName_ok SM r1 e1, kit_ty e2, u I _ _ μ H (Same.refl I) SM (.bl b) q2⟩⟩
/-! ## in -/
def rInP (K : PySem.W.Frag) (neg : Bool) : R2 := fun x y H Q => ∃ d ds, Dp K H x d ∧ (Dp K H y (.list ds) ∨ Dp K H y (.tuple ds)) ∧ d.plain = true ∧ PyData.plainAll ds = true ∧ min (PyData.depthAll ds) d.depth ≤ 60 ∧
  Q (.bl (if neg then !(ds.any fun z => PyData.eqv z d) else ds.any fun z => PyData.eqv z d)) H
theorem op_inP {X : Cx} (hu : X.A.units + 64 < cLine) : OpR X (compareOp .In) (rInP X.K false) := by
  intro pins s σ H x y v u Q I rx ry h
  obtain ⟨d, ds, hd, he, pd, pe, hz, q⟩ := h
  obtain ⟨as, r1⟩ := Dp.reads I d x v hd rx
  rcases he with he | he
  · obtain ⟨bs, r2⟩ := Dp.reads I _ y u he ry
    exact SeqAt.in_list_data r2 r1 pe pd (by omega) ⟨.bl _, H, I, rfl, q⟩
  · obtain ⟨bs, r2⟩ := Dp.reads I _ y u he ry
    exact SeqAt.in_tuple_data r2 r1 pe pd (by omega) ⟨.bl _, H, I, rfl, q⟩
theorem op_notInP {X : Cx} (hu : X.A.units + 64 < cLine) : OpR X (compareOp .NotIn) (rInP X.K true) := by
  intro pins s σ H x y v u Q I rx ry h
  obtain ⟨d, ds, hd, he, pd, pe, hz, q⟩ := h
  obtain ⟨as, r1⟩ := Dp.reads I d x v hd rx
  rcases he with he | he
  · obtain ⟨bs, r2⟩ := Dp.reads I _ y u he ry
    exact SeqAt.notIn_list_data r2 r1 pe pd (by omega) ⟨.bl _, H, I, rfl, q⟩
  · obtain ⟨bs, r2⟩ := Dp.reads I _ y u he ry
    exact SeqAt.notIn_tuple_data r2 r1 pe pd (by omega) ⟨.bl _, H, I, rfl, q⟩
def dIn (x : Dv) (ys : List Dv) : Bool := ys.any fun z => dEq z x
def inOk (x : Dv) (ys : List Dv) : Prop := x.isD = true ∧ Dv.areD ys = true ∧ min (PyData.depthAll (Dv.pds ys)) x.pd.depth ≤ 60
def gIn (neg : Bool) : D2 := fun x y μ Q => match y with
  | .tup ys => inOk x ys ∧ Q (.bl (if neg then !dIn x ys else dIn x ys)) μ
  | .lst ys => inOk x ys ∧ Q (.bl (if neg then !dIn x ys else dIn x ys)) μ
  | .ref a => match μ a with | some (.lst ys) => inOk x ys ∧ Q (.bl (if neg then !dIn x ys else dIn x ys)) μ | _ => False
  | _ => False
theorem gIn_ok {K : PySem.W.Frag} {neg : Bool} {I H : Hp} {μ : Mu} (SM : SatM K I μ H) {dx dy : Dv} {x y : V} {Q : DV} (rx : Rep K I dx x) (ry : Rep K I dy y) (q : gIn neg dx dy μ Q) :
    ∃ ys, inOk dx ys ∧ (Dp K H y (.list (Dv.pds ys)) ∨ Dp K H y (.tuple (Dv.pds ys))) ∧ Q (.bl (if neg then !dIn dx ys else dIn dx ys)) μ := by
  cases ry <;> first | exact False.elim q | skip
  · rename_i a
    unfold gIn at q
    dsimp only at q
    cases em : μ a with
    | none => simp only [em] at q
    | some m =>
      cases m with
      | lst ys =>
        simp only [em] at q
        obtain ⟨vs, rl, hv⟩ := SM.memo em
        exact ⟨ys, q.1, .inl (.lst (.inl (.inl hv)) (rl.dp SM.ex _ _ q.1.2.1)), q.2⟩
      | _ => simp only [em] at q
  · rename_i h1 h2; exact ⟨_, q.1, .inr (.tup (.inl (.inl (SM.ex _ _ h1))) (h2.dp SM.ex _ _ q.1.2.1)), q.2⟩
  · rename_i h1 h2; exact ⟨_, q.1, .inl (.lst (.inl (.inl (SM.ex _ _ h1))) (h2.dp SM.ex _ _ q.1.2.1)), q.2⟩
theorem any_pds (d : PyData) : ∀ ys : List Dv, ((Dv.pds ys).any fun z => PyData.eqv z d) = ys.any fun z => PyData.eqv z.pd d
  | [] => rfl
  | y :: ys => by simp only [Dv.pds, List.any_cons, any_pds d ys]
theorem wo_in : WO S (compareOp .In) (gIn false) := ⟨rInP S.K false, fun X hX => hX.K ▸ op_inP hX.units, fun I μ H _ SM dx dy x y rx ry Q Q' q u => by
  obtain ⟨ys, h1, h2, h3⟩ := gIn_ok SM rx ry q
  exact ⟨dx.pd, Dv.pds ys, rx.dp SM.ex _ _ h1.1, h2, dx.plain, Dv.plains ys, h1.2.2, by rw [any_pds]; exact u I _ _ μ H (Same.refl I) SM (.bl _) h3⟩⟩
theorem wo_notIn : WO S (compareOp .NotIn) (gIn true) := ⟨rInP S.K true, fun X hX => hX.K ▸ op_notInP hX.units, fun I μ H _ SM dx dy x y rx ry Q Q' q u => by
  obtain ⟨ys, h1, h2, h3⟩ := gIn_ok SM rx ry q
  exact ⟨dx.pd, Dv.pds ys, rx.dp SM.ex _ _ h1.1, h2, dx.plain, Dv.plains ys, h1.2.2, by rw [any_pds]; exact u I _ _ μ H (Same.refl I) SM (.bl _) h3⟩⟩
/-- one sign in a text -/
def gInS (neg : Bool) : D2 := fun x y μ Q => match x, y with
  | .str a, .str z => ∃ c, a = ⟨#[c]⟩ ∧ Q (.bl (if neg then !decide (c ∈ z.cps.toList) else decide (c ∈ z.cps.toList))) μ
  | _, _ => False
theorem wo_inS : WO S (compareOp .In) (gInS false) := ⟨_, fun X _ => op_in_sign, fun I μ H _ SM dx dy x y rx ry Q Q' q u => by
  cases rx <;> first | exact False.elim q | skip
  cases ry <;> first | exact False.elim q | skip
  obtain ⟨c, rfl, q⟩ := q
  exact ⟨c, _, rfl, rfl, u I _ _ μ H (Same.refl I) SM (.bl _) q⟩⟩
theorem wo_notInS : WO S (compareOp .NotIn) (gInS true) := ⟨_, fun X _ => op_notIn_sign, fun I μ H _ SM dx dy x y rx ry Q Q' q u => by
  cases rx <;> first | exact False.elim q | skip
  cases ry <;> first | exact False.elim q | skip
  obtain ⟨c, rfl, q⟩ := q
  exact ⟨c, _, rfl, rfl, u I _ _ μ H (Same.refl I) SM (.bl _) q⟩⟩
/-! ## sets of tuples -/
def vSet0 (P : Program) (w : World) : DE := fun _ μ Q => ∀ p, μ p = none → Q (.ref p) (mset μ p (.st P w []))
theorem we_set0 {p : Pos} (hm : S.mg "set" = none) (hg : ∀ j, Gl (F j) "set" := by exact fun _ => rfl) : WE S F (.Call (.Name "set" p) [] [] pos) (vSet0 S.P S.w) :=
  ⟨tCB (Ws.rSet0T S.P S.w) tNil, fun i hi => by
    have h := pe_callTy0 (pos := pos) (p := p) Ws.cr_set0T (hg i) (hi.mg ▸ hm) (by decide +kernel)
    rw [hi.prog, hi.w] at h
    exact h, fun I δ μ σ H hJ SM hS Q Q' q u => ⟨rfl, fun p hp => u I _ _ _ _ (Same.refl I) (SM.setM (m := .st S.P S.w []) (SM.ex.free hp) ⟨[], .refl _, (fun _ h => by cases h), upd_same⟩) (.ref p) (q p (SM.muNone hp))⟩⟩
def gInT (P : Program) (w : World) (neg : Bool) : D2 := fun x y μ Q => match x, y with
  | .tup xs, .ref a => ∃ k ks, keysD xs = some k ∧ μ a = some (.st P w ks) ∧ ∀ r : Bool, (r = true ↔ k ∈ ks) → Q (.bl (if neg then !r else r)) μ
  | _, _ => False
theorem r_inT {P : Program} {w : World} {neg : Bool} {K : PySem.W.Frag} {I H : Hp} {μ : Mu} (SM : SatM K I μ H) {dx dy : Dv} {x y : V} {Q : DV} {Q' : VK} (rx : Rep K I dx x) (ry : Rep K I dy y) (q : gInT P w neg dx dy μ Q) (u : Up K I Q Q') : Ws.rInT P w neg x y H Q' := by
  cases rx <;> first | exact False.elim q | skip
  rename_i b vs xs h1 h2
  cases ry <;> first | exact False.elim q | skip
  obtain ⟨k, ks, ek, em, q⟩ := q
  obtain ⟨L, pm, kn, hv⟩ := SM.memo em
  have e := rep_keys h2 ek
  subst e
  refine ⟨b, _, k, L, rfl, rfl, SM.ex _ _ h1, hv, fun p hp => SM.ex _ _ (kn p hp), fun r hr => u I _ _ μ H (Same.refl I) SM (.bl _) (q r (hr.trans pm.mem_iff))⟩
theorem wo_inT : WO S (compareOp .In) (gInT S.P S.w false) := ⟨Ws.rInT S.P S.w false, fun X hX => by
  have h := Ws.or_inT (X := X) (by have := hX.units; omega)
  rw [hX.prog, hX.w] at h
  exact h, fun I μ H _ SM dx dy x y rx ry Q Q' q u => r_inT SM rx ry q u⟩
theorem wo_notInT : WO S (compareOp .NotIn) (gInT S.P S.w true) := ⟨Ws.rInT S.P S.w true, fun X hX => by
  have h := Ws.or_notInT (X := X) (by have := hX.units; omega)
  rw [hX.prog, hX.w] at h
  exact h, fun I μ H _ SM dx dy x y rx ry Q Q' q u => r_inT SM rx ry q u⟩
def vAddT (P : Program) (w : World) (to : DE) (te : DE) : DE := fun δ μ Q => to δ μ fun x μ1 => match x with
  | .ref a => (∃ ks, μ1 a = some (.st P w ks)) ∧ te δ μ1 fun y μ2 => match y with
    | .tup xs => ∃ k ks, keysD xs = some k ∧ μ2 a = some (.st P w ks) ∧ ks.length + 1 < 64 ∧ (k ∈ ks → Q .non μ2) ∧ (k ∉ ks → Q .non (mset μ2 a (.st P w (k :: ks))))
    | _ => False
  | _ => False
theorem mset_id {μ : Mu} {a : Addr} {m : Mo} (h : μ a = some m) : mset μ a m = μ := by
  funext b
  unfold mset
  split
  · rename_i e; subst e; exact h.symm
  · rfl
theorem we_addT {o e : Expr} {to te : DE} {apos cpos : Pos} (ho : WE S F o to) (he : WE S F e te) (hbase : ∀ env, attributeBase o "add" env (eval o env) = eval o env := by exact fun _ => rfl)
    (hfew : ∀ env, ((backTo cpos (starEach [e] env)).all (fun x => !x.1) && (backToKw cpos (keywordEach [] env)).all (fun x => x.1.isSome)
      && decide ([e].length + ([] : List Keyword).length + (if ([] : List Keyword).isEmpty then 0 else 1) < 30)) = true := by exact fun _ => rfl)
    (hline : (apos.endLine == cpos.line) = true := by rfl) (hs : ∀ env, starEach [e] env = (false, eval e env) :: starEach [] env := by exact fun _ => rfl) : WE S F (.Call (.Attribute o "add" apos) [e] [] cpos) (vAddT S.P S.w to te) := by
  obtain ⟨ta, a1, a2⟩ := ho
  obtain ⟨tb, b1, b2⟩ := he
  refine ⟨Ws.tAddT S.P S.w ta (tCons tb tNil), fun i hi => ?_, fun I δ μ σ H hJ SM hS Q Q' q u => a2 I δ μ σ H hJ SM hS _ _ q fun I1 x vx μ1 H1 e1 S1 r1 q1 => ?_⟩
  · have h := Ws.pe_addT (cpos := cpos) (apos := apos) (by have := hi.units; omega) (a1 i hi) (pa_cons (b1 i hi) pa_nil (hs _)) (hbase _) (hfew _) hline (hs _) rfl
    rw [hi.prog, hi.w] at h
    exact h
  · cases r1 <;> first | exact False.elim q1 | skip
    obtain ⟨⟨ks, em⟩, q1⟩ := q1
    obtain ⟨L, pm, kn, hv⟩ := S1.memo em
    refine ⟨⟨_, L, rfl, hv⟩, b2 I1 δ μ1 σ H1 (hJ.trans e1) S1 (hS.mono e1) _ _ q1 fun I2 y vy μ2 H2 e2 S2 r2 q2 => ?_⟩
    cases r2 <;> first | exact False.elim q2 | skip
    rename_i b vs xs h1 h2
    obtain ⟨k, ks2, ek, em2, few, q3, q4⟩ := q2
    obtain ⟨hI, L2', pm2, kn2, hv2⟩ := S2.mu _ _ em2
    have e := rep_keys h2 ek
    subst e
    have hlen : L2'.length = ks2.length := by rw [← pm2.length_eq, List.length_map]
    refine ⟨_, b, k, L2', rfl, rfl, hv2, S2.ex _ _ h1, fun p hp => S2.ex _ _ (kn2 p hp), by rw [hlen]; exact few, fun L3 z1 z2 => ?_⟩
    by_cases hk : k ∈ ks2
    · rw [z1 (pm2.mem_iff.mpr hk)]
      have S3 := S2.setM (p := _) (o := Ws.SetT S.P S.w _ L2') (m := .st S.P S.w ks2) hI ⟨L2', pm2, kn2, upd_same⟩
      rw [mset_id em2] at S3
      exact u I2 _ _ _ _ (e1.trans e2) S3 .non (q3 hk)
    · have p3 := z2 (fun h => hk (pm2.mem_iff.mp h))
      have S3 := S2.setM (p := _) (o := Ws.SetT S.P S.w _ L3) (m := .st S.P S.w (k :: ks2)) hI ⟨L3, (p3.map (·.2)).trans (by rw [List.map_cons]; exact List.Perm.cons _ pm2), fun p hp => by
        rcases List.mem_cons.mp (p3.mem_iff.mp hp) with e | hp
        · rw [e]; exact h1
        · exact kn2 p hp, upd_same⟩
      exact u I2 _ _ _ _ (e1.trans e2) S3 .non (q4 hk)
/-! ## all, join -/
def boolsD : List Dv → Option (List Bool)
  | [] => some []
  | .bl b :: xs => (boolsD xs).map (b :: ·)
  | _ :: _ => none
theorem rep_bools {K : PySem.W.Frag} {I : Hp} : ∀ {ds : List Dv} {vs : List V} {bs : List Bool}, RepL K I ds vs → boolsD ds = some bs → vs = bs.map V.bl
  | _, _, _, .nil, h => by cases h; rfl
  | d :: ds, v :: vs, bs, .cons h1 h2, h => by
    cases h1 <;> first | cases h | skip
    rename_i b
    have h' : (boolsD ds).map (b :: ·) = some bs := h
    cases e : boolsD ds with
    | none => rw [e] at h'; cases h'
    | some bs2 =>
      rw [e] at h'
      cases h'
      rw [rep_bools h2 e]
      rfl
def gAll : DC := fun xs μ Q => match xs with
  | [.lst ys] => ∃ bs, boolsD ys = some bs ∧ Q (.bl (bs.all id)) μ
  | _ => False
theorem wc_all (hcold : S.cold = false := by rfl) : WC S (.builtin "all") gAll := ⟨rAll S.K, fun X hX => hX.K ▸ cr_all (hX.calm hcold), fun I μ H _ SM ds vs r Q Q' q u => by
  cases r with
  | nil => exact q.elim
  | cons r1 r2 =>
    cases r2 with
    | cons _ _ => cases r1 <;> exact False.elim q
    | nil =>
      cases r1 <;> first | exact False.elim q | skip
      rename_i h1 h2
      obtain ⟨bs, eb, q⟩ := q
      have e := rep_bools h2 eb
      subst e
      exact ⟨_, bs, rfl, .inl (.inl (SM.ex _ _ h1)), u I _ _ μ H (Same.refl I) SM (.bl _) q⟩⟩
def textsD : List Dv → Option (List Str)
  | [] => some []
  | .str b :: xs => (textsD xs).map (b :: ·)
  | _ :: _ => none
theorem rep_texts {K : PySem.W.Frag} {I : Hp} : ∀ {ds : List Dv} {vs : List V} {bs : List Str}, RepL K I ds vs → textsD ds = some bs → vs = bs.map V.str
  | _, _, _, .nil, h => by cases h; rfl
  | d :: ds, v :: vs, bs, .cons h1 h2, h => by
    cases h1 <;> first | cases h | skip
    rename_i b
    have h' : (textsD ds).map (b :: ·) = some bs := h
    cases e : textsD ds with
    | none => rw [e] at h'; cases h'
    | some bs2 =>
      rw [e] at h'
      cases h'
      rw [rep_texts h2 e]
      rfl
def gJoin : DM := fun x xs μ Q => match x, xs with
  | .str a, [.lst ys] => ∃ ts, textsD ys = some ts ∧ (ts.map (·.length)).sum + ts.length * a.length ≤ 16777216 ∧ Q (.str (Txt.join a ts)) μ
  | _, _ => False
theorem wm_join : WM S "str.join" gJoin := ⟨_, fun X hX => hX.K ▸ mt_join, fun I μ H _ SM dx x ds vs rx r Q Q' q u => by
  cases rx <;> first | exact False.elim q | skip
  cases r with
  | nil => exact q.elim
  | cons r1 r2 =>
    cases r2 with
    | cons _ _ => cases r1 <;> exact False.elim q
    | nil =>
      cases r1 <;> first | exact False.elim q | skip
      rename_i h1 h2
      obtain ⟨ts, et, hz, q⟩ := q
      have e := rep_texts h2 et
      subst e
      exact ⟨_, _, ts, rfl, rfl, .inl (.inl (.inl (SM.ex _ _ h1))), hz, u I _ _ μ H (Same.refl I) SM (.str _) q⟩⟩
end
end Wl

set_option Elab.async false
set_option linter.all false
set_option maxRecDepth 100000
set_option maxHeartbeats 2000000
namespace Wl
open PySem L2
open PySem.Spec PyProof.Rows
section
variable {S : Sg} {ι : Type} {F : ι → Cx} {pos : Pos}
/-- x += e of ints -/
def sAug (i : Nat) (t : DE) : DS := fun D δ μ => ∃ n, δ[i]? = some (some (.int n)) ∧ t δ μ fun y μ1 => match y with | .int m => D.nx (δ.set i (some (.int (n + m)))) μ1 | _ => False
theorem ws_aug (i : Nat) {x : Str} {e : Expr} {t : DE} {pos' : Pos} (he : WE S F e t) (hN : S.N.Nodup) (hi : S.N[i]? = some x := by rfl) (hx : ∀ j, Loc (F j).env.scope x := by first | exact fun _ => .inl rfl | exact fun _ => .inr rfl)
    (hf : ∀ j, (F j).fn x = true ∨ (F j).env.scope.names.lookup x = some .local := by first | exact fun _ => .inl rfl | exact fun _ => .inr rfl) : WS S F (.AugAssign (.Name x pos') .Add e pos) (sAug i t) :=
  let ⟨a, a1, a2⟩ := he
  ⟨_, fun j hj => ps_aug (hj.N ▸ hN) (hj.N ▸ hi) (hx j) (a1 j hj) ip_add (hf j), fun I δ μ σ H hJ SM hS D D' q u => by
    obtain ⟨n, hn, q⟩ := q
    obtain ⟨v, hv, rv⟩ := hS.at_ i _ hn
    cases rv
    refine ⟨_, hv, a2 I δ μ σ H hJ SM hS _ _ q fun I1 d v μ1 H1 e1 S1 r1 q1 => ?_⟩
    cases r1 <;> first | exact False.elim q1 | exact ⟨_, _, rfl, rfl, u.nx I1 _ _ μ1 H1 e1 S1 ((hS.mono e1).set i (.int _)) q1⟩⟩
/-- range(a, b, -1) -/
def idown (lo : Int) (n : Nat) : List Dv := (List.range n).map fun (i : Nat) => Dv.int (lo - (i : Int))
theorem itc_ok {K : PySem.W.Frag} {I : Hp} {lo : Int} {n : Nat} : ItOk K (Itc lo (-1) n) I (idown lo n) := by
  refine ⟨fun i _ _ _ _ _ hi => ?_, fun _ _ _ _ _ => ?_, fun i μ I' H x H' d e SM hd hy => ?_⟩
  · show i < n
    simpa [idown] using hi
  · show n ≤ (idown lo n).length
    simp [idown]
  · obtain ⟨rfl, rfl⟩ := hy
    have : d = .int (lo - (i : Int)) := by
      simp [idown, List.getElem?_map] at hd
      obtain ⟨j, hj, rfl⟩ := hd
      obtain ⟨h1, h2⟩ := List.getElem?_eq_some_iff.mp hj
      simp at h2
      subst h2
      rfl
    subst this
    rw [show lo + ((i : Nat) : Int) * (-1) = lo - (i : Int) by omega]
    exact ⟨I', Same.refl _, SM, .int _⟩
def wRng3 (t : DA) : DI := fun δ μ Q => t δ μ fun xs μ1 => match xs with | [.int i, .int j, .int c] => (c = -1 ∧ -(2 ^ 62) ≤ i ∧ i < 2 ^ 62 ∧ -(2 ^ 62) ≤ j ∧ j < 2 ^ 62) ∧ Q (idown i (i - j).toNat) μ1 | _ => False
theorem wi_rng3 {tg a b c : Expr} {t : DA} {p : Pos} (hm : S.mg "range" = none) (ha : WA S F [a, b, c] t) (hg : ∀ j, Gl (F j) "range" := by exact fun _ => rfl) (hs : ∀ env, starEach [a, b, c] env = (false, eval a env) :: starEach [b, c] env := by exact fun _ => rfl) (hpl : ∀ env, (backTo pos (starEach [b, c] env)).any (·.1) = false := by exact fun _ => rfl) : WI S F tg (.Call (.Name "range" p) [a, b, c] [] pos) (wRng3 t) :=
  let ⟨ta, a1, a2⟩ := ha
  ⟨_, fun i hi => pi_range3 (hg i) (hi.mg ▸ hm) (a1 i hi) (hs _) (hpl _), fun I δ μ σ H hJ SM hS Q Q' q u => a2 I δ μ σ H hJ SM hS _ _ q fun I1 ds vs μ1 H1 e1 S1 r1 q1 => by
    cases r1 with
    | nil => exact q1.elim
    | cons r1 r2 =>
      cases r2 with
      | nil => cases r1 <;> exact False.elim q1
      | cons r2 r3 =>
        cases r3 with
        | nil => cases r1 <;> first | exact False.elim q1 | (cases r2 <;> exact False.elim q1)
        | cons r3 r4 =>
          cases r4 with
          | cons _ _ => cases r1 <;> first | exact False.elim q1 | (cases r2 <;> first | exact False.elim q1 | (cases r3 <;> exact False.elim q1))
          | nil =>
            cases r1 <;> first | exact False.elim q1 | skip
            cases r2 <;> first | exact False.elim q1 | skip
            cases r3 <;> first | exact False.elim q1 | skip
            obtain ⟨⟨rfl, h1, h2, h3, h4⟩, q2⟩ := q1
            exact ⟨_, _, _, _, rfl, RgC.neg h1 h2 h3 h4, u I1 _ μ1 H1 _ e1 S1 itc_ok q2⟩⟩
/-- d[k] as a target among others -/
def dSubD (to ti : DE) : DG := fun v δ μ Q => to δ μ fun x μ1 => ti δ μ1 fun y μ2 => match x with | .ref a => dstore μ2 a y v fun μ3 => Q δ μ3 | _ => False
def rSetD : TSet := fun o i v H Q => ∃ a H', o = .ref a ∧ DPut H a i v H' ∧ Q H'
theorem set_dict {X : Cx} (hu : X.A.units + 1 < cLine) : PSet X rSetD := by
  intro pins s σ H o i v ov iv u Q I ro ri rv h
  obtain ⟨a, H', rfl, g, q⟩ := h
  cases ro
  exact d_setItem hu I g ri rv fun s' I' => ⟨H', I', q⟩
theorem wg_subD {o i : Expr} {to ti : DE} (ho : WE S F o to) (hi : WE S F i ti) (ha : ∀ env, ∀ v, assign (.Subscript o i pos) env v = (do
      let ov ← holding [v] (eval o env)
      let iv ← holding [v, ov] (eval i env)
      standAt pos
      holding [v, ov, iv] (setItem ov iv v)
      release [v, ov, iv] []) := by exact fun _ _ => rfl) : WG S F (.Subscript o i pos) (dSubD to ti) :=
  let ⟨ta, a1, a2⟩ := ho; let ⟨tb, b1, b2⟩ := hi
  ⟨_, fun k hk => pg_sub (a1 k hk) (b1 k hk) (set_dict (room1 hk)) (ha _), fun I δ μ σ H d v hJ SM hS r Q Q' q u => a2 I δ μ σ H hJ SM hS _ _ q fun I1 x vx μ1 H1 e1 S1 r1 q1 =>
    b2 I1 δ μ1 σ H1 (hJ.trans e1) S1 (hS.mono e1) _ _ q1 fun I2 y vy μ2 H2 e2 S2 r2 q2 => by
      have r1' := r1.mono e2 _ _
      cases r1' <;> first | exact False.elim q2 | skip
      obtain ⟨H', μ', g, S4, q4⟩ := dstore_ok S2 r2 (r.mono (e1.trans e2) _ _) q2
      exact ⟨_, H', rfl, g, u I2 δ σ μ' H' (e1.trans e2) S4 (hS.mono (e1.trans e2)) q4⟩⟩
theorem we_bty (n : String) {u : Value} (hm : S.mg n = none) (hv : bootBuiltins n = some u) (r : RelV (.ty n) u) (hg : ∀ j, Gl (F j) n := by exact fun _ => rfl) (hn : (n : Str) ≠ "__name__" := by decide) (hd : ((n : Str) == ("__debug__" : Str)) = false := by decide) :
    WE S F (.Name n pos) (vC (.ty n)) := we_bltn hm hv r (fun _ => .ty n) hg hn hd
theorem we_gint {x : Str} (i : Int) {t : Tok} (hm : S.mg x = some (.int i t)) (hg : ∀ j, Gl (F j) x := by exact fun _ => rfl) (hd : (x == ("__debug__" : Str)) = false := by decide) : WE S F (.Name x pos) (vC (.int i)) :=
  we_glob (v := .int i) hm ⟨_, rfl⟩ (fun _ => .int i) hg hd
theorem we_gstr {x : Str} (i : Str) {t : Tok} (hm : S.mg x = some (.str i t)) (hg : ∀ j, Gl (F j) x := by exact fun _ => rfl) (hd : (x == ("__debug__" : Str)) = false := by decide) : WE S F (.Name x pos) (vC (.str i)) :=
  we_glob (v := .str i) hm ⟨_, rfl⟩ (fun _ => .str i) hg hd
end
end Wl

set_option Elab.async false
set_option linter.all false
set_option maxRecDepth 100000
set_option maxHeartbeats 2000000
namespace PySem
open Sem (wp)
section
variable {prog : Program} {w : World} {A : Around} {R : GenEnd} {Y : Protocol} {n : Nat} {s₀ : Shared} {fs : List Frame} {s : Shared} {env : Env}
/-- what becomes of an exception in a loop's code -/
abbrev goes (env : Env) (e : Value) : Sem PySem.Fin := (do noteFrame e env; theTreesLotGoes e : Sem Unit).wrap (fun _ => .raise e) .raise id id
theorem seg_forLoop {target : Expr} {it : Value} {body : List Stmt}
    (h : wpAny (model prog w) (A.over (.forLoop target it body [] env) fs) (pyNext it) (fun r s1 => match r with
      | none => Seg (model prog w) A R Y n s₀ (.forLoop target it body [] env) (.pure (.again (.block [] env))) fs s1
      | some v => wpAny (model prog w) (A.over (.forLoop target it body [] env) fs) (letOwnedTupleGo target it v) (fun _ s2 =>
          wpAny (model prog w) (A.over (.forLoop target it body [] env) fs) (assign target env v) (fun _ s3 =>
            Seg (model prog w) A R Y n s₀ (.forLoop target it body [] env) ((execs body env).wrap (fun f => match f with
              | .next | .cont => .pure (.again (.forLoop target it body [] env))
              | .brk => .pure (.done .next)
              | .ret v => .pure (.done (.ret v))) (goes env) id id) fs s3)
            (fun x s' => Seg (model prog w) A R Y n s₀ (.forLoop target it body [] env) (goes env x) fs s') s2)
          (fun x s' => Seg (model prog w) A R Y n s₀ (.forLoop target it body [] env) (goes env x) fs s') s1)
      (fun x s' => Seg (model prog w) A R Y n s₀ (.forLoop target it body [] env) (goes env x) fs s') s) :
    Seg (model prog w) A R Y n s₀ (.forLoop target it body [] env) ((model prog w).den (.forLoop target it body [] env)) fs s := by
  show Seg _ A R Y n s₀ _ ((forTurn target it body [] env).onRaise (fun x => do noteFrame x env; theTreesLotGoes x)) fs s
  unfold forTurn
  rw [Sem.onRaise_eq_wrap]
  have hg : ∀ e, (do noteFrame e env; theTreesLotGoes e : Sem Unit).bind (fun _ => (.raise e : Sem PySem.Fin)) = goes env e := fun e => Sem.bind_eq_wrap _ _
  refine seg_bind_wrap (wpAny_standAt ?_)
  refine seg_bind_wrap (wpAny_onRaise (wpAny_mono h (fun r s1 h1 => ?_) fun x s' hx => wpAny_standAt (by rw [hg]; exact hx)))
  cases r with
  | none => exact h1
  | some v =>
    refine seg_bind_wrap (wpAny_mono h1 (fun _ s2 h2 => ?_) fun x s' hx => by rw [hg]; exact hx)
    refine seg_bind_wrap (wpAny_mono h2 (fun _ s3 h3 => ?_) fun x s' hx => by rw [hg]; exact hx)
    rw [Sem.bind_eq_wrap', Sem.wrap_wrap]
    rw [Sem.wrap_congr (execs body env) _ _ (K' := fun f => match f with
              | .next | .cont => .pure (.again (.forLoop target it body [] env))
              | .brk => .pure (.done .next)
              | .ret v => .pure (.done (.ret v))) (H' := goes env) (fun f => by cases f <;> rfl) (fun e => by exact hg e)]
    exact h3
theorem seg_block0 {k h g l c₁ p₁ kp} (hk : Seg (model prog w) A R Y n s₀ c₁ (k (.ok .next)) fs s) {c : Code} (hc : c.quiet = true) :
    Seg (model prog w) A R Y n s₀ c (.pure (.again (.block [] env))) (.ret k h g l c₁ p₁ kp :: fs) s :=
  seg_again rfl (seg_leaf (.ok .next) hk)
end
end PySem
namespace L2
open PySem PySem.Spec PyProof.Rows GenW
section
variable {X : Cx} {pos : Pos} {tg : Expr}
def tGIf (tc : TT) (ta tb : TGn) : TGn := fun D ys σ H => tc σ H fun b H1 => if b = true then ta D ys σ H1 else tb D ys σ H1
theorem gs_if {test : Expr} {body orelse : List Stmt} {tc : TT} {ta tb : TGn} (hc : PT X test tc) (ha : GSs X body ta) (hb : GSs X orelse tb) : GS X (.If test body orelse pos) (tGIf tc ta tb) := by
  refine ⟨fun A S ip R n ys s₀ c fs K J gd lv s σ H D g hn k hI ht => ?_⟩
  rw [exec_If]
  refine seg_bind_wrap (wpAny_standAt ?_)
  obtain ⟨acc, cc, r, I⟩ := hI
  refine seg_bind_wrap ?_
  rw [g.over]
  refine wpAny_mono (hc.run _ s σ H _ I ht) (fun b s1 ⟨H1, I1, q1⟩ => ?_) fun x s' hx => k.exc n s₀ x s' hx
  cases b with
  | true =>
    rw [if_pos rfl] at q1 ⊢
    exact ha.run A S ip R n ys s₀ c fs K J gd lv s1 σ H1 D g hn k ⟨acc, cc, r, I1⟩ q1
  | false =>
    rw [if_neg Bool.false_ne_true] at q1 ⊢
    exact hb.run A S ip R n ys s₀ c fs K J gd lv s1 σ H1 D g hn k ⟨acc, cc, r, I1⟩ q1

def tGFor (wi : TI) (g : TG) (tb : TGn) : TGn := fun D ys σ H => wi σ H fun J H1 => ∃ W : Nat → Nat → List V → St → Hp → Prop, (∃ m, W 0 m ys σ H1) ∧ ∀ i m ys σ H, W i m ys σ H →
  (J.stop i H ∧ D.nx ys σ H) ∨ (J.go i H ∧ ∃ N : List V → St → Hp → Prop, (∀ ys' σ' H', N ys' σ' H' → ∃ m', m' < m ∧ W (i + 1) m' ys' σ' H') ∧ ∀ x H', J.yld i H x H' → g x σ H' fun σ2 H2 => tb { D with nx := N, ct := N, bk := D.nx } ys σ2 H2)
theorem GI.unpinned {S : Addr} {ip pl : List (Addr × Obj)} {ys : List V} {σ : L2.St} {H : Hp} {s : Shared} (h : GI X S (ip ++ pl) ys σ H s) : GI X S ip ys σ H s :=
  let ⟨acc, c, r, I⟩ := h
  ⟨acc, c, r, Inv.unpinned (pins := (S, lstObj acc c) :: ip) (pl := pl) I⟩
theorem gs_for {iter : Expr} {body : List Stmt} {wi : TI} {g : TG} {tb : TGn} (hp : PassesOwn (model X.prog X.w) X.A X.env X.xe) (hc : X.calm = true) (hi : PI X tg iter wi) (hg : PG X tg g) (hb : GSs X body tb)
    (hs : ∀ x, foldedSetIterable iter X.env x = pure x := by intro _; rfl) : GS X (.For tg iter body [] pos) (tGFor wi g tb) := by
  refine ⟨fun A S ip R n ys s₀ c fs K J gd lv s σ H D gc hn k hI ht => ?_⟩
  rw [exec_For]
  refine seg_bind_wrap (wpAny_standAt ?_)
  obtain ⟨acc0, cc0, r0, I0⟩ := hI
  refine seg_bind_wrap ?_
  rw [gc.over]
  refine wpAny_mono (hi.run _ s σ H _ I0 ht) (fun v s1 h1 => ?_) fun x s' hx => k.exc n s₀ x s' hx
  refine seg_bind_wrap (wpAny_of_eq (hs v) ?_)
  refine seg_bind_wrap (wpAny_standAt ?_)
  refine seg_bind_wrap (wpAny_holding ?_)
  rw [gc.over]
  refine wpAny_mono h1 (fun itv s2 h2 => ?_) fun x s' hx => k.exc n s₀ x s' hx
  obtain ⟨it, fp, tn, J', H2, rfl, I2, T, st2, f2, W, ⟨m0, w0⟩, turn⟩ := h2
  refine seg_call fun p => ?_
  have gl := fun (kk : Result → Sem PySem.Fin) => gc_loop (k := kk) (c' := .forLoop tg (.ref it) body [] X.env) (l := lv []) (kp := []) (p := p) gc rfl rfl
  have fS : ∀ b ∈ fp, b ≠ S := fun b hb z => (f2 b hb).2.2.2.2.2 (S, lstObj acc0 cc0) (List.mem_append_right _ List.mem_cons_self) z.symm
  have stat : ∀ {H' : Hp} {acc : Array Value} {c : Nat}, (∀ b ∈ fp, H' b = none) → ∀ b ∈ fp, FpOk X ((S, lstObj acc c) :: ip) H' b := fun hn b hb =>
    ⟨hn b hb, (f2 b hb).2.1, (f2 b hb).2.2.1, (f2 b hb).2.2.2.1, (f2 b hb).2.2.2.2.1, fun p hp => by
      rcases List.mem_append.mp hp with hp | hp
      · exact (f2 b hb).2.2.2.2.2 p (List.mem_append_left _ hp)
      · rcases List.mem_cons.mp hp with rfl | hp
        · exact fun z => fS b hb z.symm
        · exact (f2 b hb).2.2.2.2.2 p (List.mem_append_right _ (List.mem_cons_of_mem _ hp))⟩
  have loop : ∀ (m i n : Nat) (ys : List V) (s₀ s : Shared) (σ : L2.St) (H : Hp), n + ys.length = sizeLine → W i m ys σ H → GI X S ip ys σ H s → tn i s.heap → (∀ b ∈ fp, H b = none) →
      Seg (model X.prog X.w) A R (GY X S) n s₀ (.forLoop tg (.ref it) body [] X.env) ((model X.prog X.w).den (.forLoop tg (.ref it) body [] X.env))
        (.ret (fun r => ((match r with | .ok f => (.pure f : Sem Flow) | .error e => .raise e).onRaise (cameBack X.env)).wrap K J gd lv) none (gd false) (lv []) c p [] :: fs) s := by
    intro m
    induction m using Nat.strongRecOn with
    | ind m ih =>
      intro i n ys s₀ s σ H hn w hI st fr
      have ee : ∀ (n : Nat) (s₀ : Shared) (x : Value) (s' : Shared), X.xe x s' → Seg (model X.prog X.w) A R (GY X S) n s₀ (.forLoop tg (.ref it) body [] X.env) (goes X.env x)
          (.ret (fun r => ((match r with | .ok f => (.pure f : Sem Flow) | .error e => .raise e).onRaise (cameBack X.env)).wrap K J gd lv) none (gd false) (lv []) c p [] :: fs) s' := fun n s₀ x s' hx => by
        refine seg_wrap ?_
        rw [(gl _).over]
        refine wpAny_bind (wpAny_mono (hp x s' hx) (fun _ s'' hcb => wpAny_theTreesLotGoes ?_) fun y s'' hcb => ?_)
        · exact seg_leaf (.error x) (seg_cameBack gc k hcb)
        · exact seg_leaf (.error y) (seg_cameBack gc k hcb)
      obtain ⟨acc, cc, r, I⟩ := hI
      refine seg_forLoop ?_
      rw [(gl _).over]
      rcases turn i m ys σ H w with ⟨stop, qn⟩ | ⟨go, N, hN, step⟩
      · refine wpAny_mono (T.done X rfl rfl rfl hc i _ s σ H X.xe I (stat fr) st stop) (fun r s4 ⟨hr, I4⟩ => ?_) fun x s' hx => ee n s₀ x s' hx
        subst hr
        exact seg_block0 (k.ok n ys s₀ s4 .next hn ⟨σ, H, ⟨acc, cc, r, I4⟩, qn⟩) rfl
      · refine wpAny_mono (T.item X rfl rfl rfl hc i _ s σ H X.xe I (stat fr) st go) (fun r s4 ⟨u, hr, h4⟩ => ?_) fun x s' hx => ee n s₀ x s' hx
        subst hr
        refine wpAny_mono h4 (fun _ s5 ⟨x, H5, I5, r5, y5, st5, fr5⟩ => ?_) fun x s' hx => ee n s₀ x s' hx
        have I5' := I5.pinned (stat fr5) (T.obj _ _ st5)
        refine wpAny_mono (hg.run _ s5 σ H5 x u _ I5' r5 (step x H5 y5)) (fun _ s6 ⟨σ6, H6, I6, q6⟩ => ?_) fun x s' hx => ee n s₀ x s' hx
        have gp : GC X S (ip ++ pinsAt fp s5.heap) A (.forLoop tg (.ref it) body [] X.env) (.ret (fun r => ((match r with | .ok f => (.pure f : Sem Flow) | .error e => .raise e).onRaise (cameBack X.env)).wrap K J gd lv) none (gd false) (lv []) c p [] :: fs) id :=
          { gl _ with ip := fun p hp => (List.mem_append.mp hp).elim (gc.ip p) fun z => fS p.1 (of_pinsAt z).1 }
        have again : ∀ {n7 : Nat} {ys7 : List V} {s₀ s7 : Shared} {σ7 : L2.St} {H7 : Hp}, n7 + ys7.length = sizeLine → GI X S (ip ++ pinsAt fp s5.heap) ys7 σ7 H7 s7 → N ys7 σ7 H7 → Seg (model X.prog X.w) A R (GY X S) n7 s₀ (.forLoop tg (.ref it) body [] X.env) (.pure (.again (.forLoop tg (.ref it) body [] X.env)))
            (.ret (fun r => ((match r with | .ok f => (.pure f : Sem Flow) | .error e => .raise e).onRaise (cameBack X.env)).wrap K J gd lv) none (gd false) (lv []) c p [] :: fs) s7 := fun {n7 ys7 s₀7 s7 σ7 H7} hn7 G7 n7' => by
          obtain ⟨m', hm, w7⟩ := hN ys7 σ7 H7 n7'
          have pin : ∀ q ∈ pinsAt fp s5.heap, s7.heap.get? q.1 = some q.2 ∧ H7 q.1 = none := fun q hq => by
            obtain ⟨acc7, c7, r7, I7⟩ := G7
            have := I7.pin q (List.mem_append_right _ (List.mem_cons_of_mem _ (List.mem_append_right _ hq)))
            exact ⟨this.1, this.2.1⟩
          refine seg_again rfl (ih m' hm (i + 1) n7 ys7 s₀7 s7 σ7 H7 hn7 w7 G7.unpinned (T.keep _ _ _ st5 fun b hb o e => (pin (b, o) (mem_pinsAt hb e)).1) fun b hb => ?_)
          obtain ⟨o, e, d⟩ := T.obj _ _ st5 b hb
          exact (pin (b, o) (mem_pinsAt hb e)).2
        refine hb.run A S (ip ++ pinsAt fp s5.heap) R n ys s₀ _ _ _ _ id id s6 σ6 H6 { D with nx := N, ct := N, bk := D.nx } gp hn ⟨fun n' ys' s₀' s7 f hn' hs => ?_, fun n' s₀' x s7 hx => ee n' s₀' x s7 hx⟩ ⟨acc, cc, r, I6⟩ q6
        cases f with
        | next => obtain ⟨σ7, H7, G7, n7⟩ := hs; exact again hn' G7 n7
        | cont => obtain ⟨σ7, H7, G7, n7⟩ := hs; exact again hn' G7 n7
        | brk => obtain ⟨σ7, H7, G7, q7⟩ := hs; exact seg_leaf (.ok .next) (k.ok n' ys' s₀' s7 .next hn' ⟨σ7, H7, G7.unpinned, q7⟩)
        | ret v => obtain ⟨x7, σ7, H7, G7, r7, q7⟩ := hs; exact seg_leaf (.ok (.ret v)) (k.ok n' ys' s₀' s7 (.ret v) hn' ⟨x7, σ7, H7, G7.unpinned, r7, q7⟩)
  exact loop m0 0 n ys s₀ s2 σ H2 hn w0 ⟨acc0, cc0, r0, I2⟩ st2 fun b hb => (f2 b hb).1
end
end L2

set_option Elab.async false
set_option linter.all false
set_option maxRecDepth 100000
set_option maxHeartbeats 2000000
namespace Wl
open PySem L2
open PySem.Spec PyProof.Rows
/-! ## generator defs -/
structure DYEnds where
  nx : List Dv → DSt → Mu → Prop
  rt : List Dv → DV
  bk : List Dv → DSt → Mu → Prop := fun _ _ _ => False
  ct : List Dv → DSt → Mu → Prop := fun _ _ _ => False
abbrev DY := DYEnds → List Dv → DSt → Mu → Prop
def UpYS (K : PySem.W.Frag) (I : Hp) (Q : List Dv → DSt → Mu → Prop) (Q' : List V → L2.St → Hp → Prop) : Prop := ∀ I' ds ys δ σ μ H, Same I I' → SatM K I' μ H → RepL K I' ds ys → RepS K I' δ σ → Q ds δ μ → Q' ys σ H
def UpYV (K : PySem.W.Frag) (I : Hp) (Q : List Dv → DV) (Q' : List V → VK) : Prop := ∀ I' ds ys d v μ H, Same I I' → SatM K I' μ H → RepL K I' ds ys → Rep K I' d v → Q ds d μ → Q' ys v H
structure UpYE (K : PySem.W.Frag) (I : Hp) (D : DYEnds) (D' : GEnds) : Prop where
  nx : UpYS K I D.nx D'.nx
  rt : UpYV K I D.rt D'.rt
  bk : UpYS K I D.bk D'.bk
  ct : UpYS K I D.ct D'.ct
section
variable {K : PySem.W.Frag} {I I' : Hp}
theorem UpYS.mono {Q : List Dv → DSt → Mu → Prop} {Q' : List V → L2.St → Hp → Prop} (s : Same I I') (u : UpYS K I Q Q') : UpYS K I' Q Q' := fun I2 a b c d e f g => u I2 a b c d e f (s.trans g)
theorem UpYV.mono {Q : List Dv → DV} {Q' : List V → VK} (s : Same I I') (u : UpYV K I Q Q') : UpYV K I' Q Q' := fun I2 a b c d e f g => u I2 a b c d e f (s.trans g)
theorem UpYE.mono {D : DYEnds} {D' : GEnds} (s : Same I I') (u : UpYE K I D D') : UpYE K I' D D' := ⟨u.nx.mono s, u.rt.mono s, u.bk.mono s, u.ct.mono s⟩
end
def RY (S : Sg) (ts : TGn) (t : DY) : Prop := ∀ I δ μ σ H ds ys, Same S.J I → SatM S.K I μ H → RepS S.K I δ σ → RepL S.K I ds ys → ∀ D D', t D ds δ μ → UpYE S.K I D D' → ts D' ys σ H
section
variable (S : Sg) {ι : Type} (F : ι → Cx)
def WY (st : Stmt) (t : DY) : Prop := ∃ te, (∀ i, Is S (F i) → GS (F i) st te) ∧ RY S te t
def WYs (st : List Stmt) (t : DY) : Prop := ∃ te, (∀ i, Is S (F i) → GSs (F i) st te) ∧ RY S te t
end
def yPlain (t : DS) : DY := fun D ds δ μ => t { nx := D.nx ds, rt := D.rt ds, bk := D.bk ds, ct := D.ct ds } δ μ
def yNil : DY := fun D ds δ μ => D.nx ds δ μ
def yThen (t u : DY) : DY := fun D ds δ μ => t { D with nx := fun ds' δ' μ' => u D ds' δ' μ' } ds δ μ
def yIf (c : DT) (t u : DY) : DY := fun D ds δ μ => c δ μ fun b μ1 => if b = true then t D ds δ μ1 else u D ds δ μ1
def yYield (t : DE) : DY := fun D ds δ μ => ds.length < sizeLine ∧ t δ μ fun x μ1 => D.nx (ds ++ [x]) δ μ1
def yLoop (g : DG) (tb : DY) : List Dv → DYEnds → List Dv → DSt → Mu → Prop
  | [], D, ys, δ, μ => D.nx ys δ μ
  | d :: ds, D, ys, δ, μ => g d δ μ fun δ1 μ1 => tb { nx := yLoop g tb ds D, ct := yLoop g tb ds D, bk := D.nx, rt := D.rt } ys δ1 μ1
def yFor (wi : DI) (g : DG) (tb : DY) : DY := fun D ys δ μ => wi δ μ fun ds μ1 => yLoop g tb ds D ys δ μ1
section
variable {S : Sg} {ι : Type} {F : ι → Cx} {pos : Pos} {st : Stmt} {rest : List Stmt}
theorem UpYE.at {K : PySem.W.Frag} {I : Hp} {D : DYEnds} {D' : GEnds} {ds : List Dv} {ys : List V} (u : UpYE K I D D') (r : RepL K I ds ys) : UpE K I { nx := D.nx ds, rt := D.rt ds, bk := D.bk ds, ct := D.ct ds } (D'.at ys) where
  nx := fun I' δ σ μ H e S R q => u.nx I' ds ys δ σ μ H e S (r.mono e) R q
  rt := fun I' d v μ H e S R q => u.rt I' ds ys d v μ H e S (r.mono e) R q
  bk := fun I' δ σ μ H e S R q => u.bk I' ds ys δ σ μ H e S (r.mono e) R q
  ct := fun I' δ σ μ H e S R q => u.ct I' ds ys δ σ μ H e S (r.mono e) R q
theorem wy_plain {t : DS} (h : WS S F st t) : WY S F st (yPlain t) :=
  let ⟨a, h1, h2⟩ := h
  ⟨_, fun i hi => gs_ps (h1 i hi), fun I δ μ σ H ds ys hJ SM hS r D D' q u => h2 I δ μ σ H hJ SM hS _ _ q (u.at r)⟩
theorem wys_nil : WYs S F [] yNil := ⟨_, fun _ _ => gss_nil, fun I δ μ σ H ds ys hJ SM hS r D D' q u => u.nx I ds ys δ σ μ H (Same.refl I) SM r hS q⟩
theorem wys_cons {t u : DY} (h1 : WY S F st t) (h2 : WYs S F rest u) : WYs S F (st :: rest) (yThen t u) :=
  let ⟨a, a1, a2⟩ := h1; let ⟨b, b1, b2⟩ := h2
  ⟨_, fun i hi => gss_cons (a1 i hi) (b1 i hi), fun I δ μ σ H ds ys hJ SM hS r D D' q u => a2 I δ μ σ H ds ys hJ SM hS r _ _ q
    ⟨fun I1 ds1 ys1 δ1 σ1 μ1 H1 e1 S1 r1 R1 q1 => b2 I1 δ1 μ1 σ1 H1 ds1 ys1 (hJ.trans e1) S1 R1 r1 _ _ q1 (u.mono e1), u.rt, u.bk, u.ct⟩⟩
theorem wy_if {c : Expr} {a b : List Stmt} {sc : DT} {t u : DY} (hc : WT S F c sc) (ha : WYs S F a t) (hb : WYs S F b u) : WY S F (.If c a b pos) (yIf sc t u) :=
  let ⟨tc, c1, c2⟩ := hc; let ⟨ta, a1, a2⟩ := ha; let ⟨tb, b1, b2⟩ := hb
  ⟨_, fun i h => gs_if (c1 i h) (a1 i h) (b1 i h), fun I δ μ σ H ds ys hJ SM hS r D D' q u => c2 I δ μ σ H hJ SM hS _ _ q fun I1 b μ1 H1 e1 S1 q1 => by
    cases b with
    | true => rw [if_pos rfl] at q1 ⊢; exact a2 I1 δ μ1 σ H1 ds ys (hJ.trans e1) S1 (hS.mono e1) (r.mono e1) _ _ q1 (u.mono e1)
    | false => rw [if_neg Bool.false_ne_true] at q1 ⊢; exact b2 I1 δ μ1 σ H1 ds ys (hJ.trans e1) S1 (hS.mono e1) (r.mono e1) _ _ q1 (u.mono e1)⟩
theorem wy_yield {e : Expr} {t : DE} {yp : Pos} (he : WE S F e t) (hco : ∀ i, (F i).env.scope.isCoroutine = false := by exact fun _ => rfl) (hi : ∀ i, interactive (F i).env = false := by exact fun _ => rfl) : WY S F (.Expr (.Yield (some e) yp) pos) (yYield t) :=
  let ⟨te, e1, e2⟩ := he
  ⟨_, fun i h => gs_yield (e1 i h) (hco i) (hi i), fun I δ μ σ H ds ys hJ SM hS r D D' q u => ⟨r.length ▸ q.1, e2 I δ μ σ H hJ SM hS _ _ q.2 fun I1 d v μ1 H1 e1 S1 r1 q1 =>
    u.nx I1 _ _ δ σ μ1 H1 e1 S1 ((r.mono e1).append (.cons r1 .nil)) (hS.mono e1) q1⟩⟩
theorem wy_for {tg iter : Expr} {body : List Stmt} {wi : DI} {g : DG} {tb : DY} (hi : WI S F tg iter wi) (hg : WG S F tg g) (hb : WYs S F body tb) (hs : ∀ env, ∀ x, foldedSetIterable iter env x = pure x := by exact fun _ _ => rfl) (hcold : S.cold = false := by rfl) :
    WY S F (.For tg iter body [] pos) (yFor wi g tb) :=
  let ⟨ti, i1, i2⟩ := hi; let ⟨tg', g1, g2⟩ := hg; let ⟨tb', b1, b2⟩ := hb
  ⟨_, fun i h => gs_for h.own (h.calm hcold) (i1 i h) (g1 i h) (b1 i h) (hs _), fun I δ μ σ H zs ys hJ SM hS rz D D' q u => i2 I δ μ σ H hJ SM hS _ _ q fun I1 ds μ1 H1 J e1 S1 ok q1 => by
    refine ⟨fun i m ys' σ' H' => m = ds.length - i ∧ i ≤ ds.length ∧ ∃ I' zs' δ' μ', Same I1 I' ∧ SatM S.K I' μ' H' ∧ RepL S.K I' zs' ys' ∧ RepS S.K I' δ' σ' ∧ yLoop g tb (ds.drop i) D zs' δ' μ', ⟨ds.length, by simp, Nat.zero_le _, I1, zs, δ, μ1, Same.refl _, S1, rz.mono e1, hS.mono e1, by simpa using q1⟩, ?_⟩
    rintro i m ys' σ' H' ⟨rfl, hle, I', zs', δ', μ', e', S', rz', R', q'⟩
    by_cases hlt : i < ds.length
    · refine .inr ⟨ok.go i μ' I' H' e' S' hlt, fun ys2 σ2 H2 => ∃ I2 zs2 δ2 μ2, Same I1 I2 ∧ SatM S.K I2 μ2 H2 ∧ RepL S.K I2 zs2 ys2 ∧ RepS S.K I2 δ2 σ2 ∧ yLoop g tb (ds.drop (i + 1)) D zs2 δ2 μ2, fun ys2 σ2 H2 w => ⟨ds.length - (i + 1), by omega, rfl, hlt, w⟩, fun x H2 hy => ?_⟩
      have hd : ds[i]? = some ds[i] := by simp [hlt]
      obtain ⟨I2, e2, S2, r2⟩ := ok.yld i μ' I' H' x H2 _ e' S' hd hy
      rw [List.drop_eq_getElem_cons hlt] at q'
      have hJ2 := (hJ.trans e1).trans (e'.trans e2)
      refine g2 I2 δ' μ' σ' H2 _ _ hJ2 S2 (R'.mono e2) r2 _ _ q' fun I3 δ3 σ3 μ3 H3 e3 S3 R3 q3 => ?_
      have e13 := (e'.trans e2).trans e3
      refine b2 I3 δ3 μ3 σ3 H3 zs' ys' (hJ2.trans e3) S3 R3 (rz'.mono (e2.trans e3)) _ _ q3 ⟨?_, ?_, ?_, ?_⟩
      · exact fun I4 zs4 ys4 δ4 σ4 μ4 H4 e4 S4 r4 R4 q4 => ⟨I4, zs4, δ4, μ4, e13.trans e4, S4, r4, R4, q4⟩
      · exact u.rt.mono (e1.trans e13)
      · exact u.nx.mono (e1.trans e13)
      · exact fun I4 zs4 ys4 δ4 σ4 μ4 H4 e4 S4 r4 R4 q4 => ⟨I4, zs4, δ4, μ4, e13.trans e4, S4, r4, R4, q4⟩
    · have e : i = ds.length := by omega
      subst e
      rw [List.drop_length] at q'
      exact .inl ⟨ok.stop μ' I' H' e' S', u.nx I' zs' ys' δ' σ' μ' H' (e1.trans e') S' rz' R' q'⟩⟩
end
end Wl

set_option Elab.async false
set_option linter.all false
set_option maxRecDepth 100000
set_option maxHeartbeats 2000000
namespace Wl
open PySem L2
open PySem.Spec PyProof.Rows
abbrev SpY := List Dv → Mu → (List Dv → Mu → Prop) → DX → Prop
def toSpG (K : PySem.W.Frag) (sp : SpY) : SpG := fun vs H Q E => ∃ I ds μ Q2 E2, SatM K I μ H ∧ RepL K I ds vs ∧ sp ds μ Q2 E2 ∧ UpA K I Q2 Q ∧ UpX K I E2 E
abbrev OkG (P : Program) (w : World) (K : PySem.W.Frag) (mg : Str → Option Value) (base : Heap) (k : Nat) (f : Addr) (fd : FuncData) (ps : List Str) (sp : SpY) : Prop := GFn P w K mg base k f fd ps (toSpG K sp)
structure GenD (P : Program) (w : World) (K : PySem.W.Frag) (mg : Str → Option Value) (base : Heap) (j : Nat) (x : Str) (sp : SpY) (dds : List Dv) : Prop where
  ex : ∃ (f : Addr) (fd : FuncData) (ps : List Str) (dvs : List V) (dus : List Value), OkG P w K mg base j f fd ps sp ∧ mg x = some (.ref f) ∧ PySem.W.keepIn K (.ref f) = true ∧ Binds K fd ps dus ∧ Vals dvs dus ∧ ∀ I, RepL K I dds dvs
/-- a generator def's body and its promise -/
theorem okg_def {P : Program} {w : World} {K : PySem.W.Frag} {mg : Str → Option Value} {base : Heap} {x qual : Str} {st : Stmt} {f : Addr} {fd : FuncData} {N ps : List Str} {k : Nat} {sp : SpY} (Fn : Fun K x qual st f fd) (Sc : GScope N ps (defScope st))
    (t : DXS → DY) (hsp : ∀ ds μ Q E, sp ds μ Q E → ds.length = ps.length ∧ t (fun C d _ μ => E C d μ) { nx := fun out _ μ' => Q out μ', rt := fun out v μ' => v = .non ∧ Q out μ' } [] (dstart N ds) μ)
    (body : ∀ (cdv : Value) (A : Around) (outer : List Env) (s : Shared) (H : Hp) (E : XK) (pn : List (Addr × Obj)) (J : Hp) (W : WX) (E2 : DXS) tr, WYs ⟨P, w, K, mg, base, k, N, J, W, E2, tr, false⟩ (fun _ : Unit => gcxOf P w K mg base N qual (defScope st) f cdv A outer s H E pn) (defBody st) (t E2)) :
    OkG P w K mg base (k + 1) f fd ps sp := by
  obtain ⟨oc, od, kV, doc, pm, an, cdv, ct, osl, rfl, lk, hcd⟩ := Fn.ex
  refine gfn_of lk hcd Sc (fun vs H Q E h => ?_) fun A outer s H vs Q E pn hr h => ?_
  · obtain ⟨I, ds, μ, Q2, E2, _, r, h, _⟩ := h
    rw [← r.length]
    exact (hsp ds μ Q2 E2 h).1
  · obtain ⟨I, ds, μ, Q2, E2, SM, r, h, u, ux⟩ := h
    obtain ⟨ts, h1, h2⟩ := body cdv A outer s H E pn I (fun cls d _ H => E cls d H) (fun C d _ μ => E2 C d μ) (fun I' C d δ μ' σ H' e' S' R' q' => ux I' C d μ' H' e' S' q')
    refine ⟨ts, h1 () ⟨rfl, rfl, rfl, rfl, rfl, rfl, fun _ => rfl, fun _ => hr, takes_gcx, owns_gcx, hr.units⟩, ?_⟩
    refine h2 I _ μ _ H [] [] (Same.refl I) SM (r.start N) .nil _ _ (hsp ds μ Q2 E2 h).2 ⟨?_, ?_, ?_, ?_⟩
    · exact fun I' ds' ys' δ σ μ' H' e S' r' R' q => u I' ds' ys' μ' H' e S' r' q
    · intro I' ds' ys' d v μ' H' e S' r' rv q
      obtain ⟨rfl, q⟩ := q
      cases rv
      exact ⟨rfl, u I' ds' ys' μ' H' e S' r' q⟩
    · exact fun _ _ _ _ _ _ _ _ _ _ _ q => q.elim
    · exact fun _ _ _ _ _ _ _ _ _ _ _ q => q.elim
section
variable {S : Sg} {ι : Type} {F : ι → Cx} {pos : Pos}
def vListG (sp : SpY) (dds : List Dv) (t : DA) : DE := fun δ μ Q => t δ μ fun xs μ1 => sp (xs ++ dds) μ1 (fun out μ2 => Q (.lst out) μ2) fun _ _ _ => False
theorem we_listg {x : Str} {sp : SpY} {dds : List Dv} {j : Nat} {e : Expr} {es : List Expr} {t : DA} {p p2 pos' : Pos} (Fn : GenD S.P S.w S.K S.mg S.base j x sp dds) (hj : j + 3 ≤ S.k) (hl : S.mg "list" = none) (ha : WA S F (e :: es) t)
    (hg : ∀ j, Gl (F j) x := by exact fun _ => rfl) (hgl : ∀ j, Gl (F j) "list" := by exact fun _ => rfl)
    (hdb : (x == ("__debug__" : Str)) = false := by decide) (he : ∀ env, starEach (e :: es) env = (false, eval e env) :: starEach es env := by exact fun _ => rfl) (hpl : ∀ env, (backTo pos' (starEach es env)).any (·.1) = false := by exact fun _ => rfl) (hcold : S.cold = false := by rfl) :
    WE S F (.Call (.Name "list" p) [.Call (.Name x p2) (e :: es) [] pos'] [] pos) (vListG sp dds t) := by
  obtain ⟨f, fd, ps, dvs, dus, Fn, hm, hk, hb, hd, hdd⟩ := Fn.ex
  obtain ⟨ta, a1, a2⟩ := ha
  refine ⟨tListG (tCallG (toSpG S.K sp) dvs (fun _ _ _ => False) ta), fun i hi => ?_, fun I δ μ σ H hJ SM hS Q Q' q u => ?_⟩
  · obtain ⟨P, w, K, mg, base, k, N, J, W, E2, tr, cold⟩ := S
    obtain ⟨h1, h2, h3, h4, h5, h6, h7, h8, h9, h10, h11⟩ := id hi
    have r8 := h8 hcold
    dsimp only at h1 h2 h3 h4 h5 h6 r8 h9 Fn hm hk hb hj hdd a2 hl ⊢
    subst h1 h2 h3 h4 h5
    refine pe_listG (k := j) (E := fun _ _ _ => False) (pgen_call Fn (r8.mono (by omega)) (hg i) hm hk hb hd (a1 i hi) hdb (he _) (hpl _)) (fun pins σ H s e s' I c => ?_) (fun _ _ _ h => h.elim) (r8.mono hj) (hgl i) hl (by decide +kernel)
    obtain ⟨a, B, H', cls, d, z1, fl, z2, ub, z3, z4, z5, z6⟩ := c
    exact (by first | exact z6.elim | exact z5.elim | exact z4.elim | exact z3.elim | exact z2.elim)
  · refine a2 I δ μ σ H hJ SM hS _ _ q fun I1 ds vs μ1 H1 e1 S1 r1 q1 => ?_
    refine ⟨I1, ds ++ dds, μ1, _, _, S1, r1.append (hdd I1), q1, fun I2 out ys μ2 H2 e2 S2 r2 q2 p hp => ?_, fun _ _ _ _ _ _ _ q => q.elim⟩
    obtain ⟨s1, s2⟩ := S2.newI hp (.lst ys)
    exact u _ _ _ μ2 _ ((e1.trans e2).trans s1) s2 (.lst upd_same (RepL.mono s1 _ _ r2)) q2
end
/-- the promise that a generator's body gives as it stands -/
def spYOf (n : Nat) (N : List Str) (t : DXS → DY) : SpY := fun ds μ Q E => ds.length = n ∧ t (fun C d _ μ => E C d μ) { nx := fun out _ μ' => Q out μ', rt := fun out v μ' => v = .non ∧ Q out μ' } [] (dstart N ds) μ
end Wl

set_option Elab.async false
set_option linter.all false
set_option maxRecDepth 100000
set_option maxHeartbeats 2000000
namespace Wl
open PySem L2
open PySem.Spec PyProof.Rows
theorem RepL.eraseIdx {K : PySem.W.Frag} {I : Hp} : ∀ {ds : List Dv} {vs : List V} (k : Nat), RepL K I ds vs → RepL K I (ds.eraseIdx k) (vs.eraseIdx k)
  | [], _, k, r => by cases r; exact .nil
  | d :: ds, _, 0, r => by cases r with | cons a b => exact b
  | d :: ds, _, k + 1, r => by cases r with | cons a b => exact .cons a (RepL.eraseIdx k b)
section
variable {S : Sg} {ι : Type} {F : ι → Cx} {pos : Pos}
def gPopAt : DM
  | .ref a, [.int i], μ, Q => ∃ xs k y, μ a = some (.lst xs) ∧ (-(2 ^ 63) ≤ i ∧ i < 2 ^ 63) ∧ seqIndex? i xs.length = some k ∧ xs[k]? = some y ∧ Q y (mset μ a (.lst (xs.eraseIdx k)))
  | _, _, _, _ => False
theorem wm_popAt : WM S "list.pop" gPopAt := by
  refine ⟨rPopAt, fun X hX => mt_popAt, ?_⟩
  intro I μ H _ SM dx x ds vs rx r Q Q' q u
  cases rx <;> first | exact False.elim q | skip
  rcases r with _ | ⟨r1, _ | ⟨r2, r3⟩⟩
  · exact q.elim
  · cases r1 <;> first | exact False.elim q | skip
    obtain ⟨xs, k, y, em, hi, hk, hy, q4⟩ := q
    obtain ⟨ws, r, hv⟩ := SM.memo em
    obtain ⟨v, h1, h2⟩ := r.get hy
    refine ⟨_, ws, _, k, v, rfl, rfl, hv, hi.1, hi.2, by rw [← r.length]; exact hk, h1, ?_⟩
    exact u I _ _ _ _ (Same.refl I) (SM.setM (m := .lst (xs.eraseIdx k)) (SM.mu _ _ em).1 ⟨_, r.eraseIdx k, upd_same⟩) h2 q4
  · cases r1 <;> exact q.elim
theorem we_popAt {o e : Expr} {so : DE} {t : DA} {apos cpos : Pos} (ho : WE S F o so) (ha : WA S F [e] t)
    (hbase : ∀ env, attributeBase o "pop" env (eval o env) = eval o env := by exact fun _ => rfl)
    (hfew : ∀ env, ((backTo cpos (starEach [e] env)).all (fun x => !x.1) && (backToKw cpos (keywordEach [] env)).all (fun x => x.1.isSome)
      && decide ([e].length + ([] : List Keyword).length + (if ([] : List Keyword).isEmpty then 0 else 1) < 30)) = true := by exact fun _ => rfl)
    (hline : (apos.endLine == cpos.line) = true := by rfl) (hs : ∀ env, starEach [e] env = (false, eval e env) :: starEach [] env := by exact fun _ => rfl) :
    WE S F (.Call (.Attribute o "pop" apos) [e] [] cpos) (vBM "list" gPopAt so t) :=
  we_bm PySem.F.plainAttrs_list PySem.F.slot_list_pop PySem.F.type_list_pop wm_popAt ho ha hbase hfew hline hs (fun _ => rfl)
/-- xs.extend(ys) of two lists -/
def gExtend : DM
  | .ref a, [.lst zs], μ, Q => ∃ xs, μ a = some (.lst xs) ∧ xs.length + zs.length ≤ sizeLine ∧ Q .non (mset μ a (.lst (xs ++ zs)))
  | .ref a, [.ref b], μ, Q => ∃ xs zs, μ a = some (.lst xs) ∧ μ b = some (.lst zs) ∧ xs.length + zs.length ≤ sizeLine ∧ Q .non (mset μ a (.lst (xs ++ zs)))
  | _, _, _, _ => False
theorem wm_extend : WM S "list.extend" gExtend := by
  refine ⟨rExtend, fun X hX => mt_extend, ?_⟩
  intro I μ H _ SM dx x ds vs rx r Q Q' q u
  cases rx <;> first | exact False.elim q | skip
  rcases r with _ | ⟨r1, _ | ⟨r2, r3⟩⟩
  · exact q.elim
  · cases r1 <;> first | exact False.elim q | skip
    · obtain ⟨xs, zs, em, ez, hl, q4⟩ := q
      obtain ⟨ws, r, hv⟩ := SM.memo em
      obtain ⟨ws2, r', hv2⟩ := SM.memo ez
      refine ⟨_, _, ws, ws2, rfl, rfl, hv, hv2, by rw [← r.length, ← r'.length]; exact hl, ?_⟩
      exact u I _ _ _ _ (Same.refl I) (SM.setM (m := .lst (xs ++ zs)) (SM.mu _ _ em).1 ⟨_, r.append r', upd_same⟩) .non q4
    · rename_i h1 h2
      obtain ⟨xs, em, hl, q4⟩ := q
      obtain ⟨ws, r, hv⟩ := SM.memo em
      refine ⟨_, _, ws, _, rfl, rfl, hv, SM.ex _ _ h1, by rw [← r.length, ← h2.length]; exact hl, ?_⟩
      exact u I _ _ _ _ (Same.refl I) (SM.setM (m := .lst (xs ++ _)) (SM.mu _ _ em).1 ⟨_, r.append h2, upd_same⟩) .non q4
  · cases r1 <;> exact q.elim
theorem we_extend {o e : Expr} {so : DE} {t : DA} {apos cpos : Pos} (ho : WE S F o so) (ha : WA S F [e] t)
    (hbase : ∀ env, attributeBase o "extend" env (eval o env) = eval o env := by exact fun _ => rfl)
    (hfew : ∀ env, ((backTo cpos (starEach [e] env)).all (fun x => !x.1) && (backToKw cpos (keywordEach [] env)).all (fun x => x.1.isSome)
      && decide ([e].length + ([] : List Keyword).length + (if ([] : List Keyword).isEmpty then 0 else 1) < 30)) = true := by exact fun _ => rfl)
    (hline : (apos.endLine == cpos.line) = true := by rfl) (hs : ∀ env, starEach [e] env = (false, eval e env) :: starEach [] env := by exact fun _ => rfl) :
    WE S F (.Call (.Attribute o "extend" apos) [e] [] cpos) (vBM "list" gExtend so t) :=
  we_bm PySem.F.plainAttrs_list PySem.F.slot_list_extend PySem.F.type_list_extend wm_extend ho ha hbase hfew hline hs (fun _ => rfl)
end
/-- a list that changes, as it stands -/
def dref (μ : Mu) : Dv → Dv
  | .ref a => match μ a with | some (.lst xs) => .lst xs | _ => .ref a
  | x => x
theorem Rep.dref_dp {K : PySem.W.Frag} {I H : Hp} {μ : Mu} (SM : SatM K I μ H) {d : Dv} {v : V} (r : Rep K I d v) (h : (dref μ d).isD = true) : Dp K H v (dref μ d).pd := by
  cases r with
  | ref a =>
    cases em : μ a with
    | none => simp only [dref, em] at h; cases h
    | some m =>
      cases m with
      | lst ys =>
        simp only [dref, em] at h ⊢
        obtain ⟨vs, rl, hv⟩ := SM.memo em
        exact .lst (.inl (.inl hv)) (rl.dp SM.ex _ _ h)
      | _ => simp only [dref, em] at h; cases h
  | non => exact Rep.dp SM.ex _ _ h .non
  | bl b => exact Rep.dp SM.ex _ _ h (.bl b)
  | int i => exact Rep.dp SM.ex _ _ h (.int i)
  | str x => exact Rep.dp SM.ex _ _ h (.str x)
  | byt x => exact Rep.dp SM.ex _ _ h (.byt x)
  | ty n => exact Rep.dp SM.ex _ _ h (.ty n)
  | tup a b => exact Rep.dp SM.ex _ _ h (.tup a b)
  | rot a b => exact Rep.dp SM.ex _ _ h (.rot a b)
  | lst a b => exact Rep.dp SM.ex _ _ h (.lst a b)
  | rol a b => exact Rep.dp SM.ex _ _ h (.rol a b)
section
variable {S : Sg}
def gEqM : D2 := fun x y μ Q => gEq (dref μ x) (dref μ y) μ Q
def gNeM : D2 := fun x y μ Q => gNe (dref μ x) (dref μ y) μ Q
theorem wo_eqM : WO S (compareOp .Eq) gEqM := ⟨rEqP S.K, fun X hX => hX.K ▸ op_eqP hX.units, fun I μ H _ SM dx dy x y rx ry Q Q' q u =>
  ⟨(dref μ dx).pd, (dref μ dy).pd, rx.dref_dp SM q.1.1, ry.dref_dp SM q.1.2.1, (dref μ dx).plain, (dref μ dy).plain, q.1.2.2, u I _ _ μ H (Same.refl I) SM (.bl _) q.2⟩⟩
theorem wo_neM : WO S (compareOp .NotEq) gNeM := ⟨rNeP S.K, fun X hX => hX.K ▸ op_neP hX.units, fun I μ H _ SM dx dy x y rx ry Q Q' q u =>
  ⟨(dref μ dx).pd, (dref μ dy).pd, rx.dref_dp SM q.1.1, ry.dref_dp SM q.1.2.1, (dref μ dx).plain, (dref μ dy).plain, q.1.2.2, u I _ _ μ H (Same.refl I) SM (.bl _) q.2⟩⟩
end
end Wl

set_option Elab.async false
set_option linter.all false
set_option maxRecDepth 100000
set_option maxHeartbeats 2000000
namespace Wl
open PySem L2
open PySem.Spec PyProof.Rows
/-! ## defs that call themselves: a promise by the number of turns -/
abbrev spNo : Sp2 := fun _ _ _ _ => False
theorem ok_no {P : Program} {w : World} {K : PySem.W.Frag} {mg : Str → Option Value} {base : Heap} {k : Nat} {f : Addr} {fd : FuncData} {ps : List Str} : Ok P w K mg base k f fd ps spNo :=
  ⟨fun _ _ _ _ ⟨_, _, _, _, _, _, _, h, _⟩ => h.elim, fun _ _ _ _ _ _ _ _ _ _ _ _ _ ⟨_, _, _, _, _, _, _, h, _⟩ => h.elim⟩
/-- where a def stands, and how it is called -/
structure DefD (K : PySem.W.Frag) (mg : Str → Option Value) (x qual : Str) (st : Stmt) (f : Addr) (fd : FuncData) (ps : List Str) (dds : List Dv) : Prop where
  fn : Fun K x qual st f fd
  at_ : mg x = some (.ref f)
  b : ∃ (dvs : List V) (dus : List Value), Binds K fd ps dus ∧ Vals dvs dus ∧ ∀ I, RepL K I dds dvs
theorem DefD.cal {P : Program} {w : World} {K : PySem.W.Frag} {mg : Str → Option Value} {base : Heap} {k : Nat} {x qual : Str} {st : Stmt} {f : Addr} {fd : FuncData} {ps : List Str} {dds : List Dv} {sp : Sp2} (D : DefD K mg x qual st f fd ps dds) (O : Ok P w K mg base k f fd ps sp) : CalD P w K mg base k x sp dds :=
  let ⟨dvs, dus, h1, h2, h3⟩ := D.b
  ⟨f, fd, ps, dvs, dus, O, D.at_, D.fn.kp, h1, h2, h3⟩
theorem DefD.gen {P : Program} {w : World} {K : PySem.W.Frag} {mg : Str → Option Value} {base : Heap} {k : Nat} {x qual : Str} {st : Stmt} {f : Addr} {fd : FuncData} {ps : List Str} {dds : List Dv} {sp : SpY} (D : DefD K mg x qual st f fd ps dds) (O : OkG P w K mg base k f fd ps sp) : GenD P w K mg base k x sp dds :=
  let ⟨dvs, dus, h1, h2, h3⟩ := D.b
  ⟨f, fd, ps, dvs, dus, O, D.at_, D.fn.kp, h1, h2, h3⟩
section
variable {S : Sg} {ι : Type} {F : ι → Cx} {pos : Pos}
theorem ws_setComp (i : Nat) {y : Str} {py : Pos} {spos : Pos} {elt tg iter : Expr} {ifs : List Expr} {scope : Scope} {own : List (Str × Nat)} {wi : DI} {g : DG} {tt : DT} {te : DE} (hN : S.N.Nodup) (hi : WI S F tg iter wi) (ok : ∀ i, BlkOk S.N (F i).env.scope scope own)
    (hg : WGv S.blk (blkF F scope) (own.map (·.2)) tg g) (ht : WTs S.blk (blkF F scope) ifs tt) (he : WE S.blk (blkF F scope) elt te) (hy : S.N[i]? = some y := by rfl) (hyl : ∀ j, (F j).env.scope.names.lookup y = some .local := by exact fun _ => rfl) (hk : ∀ j, (F j).env.scope.kind = .function := by exact fun _ => rfl)
    (hl : (py.line == pos.line) = true := by rfl) (ha : (scope.names.any fun (n, k) => n == y && (k == .local || k == .cell)) = false := by decide +kernel) (hs : ∀ env, ∀ x, foldedSetIterable iter env x = pure x := by exact fun _ _ => rfl) (hcold : S.cold = false := by rfl) :
    WS S F (.Assign [.Name y py] (.ListComp elt [⟨tg, iter, ifs, 0⟩] scope pos) spos) (sAsg (vComp (own.map (·.2)) wi g tt te) (dName i)) :=
  let ⟨ti, i1, i2⟩ := hi; let ⟨tg', g1, g2⟩ := hg; let ⟨t1, b1, b2⟩ := ht; let ⟨t2, c1, c2⟩ := he
  ⟨_, fun j h => ps_setLc (h.calm hcold) (h.N ▸ hN) (h.N ▸ hy) (hyl j) (sw_true (hk j) (hyl j) hl ha) (i1 j h) (h.N ▸ ok j) (fun s H C cl fp => g1 (j, s, H, C, cl, fp) (h.blk s H scope _ fp)) (fun s H C cl fp => b1 (j, s, H, C, cl, fp) (h.blk s H scope _ fp)) (fun s H C cl fp => c1 (j, s, H, C, cl, fp) (h.blk s H scope _ fp)) (hs _),
    fun I δ μ σ H hJ SM hS D D' q u => re_comp i2 g2 b2 c2 I δ μ σ H hJ SM hS _ _ q fun I1 d v μ1 H1 e1 S1 r1 q1 => u.nx I1 _ _ μ1 H1 e1 S1 ((hS.mono e1).set i r1) q1⟩
theorem ws_setCompM (i : Nat) {y : Str} {py : Pos} {spos : Pos} {elt tg iter : Expr} {ifs : List Expr} {scope : Scope} {own : List (Str × Nat)} {wi : DI} {g : DG} {tt : DT} {te : DE} (hN : S.N.Nodup) (hi : WI S F tg iter wi) (ok : ∀ i, BlkOk S.N (F i).env.scope scope own)
    (hg : WGv S.blk (blkF F scope) (own.map (·.2)) tg g) (ht : WTs S.blk (blkF F scope) ifs tt) (he : WE S.blk (blkF F scope) elt te) (hy : S.N[i]? = some y := by rfl) (hyl : ∀ j, (F j).env.scope.names.lookup y = some .local := by exact fun _ => rfl) (hk : ∀ j, (F j).env.scope.kind = .function := by exact fun _ => rfl)
    (hl : (py.line == pos.line) = true := by rfl) (ha : (scope.names.any fun (n, k) => n == y && (k == .local || k == .cell)) = false := by decide +kernel) (hs : ∀ env, ∀ x, foldedSetIterable iter env x = pure x := by exact fun _ _ => rfl) (hcold : S.cold = false := by rfl) :
    WS S F (.Assign [.Name y py] (.ListComp elt [⟨tg, iter, ifs, 0⟩] scope pos) spos) (sAsg (vCompM (own.map (·.2)) wi g tt te) (dName i)) :=
  let ⟨ti, i1, i2⟩ := hi; let ⟨tg', g1, g2⟩ := hg; let ⟨t1, b1, b2⟩ := ht; let ⟨t2, c1, c2⟩ := he
  ⟨_, fun j h => ps_setLc (h.calm hcold) (h.N ▸ hN) (h.N ▸ hy) (hyl j) (sw_true (hk j) (hyl j) hl ha) (i1 j h) (h.N ▸ ok j) (fun s H C cl fp => g1 (j, s, H, C, cl, fp) (h.blk s H scope _ fp)) (fun s H C cl fp => b1 (j, s, H, C, cl, fp) (h.blk s H scope _ fp)) (fun s H C cl fp => c1 (j, s, H, C, cl, fp) (h.blk s H scope _ fp)) (hs _),
    fun I δ μ σ H hJ SM hS D D' q u => re_compM i2 g2 b2 c2 I δ μ σ H hJ SM hS _ _ q fun I1 d v μ1 H1 e1 S1 r1 q1 => u.nx I1 _ _ μ1 H1 e1 S1 ((hS.mono e1).set i r1) q1⟩
end
end Wl

set_option Elab.async false
set_option linter.all false
set_option maxRecDepth 100000
set_option maxHeartbeats 2000000
namespace Wl
open PySem L2
open PySem.Spec PyProof.Rows
/-! ## what the top has left: facts by places -/
structure FunF (K : PySem.W.Frag) (x qual : Str) (st : Stmt) (f : Addr) : Prop where
  l : ∃ (oc : Value) (od an : Option Addr) (osl : Array (Option Value)) (kV doc pm cdv ct : Value), K.lookup f = some ⟨oc, od, .func (PySem.W.fnOf x qual (defArgs st) (defBody st) (defScope st) .none kV doc pm an cdv ct), osl⟩ ∧ PySem.W.codeIn K cdv qual = true
  k : PySem.W.keepIn K (.ref f) = true
structure TopF (K : PySem.W.Frag) (x qual : Str) (st : Stmt) (f : Addr) : Prop where
  a : PySem.W.nsIn K mainGlobals x = some (some (.ref f))
  f : FunF K x qual st f
structure MetF (K : PySem.W.Frag) (C : Addr) (x qual : Str) (st : Stmt) (f : Addr) : Prop where
  a : PySem.W.findIn K (.ref C) x = some (some (.ref f))
  i : PySem.W.isFn K (.ref f) = true
  f : FunF K x qual st f
structure PrpF (K : PySem.W.Frag) (C : Addr) (x qual : Str) (st : Stmt) (p f : Addr) : Prop where
  a : PySem.W.findIn K (.ref C) x = some (some (.ref p))
  g : PySem.W.specialIn K (.ref p) "__get__" = some (some (.builtin "property.__get__"))
  t : PySem.W.takesIn K (.ref p) = some true
  r : ∃ rest, PySem.W.recIn K p "property" = some (.ref f :: rest)
  f : FunF K x qual st f
structure ClsF (K : PySem.W.Frag) (x : Str) (C : Addr) : Prop where
  a : PySem.W.nsIn K mainGlobals x = some (some (.ref C))
  pg : PySem.W.plainGet K C Str.empty = true
  hd : PySem.W.hasDictIn K C = true
  po : PySem.W.plainOver K C = true
  sa : PySem.W.findIn K (.ref C) "__setattr__" = some (some (.builtin "object.__setattr__"))
  made : PySem.W.makesIn K C = true
  k : PySem.W.keepIn K (.ref C) = true
theorem ClsF.cls {K : PySem.W.Frag} {x : Str} {C : Addr} (c : ClsF K x C) : Cls K C := ⟨c.pg, c.hd, c.po, c.sa⟩
section
variable {P : Program} {w : World} {K : PySem.W.Frag} {mg : Str → Option Value} {base h : Heap}
theorem FunF.fn {x qual : Str} {st : Stmt} {f : Addr} (F : FunF K x qual st f) : ∃ fd, Fun K x qual st f fd ∧ ∃ kV doc pm an cdv ct, fd = PySem.W.fnOf x qual (defArgs st) (defBody st) (defScope st) .none kV doc pm an cdv ct :=
  let ⟨oc, od, an, osl, kV, doc, pm, cdv, ct, l, c⟩ := F.l
  ⟨_, fun_mk l c F.k, kV, doc, pm, an, cdv, ct, rfl⟩
theorem FunF.bound {x qual : Str} {st : Stmt} {f : Addr} {ps : List Str} (F : FunF K x qual st f)
    (hb : ∀ (kV doc pm : Value) (an : Option Addr) (cdv ct : Value) (us : List Value), us.length = ps.length → bindArgs (PySem.W.fnOf x qual (defArgs st) (defBody st) (defScope st) .none kV doc pm an cdv ct) ⟨us, []⟩ = pure (ps.zip us)) : ∃ fd, Fun K x qual st f fd ∧ Binds K fd ps [] :=
  let ⟨fd, F1, _⟩ := F.fn
  ⟨fd, F1, F1.binds hb⟩
theorem TopF.at_ {x qual : Str} {st : Stmt} {f : Addr} {ps : List Str} (X : K.In h) (G : h.Ns mainGlobals mg) (F : TopF K x qual st f)
    (hb : ∀ (kV doc pm : Value) (an : Option Addr) (cdv ct : Value) (us : List Value), us.length = ps.length → bindArgs (PySem.W.fnOf x qual (defArgs st) (defBody st) (defScope st) .none kV doc pm an cdv ct) ⟨us, []⟩ = pure (ps.zip us)) : ∃ fd, DefD K mg x qual st f fd ps [] :=
  let ⟨fd, F1, B⟩ := F.f.bound hb
  ⟨fd, F1, PySem.W.mg_of X G F.a, [], [], B, .nil, fun _ => .nil⟩
theorem MetF.met {C : Addr} {x qual : Str} {st : Stmt} {f : Addr} {fd : FuncData} {ps : List Str} {k : Nat} {sp : Sp2} (M : MetF K C x qual st f) (c : Cls K C) (B : Binds K fd ps []) (O : Ok P w K mg base k f fd ps sp) : MetD P w K mg base k C x sp [] :=
  ⟨f, fd, ps, [], [], O, c, ⟨M.a, M.i, M.f.k⟩, B, .nil, fun _ => .nil⟩
theorem MetF.mak {C : Addr} {cx qual : Str} {st : Stmt} {f : Addr} {fd : FuncData} {ps : List Str} {k : Nat} {sp : Sp2} (X : K.In h) (G : h.Ns mainGlobals mg) (c : ClsF K cx C) (M : MetF K C "__init__" qual st f) (B : Binds K fd ps []) (O : Ok P w K mg base k f fd ps sp) : MakD P w K mg base k cx C sp [] :=
  ⟨f, fd, ps, [], [], O, PySem.W.mg_of X G c.a, ⟨c.made, M.a, M.i, c.k⟩, B, .nil, fun _ => .nil⟩
theorem PrpF.prp {C : Addr} {x qual : Str} {st : Stmt} {p f : Addr} {fd : FuncData} {ps : List Str} {k : Nat} {sp : Sp2} (M : PrpF K C x qual st p f) (c : Cls K C) (B : Binds K fd ps []) (O : Ok P w K mg base k f fd ps sp) : PrpD P w K mg base k C x sp :=
  ⟨p, f, fd, ps, O, c, ⟨M.a, M.g, M.t, M.r⟩, B⟩
end
section
variable {K : PySem.W.Frag} {x qual : Str} {st : Stmt} {f p C : Addr} {oc : Value} {od an : Option Addr} {osl : Array (Option Value)} {kV doc pm cdv ct : Value} {rest : List Value}
theorem FunF.of (l : K.lookup f = some ⟨oc, od, .func (PySem.W.fnOf x qual (defArgs st) (defBody st) (defScope st) .none kV doc pm an cdv ct), osl⟩) (c : PySem.W.codeIn K cdv qual = true) (k : PySem.W.keepIn K (.ref f) = true) : FunF K x qual st f := ⟨⟨_, _, _, _, _, _, _, _, _, l, c⟩, k⟩
theorem TopF.of (a : PySem.W.nsIn K mainGlobals x = some (some (.ref f))) (l : K.lookup f = some ⟨oc, od, .func (PySem.W.fnOf x qual (defArgs st) (defBody st) (defScope st) .none kV doc pm an cdv ct), osl⟩) (c : PySem.W.codeIn K cdv qual = true) (k : PySem.W.keepIn K (.ref f) = true) : TopF K x qual st f := ⟨a, .of l c k⟩
theorem MetF.of (a : PySem.W.findIn K (.ref C) x = some (some (.ref f))) (i : PySem.W.isFn K (.ref f) = true) (l : K.lookup f = some ⟨oc, od, .func (PySem.W.fnOf x qual (defArgs st) (defBody st) (defScope st) .none kV doc pm an cdv ct), osl⟩) (c : PySem.W.codeIn K cdv qual = true) (k : PySem.W.keepIn K (.ref f) = true) : MetF K C x qual st f := ⟨a, i, .of l c k⟩
theorem PrpF.of (a : PySem.W.findIn K (.ref C) x = some (some (.ref p))) (g : PySem.W.specialIn K (.ref p) "__get__" = some (some (.builtin "property.__get__"))) (t : PySem.W.takesIn K (.ref p) = some true) (r : PySem.W.recIn K p "property" = some (.ref f :: rest)) (l : K.lookup f = some ⟨oc, od, .func (PySem.W.fnOf x qual (defArgs st) (defBody st) (defScope st) .none kV doc pm an cdv ct), osl⟩) (c : PySem.W.codeIn K cdv qual = true) (k : PySem.W.keepIn K (.ref f) = true) : PrpF K C x qual st p f := ⟨a, g, t, ⟨_, r⟩, .of l c k⟩
theorem con_int {i : Int} {t : Tok} (e : PySem.W.nsIn K mainGlobals x = some (some (.int i t))) : ∃ t, PySem.W.nsIn K mainGlobals x = some (some (.int i t)) := ⟨_, e⟩
theorem con_str {i : Str} {t : Tok} (e : PySem.W.nsIn K mainGlobals x = some (some (.str i t))) : ∃ t, PySem.W.nsIn K mainGlobals x = some (some (.str i t)) := ⟨_, e⟩
end
/-- the law's promise: true, at every script -/
def spEnd (K : PySem.W.Frag) : Sp := fun vs H Q _ => ∃ (a : Addr) (ns : List Int), vs = [.ref a] ∧ SqL K H a (ns.map V.int) ∧ ns.length ≤ 63 ∧ ∀ H', Q (.bl true) H'
theorem repL_ints {K : PySem.W.Frag} {I : Hp} : ∀ ns : List Int, RepL K I (ns.map Dv.int) (ns.map V.int)
  | [] => .nil
  | n :: ns => .cons (.int n) (repL_ints ns)
theorem ok_end {P : Program} {w : World} {K : PySem.W.Frag} {mg : Str → Option Value} {base : Heap} {k : Nat} {f : Addr} {fd : FuncData} {ps : List Str} {sp : Sp2} (O : Ok P w K mg base k f fd ps sp) (hp : ps.length = 1)
    (hm : ∀ ns : List Int, ns.length ≤ 63 → sp [.rol (ns.map Dv.int)] (fun _ => none) (fun d _ => d = .bl true) fun _ _ _ => False) : FnOk P w K mg base (L2.CX P w) k f fd ps (spEnd K) := by
  refine ⟨fun vs H Q E ⟨a, ns, e, _⟩ => by rw [e, hp]; rfl, fun A outer s H args us vs Q E hr e0 hb r hsp => ?_⟩
  refine O.run A outer s H args us vs Q E hr e0 hb r ?_
  obtain ⟨a, ns, rfl, hS, hl, k⟩ := hsp
  refine ⟨H, [.rol (ns.map Dv.int)], fun _ => none, _, _, ⟨Same.refl H, fun a m e => by cases e⟩, .cons (.rol hS (repL_ints ns)) .nil, hm ns hl, ?_, fun _ _ _ _ _ _ _ q => q.elim⟩
  intro I' d v μ' H' _ _ rv e
  subst e
  cases rv
  exact k H'
end Wl

set_option Elab.async false
set_option linter.all false
set_option maxRecDepth 100000
set_option maxHeartbeats 2000000
namespace Wl
open PySem L2
open PySem.Spec PyProof.Rows
section
variable {S : Sg}
def gStarts : DM := fun x xs μ Q => match x, xs with
  | .str a, [.str b] => Q (.bl (Txt.startswith a b)) μ
  | _, _ => False
theorem wm_startswith : WM S "str.startswith" gStarts := ⟨_, fun X _ => mt_startswith, fun I μ H _ SM dx x ds vs rx r Q Q' q u => by
  cases rx <;> first | exact False.elim q | skip
  cases r with
  | nil => exact q.elim
  | cons r1 r2 =>
    cases r2 with
    | cons _ _ => cases r1 <;> exact False.elim q
    | nil =>
      cases r1 <;> first | exact False.elim q | skip
      exact ⟨_, _, rfl, rfl, u I _ _ μ H (Same.refl I) SM (.bl _) q⟩⟩
end
end Wl

set_option Elab.async false
set_option linter.all false
set_option maxRecDepth 100000
set_option maxHeartbeats 2000000
namespace Wl
open PySem L2
open PySem.Spec PyProof.Rows
section
variable {S : Sg} {ι : Type} {F : ι → Cx} {pos : Pos}
/-! ## sorted -/
theorem rep_ints {K : PySem.W.Frag} {I : Hp} : ∀ {ns : List Int} {vs : List V}, RepL K I (ns.map Dv.int) vs → vs = ns.map V.int
  | [], _, .nil => rfl
  | n :: ns, _, .cons h t => by cases h; rw [rep_ints t]; rfl
theorem ints_rep {K : PySem.W.Frag} {I : Hp} : ∀ (ns : List Int), RepL K I (ns.map Dv.int) (ns.map V.int)
  | [] => .nil
  | n :: ns => .cons (.int n) (ints_rep ns)
theorem rep_strs {K : PySem.W.Frag} {I : Hp} : ∀ {ns : List Str} {vs : List V}, RepL K I (ns.map Dv.str) vs → vs = ns.map V.str
  | [], _, .nil => rfl
  | n :: ns, _, .cons h t => by cases h; rw [rep_strs t]; rfl
theorem strs_rep {K : PySem.W.Frag} {I : Hp} : ∀ (ns : List Str), RepL K I (ns.map Dv.str) (ns.map V.str)
  | [] => .nil
  | n :: ns => .cons (.str n) (strs_rep ns)
def gSortI : DC := fun ds μ Q => match ds with
  | [.lst xs] => ∃ ns : List Int, xs = ns.map Dv.int ∧ ∀ ns' : List Int, ns'.Perm ns → ns'.Pairwise (· ≤ ·) → Q (.lst (ns'.map Dv.int)) μ
  | _ => False
theorem wc_sortI : WC S (.builtin "sorted") gSortI := by
  refine ⟨_, fun X hX => hX.K ▸ cr_sortedI, ?_⟩
  intro I μ H _ SM ds vs r Q Q' q u
  rcases r with _ | ⟨r1, _ | ⟨r2, r3⟩⟩
  · exact q.elim
  · cases r1 <;> first | exact False.elim q | skip
    rename_i h1 h2
    obtain ⟨ns, rfl, q⟩ := q
    have e := rep_ints h2
    subst e
    refine ⟨_, ns, rfl, .inl (.inl (SM.ex _ _ h1)), fun ns' p hp hs hl => ?_⟩
    obtain ⟨s1, s2⟩ := SM.newI hl (.lst (ns'.map V.int))
    exact u _ _ _ μ _ s1 s2 (.lst upd_same (ints_rep ns')) (q ns' hp hs)
  · cases r1 <;> exact q.elim
def gSortS : DC := fun ds μ Q => match ds with
  | [.lst xs] => ∃ ns : List Str, xs = ns.map Dv.str ∧ ns.length < 64 ∧ ∀ ns' : List Str, ns'.Perm ns → sortedS ns' = true → Q (.lst (ns'.map Dv.str)) μ
  | _ => False
theorem wc_sortS : WC S (.builtin "sorted") gSortS := by
  refine ⟨_, fun X hX => hX.K ▸ cr_sortedS, ?_⟩
  intro I μ H _ SM ds vs r Q Q' q u
  rcases r with _ | ⟨r1, _ | ⟨r2, r3⟩⟩
  · exact q.elim
  · cases r1 <;> first | exact False.elim q | skip
    rename_i h1 h2
    obtain ⟨ns, rfl, hn, q⟩ := q
    have e := rep_strs h2
    subst e
    refine ⟨_, ns, rfl, .inl (.inl (SM.ex _ _ h1)), hn, fun ns' p hp hs hl => ?_⟩
    obtain ⟨s1, s2⟩ := SM.newI hl (.lst (ns'.map V.str))
    exact u _ _ _ μ _ s1 s2 (.lst upd_same (strs_rep ns')) (q ns' hp hs)
  · cases r1 <;> exact q.elim
theorem RepP.keys {K : PySem.W.Frag} {I : Hp} {κ : Type} : ∀ {ks : List (κ × Dv)} {vs : List (κ × V)}, RepP K I ks vs → vs.map (·.1) = ks.map (·.1)
  | _, _, .nil => rfl
  | _, _, .cons h t => by
    have := RepP.keys t
    simp only [List.map_cons, this, h.1]
/-- sorted(d), d a dict with texts as keys -/
def gSortD : DC := fun ds μ Q => match ds with
  | [.ref a] => ∃ (kvs : List (Key × Dv)) (ks : List Str), μ a = some (.dK kvs) ∧ kvs.map (·.1) = ks.map Sum.inr ∧ ks.length < 64 ∧ ∀ ys : List Str, ys.Perm ks → sortedS ys = true → Q (.lst (ys.map Dv.str)) μ
  | _ => False
theorem wc_sortD (hcold : S.cold = false := by rfl) : WC S (.builtin "sorted") gSortD := by
  refine ⟨_, fun X hX => call_sortedD (hX.calm hcold), ?_⟩
  intro I μ H _ SM ds vs r Q Q' q u
  rcases r with _ | ⟨r1, _ | ⟨r2, r3⟩⟩
  · exact q.elim
  · cases r1 <;> first | exact False.elim q | skip
    obtain ⟨kvs, ks, em, hk, hn, q⟩ := q
    obtain ⟨ws, rp, hv⟩ := SM.memo em
    refine ⟨_, ws, ks, rfl, .inl hv, by rw [rp.keys]; exact hk, hn, fun ys p hp hs hl => ?_⟩
    obtain ⟨s1, s2⟩ := SM.newI hl (.lst (ys.map V.str))
    exact u _ _ _ μ _ s1 s2 (.lst upd_same (strs_rep ys)) (q ys hp hs)
  · cases r1 <;> exact q.elim
/-! ## list(d), divmod -/
def gListD : DC := fun ds μ Q => match ds with
  | [.ref a] => ∃ kvs : List (Key × Dv), μ a = some (.dK kvs) ∧ Q (.lst (kvs.map fun kv => kD kv.1)) μ
  | _ => False
theorem kD_rep {K : PySem.W.Frag} {I : Hp} {κ : Type} : ∀ (kvs : List (Key × κ)), RepL K I (kvs.map fun kv => kD kv.1) (kvs.map fun kv => kV kv.1)
  | [] => .nil
  | (.inl i, _) :: r => .cons (.int i) (kD_rep r)
  | (.inr x, _) :: r => .cons (.str x) (kD_rep r)
theorem wc_listD (hcold : S.cold = false := by rfl) : WC S (.type "list") gListD := by
  refine ⟨_, fun X hX => call_listD (hX.calm hcold), ?_⟩
  intro I μ H _ SM ds vs r Q Q' q u
  rcases r with _ | ⟨r1, _ | ⟨r2, r3⟩⟩
  · exact q.elim
  · cases r1 <;> first | exact False.elim q | skip
    obtain ⟨kvs, em, q⟩ := q
    obtain ⟨ws, rp, hv⟩ := SM.memo em
    refine ⟨_, ws, rfl, .inl hv, fun p hl => ?_⟩
    obtain ⟨s1, s2⟩ := SM.newI hl (.lst (ws.map fun kv => kV kv.1))
    have e : ws.map (fun kv => kV kv.1) = kvs.map (fun kv => kV kv.1) := by
      have := congrArg (List.map kV) rp.keys
      rw [List.map_map, List.map_map] at this
      exact this
    refine u _ _ _ μ _ s1 s2 (.lst upd_same ?_) q
    rw [e]; exact kD_rep kvs
  · cases r1 <;> exact q.elim
def gDivmod : DC := fun ds μ Q => match ds with
  | [.int i, .int j] => CDiv i j ∧ Q (.tup [.int (i / j), .int (i % j)]) μ
  | _ => False
theorem wc_divmod : WC S (.builtin "divmod") gDivmod := by
  refine ⟨_, fun X hX => call_divmod, ?_⟩
  intro I μ H _ SM ds vs r Q Q' q u
  rcases r with _ | ⟨r1, _ | ⟨r2, _ | ⟨r3, r4⟩⟩⟩
  · exact q.elim
  · cases r1 <;> exact q.elim
  · cases r1 <;> first | exact False.elim q | skip
    cases r2 <;> first | exact False.elim q | skip
    refine ⟨_, _, rfl, q.1, fun p hl => ?_⟩
    obtain ⟨s1, s2⟩ := SM.newI hl (.tup [.int _, .int _])
    exact u _ _ _ μ _ s1 s2 (.tup upd_same (.cons (.int _) (.cons (.int _) .nil))) q.2
  · cases r1 <;> first | exact False.elim q | skip
    cases r2 <;> exact False.elim q
/-! ## d.get(k, v) -/
def vDGet2 (td ty tx : DE) : DE := fun δ μ Q => td δ μ fun x μ1 => match x with
  | .ref a => (match μ1 a with | some (.dK _) => True | some (.dT _) => True | _ => False) ∧ ty δ μ1 fun y μ2 => tx δ μ2 fun z μ3 => dlook μ3 a y fun o => Q (o.getD z) μ3
  | _ => False
theorem we_dget2 {o e f : Expr} {td ty tx : DE} {apos cpos : Pos} (ho : WE S F o td) (he : WE S F e ty) (hf : WE S F f tx) (hm : ∀ j, M2 (F j) o "get" apos e f cpos := by exact fun _ => ⟨rfl, rfl, rfl, rfl⟩) : WE S F (.Call (.Attribute o "get" apos) [e, f] [] cpos) (vDGet2 td ty tx) :=
  let ⟨ta, a1, a2⟩ := ho; let ⟨tb, b1, b2⟩ := he; let ⟨tc, c1, c2⟩ := hf
  ⟨_, fun i hi => pe_dget2 (room1 hi) (a1 i hi) (b1 i hi) (c1 i hi) (hm i), fun I δ μ σ H hJ SM hS Q Q' q u => a2 I δ μ σ H hJ SM hS _ _ q fun I1 x vx μ1 H1 e1 S1 r1 q1 => by
    cases r1 <;> first | exact False.elim q1 | skip
    rename_i a
    refine ⟨a, rfl, ?_, b2 I1 δ μ1 σ H1 (hJ.trans e1) S1 (hS.mono e1) _ _ q1.2 fun I2 y vy μ2 H2 e2 S2 r2 q2 => c2 I2 δ μ2 σ H2 ((hJ.trans e1).trans e2) S2 (hS.mono (e1.trans e2)) _ _ q2 fun I3 z vz μ3 H3 e3 S3 r3 q3 => ?_⟩
    · have h := q1.1
      cases e : μ1 a with
      | none => simp only [e] at h
      | some m =>
        have hm' := S1.memo e
        cases m with
        | dK kvs => obtain ⟨vs, _, hv⟩ := hm'; exact .inl ⟨vs, .inl hv⟩
        | dT kvs => obtain ⟨vs, _, hv⟩ := hm'; exact .inr ⟨vs, .inl hv⟩
        | _ => simp only [e] at h
    · rcases dlook_ok S3 (r2.mono e3 _ _) q3 with ⟨g, q4⟩ | ⟨d, v, g, rd, q4⟩
      · exact ⟨none, g, u I3 _ _ μ3 H3 ((e1.trans e2).trans e3) S3 r3 q4⟩
      · exact ⟨some v, g, u I3 _ _ μ3 H3 ((e1.trans e2).trans e3) S3 rd q4⟩⟩
/-! ## d == e of dicts that are equal, with numbers as values -/
def gSameD (b : Bool) : D2 := fun x y μ Q => match x, y with
  | .ref a, .ref b' => ∃ ks ls : List (Key × Dv), μ a = some (.dK ks) ∧ μ b' = some (.dK ls) ∧ ks.length = ls.length ∧ (∀ p ∈ ks, ∃ i : Int, p.2 = .int i ∧ valD ls p.1 = some (.int i)) ∧ Q (.bl b) μ
  | _, _ => False
theorem sameD_ok {K : PySem.W.Frag} {I H : Hp} {ks ls : List (Key × Dv)} {vs ws : List (Key × V)} (r : RepP K I ks vs) (s : RepP K I ls ws) (h : ∀ p ∈ ks, ∃ i : Int, p.2 = .int i ∧ valD ls p.1 = some (.int i)) : ∀ p ∈ vs, valV ws p.1 = some p.2 ∧ flatB p.2 = true := by
  induction r with
  | nil => intro p hp; cases hp
  | @cons a b as bs h1 t ih =>
    intro p hp
    rcases List.mem_cons.mp hp with rfl | hp
    · obtain ⟨e1, e2⟩ := h1
      obtain ⟨i, h3, h4⟩ := h a List.mem_cons_self
      rw [h3] at e2
      have hb : p.2 = .int i := rep_key (k := .inl i) e2 rfl
      rcases s.val a.1 with ⟨k1, _⟩ | ⟨d, v, k1, k2, k3⟩
      · rw [k1] at h4; cases h4
      · rw [k1] at h4
        cases h4
        have hv : v = .int i := rep_key (k := .inl i) k3 rfl
        rw [← e1, k2, hv, hb]
        exact ⟨rfl, rfl⟩
    · exact ih (fun q hq => h q (List.mem_cons_of_mem _ hq)) p hp
theorem wo_neD : WO S (compareOp .NotEq) (gSameD false) := ⟨rNeDA, fun X hX => op_ne_dictA (Nat.lt_of_succ_lt ((show _ + 1 < _ by have := hX.units; omega))), fun I μ H _ SM dx dy x y rx ry Q Q' q u => by
  cases rx <;> first | exact False.elim q | skip
  cases ry <;> first | exact False.elim q | skip
  obtain ⟨ks, ls, e1, e2, hl, hv, q⟩ := q
  obtain ⟨vs, r1, h1⟩ := SM.memo e1
  obtain ⟨ws, r2, h2⟩ := SM.memo e2
  exact ⟨_, _, vs, ws, rfl, rfl, h1, h2, by rw [← r1.len, ← r2.len]; exact hl, sameD_ok (H := H) r1 r2 hv, u I _ _ μ H (Same.refl I) SM (.bl _) q⟩⟩
theorem wo_eqD : WO S (compareOp .Eq) (gSameD true) := ⟨rEqDA, fun X hX => op_eq_dictA (Nat.lt_of_succ_lt ((show _ + 1 < _ by have := hX.units; omega))), fun I μ H _ SM dx dy x y rx ry Q Q' q u => by
  cases rx <;> first | exact False.elim q | skip
  cases ry <;> first | exact False.elim q | skip
  obtain ⟨ks, ls, e1, e2, hl, hv, q⟩ := q
  obtain ⟨vs, r1, h1⟩ := SM.memo e1
  obtain ⟨ws, r2, h2⟩ := SM.memo e2
  exact ⟨_, _, vs, ws, rfl, rfl, h1, h2, by rw [← r1.len, ← r2.len]; exact hl, sameD_ok (H := H) r1 r2 hv, u I _ _ μ H (Same.refl I) SM (.bl _) q⟩⟩
end
end Wl

set_option Elab.async false
set_option linter.all false
set_option maxRecDepth 100000
set_option maxHeartbeats 2000000
namespace Wl
open PySem L2
open PySem.Spec PyProof.Rows
/-! ## {k: v for x in ..} -/
def vDLoop (vs : List Nat) (g : DG) (tt : DT) (tk tv : DE) (δ : DSt) (D : Addr) : List Dv → Mu → (Mu → Prop) → Prop
  | [], μ, Q => (∃ kvs, μ D = some (.dK kvs)) ∧ Q μ
  | d :: ds, μ, Q => g d (dwipe δ vs) μ fun δ1 μ1 => tt δ1 μ1 fun b μ2 => if b = true then tk δ1 μ2 fun y μ3 => tv δ1 μ3 fun z μ4 => ∃ kvs k, keyD y = some k ∧ μ4 D = some (.dK kvs) ∧ kvs.length < sizeLine ∧ vDLoop vs g tt tk tv δ D ds (mset μ4 D (.dK (putD kvs k z))) Q
      else vDLoop vs g tt tk tv δ D ds μ2 Q
def vDc (vs : List Nat) (wi : DI) (g : DG) (tt : DT) (tk tv : DE) : DE := fun δ μ Q => wi δ μ fun ds μ1 => ∀ D, μ1 D = none → vDLoop vs g tt tk tv δ D ds (mset μ1 D (.dK [])) fun μ2 => Q (.ref D) μ2
section
variable {S : Sg} {ι : Type} {F : ι → Cx} {pos : Pos}
theorem re_dc {vs : List Nat} {ti : TI} {wi : DI} {tg : TG} {g : DG} {t1 : TT} {tt : DT} {t2 t3 : TE} {tk tv : DE} (i2 : RI S ti wi) (g2 : RGv S.blk vs tg g) (b2 : RT S.blk t1 tt) (c2 : RE S.blk t2 tk) (d2 : RE S.blk t3 tv) : RE S (tDc ti tg t1 t2 t3 vs) (vDc vs wi g tt tk tv) :=
  fun I δ μ σ H hJ SM hS Q Q' q u => i2 I δ μ σ H hJ SM hS _ _ q fun I1 ds μ1 H1 J e1 S1 ok q1 D hD => by
    refine ⟨fun i m H' => m = ds.length - i ∧ i ≤ ds.length ∧ ∃ I' μ', Same I1 I' ∧ SatM S.K I' μ' H' ∧ vDLoop vs g tt tk tv δ D (ds.drop i) μ' fun μ2 => Q (.ref D) μ2,
      ⟨ds.length, by simp, Nat.zero_le _, I1, _, Same.refl _, S1.setM (m := .dK []) (S1.ex.free hD) ⟨[], .nil, upd_same⟩, by simpa using q1 D (S1.muNone hD)⟩, ?_⟩
    rintro i m H' ⟨rfl, hle, I', μ', e', S', q'⟩
    by_cases hlt : i < ds.length
    · refine .inr ⟨ok.go i μ' I' H' e' S' hlt, fun H2 => ∃ I2 μ2, Same I1 I2 ∧ SatM S.K I2 μ2 H2 ∧ vDLoop vs g tt tk tv δ D (ds.drop (i + 1)) μ2 fun μ2 => Q (.ref D) μ2,
        fun H2 w => ⟨ds.length - (i + 1), by omega, rfl, hlt, w⟩, fun x H2 hy => ?_⟩
      have hd : ds[i]? = some ds[i] := by simp [hlt]
      obtain ⟨I2, e2, S2, r2⟩ := ok.yld i μ' I' H' x H2 _ e' S' hd hy
      rw [List.drop_eq_getElem_cons hlt] at q'
      have hJ2 := (hJ.trans e1).trans (e'.trans e2)
      refine g2 I2 _ μ' _ H2 _ _ hJ2 S2 ((hS.mono (e1.trans (e'.trans e2))).wipe vs) r2 _ _ q' fun I3 δ3 σ3 μ3 H3 e3 S3 R3 w3 q3 => ⟨w3.trans wipe_wipe, ?_⟩
      refine b2 I3 δ3 μ3 σ3 H3 (hJ2.trans e3) S3 R3 _ _ q3 fun I4 b μ4 H4 e4 S4 q4 => ?_
      have e14 := ((e'.trans e2).trans e3).trans e4
      cases b with
      | false =>
        rw [if_neg Bool.false_ne_true] at q4 ⊢
        exact ⟨I4, μ4, e14, S4, q4⟩
      | true =>
        rw [if_pos rfl] at q4 ⊢
        refine c2 I4 δ3 μ4 σ3 H4 ((hJ2.trans e3).trans e4) S4 (R3.mono e4) _ _ q4 fun I5 y vy μ5 H5 e5 S5 r5 q5 => ?_
        refine d2 I5 δ3 μ5 σ3 H5 (((hJ2.trans e3).trans e4).trans e5) S5 (R3.mono (e4.trans e5)) _ _ q5 fun I6 z vz μ6 H6 e6 S6 r6 q6 => ?_
        obtain ⟨kvs, k, ek, em, hl, q7⟩ := q6
        obtain ⟨vs', rp, hv⟩ := S6.memo em
        refine ⟨vs', k, rep_key r5 ek, hv, by rw [← rp.len]; exact hl, I6, _, (e14.trans e5).trans e6, S6.setM (m := .dK (putD kvs k z)) (S6.mu _ _ em).1 ⟨_, rp.put k r6, upd_same⟩, q7⟩
    · have e : i = ds.length := by omega
      subst e
      rw [List.drop_length] at q'
      obtain ⟨⟨kvs, em⟩, q6⟩ := q'
      exact .inl ⟨ok.stop μ' I' H' e' S', u I' (.ref D) (.ref D) μ' H' (e1.trans e') S' (.ref D) q6⟩
theorem we_dcomp {kx vx tg iter : Expr} {ifs : List Expr} {scope : Scope} {own : List (Str × Nat)} {wi : DI} {g : DG} {tt : DT} {tk tv : DE} (hN : S.N.Nodup) (hi : WI S F tg iter wi) (ok : ∀ i, BlkOk S.N (F i).env.scope scope own)
    (hg : WGv S.blk (blkF F scope) (own.map (·.2)) tg g) (ht : WTs S.blk (blkF F scope) ifs tt) (hk : WE S.blk (blkF F scope) kx tk) (hv : WE S.blk (blkF F scope) vx tv) (hs : ∀ env, ∀ x, foldedSetIterable iter env x = pure x := by exact fun _ _ => rfl) (hcold : S.cold = false := by rfl) :
    WE S F (.DictComp kx vx [⟨tg, iter, ifs, 0⟩] scope pos) (vDc (own.map (·.2)) wi g tt tk tv) :=
  let ⟨ti, i1, i2⟩ := hi; let ⟨tg', g1, g2⟩ := hg; let ⟨t1, b1, b2⟩ := ht; let ⟨t2, c1, c2⟩ := hk; let ⟨t3, d1, d2⟩ := hv
  ⟨_, fun i h => pe_dc (h.calm hcold) (h.N ▸ hN) (i1 i h) (h.N ▸ ok i) (fun s H C cl fp => g1 (i, s, H, C, cl, fp) (h.blk s H scope _ fp)) (fun s H C cl fp => b1 (i, s, H, C, cl, fp) (h.blk s H scope _ fp)) (fun s H C cl fp => c1 (i, s, H, C, cl, fp) (h.blk s H scope _ fp)) (fun s H C cl fp => d1 (i, s, H, C, cl, fp) (h.blk s H scope _ fp)) (hs _), re_dc i2 g2 b2 c2 d2⟩
/-! ## [.. for k in d], d a dict that stays -/
def vLoopK (vs : List Nat) (g : DG) (tt : DT) (te : DE) (δ : DSt) (D a : Addr) (fd : Mo) : List Dv → Mu → (List Dv → Mu → Prop) → Prop
  | [], μ, Q => μ a = some fd ∧ ∃ acc, μ D = some (.lst acc) ∧ Q acc μ
  | d :: ds, μ, Q => μ a = some fd ∧ g d (dwipe δ vs) μ fun δ1 μ1 => tt δ1 μ1 fun b μ2 => if b = true then te δ1 μ2 fun y μ3 => ∃ acc, μ3 D = some (.lst acc) ∧ acc.length < sizeLine ∧ vLoopK vs g tt te δ D a fd ds (mset μ3 D (.lst (acc ++ [y]))) Q else vLoopK vs g tt te δ D a fd ds μ2 Q
def vCompK (vs : List Nat) (td : DE) (g : DG) (tt : DT) (te : DE) : DE := fun δ μ Q => ∃ a kvs, μ a = some (.dK kvs) ∧ ∀ od ws, td δ (mset μ a (.fdK od kvs ws)) fun x μ1 => x = .ref a ∧ μ1 a = some (.fdK od kvs ws) ∧ ∀ D, μ1 D = none →
  vLoopK vs g tt te δ D a (.fdK od kvs ws) (kvs.map fun kv => kD kv.1) (mset μ1 D (.lst [])) fun acc μ2 => Q (.lst acc) (mset (mdel μ2 D) a (.dK kvs))
theorem we_compK {elt tg iter : Expr} {ifs : List Expr} {scope : Scope} {own : List (Str × Nat)} {td : DE} {g : DG} {tt : DT} {te : DE} (hN : S.N.Nodup) (hi : WE S F iter td) (ok : ∀ i, BlkOk S.N (F i).env.scope scope own)
    (hg : WGv S.blk (blkF F scope) (own.map (·.2)) tg g) (ht : WTs S.blk (blkF F scope) ifs tt) (he : WE S.blk (blkF F scope) elt te) (hs : ∀ env, ∀ x, foldedSetIterable iter env x = pure x := by exact fun _ _ => rfl) (hcold : S.cold = false := by rfl) :
    WE S F (.ListComp elt [⟨tg, iter, ifs, 0⟩] scope pos) (vCompK (own.map (·.2)) td g tt te) :=
  let ⟨ti, i1, i2⟩ := hi; let ⟨tg', g1, g2⟩ := hg; let ⟨t1, b1, b2⟩ := ht; let ⟨t2, c1, c2⟩ := he
  ⟨tLockE (tLc (iKeys ti) tg' t1 t2 (own.map (·.2))), fun i h => pe_lock (pe_lc (h.calm hcold) (h.N ▸ hN) (pi_keys (i1 i h)) (h.N ▸ ok i) (fun s H C cl fp => g1 (i, s, H, C, cl, fp) (h.blk s H scope _ fp)) (fun s H C cl fp => b1 (i, s, H, C, cl, fp) (h.blk s H scope _ fp)) (fun s H C cl fp => c1 (i, s, H, C, cl, fp) (h.blk s H scope _ fp)) (hs _)),
   fun I δ μ σ H hJ SM hS Q Q' q u => by
    obtain ⟨a, kvs, em, q⟩ := q
    obtain ⟨hIa, ws, rp, hv⟩ := SM.mu _ _ em
    refine ⟨a, .dK ws, hv, trivial, fun od => ?_⟩
    have SL : SatM S.K I (mset μ a (.fdK od kvs ws)) (upd H a (.frz od (.dK ws))) := SM.setM (m := .fdK od kvs ws) hIa ⟨rp, upd_same⟩
    refine i2 I δ _ σ _ hJ SL hS _ _ (q od ws) fun I1 x vx μ1 H1 e1 S1 r1 q1 => ?_
    obtain ⟨rfl, em1, q1⟩ := q1
    cases r1
    obtain ⟨hI1, rp1, hv1⟩ := S1.mu _ _ em1
    refine ⟨a, od, rfl, .inl ⟨ws, hv1, fun D hD => ?_⟩⟩
    have hlen : ws.length = (kvs.map fun kv => kD kv.1).length := by rw [List.length_map]; exact rp.len.symm
    refine ⟨fun i m H' => m = ws.length - i ∧ i ≤ ws.length ∧ ∃ I' μ', Same I1 I' ∧ SatM S.K I' μ' H' ∧ vLoopK (own.map (·.2)) g tt te δ D a (.fdK od kvs ws) ((kvs.map fun kv => kD kv.1).drop i) μ' fun acc μ2 => Q (.lst acc) (mset (mdel μ2 D) a (.dK kvs)),
      ⟨ws.length, by simp, Nat.zero_le _, I1, _, Same.refl _, S1.setM (m := .lst []) (S1.ex.free hD) ⟨[], .nil, upd_same⟩, by simpa using q1 D (S1.muNone hD)⟩, ?_⟩
    rintro i m H' ⟨rfl, hle, I', μ', e', S', q'⟩
    by_cases hlt : i < ws.length
    · have hlt' : i < (kvs.map fun kv => kD kv.1).length := by rw [← hlen]; exact hlt
      rw [List.drop_eq_getElem_cons hlt'] at q'
      obtain ⟨ema, q'⟩ := q'
      obtain ⟨_, rpa, hva⟩ := S'.mu _ _ ema
      refine .inr ⟨⟨hva, hlt⟩, fun H2 => ∃ I2 μ2, Same I1 I2 ∧ SatM S.K I2 μ2 H2 ∧ vLoopK (own.map (·.2)) g tt te δ D a (.fdK od kvs ws) ((kvs.map fun kv => kD kv.1).drop (i + 1)) μ2 fun acc μ2 => Q (.lst acc) (mset (mdel μ2 D) a (.dK kvs)),
        fun H2 w => ⟨ws.length - (i + 1), by omega, rfl, hlt, w⟩, fun x H2 hy => ?_⟩
      obtain ⟨rfl, k, v, hk, rfl⟩ := hy
      have hkey : (kvs.map fun kv => kD kv.1)[i] = kD k := by
        have h1 : (ws.map (·.1))[i]? = some k := by rw [List.getElem?_map, hk]; rfl
        rw [rp.keys, List.getElem?_map] at h1
        have h2 : (kvs.map fun kv => kD kv.1)[i]? = some (kD k) := by
          rw [List.getElem?_map]
          cases hz : kvs[i]? with
          | none => rw [hz] at h1; cases h1
          | some p => rw [hz] at h1; cases h1; rfl
        exact (List.getElem?_eq_some_iff.mp h2).2
      rw [hkey] at q'
      have hkr : Rep S.K I' (kD k) (kV k) := by cases k; exact .int _; exact .str _
      have hJ2 := (hJ.trans e1).trans e'
      refine g2 I' _ μ' _ H2 _ _ hJ2 S' ((hS.mono (e1.trans e')).wipe _) hkr _ _ q' fun I3 δ3 σ3 μ3 H3 e3 S3 R3 w3 q3 => ⟨w3.trans wipe_wipe, ?_⟩
      refine b2 I3 δ3 μ3 σ3 H3 (hJ2.trans e3) S3 R3 _ _ q3 fun I4 b μ4 H4 e4 S4 q4 => ?_
      have e14 := (e'.trans e3).trans e4
      cases b with
      | false =>
        rw [if_neg Bool.false_ne_true] at q4 ⊢
        exact ⟨I4, μ4, e14, S4, q4⟩
      | true =>
        rw [if_pos rfl] at q4 ⊢
        refine c2 I4 δ3 μ4 σ3 H4 ((hJ2.trans e3).trans e4) S4 (R3.mono e4) _ _ q4 fun I5 y vy μ5 H5 e5 S5 r5 q5 => ?_
        obtain ⟨acc, em5, hl, q6⟩ := q5
        obtain ⟨vs', rl, hv5⟩ := S5.memo em5
        refine ⟨vs', hv5, by rw [← rl.length]; exact hl, I5, _, e14.trans e5, S5.setM (m := .lst (acc ++ [y])) (S5.mu _ _ em5).1 ⟨_, rl.append (.cons r5 .nil), upd_same⟩, q6⟩
    · have e : i = ws.length := by omega
      subst e
      rw [hlen, List.drop_length] at q'
      obtain ⟨ema, acc, emD, q6⟩ := q'
      obtain ⟨hIa', rpa, hva⟩ := S'.mu _ _ ema
      refine .inl ⟨⟨hva, Nat.le_refl _⟩, hva, ?_⟩
      obtain ⟨vs', rl, s1, s2⟩ := S'.freeze emD
      have hne : a ≠ D := fun e => by rw [e, emD] at ema; cases ema
      have ema2 : (mdel μ' D) a = some (.fdK od kvs ws) := by rw [mdel_ne hne]; exact ema
      obtain ⟨hI3, rp3, hv3⟩ := s2.mu _ _ ema2
      have S4 := s2.setM (o := .dK ws) (m := .dK kvs) hI3 ⟨_, rp3, upd_same⟩
      exact u _ _ _ _ _ ((e1.trans e').trans s1) S4 (.lst upd_same (rl.mono s1 _ _)) q6⟩
/-! ## y = [..], y read by a comprehension further down -/
theorem sw_cell {elt : Expr} {gs : List Comprehension} {scope : Scope} {pos py : Pos} {y : Str} {l : Nat} {env : Env} (h : List.lookup y env.scope.names = some NameKind.cell) : swapsWith (elt.ListComp gs scope pos) (some (Expr.Name y py)) l env = pure false := by
  unfold swapsWith
  have e : (env.kindOf y == some NameKind.local) = false := by
    show (List.lookup y env.scope.names == some NameKind.local) = false
    rw [h]; rfl
  simp only [e, Bool.and_false, Bool.false_and]
theorem ws_setCell (i : Nat) {x : Str} {elt : Expr} {gs : List Comprehension} {scope : Scope} {p2 : Pos} {t : DE} {pos' : Pos} (he : WE S F (.ListComp elt gs scope p2) t) (hN : S.N.Nodup) (hc : ∀ j, (F j).env.scope.names.lookup x = some .cell := by exact fun _ => rfl) (hi : S.N[i]? = some x := by rfl) (hx : ∀ j, Loc (F j).env.scope x := by first | exact fun _ => .inl rfl | exact fun _ => .inr rfl)
    (hf : ∀ j, (F j).fn x = true ∨ (F j).env.scope.names.lookup x = some .local := by first | exact fun _ => .inl rfl | exact fun _ => .inr rfl) :
    WS S F (.Assign [.Name x pos'] (.ListComp elt gs scope p2) pos) (sAsg t (dName i)) :=
  let ⟨a, a1, a2⟩ := he
  ⟨_, fun j hj => ps_set (hj.N ▸ hN) (hj.N ▸ hi) (hx j) (a1 j hj) (sw_cell (hc j)) (hf j), fun I δ μ σ H hJ SM hS D D' q u => a2 I δ μ σ H hJ SM hS _ _ q fun I1 d v μ1 H1 e1 S1 r1 q1 => u.nx I1 _ _ μ1 H1 e1 S1 ((hS.mono e1).set i r1) q1⟩
end
end Wl

set_option Elab.async false
set_option linter.all false
set_option maxRecDepth 100000
set_option maxHeartbeats 2000000
namespace Wl
open PySem L2
open PySem.Spec PyProof.Rows
section
variable {S : Sg} {ι : Type} {F : ι → Cx} {pos : Pos}
/-! ## sum of a list of ints -/
def gSum : DC := fun ds μ Q => match ds with
  | [.lst xs] => ∃ ns : List Int, xs = ns.map Dv.int ∧ Q (.int ns.sum) μ
  | _ => False
theorem wc_sum (hcold : S.cold = false := by rfl) : WC S (.builtin "sum") gSum := by
  refine ⟨_, fun X hX => hX.K ▸ cr_sum (hX.calm hcold), ?_⟩
  intro I μ H _ SM ds vs r Q Q' q u
  rcases r with _ | ⟨r1, _ | ⟨r2, r3⟩⟩
  · exact q.elim
  · cases r1 <;> first | exact False.elim q | skip
    rename_i h1 h2
    obtain ⟨ns, rfl, q⟩ := q
    have e := rep_ints h2
    subst e
    exact ⟨_, ns, rfl, .inl (.inl (SM.ex _ _ h1)), u I _ _ μ H (Same.refl I) SM (.int _) q⟩
  · cases r1 <;> exact q.elim
/-! ## l.index(x) -/
def rIdxP (K : PySem.W.Frag) : V → List V → Hp → VK → Prop := fun x xs H Q => ∃ (a : Addr) (y : V) (d : PyData) (ds : List PyData) (j : Nat), x = V.ref a ∧ xs = [y] ∧ Dp K H (V.ref a) (.list ds) ∧ Dp K H y d ∧
  PyData.plainAll ds = true ∧ d.plain = true ∧ min (PyData.depthAll ds) d.depth ≤ 60 ∧ SeqAt.dataPlace ds d = some j ∧ j < 1000000 ∧ Q (.int (j : Nat)) H
theorem mt_indexP {X : Cx} (hu : X.A.units + 64 < cLine) : MtR X "list.index" (rIdxP X.K) := by
  intro pins s σ H x xs v us Q I rx rxs h
  obtain ⟨a, y, d, ds, j, rfl, rfl, hl, hy, sl, sd, hz, hp, hj6, q⟩ := h
  cases rxs with
  | cons ry rt =>
    cases rt
    obtain ⟨bs, r1⟩ := Dp.reads I d y _ hy ry
    obtain ⟨as, r2⟩ := Dp.reads I (.list ds) _ _ hl rx
    cases rx
    cases r2 with
    | @list _ o vs n _ as ho hc hd hr =>
      obtain ⟨cls, dd, data, sls⟩ := o
      simp only at hc hd
      subst hc hd
      obtain ⟨hj, h1, h2⟩ := SeqAt.hit_at hr sl hp
      exact call_meets PySem.F.slot_list_index ⟨_, ho, rfl⟩ PySem.F.entry_list_index (PySem.F.args_list_index_2 _ _)
        (SeqAt.list_indexAt a vs n dd sls _ (fun u => PyData.eqv (SeqAt.readOf s.heap u) d) j hj (by omega) h1 h2)
        ⟨ho, SeqAt.items_plain hr r1 sl sd (by omega), ⟨.int (j : Nat), H, I.tok _, ⟨_, rfl⟩, q⟩⟩
def gIdx : DM := fun x ds μ Q => match x, ds with
  | .ref a, [y] => ∃ (ys : List Dv) (j : Nat), μ a = some (.lst ys) ∧ inOk y ys ∧ j < 1000000 ∧ (ys.findIdx? fun z => dEq z y) = some j ∧ Q (.int (j : Int)) μ
  | _, _ => False
theorem find_pds (d : PyData) : ∀ ys : List Dv, ((Dv.pds ys).findIdx? fun z => PyData.eqv z d) = ys.findIdx? fun z => PyData.eqv z.pd d
  | [] => rfl
  | y :: ys => by simp only [Dv.pds, List.findIdx?_cons, find_pds d ys]
theorem wm_index : WM S "list.index" gIdx := by
  refine ⟨rIdxP S.K, fun X hX => hX.K ▸ mt_indexP hX.units, ?_⟩
  intro I μ H _ SM dx x ds vs rx r Q Q' q u
  cases rx <;> first | exact False.elim q | skip
  rcases r with _ | ⟨r1, _ | ⟨r2, r3⟩⟩
  · exact q.elim
  · obtain ⟨ys, j, em, h1, h2, h3, q4⟩ := q
    obtain ⟨ws, rl, hv⟩ := SM.memo em
    exact ⟨_, _, _, Dv.pds ys, j, rfl, rfl, .lst (.inl (.inl hv)) (rl.dp SM.ex _ _ h1.2.1), r1.dp SM.ex _ _ h1.1, Dv.plains ys, Dv.plain _, h1.2.2, (find_pds _ ys).trans h3, h2, u I _ _ μ H (Same.refl I) SM (.int _) q4⟩
  · exact q.elim
theorem we_index {o e : Expr} {so : DE} {t : DA} {apos cpos : Pos} (ho : WE S F o so) (ha : WA S F [e] t)
    (hbase : ∀ env, attributeBase o "index" env (eval o env) = eval o env := by exact fun _ => rfl)
    (hfew : ∀ env, ((backTo cpos (starEach [e] env)).all (fun x => !x.1) && (backToKw cpos (keywordEach [] env)).all (fun x => x.1.isSome)
      && decide ([e].length + ([] : List Keyword).length + (if ([] : List Keyword).isEmpty then 0 else 1) < 30)) = true := by exact fun _ => rfl)
    (hline : (apos.endLine == cpos.line) = true := by rfl) (hs : ∀ env, starEach [e] env = (false, eval e env) :: starEach [] env := by exact fun _ => rfl) :
    WE S F (.Call (.Attribute o "index" apos) [e] [] cpos) (vBM "list" gIdx so t) :=
  we_bm PySem.F.plainAttrs_list PySem.F.slot_list_index PySem.F.type_list_index wm_index ho ha hbase hfew hline hs (fun _ => rfl)
/-! ## one operation, read in one of two ways -/
def gOr (g h : D2) : D2 := fun x y μ Q => g x y μ Q ∨ h x y μ Q
theorem wo_or {f : Value → Value → Sem Value} {g h : D2} (h1 : WO S f g) (h2 : WO S f h) : WO S f (gOr g h) :=
  let ⟨r1, a1, b1⟩ := h1; let ⟨r2, a2, b2⟩ := h2
  ⟨fun x y H Q => r1 x y H Q ∨ r2 x y H Q, fun X hX pins s σ H x y v u Q I rx ry q => q.elim (fun q => a1 X hX pins s σ H x y v u Q I rx ry q) (fun q => a2 X hX pins s σ H x y v u Q I rx ry q),
    fun I μ H hJ SM dx dy x y rx ry Q Q' q u => q.elim (fun q => .inl (b1 I μ H hJ SM dx dy x y rx ry Q Q' q u)) (fun q => .inr (b2 I μ H hJ SM dx dy x y rx ry Q Q' q u))⟩
/-! ## // by a divisor of any length that is asked for -/
def gFdivW : D2 := gI CDivW fun i j => .int (i / j)
theorem wo_fdivW : WO S (binaryOp .FloorDiv) gFdivW := wo_int (fun _ => op_fdivW) fun _ _ _ => .int _
end
end Wl

set_option Elab.async false
set_option linter.all false
set_option maxRecDepth 100000
set_option maxHeartbeats 2000000
/-! zip walked with a plain name: the tuple that was given out last may have gone, or not -/
namespace PySem
section
variable {prog : Program} {w : World} {A : Around} {E : Value → Shared → Prop} {s : Shared}
abbrev ZHeld (h : Heap) (z TI TO T : Addr) (f : Bool) : Prop := IsZipHeld h z TI TO T f
abbrev ZAt (h : Heap) (z TI TO : Addr) (f0 f1 : Value) : Prop := h.get? z = some { cls := .type "zip", dict := none, data := .fields #[f0, f1, .bool false, .ref TI, .ref TO], slots := #[] }
theorem zfree_dead {z TI TO T : Addr} {f : Bool} {Q : Bool → Shared → Prop} (hz : IsZipHeld s.heap z TI TO T f) (hT : s.heap.get? T = none) (h : Q true s) : wpAny (model prog w) A (Builtin.SmallTypes.ownedTupleIsFree (.ref z)) Q E s := by
  unfold Builtin.SmallTypes.ownedTupleIsFree;
  have al : ∀ {P : Option Obj → Shared → Prop}, P none s → wpAny (model prog w) A (loadIfAlive T) P E s := fun {P} q => by
    have q' : P (s.heap.get? T) s := by rw [hT]; exact q
    exact fun _ _ _ => q'
  refine wpAny_bind (wpAny_field hz rfl (x := rawInt T) rfl ?_); show wpAny _ _ (loadIfAlive ((T : Int).toNat) >>= _) _ _ _
  rw [Int.toNat_natCast]; refine wpAny_bind (al ?_)
  simp only [Option.isNone_none, if_true];
  exact wpAny_pure h
/-- the pair that the zip keeps for itself is written, a new one is given out -/
theorem znext_dead {z TI TO T i1 i2 l1 l2 : Addr} {f : Bool} {k1 k2 : Nat} {xs ys : Array Value} {x y a b : Value} {Q : Value → Shared → Prop} (D : ZipApart z TI TO i1 i2 l1 l2)
    (hz : IsZipHeld s.heap z TI TO T f) (hT : s.heap.get? T = none) (tI : IsPair s.heap TI (.ref i1) (.ref i2)) (tO : IsPair s.heap TO a b)
    (h1 : s.heap.IsListIter i1 l1 k1) (h2 : s.heap.IsListIter i2 l2 k2) (m1 : s.heap.IsList l1 xs) (m2 : s.heap.IsList l2 ys) (hx : xs[k1]? = some x) (hy : ys[k2]? = some y)
    (hQ : ∀ h', IsZipHeld h' z TI TO s.heap.objs.size false → IsPair h' TO x y → h'.IsListIter i1 l1 (k1 + 1) → h'.IsListIter i2 l2 (k2 + 1) → IsPair h' s.heap.objs.size x y → h'.objs.size = s.heap.objs.size + 1 → (∀ c o, c ≠ z → c ≠ TO → c ≠ i1 → c ≠ i2 → s.heap.get? c = some o → h'.get? c = some o) → Q (.ref s.heap.objs.size) { s with heap := h' }) :
    wpAny (model prog w) A (Builtin.«zip.__next__» ⟨[.ref z], []⟩) (fun fi s' => ∃ v, fi = .done (.ret v) ∧ Q v s') E s := by
  show wpAny _ _ (field (.ref z) 2 >>= _) _ _ _; refine wpAny_bind (wpAny_field hz rfl (x := .bool false) rfl ?_); show wpAny _ _ (field (.ref z) 3 >>= _) _ _ _
  refine wpAny_bind (wpAny_field hz rfl (x := .ref TI) rfl (wpAny_bind (wpAny_seqItems tI rfl ?_))); show wpAny _ _ (Builtin.SmallTypes.ownedTupleIsFree (.ref z) >>= _) _ _ _
  refine wpAny_bind (zfree_dead hz hT ?_); simp only [if_true]; refine wpAny_bind (wpAny_rule (wpAny_bind (wpAny_field hz rfl (x := .ref TO) rfl (wpAny_bind (wpAny_setField_rec hz (by simp) fun g1 z1 s1 => wpAny_bind ?_)))))
  have z1' : ZAt g1 z TI TO .ellipsis (.bool f) := z1
  simp only [List.zipIdx_cons, List.zipIdx_nil, List.forIn_cons, List.forIn_nil]; refine wpAny_bind (wpAny_bind (wpAny_onRaise ?_)); show wpAny _ _ (Builtin.SmallTypes.nextOf (.ref i1) >>= _) _ _ _
  refine wpAny_bind (wpAny_nextOf_list_item (h1.extBut s1.extBut D.i1z) (m1.extBut s1.extBut D.l1z) hx fun g2 j2 s2 => wpAny_pure ?_)
  have p2 : IsPair g2 TO a b := s2.extBut _ _ D.TOi1 (s1.extBut _ _ D.TOz tO)
  refine wpAny_bind (wpAny_seqItems p2 rfl (wpAny_bind (wpAny_updateSeq_pair p2 fun g3 p3 s3 => wpAny_bind (wpAny_letGo (wpAny_pure ?_)))))
  have p3' : IsPair g3 TO x b := p3
  refine wpAny_bind (wpAny_bind (wpAny_onRaise ?_)); show wpAny _ _ (Builtin.SmallTypes.nextOf (.ref i2) >>= _) _ _ _
  refine wpAny_bind (wpAny_nextOf_list_item (((h2.extBut s1.extBut D.i2z).extBut s2.extBut D.i12.symm).extBut s3.extBut D.TOi2.symm) (((m2.extBut s1.extBut D.l2z).extBut s2.extBut D.l2i1).extBut s3.extBut D.l2TO) hy fun g4 j4 s4 => wpAny_pure ?_)
  have p4 : IsPair g4 TO x b := s4.extBut _ _ D.TOi2 p3'
  refine wpAny_bind (wpAny_seqItems p4 rfl (wpAny_bind (wpAny_updateSeq_pair p4 fun g5 p5 s5 => wpAny_bind (wpAny_letGo (wpAny_pure (wpAny_pure ?_))))))
  have p5' : IsPair g5 TO x y := p5
  refine wpAny_bind (wpAny_seqItems p5' rfl (wpAny_bind (wpAny_newTuple ?_)))
  have es : g5.objs.size = s.heap.objs.size := by rw [s5.1, s4.1, s3.1, s2.1, s1.1]
  have z5 : ZAt g5 z TI TO .ellipsis (.bool f) := s5.extBut _ _ D.TOz.symm (s4.extBut _ _ D.i2z.symm (s3.extBut _ _ D.TOz.symm (s2.extBut _ _ D.i1z.symm z1')))
  have kp : ∀ c o, c ≠ z → c ≠ TO → c ≠ i1 → c ≠ i2 → s.heap.get? c = some o → g5.get? c = some o := fun c o c1 c2 c3 c4 e => s5.extBut _ _ c2 (s4.extBut _ _ c4 (s3.extBut _ _ c2 (s2.extBut _ _ c3 (s1.extBut _ _ c1 e))))
  have j1 : g5.IsListIter i1 l1 (k1 + 1) := ((j2.extBut s3.extBut D.TOi1.symm).extBut s4.extBut D.i12).extBut s5.extBut D.TOi1.symm
  have j5 : g5.IsListIter i2 l2 (k2 + 1) := j4.extBut s5.extBut D.TOi2.symm
  have zl : z < g5.objs.size := Heap.lt_size z5
  show wpAny _ _ (Builtin.SmallTypes.ownedTupleHandOut (.ref z) (.ref g5.objs.size) >>= _) _ _ _; refine wpAny_bind ?_
  unfold Builtin.SmallTypes.ownedTupleHandOut;
  have z6 : ZAt (g5.push { cls := .type "tuple", data := .seq #[x, y] }) z TI TO .ellipsis (.bool f) := Heap.get?_push_of_some _ z5
  refine wpAny_bind (wpAny_setField_rec z6 (by simp) fun g7 z7 s7 => ?_)
  have z7' : ZAt g7 z TI TO (rawInt g5.objs.size) (.bool f) := z7
  refine wpAny_setField_rec z7' (by simp) fun g8 z8 s8 => ?_
  have z8' : ZAt g8 z TI TO (rawInt g5.objs.size) (.bool false) := z8
  have up : ∀ c o, c ≠ z → g5.get? c = some o → g8.get? c = some o := fun c o c1 e => s8.extBut _ _ c1 (s7.extBut _ _ c1 (Heap.get?_push_of_some _ e))
  have pn : IsPair g8 g5.objs.size x y := s8.extBut _ _ (Nat.ne_of_gt zl) (s7.extBut _ _ (Nat.ne_of_gt zl) (Heap.get?_push_size _ rfl))
  have sz : g8.objs.size = g5.objs.size + 1 := by rw [s8.1, s7.1, Heap.size_push]
  rw [es] at z8' pn sz; refine wpAny_pure ⟨_, rfl, ?_⟩
  show Q (.ref g5.objs.size) _; rw [es]
  exact hQ g8 z8' (up _ _ D.TOz p5') (j1.at fun o e => up _ o D.i1z e) (j5.at fun o e => up _ o D.i2z e) pn sz fun c o c1 c2 c3 c4 e => up c o c1 (kp c o c1 c2 c3 c4 e)
theorem zend_dead {z TI TO T i1 i2 l1 l2 : Addr} {f : Bool} {k1 k2 : Nat} {xs ys : Array Value} {a b : Value} {Q : Fin → Shared → Prop} (hh : A.handled = none) (D : ZipApart z TI TO i1 i2 l1 l2)
    (hz : IsZipHeld s.heap z TI TO T f) (hT : s.heap.get? T = none) (tI : IsPair s.heap TI (.ref i1) (.ref i2)) (tO : IsPair s.heap TO a b)
    (h1 : s.heap.IsListIter i1 l1 k1) (h2 : s.heap.IsListIter i2 l2 k2) (m1 : s.heap.IsList l1 xs) (m2 : s.heap.IsList l2 ys) (fin2 : xs[k1]? = none ∨ ys[k2]? = none)
    (no : ∀ h' e, (∀ c o, c ≠ z → c ≠ TO → c ≠ i1 → c ≠ i2 → s.heap.get? c = some o → h'.get? c = some o) → (∃ o, h'.get? e = some o ∧ o.cls = .type "StopIteration") → E (.ref e) { s with heap := h' }) :
    wpAny (model prog w) A ((Builtin.«zip.__next__» ⟨[.ref z], []⟩)) Q E s := by
  show wpAny _ _ (field (.ref z) 2 >>= _) _ _ _; refine wpAny_bind (wpAny_field hz rfl (x := .bool false) rfl ?_); show wpAny _ _ (field (.ref z) 3 >>= _) _ _ _
  refine wpAny_bind (wpAny_field hz rfl (x := .ref TI) rfl (wpAny_bind (wpAny_seqItems tI rfl ?_))); show wpAny _ _ (Builtin.SmallTypes.ownedTupleIsFree (.ref z) >>= _) _ _ _
  refine wpAny_bind (zfree_dead hz hT ?_); simp only [if_true]; refine wpAny_bind (wpAny_rule (wpAny_bind (wpAny_field hz rfl (x := .ref TO) rfl (wpAny_bind (wpAny_setField_rec hz (by simp) fun g1 z1 s1 => wpAny_bind ?_)))))
  have z1' : ZAt g1 z TI TO .ellipsis (.bool f) := z1
  simp only [List.zipIdx_cons, List.zipIdx_nil, List.forIn_cons, List.forIn_nil]; refine wpAny_bind (wpAny_bind (wpAny_onRaise ?_)); show wpAny _ _ (Builtin.SmallTypes.nextOf (.ref i1) >>= _) _ _ _
  cases hx : xs[k1]? with
  | none =>
    refine wpAny_bind (wpAny_nextOf_list_end hh (h1.extBut s1.extBut D.i1z) (m1.extBut s1.extBut D.l1z) hx fun g2 e s2 he => ?_); obtain ⟨oe, e1, e2⟩ := he
    have z2 : ZAt g2 z TI TO .ellipsis (.bool f) := s2 _ _ D.i1z.symm z1'
    have ez : e ≠ z := fun q => by subst q; rw [z2] at e1; cases e1; simp at e2
    exact wpAny_setField_rec z2 (by simp) fun g3 _ s3 => no g3 e (fun c o c1 _ c3 _ q => s3.extBut _ _ c1 (s2 _ _ c3 (s1.extBut _ _ c1 q))) ⟨oe, s3.extBut _ _ ez e1, e2⟩
  | some x =>
    have hy : ys[k2]? = none := fin2.resolve_left (by rw [hx]; exact fun q => nomatch q)
    refine wpAny_bind (wpAny_nextOf_list_item (h1.extBut s1.extBut D.i1z) (m1.extBut s1.extBut D.l1z) hx fun g2 j2 s2 => wpAny_pure ?_)
    have p2 : IsPair g2 TO a b := s2.extBut _ _ D.TOi1 (s1.extBut _ _ D.TOz tO)
    refine wpAny_bind (wpAny_seqItems p2 rfl (wpAny_bind (wpAny_updateSeq_pair p2 fun g3 p3 s3 => wpAny_bind (wpAny_letGo (wpAny_pure ?_)))))
    refine wpAny_bind (wpAny_bind (wpAny_onRaise ?_)); show wpAny _ _ (Builtin.SmallTypes.nextOf (.ref i2) >>= _) _ _ _
    refine wpAny_bind (wpAny_nextOf_list_end hh (((h2.extBut s1.extBut D.i2z).extBut s2.extBut D.i12.symm).extBut s3.extBut D.TOi2.symm) (((m2.extBut s1.extBut D.l2z).extBut s2.extBut D.l2i1).extBut s3.extBut D.l2TO) hy fun g4 e s4 he => ?_)
    obtain ⟨oe, e1, e2⟩ := he
    have z4 : ZAt g4 z TI TO .ellipsis (.bool f) := s4 _ _ D.i2z.symm (s3.extBut _ _ D.TOz.symm (s2.extBut _ _ D.i1z.symm z1'))
    have ez : e ≠ z := fun q => by subst q; rw [z4] at e1; cases e1; simp at e2
    exact wpAny_setField_rec z4 (by simp) fun g5 _ s5 => no g5 e (fun c o c1 c2 c3 c4 q => s5.extBut _ _ c1 (s4 _ _ c4 (s3.extBut _ _ c2 (s2.extBut _ _ c3 (s1.extBut _ _ c1 q))))) ⟨oe, s5.extBut _ _ ez e1, e2⟩
theorem znext_item {z TI TO T i1 i2 l1 l2 : Addr} {f : Bool} {k1 k2 : Nat} {xs ys : Array Value} {x y a b : Value} {Q : Option Value → Shared → Prop} (D : ZipApart z TI TO i1 i2 l1 l2)
    (hz : IsZipHeld s.heap z TI TO T f) (tI : IsPair s.heap TI (.ref i1) (.ref i2)) (tO : IsPair s.heap TO a b)
    (h1 : s.heap.IsListIter i1 l1 k1) (h2 : s.heap.IsListIter i2 l2 k2) (m1 : s.heap.IsList l1 xs) (m2 : s.heap.IsList l2 ys) (hx : xs[k1]? = some x) (hy : ys[k2]? = some y)
    (hQ : ∀ h', (∃ T f, IsZipHeld h' z TI TO T f) → (∃ a b, IsPair h' TO a b) → h'.IsListIter i1 l1 (k1 + 1) → h'.IsListIter i2 l2 (k2 + 1) → IsPair h' s.heap.objs.size x y → h'.objs.size = s.heap.objs.size + 1 → (∀ c o, c ≠ z → c ≠ TO → c ≠ i1 → c ≠ i2 → s.heap.get? c = some o → h'.get? c = some o) → Q (some (.ref s.heap.objs.size)) { s with heap := h' }) :
    wpAny (model prog w) A ((pyNext (.ref z))) Q E s := by
  cases hT : s.heap.get? T with
  | some oT =>
    exact wpAny_pyNext_zip_item_held D hz hT tI h1 h2 m1 m2 hx hy fun h' a1 a3 a4 a5 a6 a7 => hQ h' ⟨T, true, a1⟩ ⟨a, b, a7 _ _ D.TOz D.TOi1 D.TOi2 tO⟩ a3 a4 a5 a6 fun c o c1 _ c3 c4 e => a7 c o c1 c3 c4 e
  | none =>
    have ty : s.TypeIs (.ref z) "zip" := ⟨_, hz, rfl⟩
    unfold pyNext
    exact wpAny_bind (wpAny_attempt (wpAny_callSpecial?_slot (name := Str.ofString "__next__") ty F.slot_zip_next (wpAny_call_entry F.slot_zip_next ty F.entry_zip_next (znext_dead D hz hT tI tO h1 h2 m1 m2 hx hy fun h' a1 a2 a3 a4 a5 a6 a7 => wpAny_pure (hQ h' ⟨_, _, a1⟩ ⟨_, _, a2⟩ a3 a4 a5 a6 a7)) (F.args_zip_next_1 _))))
theorem znext_end {z TI TO T i1 i2 l1 l2 : Addr} {f : Bool} {k1 k2 : Nat} {xs ys : Array Value} {a b : Value} {Q : Option Value → Shared → Prop} (hh : A.handled = none) (D : ZipApart z TI TO i1 i2 l1 l2)
    (hz : IsZipHeld s.heap z TI TO T f) (tI : IsPair s.heap TI (.ref i1) (.ref i2)) (tO : IsPair s.heap TO a b)
    (h1 : s.heap.IsListIter i1 l1 k1) (h2 : s.heap.IsListIter i2 l2 k2) (m1 : s.heap.IsList l1 xs) (m2 : s.heap.IsList l2 ys) (fin2 : xs[k1]? = none ∨ ys[k2]? = none)
    (kq : ∀ h', (∀ c o, c ≠ z → c ≠ TO → c ≠ i1 → c ≠ i2 → s.heap.get? c = some o → h'.get? c = some o) → Q none { s with heap := h' }) : wpAny (model prog w) A (pyNext (.ref z)) Q E s := by
  cases hT : s.heap.get? T with
  | some oT => exact wpAny_pyNext_zip_end_held hh D hz hT tI h1 h2 m1 m2 fin2 fun h' k => kq h' fun c o c1 _ c3 c4 e => k c o c1 c3 c4 e
  | none =>
    have ty : s.TypeIs (.ref z) "zip" := ⟨_, hz, rfl⟩
    unfold pyNext
    refine wpAny_bind (wpAny_attempt (wpAny_callSpecial?_slot (name := Str.ofString "__next__") ty F.slot_zip_next (wpAny_call_entry F.slot_zip_next ty F.entry_zip_next (zend_dead hh D hz hT tI tO h1 h2 m1 m2 fin2 fun h' e hk he => ?_) (F.args_zip_next_1 _))))
    obtain ⟨o, ho, hc⟩ := he
    exact wpAny_bind (wpAny_isInstance (T := "StopIteration") (b := true) ⟨o, ho, hc⟩ isSubtype_stop (wpAny_pure (kq _ hk)))
end
end PySem

set_option Elab.async false
set_option linter.all false
set_option maxRecDepth 100000
set_option maxHeartbeats 2000000
namespace L2
open PySem PySem.Spec PyProof.Rows
/-! ## zip by a plain name -/
theorem turn_zipN {P : Program} {w : World} {K : PySem.W.Frag} {nx : Str} {tpos : Pos} {a b z TI TO i1 i2 : Addr} (D : ZipApart z TI TO i1 i2 a b) :
    Turn P w K (.Name nx tpos) (Itz K a b) [z, TI, TO, i1, i2] z (fun i h => (IsZip h z TI TO .none ∨ ∃ T f, IsZipHeld h z TI TO T f) ∧ IsPair h TI (.ref i1) (.ref i2) ∧ (∃ x y, IsPair h TO x y) ∧ h.IsListIter i1 a i ∧ h.IsListIter i2 b i) where
  mem := by simp
  obj := fun i h st c hc => by
    obtain ⟨hz, tI, ⟨x, y, tO⟩, ⟨o1, e1, _, d1⟩, ⟨o2, e2, _, d2⟩⟩ := st
    have ec : c = z ∨ c = TI ∨ c = TO ∨ c = i1 ∨ c = i2 := by simpa using hc
    rcases ec with q | q | q | q | q <;> subst q
    · rcases hz with hz | ⟨T, f, hz⟩ <;> exact ⟨_, hz, fun v q => nomatch q⟩
    · exact ⟨_, tI, fun v q => nomatch q⟩
    · exact ⟨_, tO, fun v q => nomatch q⟩
    · exact ⟨o1, e1, fun v q => by rw [d1] at q; cases q⟩
    · exact ⟨o2, e2, fun v q => by rw [d2] at q; cases q⟩
  keep := fun i h h' st k => by
    obtain ⟨hz, tI, ⟨x, y, tO⟩, h1, h2⟩ := st
    refine ⟨?_, k TI (by simp) _ tI, ⟨x, y, k TO (by simp) _ tO⟩, h1.at fun o q => k i1 (by simp) o q, h2.at fun o q => k i2 (by simp) o q⟩
    rcases hz with hz | ⟨T, f, hz⟩
    · exact .inl (k z (by simp) _ hz)
    · exact .inr ⟨T, f, k z (by simp) _ hz⟩
  item := by
    intro X eP ew eK hc i pins s σ H E I hf st hg
    subst eP ew eK
    obtain ⟨hz, tI, ⟨x0, y0, tO⟩, h1, h2⟩ := st
    obtain ⟨xs, ys, x, y, lx, ly, hx, hy⟩ := hg
    obtain ⟨as1, ra, p, _⟩ := I.list lx
    obtain ⟨as2, rb, p2, _⟩ := I.list ly
    obtain ⟨u, uh, ru⟩ := ra.get hx
    obtain ⟨u2, uh2, ru2⟩ := rb.get hy
    have fin : ∀ h', (∃ T f, IsZipHeld h' z TI TO T f) → (∃ a b, IsPair h' TO a b) → h'.IsListIter i1 a (i + 1) → h'.IsListIter i2 b (i + 1) → IsPair h' s.heap.objs.size u u2 → h'.objs.size = s.heap.objs.size + 1 → (∀ c o, c ≠ z → c ≠ TO → c ≠ i1 → c ≠ i2 → s.heap.get? c = some o → h'.get? c = some o) →
        ∃ v, some (Value.ref s.heap.objs.size) = some v ∧ wpAny (model X.prog X.w) X.A (letOwnedTupleGo (.Name nx tpos) (.ref z) v) (fun _ s2 => ∃ x H', Inv X pins σ H' s2 ∧ RelV x v ∧ (Itz X.K a b).yld i H x H' ∧ ((IsZip s2.heap z TI TO .none ∨ ∃ T f, IsZipHeld s2.heap z TI TO T f) ∧ IsPair s2.heap TI (.ref i1) (.ref i2) ∧ (∃ x y, IsPair s2.heap TO x y) ∧ s2.heap.IsListIter i1 a (i + 1) ∧ s2.heap.IsListIter i2 b (i + 1)) ∧ ∀ b ∈ [z, TI, TO, i1, i2], H' b = none) E { s with heap := h' } :=
      fun h' q1 q2 q3 q4 q5 q6 q7 => by
        refine ⟨_, rfl, wpAny_pure ?_⟩
        have new : ObjOk X.prog X.w (upd H s.heap.objs.size (.tup [x, y])) h' s.heap.objs.size (.tup [x, y]) := ⟨by show 2 ≤ sizeLine; decide, [u, u2], .cons ru (.cons ru2 .nil), ⟨_, q5, rfl, _, rfl⟩⟩
        have I1 : Inv X pins σ (upd H s.heap.objs.size (.tup [x, y])) { s with heap := h' } :=
          I.turnedNew (t' := s.toks) (ch := [z, TI, TO, i1, i2]) (fun c o hb q => q7 c o (fun e => hb (by simp [e])) (fun e => hb (by simp [e])) (fun e => hb (by simp [e])) (fun e => hb (by simp [e])) q) hf (Nat.le_refl _) new
        refine ⟨.ref s.heap.objs.size, _, I1, rfl, ⟨_, x, y, rfl, I.hok.fresh (Nat.le_refl _), rfl, fun l hl => by rw [I.list_inj hl lx]; exact hx, fun l hl => by rw [I.list_inj hl ly]; exact hy⟩, ⟨.inr q1, q7 _ _ D.TIz D.TITO D.TIi1 D.TIi2 tI, q2, q3, q4⟩, fun c hmc => ?_⟩
        have hlt : c < s.heap.objs.size := by
          have ec : c = z ∨ c = TI ∨ c = TO ∨ c = i1 ∨ c = i2 := by simpa using hmc
          rcases ec with q | q | q | q | q <;> subst q
          · rcases hz with hz | ⟨T, f, hz⟩ <;> exact Heap.lt_size hz
          · exact Heap.lt_size tI
          · exact Heap.lt_size tO
          · obtain ⟨_, e1, _⟩ := h1; exact Heap.lt_size e1
          · obtain ⟨_, e2, _⟩ := h2; exact Heap.lt_size e2
        rw [L2.upd_ne (Nat.ne_of_lt hlt)]
        exact (hf c hmc).1
    rcases hz with hz | ⟨T, f, hz⟩
    · exact wpAny_pyNext_zip_item D hz tI tO h1 h2 p.isList p2.isList (x := u) (y := u2) (by simpa using uh) (by simpa using uh2) fun h' q1 q2 q3 q4 q5 q6 q7 => fin h' ⟨_, _, q1⟩ ⟨_, _, q2⟩ q3 q4 q5 q6 q7
    · exact znext_item D hz tI tO h1 h2 p.isList p2.isList (x := u) (y := u2) (by simpa using uh) (by simpa using uh2) fin
  done := by
    intro X eP ew eK hc i pins s σ H E I hf st hg
    subst eP ew eK
    obtain ⟨hz, tI, ⟨x0, y0, tO⟩, h1, h2⟩ := st
    obtain ⟨xs, ys, lx, ly, fin2⟩ := hg
    obtain ⟨as1, ra, p, _⟩ := I.list lx
    obtain ⟨as2, rb, p2, _⟩ := I.list ly
    have l1 := ra.length
    have l2 := rb.length
    have he : as1.toArray[i]? = none ∨ as2.toArray[i]? = none := fin2.imp (fun q => by simp; omega) (fun q => by simp; omega)
    have fin : ∀ h', (∀ c o, c ≠ z → c ≠ TO → c ≠ i1 → c ≠ i2 → s.heap.get? c = some o → h'.get? c = some o) → (none : Option Value) = none ∧ Inv X pins σ H { s with heap := h' } :=
      fun h' hk => ⟨rfl, I.turnedL (t' := s.toks) (ch := [z, TI, TO, i1, i2]) (fun c o hb q => hk c o (fun e => hb (by simp [e])) (fun e => hb (by simp [e])) (fun e => hb (by simp [e])) (fun e => hb (by simp [e])) q) hf⟩
    rcases hz with hz | ⟨T, f, hz⟩
    · exact wpAny_pyNext_zip_end (I.ok.hd hc) D hz tI tO h1 h2 p.isList p2.isList he fin
    · exact znext_end (I.ok.hd hc) D hz tI tO h1 h2 p.isList p2.isList he fin
  self := fun B i s Q E st h => by
    have go : s.TypeIs (.ref z) "zip" := by
      rcases st.1 with hz | ⟨T, f, hz⟩
      · exact ⟨_, hz, rfl⟩
      · exact ⟨_, hz, rfl⟩
    exact wpAny_pyIter_slot go F.slot_zip_iter (wpAny_call_entry F.slot_zip_iter go F.entry_zip_iter (show wpAny _ _ (ret (.ref z)) _ _ s from wpAny_pure ⟨_, rfl, "zip", _, go, F.slot_zip_next.lookup, h⟩) (F.args_zip_iter_1 _))
theorem pi_zipN {X : Cx} {e e2 : Expr} {ta : TA} {p pos tpos : Pos} {nx : Str} (hg : Gl X "zip") (hm : X.mg "zip" = none) (ha : PA X [e, e2] ta)
    (st1 : starEach [e, e2] X.env = (false, eval e X.env) :: starEach [e2] X.env := by rfl) (hpl : (backTo pos (starEach [e2] X.env)).any (·.1) = false := by rfl) :
    PI X (.Name nx tpos) (.Call (.Name "zip" p) [e, e2] [] pos) (iZip X.K ta) := by
  refine ⟨fun pins s σ H R I h => Call_ (ld_blt I hg hm PyProof.Rows.boot_zip (PyProof.Rows.callWith_type1 (thn (ha.run pos pins s σ H _ I h) fun us s1 ⟨vs, H1, I1, r1, q1⟩ => ?_) st1 hpl))⟩
  obtain ⟨a, b, xs, ys, ex, lx, ly, q⟩ := q1
  subst ex
  cases r1 with
  | cons r rr =>
    cases rr with
    | cons r' rr =>
      cases rr
      cases r
      cases r'
      obtain ⟨as1, ra, p1, _⟩ := I1.list lx
      obtain ⟨as2, rb, p2, _⟩ := I1.list ly
      refine call_zip_2 p1.isList p2.isList fun h' hz tI tO h1 h2 hsz hk => wpAny_pyIter_zip hz ?_
      have J2 : Inv X pins σ H1 { s1 with heap := h' } := I1.kept (t' := s1.toks) hk
      refine ⟨_, [s1.heap.objs.size + 4, s1.heap.objs.size + 2, s1.heap.objs.size + 3, s1.heap.objs.size, s1.heap.objs.size + 1], _, _, H1, rfl, J2, turn_zipN (PySem.W.ktu_apart s1.heap.objs.size a b p1.lt p2.lt), ⟨.inl hz, tI, ⟨_, _, tO⟩, h1, h2⟩, fun c hmc => ?_, q⟩
      have le : s1.heap.objs.size ≤ c := by
        simp only [List.mem_cons, List.not_mem_nil, or_false] at hmc
        rcases hmc with q | q | q | q | q <;> rw [q] <;> omega
      exact I1.fpOk le (I1.hok.fresh le)
end L2

set_option Elab.async false
set_option linter.all false
set_option maxRecDepth 100000
set_option maxHeartbeats 2000000
namespace Wl
open PySem L2
open PySem.Spec PyProof.Rows
/-! ## walks under a guard: what is walked may change, but must stand at each turn as it stood -/
structure ItG (K : PySem.W.Frag) (J : It) (I : Hp) (ds : List Dv) (G : Mu → Prop) : Prop where
  go : ∀ i μ I' H, Same I I' → SatM K I' μ H → G μ → i < ds.length → J.go i H
  stop : ∀ μ I' H, Same I I' → SatM K I' μ H → G μ → J.stop ds.length H
  yld : ∀ i μ I' H x H' d, Same I I' → SatM K I' μ H → G μ → ds[i]? = some d → J.yld i H x H' → ∃ I'', Same I' I'' ∧ SatM K I'' μ H' ∧ Rep K I'' d x
abbrev DIG := DSt → Mu → (List Dv → (Mu → Prop) → Mu → Prop) → Prop
def RIG (S : Sg) (wi : TI) (t : DIG) : Prop := ∀ I δ μ σ H, Same S.J I → SatM S.K I μ H → RepS S.K I δ σ → ∀ (Q : List Dv → (Mu → Prop) → Mu → Prop) (Q' : It → Hp → Prop), t δ μ Q →
  (∀ I' ds G μ' H' J, Same I I' → SatM S.K I' μ' H' → ItG S.K J I' ds G → Q ds G μ' → Q' J H') → wi σ H Q'
def WIG (S : Sg) {ι : Type} (F : ι → Cx) (tg e : Expr) (t : DIG) : Prop := ∃ te, (∀ i, Is S (F i) → PI (F i) tg e te) ∧ RIG S te t
/-- a list or a tuple, fixed or not -/
def wAny (t : DE) : DIG := fun δ μ Q => t δ μ fun x μ1 => match x with
  | .tup xs => Q xs (fun _ => True) μ1
  | .rot xs => Q xs (fun _ => True) μ1
  | .lst xs => Q xs (fun _ => True) μ1
  | .rol xs => Q xs (fun _ => True) μ1
  | .ref a => ∃ xs, μ1 a = some (.lst xs) ∧ Q xs (fun μ => μ a = some (.lst xs)) μ1
  | _ => False
theorem ItOk.g {K : PySem.W.Frag} {J : It} {I : Hp} {ds : List Dv} (h : ItOk K J I ds) : ItG K J I ds (fun _ => True) :=
  ⟨fun i μ I' H e S _ hi => h.go i μ I' H e S hi, fun μ I' H e S _ => h.stop μ I' H e S, fun i μ I' H x H' d e S _ hd hy => h.yld i μ I' H x H' d e S hd hy⟩
theorem itg_ref {K : PySem.W.Frag} {I : Hp} {a : Addr} {xs : List Dv} : ItG K (Itl K a) I xs (fun μ => μ a = some (.lst xs)) := by
  refine ⟨fun i μ I' H e SM g hi => ?_, fun μ I' H e SM g => ?_, fun i μ I' H x H' d e SM g hd hy => ?_⟩
  · obtain ⟨vs, r, h⟩ := SM.memo g
    exact ⟨vs, vs[i]'(r.length ▸ hi), .inl (.inl h), by simp⟩
  · obtain ⟨vs, r, h⟩ := SM.memo g
    exact ⟨vs, .inl (.inl h), by rw [r.length]; exact Nat.le_refl _⟩
  · obtain ⟨vs, r, h⟩ := SM.memo g
    obtain ⟨rfl, hy⟩ := hy
    obtain ⟨v, h1, h2⟩ := r.get hd
    have h3 := hy vs (.inl (.inl h))
    rw [h1] at h3
    cases h3
    exact ⟨I', Same.refl _, SM, h2⟩
section
variable {S : Sg} {ι : Type} {F : ι → Cx} {pos : Pos}
theorem wi_any {tg e : Expr} {t : DE} (he : WE S F e t) : WIG S F tg e (wAny t) :=
  let ⟨ta, a1, a2⟩ := he
  ⟨iSeq S.K ta, fun i hi => hi.K ▸ pi_seq (a1 i hi), fun I δ μ σ H hJ SM hS Q Q' q u => a2 I δ μ σ H hJ SM hS _ _ q fun I1 x vx μ1 H1 e1 S1 r1 q1 => by
    cases r1 <;> first | exact False.elim q1 | skip
    · obtain ⟨xs, em, q2⟩ := q1
      obtain ⟨vs, r, h⟩ := S1.memo em
      exact ⟨_, rfl, .inl ⟨⟨_, .inl (.inl h)⟩, u I1 _ _ μ1 H1 _ e1 S1 itg_ref q2⟩⟩
    · rename_i h1 h2; exact ⟨_, rfl, .inr ⟨⟨_, .inl (.inl (S1.ex _ _ h1))⟩, u I1 _ _ μ1 H1 _ e1 S1 (itt_ok (.inl (.inl h1)) h2).g q1⟩⟩
    · rename_i h1 h2; exact ⟨_, rfl, .inr ⟨⟨_, same_t S1.ex h1⟩, u I1 _ _ μ1 H1 _ e1 S1 (itt_ok h1 h2).g q1⟩⟩
    · rename_i h1 h2; exact ⟨_, rfl, .inl ⟨⟨_, .inl (.inl (S1.ex _ _ h1))⟩, u I1 _ _ μ1 H1 _ e1 S1 (itl_ok (.inl (.inl h1)) h2).g q1⟩⟩
    · rename_i h1 h2; exact ⟨_, rfl, .inl ⟨⟨_, same_l S1.ex h1⟩, u I1 _ _ μ1 H1 _ e1 S1 (itl_ok h1 h2).g q1⟩⟩⟩
/-! zip(xs, ys) of two lists -/
def lstAt (μ : Mu) : Dv → (List Dv → (Mu → Prop) → Prop) → Prop
  | .lst xs, Q => Q xs (fun _ => True)
  | .rol xs, Q => Q xs (fun _ => True)
  | .ref a, Q => ∃ xs, μ a = some (.lst xs) ∧ Q xs (fun μ => μ a = some (.lst xs))
  | _, _ => False
def pairsD : List Dv → List Dv → List Dv
  | x :: xs, y :: ys => .tup [x, y] :: pairsD xs ys
  | _, _ => []
theorem pairsD_get : ∀ {xs ys : List Dv} {i : Nat} {d : Dv}, (pairsD xs ys)[i]? = some d → ∃ x y, xs[i]? = some x ∧ ys[i]? = some y ∧ d = .tup [x, y]
  | x :: xs, y :: ys, 0, d, e => ⟨x, y, rfl, rfl, by simp [pairsD] at e; exact e.symm⟩
  | x :: xs, y :: ys, i + 1, d, e => by
    obtain ⟨a, b, h1, h2, h3⟩ := pairsD_get (xs := xs) (ys := ys) (i := i) (d := d) (by simpa [pairsD] using e)
    exact ⟨a, b, by simpa using h1, by simpa using h2, h3⟩
  | [], ys, i, d, e => by simp [pairsD] at e
  | x :: xs, [], i, d, e => by simp [pairsD] at e
theorem pairsD_len : ∀ (xs ys : List Dv), (pairsD xs ys).length = min xs.length ys.length
  | [], ys => by simp [pairsD]
  | x :: xs, [] => by simp [pairsD]
  | x :: xs, y :: ys => by simp [pairsD, pairsD_len xs ys]
def wZip (t : DA) : DIG := fun δ μ Q => t δ μ fun xs μ1 => match xs with
  | [x, y] => lstAt μ1 x fun as g => lstAt μ1 y fun bs h => Q (pairsD as bs) (fun μ => g μ ∧ h μ) μ1
  | _ => False
structure LstIs (K : PySem.W.Frag) (I : Hp) (a : Addr) (xs : List Dv) (G : Mu → Prop) : Prop where
  at_ : ∀ μ I' H, Same I I' → SatM K I' μ H → G μ → ∃ vs, SqL K H a vs ∧ RepL K I' xs vs
theorem lstAt_ok {K : PySem.W.Frag} {I H : Hp} {μ : Mu} {x : Dv} {v : V} {Q : List Dv → (Mu → Prop) → Prop} (S : SatM K I μ H) (r : Rep K I x v) (q : lstAt μ x Q) : ∃ a xs G, v = .ref a ∧ LstIs K I a xs G ∧ G μ ∧ Q xs G := by
  cases r <;> first | exact False.elim q | skip
  · obtain ⟨xs, em, q⟩ := q
    exact ⟨_, xs, _, rfl, ⟨fun μ' I' H' e' S' g => by obtain ⟨vs, r, h⟩ := S'.memo g; exact ⟨vs, .inl (.inl h), r⟩⟩, em, q⟩
  · rename_i h1 h2
    exact ⟨_, _, _, rfl, ⟨fun μ' I' H' e' S' _ => ⟨_, .inl (.inl (S'.ex _ _ (e' _ _ h1))), h2.mono e' _ _⟩⟩, trivial, q⟩
  · rename_i h1 h2
    exact ⟨_, _, _, rfl, ⟨fun μ' I' H' e' S' _ => ⟨_, same_l S'.ex (same_l e' h1), h2.mono e' _ _⟩⟩, trivial, q⟩
theorem itz_ok {K : PySem.W.Frag} {I : Hp} {a b : Addr} {xs ys : List Dv} {g h : Mu → Prop} (la : LstIs K I a xs g) (lb : LstIs K I b ys h) : ItG K (Itz K a b) I (pairsD xs ys) (fun μ => g μ ∧ h μ) := by
  refine ⟨fun i μ I' H e SM G hi => ?_, fun μ I' H e SM G => ?_, fun i μ I' H x H' d e SM G hd hy => ?_⟩
  · obtain ⟨vs, s1, r1⟩ := la.at_ μ I' H e SM G.1
    obtain ⟨us, s2, r2⟩ := lb.at_ μ I' H e SM G.2
    rw [pairsD_len, r1.length, r2.length] at hi
    exact ⟨vs, us, vs[i]'(by omega), us[i]'(by omega), s1, s2, by simp, by simp⟩
  · obtain ⟨vs, s1, r1⟩ := la.at_ μ I' H e SM G.1
    obtain ⟨us, s2, r2⟩ := lb.at_ μ I' H e SM G.2
    refine ⟨vs, us, s1, s2, ?_⟩
    rw [pairsD_len, r1.length, r2.length]
    omega
  · obtain ⟨vs, s1, r1⟩ := la.at_ μ I' H e SM G.1
    obtain ⟨us, s2, r2⟩ := lb.at_ μ I' H e SM G.2
    obtain ⟨dx, dy, h1, h2, rfl⟩ := pairsD_get hd
    obtain ⟨T, x', y', rfl, hT, rfl, k1, k2⟩ := hy
    obtain ⟨v, e1, q1⟩ := r1.get h1
    obtain ⟨u, e2, q2⟩ := r2.get h2
    have z1 := k1 vs s1
    have z2 := k2 us s2
    rw [e1] at z1
    rw [e2] at z2
    cases z1
    cases z2
    obtain ⟨s3, s4⟩ := SM.newI hT (.tup [x', y'])
    exact ⟨_, s3, s4, .tup upd_same (.cons (q1.mono s3 _ _) (.cons (q2.mono s3 _ _) .nil))⟩
theorem wi_zipN {nx : Str} {tpos p : Pos} {a b : Expr} {t : DA} (hm : S.mg "zip" = none) (ha : WA S F [a, b] t) (hg : ∀ j, Gl (F j) "zip" := by exact fun _ => rfl) (hs : ∀ env, starEach [a, b] env = (false, eval a env) :: starEach [b] env := by exact fun _ => rfl) (hp : ∀ env, (backTo pos (starEach [b] env)).any (·.1) = false := by exact fun _ => rfl) :
    WIG S F (.Name nx tpos) (.Call (.Name "zip" p) [a, b] [] pos) (wZip t) :=
  let ⟨ta, a1, a2⟩ := ha
  ⟨iZip S.K ta, fun i hi => hi.K ▸ pi_zipN (hg i) (hi.mg ▸ hm) (a1 i hi) (hs _) (hp _), fun I δ μ σ H hJ SM hS Q Q' q u => a2 I δ μ σ H hJ SM hS _ _ q fun I1 ds vs μ1 H1 e1 S1 r1 q1 => by
    cases r1 with
    | nil => exact q1.elim
    | cons r1 r2 =>
      cases r2 with
      | nil => exact q1.elim
      | cons r2 r3 =>
        cases r3 with
        | cons _ _ => exact q1.elim
        | nil =>
          obtain ⟨aa, xs, g, rfl, la, ga, q2⟩ := lstAt_ok S1 r1 q1
          obtain ⟨bb, ys, h, rfl, lb, gb, q3⟩ := lstAt_ok S1 r2 q2
          obtain ⟨vs, s1, _⟩ := la.at_ μ1 I1 H1 (Same.refl _) S1 ga
          obtain ⟨us, s2, _⟩ := lb.at_ μ1 I1 H1 (Same.refl _) S1 gb
          exact ⟨aa, bb, vs, us, rfl, s1, s2, u I1 _ _ μ1 H1 _ e1 S1 (itz_ok la lb) q3⟩⟩
/-! for x in .. -/
def sLoopG (G : Mu → Prop) (g : DG) (tb : DS) : List Dv → DEnds → DSt → Mu → Prop
  | [], D, δ, μ => G μ ∧ D.nx δ μ
  | d :: ds, D, δ, μ => G μ ∧ g d δ μ fun δ1 μ1 => tb { nx := sLoopG G g tb ds D, ct := sLoopG G g tb ds D, bk := D.nx, rt := D.rt } δ1 μ1
def sForG (wi : DIG) (g : DG) (tb : DS) : DS := fun D δ μ => wi δ μ fun ds G μ1 => sLoopG G g tb ds D δ μ1
theorem ws_forG {tg iter : Expr} {body : List Stmt} {wi : DIG} {g : DG} {tb : DS} (hi : WIG S F tg iter wi) (hg : WG S F tg g) (hb : WSs S F body tb) (hs : ∀ env, ∀ x, foldedSetIterable iter env x = pure x := by exact fun _ _ => rfl) (hcold : S.cold = false := by rfl) :
    WS S F (.For tg iter body [] pos) (sForG wi g tb) :=
  let ⟨ti, i1, i2⟩ := hi; let ⟨tg', g1, g2⟩ := hg; let ⟨tb', b1, b2⟩ := hb
  ⟨_, fun i h => ps_for h.own (h.calm hcold) (i1 i h) (g1 i h) (b1 i h) (hs _), fun I δ μ σ H hJ SM hS D D' q u => i2 I δ μ σ H hJ SM hS _ _ q fun I1 ds G μ1 H1 J e1 S1 ok q1 => by
    refine ⟨fun i m σ' H' => m = ds.length - i ∧ i ≤ ds.length ∧ ∃ I' δ' μ', Same I1 I' ∧ SatM S.K I' μ' H' ∧ RepS S.K I' δ' σ' ∧ sLoopG G g tb (ds.drop i) D δ' μ', ⟨ds.length, by simp, Nat.zero_le _, I1, δ, μ1, Same.refl _, S1, hS.mono e1, by simpa using q1⟩, ?_⟩
    rintro i m σ' H' ⟨rfl, hle, I', δ', μ', e', S', R', q'⟩
    by_cases hlt : i < ds.length
    · rw [List.drop_eq_getElem_cons hlt] at q'
      obtain ⟨hG, q'⟩ := q'
      refine .inr ⟨ok.go i μ' I' H' e' S' hG hlt, fun σ2 H2 => ∃ I2 δ2 μ2, Same I1 I2 ∧ SatM S.K I2 μ2 H2 ∧ RepS S.K I2 δ2 σ2 ∧ sLoopG G g tb (ds.drop (i + 1)) D δ2 μ2, fun σ2 H2 w => ⟨ds.length - (i + 1), by omega, rfl, hlt, w⟩, fun x H2 hy => ?_⟩
      obtain ⟨I2, e2, S2, r2⟩ := ok.yld i μ' I' H' x H2 ds[i] e' S' hG (by simp [hlt]) hy
      refine g2 I2 δ' μ' σ' H2 _ _ ((hJ.trans e1).trans (e'.trans e2)) S2 (R'.mono e2) r2 _ _ q' fun I3 δ3 σ3 μ3 H3 e3 S3 R3 q3 => ?_
      have e13 := (e'.trans e2).trans e3
      exact b2 I3 δ3 μ3 σ3 H3 ((hJ.trans e1).trans e13) S3 R3 _ _ q3 ⟨fun I4 δ4 σ4 μ4 H4 e4 S4 R4 q4 => ⟨I4, δ4, μ4, e13.trans e4, S4, R4, q4⟩, u.rt.mono (e1.trans e13), u.nx.mono (e1.trans e13), fun I4 δ4 σ4 μ4 H4 e4 S4 R4 q4 => ⟨I4, δ4, μ4, e13.trans e4, S4, R4, q4⟩⟩
    · obtain rfl : i = ds.length := by omega
      rw [List.drop_length] at q'
      exact .inl ⟨ok.stop μ' I' H' e' S' q'.1, u.nx I' δ' σ' μ' H' (e1.trans e') S' R' q'.2⟩⟩
/-! [.. for x in ..] -/
def vLoopG (G : Mu → Prop) (vs : List Nat) (g : DG) (tt : DT) (te : DE) (δ : DSt) (D : Addr) : List Dv → Mu → (List Dv → Mu → Prop) → Prop
  | [], μ, Q => G μ ∧ ∃ acc, μ D = some (.lst acc) ∧ Q acc μ
  | d :: ds, μ, Q => G μ ∧ g d (dwipe δ vs) μ fun δ1 μ1 => tt δ1 μ1 fun b μ2 => if b = true then te δ1 μ2 fun y μ3 => ∃ acc, μ3 D = some (.lst acc) ∧ acc.length < sizeLine ∧ vLoopG G vs g tt te δ D ds (mset μ3 D (.lst (acc ++ [y]))) Q else vLoopG G vs g tt te δ D ds μ2 Q
def vCompG (vs : List Nat) (wi : DIG) (g : DG) (tt : DT) (te : DE) : DE := fun δ μ Q => wi δ μ fun ds G μ1 => ∀ D, μ1 D = none → vLoopG G vs g tt te δ D ds (mset μ1 D (.lst [])) fun acc μ2 => Q (.lst acc) (mdel μ2 D)
def vCompGM (vs : List Nat) (wi : DIG) (g : DG) (tt : DT) (te : DE) : DE := fun δ μ Q => wi δ μ fun ds G μ1 => ∀ D, μ1 D = none → vLoopG G vs g tt te δ D ds (mset μ1 D (.lst [])) fun _ μ2 => Q (.ref D) μ2
theorem re_compG0 {vs : List Nat} {ti : TI} {wi : DIG} {tg : TG} {g : DG} {t1 : TT} {tt : DT} {t2 : TE} {te : DE} (i2 : RIG S ti wi) (g2 : RGv S.blk vs tg g) (b2 : RT S.blk t1 tt) (c2 : RE S.blk t2 te) (P : Addr → List Dv → Mu → Prop) :
    ∀ I δ μ σ H, Same S.J I → SatM S.K I μ H → RepS S.K I δ σ → ∀ (Q' : VK), (wi δ μ fun ds G μ1 => ∀ D, μ1 D = none → vLoopG G vs g tt te δ D ds (mset μ1 D (.lst [])) (P D)) →
      (∀ I' D acc μ' H', Same I I' → SatM S.K I' μ' H' → μ' D = some (.lst acc) → P D acc μ' → Q' (.ref D) H') → tLc ti tg t1 t2 vs σ H Q' :=
  fun I δ μ σ H hJ SM hS Q' q u => i2 I δ μ σ H hJ SM hS _ _ q fun I1 ds G μ1 H1 J e1 S1 ok q1 D hD => by
    refine ⟨fun i m H' => m = ds.length - i ∧ i ≤ ds.length ∧ ∃ I' μ', Same I1 I' ∧ SatM S.K I' μ' H' ∧ vLoopG G vs g tt te δ D (ds.drop i) μ' (P D),
      ⟨ds.length, by simp, Nat.zero_le _, I1, _, Same.refl _, S1.setM (m := .lst []) (S1.ex.free hD) ⟨[], .nil, upd_same⟩, by simpa using q1 D (S1.muNone hD)⟩, ?_⟩
    rintro i m H' ⟨rfl, hle, I', μ', e', S', q'⟩
    by_cases hlt : i < ds.length
    · rw [List.drop_eq_getElem_cons hlt] at q'
      obtain ⟨hG, q'⟩ := q'
      refine .inr ⟨ok.go i μ' I' H' e' S' hG hlt, fun H2 => ∃ I2 μ2, Same I1 I2 ∧ SatM S.K I2 μ2 H2 ∧ vLoopG G vs g tt te δ D (ds.drop (i + 1)) μ2 (P D),
        fun H2 w => ⟨ds.length - (i + 1), by omega, rfl, hlt, w⟩, fun x H2 hy => ?_⟩
      obtain ⟨I2, e2, S2, r2⟩ := ok.yld i μ' I' H' x H2 ds[i] e' S' hG (by simp [hlt]) hy
      have hJ2 := (hJ.trans e1).trans (e'.trans e2)
      refine g2 I2 _ μ' _ H2 _ _ hJ2 S2 ((hS.mono (e1.trans (e'.trans e2))).wipe vs) r2 _ _ q' fun I3 δ3 σ3 μ3 H3 e3 S3 R3 w3 q3 => ⟨w3.trans wipe_wipe, ?_⟩
      refine b2 I3 δ3 μ3 σ3 H3 (hJ2.trans e3) S3 R3 _ _ q3 fun I4 b μ4 H4 e4 S4 q4 => ?_
      have e14 := ((e'.trans e2).trans e3).trans e4
      cases b with
      | false =>
        rw [if_neg Bool.false_ne_true] at q4 ⊢
        exact ⟨I4, μ4, e14, S4, q4⟩
      | true =>
        rw [if_pos rfl] at q4 ⊢
        refine c2 I4 δ3 μ4 σ3 H4 ((hJ2.trans e3).trans e4) S4 (R3.mono e4) _ _ q4 fun I5 y vy μ5 H5 e5 S5 r5 q5 => ?_
        obtain ⟨acc, em, hl, q6⟩ := q5
        obtain ⟨vs', rl, hv⟩ := S5.memo em
        exact ⟨vs', hv, by rw [← rl.length]; exact hl, I5, _, e14.trans e5, S5.setM (m := .lst (acc ++ [y])) (S5.mu _ _ em).1 ⟨_, rl.append (.cons r5 .nil), upd_same⟩, q6⟩
    · obtain rfl : i = ds.length := by omega
      rw [List.drop_length] at q'
      obtain ⟨hG, acc, em, q6⟩ := q'
      exact .inl ⟨ok.stop μ' I' H' e' S' hG, u I' D acc μ' H' (e1.trans e') S' em q6⟩
theorem we_compG {elt tg iter : Expr} {ifs : List Expr} {scope : Scope} {own : List (Str × Nat)} {wi : DIG} {g : DG} {tt : DT} {te : DE} (hN : S.N.Nodup) (hi : WIG S F tg iter wi) (ok : ∀ i, BlkOk S.N (F i).env.scope scope own)
    (hg : WGv S.blk (blkF F scope) (own.map (·.2)) tg g) (ht : WTs S.blk (blkF F scope) ifs tt) (he : WE S.blk (blkF F scope) elt te) (hs : ∀ env, ∀ x, foldedSetIterable iter env x = pure x := by exact fun _ _ => rfl) (hcold : S.cold = false := by rfl) :
    WE S F (.ListComp elt [⟨tg, iter, ifs, 0⟩] scope pos) (vCompG (own.map (·.2)) wi g tt te) :=
  let ⟨ti, i1, i2⟩ := hi; let ⟨tg', g1, g2⟩ := hg; let ⟨t1, b1, b2⟩ := ht; let ⟨t2, c1, c2⟩ := he
  ⟨_, fun i h => pe_lc (h.calm hcold) (h.N ▸ hN) (i1 i h) (h.N ▸ ok i) (fun s H C cl fp => g1 (i, s, H, C, cl, fp) (h.blk s H scope _ fp)) (fun s H C cl fp => b1 (i, s, H, C, cl, fp) (h.blk s H scope _ fp)) (fun s H C cl fp => c1 (i, s, H, C, cl, fp) (h.blk s H scope _ fp)) (hs _),
   fun I δ μ σ H hJ SM hS Q Q' q u => re_compG0 i2 g2 b2 c2 (fun D acc μ2 => Q (.lst acc) (mdel μ2 D)) I δ μ σ H hJ SM hS Q' q fun I' D acc μ' H' e' S' em q' => by
    obtain ⟨vs', rl, s1, s2⟩ := S'.freeze em
    exact u _ _ _ _ H' (e'.trans s1) s2 (.lst upd_same (rl.mono s1 _ _)) q'⟩
theorem we_compGM {elt tg iter : Expr} {ifs : List Expr} {scope : Scope} {own : List (Str × Nat)} {wi : DIG} {g : DG} {tt : DT} {te : DE} (hN : S.N.Nodup) (hi : WIG S F tg iter wi) (ok : ∀ i, BlkOk S.N (F i).env.scope scope own)
    (hg : WGv S.blk (blkF F scope) (own.map (·.2)) tg g) (ht : WTs S.blk (blkF F scope) ifs tt) (he : WE S.blk (blkF F scope) elt te) (hs : ∀ env, ∀ x, foldedSetIterable iter env x = pure x := by exact fun _ _ => rfl) (hcold : S.cold = false := by rfl) :
    WE S F (.ListComp elt [⟨tg, iter, ifs, 0⟩] scope pos) (vCompGM (own.map (·.2)) wi g tt te) :=
  let ⟨ti, i1, i2⟩ := hi; let ⟨tg', g1, g2⟩ := hg; let ⟨t1, b1, b2⟩ := ht; let ⟨t2, c1, c2⟩ := he
  ⟨_, fun i h => pe_lc (h.calm hcold) (h.N ▸ hN) (i1 i h) (h.N ▸ ok i) (fun s H C cl fp => g1 (i, s, H, C, cl, fp) (h.blk s H scope _ fp)) (fun s H C cl fp => b1 (i, s, H, C, cl, fp) (h.blk s H scope _ fp)) (fun s H C cl fp => c1 (i, s, H, C, cl, fp) (h.blk s H scope _ fp)) (hs _),
   fun I δ μ σ H hJ SM hS Q Q' q u => re_compG0 i2 g2 b2 c2 (fun D _ μ2 => Q (.ref D) μ2) I δ μ σ H hJ SM hS Q' q fun I' D acc μ' H' e' S' em q' => u _ _ _ _ H' e' S' (.ref D) q'⟩
end
end Wl

set_option Elab.async false
set_option linter.all false
set_option maxRecDepth 100000
set_option maxHeartbeats 2000000
namespace Wl
open PySem L2
open PySem.Spec PyProof.Rows
section
variable {S : Sg} {ι : Type} {F : ι → Cx} {pos : Pos}
/-! d.setdefault(k, v) -/
def vSetd (td ty tx : DE) : DE := fun δ μ Q => td δ μ fun x μ1 => match x with
  | .ref a => (match μ1 a with | some (.dK _) => True | _ => False) ∧ ty δ μ1 fun y μ2 => tx δ μ2 fun z μ3 => ∃ kvs k, keyD y = some k ∧ μ3 a = some (.dK kvs) ∧ kvs.length < sizeLine ∧
      (match valD kvs k with | some v => Q v μ3 | none => Q z (mset μ3 a (.dK (putD kvs k z))))
  | _ => False
theorem we_setd {o e f : Expr} {td ty tx : DE} {apos cpos : Pos} (ho : WE S F o td) (he : WE S F e ty) (hf : WE S F f tx) (hm : ∀ j, M2 (F j) o "setdefault" apos e f cpos := by exact fun _ => ⟨rfl, rfl, rfl, rfl⟩) : WE S F (.Call (.Attribute o "setdefault" apos) [e, f] [] cpos) (vSetd td ty tx) :=
  let ⟨ta, a1, a2⟩ := ho; let ⟨tb, b1, b2⟩ := he; let ⟨tc, c1, c2⟩ := hf
  ⟨_, fun i hi => pe_dsetd (a1 i hi) (b1 i hi) (c1 i hi) (hm i), fun I δ μ σ H hJ SM hS Q Q' q u => a2 I δ μ σ H hJ SM hS _ _ q fun I1 x vx μ1 H1 e1 S1 r1 q1 => by
    cases r1 <;> first | exact False.elim q1 | skip
    rename_i a
    have hd : IsD H1 a := by
      have h := q1.1
      cases e : μ1 a with
      | none => simp only [e] at h
      | some m =>
        have hm' := S1.memo e
        cases m with
        | dK kvs => obtain ⟨vs, _, hv⟩ := hm'; exact .inl ⟨vs, .inl hv⟩
        | _ => simp only [e] at h
    refine ⟨a, rfl, hd, b2 I1 δ μ1 σ H1 (hJ.trans e1) S1 (hS.mono e1) _ _ q1.2 fun I2 y vy μ2 H2 e2 S2 r2 q2 => c2 I2 δ μ2 σ H2 ((hJ.trans e1).trans e2) S2 (hS.mono (e1.trans e2)) _ _ q2 fun I3 z vz μ3 H3 e3 S3 r3 q3 => ?_⟩
    obtain ⟨kvs, k, ek, em, hl, q4⟩ := q3
    obtain ⟨hI, vs, rp, hv⟩ := S3.mu _ _ em
    have ev := rep_key (r2.mono e3 _ _) ek
    refine ⟨vs, k, hv, ev, by rw [← rp.len]; exact hl, fun v0 h0 => ?_, fun h0 => ?_⟩
    · rcases rp.val k with ⟨h1, h2⟩ | ⟨d, u', h1, h2, h3⟩
      · rw [h2] at h0; cases h0
      · rw [h2] at h0; cases h0
        simp only [h1] at q4
        exact u I3 _ _ μ3 H3 ((e1.trans e2).trans e3) S3 h3 q4
    · rcases rp.val k with ⟨h1, h2⟩ | ⟨d, u', h1, h2, h3⟩
      · simp only [h1] at q4
        exact u I3 _ _ _ _ ((e1.trans e2).trans e3) (S3.setM (m := .dK (putD kvs k z)) hI ⟨_, rp.put k r3, upd_same⟩) r3 q4
      · rw [h2] at h0; cases h0⟩
/-! list(range(..)) -/
theorem rep_rg {K : PySem.W.Frag} {I : Hp} (a b : Int) : RepL K I (irange a (b - a).toNat) (rgV a b) := by
  have go : ∀ l : List Nat, RepL K I (l.map fun (i : Nat) => Dv.int (a + (i : Int))) (l.map fun i => V.int (a + (i : Nat))) := fun l => by
    induction l with
    | nil => exact .nil
    | cons x l ih => exact .cons (.int _) ih
  exact go _
def vListR (t : DE) : DE := fun δ μ Q => t δ μ fun x μ1 => match x with | .int n => RgOk 0 n ∧ Q (.lst (irange 0 (n - 0).toNat)) μ1 | _ => False
def vListR2 (t t2 : DE) : DE := fun δ μ Q => t δ μ fun x μ1 => t2 δ μ1 fun y μ2 => match x, y with | .int a, .int n => RgOk a n ∧ Q (.lst (irange a (n - a).toNat)) μ2 | _, _ => False
theorem we_listR {e : Expr} {t : DE} {p p2 : Pos} (hl : S.mg "list" = none) (hr : S.mg "range" = none) (he : WE S F e t) (hg : ∀ j, Gl (F j) "list" := by exact fun _ => rfl) (hg2 : ∀ j, Gl (F j) "range" := by exact fun _ => rfl)
    (na : ∀ env, starEach [e] env = (false, eval e env) :: starEach [] env := by exact fun _ => rfl) (nb : ∀ env, starEach [Expr.Call (.Name "range" p2) [e] [] p] env = (false, eval (.Call (.Name "range" p2) [e] [] p) env) :: starEach [] env := by exact fun _ => rfl) {p3 : Pos} (hcold : S.cold = false := by rfl) : WE S F (.Call (.Name "list" p3) [.Call (.Name "range" p2) [e] [] p] [] pos) (vListR t) :=
  let ⟨ta, a1, a2⟩ := he
  ⟨_, fun i hi => pe_listRg (hi.calm hcold) (hg i) (hi.mg ▸ hl) (prg_1 (hg2 i) (hi.mg ▸ hr) (a1 i hi) (na _)) (nb _), fun I δ μ σ H hJ SM hS Q Q' q u => a2 I δ μ σ H hJ SM hS _ _ q fun I1 x vx μ1 H1 e1 S1 r1 q1 => by
    cases r1 <;> first | exact False.elim q1 | skip
    refine ⟨_, rfl, q1.1, fun l hl => ?_⟩
    obtain ⟨s1, s2⟩ := S1.newI hl (.lst (rgV 0 _))
    exact u _ _ _ μ1 _ (e1.trans s1) s2 (.lst upd_same (rep_rg 0 _)) q1.2⟩
theorem we_listR2 {e f : Expr} {t t2 : DE} {p p2 : Pos} (hl : S.mg "list" = none) (hr : S.mg "range" = none) (he : WE S F e t) (hf : WE S F f t2) (hg : ∀ j, Gl (F j) "list" := by exact fun _ => rfl) (hg2 : ∀ j, Gl (F j) "range" := by exact fun _ => rfl)
    (na : ∀ env, starEach [e, f] env = (false, eval e env) :: starEach [f] env := by exact fun _ => rfl) (nc : ∀ env, starEach [f] env = (false, eval f env) :: starEach [] env := by exact fun _ => rfl) (hp : ∀ env, (backTo p (starEach [f] env)).any (·.1) = false := by exact fun _ => rfl)
    (nb : ∀ env, starEach [Expr.Call (.Name "range" p2) [e, f] [] p] env = (false, eval (.Call (.Name "range" p2) [e, f] [] p) env) :: starEach [] env := by exact fun _ => rfl) {p3 : Pos} (hcold : S.cold = false := by rfl) : WE S F (.Call (.Name "list" p3) [.Call (.Name "range" p2) [e, f] [] p] [] pos) (vListR2 t t2) :=
  let ⟨ta, a1, a2⟩ := he; let ⟨tb, b1, b2⟩ := hf
  ⟨_, fun i hi => pe_listRg (hi.calm hcold) (hg i) (hi.mg ▸ hl) (prg_2 (hg2 i) (hi.mg ▸ hr) (a1 i hi) (b1 i hi) (na _) (nc _) (hp _)) (nb _), fun I δ μ σ H hJ SM hS Q Q' q u => a2 I δ μ σ H hJ SM hS _ _ q fun I1 x vx μ1 H1 e1 S1 r1 q1 => b2 I1 δ μ1 σ H1 (hJ.trans e1) S1 (hS.mono e1) _ _ q1 fun I2 y vy μ2 H2 e2 S2 r2 q2 => by
    cases r1 <;> first | exact False.elim q2 | skip
    cases r2 <;> first | exact False.elim q2 | skip
    refine ⟨_, _, rfl, rfl, q2.1, fun l hl => ?_⟩
    obtain ⟨s1, s2⟩ := S2.newI hl (.lst (rgV _ _))
    exact u _ _ _ μ2 _ ((e1.trans e2).trans s1) s2 (.lst upd_same (rep_rg _ _)) q2.2⟩
/-! xs[::-1] -/
theorem RepL.reverse {K : PySem.W.Frag} {I : Hp} : ∀ {ds : List Dv} {vs : List V}, RepL K I ds vs → RepL K I ds.reverse vs.reverse
  | _, _, .nil => .nil
  | _, _, .cons r t => by rw [List.reverse_cons, List.reverse_cons]; exact (RepL.reverse t).append (.cons r .nil)
def vRevL (t : DE) : DE := fun δ μ Q => t δ μ fun x μ1 => lstAt μ1 x fun xs _ => Q (.lst xs.reverse) μ1
theorem we_revL {e : Expr} {t : DE} {k : Nat} {p1 p2 p3 : Pos} (he : WE S F e t) : WE S F (.Subscript e (.Slice none none (some (.UnaryOp .USub (.Constant (.int 1) k p1) p2)) p3) pos) (vRevL t) :=
  let ⟨ta, a1, a2⟩ := he
  ⟨tRevL S.K ta, fun i hi => hi.K ▸ pe_revL (a1 i hi), fun I δ μ σ H hJ SM hS Q Q' q u => a2 I δ μ σ H hJ SM hS _ _ q fun I1 x vx μ1 H1 e1 S1 r1 q1 => by
    obtain ⟨a, xs, g, rfl, la, ga, q2⟩ := lstAt_ok S1 r1 q1
    obtain ⟨vs, s1, rl⟩ := la.at_ μ1 I1 H1 (Same.refl _) S1 ga
    refine ⟨a, vs, rfl, s1, fun l hl => ?_⟩
    obtain ⟨s2, s3⟩ := S1.newI hl (.lst vs.reverse)
    exact u _ _ _ μ1 _ (e1.trans s2) s3 (.lst upd_same (RepL.mono s2 _ _ rl.reverse)) q2⟩
/-! for k in d: d stays -/
def sForK (td : DE) (g : DG) (tb : DS) : DS := fun D δ μ => ∃ a kvs, μ a = some (.dK kvs) ∧ ∀ od ws, td δ (mset μ a (.fdK od kvs ws)) fun x μ1 => x = .ref a ∧ sLoopG (fun μ => μ a = some (.fdK od kvs ws)) g tb (kvs.map fun kv => kD kv.1)
  { nx := fun δ' μ' => μ' a = some (.fdK od kvs ws) ∧ D.nx δ' (mset μ' a (.dK kvs)), rt := fun v μ' => μ' a = some (.fdK od kvs ws) ∧ D.rt v (mset μ' a (.dK kvs)) } δ μ1
theorem ws_forK {tg iter : Expr} {body : List Stmt} {td : DE} {g : DG} {tb : DS} (hi : WE S F iter td) (hg : WG S F tg g) (hb : WSs S F body tb) (hs : ∀ env, ∀ x, foldedSetIterable iter env x = pure x := by exact fun _ _ => rfl) (hcold : S.cold = false := by rfl) :
    WS S F (.For tg iter body [] pos) (sForK td g tb) :=
  let ⟨ti, i1, i2⟩ := hi; let ⟨tg', g1, g2⟩ := hg; let ⟨tb', b1, b2⟩ := hb
  ⟨tLock (tFor (iKeys ti) tg' tb'), fun i h => ps_lock (ps_for h.own (h.calm hcold) (pi_keys (i1 i h)) (g1 i h) (b1 i h) (hs _)), fun I δ μ σ H hJ SM hS D D' q u => by
    obtain ⟨a, kvs, em, q⟩ := q
    obtain ⟨hIa, ws, rp, hv⟩ := SM.mu _ _ em
    refine ⟨a, .dK ws, hv, trivial, fun od => ?_⟩
    have SL : SatM S.K I (mset μ a (.fdK od kvs ws)) (upd H a (.frz od (.dK ws))) := SM.setM (m := .fdK od kvs ws) hIa ⟨rp, upd_same⟩
    have back : ∀ {I' : Hp} {μ' : Mu} {H' : Hp}, SatM S.K I' μ' H' → μ' a = some (.fdK od kvs ws) → H' a = some (.frz od (.dK ws)) ∧ SatM S.K I' (mset μ' a (.dK kvs)) (upd H' a (.dK ws)) := fun {I' μ' H'} S' e => by
      obtain ⟨h1, h2, h3⟩ := S'.mu _ _ e
      exact ⟨h3, S'.setM (o := .dK ws) (m := .dK kvs) h1 ⟨_, h2, upd_same⟩⟩
    refine i2 I δ _ σ _ hJ SL hS _ _ (q od ws) fun I1 x vx μ1 H1 e1 S1 r1 q1 => ?_
    obtain ⟨rfl, q1⟩ := q1
    cases r1
    have e0 : μ1 a = some (.fdK od kvs ws) := by
      cases hk : (kvs.map fun kv => kD kv.1) with
      | nil => rw [hk] at q1; exact q1.1
      | cons d ds => rw [hk] at q1; exact q1.1
    obtain ⟨hI1, rp1, hv1⟩ := S1.mu _ _ e0
    have hlen : ws.length = (kvs.map fun kv => kD kv.1).length := by rw [List.length_map]; exact rp.len.symm
    refine ⟨a, od, rfl, .inl ⟨ws, hv1, ?_⟩⟩
    refine ⟨fun i m σ' H' => m = ws.length - i ∧ i ≤ ws.length ∧ ∃ I' δ' μ', Same I1 I' ∧ SatM S.K I' μ' H' ∧ RepS S.K I' δ' σ' ∧ sLoopG (fun μ => μ a = some (.fdK od kvs ws)) g tb ((kvs.map fun kv => kD kv.1).drop i) { nx := fun δ' μ' => μ' a = some (.fdK od kvs ws) ∧ D.nx δ' (mset μ' a (.dK kvs)), rt := fun v μ' => μ' a = some (.fdK od kvs ws) ∧ D.rt v (mset μ' a (.dK kvs)) } δ' μ', ⟨ws.length, by simp, Nat.zero_le _, I1, δ, μ1, Same.refl _, S1, hS.mono e1, by simpa using q1⟩, ?_⟩
    rintro i m σ' H' ⟨rfl, hle, I', δ', μ', e', S', R', q'⟩
    by_cases hlt : i < ws.length
    · have hlt' : i < (kvs.map fun kv => kD kv.1).length := by rw [← hlen]; exact hlt
      rw [List.drop_eq_getElem_cons hlt'] at q'
      obtain ⟨ema, q'⟩ := q'
      obtain ⟨_, rpa, hva⟩ := S'.mu _ _ ema
      refine .inr ⟨⟨hva, hlt⟩, fun σ2 H2 => ∃ I2 δ2 μ2, Same I1 I2 ∧ SatM S.K I2 μ2 H2 ∧ RepS S.K I2 δ2 σ2 ∧ sLoopG (fun μ => μ a = some (.fdK od kvs ws)) g tb ((kvs.map fun kv => kD kv.1).drop (i + 1)) { nx := fun δ' μ' => μ' a = some (.fdK od kvs ws) ∧ D.nx δ' (mset μ' a (.dK kvs)), rt := fun v μ' => μ' a = some (.fdK od kvs ws) ∧ D.rt v (mset μ' a (.dK kvs)) } δ2 μ2,
        fun σ2 H2 w => ⟨ws.length - (i + 1), by omega, rfl, hlt, w⟩, fun x H2 hy => ?_⟩
      obtain ⟨rfl, k, v, hk, rfl⟩ := hy
      have hkey : (kvs.map fun kv => kD kv.1)[i] = kD k := by
        have h1 : (ws.map (·.1))[i]? = some k := by rw [List.getElem?_map, hk]; rfl
        rw [rp.keys, List.getElem?_map] at h1
        have h2 : (kvs.map fun kv => kD kv.1)[i]? = some (kD k) := by
          rw [List.getElem?_map]
          cases hz : kvs[i]? with
          | none => rw [hz] at h1; cases h1
          | some p => rw [hz] at h1; cases h1; rfl
        exact (List.getElem?_eq_some_iff.mp h2).2
      rw [hkey] at q'
      have hkr : Rep S.K I' (kD k) (kV k) := by cases k; exact .int _; exact .str _
      refine g2 I' δ' μ' σ' H2 _ _ ((hJ.trans e1).trans e') S' R' hkr _ _ q' fun I3 δ3 σ3 μ3 H3 e3 S3 R3 q3 => ?_
      have e13 := e'.trans e3
      refine b2 I3 δ3 μ3 σ3 H3 ((hJ.trans e1).trans e13) S3 R3 _ _ q3 ⟨fun I4 δ4 σ4 μ4 H4 e4 S4 R4 q4 => ⟨I4, δ4, μ4, e13.trans e4, S4, R4, q4⟩, fun I4 d4 v4 μ4 H4 e4 S4 r4 q4 => ?_, fun I4 δ4 σ4 μ4 H4 e4 S4 R4 q4 => ?_, fun I4 δ4 σ4 μ4 H4 e4 S4 R4 q4 => ⟨I4, δ4, μ4, e13.trans e4, S4, R4, q4⟩⟩
      · obtain ⟨b1', b2'⟩ := back S4 q4.1
        exact ⟨b1', u.rt I4 _ _ _ _ ((e1.trans e13).trans e4) b2' r4 q4.2⟩
      · obtain ⟨b1', b2'⟩ := back S4 q4.1
        exact ⟨b1', u.nx I4 _ _ _ _ ((e1.trans e13).trans e4) b2' R4 q4.2⟩
    · obtain rfl : i = ws.length := by omega
      rw [hlen, List.drop_length] at q'
      obtain ⟨ema, ema2, q6⟩ := q'
      obtain ⟨b1', b2'⟩ := back S' ema
      exact .inl ⟨⟨b1', Nat.le_refl _⟩, b1', u.nx I' δ' σ' _ _ (e1.trans e') b2' R' q6⟩⟩
/-! name = [.. for x in ..] under a guard -/
theorem ws_setCompG (i : Nat) {y : Str} {py : Pos} {spos : Pos} {elt tg iter : Expr} {ifs : List Expr} {scope : Scope} {own : List (Str × Nat)} {wi : DIG} {g : DG} {tt : DT} {te : DE} (hN : S.N.Nodup) (hi : WIG S F tg iter wi) (ok : ∀ i, BlkOk S.N (F i).env.scope scope own)
    (hg : WGv S.blk (blkF F scope) (own.map (·.2)) tg g) (ht : WTs S.blk (blkF F scope) ifs tt) (he : WE S.blk (blkF F scope) elt te) (hy : S.N[i]? = some y := by rfl) (hyl : ∀ j, (F j).env.scope.names.lookup y = some .local := by exact fun _ => rfl) (hk : ∀ j, (F j).env.scope.kind = .function := by exact fun _ => rfl)
    (hl : (py.line == pos.line) = true := by rfl) (ha : (scope.names.any fun (n, k) => n == y && (k == .local || k == .cell)) = false := by decide +kernel) (hs : ∀ env, ∀ x, foldedSetIterable iter env x = pure x := by exact fun _ _ => rfl) (hcold : S.cold = false := by rfl) :
    WS S F (.Assign [.Name y py] (.ListComp elt [⟨tg, iter, ifs, 0⟩] scope pos) spos) (sAsg (vCompG (own.map (·.2)) wi g tt te) (dName i)) :=
  let ⟨ti, i1, i2⟩ := hi; let ⟨tg', g1, g2⟩ := hg; let ⟨t1, b1, b2⟩ := ht; let ⟨t2, c1, c2⟩ := he
  ⟨_, fun j h => ps_setLc (h.calm hcold) (h.N ▸ hN) (h.N ▸ hy) (hyl j) (sw_true (hk j) (hyl j) hl ha) (i1 j h) (h.N ▸ ok j) (fun s H C cl fp => g1 (j, s, H, C, cl, fp) (h.blk s H scope _ fp)) (fun s H C cl fp => b1 (j, s, H, C, cl, fp) (h.blk s H scope _ fp)) (fun s H C cl fp => c1 (j, s, H, C, cl, fp) (h.blk s H scope _ fp)) (hs _),
    fun I δ μ σ H hJ SM hS D D' q u => re_compG0 i2 g2 b2 c2 (fun E acc μ2 => D.nx (δ.set i (some (.lst acc))) (mdel μ2 E)) I δ μ σ H hJ SM hS _ q fun I' E acc μ' H' e' S' em q' => by
      obtain ⟨vs', rl, s1, s2⟩ := S'.freeze em
      exact u.nx _ _ _ _ H' (e'.trans s1) s2 ((hS.mono (e'.trans s1)).set i (.lst upd_same (rl.mono s1 _ _))) q'⟩
theorem ws_setCompGM (i : Nat) {y : Str} {py : Pos} {spos : Pos} {elt tg iter : Expr} {ifs : List Expr} {scope : Scope} {own : List (Str × Nat)} {wi : DIG} {g : DG} {tt : DT} {te : DE} (hN : S.N.Nodup) (hi : WIG S F tg iter wi) (ok : ∀ i, BlkOk S.N (F i).env.scope scope own)
    (hg : WGv S.blk (blkF F scope) (own.map (·.2)) tg g) (ht : WTs S.blk (blkF F scope) ifs tt) (he : WE S.blk (blkF F scope) elt te) (hy : S.N[i]? = some y := by rfl) (hyl : ∀ j, (F j).env.scope.names.lookup y = some .local := by exact fun _ => rfl) (hk : ∀ j, (F j).env.scope.kind = .function := by exact fun _ => rfl)
    (hl : (py.line == pos.line) = true := by rfl) (ha : (scope.names.any fun (n, k) => n == y && (k == .local || k == .cell)) = false := by decide +kernel) (hs : ∀ env, ∀ x, foldedSetIterable iter env x = pure x := by exact fun _ _ => rfl) (hcold : S.cold = false := by rfl) :
    WS S F (.Assign [.Name y py] (.ListComp elt [⟨tg, iter, ifs, 0⟩] scope pos) spos) (sAsg (vCompGM (own.map (·.2)) wi g tt te) (dName i)) :=
  let ⟨ti, i1, i2⟩ := hi; let ⟨tg', g1, g2⟩ := hg; let ⟨t1, b1, b2⟩ := ht; let ⟨t2, c1, c2⟩ := he
  ⟨_, fun j h => ps_setLc (h.calm hcold) (h.N ▸ hN) (h.N ▸ hy) (hyl j) (sw_true (hk j) (hyl j) hl ha) (i1 j h) (h.N ▸ ok j) (fun s H C cl fp => g1 (j, s, H, C, cl, fp) (h.blk s H scope _ fp)) (fun s H C cl fp => b1 (j, s, H, C, cl, fp) (h.blk s H scope _ fp)) (fun s H C cl fp => c1 (j, s, H, C, cl, fp) (h.blk s H scope _ fp)) (hs _),
    fun I δ μ σ H hJ SM hS D D' q u => re_compG0 i2 g2 b2 c2 (fun E _ μ2 => D.nx (δ.set i (some (.ref E))) μ2) I δ μ σ H hJ SM hS _ q fun I' E acc μ' H' e' S' em q' => u.nx _ _ _ _ H' e' S' ((hS.mono e').set i (.ref E)) q'⟩
end
end Wl

set_option Elab.async false
set_option linter.all false
set_option maxRecDepth 100000
set_option maxHeartbeats 2000000
namespace Wl
open PySem L2
open PySem.Spec PyProof.Rows
/-- a text in a text -/
def gInX : D2 := fun x y μ Q => match x, y with
  | .str a, .str z => Q (.bl (!(Builtin.Str.occurrences z a 0 z.length 1).isEmpty)) μ
  | _, _ => False
section
variable {S : Sg} {ι : Type} {F : ι → Cx} {pos : Pos}
theorem wo_inX : WO S (compareOp .In) gInX := ⟨_, fun X _ => op_in_str, fun I μ H _ SM dx dy x y rx ry Q Q' q u => by
  cases rx <;> first | exact False.elim q | skip
  cases ry <;> first | exact False.elim q | skip
  exact ⟨_, _, rfl, rfl, u I _ _ μ H (Same.refl I) SM (.bl _) q⟩⟩
/-- a list that stands as it is, fixed or not -/
def plst (μ : Mu) : Dv → Option (List Dv)
  | .lst xs => some xs
  | .ref a => match μ a with | some (.lst xs) => some xs | _ => none
  | _ => none
theorem plst_ok {K : PySem.W.Frag} {I H : Hp} {μ : Mu} {x : Dv} {v : V} {xs : List Dv} (SM : SatM K I μ H) (r : Rep K I x v) (h : plst μ x = some xs) : ∃ a vs, v = .ref a ∧ H a = some (.lst vs) ∧ RepL K I xs vs := by
  cases r <;> first | (cases h; done) | skip
  · rename_i a
    cases em : μ a with
    | none => simp only [plst, em] at h; cases h
    | some m =>
      cases m with
      | lst ys =>
        simp only [plst, em] at h
        cases h
        obtain ⟨vs, r, hv⟩ := SM.memo em
        exact ⟨a, vs, rfl, hv, r⟩
      | _ => simp only [plst, em] at h; cases h
  · rename_i h1 h2
    cases h
    exact ⟨_, _, rfl, SM.ex _ _ h1, h2⟩
def gCatM : D2 := fun x y μ Q => ∃ xs ys, plst μ x = some xs ∧ plst μ y = some ys ∧ xs.length + ys.length ≤ sizeLine ∧ Q (.lst (xs ++ ys)) μ
theorem wo_catM : WO S (binaryOp .Add) gCatM := ⟨_, fun X _ => op_cat, fun I μ H _ SM dx dy x y rx ry Q Q' q u => by
  obtain ⟨xs, ys, h1, h2, hl, q⟩ := q
  obtain ⟨a, vs, rfl, ha, ra⟩ := plst_ok SM rx h1
  obtain ⟨b, us, rfl, hb, rb⟩ := plst_ok SM ry h2
  refine ⟨_, _, _, _, rfl, rfl, ha, hb, by rw [← ra.length, ← rb.length]; exact hl, fun p hp => ?_⟩
  obtain ⟨s1, s2⟩ := SM.newI hp (.lst (vs ++ us))
  exact u _ _ _ μ _ s1 s2 (.lst upd_same (RepL.mono s1 _ _ (ra.append rb))) q⟩
/-- sorted(whole numbers), of a list fixed or not -/
def gSortIM : DC := fun ds μ Q => match ds with
  | [x] => ∃ ns : List Int, plst μ x = some (ns.map Dv.int) ∧ ∀ ns' : List Int, ns'.Perm ns → ns'.Pairwise (· ≤ ·) → Q (.lst (ns'.map Dv.int)) μ
  | _ => False
theorem wc_sortIM : WC S (.builtin "sorted") gSortIM := by
  refine ⟨_, fun X hX => hX.K ▸ cr_sortedI, ?_⟩
  intro I μ H _ SM ds vs r Q Q' q u
  rcases r with _ | ⟨r1, _ | ⟨r2, r3⟩⟩
  · exact q.elim
  · obtain ⟨ns, hp, q⟩ := q
    obtain ⟨a, vs, rfl, ha, ra⟩ := plst_ok SM r1 hp
    have e := rep_ints ra
    subst e
    refine ⟨_, ns, rfl, .inl (.inl ha), fun ns' p hp hs hl => ?_⟩
    obtain ⟨s1, s2⟩ := SM.newI hl (.lst (ns'.map V.int))
    exact u _ _ _ μ _ s1 s2 (.lst upd_same (ints_rep ns')) (q ns' hp hs)
  · exact q.elim
/-! {k: v for x in d}, d a dict that stays -/
def vDLoopK (vs : List Nat) (g : DG) (tt : DT) (tk tv : DE) (δ : DSt) (D a : Addr) (fd : Mo) : List Dv → Mu → (Mu → Prop) → Prop
  | [], μ, Q => μ a = some fd ∧ (∃ kvs, μ D = some (.dK kvs)) ∧ Q μ
  | d :: ds, μ, Q => μ a = some fd ∧ g d (dwipe δ vs) μ fun δ1 μ1 => tt δ1 μ1 fun b μ2 => if b = true then tk δ1 μ2 fun y μ3 => tv δ1 μ3 fun z μ4 => ∃ kvs k, keyD y = some k ∧ μ4 D = some (.dK kvs) ∧ kvs.length < sizeLine ∧ vDLoopK vs g tt tk tv δ D a fd ds (mset μ4 D (.dK (putD kvs k z))) Q
      else vDLoopK vs g tt tk tv δ D a fd ds μ2 Q
def vDcK (vs : List Nat) (td : DE) (g : DG) (tt : DT) (tk tv : DE) : DE := fun δ μ Q => ∃ a kvs, μ a = some (.dK kvs) ∧ ∀ od ws, td δ (mset μ a (.fdK od kvs ws)) fun x μ1 => x = .ref a ∧ μ1 a = some (.fdK od kvs ws) ∧ ∀ D, μ1 D = none →
  vDLoopK vs g tt tk tv δ D a (.fdK od kvs ws) (kvs.map fun kv => kD kv.1) (mset μ1 D (.dK [])) fun μ2 => Q (.ref D) (mset μ2 a (.dK kvs))
theorem we_dcompK {kx vx tg iter : Expr} {ifs : List Expr} {scope : Scope} {own : List (Str × Nat)} {td : DE} {g : DG} {tt : DT} {tk tv : DE} (hN : S.N.Nodup) (hi : WE S F iter td) (ok : ∀ i, BlkOk S.N (F i).env.scope scope own)
    (hg : WGv S.blk (blkF F scope) (own.map (·.2)) tg g) (ht : WTs S.blk (blkF F scope) ifs tt) (hk : WE S.blk (blkF F scope) kx tk) (hv : WE S.blk (blkF F scope) vx tv) (hs : ∀ env, ∀ x, foldedSetIterable iter env x = pure x := by exact fun _ _ => rfl) (hcold : S.cold = false := by rfl) :
    WE S F (.DictComp kx vx [⟨tg, iter, ifs, 0⟩] scope pos) (vDcK (own.map (·.2)) td g tt tk tv) :=
  let ⟨ti, i1, i2⟩ := hi; let ⟨tg', g1, g2⟩ := hg; let ⟨t1, b1, b2⟩ := ht; let ⟨t2, c1, c2⟩ := hk; let ⟨t3, d1, d2⟩ := hv
  ⟨tLockE (tDc (iKeys ti) tg' t1 t2 t3 (own.map (·.2))), fun i h => pe_lock (pe_dc (h.calm hcold) (h.N ▸ hN) (pi_keys (i1 i h)) (h.N ▸ ok i) (fun s H C cl fp => g1 (i, s, H, C, cl, fp) (h.blk s H scope _ fp)) (fun s H C cl fp => b1 (i, s, H, C, cl, fp) (h.blk s H scope _ fp)) (fun s H C cl fp => c1 (i, s, H, C, cl, fp) (h.blk s H scope _ fp)) (fun s H C cl fp => d1 (i, s, H, C, cl, fp) (h.blk s H scope _ fp)) (hs _)),
   fun I δ μ σ H hJ SM hS Q Q' q u => by
    obtain ⟨a, kvs, em, q⟩ := q
    obtain ⟨hIa, ws, rp, hv⟩ := SM.mu _ _ em
    refine ⟨a, .dK ws, hv, trivial, fun od => ?_⟩
    have SL : SatM S.K I (mset μ a (.fdK od kvs ws)) (upd H a (.frz od (.dK ws))) := SM.setM (m := .fdK od kvs ws) hIa ⟨rp, upd_same⟩
    refine i2 I δ _ σ _ hJ SL hS _ _ (q od ws) fun I1 x vx μ1 H1 e1 S1 r1 q1 => ?_
    obtain ⟨rfl, em1, q1⟩ := q1
    cases r1
    obtain ⟨hI1, rp1, hv1⟩ := S1.mu _ _ em1
    refine ⟨a, od, rfl, .inl ⟨ws, hv1, fun D hD => ?_⟩⟩
    have hlen : ws.length = (kvs.map fun kv => kD kv.1).length := by rw [List.length_map]; exact rp.len.symm
    refine ⟨fun i m H' => m = ws.length - i ∧ i ≤ ws.length ∧ ∃ I' μ', Same I1 I' ∧ SatM S.K I' μ' H' ∧ vDLoopK (own.map (·.2)) g tt tk tv δ D a (.fdK od kvs ws) ((kvs.map fun kv => kD kv.1).drop i) μ' fun μ2 => Q (.ref D) (mset μ2 a (.dK kvs)),
      ⟨ws.length, by simp, Nat.zero_le _, I1, _, Same.refl _, S1.setM (m := .dK []) (S1.ex.free hD) ⟨[], .nil, upd_same⟩, by simpa using q1 D (S1.muNone hD)⟩, ?_⟩
    rintro i m H' ⟨rfl, hle, I', μ', e', S', q'⟩
    by_cases hlt : i < ws.length
    · have hlt' : i < (kvs.map fun kv => kD kv.1).length := by rw [← hlen]; exact hlt
      rw [List.drop_eq_getElem_cons hlt'] at q'
      obtain ⟨ema, q'⟩ := q'
      obtain ⟨_, rpa, hva⟩ := S'.mu _ _ ema
      refine .inr ⟨⟨hva, hlt⟩, fun H2 => ∃ I2 μ2, Same I1 I2 ∧ SatM S.K I2 μ2 H2 ∧ vDLoopK (own.map (·.2)) g tt tk tv δ D a (.fdK od kvs ws) ((kvs.map fun kv => kD kv.1).drop (i + 1)) μ2 fun μ2 => Q (.ref D) (mset μ2 a (.dK kvs)),
        fun H2 w => ⟨ws.length - (i + 1), by omega, rfl, hlt, w⟩, fun x H2 hy => ?_⟩
      obtain ⟨rfl, k, v, hk, rfl⟩ := hy
      have hkey : (kvs.map fun kv => kD kv.1)[i] = kD k := by
        have h1 : (ws.map (·.1))[i]? = some k := by rw [List.getElem?_map, hk]; rfl
        rw [rp.keys, List.getElem?_map] at h1
        have h2 : (kvs.map fun kv => kD kv.1)[i]? = some (kD k) := by
          rw [List.getElem?_map]
          cases hz : kvs[i]? with
          | none => rw [hz] at h1; cases h1
          | some p => rw [hz] at h1; cases h1; rfl
        exact (List.getElem?_eq_some_iff.mp h2).2
      rw [hkey] at q'
      have hkr : Rep S.K I' (kD k) (kV k) := by cases k; exact .int _; exact .str _
      have hJ2 := (hJ.trans e1).trans e'
      refine g2 I' _ μ' _ H2 _ _ hJ2 S' ((hS.mono (e1.trans e')).wipe _) hkr _ _ q' fun I3 δ3 σ3 μ3 H3 e3 S3 R3 w3 q3 => ⟨w3.trans wipe_wipe, ?_⟩
      refine b2 I3 δ3 μ3 σ3 H3 (hJ2.trans e3) S3 R3 _ _ q3 fun I4 b μ4 H4 e4 S4 q4 => ?_
      have e14 := (e'.trans e3).trans e4
      cases b with
      | false =>
        rw [if_neg Bool.false_ne_true] at q4 ⊢
        exact ⟨I4, μ4, e14, S4, q4⟩
      | true =>
        rw [if_pos rfl] at q4 ⊢
        refine c2 I4 δ3 μ4 σ3 H4 ((hJ2.trans e3).trans e4) S4 (R3.mono e4) _ _ q4 fun I5 y vy μ5 H5 e5 S5 r5 q5 => ?_
        refine d2 I5 δ3 μ5 σ3 H5 (((hJ2.trans e3).trans e4).trans e5) S5 (R3.mono (e4.trans e5)) _ _ q5 fun I6 z vz μ6 H6 e6 S6 r6 q6 => ?_
        obtain ⟨kvs6, k6, ek, emD, hl, q7⟩ := q6
        obtain ⟨vs', rp', hv'⟩ := S6.memo emD
        exact ⟨vs', k6, rep_key (r5.mono e6 _ _) ek, hv', by rw [← rp'.len]; exact hl, I6, _, (e14.trans e5).trans e6, S6.setM (m := .dK (putD kvs6 k6 z)) (S6.mu _ _ emD).1 ⟨_, rp'.put k6 r6, upd_same⟩, q7⟩
    · obtain rfl : i = ws.length := by omega
      rw [hlen, List.drop_length] at q'
      obtain ⟨ema, ⟨kv2, emD⟩, q6⟩ := q'
      obtain ⟨hIa', rpa, hva⟩ := S'.mu _ _ ema
      refine .inl ⟨⟨hva, Nat.le_refl _⟩, hva, ?_⟩
      have S4 := S'.setM (o := .dK ws) (m := .dK kvs) hIa' ⟨_, rpa, upd_same⟩
      exact u _ _ _ _ _ (e1.trans e') S4 (.ref D) q6⟩
end
end Wl

set_option Elab.async false
set_option linter.all false
set_option maxRecDepth 100000
set_option maxHeartbeats 2000000
namespace L2
open PySem PySem.Spec PyProof.Rows
theorem sw_trueD {kx vx : Expr} {gs : List Comprehension} {scope : Scope} {pos py : Pos} {y : Str} {l : Nat} {env : Env} (k1 : env.scope.kind = .function) (k2 : env.scope.names.lookup y = some .local) (k3 : (py.line == pos.line) = true)
    (k4 : (scope.names.any fun (n, k) => n == y && (k == .local || k == .cell)) = false) : swapsWith (.DictComp kx vx gs scope pos) (some (.Name y py)) l env = pure true := by
  have e1 : env.kindOf y = some .local := k2
  have e2 : env.blockKind = .function := by unfold Env.blockKind; rw [k1] <;> rfl
  unfold swapsWith; simp only [e2, e1, k4, Expr.pos, k3]
  rfl
section
variable {X : Cx}
theorem ps_setDc {i : Nat} {y : Str} {py : Pos} {kx vx tg iter : Expr} {ifs : List Expr} {scope : Scope} {own : List (Str × Nat)} {pos spos : Pos} {wi : TI} {g : TG} {tt : TT} {tk tv : TE} (hc : X.calm = true) (hN : X.N.Nodup) (iy : X.N[i]? = some y) (ly : X.env.scope.names.lookup y = some .local)
    (sw : swapsWith (.DictComp kx vx [⟨tg, iter, ifs, 0⟩] scope pos) (some (.Name y py)) spos.line X.env = pure true) (hi : PI X tg iter wi) (ok : BlkOk X.N X.env.scope scope own)
    (g1 : ∀ (s : Shared) (H : Hp) (C : Addr) (cl : List (Str × Addr)) (fp : List Addr), PG (X.blk s H scope (compEnvC scope cl C X.env) fp) tg g) (g2 : ∀ (s : Shared) (H : Hp) (C : Addr) (cl : List (Str × Addr)) (fp : List Addr), PTs (X.blk s H scope (compEnvC scope cl C X.env) fp) ifs tt)
    (g3 : ∀ (s : Shared) (H : Hp) (C : Addr) (cl : List (Str × Addr)) (fp : List Addr), PE (X.blk s H scope (compEnvC scope cl C X.env) fp) kx tk) (g4 : ∀ (s : Shared) (H : Hp) (C : Addr) (cl : List (Str × Addr)) (fp : List Addr), PE (X.blk s H scope (compEnvC scope cl C X.env) fp) vx tv)
    (hs : ∀ x, foldedSetIterable iter X.env x = pure x) : PS X (.Assign [.Name y py] (.DictComp kx vx [⟨tg, iter, ifs, 0⟩] scope pos) spos) (tAsg (tDc wi g tt tk tv (own.map (·.2))) (gName i)) := by
  refine ⟨fun pins s σ H D I h => ?_⟩; rw [exec_Assign_Name_used _ _ _ _ sw]
  refine wpAny_bind (wpAny_standAt (wpAny_bind ?_)); have h : tDc wi g tt tk tv (own.map (·.2)) σ H (fun x H1 => gName i x σ H1 D.nx) := h
  refine wpAny_bind (thn (dc_core (Qf := fun _ s' => SP X pins D .next s') hc hN I hi ok g1 g2 g3 g4 hs h fun L C s' m H' I' q hn f => ?_) fun _ s' hq => wpAny_pure (wpAny_pure hq))
  show wpAny _ _ (assign (.Name y py) X.env (.ref L)) _ _ _; refine wpAny_assign_Name (store_ok2 (v := V.ref L) I' hN iy (.inl ly) rfl (fun s2 I2 ⟨a, sb, ha⟩ => ?_) (.inr ly))
  obtain ⟨e0, e1, e2, e3, e4, e5⟩ := f
  have ne : C ≠ a := ha.elim (fun z => by rw [z]; exact e1) (fun z e => e4 y a z e.symm)
  exact ⟨m, hn.sameBut sb ne, fun h3 sb3 => ⟨_, H', I2.turned (t' := s2.toks) (fun b o hb e => (sb3.2 b hb).trans e) e0 e1 e3 e4 e5, q⟩⟩
end
end L2
namespace Wl
open PySem L2
open PySem.Spec PyProof.Rows
section
variable {S : Sg} {ι : Type} {F : ι → Cx} {pos : Pos}
theorem ws_setDcK (i : Nat) {y : Str} {py spos : Pos} {kx vx tg iter : Expr} {ifs : List Expr} {scope : Scope} {own : List (Str × Nat)} {td : DE} {g : DG} {tt : DT} {tk tv : DE} (hN : S.N.Nodup) (hi : WE S F iter td) (ok : ∀ i, BlkOk S.N (F i).env.scope scope own)
    (hg : WGv S.blk (blkF F scope) (own.map (·.2)) tg g) (ht : WTs S.blk (blkF F scope) ifs tt) (hk : WE S.blk (blkF F scope) kx tk) (hv : WE S.blk (blkF F scope) vx tv) (hy : S.N[i]? = some y := by rfl) (hyl : ∀ j, (F j).env.scope.names.lookup y = some .local := by exact fun _ => rfl) (hkd : ∀ j, (F j).env.scope.kind = .function := by exact fun _ => rfl)
    (hl : (py.line == pos.line) = true := by rfl) (ha : (scope.names.any fun (n, k) => n == y && (k == .local || k == .cell)) = false := by decide +kernel) (hs : ∀ env, ∀ x, foldedSetIterable iter env x = pure x := by exact fun _ _ => rfl) (hcold : S.cold = false := by rfl) :
    WS S F (.Assign [.Name y py] (.DictComp kx vx [⟨tg, iter, ifs, 0⟩] scope pos) spos) (sAsg (vDcK (own.map (·.2)) td g tt tk tv) (dName i)) :=
  let ⟨ti, i1, i2⟩ := hi; let ⟨tg', g1, g2⟩ := hg; let ⟨t1, b1, b2⟩ := ht; let ⟨t2, c1, c2⟩ := hk; let ⟨t3, d1, d2⟩ := hv
  ⟨tLock (tAsg (tDc (iKeys ti) tg' t1 t2 t3 (own.map (·.2))) (gName i)), fun j h => ps_lock (ps_setDc (h.calm hcold) (h.N ▸ hN) (h.N ▸ hy) (hyl j) (sw_trueD (hkd j) (hyl j) hl ha) (pi_keys (i1 j h)) (h.N ▸ ok j) (fun s H C cl fp => g1 (j, s, H, C, cl, fp) (h.blk s H scope _ fp)) (fun s H C cl fp => b1 (j, s, H, C, cl, fp) (h.blk s H scope _ fp)) (fun s H C cl fp => c1 (j, s, H, C, cl, fp) (h.blk s H scope _ fp)) (fun s H C cl fp => d1 (j, s, H, C, cl, fp) (h.blk s H scope _ fp)) (hs _)),
   fun I δ μ σ H hJ SM hS Dn Dn' q u => by
    obtain ⟨a, kvs, em, q⟩ := q
    obtain ⟨hIa, ws, rp, hv⟩ := SM.mu _ _ em
    refine ⟨a, .dK ws, hv, trivial, fun od => ?_⟩
    have SL : SatM S.K I (mset μ a (.fdK od kvs ws)) (upd H a (.frz od (.dK ws))) := SM.setM (m := .fdK od kvs ws) hIa ⟨rp, upd_same⟩
    refine i2 I δ _ σ _ hJ SL hS _ _ (q od ws) fun I1 x vx μ1 H1 e1 S1 r1 q1 => ?_
    obtain ⟨rfl, em1, q1⟩ := q1
    cases r1
    obtain ⟨hI1, rp1, hv1⟩ := S1.mu _ _ em1
    refine ⟨a, od, rfl, .inl ⟨ws, hv1, fun D hD => ?_⟩⟩
    have hlen : ws.length = (kvs.map fun kv => kD kv.1).length := by rw [List.length_map]; exact rp.len.symm
    refine ⟨fun n m H' => m = ws.length - n ∧ n ≤ ws.length ∧ ∃ I' μ', Same I1 I' ∧ SatM S.K I' μ' H' ∧ vDLoopK (own.map (·.2)) g tt tk tv δ D a (.fdK od kvs ws) ((kvs.map fun kv => kD kv.1).drop n) μ' fun μ2 => Dn.nx (δ.set i (some (.ref D))) (mset μ2 a (.dK kvs)),
      ⟨ws.length, by simp, Nat.zero_le _, I1, _, Same.refl _, S1.setM (m := .dK []) (S1.ex.free hD) ⟨[], .nil, upd_same⟩, by simpa [dName] using q1 D (S1.muNone hD)⟩, ?_⟩
    rintro n m H' ⟨rfl, hle, I', μ', e', S', q'⟩
    by_cases hlt : n < ws.length
    · have hlt' : n < (kvs.map fun kv => kD kv.1).length := by rw [← hlen]; exact hlt
      rw [List.drop_eq_getElem_cons hlt'] at q'
      obtain ⟨ema, q'⟩ := q'
      obtain ⟨_, rpa, hva⟩ := S'.mu _ _ ema
      refine .inr ⟨⟨hva, hlt⟩, fun H2 => ∃ I2 μ2, Same I1 I2 ∧ SatM S.K I2 μ2 H2 ∧ vDLoopK (own.map (·.2)) g tt tk tv δ D a (.fdK od kvs ws) ((kvs.map fun kv => kD kv.1).drop (n + 1)) μ2 fun μ2 => Dn.nx (δ.set i (some (.ref D))) (mset μ2 a (.dK kvs)),
        fun H2 w => ⟨ws.length - (n + 1), by omega, rfl, hlt, w⟩, fun x H2 hy => ?_⟩
      obtain ⟨rfl, k, v, hk, rfl⟩ := hy
      have hkey : (kvs.map fun kv => kD kv.1)[n] = kD k := by
        have h1 : (ws.map (·.1))[n]? = some k := by rw [List.getElem?_map, hk]; rfl
        rw [rp.keys, List.getElem?_map] at h1
        have h2 : (kvs.map fun kv => kD kv.1)[n]? = some (kD k) := by
          rw [List.getElem?_map]
          cases hz : kvs[n]? with
          | none => rw [hz] at h1; cases h1
          | some p => rw [hz] at h1; cases h1; rfl
        exact (List.getElem?_eq_some_iff.mp h2).2
      rw [hkey] at q'
      have hkr : Rep S.K I' (kD k) (kV k) := by cases k; exact .int _; exact .str _
      have hJ2 := (hJ.trans e1).trans e'
      refine g2 I' _ μ' _ H2 _ _ hJ2 S' ((hS.mono (e1.trans e')).wipe _) hkr _ _ q' fun I3 δ3 σ3 μ3 H3 e3 S3 R3 w3 q3 => ⟨w3.trans wipe_wipe, ?_⟩
      refine b2 I3 δ3 μ3 σ3 H3 (hJ2.trans e3) S3 R3 _ _ q3 fun I4 b μ4 H4 e4 S4 q4 => ?_
      have e14 := (e'.trans e3).trans e4
      cases b with
      | false =>
        rw [if_neg Bool.false_ne_true] at q4 ⊢
        exact ⟨I4, μ4, e14, S4, q4⟩
      | true =>
        rw [if_pos rfl] at q4 ⊢
        refine c2 I4 δ3 μ4 σ3 H4 ((hJ2.trans e3).trans e4) S4 (R3.mono e4) _ _ q4 fun I5 y vy μ5 H5 e5 S5 r5 q5 => ?_
        refine d2 I5 δ3 μ5 σ3 H5 (((hJ2.trans e3).trans e4).trans e5) S5 (R3.mono (e4.trans e5)) _ _ q5 fun I6 z vz μ6 H6 e6 S6 r6 q6 => ?_
        obtain ⟨kvs6, k6, ek, emD, hl, q7⟩ := q6
        obtain ⟨vs', rp', hv'⟩ := S6.memo emD
        exact ⟨vs', k6, rep_key (r5.mono e6 _ _) ek, hv', by rw [← rp'.len]; exact hl, I6, _, (e14.trans e5).trans e6, S6.setM (m := .dK (putD kvs6 k6 z)) (S6.mu _ _ emD).1 ⟨_, rp'.put k6 r6, upd_same⟩, q7⟩
    · obtain rfl : n = ws.length := by omega
      rw [hlen, List.drop_length] at q'
      obtain ⟨ema, ⟨kv2, emD⟩, q6⟩ := q'
      obtain ⟨hIa', rpa, hva⟩ := S'.mu _ _ ema
      refine .inl ⟨⟨hva, Nat.le_refl _⟩, hva, ?_⟩
      have S4 := S'.setM (o := .dK ws) (m := .dK kvs) hIa' ⟨_, rpa, upd_same⟩
      exact u.nx _ _ _ _ _ (e1.trans e') S4 ((hS.mono (e1.trans e')).set i (.ref D)) q6⟩
end
end Wl


set_option Elab.async false
set_option linter.all false
set_option maxRecDepth 100000
set_option maxHeartbeats 4000000
/-! an __init__ of an own exception over ValueError that begins with super().__init__(..) -/
namespace Wl
open PySem PySem.Spec L2 PyProof.Rows

structure ISc (N ps : List Str) (scp : Scope) : Prop where
  kind : scp.kind = .function
  co : scp.isCoroutine = false
  gen : scp.isGenerator = false
  nd : N.Nodup
  pre : N.take ps.length = ps
  par : ∀ x ∈ ps, scp.names.lookup x = some .local
  nocell : ∀ y ∈ scp.names, y.2 ≠ .cell
  nofree : ∀ y ∈ scp.names, y.2 = .free → y.1 = "__class__"

def cxI (CX : CXT) (P : Program) (w : World) (K : PySem.W.Frag) (mg : Str → Option Value) (base : Heap) (N : List Str) (qual : Str) (scope : Scope) (f : Addr) (cd : Value) (cc : Addr) (A : Around) (outer : List Env) (s : Shared) (H : Hp) (E : XK) : Cx where
  prog := P
  w := w
  K := K
  mg := mg
  base := base
  A := A.deeper (PySem.W.ksEnv qual scope s.heap.objs.size f cd cc)
  N := N
  s_0 := s
  H_0 := H
  env := PySem.W.ksEnv qual scope s.heap.objs.size f cd cc
  outer := outer
  stack := PySem.W.ksEnv qual scope s.heap.objs.size f cd cc :: outer
  ex := []
  calm := true
  fn := fun _ => false
  pn := []
  xe := fun e s' => wpAny (model P w) (A.deeper (PySem.W.ksEnv qual scope s.heap.objs.size f cd cc)) (leaving (PySem.W.ksEnv qual scope s.heap.objs.size f cd cc) e) (fun _ s'' => CX outer H s E e s'') (fun e' s'' => CX outer H s E e' s'') s'

theorem lk_of_mem {l : List (Str × Value)} {x : Str} {u : Value} (dif : (l.map (·.1)).Nodup) (mem : (x, u) ∈ l) : l.lookup x = some u := by
  induction l with
  | nil => cases mem
  | cons p l ih =>
    obtain ⟨y, v⟩ := p
    have d2 : y ∉ l.map (·.1) ∧ (l.map (·.1)).Nodup := by simpa using dif
    by_cases e : x = y
    · subst e
      have : (x, u) = (x, v) := (List.mem_cons.mp mem).resolve_right fun z => d2.1 (List.mem_map_of_mem (f := (·.1)) z)
      cases this
      simp [List.lookup]
    · have : (x, u) ∈ l := (List.mem_cons.mp mem).resolve_left fun z => e (congrArg Prod.fst z)
      simp only [List.lookup, show (x == y) = false by simpa using e]
      exact ih d2.2 this
theorem start_at {N : List Str} {vs : List V} {i : Nat} {v : V} (e : (L2.start N vs)[i]? = some (some v)) : vs[i]? = some v := by
  unfold L2.start at e
  rw [List.getElem?_append, List.length_map] at e
  split at e
  · rw [List.getElem?_map, Option.map_eq_some_iff] at e
    obtain ⟨z, h1, h2⟩ := e
    cases h2
    exact h1
  · have := List.mem_of_getElem? e
    simp at this
theorem zip_look {ps : List Str} {us : List Value} {i : Nat} {x : Str} {u : Value} (nd : ps.Nodup) (hl : us.length = ps.length) (hx : ps[i]? = some x) (hu : us[i]? = some u) : (ps.zip us).reverse.lookup x = some u := by
  refine lk_of_mem ?_ (List.mem_reverse.mpr ?_)
  · rw [List.map_reverse, show (fun (p : Str × Value) => p.1) = Prod.fst from rfl, List.map_fst_zip (by omega)]
    exact List.pairwise_reverse.mpr (nd.imp fun h z => h z.symm)
  · refine List.mem_iff_getElem?.mpr ⟨i, ?_⟩
    rw [List.getElem?_zip_eq_some]
    exact ⟨hx, hu⟩

section
variable {CX : CXT} {P : Program} {w : World} {K : PySem.W.Frag} {mg : Str → Option Value} {base : Heap} {N ps : List Str} {qual : Str} {scope : Scope} {f cc : Addr} {cd : Value} {A : Around} {outer : List Env} {s : Shared} {H : Hp} {E : XK} {us : List Value} {vs : List V}

theorem inv_init {h₁ : Heap} {tk : Nat} {oC : Obj} {vC : Option Value} (S : ISc N ps scope) (hd : A.handled = none) (e0 : Env0 P w K mg base A outer s H) (hl : vs.length = ps.length) (r : Vals vs us)
    (hcc : base.get? cc = some oC) (hcd : oC.data = .cell vC)
    (hns : h₁.Ns s.heap.objs.size (fun x => (ps.zip us).reverse.lookup x)) (kp : ∀ b o, s.heap.get? b = some o → h₁.get? b = some o) :
    Inv (cxI CX P w K mg base N qual scope f cd cc A outer s H E) [] (L2.start N vs) H { s with heap := h₁, toks := tk } := by
  have room : ps.length ≤ N.length := by
    rw [← S.pre, List.length_take]
    exact Nat.min_le_right _ _
  have noA : ∀ b : Addr, b ∉ (cxI CX P w K mg base N qual scope f cd cc A outer s H E).ex := fun b z => absurd (show b ∈ ([] : List Addr) from z) (by simp)
  have only : ∀ {y : Str} {c : Addr}, (cxI CX P w K mg base N qual scope f cd cc A outer s H E).env.cells.lookup y = some c → y = "__class__" ∧ c = cc := fun {y c} h => by
    have h : ([(("__class__" : Str), cc)] : List (Str × Addr)).lookup y = some c := h
    have h := PySem.mem_of_lookup h
    simp only [List.mem_singleton, Prod.mk.injEq] at h
    exact h
  refine ⟨⟨e0.mod, S.kind, rfl, rfl, Nat.le_refl _, fun y z c h1 h2 => ?_, fun y hy => ?_, fun y c z _ => ?_, fun _ => hd, Around.frames_deeper e0.frames, .inr ⟨rfl, rfl⟩, fun b z => absurd z (noA b), e0.bs, e0.bsz, fun b _ _ => noA b, fun b z => absurd z (noA b), e0.funs, e0.frf⟩,
    rfl, e0.bare, Un.kept kp, ⟨_, hns, fun i y v h1 h2 h3 => ?_⟩, fun y c h => ?_, e0.hok.fresh (Nat.le_refl _), fun y c h => ?_, fun p hp => absurd (show p ∈ ([] : List (Addr × Obj)) from hp) (by simp), e0.hok.kept kp, ?_⟩
  · rw [(only h1).1, (only h2).1]
  · rcases (hy : scope.names.lookup y = some .cell ∨ scope.names.lookup y = some .free) with ny | ny
    · exact (S.nocell (y, .cell) (PySem.mem_of_lookup ny) rfl).elim
    · obtain rfl : y = "__class__" := S.nofree (y, .free) (PySem.mem_of_lookup ny) rfl
      exact ⟨cc, by show ([(("__class__" : Str), cc)] : List (Str × Addr)).lookup _ = _; simp [List.lookup]⟩
  · have z : false = true := z
    cases z
  · have told := start_at h2
    have short : i < ps.length := by rw [← hl]; exact (List.getElem?_eq_some_iff.mp told).1
    obtain ⟨u, in_, rv⟩ := r.get told
    have same : ps[i]? = some y := by
      have q : (N.take ps.length)[i]? = N[i]? := List.getElem?_take_of_lt short
      rw [S.pre] at q
      exact q.trans h1
    have apart : ps.Nodup := S.pre ▸ S.nd.sublist (List.take_sublist _ _)
    exact ⟨u, rv, .inl ⟨S.par y (List.mem_of_getElem? same), zip_look apart (by rw [← r.length]; exact hl) same in_⟩⟩
  · obtain ⟨_, e⟩ := only h
    rw [e]
    exact ⟨vC, oC, kp _ _ (e0.bs _ _ hcc).1, hcd⟩
  · obtain ⟨_, e⟩ := only h
    rw [e]
    exact (e0.bs _ _ hcc).2
  · show (L2.start N vs).length = N.length
    simp [L2.start]
    omega
end

/-- the bound built-in __init__, called -/
theorem sup_call {X : Cx} {pins : List (Addr × Obj)} {σ : L2.St} {H : Hp} {s : Shared} {a C u : Addr} {us : List Value} {A : Around} {Q : Value → Shared → Prop} {E : Value → Shared → Prop} (T : OexC X.K C) (I : Inv X pins σ H s) (e : H a = some (exo a C none)) (hu : s.heap.get? u = some (PySem.W.kxs_mw "ValueError.__init__" a)) (hl : us.length ≤ sizeLine)
    (h : ∀ s', Inv X pins σ H s' → Q .none s') : wpAny (model X.prog X.w) A (call (.ref u) us) Q E s := by
  obtain ⟨cn, cq, cN, cb, cm, cs, cu, ca, co, cd, z0, z1, z2, z3, z5, hC, _⟩ := T.cls; obtain ⟨t1, ho⟩ := exo_at I.hok e
  have KC := I.kIn _ _ hC
  obtain ⟨hp, g, d, t, os⟩ := s
  have F := PySem.F.excBase_ValueError
  refine wpAny_call <| codeAny_of_tree ?_
  show wpAny _ A.in1 (callAny (.ref u) ⟨us, []⟩) _ _ _
  simp only [callAny]
  refine wpAny_bind <| wpAny_load hu ?_
  simp only [PySem.W.kxs_mw, show (Value.type "method-wrapper" == Value.type "method" || Value.type "method-wrapper" == Value.type "builtin_function_or_method" || Value.type "method-wrapper" == Value.type "method-wrapper") = true by decide, if_true]
  refine PySem.W.KFB.if_so (by decide) <| wpAny_bind <| PySem.W.check_bound_init F.toExcCallFacts KC ho rfl <| wpAny_bind <| wpAny_pure <| wpAny_pure ?_
  refine ⟨plainId_quiet F.init.plain _, codeAny_builtin F.initEntry ?_⟩
  refine PySem.W.exc_init_tree (cls := .ref C) (t0 := t1) (dv := none) (c2 := .none) (c3 := .none) (b4 := .bool false) ho hl fun h' k hx _ => ?_
  have as_ : upd H a (exo a C none) = H := funext fun b => by
    unfold upd
    split
    · rename_i z; rw [z]; exact e.symm
    · rfl
  have wr := I.write (t' := t) (x := a) (e := a) (o := exo a C none) (by rw [e]; exact trivial) (.inl rfl) k ⟨_, hx⟩ (exo_ok hx)
  exact h _ (as_ ▸ wr)
end Wl

set_option Elab.async false
set_option linter.all false
set_option maxRecDepth 100000
set_option maxHeartbeats 4000000
/-! such an __init__ as a def with a promise -/
namespace Wl
open PySem PySem.Spec L2 PyProof.Rows

/-- what the written part says of an __init__ that calls super().__init__ -/
structure SupF (P : Program) (K : PySem.W.Frag) (C cc : Addr) (params : Arguments) (scope : Scope) (selfN : Str) : Prop where
  cell : ∃ cl cld csl, K.lookup cc = some ⟨cl, cld, .cell (some (.ref C)), csl⟩
  head : ∃ ar : Arg, (params.posonlyargs ++ params.args).head? = some ar ∧ ar.arg = selfN
  sup : PySem.W.ks_superIn K C C "__init__" = some (some (.builtin "ValueError.__init__"))
  opq : PySem.W.nsIn K PySem.cStatics "thirdparty.any" = some none
  sub : PySem.W.subIn K (.ref C) (.type "ValueError") = some true
  mro : PySem.W.mroIn K C (.ref C) = some true
  kS : scope.names.lookup ("super" : Str) = some .globalImplicit
  kC : scope.names.lookup ("__class__" : Str) = some .free
  kA : scope.names.lookup selfN = some .local
  top : (P.main.scope.names.lookup ("super" : Str)).isSome = false

def fileIn (P : Program) (K : PySem.W.Frag) (cd : Value) : Bool := match cd with
  | .ref at_ => (match K.lookup at_ with
    | some ⟨_, _, .fields vs, _⟩ => (match vs.toList with | _ :: _ :: Value.str file _ :: _ => (P.main.file : Str) == file | _ => false)
    | _ => false)
  | _ => false
theorem file_of {P : Program} {K : PySem.W.Frag} {cd : Value} (h : fileIn P K cd = true) : ∃ (c : Addr) (ccl : Value) (cdd : Option Addr) (vs : Array Value) (ccs : Array (Option Value)) (file : Str) (tf : Tok), cd = .ref c ∧ K.lookup c = some ⟨ccl, cdd, .fields vs, ccs⟩ ∧ vs[2]? = some (.str file tf) ∧ ((P.main.file : Str) == file) = true := by
  unfold fileIn at h
  split at h
  · rename_i c
    split at h
    · rename_i ccl cdd vs ccs ho
      split at h
      · rename_i x y file tf r hv
        refine ⟨c, _, _, vs, _, file, tf, rfl, ho, ?_, h⟩
        rw [← Array.getElem?_toList, hv]
        rfl
      · cases h
    · cases h
  · cases h

section
variable {CX : CXT} {P : Program} {w : World} {K : PySem.W.Frag} {mg : Str → Option Value} {base : Heap}
theorem fn_init {C f cc : Addr} {k : Nat} {name qual selfN : Str} {params : Arguments} {scope : Scope} {dV kV doc pm cdv ct oc : Value} {an od : Option Addr} {osl : Array (Option Value)} {N ps : List Str} {sp : Sp}
    {pl : Addr → Sem Bool} {e : Expr} {es : List Expr} {rest : List Stmt} {p0 p1 p2 p3 p4 : Pos}
    (lk : K.lookup f = some ⟨oc, od, .func (PySem.W.ksFn name qual params (.Expr (.Call (.Attribute (.Call (.Name "super" p0) [] [] p1) "__init__" p2) (e :: es) [] p3) p4 :: rest) scope dV kV doc pm an cdv ct cc), osl⟩)
    (hcd : PySem.W.codeIn K cdv qual = true) (hfi : fileIn P K cdv = true) (S : ISc N ps scope) (T : OexC K C) (U : SupF P K C cc params scope selfN) (hps : ps[0]? = some selfN) (hms : mg "super" = none)
    (lens : ∀ vs H Q E, sp vs H Q E → vs.length = ps.length) (hbody : ∀ (A : Around) (outer : List Env) (s : Shared) (H : Hp) (vs : List V) (Q : VK) (E : XK), Room k (A.deeper (PySem.W.ksEnv qual scope s.heap.objs.size f cdv cc)) → sp vs H Q E →
      ∃ ta t, PA (cxI CX P w K mg base N qual scope f cdv cc A outer s H E) (e :: es) ta ∧ PSs (cxI CX P w K mg base N qual scope f cdv cc A outer s H E) rest t ∧ ∃ a, vs[0]? = some (.ref a) ∧ H a = some (exo a C none) ∧
        ta (L2.start N vs) H fun ws H1 => ws.length ≤ 1000 ∧ H1 a = some (exo a C none) ∧ t { nx := fun _ H' => Q .non H', rt := Q } (L2.start N vs) H1)
    (hev : ∀ (L : Addr), eval (.Call (.Attribute (.Call (.Name "super" p0) [] [] p1) "__init__" p2) (e :: es) [] p3) (PySem.W.ksEnv qual scope L f cdv cc) = (do
      let ov ← attributeBase (.Call (.Name "super" p0) [] [] p1) "__init__" (PySem.W.ksEnv qual scope L f cdv cc) (eval (.Call (.Name "super" p0) [] [] p1) (PySem.W.ksEnv qual scope L f cdv cc))
      standAt p2.atName
      let (g, first) ← holding [ov] (getMethod ov "__init__" (pl L))
      callWith p3 g first (backTo p3 (starEach (e :: es) (PySem.W.ksEnv qual scope L f cdv cc))) []) := by exact fun _ => rfl)
    (he : ∀ env : Env, starEach (e :: es) env = (false, eval e env) :: starEach es env := by exact fun _ => rfl) (hpl : ∀ env : Env, (backTo p3 (starEach es env)).any (·.1) = false := by exact fun _ => rfl) :
    FnOk P w K mg base CX (k + 1) f (PySem.W.ksFn name qual params (.Expr (.Call (.Attribute (.Call (.Name "super" p0) [] [] p1) "__init__" p2) (e :: es) [] p3) p4 :: rest) scope dV kV doc pm an cdv ct cc) ps sp := by
  refine ⟨lens, fun A outer s H args us vs Q E hr e0 hb r hsp => ?_⟩; have hl := lens _ _ _ _ hsp
  have stays : ∀ b o, base.get? b = some o → s.heap.get? b = some o := fun b o z => (e0.bs b o z).1
  have KX := e0.mod.kin.keeps stays
  have lim := e0.mod.nolimit.keeps stays
  obtain ⟨cl, cld, csl, hcell⟩ := U.cell
  obtain ⟨ar, har, hself⟩ := U.head
  obtain ⟨cda, ccl, cdd, fvs, ccs, file, tf, hcdv, hcode, hfv, hfile⟩ := file_of hfi
  have hul : us.length = ps.length := by rw [← r.length]; exact hl
  have ndP : ps.Nodup := S.pre ▸ S.nd.sublist (List.take_sublist _ _)
  have hloc : ∀ y ∈ ps.zip us, scope.names.lookup y.1 = some .local := fun ⟨n, v⟩ hy => S.par n (List.of_mem_zip hy).1
  refine PySem.ks_codeAny_call_defAt (binds := ps.zip us) hr.depth (KX _ _ lk) rfl lim (PySem.W.codeRec_of KX hcd) rfl hb S.nocell hloc (fun h₁ hns kp => ?_) S.co S.gen S.kind
  have bcc : base.get? cc = some ⟨cl, cld, .cell (some (.ref C)), csl⟩ := e0.mod.kin _ _ hcell
  have I : Inv (cxI CX P w K mg base N qual scope f cdv cc A outer s H E) [] (L2.start N vs) H { s with heap := h₁, toks := s.toks + (ps.zip us).length } := inv_init S hr.hd e0 hl r bcc rfl hns kp
  obtain ⟨ta, t, hta, ht, a, ha0, hHa, hq⟩ := hbody A outer s H vs Q E (hr.deeper _) hsp
  obtain ⟨u0, hu0, ru0⟩ := r.get ha0
  obtain rfl : u0 = Value.ref a := ru0
  have hm0 := zip_look ndP hul hps hu0
  obtain ⟨t1, hoe⟩ := exo_at I.hok hHa
  have KI := I.kIn
  have hcls : ∃ cdC, PySem.W.clsIn K C = some cdC := by
    have h := U.sup
    unfold PySem.W.ks_superIn at h
    cases z : PySem.W.clsIn K C with
    | none => rw [z] at h; cases h
    | some cd => exact ⟨cd, rfl⟩
  obtain ⟨cdC, hcdC⟩ := hcls
  have hsup := U.sup
  unfold PySem.W.ks_superIn at hsup
  rw [hcdC] at hsup
  obtain ⟨oD, hD1, hD2⟩ : ∃ oD, h₁.get? C = some oD ∧ oD.data = .cls cdC := by
    have h := hcdC
    unfold PySem.W.clsIn at h
    split at h
    · rename_i c d cd' sl ho
      cases h
      exact ⟨_, KI _ _ ho, rfl⟩
    · cases h
  have Ia : PySem.W.InstAt h₁ a { cls := .ref C, dict := none, data := .fields #[.ref t1, .none, .none, .none, .bool false, .none] } C none := ⟨hoe, rfl, rfl, trivial⟩
  have hint : ∀ L, interactive (PySem.W.ksEnv qual scope L f cdv cc) = false := fun L => by
    unfold interactive
    show (scope.kind == .module && _) = false
    rw [S.kind]
    rfl
  refine PySem.ks_wpAt_execs_cons (PySem.ks_wpAt_Expr_any (PySem.ks_wpAt_MethodCall (pl := pl _) ?_ (hev _)) (hint _) rfl)
  refine PySem.ks_wpAt_super_base U.kS U.kC (by decide) rfl (KI _ _ lk) rfl har hcdv (KI _ _ hcode) rfl hfv hfile U.top ?_
  obtain ⟨mb, hb1, hb2⟩ := I.mod.blt
  refine PySem.W.ks_loadName_global S.kind U.kS (Calls.loadGlobal_builtin (I.mod.glob.keeps I.bk) hms (hb1.keeps I.bk) ((hb2 "super" (by decide)).trans (by exact PyProof.Rows.Boot.super)) ⟨rfl, ?_⟩)
  refine wpAny_loadName_free S.kind U.kC rfl ⟨_, KI _ _ hcell, rfl⟩ ?_
  rw [hself]
  refine wpAny_loadName_local S.kind U.kA hns hm0 ?_
  refine PySem.ks_wpAny_isType_cls hD1 hD2 ⟨rfl, ?_⟩
  refine PySem.ks_wpAny_call_super hD1 hD2 hoe rfl (fun c z => by cases z) (PySem.W.looks_mroIn KI U.mro) (fun h' hso k => ?_)
  have I1 : Inv (cxI CX P w K mg base N qual scope f cdv cc A outer s H E) [] (L2.start N vs) H { s with heap := h', toks := s.toks + (ps.zip us).length } := I.kept (t' := s.toks + (ps.zip us).length) k
  have K1 := I1.kIn
  have Ib : PySem.W.InstAt h' a { cls := .ref C, dict := none, data := .fields #[.ref t1, .none, .none, .none, .bool false, .none] } C none := ⟨k _ _ hoe, rfl, rfl, trivial⟩
  refine PySem.W.kxs_getMethod PySem.W.kxs_ValueError hso (PySem.W.looks_opaque K1 U.opq) (l₀ := cdC.mro) ?_ rfl K1 hsup (Ib.type.andThen (PySem.W.looks_subIn K1 U.sub)) (PySem.W.ks_ne K1 Ib hcdC) (by decide) ?_
  · exact fun A Q E s k q => wpAny_bind ((PySem.W.looks_clsIn K1 hcdC) A _ E s k (wpAny_pure q))
  have kp2 : ∀ b o, h'.get? b = some o → (h'.push (PySem.W.kxs_mw "ValueError.__init__" a)).get? b = some o := fun b o e => Heap.get?_push_of_some _ e
  have I2 : Inv (cxI CX P w K mg base N qual scope f cdv cc A outer s H E) [] (L2.start N vs) H { s with heap := h'.push (PySem.W.kxs_mw "ValueError.__init__" a), toks := s.toks + (ps.zip us).length + 1 } := I1.kept (t' := s.toks + (ps.zip us).length + 1) kp2
  have hu : (h'.push (PySem.W.kxs_mw "ValueError.__init__" a)).get? h'.objs.size = some (PySem.W.kxs_mw "ValueError.__init__" a) := Heap.get?_push_size _ rfl
  have I3 : Inv (cxI CX P w K mg base N qual scope f cdv cc A outer s H E) [(h'.objs.size, PySem.W.kxs_mw "ValueError.__init__" a)] (L2.start N vs) H { s with heap := h'.push (PySem.W.kxs_mw "ValueError.__init__" a), toks := s.toks + (ps.zip us).length + 1 } := by
    refine I2.pins_of fun p hp => ?_
    rw [List.mem_singleton] at hp
    subst hp
    exact ⟨hu, I1.hok.fresh (Nat.le_refl _), Nat.ne_of_gt I1.lt, I1.nofs (Nat.le_refl _), fun v z => by cases z⟩
  show wpAny _ _ (callWith p3 (.ref h'.objs.size) [] (backTo p3 (starEach (e :: es) _)) []) _ _ _
  refine PySem.W.kxs_callWith (i := "ValueError.__init__") (x := a) (by rw [he]; show (false || (backTo p3 (starEach es _)).any (·.1)) = false; rw [hpl]; rfl) ?_
  rw [he]
  refine Calls.evalArgs_plain ?_
  have hrun := hta.run p3 _ _ _ H _ I3 hq
  rw [he] at hrun
  refine thn hrun fun ws s4 hw => ?_
  obtain ⟨vs', H1, I4, r4, hlen, hH1, hq1⟩ := hw
  have hu4 : s4.heap.get? h'.objs.size = some (PySem.W.kxs_mw "ValueError.__init__" a) := (I4.pin _ (List.mem_append_right _ (List.mem_singleton.mpr rfl))).1
  refine ⟨hu4, ?_⟩
  have I5 : Inv (cxI CX P w K mg base N qual scope f cdv cc A outer s H E) [] (L2.start N vs) H1 s4 := I4.pins_of fun p hp => by cases hp
  refine sup_call T I5 hH1 hu4 (by show ws.length ≤ _; rw [← r4.length, sizeLine_eq]; omega) fun s5 I6 => ?_
  refine wpAt_of_wpAny ?_
  refine wpAny_mono (ht.run [] s5 (L2.start N vs) H1 _ I6 hq1) (fun fl s' hs => ?_) fun e s' hs => hs
  have leaves : ∀ {τ : L2.St} {G : Hp} {x : V} {y : Value}, Inv (cxI CX P w K mg base N qual scope f cdv cc A outer s H E) [] τ G s' → L2.RelV x y → Q x G → CE outer P w H s Q y s' :=
    fun {τ G x y} iv rel q => ⟨x, G, iv.os, iv.bare, iv.base, iv.hok, rel, q⟩
  rcases fl with _ | _ | _ | u
  all_goals first
    | (obtain ⟨x, τ, G, iv, rel, q⟩ := hs; exact leaves iv rel q)
    | (obtain ⟨τ, G, iv, q⟩ := hs; first | exact q.elim | exact leaves (x := V.non) (y := Value.none) iv rfl q)
end
end Wl

set_option Elab.async false
set_option linter.all false
set_option maxRecDepth 100000
set_option maxHeartbeats 4000000
/-! isinstance and fields of a caught exception, in a suite -/
namespace Wl
open PySem PySem.Spec L2 PyProof.Rows

def dOk (d : Option Addr) (H : Hp) : Prop := ∀ dd, d = some dd → ∃ fs, H dd = some (.xd fs)
def rIsC (K : PySem.W.Frag) (C a : Addr) (d : Option Addr) : List V → Hp → VK → Prop := fun xs H Q => ∃ (c : V) (cv : Value) (b : Bool), xs = [.ref a, c] ∧ (∀ u, L2.RelV c u → u = cv) ∧ dOk d H ∧ PySem.W.kitOne K (.ref C) cv = some b ∧ Q (.bl b) H
theorem call_isC {X : Cx} {a C : Addr} {oe : Obj} {d : Option Addr} {pn : List (Addr × Obj)} (T : L2.ExcC X.K C) (hz : Zc (.ref C) d oe) (hf : ∃ vs, oe.data = .fields vs) : CallR (X.suite a ((a, oe) :: pn)) (.builtin "isinstance") (rIsC X.K C a d) := by
  intro pns s τ H xs us Q I r h; obtain ⟨c, cv, b, rfl, hcv, hd, e, q⟩ := h
  cases r with
  | cons rx rr =>
    cases rr with
    | cons rt rr =>
      cases rr
      cases rx
      have ec := hcv _ rt
      subst ec
      have hget := (I.pin (a, oe) (List.mem_append_left _ List.mem_cons_self)).1
      obtain ⟨vs, hv⟩ := hf
      have hno : PySem.W.notCls oe := by unfold PySem.W.notCls; rw [hv] <;> rfl
      have J : ∃ od : Option Obj, PySem.W.InstAt s.heap a oe C od := by
        cases hdd : d with
        | none => exact ⟨none, ⟨hget, hz.1, hno, by rw [hz.2, hdd]; trivial⟩⟩
        | some dd =>
          obtain ⟨fs, hfs⟩ := hd dd hdd
          have hx : ObjOk X.prog X.w H s.heap dd (.xd fs) := I.hok dd _ hfs
          obtain ⟨mA, hns, _⟩ := hx
          obtain ⟨od, ho, _⟩ := lookIn_ns hns
          exact ⟨some od, ⟨hget, hz.1, hno, by rw [hz.2, hdd]; exact ho⟩⟩
      obtain ⟨od, J⟩ := J
      have hcl : (PySem.W.clsIn X.K C).isSome = true := by
        obtain ⟨cd, h1, _⟩ := PySem.W.any_some T.hd
        rw [h1]; rfl
      exact PySem.W.kia_one (PySem.W.kitx_exc hcl T.hg T.hk T.hs T.ha T.hn T.ht T.hm) I.kIn J e (fun z => nomatch z) fun tk => ⟨.bl b, H, I.kept (t' := tk) fun _ _ z => z, rfl, q⟩

/-- what an answer of isinstance rests on -/
structure IsTab (K : PySem.W.Frag) (mg : Str → Option Value) (isx : Addr → Str → Option Bool) : Prop where
  cls : ∀ C T b, isx C T = some b → L2.ExcC K C
  kit : ∀ C T b, isx C T = some b → ∃ (v : V) (cv : Value), (mg T = some cv ∨ (mg T = none ∧ bootBuiltins T = some cv ∧ T ≠ "__name__")) ∧ L2.RelV v cv ∧ (∀ u, L2.RelV v u → u = cv) ∧ PySem.W.kitOne K (.ref C) cv = some b

def mOk (d : Option Addr) (μ : Mu) : Prop := ∀ dd, d = some dd → ∃ fs, μ dd = some (.xd fs)
def vIsC (isx : Addr → Str → Option Bool) (i : Nat) (a C : Addr) (d : Option Addr) (T : Str) : DE := fun δ μ Q => δ[i]? = some (some (.ref a)) ∧ mOk d μ ∧ ∃ b, isx C T = some b ∧ Q (.bl b) μ
def vXf (i : Nat) (a : Addr) (d : Option Addr) (f : Str) : DE := fun δ μ Q => δ[i]? = some (some (.ref a)) ∧ ∃ (dd : Addr) (fs : List (Str × Dv)) (v : Dv), d = some dd ∧ μ dd = some (.xd fs) ∧ fs.lookup f = some v ∧ Q v μ
section
variable {S : Sg} {X : Cx} {a C : Addr} {oe : Obj} {d : Option Addr} {pn : List (Addr × Obj)} {i : Nat} {p p1 p2 p3 : Pos}
theorem we_isC {isx : Addr → Str → Option Bool} {e T : Str} (hi : Is S (X.suite a ((a, oe) :: pn))) (tb : IsTab S.K S.mg isx) (hz : Zc (.ref C) d oe) (hf : ∃ vs, oe.data = .fields vs) (hmi : S.mg "isinstance" = none) (hgi : Gl X "isinstance") (hgT : Gl X T) (hN : S.N[i]? = some e) (hv : Vis X.env.scope e)
    (hdT : (T == ("__debug__" : Str)) = false := by decide) (hd : (e == ("__debug__" : Str)) = false := by decide) (hcd : (e == ("__classdict__" : Str)) = false := by decide)
    (hn : ∀ env : Env, starEach [.Name e p1, .Name T p2] env = (false, eval (.Name e p1) env) :: starEach [.Name T p2] env := by exact fun _ => rfl) (hn2 : ∀ env : Env, starEach [.Name T p2] env = (false, eval (.Name T p2) env) :: starEach [] env := by exact fun _ => rfl)
    (hpl : ∀ env : Env, (backTo p3 (starEach [.Name T p2] env)).any (·.1) = false := by exact fun _ => rfl) :
    WE S (fun _ : Unit => X.suite a ((a, oe) :: pn)) (.Call (.Name "isinstance" p) [.Name e p1, .Name T p2] [] p3) (vIsC isx i a C d T) := by
  have eK : X.K = S.K := hi.K
  have em : X.mg = S.mg := hi.mg
  have eN : X.N = S.N := hi.N
  refine ⟨fun σ H Q => σ[i]? = some (some (.ref a)) ∧ dOk d H ∧ ∃ b, isx C T = some b ∧ Q (.bl b) H, fun _ _ => ⟨fun pins s σ H Q I h => ?_⟩, fun I δ μ σ H hJ SM hS Q Q' q u => ?_⟩
  · obtain ⟨h1, h2, b, h3, h4⟩ := h
    obtain ⟨v, cv, k1, k2, k3, k4⟩ := tb.kit C T b h3
    have hT : PE (X.suite a ((a, oe) :: pn)) (.Name T p2) (tC v) := by
      rcases k1 with k1 | ⟨k1, k5, k6⟩
      · exact pe_glob hgT (em ▸ k1) k2 hdT
      · exact pe_bltn hgT (em ▸ k1) k5 k2 k6 hdT
    have hE : PE (X.suite a ((a, oe) :: pn)) (.Name e p1) (tVar i) := pe_var (show X.N[i]? = some e from eN ▸ hN) hv hd hcd
    have hC : CallR (X.suite a ((a, oe) :: pn)) (.builtin "isinstance") (rIsC X.K C a d) := call_isC (eK ▸ tb.cls C T b h3) hz hf
    refine (pe_callB hC hgi (em ▸ hmi) (by first | rfl | kernel_rfl) (pa_cons hE (pa_cons hT pa_nil (hn2 _)) (hn _)) (by decide) (by decide) (hn _) (hpl _)).run pins s σ H Q I ?_
    exact ⟨.ref a, h1, v, cv, b, rfl, k3, h2, eK ▸ k4, h4⟩
  · obtain ⟨h1, h2, b, h3, h4⟩ := q
    obtain ⟨w', r1, r2⟩ := hS.at_ i _ h1
    cases r2
    refine ⟨r1, fun dd e => ?_, b, h3, u I _ _ μ H (Same.refl I) SM (.bl b) h4⟩
    obtain ⟨fs, hfs⟩ := h2 dd e
    obtain ⟨gs, _, hg⟩ := SM.memo hfs
    exact ⟨gs, hg⟩
theorem RepP.look {K : PySem.W.Frag} {I : Hp} {f : Str} {v : Dv} : ∀ {fs : List (Str × Dv)} {gs : List (Str × V)}, RepP K I fs gs → fs.lookup f = some v → ∃ u, gs.lookup f = some u ∧ Rep K I v u
  | _, _, .nil, h => by cases h
  | (x, y) :: fs, (x', y') :: gs, .cons h t, e => by
    obtain ⟨h1, h2⟩ := h
    have h1 : x = x' := h1
    subst h1
    simp only [List.lookup] at e ⊢
    split at e
    · cases e; exact ⟨y', rfl, h2⟩
    · exact RepP.look t e
theorem we_xf {e f : Str} (hi : Is S (X.suite a ((a, oe) :: pn))) (T : XfC S.K C) (hno : PySem.W.findIn S.K (.ref C) f = some none) (hz : Zc (.ref C) d oe) (hf : ∃ vs, oe.data = .fields vs) (hN : S.N[i]? = some e) (hv : Vis X.env.scope e)
    (hd : (e == ("__debug__" : Str)) = false := by decide) (hcd : (e == ("__classdict__" : Str)) = false := by decide) (hb : ∀ env : Env, attributeBase (.Name e p1) f env (eval (.Name e p1) env) = eval (.Name e p1) env := by exact fun _ => rfl) :
    WE S (fun _ : Unit => X.suite a ((a, oe) :: pn)) (.Attribute (.Name e p1) f p2) (vXf i a d f) := by
  have eK : X.K = S.K := hi.K
  have eN : X.N = S.N := hi.N
  refine ⟨_, fun _ _ => pe_xf (eK ▸ T) (eK ▸ hno) hz hf (pe_var (i := i) (show X.N[i]? = some e from eN ▸ hN) hv hd hcd) (hb _), fun I δ μ σ H hJ SM hS Q Q' q u => ?_⟩
  obtain ⟨h1, dd, fs, v, h2, h3, h4, h5⟩ := q
  obtain ⟨w', r1, r2⟩ := hS.at_ i _ h1
  cases r2
  obtain ⟨gs, hp, hg⟩ := SM.memo h3
  obtain ⟨y, l1, l2⟩ := RepP.look hp h4
  exact ⟨_, r1, rfl, rfl, dd, gs, y, h2, hg, l1, u I _ _ μ H (Same.refl I) SM l2 h5⟩
end
end Wl

set_option Elab.async false
set_option linter.all false
set_option maxRecDepth 100000
set_option maxHeartbeats 4000000
/-! a lambda handed to a def: what is made is told by the heap before -/
namespace Wl
open PySem PySem.Spec L2 PyProof.Rows LamX

/-- the heap behind the making of a lambda: as before, or with a new code object c and the grown table at P -/
def Made (H H1 : Hp) (P c : Addr) (q : Str) (tbl : Array Value) : Prop :=
  (H1 = H ∧ ∃ at_ : Pos, codeAmong at_ tbl.toList = some (.ref c)) ∨
    (H c = none ∧ ∃ at_ : Pos, H1 = upd (upd H P (.tbl (tbl ++ #[rawInt at_.line, rawInt at_.col, .ref c]))) c (CodeO c q))

section
variable {X : Cx} {pins : List (Addr × Obj)} {σ : L2.St} {H : Hp} {s : Shared}
theorem lam_made {c P : Addr} {tbl : Array Value} {prs : Arguments} {bd : Expr} {sco : Scope} {lp : Pos} {E : Value → Shared → Prop} {Q : Value → Shared → Prop} (iv : Inv X pins σ H s) (tb : TabB X.base X.mg c P) (hc0 : X.env.code = .ref c)
    (hP : H P = some (.tbl tbl)) (trip : TriplesOk tbl.toList) (names : ∀ (at_ : Pos) (v : Value), codeAmong at_ tbl.toList = some v → ∃ b, v = .ref b ∧ H b = some (CodeO b (X.env.qual ++ "<lambda>"))) (hd0 : defaultsOf prs X.env = ([], []))
    (hfr : ∀ y ∈ sco.names, y.2 = .free → ∃ b, X.env.cells.lookup y.1 = some b)
    (fin : ∀ (f b : Addr) (pm ctv : Value) (H1 : Hp) (s' : Shared), Inv X pins σ H1 s' → Made H H1 P b (X.env.qual ++ "<lambda>") tbl →
      s'.heap.get? f = some (PySem.W.kla_obj "<lambda>" (X.env.qual ++ "<lambda>") prs bd sco (cloFrom X.env.cells sco.names []) pm b ctv) → H1 f = none → f ∉ frs X.stack → Q (.ref f) s') :
    wpAny (model X.prog X.w) X.A (eval (.Lambda prs bd sco lp) X.env) Q E s := by
  refine PySem.W.kla_eval hd0 ?_
  have onBlt : s.heap.BuiltinsAt X.mg P := tb.bm.keeps iv.bk
  have atP : s.heap.get? P = some { cls := .none, data := .fields tbl } := iv.hok P _ hP
  have apart : ∀ b, s.heap.objs.size ≤ b → b ∉ frs X.stack := fun b le m => by
    rcases List.mem_cons.mp (iv.stkSub _ m) with eq | m2
    · have lt := iv.lt
      rw [← eq] at lt
      exact Nat.lt_irrefl _ (Nat.lt_of_lt_of_le lt le)
    · exact iv.nofs le m2
  rcases found : codeAmong lp tbl.toList with _ | cv
  · refine PySem.W.kla_makeFunction (mg := X.mg) (c := c) (P := P) (ps := tbl) (closure_ok hfr) iv.ok.glob (iv.mod.glob.keeps iv.bk) hc0 (tb.code.keeps iv.bk) atP trip found tb.gP onBlt fun b ctv h' tk keeps ge lt rec_ grown => ?_
    obtain ⟨b2, ob, fl, nt, eb, g1, g2, g3⟩ := rec_
    cases eb
    have le : s.heap.objs.size ≤ h'.objs.size := Nat.le_trans ge (Nat.le_of_lt lt)
    have fresh : H b = none := iv.hok.fresh ge
    have nf : h'.objs.size ≠ b := Nat.ne_of_gt lt
    have nP : h'.objs.size ≠ P := Nat.ne_of_gt (Nat.lt_of_lt_of_le (Heap.lt_size atP) le)
    refine fin h'.objs.size b ((X.mg "__name__").getD .none) ctv _ _ (inv_table (t' := tk) (more := #[rawInt lp.line, rawInt lp.col, .ref b]) (h' := h'.push (PySem.W.kla_obj "<lambda>" (X.env.qual ++ "<lambda>") prs bd sco (cloFrom X.env.cells sco.names []) ((X.mg "__name__").getD .none) b ctv)) iv hP
      (fun y oy ny ey => Heap.get?_push_of_some _ (keeps y oy ny ey)) (Heap.get?_push_of_some _ grown) ge ⟨ob, fl, nt, Heap.get?_push_of_some _ g1, g2, g3⟩) (.inr ⟨fresh, lp, rfl⟩) (Heap.get?_push_size _ rfl) ?_ (apart _ le)
    rw [upd_ne nf, upd_ne nP]
    exact iv.hok.fresh le
  · obtain ⟨b, eb, hb⟩ := names lp cv found
    subst eb
    refine PySem.W.kla_makeFunctionHit (mg := X.mg) (c := c) (P := P) (ps := tbl) (closure_ok hfr) iv.ok.glob (iv.mod.glob.keeps iv.bk) hc0 (tb.code.keeps iv.bk) atP trip found onBlt fun ctv h' tk keeps le => ?_
    exact fin h'.objs.size b ((X.mg "__name__").getD .none) ctv H _ (iv.kept fun y oy ey => Heap.get?_push_of_some _ (keeps y oy ey)) (.inl ⟨rfl, lp, found⟩) (Heap.get?_push_size _ rfl) (iv.hok.fresh le) (apart _ le)
end

/-- what is told of tables, in deep values: SatM goes over the making -/
theorem SatM.made {K : PySem.W.Frag} {I H H1 : Hp} {μ : Mu} {P c : Addr} {q : Str} {tbl : Array Value} (S : SatM K I μ H) (hm : μ P = some (.tab q)) (hP : H P = some (.tbl tbl)) (md : Made H H1 P c q tbl) :
    ∃ I1, Same I I1 ∧ SatM K I1 μ H1 ∧ I1 c = some (CodeO c q) := by
  obtain ⟨h0, ps, h1, h2, h3⟩ := S.mu P _ hm
  rw [hP] at h1
  cases h1
  rcases md with ⟨rfl, at_, e⟩ | ⟨n, at_, rfl⟩
  · obtain ⟨b, e1, e2⟩ := h3 at_ _ e
    cases e1
    exact ⟨I, Same.refl I, S, e2⟩
  · have nPc : P ≠ c := ne_of_none hP n
    have S1 : SatM K I (mset μ P (.oth (.tbl (tbl ++ #[rawInt at_.line, rawInt at_.col, .ref c])))) (upd H P (.tbl (tbl ++ #[rawInt at_.line, rawInt at_.col, .ref c]))) := S.setM h0 upd_same
    have n1 : upd H P (.tbl (tbl ++ #[rawInt at_.line, rawInt at_.col, .ref c])) c = none := by rw [upd_ne (Ne.symm nPc)]; exact n
    obtain ⟨s1, S2⟩ := S1.newI n1 (CodeO c q)
    have cI : upd I c (CodeO c q) c = some (CodeO c q) := upd_same
    refine ⟨_, s1, ?_, cI⟩
    have hI : upd I c (CodeO c q) P = none := by rw [upd_ne nPc]; exact h0
    have eL : (tbl ++ #[rawInt at_.line, rawInt at_.col, .ref c]).toList = tbl.toList ++ [rawInt at_.line, rawInt at_.col, .ref c] := by simp
    refine ⟨S2.ex, fun a m e => ?_⟩
    by_cases ha : a = P
    · subst ha
      rw [hm] at e
      cases e
      refine ⟨hI, _, by rw [upd_ne nPc]; exact upd_same, by rw [eL]; exact PySem.TriplesOk_snoc _ _ _ _ h2, fun pos cv hc => ?_⟩
      rw [eL] at hc
      rcases among_app _ h2 hc with z | z
      · obtain ⟨b, e1, e2⟩ := h3 pos cv z
        exact ⟨b, e1, s1 _ _ e2⟩
      · exact ⟨c, z, cI⟩
    · exact S2.mu a m (by rw [mset_ne ha]; exact e)
end Wl

set_option Elab.async false
set_option linter.all false
set_option maxRecDepth 100000
set_option maxHeartbeats 4000000
/-! defs that call what they got within a try -/
namespace Wl
open PySem PySem.Spec L2 PyProof.Rows LamX

abbrev DTL := DX → Mu → DV → Prop
def RelTl (K : PySem.W.Frag) (I : Hp) (tl : XK → Hp → VK → Prop) (td : DTL) : Prop :=
  ∀ I' μ H E E' Q Q', Same I I' → SatM K I' μ H → td E μ Q → UpX K I' E E' → Up K I' Q Q' → tl E' H Q'
def TTD (K : PySem.W.Frag) (tt : DTL → Mu → DV → Prop) : (XK → Hp → VK → Prop) → Hp → VK → Prop := fun tl H Q =>
  ∃ I μ Qd td, SatM K I μ H ∧ RelTl K I tl td ∧ tt td μ Qd ∧ Up K I Qd Q

/-- the suite's wish for the class C (its dict at d): n slots, the exception in slot i -/
def caught (isx : Addr → Str → Option Bool) (cs : Str) (n i : Nat) (ts : Addr → Addr → Option Addr → DS) (Q : DV) : DX := fun C d μ =>
  isx C cs = some true ∧ ∀ a, μ a = none → ts a C d { nx := fun _ μ2 => Q .non μ2, rt := Q } ((List.replicate n none).set i (some (.ref a))) μ
/-- try: a() / except x as e: suite / return None -/
def ttR (isx : Addr → Str → Option Bool) (cs : Str) (n i : Nat) (ts : Addr → Addr → Option Addr → DS) : DTL → Mu → DV → Prop := fun td μ Q =>
  td (caught isx cs n i ts Q) μ fun _ μ1 => Q .non μ1
/-- try: return a() / except x as e: suite -/
def ttT (isx : Addr → Str → Option Bool) (cs : Str) (n i : Nat) (ts : Addr → Addr → Option Addr → DS) : DTL → Mu → DV → Prop := fun td μ Q =>
  td (caught isx cs n i ts Q) μ Q

abbrev sgC (P : Program) (w : World) (K : PySem.W.Frag) (mg : Str → Option Value) (base : Heap) (N : List Str) (J : Hp) : Sg :=
  ⟨P, w, K, mg, base, 0, N, J, fun _ _ _ _ => False, fun _ _ _ _ => False, fun _ _ _ _ _ _ _ _ _ _ h => h, true⟩

section
variable {X : Cx}
/-- the suite as a statement list of the hand layer -/
def tsH (K : PySem.W.Frag) (n : Nat) (isx : Addr → Str → Option Bool) (cs : Str) (ts : Addr → Addr → Option Addr → DS) : Addr → Value → Option Addr → TS := fun a cls d D σ H =>
  ∃ C I δ μ Dd, cls = .ref C ∧ isx C cs = some true ∧ SatM K I μ H ∧ (σ.length = n → RepS K I δ σ) ∧ ts a C d Dd δ μ ∧ UpE K I Dd D
theorem suite_runs {X : Cx} {isx : Addr → Str → Option Bool} {cs : Str} {ts : Addr → Addr → Option Addr → DS} {st : List Stmt} {a : Addr} {oe : Obj} {cls : Value} {d : Option Addr} {pn : List (Addr × Obj)} (hu : X.A.units + 64 < cLine)
    (hz : Zc cls d oe) (hf : ∃ vs, oe.data = .fields vs)
    (hsu : ∀ (J : Hp) (C : Addr), isx C cs = some true → Zc (.ref C) d oe → Is (sgC X.prog X.w X.K X.mg X.base X.N J) (X.suite a ((a, oe) :: pn)) → WSs (sgC X.prog X.w X.K X.mg X.base X.N J) (fun _ : Unit => X.suite a ((a, oe) :: pn)) st (ts a C d)) :
    PSs (X.suite a ((a, oe) :: pn)) st (tsH X.K X.N.length isx cs ts a cls d) := by
  refine ⟨fun pins s σ H D iv h => ?_⟩
  obtain ⟨C, I, δ, μ, Dd, rfl, hx, SM, RS, ht, up⟩ := h
  have is : Is (sgC X.prog X.w X.K X.mg X.base X.N I) (X.suite a ((a, oe) :: pn)) := ⟨rfl, rfl, rfl, rfl, rfl, rfl, fun z => absurd z (by simp), fun z => absurd z (by simp), L2.takes0, PassesOwn.never, hu⟩
  obtain ⟨te, h1, h2⟩ := hsu I C hx hz is
  exact (h1 () is).run pins s σ H D iv (h2 I δ μ σ H (Same.refl I) SM (RS iv.len) Dd D ht up)

theorem rep_none {K : PySem.W.Frag} {I : Hp} {n : Nat} {σ : L2.St} (h : σ.length = n) : RepS K I (List.replicate n none) σ := by
  refine ⟨by simp [h], fun i d e => ?_⟩
  have := List.mem_of_getElem? e
  simp at this
end

section
variable {X : Cx} {Ng : List Str} {x a ec en q : Str} {sg : Scope} {g CS : Addr} {cdg : Value} {i : Nat} {b0 : Stmt} {suite : List Stmt} {isx : Addr → Str → Option Bool} {ts : Addr → Addr → Option Addr → DS} {p1 p2 p3 p4 p5 p6 p7 p8 : Pos}
/-- what is asked of such a def -/
structure TryD (X : Cx) (Ng : List Str) (x ec en : Str) (sg : Scope) (g : Addr) (cdg : Value) (CS : Addr) (i : Nat) (b0 : Stmt) (suite : List Stmt) (isx : Addr → Str → Option Bool) (ts : Addr → Addr → Option Addr → DS) : Prop where
  hge : sg.names.lookup ec = some .globalImplicit
  hme : X.mg ec = some (.ref CS)
  hde : (ec == ("__debug__" : Str)) = false
  hN : Ng.Nodup
  hi : Ng[i]? = some en
  hl : sg.names.lookup en = some .local
  hlen : 1 ≤ Ng.length
  hu : X.A.units + 67 < cLine
  hcs : ∀ C, isx C ec = some true → PySem.W.exmOne X.K (.ref C) (.ref CS) = some true
  hsu : ∀ (s : Shared) (H : Hp) (a : Addr) (oe : Obj) (C : Addr) (d : Option Addr) (pn : List (Addr × Obj)) (J : Hp), isx C ec = some true → Zc (.ref C) d oe → (∃ vs, oe.data = .fields vs) →
      Is (sgC X.prog X.w X.K X.mg X.base Ng J) ((cxOf C8.CX0 X.prog X.w X.K X.mg X.base Ng x sg g cdg X.A X.stack s H C8.E0).nox.suite a ((a, oe) :: pn)) →
      WSs (sgC X.prog X.w X.K X.mg X.base Ng J) (fun _ : Unit => (cxOf C8.CX0 X.prog X.w X.K X.mg X.base Ng x sg g cdg X.A X.stack s H C8.E0).nox.suite a ((a, oe) :: pn)) (b0 :: suite) (ts a C d)
theorem try_runs (T : TryD X Ng x ec en sg g cdg CS i b0 suite isx ts) {s : Shared} {H : Hp} {st : Stmt} {tb : XK → TS}
    (hb : ∀ (W : WX) (pn : List (Addr × Obj)) (xe : Value → Shared → Prop) (E : XK), Takes ((cxOf C8.CX0 X.prog X.w X.K X.mg X.base Ng x sg g cdg X.A X.stack s H C8.E0).nox.tr pn xe) W → (∀ cls d σ' H', E cls d H' → W cls d σ' H') →
      PSs ((cxOf C8.CX0 X.prog X.w X.K X.mg X.base Ng x sg g cdg X.A X.stack s H C8.E0).nox.tr pn xe) [st] (tb E)) :
    PS (cxOf C8.CX0 X.prog X.w X.K X.mg X.base Ng x sg g cdg X.A X.stack s H C8.E0).nox (.Try [st] [.ExceptHandler (some (.Name ec p4)) (some en) (b0 :: suite) p7] [] [] p8)
      (fun D σ H => ∃ E : XK, (∀ cls d σ' H', E cls d H' → wAs X.K (.ref CS) i (tsH X.K Ng.length isx ec ts) (fun _ _ _ _ => False) D cls d σ' H') ∧ tb E D σ H) := by
  have hgl : Gl (cxOf C8.CX0 X.prog X.w X.K X.mg X.base Ng x sg g cdg X.A X.stack s H C8.E0).nox ec := T.hge
  have hu : X.A.units + 3 + 64 < cLine := by have := T.hu; omega
  exact ps_try_as (X := (cxOf C8.CX0 X.prog X.w X.K X.mg X.base Ng x sg g cdg X.A X.stack s H C8.E0).nox) (c := .ref CS) (tb := fun W D σ H => ∃ E : XK, (∀ cls d σ' H', E cls d H' → W cls d σ' H') ∧ tb E D σ H)
      (ts := tsH X.K Ng.length isx ec ts) rfl rfl T.hN T.hi T.hl ⟨hgl, T.hde, .inl T.hme⟩ L2.takes0
      (fun W pn xe tk _ => ⟨fun pins s' σ H' D iv ⟨E, h1, h2⟩ => (hb W pn xe E tk h1).run pins s' σ H' D iv h2⟩)
      (fun a oe cls d pn hz hf => suite_runs (X := (cxOf C8.CX0 X.prog X.w X.K X.mg X.base Ng x sg g cdg X.A X.stack s H C8.E0).nox) hu hz hf fun J C hx hz' is => T.hsu s H a oe C d pn J hx hz' hf is)
theorem caught_as {K : PySem.W.Frag} (T : TryD X Ng x ec en sg g cdg CS i b0 suite isx ts) (eK : X.K = K) {I I' : Hp} {μ' : Mu} {H' : Hp} {C : Addr} {d : Option Addr} {Q : DV} {Q' : VK} {D : Ends} {σ : L2.St} (e : Same I I') (SM : SatM K I' μ' H') (h : caught isx ec Ng.length i ts Q C d μ') (up : Up K I Q Q')
    (hnx : D.nx = fun _ H2 => Q' .non H2) (hrt : D.rt = Q') : wAs X.K (.ref CS) i (tsH X.K Ng.length isx ec ts) (fun _ _ _ _ => False) D (.ref C) d σ H' := by
  subst eK
  obtain ⟨h1, h2⟩ := h
  refine ⟨true, T.hcs C h1, fun _ a na => ?_, fun z => by cases z⟩
  have nm : μ' a = none := by
    cases z : μ' a with
    | none => rfl
    | some m =>
      obtain ⟨o, ho⟩ := (SM.memo z).some
      rw [na] at ho
      cases ho
  refine ⟨C, I', _, μ', _, rfl, h1, SM, fun hl => (rep_none (by simpa using hl)).set i (.ref a), h2 a nm, ⟨?_, ?_, ?_, ?_⟩⟩
  · exact fun I2 δ2 σ2 μ2 H2 e2 S2 r2 q2 => by
      show D.nx _ _
      rw [hnx]
      exact up I2 .non .non μ2 H2 (e.trans e2) S2 .non q2
  · exact fun I2 v2 u2 μ2 H2 e2 S2 r2 q2 => by
      show D.rt _ _
      rw [hrt]
      exact up I2 v2 u2 μ2 H2 (e.trans e2) S2 r2 q2
  · exact fun _ _ _ _ _ _ _ _ q2 => q2.elim
  · exact fun _ _ _ _ _ _ _ _ q2 => q2.elim
theorem gives_raised (T : TryD X Ng x ec en sg g cdg CS i b0 suite isx ts) {a : Str} {j : Nat} :
    GivesTo X Ng x sg g cdg [.Try [.Expr (.Call (.Name a p1) [] [] p2) p3] [.ExceptHandler (some (.Name ec p4)) (some en) (b0 :: suite) p7] [] [] p8, .Return (some (.Constant .none j p5)) p6] a q (TTD X.K (ttR isx ec Ng.length i ts)) := by
  intro f c' s H Q tl act hc h
  obtain ⟨I, μ, Qd, td, SM, rel, ht, up⟩ := h
  have hrun := try_runs (x := x) (g := g) (cdg := cdg) (p4 := p4) (p7 := p7) (p8 := p8) T (s := s) (H := H) (st := .Expr (.Call (.Name a p1) [] [] p2) p3) (tb := fun E D σ H => σ[0]? = some (some (.ref f)) ∧ H c' = some (CodeO c' q) ∧ tl E H fun _ H' => D.nx σ H')
    (fun W pn xe E tk hW => pss_one (ps_expr (act W pn xe E p1 p2 tk hW)))
  refine ⟨_, pss_cons hrun (pss_one (ps_ret (pos := p6) pe_non)), ?_⟩
  refine ⟨fun cls d H' => ∃ C I' μ', cls = .ref C ∧ Same I I' ∧ SatM X.K I' μ' H' ∧ caught isx ec Ng.length i ts Qd C d μ', fun cls d σ' H' ⟨C, I', μ', e1, e2, e3, e4⟩ => ?_, ?_, hc, ?_⟩
  · subst e1
    exact caught_as T rfl e2 e3 e4 up rfl rfl
  · have hl := T.hlen
    unfold L2.start
    simp
  · exact rel I μ H _ _ _ _ (Same.refl I) SM ht (fun I' C d μ' H' e' S' q' => ⟨C, I', μ', rfl, e', S', q'⟩) fun I' v u μ' H' e' S' r' q' => up I' .non .non μ' H' e' S' .non q'
theorem gives_told (T : TryD X Ng x ec en sg g cdg CS i b0 suite isx ts) {a : Str} :
    GivesTo X Ng x sg g cdg [.Try [.Return (some (.Call (.Name a p1) [] [] p2)) p3] [.ExceptHandler (some (.Name ec p4)) (some en) (b0 :: suite) p7] [] [] p8] a q (TTD X.K (ttT isx ec Ng.length i ts)) := by
  intro f c' s H Q tl act hc h
  obtain ⟨I, μ, Qd, td, SM, rel, ht, up⟩ := h
  have hrun := try_runs (x := x) (g := g) (cdg := cdg) (p4 := p4) (p7 := p7) (p8 := p8) T (s := s) (H := H) (st := .Return (some (.Call (.Name a p1) [] [] p2)) p3) (tb := fun E D σ H => σ[0]? = some (some (.ref f)) ∧ H c' = some (CodeO c' q) ∧ tl E H D.rt)
    (fun W pn xe E tk hW => pss_one (ps_ret (act W pn xe E p1 p2 tk hW)))
  refine ⟨_, pss_one hrun, ?_⟩
  refine ⟨fun cls d H' => ∃ C I' μ', cls = .ref C ∧ Same I I' ∧ SatM X.K I' μ' H' ∧ caught isx ec Ng.length i ts Qd C d μ', fun cls d σ' H' ⟨C, I', μ', e1, e2, e3, e4⟩ => ?_, ?_, hc, ?_⟩
  · subst e1
    exact caught_as T rfl e2 e3 e4 up rfl rfl
  · have hl := T.hlen
    unfold L2.start
    simp
  · exact rel I μ H _ _ _ _ (Same.refl I) SM ht (fun I' C d μ' H' e' S' q' => ⟨C, I', μ', rfl, e', S', q'⟩) up
end
end Wl

set_option Elab.async false
set_option linter.all false
set_option maxRecDepth 100000
set_option maxHeartbeats 4000000
/-! the call of such a def with a lambda -/
namespace Wl
open PySem PySem.Spec L2 PyProof.Rows LamX

/-- a def x that calls what it got, as the top has left it -/
structure TellD (P : Program) (w : World) (K : PySem.W.Frag) (mg : Str → Option Value) (base : Heap) (x : Str) (tt : DTL → Mu → DV → Prop) : Prop where
  ex : ∃ (g : Addr) (pg : Arguments) (bg : List Stmt) (sg : Scope) (dV kV doc pm cdv ct oc : Value) (an od : Option Addr) (osl : Array (Option Value)) (Ng : List Str) (a : Str),
    mg x = some (.ref g) ∧ PySem.W.keepIn K (.ref g) = true ∧ K.lookup g = some ⟨oc, od, .func (PySem.W.fnOf x x pg bg sg dV kV doc pm an cdv ct), osl⟩ ∧ PySem.W.codeIn K cdv x = true ∧
    L2.Binds K (PySem.W.fnOf x x pg bg sg dV kV doc pm an cdv ct) [a] [] ∧ FnScope Ng [a] sg ∧ Ng[0]? = some a ∧ Vis sg a ∧ (a == ("__debug__" : Str)) = false ∧ (a == ("__classdict__" : Str)) = false ∧
    ∀ (X : Cx) (q : Str), X.prog = P → X.w = w → X.K = K → X.mg = mg → X.base = base → X.A.units + 67 < cLine → GivesTo X Ng x sg g cdv bg a q (TTD K tt)

def vLam (P : Addr) (q : Str) (tt : DTL → Mu → DV → Prop) (t : DXS → DE) : DE := fun δ μ Q =>
  μ P = some (.tab q) ∧ tt (fun E μ1 Q1 => t (fun C d _ μ2 => E C d μ2) δ μ1 Q1) μ Q

section
variable {S : Sg} {ι : Type} {F : ι → Cx} {pos p lpos : Pos}
/-- the lambda's body as a reading of the hand layer -/
def tBody (K : PySem.W.Frag) (t : DXS → DE) : XK → TE := fun E σ H Q =>
  ∃ I δ μ ED QD, SatM K I μ H ∧ RepS K I δ σ ∧ t (fun C d _ μ2 => ED C d μ2) δ μ QD ∧ UpX K I ED E ∧ Up K I QD Q
def tLamD (K : PySem.W.Frag) (P : Addr) (q : Str) (tt : DTL → Mu → DV → Prop) (t : DXS → DE) : TE := fun σ H Q =>
  ∃ I δ μ QD, SatM K I μ H ∧ RepS K I δ σ ∧ vLam P q tt t δ μ QD ∧ Up K I QD Q
theorem we_lam {x q : Str} {tt : DTL → Mu → DV → Prop} {t : DXS → DE} {c P : Addr} {k : Nat} {prs : Arguments} {bd : Expr} {sco : Scope} (T : TellD S.P S.w S.K S.mg S.base x tt) (tb : TabB S.base S.mg c P) (hk : k + 2 ≤ S.k)
    (body : ∀ (E : XK) (J : Hp) (E2 : DXS) tr, WE ⟨S.P, S.w, S.K, S.mg, S.base, k, S.N, J, fun cls d _ H => E cls d H, E2, tr, false⟩ (fun j : ι × Around × List Env × Shared × Hp × Addr × Addr => lamCx (F j.1) j.2.1 j.2.2.1 j.2.2.2.1 j.2.2.2.2.1 E sco j.2.2.2.2.2.1 j.2.2.2.2.2.2) bd (t E2))
    (hc0 : ∀ i, (F i).env.code = .ref c := by exact fun _ => rfl) (hq : ∀ i, (F i).env.qual ++ "<lambda>" = q := by exact fun _ => rfl) (hL : ∀ i, LamS (F i).env.scope sco := by exact fun _ => lamS_by (by decide)) (hdef : ∀ env : Env, defaultsOf prs env = ([], []) := by exact fun _ => rfl)
    (hbind : ∀ (q : Str) (cl : List (Str × Addr)) (pm cv ctv : Value), bindArgs (PySem.W.kla_fn "<lambda>" q prs bd sco cl pm cv ctv) ⟨[], []⟩ = pure [] := by exact fun _ _ _ _ _ => rfl)
    (hg : ∀ j, Gl (F j) x := by exact fun _ => rfl) (hdb : (x == ("__debug__" : Str)) = false := by decide) (hcold : S.cold = false := by rfl)
    (hst : ∀ env : Env, starEach [.Lambda prs bd sco lpos] env = (false, eval (.Lambda prs bd sco lpos) env) :: starEach [] env := by exact fun _ => rfl) (hpl : ∀ env : Env, (backTo pos (starEach [] env)).any (·.1) = false := by exact fun _ => rfl) :
    WE S F (.Call (.Name x p) [.Lambda prs bd sco lpos] [] pos) (vLam P q tt t) := by
  refine ⟨tLamD S.K P q tt t, fun i hi => ?_, fun I δ μ σ H hJ SM hS Q Q' h u => ⟨I, δ, μ, Q, SM, hS, h, u⟩⟩
  obtain ⟨P0, w, K, mg, base, kk, N, J, W, E2, tr, cold⟩ := S
  obtain ⟨h1, h2, h3, h4, h5, h6, h7, h8, h9, h10, h11⟩ := id hi
  have r8 := h8 hcold
  dsimp only at h1 h2 h3 h4 h5 h6 r8 h9 T tb hk body ⊢
  subst h1 h2 h3 h4 h5 h6
  obtain ⟨g, pg, bg, sg, dV, kV, doc, pm, cdv, ct, oc, an, od, osl, Ng, a, m1, m2, m3, m4, m5, m6, m7, m8, m9, m10, m11⟩ := T.ex
  have iq := hq i
  refine ⟨fun pins s σ H Q iv h => ?_⟩
  obtain ⟨I, δ, μ, QD, SM, RS, ⟨hP, htt⟩, up⟩ := h
  obtain ⟨_, tbl, t1, t2, t3⟩ := SM.mu P _ hP
  refine wpAny_Call_Name_kw (ld_glob iv (hg i) m1 (PySem.W.callWith_K (h₀ := (F i).base) iv.ok.mod.kin m2 ?_ (hst _) (hpl _)) hdb)
  rw [hst]
  refine Calls.spliced_cons (lam_made (X := F i) iv tb (hc0 i) t1 t2 (fun at_ v e => let ⟨b, e1, e2⟩ := t3 at_ v e; ⟨b, e1, by rw [iq]; exact SM.ex _ _ e2⟩) (hdef _) ((hL i).has iv.ok) fun f c' pm' ctv H1 s' iv1 md hf hfn hfr => ?_)
  refine Calls.spliced_nil ⟨iv1.kIn, ?_⟩
  rw [iq] at md
  obtain ⟨I1, e1, S1, cI⟩ := SM.made hP t1 md
  have key : codeAny (model (F i).prog (F i).w) (F i).A (.call (.ref g) ⟨[.ref f], []⟩) (CR C8.CX0 (F i).stack (F i).prog (F i).w H1 s' Q C8.E0) s' := by
    refine run_ofS (N := Ng) (ps := [a]) (us := [.ref f]) (vs := [.ref f]) m3 m4 m6 (r8.mono hk) iv1.env0 (m5 s' [.ref f] iv1.kIn rfl) (.cons rfl .nil) rfl fun room => ?_
    have give := m11 (F i) q rfl rfl rfl rfl rfl (by have := r8.un; omega)
    have runs : ∀ (E : XK) (A : Around) (outer : List Env) (s : Shared) (H : Hp), Room k (A.deeper (lamEnv (F i) sco s.heap.objs.size f c')) → PE (lamCx (F i) A outer s H E sco f c') bd (tBody (F i).K t E) := fun E A outer s H rm => by
      refine ⟨fun pins s2 σ2 H2 Q2 iv2 h => ?_⟩
      obtain ⟨I2, δ2, μ2, ED, QD2, SM2, RS2, b1, b2, b3⟩ := h
      obtain ⟨te, x1, x2⟩ := body E I2 (fun C d _ μ => ED C d μ) (fun I' C d δ' μ' σ' H' e' S' R' q' => b2 I' C d μ' H' e' S' q')
      have is : Is ⟨(F i).prog, (F i).w, (F i).K, (F i).mg, (F i).base, k, (F i).N, I2, fun cls d _ H => E cls d H, fun C d _ μ => ED C d μ, fun I' C d δ' μ' σ' H' e' S' R' q' => b2 I' C d μ' H' e' S' q', false⟩ (lamCx (F i) A outer s H E sco f c') :=
        ⟨rfl, rfl, rfl, rfl, rfl, rfl, fun _ => rfl, fun _ => rm, takes_of rfl rfl rfl rfl, passes_of rfl, rm.units⟩
      exact (x1 (i, A, outer, s, H, f, c') is).run pins s2 σ2 H2 Q2 iv2 (x2 I2 δ2 μ2 σ2 H2 (Same.refl I2) SM2 RS2 QD2 Q2 b1 b3)
    obtain ⟨t', y1, y2⟩ := give f c' s' H1 Q (fun E H' Q' => tBody (F i).K t E σ H' Q')
      (fun W pn xe E p1 p2 tk hW => by
        have z := pe_act (i := 0) (p1 := p1) (p2 := p2) iv1 (hL i) hf hfn hfr (hbind _ _ _ _ _) tk hW room (fun A outer s H rm => runs E A outer s H rm) m7 m8 m9 m10
        rw [iq] at z
        exact z) (S1.ex _ _ cI)
      ⟨I1, μ, QD, _, S1, fun I' μ' H' E E' Q2 Q3 e' S' h2 ux u2 => ⟨I', δ, μ', E, Q2, S', RS.mono (e1.trans e'), h2, ux, u2⟩, htt, fun I' v u' μ' H' e' => up I' v u' μ' H' (e1.trans e')⟩
    exact ⟨t', y1.nox, y2⟩
  refine wpAny_call (codeAny_mono key fun r s2 out => ?_)
  rcases r with e | fl
  · exact (show False from out).elim
  · cases fl with
    | ret u => exact iv1.after out
    | next => exact False.elim out
    | brk => exact False.elim out
    | cont => exact False.elim out
end
end Wl

set_option Elab.async false
set_option linter.all false
set_option maxRecDepth 100000
set_option maxHeartbeats 4000000
/-! raise, of own exceptions -/
namespace Wl
open PySem PySem.Spec L2 PyProof.Rows

def flds {α : Type} (ns : List Str) (xs : List α) : List (Str × α) := (ns.zip xs).reverse
/-- the promise of such an __init__ -/
def spI (C : Addr) (ns : List Str) : Sp := fun vs H Q _ => ∃ a ws, vs = .ref a :: ws ∧ ws.length = ns.length ∧ H a = some (exo a C none) ∧ ∀ d, H d = none → d ≠ a → Q .non (upd (upd H d (exd d (flds ns ws))) a (exo a C (some d)))
structure OexF (P : Program) (w : World) (K : PySem.W.Frag) (mg : Str → Option Value) (base : Heap) (k : Nat) (x : Str) (C : Addr) (ns : List Str) : Prop where
  ex : ∃ (fI : Addr) (fd : FuncData) (ps : List Str), OexC K C ∧ PySem.W.findIn K (.ref C) "__init__" = some (some (.ref fI)) ∧ PySem.W.typeIn K (.ref fI) = some (.type "function") ∧ FnOk P w K mg base (L2.CX P w) k fI fd ps (spI C ns) ∧ L2.Binds K fd ps [] ∧ mg x = some (.ref C)
def vRaise (E2 : DXS) (C : Addr) (ns : List Str) (t : DA) : DS := fun _ δ μ => t δ μ fun xs μ1 => xs.length = ns.length ∧ ∀ d, μ1 d = none → E2 C (some d) δ (mset μ1 d (.xd (flds ns xs)))

theorem RepL.flds {K : PySem.W.Frag} {I : Hp} {xs : List Dv} {vs : List V} : ∀ {ns : List Str}, RepL K I xs vs → RepP K I (flds ns xs) (flds ns vs) := by
  have app : ∀ {as cs : List (Str × Dv)} {bs ds : List (Str × V)}, RepP K I as bs → RepP K I cs ds → RepP K I (as ++ cs) (bs ++ ds) := by
    intro as cs bs ds h1 h2
    induction h1 with
    | nil => exact h2
    | cons h _ ih => exact .cons h ih
  have rev : ∀ {as : List (Str × Dv)} {bs : List (Str × V)}, RepP K I as bs → RepP K I as.reverse bs.reverse := by
    intro as bs h
    induction h with
    | nil => exact .nil
    | cons h _ ih => rw [List.reverse_cons, List.reverse_cons]; exact app ih (.cons h .nil)
  intro ns r
  refine rev ?_
  revert xs vs
  induction ns with
  | nil => intro xs vs r; exact .nil
  | cons n ns ih =>
    intro xs vs r
    cases r with
    | nil => exact .nil
    | cons h t => exact .cons ⟨rfl, h⟩ (ih t)

section
variable {S : Sg} {ι : Type} {F : ι → Cx} {pos p rpos : Pos}
theorem ws_raise {x : Str} {C : Addr} {ns : List Str} {k : Nat} {e : Expr} {es : List Expr} {t : DA} (O : OexF S.P S.w S.K S.mg S.base k x C ns) (hk : k + 1 ≤ S.k) (hn : ns.length ≤ 900) (ha : WA S F (e :: es) t) (hg : ∀ j, Gl (F j) x := by exact fun _ => rfl)
    (hdb : (x == ("__debug__" : Str)) = false := by decide) (he : ∀ env : Env, starEach (e :: es) env = (false, eval e env) :: starEach es env := by exact fun _ => rfl) (hpl : ∀ env : Env, (backTo pos (starEach es env)).any (·.1) = false := by exact fun _ => rfl) (hcold : S.cold = false := by rfl) :
    WS S F (.Raise (some (.Call (.Name x p) (e :: es) [] pos)) none rpos) (vRaise S.E2 C ns t) := by
  obtain ⟨ta, a1, a2⟩ := ha
  obtain ⟨fI, fd, ps, T, o2, o3, o4, o5, o6⟩ := O.ex
  refine ⟨fun _ σ H => tMkO C (spI C ns) [] ta σ H fun cls d H' => S.W cls d σ H', fun i hi => ?_, fun I δ μ σ H hJ SM hS D D' q u => ?_⟩
  · obtain ⟨P0, w, K, mg, base, kk, N, J, W, E2, tr, cold⟩ := S
    obtain ⟨h1, h2, h3, h4, h5, h6, h7, h8, h9, h10, h11⟩ := id hi
    have r8 := h8 hcold
    have c7 := h7 hcold
    dsimp only at h1 h2 h3 h4 h5 h6 r8 h9 T o2 o3 o4 o5 o6 hk ⊢
    subst h1 h2 h3 h4 h5
    exact ps_raise c7 h9 (pmk_oex T o2 o3 o4 (r8.mono hk) o5 .nil (L2.passes_call h9 (fun _ _ _ _ z => z.elim)) (hg i) o6 (a1 i hi) hdb (he _) (hpl _))
  · refine a2 I δ μ σ H hJ SM hS _ _ q fun I1 xs vs μ1 H1 e1 S1 r1 q1 => ?_
    obtain ⟨q2, q3⟩ := q1
    have hl : vs.length = ns.length := by rw [← r1.length]; exact q2
    refine ⟨by omega, fun a na => ?_⟩
    refine ⟨a, vs ++ [], rfl, by simpa using hl, upd_same, fun d nd ne => ⟨rfl, d, flds ns (vs ++ []), upd_same, by rw [upd_ne ne]; exact upd_same, by rw [upd_ne ne] at nd; exact nd, ?_⟩⟩
    have nd1 : H1 d = none := by rw [upd_ne ne] at nd; exact nd
    have eq : upd (L2.del (upd (upd (upd H1 a (exo a C none)) d (exd d (flds ns (vs ++ [])))) a (exo a C (some d))) a) d (.xd (flds ns (vs ++ []))) = upd H1 d (.xd (flds ns vs)) := by
      funext b
      by_cases hb : b = d
      · rw [hb, upd_same, upd_same, List.append_nil]
      · rw [upd_ne hb, upd_ne hb]
        by_cases hb2 : b = a
        · rw [hb2, L2.del_same, na]
        · rw [L2.del_ne hb2, upd_ne hb2, upd_ne hb, upd_ne hb2]
    rw [eq]
    have nm : μ1 d = none := by
      cases z : μ1 d with
      | none => rfl
      | some m =>
        obtain ⟨o, ho⟩ := (S1.memo z).some
        rw [nd1] at ho
        cases ho
    exact S.tr I1 C (some d) δ _ σ _ (hJ.trans e1) (S1.setM (m := .xd (flds ns xs)) (S1.ex.free nd1) ⟨flds ns vs, r1.flds, upd_same⟩) (hS.mono e1) (q3 d nm)
/-- an own class without an own __init__, made with a text -/
def vRaise0 (E2 : DXS) (C : Addr) : DS := fun _ δ μ => E2 C none δ μ
theorem ws_raise0 {x m : Str} {C : Addr} {j : Nat} {p2 : Pos} {newId initId B : String} {bmB : List Value} (Fb : ExcBaseFacts B newId initId bmB) (q : PySem.W.excIn S.K C bmB newId = true) (gC : S.mg x = some (.ref C)) (kC : PySem.W.keepIn S.K (.ref C) = true) (exC : PySem.W.subIn S.K (.ref C) (.type "BaseException") = some true) (tyC : PySem.W.typeIn S.K (.ref C) = some (.type "type"))
    (hg : ∀ j, Gl (F j) x := by exact fun _ => rfl) (hdb : (x == ("__debug__" : Str)) = false := by decide) (hcold : S.cold = false := by rfl) :
    WS S F (.Raise (some (.Call (.Name x p) [.Constant (.str m) j p2] [] pos)) none rpos) (vRaise0 S.E2 C) := by
  refine ⟨fun _ σ H => S.W (.ref C) none σ H, fun i hi => ?_, fun I δ μ σ H hJ SM hS D D' q u => S.tr I C none δ μ σ H hJ SM hS q⟩
  obtain ⟨P0, w, K, mg, base, kk, N, J, W, E2, tr, cold⟩ := S
  obtain ⟨h1, h2, h3, h4, h5, h6, h7, h8, h9, h10, h11⟩ := id hi
  have c7 := h7 hcold
  dsimp only at h1 h2 h3 h4 h5 h6 h9 q gC kC exC tyC ⊢
  subst h1 h2 h3 h4 h5
  exact ps_raise c7 h9 (pmk_own Fb q gC kC (raises_own exC tyC) (hg i) hdb)
end

/-- an __init__ that says super().__init__("..") and stores its argument -/
theorem oex_one {P : Program} {w : World} {K : PySem.W.Frag} {mg : Str → Option Value} {base : Heap} {C f cc : Addr} {x name qual fn m : Str} {params : Arguments} {scope : Scope} {dV kV doc pm cdv ct oc : Value} {an od : Option Addr} {osl : Array (Option Value)} {j : Nat} {p0 p1 p2 p3 p4 p5 p6 p7 p8 p9 : Pos} {pl : Addr → Sem Bool}
    (lk : K.lookup f = some ⟨oc, od, .func (PySem.W.ksFn name qual params [.Expr (.Call (.Attribute (.Call (.Name "super" p0) [] [] p1) "__init__" p2) [.Constant (.str m) j p5] [] p3) p4, .Assign [.Attribute (.Name "self" p6) fn p7] (.Name fn p8) p9] scope dV kV doc pm an cdv ct cc), osl⟩)
    (hcd : PySem.W.codeIn K cdv qual = true) (hfi : fileIn P K cdv = true) (S : ISc ["self", fn] ["self", fn] scope) (T : OexC K C) (U : SupF P K C cc params scope "self") (hms : mg "super" = none)
    (hno : PySem.W.findIn K (.ref C) fn = some none) (hin : PySem.W.findIn K (.ref C) "__init__" = some (some (.ref f))) (hty : PySem.W.typeIn K (.ref f) = some (.type "function")) (hx : mg x = some (.ref C))
    (hb : L2.Binds K (PySem.W.ksFn name qual params [.Expr (.Call (.Attribute (.Call (.Name "super" p0) [] [] p1) "__init__" p2) [.Constant (.str m) j p5] [] p3) p4, .Assign [.Attribute (.Name "self" p6) fn p7] (.Name fn p8) p9] scope dV kV doc pm an cdv ct cc) ["self", fn] [])
    (hev : ∀ (L : Addr), eval (.Call (.Attribute (.Call (.Name "super" p0) [] [] p1) "__init__" p2) [.Constant (.str m) j p5] [] p3) (PySem.W.ksEnv qual scope L f cdv cc) = (do
      let ov ← attributeBase (.Call (.Name "super" p0) [] [] p1) "__init__" (PySem.W.ksEnv qual scope L f cdv cc) (eval (.Call (.Name "super" p0) [] [] p1) (PySem.W.ksEnv qual scope L f cdv cc))
      standAt p2.atName
      let (g, first) ← holding [ov] (getMethod ov "__init__" (pl L))
      callWith p3 g first (backTo p3 (starEach [.Constant (.str m) j p5] (PySem.W.ksEnv qual scope L f cdv cc))) []) := by exact fun _ => rfl)
    (hd : (fn == ("__debug__" : Str)) = false := by decide) (hcd2 : (fn == ("__classdict__" : Str)) = false := by decide) : OexF P w K mg base 1 x C [fn] := by
  refine ⟨f, _, _, T, hin, hty, fn_init (N := ["self", fn]) (ps := ["self", fn]) (k := 0) lk hcd hfi S T U rfl hms (fun vs H Q E h => ?_) (fun A outer s H vs Q E room h => ?_) hev, hb, hx⟩
  · obtain ⟨a, ws, rfl, hl, _⟩ := h
    simpa using hl
  · obtain ⟨a, ws, rfl, hl, ha, hq⟩ := h
    obtain ⟨y, rfl⟩ : ∃ y, ws = [y] := by
      match ws, hl with
      | [y], _ => exact ⟨y, rfl⟩
    have l0 : scope.names.lookup ("self" : Str) = some .local := S.par _ (by simp)
    have l1 : scope.names.lookup fn = some .local := S.par _ (by simp)
    refine ⟨_, _, pa_cons pe_str pa_nil, pss_one (ps_ost (pe_var (i := 0) rfl (.inl l0)) (pe_var (i := 1) rfl (.inl l1) hd hcd2)), a, rfl, ha, ?_⟩
    refine ⟨by simp, ha, ?_⟩
    refine ⟨y, rfl, .ref a, rfl, a, C, rfl, T, hno, .inl ⟨ha, fun dx n ne => hq dx n ne⟩⟩
end Wl

set_option Elab.async false
set_option linter.all false
set_option maxRecDepth 100000
set_option maxHeartbeats 4000000
/-! l.count(x) over data -/
namespace Wl
open PySem PySem.Spec L2 PyProof.Rows
def rCntP (K : PySem.W.Frag) : V → List V → Hp → VK → Prop := fun x xs H Q => ∃ (a : Addr) (y : V) (d : PyData) (ds : List PyData), x = V.ref a ∧ xs = [y] ∧ Dp K H (V.ref a) (.list ds) ∧ Dp K H y d ∧
  PyData.plainAll ds = true ∧ d.plain = true ∧ min (PyData.depthAll ds) d.depth ≤ 60 ∧ Q (.int ((ds.countP fun z => PyData.eqv z d : Nat) : Int)) H
theorem mt_countP {X : Cx} (hu : X.A.units + 64 < cLine) : MtR X "list.count" (rCntP X.K) := by
  intro pns s τ H x xs v us Q I rx rxs h; obtain ⟨a, y, d, ds, rfl, rfl, hl, hy, sl, sd, hz, q⟩ := h
  cases rxs with
  | cons ry rt =>
    cases rt
    obtain ⟨bs, r1⟩ := Dp.reads I d y _ hy ry
    obtain ⟨as, r2⟩ := Dp.reads I (.list ds) _ _ hl rx
    cases rx
    cases r2 with
    | @list _ o vs n _ as ho hc hd hr =>
      exact SeqAt.count_list_data ⟨o, ho, hc, n, hd⟩ hr r1 sl sd (by omega) ⟨.int _, H, I.tok _, ⟨_, rfl⟩, q⟩
/-- l a list, fixed or not -/
def gCnt : DM := fun x ds μ Q => match ds with
  | [y] => ∃ (ys : List Dv), plst μ x = some ys ∧ inOk y ys ∧ Q (.int ((ys.countP fun z => dEq z y : Nat) : Int)) μ
  | _ => False
def gIdxL : DM := fun x ds μ Q => match ds with
  | [y] => ∃ (ys : List Dv) (j : Nat), plst μ x = some ys ∧ inOk y ys ∧ j < 1000000 ∧ (ys.findIdx? fun z => dEq z y) = some j ∧ Q (.int (j : Int)) μ
  | _ => False
theorem count_pds (d : PyData) : ∀ ys : List Dv, ((Dv.pds ys).countP fun z => PyData.eqv z d) = ys.countP fun z => PyData.eqv z.pd d
  | [] => rfl
  | y :: ys => by simp only [Dv.pds, List.countP_cons, count_pds d ys]
section
variable {S : Sg} {ι : Type} {F : ι → Cx} {pos p rpos : Pos}
theorem wm_count : WM S "list.count" gCnt := by
  refine ⟨rCntP S.K, fun X hX => hX.K ▸ mt_countP hX.units, ?_⟩
  intro I μ H _ SM dx x ds vs rx r Q Q' q u
  rcases r with _ | ⟨r1, _ | ⟨r2, r3⟩⟩
  · exact q.elim
  · obtain ⟨ys, em, h1, q4⟩ := q
    obtain ⟨a, ws, rfl, hv, rl⟩ := plst_ok SM rx em
    refine ⟨_, _, _, Dv.pds ys, rfl, rfl, .lst (.inl (.inl hv)) (rl.dp SM.ex _ _ h1.2.1), r1.dp SM.ex _ _ h1.1, Dv.plains ys, Dv.plain _, h1.2.2, u I _ _ μ H (Same.refl I) SM (.int _) ?_⟩
    rw [count_pds]
    exact q4
  · exact q.elim
theorem wm_indexL : WM S "list.index" gIdxL := by
  refine ⟨rIdxP S.K, fun X hX => hX.K ▸ mt_indexP hX.units, ?_⟩
  intro I μ H _ SM dx x ds vs rx r Q Q' q u
  rcases r with _ | ⟨r1, _ | ⟨r2, r3⟩⟩
  · exact q.elim
  · obtain ⟨ys, j, em, h1, h2, h3, q4⟩ := q
    obtain ⟨a, ws, rfl, hv, rl⟩ := plst_ok SM rx em
    exact ⟨_, _, _, Dv.pds ys, j, rfl, rfl, .lst (.inl (.inl hv)) (rl.dp SM.ex _ _ h1.2.1), r1.dp SM.ex _ _ h1.1, Dv.plains ys, Dv.plain _, h1.2.2, (find_pds _ ys).trans h3, h2, u I _ _ μ H (Same.refl I) SM (.int _) q4⟩
  · exact q.elim
theorem we_indexL {o e : Expr} {so : DE} {t : DA} {apos cpos : Pos} (ho : WE S F o so) (ha : WA S F [e] t)
    (hbase : ∀ env, attributeBase o "index" env (eval o env) = eval o env := by exact fun _ => rfl)
    (hfew : ∀ env, ((backTo cpos (starEach [e] env)).all (fun x => !x.1) && (backToKw cpos (keywordEach [] env)).all (fun x => x.1.isSome)
      && decide ([e].length + ([] : List Keyword).length + (if ([] : List Keyword).isEmpty then 0 else 1) < 30)) = true := by exact fun _ => rfl)
    (hline : (apos.endLine == cpos.line) = true := by rfl) (hs : ∀ env, starEach [e] env = (false, eval e env) :: starEach [] env := by exact fun _ => rfl) :
    WE S F (.Call (.Attribute o "index" apos) [e] [] cpos) (vBM "list" gIdxL so t) :=
  we_bm PySem.F.plainAttrs_list PySem.F.slot_list_index PySem.F.type_list_index wm_indexL ho ha hbase hfew hline hs (fun _ => rfl)
theorem we_count {o e : Expr} {so : DE} {t : DA} {apos cpos : Pos} (ho : WE S F o so) (ha : WA S F [e] t)
    (hbase : ∀ env, attributeBase o "count" env (eval o env) = eval o env := by exact fun _ => rfl)
    (hfew : ∀ env, ((backTo cpos (starEach [e] env)).all (fun x => !x.1) && (backToKw cpos (keywordEach [] env)).all (fun x => x.1.isSome)
      && decide ([e].length + ([] : List Keyword).length + (if ([] : List Keyword).isEmpty then 0 else 1) < 30)) = true := by exact fun _ => rfl)
    (hline : (apos.endLine == cpos.line) = true := by rfl) (hs : ∀ env, starEach [e] env = (false, eval e env) :: starEach [] env := by exact fun _ => rfl) :
    WE S F (.Call (.Attribute o "count" apos) [e] [] cpos) (vBM "list" gCnt so t) :=
  we_bm PySem.F.plainAttrs_list PySem.F.slot_list_count PySem.F.type_list_count wm_count ho ha hbase hfew hline hs (fun _ => rfl)
end
end Wl

set_option Elab.async false
set_option linter.all false
set_option maxRecDepth 100000
set_option maxHeartbeats 4000000
/-! a def whose code object is known; the end with a table of code objects -/
namespace Wl
open PySem PySem.Spec L2 PyProof.Rows LamX

/-- a top def with its code object -/
structure TopC (K : PySem.W.Frag) (x qual : Str) (st : Stmt) (f cod : Addr) : Prop where
  a : PySem.W.nsIn K mainGlobals x = some (some (.ref f))
  l : ∃ (oc : Value) (od an : Option Addr) (osl : Array (Option Value)) (kV doc pm ct : Value), K.lookup f = some ⟨oc, od, .func (PySem.W.fnOf x qual (defArgs st) (defBody st) (defScope st) .none kV doc pm an (.ref cod) ct), osl⟩
  c : PySem.W.codeIn K (.ref cod) qual = true
theorem TopC.of {K : PySem.W.Frag} {x qual : Str} {st : Stmt} {f cod : Addr} {oc : Value} {od an : Option Addr} {osl : Array (Option Value)} {kV doc pm ct : Value} (a : PySem.W.nsIn K mainGlobals x = some (some (.ref f)))
    (l : K.lookup f = some ⟨oc, od, .func (PySem.W.fnOf x qual (defArgs st) (defBody st) (defScope st) .none kV doc pm an (.ref cod) ct), osl⟩) (c : PySem.W.codeIn K (.ref cod) qual = true) : TopC K x qual st f cod := ⟨a, ⟨_, _, _, _, _, _, _, _, l⟩, c⟩
/-- a code object and its table, as the written part tells them -/
structure CodF (K : PySem.W.Frag) (cod tab : Addr) : Prop where
  c : ∃ (dd : Option Addr) (vs : Array Value) (sl : Array (Option Value)) (file : Str) (tf : Tok) (flags : Int) (tg : Tok) (inF : Bool) (text : Int) (tt : Tok), K.lookup cod = some ⟨.type "code", dd, .fields vs, sl⟩ ∧ vs[11]? = some (.ref tab) ∧ vs.getD 11 .none = .ref tab ∧ vs.getD 18 .none = .str file tf ∧
    vs.getD 7 .none = .int flags tg ∧ vs.getD 9 .none = .bool inF ∧ vs.getD 10 .none = .int text tt
  ne : cod ≠ tab
  n : K.lookup tab = none
theorem CodF.of {K : PySem.W.Frag} {cod tab : Addr} {dd : Option Addr} {vs : Array Value} {sl : Array (Option Value)} {file : Str} {tf : Tok} {flags : Int} {tg : Tok} {inF : Bool} {text : Int} {tt : Tok} (l : K.lookup cod = some ⟨.type "code", dd, .fields vs, sl⟩) (h1 : vs[11]? = some (.ref tab)) (h3 : vs.getD 18 .none = .str file tf)
    (h4 : vs.getD 7 .none = .int flags tg) (h5 : vs.getD 9 .none = .bool inF) (h6 : vs.getD 10 .none = .int text tt) (ne : cod ≠ tab) (n : K.lookup tab = none) : CodF K cod tab :=
  ⟨⟨dd, vs, sl, file, tf, flags, tg, inF, text, tt, l, h1, by rw [Array.getD_eq_getD_getElem?, h1]; rfl, h3, h4, h5, h6⟩, ne, n⟩
theorem CodF.hd {K : PySem.W.Frag} {cod tab : Addr} {h : Heap} (F : CodF K cod tab) (X : K.In h) : PySem.W.CodeHd h cod tab := by
  obtain ⟨dd, vs, sl, file, tf, flags, tg, inF, text, tt, l, h1, h2, h3, h4, h5, h6⟩ := F.c
  exact ⟨_, vs, file, tf, flags, tg, inF, text, tt, X _ _ l, rfl, rfl, h1, h2, h3, h4, h5, h6, F.ne⟩

section
variable {P : Program} {w : World} {K : PySem.W.Frag} {mg : Str → Option Value} {base : Heap}
theorem ok_defC {x qual : Str} {st : Stmt} {f cod : Addr} {N ps : List Str} {k : Nat} {sp : Sp2} {oc kV doc pm ct : Value} {od an : Option Addr} {osl : Array (Option Value)}
    (lk : K.lookup f = some ⟨oc, od, .func (PySem.W.fnOf x qual (defArgs st) (defBody st) (defScope st) .none kV doc pm an (.ref cod) ct), osl⟩) (hcd : PySem.W.codeIn K (.ref cod) qual = true) (Sc : FnScope N ps (defScope st))
    (t : DXS → DS) (hsp : ∀ ds μ Q E, sp ds μ Q E → ds.length = ps.length ∧ t (fun C d _ μ => E C d μ) { nx := fun _ μ' => Q .non μ', rt := Q } (dstart N ds) μ)
    (body : ∀ (A : Around) (outer : List Env) (s : Shared) (H : Hp) (E : XK) (J : Hp) (W : WX) (E2 : DXS) tr, WSs ⟨P, w, K, mg, base, k, N, J, W, E2, tr, false⟩ (fun _ : Unit => cxOf (L2.CX P w) P w K mg base N qual (defScope st) f (.ref cod) A outer s H E) (defBody st) (t E2)) :
    Ok P w K mg base (k + 1) f (PySem.W.fnOf x qual (defArgs st) (defBody st) (defScope st) .none kV doc pm an (.ref cod) ct) ps sp := by
  refine L2.fn_of lk hcd Sc (fun vs H Q E h => ?_) (fun A outer s H vs Q E hr h => ?_)
  · obtain ⟨I, ds, μ, Q2, E2, _, r, h, _⟩ := h
    rw [← r.length]
    exact (hsp ds μ Q2 E2 h).1
  · obtain ⟨I, ds, μ, Q2, E2, SM, r, h, u, ux⟩ := h
    obtain ⟨ts, h1, h2⟩ := body A outer s H E I (fun cls d _ H => E cls d H) (fun C d _ μ => E2 C d μ) (fun I' C d δ μ' σ H' e' S' R' q' => ux I' C d μ' H' e' S' q')
    refine ⟨ts, h1 () ⟨rfl, rfl, rfl, rfl, rfl, rfl, fun _ => rfl, fun _ => hr, takes_of rfl rfl rfl rfl, passes_of rfl, hr.units⟩, ?_⟩
    refine h2 I _ μ _ H (Same.refl I) SM (r.start N) _ _ (hsp ds μ Q2 E2 h).2 ⟨?_, u, ?_, ?_⟩
    · exact fun I' δ' σ' μ' H' e' S' R' q' => u I' .non .non μ' H' e' S' .non q'
    · exact fun _ _ _ _ _ _ _ _ q' => q'.elim
    · exact fun _ _ _ _ _ _ _ _ q' => q'.elim
end

def spEndT (K : PySem.W.Frag) (tab : Addr) : Sp := fun vs H Q _ => ∃ (a : Addr) (ns : List Int), vs = [.ref a] ∧ SqL K H a (ns.map V.int) ∧ ns.length ≤ 63 ∧ H tab = some (.tbl #[]) ∧ ∀ H', Q (.bl true) H'
def muT (tab : Addr) (q : Str) : Mu := mset (fun _ => none) tab (.tab q)
theorem ok_endT {P : Program} {w : World} {K : PySem.W.Frag} {mg : Str → Option Value} {base : Heap} {k : Nat} {f tab : Addr} {q : Str} {fd : FuncData} {ps : List Str} {sp : Sp2} (O : Ok P w K mg base k f fd ps sp) (hp : ps.length = 1)
    (hm : ∀ ns : List Int, ns.length ≤ 63 → sp [.rol (ns.map Dv.int)] (muT tab q) (fun d _ => d = .bl true) fun _ _ _ => False) : FnOk P w K mg base (L2.CX P w) k f fd ps (spEndT K tab) := by
  refine ⟨fun vs H Q E ⟨a, ns, e, _⟩ => by rw [e, hp]; rfl, fun A outer s H args us vs Q E hr e0 hb r hsp => ?_⟩
  refine O.run A outer s H args us vs Q E hr e0 hb r ?_
  obtain ⟨a, ns, rfl, hS, hl, ht, k⟩ := hsp
  have iN : (fun b => if b = tab then none else H b : Hp) tab = none := if_pos rfl
  have iO : ∀ b, b ≠ tab → (fun b => if b = tab then none else H b : Hp) b = H b := fun b h => if_neg h
  refine ⟨fun b => if b = tab then none else H b, [.rol (ns.map Dv.int)], muT tab q, _, _, ⟨fun b o e => ?_, fun b m e => ?_⟩, .cons (.rol ?_ (repL_ints ns)) .nil, hm ns hl, ?_, fun _ _ _ _ _ _ _ q => q.elim⟩
  · by_cases hb : b = tab
    · rw [hb] at e; exact absurd (iN.symm.trans e) (by simp)
    · exact (iO b hb).symm.trans e
  · unfold muT at e
    by_cases hb : b = tab
    · subst hb
      rw [mset_same] at e
      cases e
      exact ⟨iN, #[], ht, True.intro, fun pos cv hc => by simp [codeAmong] at hc⟩
    · rw [mset_ne hb] at e; cases e
  · rcases hS with hS | hS
    · refine .inl ?_
      rcases hS with hS | ⟨o, hS⟩
      · exact .inl ((iO a fun z => by rw [z, ht] at hS; cases hS).trans hS)
      · exact .inr ⟨o, (iO a fun z => by rw [z, ht] at hS; cases hS).trans hS⟩
    · exact .inr hS
  · intro I' d v μ' H' _ _ rv e
    subst e
    cases rv
    exact k H'
theorem lawAt {l : PySem.W.OpenLaw} {w : World} {K : PySem.W.Frag} {k : Nat} {x : Str} {mg : Str → Option Value} {fa cod tab : Addr} {h : Heap} {fd : FuncData} {oc : Value} {od : Option Addr} {osl : Array (Option Value)} (X : K.In h) (own : h.get? tab = some { cls := .none, data := .fields #[] }) (lk : K.lookup fa = some ⟨oc, od, .func fd, osl⟩) (hc : fd.code = .ref cod) (F : CodF K cod tab)
    (hb : ∀ (s : Shared) (u : Value), BindsTo s fd ⟨[u], []⟩ [(x, u)]) (ok : ∀ base : Heap, K.In base → base.Ns mainGlobals mg → TabB base mg cod tab → FnOk l.prog w K mg base (L2.CX l.prog w) k fa fd [x] (spEndT K tab)) :
    LawAtS l w K (L2.CX l.prog w) k 63 x mg fa h := by
  obtain ⟨dd, vs, sl, file, tf, flags, tg, inF, text, tt, l1, l2, _⟩ := F.c
  have one : ∀ {p : Addr × Addr}, p ∈ [(cod, tab)] → p = (cod, tab) := fun hp => by simpa using hp
  refine ⟨fd, [(cod, tab)], spEndT K tab, fun p hp => ?_, fun p hp => ?_, fun p hp => ?_, hb, fun H a ns hl _ hT hS => ⟨a, ns, rfl, hS, hl, hT (cod, tab) (by simp), fun _ => rfl⟩, fun base k1 k2 k3 => ok base k1 k2 (k3 (cod, tab) (by simp))⟩
  · rw [one hp]; exact own
  · rw [one hp]; exact F.n
  · rw [one hp]; exact F.hd X
end Wl

set_option Elab.async false
set_option linter.all false
set_option maxRecDepth 100000
set_option maxHeartbeats 4000000
/-! what the top has left of exception classes -/
namespace Wl
open PySem PySem.Spec L2 PyProof.Rows LamX

theorem OexC.of {K : PySem.W.Frag} {C : Addr} {nm q : Str} {N : Addr} {bs bm : List Value} {sn : List Str} {sub : List Value} {ab : Bool} {col : Option Bool} {dd : Option Addr} {k0 k1 k2 k3 k5 : Option Value}
    (l : K.lookup C = some (excClassObj nm q C N bs bm true sn sub ab col dd k0 k1 k2 k3 k5 "ValueError.__new__")) (b : PySem.HandSPX.refsVE bm = true) (sa : PySem.W.findIn K (.ref C) "__setattr__" = some (some (.builtin "object.__setattr__")))
    (e : PySem.W.subIn K (.ref C) (.type "BaseException") = some true) (t : PySem.W.typeIn K (.ref C) = some (.type "type")) (k : PySem.W.keepIn K (.ref C) = true) : OexC K C := ⟨⟨_, _, _, _, _, _, _, _, _, _, _, _, _, _, _, l, b⟩, sa, e, t, k⟩

/-- an own exception whose __init__ stores its one argument under its name -/
def OexK (P : Program) (K : PySem.W.Frag) (x : Str) (C : Addr) (fn : Str) : Prop := ∀ (w : World) (mg : Str → Option Value) (base h : Heap), K.In h → h.Ns mainGlobals mg → OexF P w K mg base 1 x C [fn]
theorem OexK.of {P : Program} {K : PySem.W.Frag} {C f cc cda : Addr} {x name qual fn m : Str} {params : Arguments} {scope : Scope} {dV kV doc pm ct oc : Value} {an od : Option Addr} {osl : Array (Option Value)} {j : Nat} {p0 p1 p2 p3 p4 p5 p6 p7 p8 p9 : Pos} {pl : Addr → Sem Bool} {cl : Value} {cld : Option Addr} {csl : Array (Option Value)}
    (a : PySem.W.nsIn K mainGlobals x = some (some (.ref C))) (hin : PySem.W.findIn K (.ref C) "__init__" = some (some (.ref f)))
    (lk : K.lookup f = some ⟨oc, od, .func (PySem.W.ksFn name qual params [.Expr (.Call (.Attribute (.Call (.Name "super" p0) [] [] p1) "__init__" p2) [.Constant (.str m) j p5] [] p3) p4, .Assign [.Attribute (.Name "self" p6) fn p7] (.Name fn p8) p9] scope dV kV doc pm an (.ref cda) ct cc), osl⟩)
    (hcd : PySem.W.codeIn K (.ref cda) qual = true) (hfi : fileIn P K (.ref cda) = true) (S : ISc ["self", fn] ["self", fn] scope) (T : OexC K C) (hcc : K.lookup cc = some ⟨cl, cld, .cell (some (.ref C)), csl⟩)
    (head : ∃ ar : Arg, (params.posonlyargs ++ params.args).head? = some ar ∧ ar.arg = "self") (sup : PySem.W.ks_superIn K C C "__init__" = some (some (.builtin "ValueError.__init__"))) (opq : PySem.W.nsIn K PySem.cStatics "thirdparty.any" = some none)
    (sub : PySem.W.subIn K (.ref C) (.type "ValueError") = some true) (mro : PySem.W.mroIn K C (.ref C) = some true) (kS : scope.names.lookup ("super" : Str) = some .globalImplicit) (kC : scope.names.lookup ("__class__" : Str) = some .free)
    (top : (P.main.scope.names.lookup ("super" : Str)).isSome = false) (hsu : PySem.W.nsIn K mainGlobals "super" = some none)
    (hno : PySem.W.findIn K (.ref C) fn = some none) (hty : PySem.W.typeIn K (.ref f) = some (.type "function"))
    (hb : ∀ us : List Value, us.length = 2 → bindArgs (PySem.W.ksFn name qual params [.Expr (.Call (.Attribute (.Call (.Name "super" p0) [] [] p1) "__init__" p2) [.Constant (.str m) j p5] [] p3) p4, .Assign [.Attribute (.Name "self" p6) fn p7] (.Name fn p8) p9] scope dV kV doc pm an (.ref cda) ct cc) ⟨us, []⟩ = pure ((["self", fn] : List Str).zip us))
    (hev : ∀ (L : Addr), eval (.Call (.Attribute (.Call (.Name "super" p0) [] [] p1) "__init__" p2) [.Constant (.str m) j p5] [] p3) (PySem.W.ksEnv qual scope L f (.ref cda) cc) = (do
      let ov ← attributeBase (.Call (.Name "super" p0) [] [] p1) "__init__" (PySem.W.ksEnv qual scope L f (.ref cda) cc) (eval (.Call (.Name "super" p0) [] [] p1) (PySem.W.ksEnv qual scope L f (.ref cda) cc))
      standAt p2.atName
      let (g, first) ← holding [ov] (getMethod ov "__init__" (pl L))
      callWith p3 g first (backTo p3 (starEach [.Constant (.str m) j p5] (PySem.W.ksEnv qual scope L f (.ref cda) cc))) []))
    (hd : (fn == ("__debug__" : Str)) = false) (hcd2 : (fn == ("__classdict__" : Str)) = false) : OexK P K x C fn := fun w mg base h X G =>
  oex_one lk hcd hfi S T ⟨⟨cl, cld, csl, hcc⟩, head, sup, opq, sub, mro, kS, kC, S.par _ (by simp), top⟩ (PySem.W.mg_none_of X G hsu) hno hin hty (PySem.W.mg_of X G a) (.all hb) hev hd hcd2

/-- answers of isinstance for one class C, by names -/
structure IsaF (K : PySem.W.Frag) (C : Addr) (T : Str) (b : Bool) : Prop where
  k : (∃ D, PySem.W.nsIn K mainGlobals T = some (some (.ref D)) ∧ PySem.W.kitOne K (.ref C) (.ref D) = some b) ∨ (∃ n, PySem.W.nsIn K mainGlobals T = some none ∧ bootBuiltins T = some (.type n) ∧ T ≠ "__name__" ∧ PySem.W.kitOne K (.ref C) (.type n) = some b)
theorem IsaF.cls {K : PySem.W.Frag} {C D : Addr} {T : Str} {b : Bool} (a : PySem.W.nsIn K mainGlobals T = some (some (.ref D))) (k : PySem.W.kitOne K (.ref C) (.ref D) = some b) : IsaF K C T b := ⟨.inl ⟨D, a, k⟩⟩
theorem IsaF.blt {K : PySem.W.Frag} {C : Addr} {T : Str} {n : String} {b : Bool} (a : PySem.W.nsIn K mainGlobals T = some none) (v : bootBuiltins T = some (.type n)) (ne : T ≠ "__name__") (k : PySem.W.kitOne K (.ref C) (.type n) = some b) : IsaF K C T b := ⟨.inr ⟨n, a, v, ne, k⟩⟩
theorem IsaF.kit {K : PySem.W.Frag} {C : Addr} {T : Str} {b : Bool} {mg : Str → Option Value} {h : Heap} (F : IsaF K C T b) (X : K.In h) (G : h.Ns mainGlobals mg) :
    ∃ (v : V) (cv : Value), (mg T = some cv ∨ (mg T = none ∧ bootBuiltins T = some cv ∧ T ≠ "__name__")) ∧ L2.RelV v cv ∧ (∀ u, L2.RelV v u → u = cv) ∧ PySem.W.kitOne K (.ref C) cv = some b := by
  rcases F.k with ⟨D, a, k⟩ | ⟨n, a, v, ne, k⟩
  · exact ⟨.ref D, .ref D, .inl (PySem.W.mg_of X G a), rfl, fun u h => h, k⟩
  · exact ⟨.ty n, .type n, .inr ⟨PySem.W.mg_none_of X G a, v, ne⟩, rfl, fun u h => h, k⟩
theorem mem_lk {α β : Type} [BEq α] [LawfulBEq α] : ∀ {l : List (α × β)} {a : α} {b : β}, l.lookup a = some b → (a, b) ∈ l
  | [], _, _, h => by cases h
  | (x, y) :: l, a, b, h => by
    by_cases e : a = x
    · subst e
      simp [List.lookup] at h
      subst h
      exact List.mem_cons_self
    · have e' : (a == x) = false := by simpa using e
      simp only [List.lookup, e'] at h
      exact List.mem_cons_of_mem _ (mem_lk h)
theorem isTab_of {K : PySem.W.Frag} {mg : Str → Option Value} {h : Heap} {l : List (Addr × List (Str × Bool))} (X : K.In h) (G : h.Ns mainGlobals mg) (all : ∀ p ∈ l, L2.ExcC K p.1 ∧ ∀ q ∈ p.2, IsaF K p.1 q.1 q.2) :
    IsTab K mg fun C T => (l.lookup C).bind fun r => r.lookup T := by
  have mem : ∀ C T b, ((l.lookup C).bind fun r => r.lookup T) = some b → ∃ r, (C, r) ∈ l ∧ (T, b) ∈ r := fun C T b e => by
    cases z : l.lookup C with
    | none => rw [z] at e; cases e
    | some r => rw [z] at e; exact ⟨r, mem_lk z, PySem.mem_of_lookup e⟩
  exact ⟨fun C T b e => let ⟨r, h1, h2⟩ := mem C T b e; (all _ h1).1, fun C T b e => let ⟨r, h1, h2⟩ := mem C T b e; ((all _ h1).2 _ h2).kit X G⟩
end Wl
namespace Wl
open PySem PySem.Spec L2 PyProof.Rows LamX
theorem isx_at {l : List (Addr × List (Str × Bool))} {C : Addr} {T : Str} {r : List (Str × Bool)} {b : Bool} (h : l.lookup C = some r) (h2 : r.lookup T = some b) : ((l.lookup C).bind fun r => r.lookup T) = some b := by rw [h]; exact h2
theorem isx_all {l : List (Addr × List (Str × Bool))} {Q : Addr → Prop} (all : ∀ p ∈ l, Q p.1) {C : Addr} {T : Str} {b : Bool} (h : ((l.lookup C).bind fun r => r.lookup T) = some b) : Q C := by
  cases z : l.lookup C with
  | none => rw [z] at h; cases h
  | some r => exact all _ (mem_lk z)
end Wl
namespace Wl
theorem lk_head {β : Type} {C : PySem.Addr} {r : β} {l : List (PySem.Addr × β)} : List.lookup C ((C, r) :: l) = some r := by simp [List.lookup]
theorem lk_tail {β : Type} {C D : PySem.Addr} {r s : β} {l : List (PySem.Addr × β)} (h : C ≠ D) (e : List.lookup C l = some r) : List.lookup C ((D, s) :: l) = some r := by
  have z : (C == D) = false := by simpa using h
  simp only [List.lookup, z]; exact e
end Wl

set_option Elab.async false
set_option linter.all false
set_option maxRecDepth 100000
set_option maxHeartbeats 4000000
/-! own exceptions whose __init__ says super().__init__(f"..") and stores its arguments -/
namespace Wl
open PySem PySem.Spec L2 PyProof.Rows LamX

def spG (C : Addr) (ns : List Str) (okA : List V → Prop) : Sp := fun vs H Q _ => ∃ a ws, vs = .ref a :: ws ∧ ws.length = ns.length ∧ okA ws ∧ H a = some (exo a C none) ∧ ∀ d, H d = none → d ≠ a → Q .non (upd (upd H d (exd d (flds ns ws))) a (exo a C (some d)))
structure OexG (P : Program) (w : World) (K : PySem.W.Frag) (mg : Str → Option Value) (base : Heap) (k : Nat) (x : Str) (C : Addr) (ns : List Str) (okA : List V → Prop) : Prop where
  ex : ∃ (fI : Addr) (fd : FuncData) (ps : List Str), OexC K C ∧ PySem.W.findIn K (.ref C) "__init__" = some (some (.ref fI)) ∧ PySem.W.typeIn K (.ref fI) = some (.type "function") ∧ FnOk P w K mg base (L2.CX P w) k fI fd ps (spG C ns okA) ∧ L2.Binds K fd ps [] ∧ mg x = some (.ref C)
def vRaiseG (E2 : DXS) (C : Addr) (ns : List Str) (okD : List Dv → Prop) (t : DA) : DS := fun _ δ μ => t δ μ fun xs μ1 => xs.length = ns.length ∧ okD xs ∧ ∀ d, μ1 d = none → E2 C (some d) δ (mset μ1 d (.xd (flds ns xs)))
section
variable {S : Sg} {ι : Type} {F : ι → Cx} {pos p rpos : Pos}
theorem ws_raiseG {x : Str} {C : Addr} {ns : List Str} {k : Nat} {e : Expr} {es : List Expr} {t : DA} {okA : List V → Prop} {okD : List Dv → Prop} (O : OexG S.P S.w S.K S.mg S.base k x C ns okA) (hk : k + 1 ≤ S.k) (hn : ns.length ≤ 900) (hok : ∀ (I : Hp) xs vs, RepL S.K I xs vs → okD xs → okA vs)
    (ha : WA S F (e :: es) t) (hg : ∀ j, Gl (F j) x := by exact fun _ => rfl)
    (hdb : (x == ("__debug__" : Str)) = false := by decide) (he : ∀ env : Env, starEach (e :: es) env = (false, eval e env) :: starEach es env := by exact fun _ => rfl) (hpl : ∀ env : Env, (backTo pos (starEach es env)).any (·.1) = false := by exact fun _ => rfl) (hcold : S.cold = false := by rfl) :
    WS S F (.Raise (some (.Call (.Name x p) (e :: es) [] pos)) none rpos) (vRaiseG S.E2 C ns okD t) := by
  obtain ⟨ta, a1, a2⟩ := ha
  obtain ⟨fI, fd, ps, T, o2, o3, o4, o5, o6⟩ := O.ex
  refine ⟨fun _ σ H => tMkO C (spG C ns okA) [] ta σ H fun cls d H' => S.W cls d σ H', fun i hi => ?_, fun I δ μ σ H hJ SM hS D D' q u => ?_⟩
  · obtain ⟨P0, w, K, mg, base, kk, N, J, W, E2, tr, cold⟩ := S
    obtain ⟨h1, h2, h3, h4, h5, h6, h7, h8, h9, h10, h11⟩ := id hi
    have r8 := h8 hcold
    have c7 := h7 hcold
    dsimp only at h1 h2 h3 h4 h5 h6 r8 h9 T o2 o3 o4 o5 o6 hk ⊢
    subst h1 h2 h3 h4 h5
    exact ps_raise c7 h9 (pmk_oex T o2 o3 o4 (r8.mono hk) o5 .nil (L2.passes_call h9 (fun _ _ _ _ z => z.elim)) (hg i) o6 (a1 i hi) hdb (he _) (hpl _))
  · refine a2 I δ μ σ H hJ SM hS _ _ q fun I1 xs vs μ1 H1 e1 S1 r1 q1 => ?_
    obtain ⟨q2, qo, q3⟩ := q1
    have hl : vs.length = ns.length := by rw [← r1.length]; exact q2
    refine ⟨by omega, fun a na => ?_⟩
    refine ⟨a, vs ++ [], rfl, by simpa using hl, by rw [List.append_nil]; exact hok _ _ _ r1 qo, upd_same, fun d nd ne => ⟨rfl, d, flds ns (vs ++ []), upd_same, by rw [upd_ne ne]; exact upd_same, by rw [upd_ne ne] at nd; exact nd, ?_⟩⟩
    have nd1 : H1 d = none := by rw [upd_ne ne] at nd; exact nd
    have eq : upd (L2.del (upd (upd (upd H1 a (exo a C none)) d (exd d (flds ns (vs ++ [])))) a (exo a C (some d))) a) d (.xd (flds ns (vs ++ []))) = upd H1 d (.xd (flds ns vs)) := by
      funext b
      by_cases hb : b = d
      · rw [hb, upd_same, upd_same, List.append_nil]
      · rw [upd_ne hb, upd_ne hb]
        by_cases hb2 : b = a
        · rw [hb2, L2.del_same, na]
        · rw [L2.del_ne hb2, upd_ne hb2, upd_ne hb, upd_ne hb2]
    rw [eq]
    have nm : μ1 d = none := by
      cases z : μ1 d with
      | none => rfl
      | some m =>
        obtain ⟨o, ho⟩ := (S1.memo z).some
        rw [nd1] at ho
        cases ho
    exact S.tr I1 C (some d) δ _ σ _ (hJ.trans e1) (S1.setM (m := .xd (flds ns xs)) (S1.ex.free nd1) ⟨flds ns vs, r1.flds, upd_same⟩) (hS.mono e1) (q3 d nm)
end

section
variable {P : Program} {w : World} {K : PySem.W.Frag} {mg : Str → Option Value} {base : Heap} {C f cc : Addr} {x name qual : Str} {params : Arguments} {scope : Scope} {dV kV doc pm cdv ct oc : Value} {an od : Option Addr} {osl : Array (Option Value)}
  {e : Expr} {rest : List Stmt} {p0 p1 p2 p3 p4 : Pos} {pl : Addr → Sem Bool} {ns : List Str} {okA : List V → Prop}
abbrev cxS (P : Program) (w : World) (K : PySem.W.Frag) (mg : Str → Option Value) (base : Heap) (N : List Str) (qual : Str) (scope : Scope) (f : Addr) (cdv : Value) (cc : Addr) := cxI (L2.CX P w) P w K mg base N qual scope f cdv cc
theorem oex_gen
    (lk : K.lookup f = some ⟨oc, od, .func (PySem.W.ksFn name qual params (.Expr (.Call (.Attribute (.Call (.Name "super" p0) [] [] p1) "__init__" p2) [e] [] p3) p4 :: rest) scope dV kV doc pm an cdv ct cc), osl⟩)
    (hcd : PySem.W.codeIn K cdv qual = true) (hfi : fileIn P K cdv = true) (S : ISc ("self" :: ns) ("self" :: ns) scope) (T : OexC K C) (U : SupF P K C cc params scope "self") (hms : mg "super" = none)
    (hin : PySem.W.findIn K (.ref C) "__init__" = some (some (.ref f))) (hty : PySem.W.typeIn K (.ref f) = some (.type "function")) (hx : mg x = some (.ref C))
    (hb : L2.Binds K (PySem.W.ksFn name qual params (.Expr (.Call (.Attribute (.Call (.Name "super" p0) [] [] p1) "__init__" p2) [e] [] p3) p4 :: rest) scope dV kV doc pm an cdv ct cc) ("self" :: ns) [])
    (harg : ∀ (A : Around) (outer : List Env) (s : Shared) (H : Hp) (E : XK), ∃ te, PE (cxS P w K mg base ("self" :: ns) qual scope f cdv cc A outer s H E) e te ∧ ∀ a ws H0 (Q : VK), ws.length = ns.length → okA ws → (∀ z, Q z H0) → te (L2.start ("self" :: ns) (.ref a :: ws)) H0 Q)
    (hrest : ∀ (A : Around) (outer : List Env) (s : Shared) (H : Hp) (E : XK), ∃ t, PSs (cxS P w K mg base ("self" :: ns) qual scope f cdv cc A outer s H E) rest t ∧ ∀ a ws H0 (D : Ends), ws.length = ns.length → H0 a = some (exo a C none) →
      (∀ d σ, H0 d = none → d ≠ a → D.nx σ (upd (upd H0 d (exd d (flds ns ws))) a (exo a C (some d)))) → t D (L2.start ("self" :: ns) (.ref a :: ws)) H0)
    (hev : ∀ (L : Addr), eval (.Call (.Attribute (.Call (.Name "super" p0) [] [] p1) "__init__" p2) [e] [] p3) (PySem.W.ksEnv qual scope L f cdv cc) = (do
      let ov ← attributeBase (.Call (.Name "super" p0) [] [] p1) "__init__" (PySem.W.ksEnv qual scope L f cdv cc) (eval (.Call (.Name "super" p0) [] [] p1) (PySem.W.ksEnv qual scope L f cdv cc))
      standAt p2.atName
      let (g, first) ← holding [ov] (getMethod ov "__init__" (pl L))
      callWith p3 g first (backTo p3 (starEach [e] (PySem.W.ksEnv qual scope L f cdv cc))) []))
    (hst : ∀ env : Env, starEach [e] env = (false, eval e env) :: starEach [] env) : OexG P w K mg base 1 x C ns okA := by
  refine ⟨f, _, _, T, hin, hty, fn_init (N := "self" :: ns) (ps := "self" :: ns) (k := 0) lk hcd hfi S T U rfl hms (fun vs H Q E h => ?_) (fun A outer s H vs Q E room h => ?_) hev hst, hb, hx⟩
  · obtain ⟨a, ws, rfl, hl, _⟩ := h
    simpa using hl
  · obtain ⟨a, ws, rfl, hl, ho, ha, hq⟩ := h
    obtain ⟨te, e1, e2⟩ := harg A outer s H E
    obtain ⟨t, t1, t2⟩ := hrest A outer s H E
    refine ⟨_, t, pa_cons e1 pa_nil (hst _), t1, a, rfl, ha, e2 a ws H _ hl ho fun z => ⟨by simp, ha, t2 a ws H _ hl ha fun d σ n ne => hq d n ne⟩⟩
/-- self.f = f, the one field -/
theorem rest_one {fn : Str} {p6 p7 p8 p9 : Pos} (S : ISc ["self", fn] ["self", fn] scope) (T : OexC K C) (hno : PySem.W.findIn K (.ref C) fn = some none) (hd : (fn == ("__debug__" : Str)) = false) (hcd2 : (fn == ("__classdict__" : Str)) = false)
    (A : Around) (outer : List Env) (s : Shared) (H : Hp) (E : XK) : ∃ t, PSs (cxS P w K mg base ["self", fn] qual scope f cdv cc A outer s H E) [.Assign [.Attribute (.Name "self" p6) fn p7] (.Name fn p8) p9] t ∧ ∀ a ws H0 (D : Ends), ws.length = [fn].length → H0 a = some (exo a C none) →
      (∀ d σ, H0 d = none → d ≠ a → D.nx σ (upd (upd H0 d (exd d (flds [fn] ws))) a (exo a C (some d)))) → t D (L2.start ["self", fn] (.ref a :: ws)) H0 := by
  have l0 : scope.names.lookup ("self" : Str) = some .local := S.par _ (by simp)
  have l1 : scope.names.lookup fn = some .local := S.par _ (by simp)
  refine ⟨_, pss_one (ps_ost (pe_var (i := 0) rfl (.inl l0)) (pe_var (i := 1) rfl (.inl l1) hd hcd2)), fun a ws H0 D hl ha q => ?_⟩
  match ws, hl with
  | [y], _ => exact ⟨y, rfl, .ref a, rfl, a, C, rfl, T, hno, .inl ⟨ha, fun dx n ne => q dx _ n ne⟩⟩
/-- self.f = f, self.g = g -/
theorem rest_two {fn gn : Str} {p6 p7 p8 p9 q6 q7 q8 q9 : Pos} (S : ISc ["self", fn, gn] ["self", fn, gn] scope) (T : OexC K C) (hno : PySem.W.findIn K (.ref C) fn = some none) (hno2 : PySem.W.findIn K (.ref C) gn = some none)
    (hd : (fn == ("__debug__" : Str)) = false) (hcd2 : (fn == ("__classdict__" : Str)) = false) (hd3 : (gn == ("__debug__" : Str)) = false) (hcd4 : (gn == ("__classdict__" : Str)) = false)
    (A : Around) (outer : List Env) (s : Shared) (H : Hp) (E : XK) : ∃ t, PSs (cxS P w K mg base ["self", fn, gn] qual scope f cdv cc A outer s H E) [.Assign [.Attribute (.Name "self" p6) fn p7] (.Name fn p8) p9, .Assign [.Attribute (.Name "self" q6) gn q7] (.Name gn q8) q9] t ∧ ∀ a ws H0 (D : Ends), ws.length = [fn, gn].length → H0 a = some (exo a C none) →
      (∀ d σ, H0 d = none → d ≠ a → D.nx σ (upd (upd H0 d (exd d (flds [fn, gn] ws))) a (exo a C (some d)))) → t D (L2.start ["self", fn, gn] (.ref a :: ws)) H0 := by
  have l0 : scope.names.lookup ("self" : Str) = some .local := S.par _ (by simp)
  have l1 : scope.names.lookup fn = some .local := S.par _ (by simp)
  have l2 : scope.names.lookup gn = some .local := S.par _ (by simp)
  refine ⟨_, pss_cons (ps_ost (pe_var (i := 0) rfl (.inl l0)) (pe_var (i := 1) rfl (.inl l1) hd hcd2)) (pss_one (ps_ost (pe_var (i := 0) rfl (.inl l0)) (pe_var (i := 2) rfl (.inl l2) hd3 hcd4))), fun a ws H0 D hl ha q => ?_⟩
  match ws, hl with
  | [y, z], _ =>
    refine ⟨y, rfl, .ref a, rfl, a, C, rfl, T, hno, .inl ⟨ha, fun dx n ne => ?_⟩⟩
    refine ⟨z, rfl, .ref a, rfl, a, C, rfl, T, hno2, .inr ⟨dx, [(fn, y)], upd_same, by rw [upd_ne ne]; exact upd_same, by simp, ?_⟩⟩
    have eq : upd (upd (upd H0 dx (exd dx [(fn, y)])) a (exo a C (some dx))) dx (exd dx [(gn, z), (fn, y)]) = upd (upd H0 dx (exd dx (flds [fn, gn] [y, z]))) a (exo a C (some dx)) := by
      funext b
      by_cases hb : b = dx
      · rw [hb, upd_same, upd_ne ne, upd_same]; rfl
      · rw [upd_ne hb]
        by_cases hb2 : b = a
        · rw [hb2, upd_same, upd_same]
        · rw [upd_ne hb2, upd_ne hb2, upd_ne hb, upd_ne hb]
    rw [eq]
    exact q dx _ n ne
/-- f"..{index}..", a whole number -/
def okI : List V → Prop := fun ws => ∃ i : Int, ws = [.int i] ∧ i.natAbs.log2 < 1920
theorem arg_int {fn m1 m2 : Str} {j1 j2 : Nat} {q1 q2 q3 q4 q5 : Pos} (S : ISc ["self", fn] ["self", fn] scope) (hd : (fn == ("__debug__" : Str)) = false) (hcd2 : (fn == ("__classdict__" : Str)) = false) (h1 : m1.length ≤ 200) (h2 : m2.length ≤ 200)
    (A : Around) (outer : List Env) (s : Shared) (H : Hp) (E : XK) : ∃ te, PE (cxS P w K mg base ["self", fn] qual scope f cdv cc A outer s H E) (.JoinedStr [.Constant (.str m1) j1 q1, .FormattedValue (.Name fn q2) (-1) none q3, .Constant (.str m2) j2 q4] q5) te ∧
      ∀ a ws H0 (Q : VK), ws.length = [fn].length → okI ws → (∀ z, Q z H0) → te (L2.start ["self", fn] (.ref a :: ws)) H0 Q := by
  have l1 : scope.names.lookup fn = some .local := S.par _ (by simp)
  have hz : 3000 < sizeLine := by decide
  refine ⟨_, pe_joined (.cons pe_str (.cons (pe_fmt (pe_var (i := 1) rfl (.inl l1) hd hcd2)) (.cons pe_str .nil))), fun a ws H0 Q _ hi q => ?_⟩
  obtain ⟨i, rfl, hl⟩ := hi
  have h3 := int_text_len_1921 hl
  have la : ∀ a b : Str, (a ++ b).length = a.length + b.length := fun a b => by
    show (a.cps ++ b.cps).size = a.cps.size + b.cps.size
    simp
  have l0 : Str.empty.length = 0 := rfl
  refine ⟨m1, rfl, by rw [la]; omega, .int i, rfl, .inr ⟨i, rfl, hl, _, rfl, by rw [la, la]; omega, m2, rfl, by rw [la, la, la]; omega, q _⟩⟩
end
end Wl

set_option Elab.async false
set_option linter.all false
set_option maxRecDepth 100000
set_option maxHeartbeats 4000000
/-! what the top has left of such classes -/
namespace Wl
open PySem PySem.Spec L2 PyProof.Rows LamX

theorem rep_int' {K : PySem.W.Frag} {I : Hp} {i : Int} {v : V} (r : Rep K I (.int i) v) : v = .int i := by cases r; rfl
theorem rep_str' {K : PySem.W.Frag} {I : Hp} {i : Str} {v : V} (r : Rep K I (.str i) v) : v = .str i := by cases r; rfl
def okDI : List Dv → Prop := fun xs => ∃ i : Int, xs = [.int i] ∧ i.natAbs.log2 < 1920
theorem okDI_ok {K : PySem.W.Frag} (I : Hp) (xs : List Dv) (vs : List V) (r : RepL K I xs vs) (h : okDI xs) : okI vs := by
  obtain ⟨i, rfl, h⟩ := h
  cases r with
  | cons a b => cases b; exact ⟨i, by rw [rep_int' a], h⟩
/-- two fields: a text and a whole number -/
def okM : List V → Prop := fun ws => ∃ (x : Str) (i : Int), ws = [.str x, .int i] ∧ x.length ≤ 200 ∧ i.natAbs.log2 < 1920
def okDM : List Dv → Prop := fun ws => ∃ (x : Str) (i : Int), ws = [.str x, .int i] ∧ x.length ≤ 200 ∧ i.natAbs.log2 < 1920
theorem okDM_ok {K : PySem.W.Frag} (I : Hp) (xs : List Dv) (vs : List V) (r : RepL K I xs vs) (h : okDM xs) : okM vs := by
  obtain ⟨x, i, rfl, h1, h2⟩ := h
  cases r with
  | cons a b =>
    cases b with
    | cons b c => cases c; exact ⟨x, i, by rw [rep_str' a, rep_int' b], h1, h2⟩
/-- two fields: two whole numbers -/
def okN : List V → Prop := fun ws => ∃ i j : Int, ws = [.int i, .int j] ∧ i.natAbs.log2 < 1920 ∧ j.natAbs.log2 < 1920
def okDN : List Dv → Prop := fun ws => ∃ i j : Int, ws = [.int i, .int j] ∧ i.natAbs.log2 < 1920 ∧ j.natAbs.log2 < 1920
theorem okDN_ok {K : PySem.W.Frag} (I : Hp) (xs : List Dv) (vs : List V) (r : RepL K I xs vs) (h : okDN xs) : okN vs := by
  obtain ⟨x, i, rfl, h1, h2⟩ := h
  cases r with
  | cons a b =>
    cases b with
    | cons b c => cases c; exact ⟨x, i, by rw [rep_int' a, rep_int' b], h1, h2⟩
section
variable {P : Program} {w : World} {K : PySem.W.Frag} {mg : Str → Option Value} {base : Heap} {C f cc : Addr} {qual : Str} {scope : Scope} {cdv : Value} {ns : List Str}
theorem len_app (a b : Str) : (a ++ b).length = a.length + b.length := by
  show (a.cps ++ b.cps).size = a.cps.size + b.cps.size
  simp
/-- f"{part}..{index}.." -/
theorem arg_map {fn gn m1 m2 : Str} {j1 j2 : Nat} {q1 q2 q3 q4 q5 q6 q7 : Pos} (S : ISc ["self", fn, gn] ["self", fn, gn] scope) (hd : (fn == ("__debug__" : Str)) = false) (hcd2 : (fn == ("__classdict__" : Str)) = false) (hd3 : (gn == ("__debug__" : Str)) = false) (hcd4 : (gn == ("__classdict__" : Str)) = false) (h1 : m1.length ≤ 200) (h2 : m2.length ≤ 200)
    (A : Around) (outer : List Env) (s : Shared) (H : Hp) (E : XK) : ∃ te, PE (cxS P w K mg base ["self", fn, gn] qual scope f cdv cc A outer s H E) (.JoinedStr [.FormattedValue (.Name fn q1) (-1) none q2, .Constant (.str m1) j1 q3, .FormattedValue (.Name gn q4) (-1) none q5, .Constant (.str m2) j2 q6] q7) te ∧
      ∀ a ws H0 (Q : VK), ws.length = [fn, gn].length → okM ws → (∀ z, Q z H0) → te (L2.start ["self", fn, gn] (.ref a :: ws)) H0 Q := by
  have l1 : scope.names.lookup fn = some .local := S.par _ (by simp)
  have l2 : scope.names.lookup gn = some .local := S.par _ (by simp)
  have hz : 3000 < sizeLine := by decide
  refine ⟨_, pe_joined (.cons (pe_fmt (pe_var (i := 1) rfl (.inl l1) hd hcd2)) (.cons pe_str (.cons (pe_fmt (pe_var (i := 2) rfl (.inl l2) hd3 hcd4)) (.cons pe_str .nil)))), fun a ws H0 Q _ hi q => ?_⟩
  obtain ⟨x, i, rfl, hx, hl⟩ := hi
  have h3 := int_text_len_1921 hl
  have l0 : Str.empty.length = 0 := rfl
  refine ⟨.str x, rfl, .inl ⟨x, rfl, by omega, x, rfl, by rw [len_app]; omega, m1, rfl, by rw [len_app, len_app]; omega, .int i, rfl, .inr ⟨i, rfl, hl, _, rfl, by rw [len_app, len_app, len_app]; omega, m2, rfl, by rw [len_app, len_app, len_app, len_app]; omega, q _⟩⟩⟩
/-- f"..{row}..{word}.." -/
theorem arg_two {fn gn m0 m1 m2 : Str} {j0 j1 j2 : Nat} {q0 q1 q2 q3 q4 q5 q6 q7 : Pos} (S : ISc ["self", fn, gn] ["self", fn, gn] scope) (hd : (fn == ("__debug__" : Str)) = false) (hcd2 : (fn == ("__classdict__" : Str)) = false) (hd3 : (gn == ("__debug__" : Str)) = false) (hcd4 : (gn == ("__classdict__" : Str)) = false) (h0 : m0.length ≤ 200) (h1 : m1.length ≤ 200) (h2 : m2.length ≤ 200)
    (A : Around) (outer : List Env) (s : Shared) (H : Hp) (E : XK) : ∃ te, PE (cxS P w K mg base ["self", fn, gn] qual scope f cdv cc A outer s H E) (.JoinedStr [.Constant (.str m0) j0 q0, .FormattedValue (.Name fn q1) (-1) none q2, .Constant (.str m1) j1 q3, .FormattedValue (.Name gn q4) (-1) none q5, .Constant (.str m2) j2 q6] q7) te ∧
      ∀ a ws H0 (Q : VK), ws.length = [fn, gn].length → okN ws → (∀ z, Q z H0) → te (L2.start ["self", fn, gn] (.ref a :: ws)) H0 Q := by
  have l1 : scope.names.lookup fn = some .local := S.par _ (by simp)
  have l2 : scope.names.lookup gn = some .local := S.par _ (by simp)
  have hz : 5000 < sizeLine := by decide
  refine ⟨_, pe_joined (.cons pe_str (.cons (pe_fmt (pe_var (i := 1) rfl (.inl l1) hd hcd2)) (.cons pe_str (.cons (pe_fmt (pe_var (i := 2) rfl (.inl l2) hd3 hcd4)) (.cons pe_str .nil))))), fun a ws H0 Q _ hi q => ?_⟩
  obtain ⟨x, i, rfl, hx, hl⟩ := hi
  have h3 := int_text_len_1921 hl
  have h4 := int_text_len_1921 hx
  have l0 : Str.empty.length = 0 := rfl
  refine ⟨m0, rfl, by rw [len_app]; omega, .int x, rfl, .inr ⟨x, rfl, hx, _, rfl, by rw [len_app, len_app]; omega, m1, rfl, by rw [len_app, len_app, len_app]; omega, .int i, rfl, .inr ⟨i, rfl, hl, _, rfl, by rw [len_app, len_app, len_app, len_app]; omega, m2, rfl, by rw [len_app, len_app, len_app, len_app, len_app]; omega, q _⟩⟩⟩
end
/-- what the written part says of such a class, its body's own parts aside -/
structure IniF (P : Program) (K : PySem.W.Frag) (x : Str) (C f cc cda : Addr) (qual : Str) (params : Arguments) (scope : Scope) (ns : List Str) : Prop where
  a : PySem.W.nsIn K mainGlobals x = some (some (.ref C))
  hin : PySem.W.findIn K (.ref C) "__init__" = some (some (.ref f))
  hcd : PySem.W.codeIn K (.ref cda) qual = true
  hfi : fileIn P K (.ref cda) = true
  S : ISc ("self" :: ns) ("self" :: ns) scope
  T : OexC K C
  U : SupF P K C cc params scope "self"
  hsu : PySem.W.nsIn K mainGlobals "super" = some none
  hno : ∀ n ∈ ns, PySem.W.findIn K (.ref C) n = some none
  hty : PySem.W.typeIn K (.ref f) = some (.type "function")
  nm : ∀ n ∈ ns, (n == ("__debug__" : Str)) = false ∧ (n == ("__classdict__" : Str)) = false
def OexKG (P : Program) (K : PySem.W.Frag) (x : Str) (C : Addr) (ns : List Str) (okA : List V → Prop) : Prop := ∀ (w : World) (mg : Str → Option Value) (base h : Heap), K.In h → h.Ns mainGlobals mg → OexG P w K mg base 1 x C ns okA
end Wl

set_option Elab.async false
set_option linter.all false
set_option maxRecDepth 100000
set_option maxHeartbeats 4000000
namespace Wl
open PySem PySem.Spec L2 PyProof.Rows LamX
section
variable {P : Program} {K : PySem.W.Frag} {C f cc cda : Addr} {x name qual fn gn : Str} {params : Arguments} {scope : Scope} {dV kV doc pm ct oc : Value} {an od : Option Addr} {osl : Array (Option Value)} {pl : Addr → Sem Bool} {p0 p1 p2 p3 p4 p6 p7 p8 p9 r6 r7 r8 r9 : Pos}
abbrev supB (p0 p1 p2 p3 p4 : Pos) (e : Expr) (rest : List Stmt) : List Stmt := .Expr (.Call (.Attribute (.Call (.Name "super" p0) [] [] p1) "__init__" p2) [e] [] p3) p4 :: rest
abbrev bndB (name qual : Str) (params : Arguments) (body : List Stmt) (scope : Scope) (dV kV doc pm : Value) (an : Option Addr) (cda : Addr) (ct : Value) (cc : Addr) (ps : List Str) : Prop :=
  ∀ us : List Value, us.length = ps.length → bindArgs (PySem.W.ksFn name qual params body scope dV kV doc pm an (.ref cda) ct cc) ⟨us, []⟩ = pure (ps.zip us)
abbrev evB (qual : Str) (scope : Scope) (f cda cc : Addr) (p0 p1 p2 p3 : Pos) (e : Expr) (pl : Addr → Sem Bool) : Prop := ∀ (L : Addr), eval (.Call (.Attribute (.Call (.Name "super" p0) [] [] p1) "__init__" p2) [e] [] p3) (PySem.W.ksEnv qual scope L f (.ref cda) cc) = (do
      let ov ← attributeBase (.Call (.Name "super" p0) [] [] p1) "__init__" (PySem.W.ksEnv qual scope L f (.ref cda) cc) (eval (.Call (.Name "super" p0) [] [] p1) (PySem.W.ksEnv qual scope L f (.ref cda) cc))
      standAt p2.atName
      let (g, first) ← holding [ov] (getMethod ov "__init__" (pl L))
      callWith p3 g first (backTo p3 (starEach [e] (PySem.W.ksEnv qual scope L f (.ref cda) cc))) [])
theorem OexKG.int {m1 m2 : Str} {j1 j2 : Nat} {q1 q2 q3 q4 q5 : Pos}
    (lk : K.lookup f = some ⟨oc, od, .func (PySem.W.ksFn name qual params (supB p0 p1 p2 p3 p4 (.JoinedStr [.Constant (.str m1) j1 q1, .FormattedValue (.Name fn q2) (-1) none q3, .Constant (.str m2) j2 q4] q5) [.Assign [.Attribute (.Name "self" p6) fn p7] (.Name fn p8) p9]) scope dV kV doc pm an (.ref cda) ct cc), osl⟩)
    (F : IniF P K x C f cc cda qual params scope [fn])
    (hb : bndB name qual params (supB p0 p1 p2 p3 p4 (.JoinedStr [.Constant (.str m1) j1 q1, .FormattedValue (.Name fn q2) (-1) none q3, .Constant (.str m2) j2 q4] q5) [.Assign [.Attribute (.Name "self" p6) fn p7] (.Name fn p8) p9]) scope dV kV doc pm an cda ct cc ["self", fn])
    (hev : evB qual scope f cda cc p0 p1 p2 p3 (.JoinedStr [.Constant (.str m1) j1 q1, .FormattedValue (.Name fn q2) (-1) none q3, .Constant (.str m2) j2 q4] q5) pl) (h1 : m1.length ≤ 200) (h2 : m2.length ≤ 200) : OexKG P K x C [fn] okI := fun w mg base h X G =>
  oex_gen lk F.hcd F.hfi F.S F.T F.U (PySem.W.mg_none_of X G F.hsu) F.hin F.hty (PySem.W.mg_of X G F.a) (.all hb) (fun A outer s H E => arg_int F.S (F.nm fn (by simp)).1 (F.nm fn (by simp)).2 h1 h2 A outer s H E)
    (fun A outer s H E => rest_one F.S F.T (F.hno fn (by simp)) (F.nm fn (by simp)).1 (F.nm fn (by simp)).2 A outer s H E) hev fun _ => rfl
theorem OexKG.map {m1 m2 : Str} {j1 j2 : Nat} {q1 q2 q3 q4 q5 q6 q7 : Pos}
    (lk : K.lookup f = some ⟨oc, od, .func (PySem.W.ksFn name qual params (supB p0 p1 p2 p3 p4 (.JoinedStr [.FormattedValue (.Name fn q1) (-1) none q2, .Constant (.str m1) j1 q3, .FormattedValue (.Name gn q4) (-1) none q5, .Constant (.str m2) j2 q6] q7) [.Assign [.Attribute (.Name "self" p6) fn p7] (.Name fn p8) p9, .Assign [.Attribute (.Name "self" r6) gn r7] (.Name gn r8) r9]) scope dV kV doc pm an (.ref cda) ct cc), osl⟩)
    (F : IniF P K x C f cc cda qual params scope [fn, gn])
    (hb : bndB name qual params (supB p0 p1 p2 p3 p4 (.JoinedStr [.FormattedValue (.Name fn q1) (-1) none q2, .Constant (.str m1) j1 q3, .FormattedValue (.Name gn q4) (-1) none q5, .Constant (.str m2) j2 q6] q7) [.Assign [.Attribute (.Name "self" p6) fn p7] (.Name fn p8) p9, .Assign [.Attribute (.Name "self" r6) gn r7] (.Name gn r8) r9]) scope dV kV doc pm an cda ct cc ["self", fn, gn])
    (hev : evB qual scope f cda cc p0 p1 p2 p3 (.JoinedStr [.FormattedValue (.Name fn q1) (-1) none q2, .Constant (.str m1) j1 q3, .FormattedValue (.Name gn q4) (-1) none q5, .Constant (.str m2) j2 q6] q7) pl) (h1 : m1.length ≤ 200) (h2 : m2.length ≤ 200) : OexKG P K x C [fn, gn] okM := fun w mg base h X G =>
  oex_gen lk F.hcd F.hfi F.S F.T F.U (PySem.W.mg_none_of X G F.hsu) F.hin F.hty (PySem.W.mg_of X G F.a) (.all hb) (fun A outer s H E => arg_map F.S (F.nm fn (by simp)).1 (F.nm fn (by simp)).2 (F.nm gn (by simp)).1 (F.nm gn (by simp)).2 h1 h2 A outer s H E)
    (fun A outer s H E => rest_two F.S F.T (F.hno fn (by simp)) (F.hno gn (by simp)) (F.nm fn (by simp)).1 (F.nm fn (by simp)).2 (F.nm gn (by simp)).1 (F.nm gn (by simp)).2 A outer s H E) hev fun _ => rfl
theorem OexKG.two {m0 m1 m2 : Str} {j0 j1 j2 : Nat} {q0 q1 q2 q3 q4 q5 q6 q7 : Pos}
    (lk : K.lookup f = some ⟨oc, od, .func (PySem.W.ksFn name qual params (supB p0 p1 p2 p3 p4 (.JoinedStr [.Constant (.str m0) j0 q0, .FormattedValue (.Name fn q1) (-1) none q2, .Constant (.str m1) j1 q3, .FormattedValue (.Name gn q4) (-1) none q5, .Constant (.str m2) j2 q6] q7) [.Assign [.Attribute (.Name "self" p6) fn p7] (.Name fn p8) p9, .Assign [.Attribute (.Name "self" r6) gn r7] (.Name gn r8) r9]) scope dV kV doc pm an (.ref cda) ct cc), osl⟩)
    (F : IniF P K x C f cc cda qual params scope [fn, gn])
    (hb : bndB name qual params (supB p0 p1 p2 p3 p4 (.JoinedStr [.Constant (.str m0) j0 q0, .FormattedValue (.Name fn q1) (-1) none q2, .Constant (.str m1) j1 q3, .FormattedValue (.Name gn q4) (-1) none q5, .Constant (.str m2) j2 q6] q7) [.Assign [.Attribute (.Name "self" p6) fn p7] (.Name fn p8) p9, .Assign [.Attribute (.Name "self" r6) gn r7] (.Name gn r8) r9]) scope dV kV doc pm an cda ct cc ["self", fn, gn])
    (hev : evB qual scope f cda cc p0 p1 p2 p3 (.JoinedStr [.Constant (.str m0) j0 q0, .FormattedValue (.Name fn q1) (-1) none q2, .Constant (.str m1) j1 q3, .FormattedValue (.Name gn q4) (-1) none q5, .Constant (.str m2) j2 q6] q7) pl) (h0 : m0.length ≤ 200) (h1 : m1.length ≤ 200) (h2 : m2.length ≤ 200) : OexKG P K x C [fn, gn] okN := fun w mg base h X G =>
  oex_gen lk F.hcd F.hfi F.S F.T F.U (PySem.W.mg_none_of X G F.hsu) F.hin F.hty (PySem.W.mg_of X G F.a) (.all hb) (fun A outer s H E => arg_two F.S (F.nm fn (by simp)).1 (F.nm fn (by simp)).2 (F.nm gn (by simp)).1 (F.nm gn (by simp)).2 h0 h1 h2 A outer s H E)
    (fun A outer s H E => rest_two F.S F.T (F.hno fn (by simp)) (F.hno gn (by simp)) (F.nm fn (by simp)).1 (F.nm fn (by simp)).2 (F.nm gn (by simp)).1 (F.nm gn (by simp)).2 A outer s H E) hev fun _ => rfl
end
end Wl

set_option Elab.async false
set_option linter.all false
set_option maxRecDepth 100000
set_option maxHeartbeats 4000000
namespace Wl
open PySem PySem.Spec L2 PyProof.Rows LamX
section
variable {P : Program} {K : PySem.W.Frag} {C f cc cda : Addr} {x name qual fn gn : Str} {params : Arguments} {scope : Scope} {dV kV doc pm ct oc : Value} {an od : Option Addr} {osl : Array (Option Value)} {pl : Addr → Sem Bool} {p0 p1 p2 p3 p4 p6 p7 p8 p9 r6 r7 r8 r9 : Pos}
theorem iniF {ns : List Str} {cl : Value} {cld : Option Addr} {csl : Array (Option Value)} (a : PySem.W.nsIn K mainGlobals x = some (some (.ref C))) (hin : PySem.W.findIn K (.ref C) "__init__" = some (some (.ref f)))
    (hcd : PySem.W.codeIn K (.ref cda) qual = true) (hfi : fileIn P K (.ref cda) = true) (S : ISc ("self" :: ns) ("self" :: ns) scope) (T : OexC K C) (hcc : K.lookup cc = some ⟨cl, cld, .cell (some (.ref C)), csl⟩)
    (head : ∃ ar : Arg, (params.posonlyargs ++ params.args).head? = some ar ∧ ar.arg = "self") (sup : PySem.W.ks_superIn K C C "__init__" = some (some (.builtin "ValueError.__init__"))) (opq : PySem.W.nsIn K PySem.cStatics "thirdparty.any" = some none)
    (sub : PySem.W.subIn K (.ref C) (.type "ValueError") = some true) (mro : PySem.W.mroIn K C (.ref C) = some true) (kS : scope.names.lookup ("super" : Str) = some .globalImplicit) (kC : scope.names.lookup ("__class__" : Str) = some .free)
    (top : (P.main.scope.names.lookup ("super" : Str)).isSome = false) (hsu : PySem.W.nsIn K mainGlobals "super" = some none) (hno : ∀ n ∈ ns, PySem.W.findIn K (.ref C) n = some none) (hty : PySem.W.typeIn K (.ref f) = some (.type "function"))
    (nm : ∀ n ∈ ns, (n == ("__debug__" : Str)) = false ∧ (n == ("__classdict__" : Str)) = false) : IniF P K x C f cc cda qual params scope ns :=
  ⟨a, hin, hcd, hfi, S, T, ⟨⟨cl, cld, csl, hcc⟩, head, sup, opq, sub, mro, kS, kC, S.par _ (by simp), top⟩, hsu, hno, hty, nm⟩
end
end Wl

set_option Elab.async false
set_option linter.all false
set_option maxRecDepth 100000
set_option maxHeartbeats 4000000
/-! [x(y) for y in ys] where what an item does may rest on the very state in which the walk begins -/
namespace Wl
open PySem PySem.Spec L2 PyProof.Rows LamX

section
variable {X : Cx}
/-- like a comprehension's rule; the item's rule is asked only of walks that begin where the context stands -/
theorem near_core {pins : List (Addr × Obj)} {s : Shared} {σ : L2.St} {H : Hp} {Q : VK} {elt tg iter : Expr} {scope : Scope} {own : List (Str × Nat)} {pos : Pos} {wi : TI} {g : TG} {te : TE}
    (calm : X.calm = true) (nod : X.N.Nodup) (iv : Inv X pins σ H s) (src : PI X tg iter wi) (blk : BlkOk X.N X.env.scope scope own)
    (tgt : ∀ (s : Shared) (H : Hp) (C : Addr) (cl : List (Str × Addr)) (fp : List Addr), PG (X.blk s H scope (compEnvC scope cl C X.env) fp) tg g)
    (item : ∀ (s1 : Shared) (H1 : Hp) (C : Addr) (cl : List (Str × Addr)) (fp : List Addr), Inv X pins σ H1 s1 → (∀ b ∈ fp, FpOk X pins H1 b) → PE (X.blk s1 H1 scope (compEnvC scope cl C X.env) fp) elt te)
    (fold : ∀ x, foldedSetIterable iter X.env x = pure x) (wish : tLc wi g tYes te (own.map (·.2)) σ H Q) :
    wpAny (model X.prog X.w) X.A (eval (.ListComp elt [⟨tg, iter, [], 0⟩] scope pos) X.env) (fun v s' => ∃ u H', Inv X pins σ H' s' ∧ RelV u v ∧ Q u H') X.xe s := by
  have has : ∀ y ∈ scope.names, y.2 = .free → ∃ c, X.env.cells.lookup y.1 = some c := fun y m e => (blk.free y m e).elim (fun k => iv.ok.has _ (.inl k)) fun k => iv.ok.has _ (.inr k)
  rw [eval_ListComp]
  refine wpAny_comprehension_free (use := none) rfl fold (closure_ok has) blk.kind (fun y m e => by rw [blk.uniq y m, e]) (thn (src.run pins s σ H _ iv wish) fun xv sa ha => thn ha fun itv sb hb => ?_)
  obtain ⟨it, fp, tn, J, Hb, rfl, ivb, T, st, ffp, rest⟩ := hb
  refine wpAny_newObj_type (newEnv_comp ?_) (by show 0 ≤ sizeLine; decide)
  have freshD : Hb sb.heap.objs.size = none := ivb.hok.fresh (Nat.le_refl _)
  obtain ⟨W, ⟨m0, w0⟩, turn⟩ := rest _ freshD
  generalize eD : sb.heap.objs.size = D at freshD w0 turn ⊢
  generalize eS : ({ sb with heap := sb.heap.push { cls := .type "list", data := .seq ([] : List Value).toArray } } : Shared) = sc
  have keepL : ∀ b o, sb.heap.get? b = some o → sc.heap.get? b = some o := fun b o e => by subst eS; exact Heap.get?_push_of_some _ e
  have ivc : Inv X pins σ (upd Hb D (.lst [])) sc := by
    subst eS
    refine ivb.laid (t' := sb.toks) (fun b o e => Heap.get?_push_of_some _ e) (Nat.le_of_eq eD) ⟨Nat.zero_le _, [], 0, .nil, ?_⟩
    subst eD
    exact Heap.get?_push_size _ rfl
  have under : ∀ b ∈ fp, b ≠ D ∧ b < sc.heap.objs.size := fun b m => by
    obtain ⟨o, e, _⟩ := T.obj _ _ st b m
    exact ⟨by subst eD; exact Nat.ne_of_lt (Heap.lt_size e), Heap.lt_size (keepL b o e)⟩
  have okFp : ∀ b ∈ fp, FpOk X pins (upd Hb D (.lst [])) b := fun b m => ⟨by rw [upd_ne (under b m).1]; exact (ffp b m).1, (ffp b m).2⟩
  have stc : tn 0 sc.heap := T.keep _ _ _ st fun b _ o e => keepL b o e
  have start := block_start ivc blk nod fun b m => ⟨okFp b m, (under b m).2⟩
  generalize eH : upd Hb D (.lst []) = Hc at ivc start okFp w0
  have pg := tgt sc Hc sc.heap.objs.size (cellsFrom (sc.heap.objs.size + 1) scope.names (cloFrom X.env.cells scope.names [])) fp
  have pe := item sc Hc sc.heap.objs.size (cellsFrom (sc.heap.objs.size + 1) scope.names (cloFrom X.env.cells scope.names [])) fp ivc okFp
  show codeAny _ _ (.compStart (.ListComp elt [⟨tg, iter, [], 0⟩] scope pos) 0 (.ref it) (.ref D) (compEnvC scope (cellsFrom (sc.heap.objs.size + 1) scope.names (cloFrom X.env.cells scope.names [])) sc.heap.objs.size X.env)) (compPost (model X.prog X.w) X.A X.xe none _ (.ref D) sc.heap.objs.size) { sc with heap := pushCells (sc.heap.push { cls := .type "dict", data := .dict #[] }) scope.names }
  generalize eE : compEnvC scope (cellsFrom (sc.heap.objs.size + 1) scope.names (cloFrom X.env.cells scope.names [])) sc.heap.objs.size X.env = ce at start pg pe ⊢
  have loc : ce.locals = sc.heap.objs.size := by subst eE; rfl
  generalize eT : ({ sc with heap := pushCells (sc.heap.push { cls := .type "dict", data := .dict #[] }) scope.names } : Shared) = sd at start ⊢
  have std : tn 0 sd.heap := T.keep _ _ _ stc fun b _ o e => by subst eT; exact pushCells_keeps _ _ _ _ (Heap.get?_push_of_some _ e)
  have free0 : ∀ b ∈ fp, Hc b = none := fun b m => (okFp b m).1
  have blkFp : ∀ {σ' : L2.St} {H' : Hp} {s' : Shared}, Inv (X.blk sc Hc scope ce fp) [] σ' H' s' → (∀ b ∈ fp, H' b = none) → ∀ b ∈ fp, FpOk (X.blk sc Hc scope ce fp) [] H' b := fun J' nn b m =>
    ⟨nn b m, (J'.ok.exf b m).1, J'.ok.exfs b m, .inl m, (J'.ok.exf b m).2, fun p hp => absurd (show p ∈ ([] : List (Addr × Obj)) ++ [] from hp) (by simp)⟩
  have loop : codeAny (model X.prog X.w) X.A (.compLoop (.ListComp elt [⟨tg, iter, [], 0⟩] scope pos) 0 (.ref it) (.ref D) ce) (compPost (model X.prog X.w) X.A X.xe none (fun v s' => ∃ u H', Inv X pins σ H' s' ∧ RelV u v ∧ Q u H') (.ref D) sc.heap.objs.size) sd := by
    refine compLoop_any (fun n s' => ∃ i H', Inv (X.blk sc Hc scope ce fp) [] (wipe σ (own.map (·.2))) H' s' ∧ tn i s'.heap ∧ (∀ b ∈ fp, H' b = none) ∧ W i n H') ?_ m0 ⟨0, Hc, start, std, free0, w0⟩
    rintro n sp ⟨i, H5, ivp, stp, np, wp5⟩
    rcases turn i n H5 wp5 with ⟨stop, qq⟩ | ⟨go, Nx, hNx, step⟩
    · refine thnF (T.done (X.blk sc Hc scope ce fp) rfl rfl rfl calm i [] sp _ H5 (fun _ _ => False) ivp (blkFp ivp np) stp stop) fun r s6 ⟨hr, I6⟩ => ?_
      subst hr
      have back : Inv X pins σ H5 s6 := ivc.call' (ch := fp) I6.os I6.base I6.hok I6.bare fun b m => ⟨(okFp b m).2.2.2.1, (okFp b m).2.1, (okFp b m).2.2.2.2.1, (okFp b m).2.2.2.2.2⟩
      have nC : H5 sc.heap.objs.size = none := by rw [← loc]; exact I6.free
      obtain ⟨m, hn, _⟩ := I6.loc
      have hn : s6.heap.Ns sc.heap.objs.size m := by rw [← loc]; exact hn
      refine ⟨m, hn, fun h'' same => ?_⟩
      obtain ⟨f0, f1, f2, f3, f4, f5⟩ := ivc.fpOk (Nat.le_refl _) nC
      exact ⟨.ref D, H5, back.turned (t' := s6.toks) (fun b o hb e => (same.2 b hb).trans e) f0 f1 f3 f4 f5, rfl, qq⟩
    · refine thnF (T.item (X.blk sc Hc scope ce fp) rfl rfl rfl calm i [] sp _ H5 (fun _ _ => False) ivp (blkFp ivp np) stp go) fun r s6 ⟨u, hr, h6⟩ => ?_
      subst hr
      refine thnF h6 fun _ sr ⟨x, H7, ivr, r7, y7, str7, nr⟩ => ?_
      refine thnF (pg.run _ sr _ H7 x u _ (ivr.pinned (blkFp ivr nr) (T.obj _ _ str7)) r7 (step x H7 y7)) fun _ s8 ⟨σ8, H8, I8, same8, q8⟩ => ?_
      refine thnF ((pts_nil (X := X.blk sc Hc scope ce fp)).run _ s8 σ8 H8 _ I8 q8) fun b s9 ⟨H9, I9, q9⟩ => ?_
      have close : ∀ {s' : Shared} {H' : Hp}, Inv (X.blk sc Hc scope ce fp) ([] ++ pinsAt fp sr.heap) σ8 H' s' → Nx H' → ∃ m, m < n ∧ ∃ i H', Inv (X.blk sc Hc scope ce fp) [] (wipe σ (own.map (·.2))) H' s' ∧ tn i s'.heap ∧ (∀ b ∈ fp, H' b = none) ∧ W i m H' := fun {s' H'} J' nx => by
        obtain ⟨m', lt, w'⟩ := hNx H' nx
        have still : ∀ b ∈ fp, ∀ o, sr.heap.get? b = some o → s'.heap.get? b = some o ∧ H' b = none := fun b m o e =>
          have z := J'.pin (b, o) (List.mem_append_right _ (List.mem_append_right _ (mem_pinsAt m e)))
          ⟨z.1, z.2.1⟩
        refine ⟨m', lt, i + 1, H', (J'.unpinned (pins := [])).weak (by rw [← same8, wipe_length]) (fun j v e => ?_), T.keep _ _ _ str7 fun b m o e => (still b m o e).1, fun b m => ?_, w'⟩
        · rw [← same8] at e
          exact (wipe_some e).1
        · obtain ⟨o, e, _⟩ := T.obj _ _ str7 b m
          exact (still b m o e).2
      cases b with
      | false =>
        rw [if_neg (by simp)] at q9 ⊢
        exact close I9 q9
      | true =>
        simp only [if_true] at q9 ⊢
        refine thnF (pe.run _ s9 σ8 H9 _ I9 q9) fun z sx ⟨yv, Hx, Ix, rx, acc, hD, hz, nx⟩ => ?_
        exact app_ok (X := X.blk sc Hc scope ce fp) Ix hD hz rx fun sy Iy => close Iy nx
  exact codeAny_compStart_list loop (T.self X.A 0 _ _ _ std loop)
end
end Wl

set_option Elab.async false
set_option linter.all false
set_option maxRecDepth 100000
set_option maxHeartbeats 4000000
/-! a lambda whose parameters have defaults: its body's context, entered later from a walk -/
namespace Wl
open PySem PySem.Spec L2 PyProof.Rows LamX

/-- a lambda's scope: its own names are none of the context's -/
structure LamQ (N : List Str) (sc scope : Scope) : Prop where
  kind : scope.kind = .function
  co : scope.isCoroutine = false
  gen : scope.isGenerator = false
  nocell : ∀ y ∈ scope.names, y.2 ≠ .cell
  own : ∀ y ∈ scope.names, y.2 = .local → y.1 ∉ N
  free : ∀ y ∈ scope.names, y.2 = .free → sc.names.lookup y.1 = some .cell ∨ sc.names.lookup y.1 = some .free
def lamQB (N : List Str) (sc scope : Scope) : Bool :=
  decide (scope.kind = .function) && (!scope.isCoroutine && (!scope.isGenerator && scope.names.all fun y => !decide (y.2 = .cell) && ((!decide (y.2 = .local) || !N.contains y.1) && (!decide (y.2 = .free) || (decide (sc.names.lookup y.1 = some .cell) || decide (sc.names.lookup y.1 = some .free))))))
theorem lamQ_by {N : List Str} {sc scope : Scope} (h : lamQB N sc scope = true) : LamQ N sc scope := by
  simp only [lamQB, Bool.and_eq_true, Bool.or_eq_true, Bool.not_eq_true', decide_eq_true_eq, decide_eq_false_iff_not, List.all_eq_true, List.contains_eq_mem] at h
  obtain ⟨a1, a2, a3, a4⟩ := h
  refine ⟨a1, a2, a3, fun y m => (a4 y m).1, fun y m e => ?_, fun y m e => ?_⟩
  · rcases (a4 y m).2.1 with z | z
    · exact absurd e z
    · simpa using z
  · rcases (a4 y m).2.2 with z | z
    · exact absurd e z
    · exact z

section
variable {X : Cx} {pins : List (Addr × Obj)} {σ : L2.St} {H HZ : Hp} {s s1 : Shared}
theorem LamQ.has {scope : Scope} (L : LamQ X.N X.env.scope scope) (ok : X.Ok) : ∀ y ∈ scope.names, y.2 = .free → ∃ b, X.env.cells.lookup y.1 = some b := fun y m e => by
  rcases L.free y m e with k | k
  · exact ok.has _ (.inl k)
  · exact ok.has _ (.inr k)
theorem lamQ_start {A : Around} {outer : List Env} {E : XK} {scope : Scope} {f c' : Addr} {h₁ : Heap} {tk : Nat} {ch : List Addr} {bs : List (Str × Value)} (iv : Inv X pins σ H s) (L : LamQ X.N X.env.scope scope) (e0 : Env0 X.prog X.w X.K X.mg X.base A outer s1 HZ) (hd : A.handled = none)
    (un : Un (frs X.stack) ch H HZ s.heap s1.heap) (hch : ∀ b ∈ ch, ∀ x c, X.env.cells.lookup x = some c → c ≠ b) (hns : h₁.Ns s1.heap.objs.size fun y => bs.reverse.lookup y) (kp : ∀ b o, s1.heap.get? b = some o → h₁.get? b = some o) :
    Inv (lamCx X A outer s1 HZ E scope f c') [] σ HZ { s1 with heap := h₁, toks := tk } := by
  have has := L.has iv.ok
  have mine : ∀ {y c}, (cloFrom X.env.cells scope.names []).lookup y = some c → X.env.cells.lookup y = some c := fun {y c} e => by
    rcases cloFrom_mem (PySem.mem_of_lookup e) with z | ⟨z1, z2⟩
    · cases z
    · obtain ⟨b, q⟩ := has _ z1 rfl
      have q : X.env.cells.lookup y = some b := q
      have eb : c = b := by rw [z2, q] <;> rfl
      rw [eb]
      exact q
  have there : ∀ {y}, scope.names.lookup y = some .free → ∃ c, (cloFrom X.env.cells scope.names []).lookup y = some c := fun {y} l => by
    have hm : (y, NameKind.free) ∈ scope.names := PySem.mem_of_lookup l
    exact mem_lookup (cloFrom_has (cells := X.env.cells) (acc := []) hm)
  have noCh : ∀ {y c}, X.env.cells.lookup y = some c → c ∉ ch := fun {y c} e m => hch c m y c e rfl
  have kept : ∀ {y c v}, X.env.cells.lookup y = some c → s.heap.IsCell c v → h₁.IsCell c v := fun {y c v} e q => by
    obtain ⟨o, ho, hv⟩ := q
    obtain ⟨sl, z⟩ := un.any ho (iv.freeC y c e) (noCh e)
    exact ⟨_, kp _ _ z, hv⟩
  have none0 : ∀ b : Addr, b ∉ (lamCx X A outer s1 HZ E scope f c').ex := fun b z => absurd (show b ∈ ([] : List Addr) from z) (by simp)
  refine ⟨⟨e0.mod, L.kind, rfl, rfl, Nat.le_refl _, fun y z c a b => iv.ok.inj y z c (mine a) (mine b), fun y hy => ?_, fun y c z _ => ?_, fun _ => hd, Around.frames_deeper e0.frames, .inr ⟨rfl, rfl⟩, fun b z => absurd z (none0 b), e0.bs, e0.bsz, fun b _ _ => none0 b,
      fun b z => absurd z (none0 b), e0.funs, e0.frf⟩,
    rfl, e0.bare, Un.kept kp, ⟨_, hns, fun i y v a b vis => ?_⟩, fun y c e => ?_, e0.hok.fresh (Nat.le_refl _), fun y c e => ?_, fun q hq => absurd (show q ∈ ([] : List (Addr × Obj)) ++ [] from hq) (by simp), e0.hok.kept kp, iv.len⟩
  · have hy : scope.names.lookup y = some .cell ∨ scope.names.lookup y = some .free := hy
    rcases hy with hy | hy
    · exact absurd rfl (L.nocell _ (PySem.mem_of_lookup hy))
    · exact there hy
  · have z : false = true := z
    cases z
  · have vis : Vis scope y := vis
    have inN : y ∈ X.N := List.mem_of_getElem? a
    rcases vis with k | k | k
    · exact absurd inN (L.own _ (PySem.mem_of_lookup k) rfl)
    · exact absurd rfl (L.nocell _ (PySem.mem_of_lookup k))
    · obtain ⟨m, hn, hl⟩ := iv.loc
      have up : Vis X.env.scope y := (L.free _ (PySem.mem_of_lookup k) rfl).elim (fun k => .inr (.inl k)) fun k => .inr (.inr k)
      obtain ⟨w', r, q⟩ := hl i y v a b up
      obtain ⟨c2, h2⟩ := there k
      refine ⟨w', r, .inr ⟨.inr k, c2, h2, ?_⟩⟩
      rcases q with ⟨k', _⟩ | ⟨_, c3, e', z⟩
      · have k' : X.env.scope.names.lookup y = some .local := k'
        rcases L.free _ (PySem.mem_of_lookup k) rfl with k2 | k2 <;> rw [show X.env.scope.names.lookup y = _ from k2] at k' <;> cases k'
      · have c1 := mine h2
        rw [c1] at e'
        cases e'
        exact kept c1 z
  · obtain ⟨w', z⟩ := iv.cell y c (mine e)
    exact ⟨w', kept (mine e) z⟩
  · obtain ⟨v, o, ho, hd⟩ := iv.cell y c (mine e)
    exact un.free c o ho (iv.freeC y c (mine e)) (noCh (mine e))
end
end Wl

set_option Elab.async false
set_option linter.all false
set_option maxRecDepth 100000
set_option maxHeartbeats 4000000
/-! a lambda made as a value: what stands for it in the heap -/
namespace Wl
open PySem PySem.Spec L2 PyProof.Rows LamX

/-- the object at a, known and unchanging -/
def objO (a : Addr) (o : Obj) : HO := .ext fun h => h.get? a = some o
theorem objO_ok {P : Program} {w : World} {H : Hp} {h : Heap} {a : Addr} {o : Obj} (e : h.get? a = some o) : ObjOk P w H h a (objO a o) :=
  ⟨e, ⟨o, e⟩, fun _ _ p k => k _ p⟩
/-- the function object of a lambda -/
abbrev lamO (q : Str) (prs : Arguments) (bd : Expr) (sco : Scope) (cs : List (Str × Addr)) (dV doc pm : Value) (b : Addr) (ctv : Value) : Obj :=
  PySem.W.kdv_obj "<lambda>" q prs (.expr bd) sco (cloFrom cs sco.names []) dV doc pm b ctv

section
variable {X : Cx} {pins : List (Addr × Obj)} {σ : L2.St} {H : Hp} {s : Shared}
/-- the making itself, the defaults' tuple given -/
theorem lam_tail {c P : Addr} {tbl : Array Value} {prs : Arguments} {bd : Expr} {sco : Scope} {lp : Pos} {ln : Nat} {dV : Value} {E : Value → Shared → Prop} {Q : Value → Shared → Prop} (iv : Inv X pins σ H s) (tb : TabB X.base X.mg c P) (hc0 : X.env.code = .ref c)
    (hP : H P = some (.tbl tbl)) (trip : TriplesOk tbl.toList) (names : ∀ (at_ : Pos) (v : Value), codeAmong at_ tbl.toList = some v → ∃ b, v = .ref b ∧ H b = some (CodeO b (X.env.qual ++ "<lambda>")))
    (hfr : ∀ y ∈ sco.names, y.2 = .free → ∃ b, X.env.cells.lookup y.1 = some b)
    (fin : ∀ (f b : Addr) (pm ctv doc : Value) (H1 : Hp) (s' : Shared), Made H H1 P b (X.env.qual ++ "<lambda>") tbl → H1 f = none →
      Inv X pins σ (upd H1 f (objO f (lamO (X.env.qual ++ "<lambda>") prs bd sco X.env.cells dV doc pm b ctv))) s' → Q (.ref f) s') :
    wpAny (model X.prog X.w) X.A (makeTail "<lambda>" (X.env.qual ++ "<lambda>") prs (.expr bd) sco X.env dV .none none lp ln) Q E s := by
  have onB : s.heap.BuiltinsAt X.mg P := tb.bm.keeps iv.bk
  have atP : s.heap.get? P = some { cls := .none, data := .fields tbl } := iv.hok P _ hP
  rcases found : codeAmong lp tbl.toList with _ | cv
  · refine PySem.W.kdv_makeTail (mg := X.mg) (c := c) (P := P) (ps := tbl) (closure_ok hfr) iv.ok.glob (iv.mod.glob.keeps iv.bk) hc0 (tb.code.keeps iv.bk) atP trip found tb.gP onB fun b ctv doc h' tk keeps ge lt rec_ grown => ?_
    obtain ⟨b2, ob, fl, nt, eb, g1, g2, g3⟩ := rec_
    cases eb
    have le : s.heap.objs.size ≤ h'.objs.size := Nat.le_trans ge (Nat.le_of_lt lt)
    have ivT := inv_table (t' := tk) (more := #[rawInt lp.line, rawInt lp.col, .ref b]) (h' := h') iv hP keeps grown ge ⟨ob, fl, nt, g1, g2, g3⟩
    refine fin h'.objs.size b ((X.mg "__name__").getD .none) ctv doc _ _ (.inr ⟨iv.hok.fresh ge, lp, rfl⟩) (ivT.hok.fresh (Nat.le_refl _)) (ivT.laid (t' := tk) (fun _ _ e => Heap.get?_push_of_some _ e) (Nat.le_refl _) (objO_ok (Heap.get?_push_size _ rfl)))
  · obtain ⟨b, eb, hb⟩ := names lp cv found
    subst eb
    refine PySem.W.kdv_makeTailHit (mg := X.mg) (c := c) (P := P) (ps := tbl) (closure_ok hfr) iv.ok.glob (iv.mod.glob.keeps iv.bk) hc0 (tb.code.keeps iv.bk) atP trip found onB fun ctv doc h' tk keeps le => ?_
    have ivK : Inv X pins σ H { s with heap := h', toks := tk } := iv.kept keeps
    exact fin h'.objs.size b ((X.mg "__name__").getD .none) ctv doc H _ (.inl ⟨rfl, lp, found⟩) (ivK.hok.fresh (Nat.le_refl _)) (ivK.laid (t' := tk) (fun _ _ e => Heap.get?_push_of_some _ e) (Nat.le_refl _) (objO_ok (Heap.get?_push_size _ rfl)))
/-- no defaults -/
theorem lam_val0 {c P : Addr} {tbl : Array Value} {prs : Arguments} {bd : Expr} {sco : Scope} {lp : Pos} {E : Value → Shared → Prop} {Q : Value → Shared → Prop} (iv : Inv X pins σ H s) (tb : TabB X.base X.mg c P) (hc0 : X.env.code = .ref c)
    (hP : H P = some (.tbl tbl)) (trip : TriplesOk tbl.toList) (names : ∀ (at_ : Pos) (v : Value), codeAmong at_ tbl.toList = some v → ∃ b, v = .ref b ∧ H b = some (CodeO b (X.env.qual ++ "<lambda>")))
    (hd0 : defaultsOf prs X.env = ([], [])) (hfr : ∀ y ∈ sco.names, y.2 = .free → ∃ b, X.env.cells.lookup y.1 = some b)
    (fin : ∀ (f b : Addr) (pm ctv doc : Value) (H1 : Hp) (s' : Shared), Made H H1 P b (X.env.qual ++ "<lambda>") tbl → H1 f = none →
      Inv X pins σ (upd H1 f (objO f (lamO (X.env.qual ++ "<lambda>") prs bd sco X.env.cells .none doc pm b ctv))) s' → Q (.ref f) s') :
    wpAny (model X.prog X.w) X.A (eval (.Lambda prs bd sco lp) X.env) Q E s := by
  refine PySem.W.kla_eval hd0 ?_
  rw [makeFunction_eq]
  simp only [List.zip_nil_right, List.filterMap_nil, List.isEmpty_nil, if_true, pure_bind]
  exact lam_tail iv tb hc0 hP trip names hfr fin
/-- one default, a constant -/
theorem lam_val1 {c P : Addr} {tbl : Array Value} {prs : Arguments} {bd e0 : Expr} {v0 : V} {sco : Scope} {lp : Pos} {Q : Value → Shared → Prop} (iv : Inv X pins σ H s) (tb : TabB X.base X.mg c P) (hc0 : X.env.code = .ref c)
    (hP : H P = some (.tbl tbl)) (trip : TriplesOk tbl.toList) (names : ∀ (at_ : Pos) (v : Value), codeAmong at_ tbl.toList = some v → ∃ b, v = .ref b ∧ H b = some (CodeO b (X.env.qual ++ "<lambda>")))
    (hd1 : prs.defaults = [e0]) (hk0 : prs.kw_defaults = []) (pe0 : PE X e0 (tC v0)) (hfr : ∀ y ∈ sco.names, y.2 = .free → ∃ b, X.env.cells.lookup y.1 = some b)
    (fin : ∀ (t f b : Addr) (u pm ctv doc : Value) (H1 : Hp) (s' : Shared), L2.RelV v0 u → H t = none → Made (upd H t (objO t (PySem.W.kdv_tup [u]))) H1 P b (X.env.qual ++ "<lambda>") tbl → H1 f = none →
      Inv X pins σ (upd H1 f (objO f (lamO (X.env.qual ++ "<lambda>") prs bd sco X.env.cells (.ref t) doc pm b ctv))) s' → Q (.ref f) s') :
    wpAny (model X.prog X.w) X.A (eval (.Lambda prs bd sco lp) X.env) Q X.xe s := by
  refine PySem.W.kdv_lam (by rw [hd1]; rfl) hk0 ?_
  rw [hd1]
  refine PySem.W.kdv_all1 (thn (pe0.run pins s σ H (fun v H' => v = v0 ∧ H' = H) iv ⟨rfl, rfl⟩) fun u sa ha => ?_)
  obtain ⟨v, Ha, iva, ru, e1, e2⟩ := ha
  subst e1 e2
  refine PySem.W.kdv_all0 ?_
  rw [makeFunction_eq]
  simp only [List.zip_nil_right, List.filterMap_nil, List.isEmpty_nil, if_true, pure_bind, List.isEmpty_cons, Bool.false_eq_true, if_false]
  refine wpAny_bind (wpAny_newTextTuple ?_)
  have freshT : Ha sa.heap.objs.size = none := iva.hok.fresh (Nat.le_refl _)
  have ivt := iva.laid (t' := sa.toks) (h' := sa.heap.push (PySem.W.kdv_tup [u])) (fun _ _ e => Heap.get?_push_of_some _ e) (Nat.le_refl _) (objO_ok (Heap.get?_push_size _ rfl))
  have nT : ∀ b o, Ha b = some o → b ≠ sa.heap.objs.size := fun b o e => ne_of_none e freshT
  refine lam_tail ivt tb hc0 (by rw [upd_ne (nT _ _ hP)]; exact hP) trip (fun at_ v e => ?_) hfr fun f b pm ctv doc H1 s' md nf iv2 => fin sa.heap.objs.size f b u pm ctv doc H1 s' ru freshT md nf iv2
  obtain ⟨b, e1, e2⟩ := names at_ v e
  exact ⟨b, e1, by rw [upd_ne (nT _ _ e2)]; exact e2⟩
end
end Wl

set_option Elab.async false
set_option linter.all false
set_option maxRecDepth 100000
set_option maxHeartbeats 4000000
/-! such a value called, in a def that was entered from a walk of the lambda's own def -/
namespace Wl
open PySem PySem.Spec L2 PyProof.Rows LamX

/-- what the parameters get, by what is known of the heap -/
def bindQ (H : Hp) (fd : FuncData) (bs : List (Str × Value)) : Prop := ∀ s1 : Shared, (∀ t o, H t = some (objO t o) → s1.heap.get? t = some o) → BindsTo s1 fd ⟨[], []⟩ bs
/-- the value f, in the heap: its function, its code and what its parameters get -/
def isLam (q : Str) (prs : Arguments) (bd : Expr) (sco : Scope) (cs : List (Str × Addr)) (f c' : Addr) (H : Hp) : Prop :=
  ∃ (dV doc pm ctv : Value) (bs : List (Str × Value)), H f = some (objO f (lamO q prs bd sco cs dV doc pm c' ctv)) ∧ (∀ y ∈ bs, sco.names.lookup y.1 = some .local) ∧
    bindQ H (PySem.W.kdv_fn "<lambda>" q prs (.expr bd) sco (cloFrom cs sco.names []) dV doc pm (.ref c') ctv) bs
theorem un_wide {fs ex ch : List Addr} {H H' : Hp} {h h' : Heap} (u : Un fs ex H H' h h') (sub : ∀ b, b ∉ ch → b ∉ ex) : Un fs ch H H' h h' :=
  ⟨fun b o a n f x => u.keep b o a n f (sub b x), fun b o a n f x => u.slot b o a n f (sub b x), fun b o a n x => u.free b o a n (sub b x), fun b o a x => u.there b o a (sub b x), u.tups, u.frzs, u.tbls⟩

section
variable {X : Cx} {pins : List (Addr × Obj)} {σ : L2.St} {H H0 : Hp} {s s0 : Shared}
theorem pe_actQ {CXg : CXT} {Eg : XK} {Ng : List Str} {qg : Str} {sg : Scope} {g f c' : Addr} {cdg : Value} {params : Arguments} {body : Expr} {scope : Scope} {k i : Nat} {a : Str} {pn : List (Addr × Obj)} {xe : Value → Shared → Prop} {W : WX} {E : XK} {tb : TE} {ch : List Addr} {p1 p2 : Pos}
    (iv0 : Inv X pins σ H0 s0) (L : LamQ X.N X.env.scope scope) (un0 : Un (frs X.stack) ch H0 H s0.heap s.heap) (hch : ∀ b ∈ ch, ∀ x c, X.env.cells.lookup x = some c → c ≠ b)
    (tk : Takes ((cxOf CXg X.prog X.w X.K X.mg X.base Ng qg sg g cdg X.A X.stack s H Eg).tr pn xe) W) (hW : ∀ cls d σ' H', E cls d H' → W cls d σ' H') (hr : Room (k + 1) (X.A.deeper (envOfC qg sg s.heap.objs.size g cdg)))
    (hbody : ∀ (A : Around) (outer : List Env) (s : Shared) (H : Hp), Room k (A.deeper (lamEnv X scope s.heap.objs.size f c')) → PE (lamCx X A outer s H E scope f c') body tb)
    (hN : Ng[i]? = some a) (hv : Vis sg a) (hd : (a == ("__debug__" : Str)) = false := by decide) (hcd : (a == ("__classdict__" : Str)) = false := by decide) :
    PE ((cxOf CXg X.prog X.w X.K X.mg X.base Ng qg sg g cdg X.A X.stack s H Eg).tr pn xe) (.Call (.Name a p1) [] [] p2)
      (fun σZ HZ Q => σZ[i]? = some (some (.ref f)) ∧ HZ c' = some (CodeO c' (X.env.qual ++ "<lambda>")) ∧ isLam (X.env.qual ++ "<lambda>") params body scope X.env.cells f c' HZ ∧ tb σ HZ Q) := by
  refine ⟨fun pinsZ sZ σZ HZ Q IZ h => ?_⟩
  obtain ⟨hs, hc, ⟨dV, doc, pm, ctv, bs, hf, hloc, hbind⟩, ht⟩ := h
  refine wpAny_Call_Name_kw (thn ((pe_var (pos := p1) (i := i) hN hv hd hcd).run pinsZ sZ σZ HZ (fun v H1 => v = .ref f ∧ H1 = HZ) IZ ⟨.ref f, hs, rfl, rfl⟩) fun u s1 got => ?_)
  obtain ⟨v, H1, iv1, r1, ev, eH⟩ := got
  subst ev eH
  obtain rfl : u = Value.ref f := r1
  have known : ∀ t o, H1 t = some (objO t o) → s1.heap.get? t = some o := fun t o e => by
    have z : ObjOk _ _ H1 s1.heap t (objO t o) := iv1.hok t _ e
    exact z.1
  have atF := known f _ hf
  refine PySem.W.callWith_F0 ⟨_, _, _, _, atF⟩ ?_
  have un1 : Un (frs X.stack) [] H H1 s.heap s1.heap := iv1.base
  have un : Un (frs X.stack) ch H0 H1 s0.heap s1.heap := un0.trans (un_wide un1 fun b _ => by simp)
  obtain ⟨⟨oc, vs, t, hoc, hdc, hvc⟩, _, _⟩ := iv1.hok c' _ hc
  have runs : codeAny (model X.prog X.w) (X.A.deeper (envOfC qg sg s.heap.objs.size g cdg)) (.call (.ref f) ⟨[], []⟩) (CR (L2.CX X.prog X.w) (envOfC qg sg s.heap.objs.size g cdg :: X.stack) X.prog X.w H1 s1 Q E) s1 := by
    refine PySem.W.kla_callFunE hr.depth atF rfl L.co L.gen rfl ⟨c', oc, vs, t, rfl, hoc, hdc, hvc⟩ (hbind s1 known _ _ _ _ ?_)
    refine wpAny_newFunctionEnv (fun y hy => L.nocell y hy) hloc (fun h₁ hns hsb => ⟨iv1.nolimit.fresh _ hsb, ?_⟩) L.kind
    show codeAny _ _ (.expr body (lamEnv X scope s1.heap.objs.size f c')) _ _
    have kp : ∀ b o, s1.heap.get? b = some o → h₁.get? b = some o := fun b o e => hsb.extBut b o (Nat.ne_of_lt (Heap.lt_size e)) (Heap.get?_push_of_some _ e)
    have start : Inv (lamCx X (X.A.deeper (envOfC qg sg s.heap.objs.size g cdg)) (envOfC qg sg s.heap.objs.size g cdg :: X.stack) s1 H1 E scope f c') [] σ H1 { s1 with heap := h₁, toks := s1.toks + bs.length } :=
      lamQ_start iv0 L iv1.env0 hr.hd un hch hns kp
    refine PySem.W.kla_codeExpr (wpAny_mono ((hbody _ _ s1 H1 (hr.deeper _)).run [] _ _ H1 Q start ht) (fun v s' hq => ?_) fun e s' hq => hq)
    obtain ⟨w', H', J', rv, q⟩ := hq
    exact ⟨w', H', J'.os, J'.bare, J'.base, J'.hok, rv, q⟩
  have land : Passes (L2.CX X.prog X.w) ((cxOf CXg X.prog X.w X.K X.mg X.base Ng qg sg g cdg X.A X.stack s H Eg).tr pn xe) E := passes_call tk hW
  refine wpAny_call (codeAny_mono runs fun r s' hq => ?_)
  rcases r with e | fl
  · exact land pinsZ σZ H1 s1 e s' iv1 hq
  · cases fl with
    | ret u => exact iv1.after hq
    | next => exact False.elim hq
    | brk => exact False.elim hq
    | cont => exact False.elim hq
end
end Wl

set_option Elab.async false
set_option linter.all false
set_option maxRecDepth 100000
set_option maxHeartbeats 4000000
/-! told(y), y a lambda's value, in a walk of the def in which the lambda was made -/
namespace Wl
open PySem PySem.Spec L2 PyProof.Rows LamX

section
variable {X : Cx} {pins : List (Addr × Obj)} {σ : L2.St} {H0 : Hp} {s0 : Shared}
/-- the item's reading: one of the lambdas T (parameters, body, scope, what the body does), σ the slots where the walk begins -/
def tItem (cs : List (Str × Addr)) (q : Str) (T : List (Arguments × Expr × Scope × (XK → TE))) (TT : (XK → Hp → VK → Prop) → Hp → VK → Prop) (σ : L2.St) (i : Nat) : TE := fun σ' H' Q =>
  ∃ (f c' : Addr) (l : Arguments × Expr × Scope × (XK → TE)), l ∈ T ∧ σ'[i]? = some (some (.ref f)) ∧ H' c' = some (CodeO c' q) ∧ isLam q l.1 l.2.1 l.2.2.1 cs f c' H' ∧
    TT (fun E H1 Q1 => isLam q l.1 l.2.1 l.2.2.1 cs f c' H1 ∧ l.2.2.2 E σ H1 Q1) H' Q
theorem pe_item {TT : (XK → Hp → VK → Prop) → Hp → VK → Prop} {T : List (Arguments × Expr × Scope × (XK → TE))} {x y a : Str} {g C : Addr} {k i : Nat} {pg : Arguments} {bg : List Stmt} {sg scope : Scope} {dV kV doc pm cdv ct oc : Value} {an od : Option Addr} {osl : Array (Option Value)} {Ng : List Str} {cl : List (Str × Addr)} {fp : List Addr} {p py pos : Pos}
    (iv0 : Inv X pins σ H0 s0) (okFp : ∀ b ∈ fp, FpOk X pins H0 b)
    (hg : Gl (X.blk s0 H0 scope (compEnvC scope cl C X.env) fp) x) (hm : X.mg x = some (.ref g)) (hk : PySem.W.keepIn X.K (.ref g) = true)
    (lk : X.K.lookup g = some ⟨oc, od, .func (PySem.W.fnOf x x pg bg sg dV kV doc pm an cdv ct), osl⟩) (hcg : PySem.W.codeIn X.K cdv x = true) (hb : L2.Binds X.K (PySem.W.fnOf x x pg bg sg dV kV doc pm an cdv ct) [a] []) (Sg : FnScope Ng [a] sg) (hNg : Ng[0]? = some a) (hva : Vis sg a)
    (hG : GivesTo X Ng x sg g cdv bg a (X.env.qual ++ "<lambda>") TT) (hr : Room (k + 2) X.A)
    (hL : ∀ l ∈ T, LamQ X.N X.env.scope l.2.2.1)
    (hbody : ∀ l ∈ T, ∀ (A : Around) (outer : List Env) (s : Shared) (H : Hp) (E : XK) (f c' : Addr), Room k (A.deeper (lamEnv X l.2.2.1 s.heap.objs.size f c')) → PE (lamCx X A outer s H E l.2.2.1 f c') l.2.1 (l.2.2.2 E))
    (hN : X.N[i]? = some y) (hvy : Vis (compEnvC scope cl C X.env).scope y) (hdb : (x == ("__debug__" : Str)) = false := by decide) (hd : (a == ("__debug__" : Str)) = false := by decide) (hcd : (a == ("__classdict__" : Str)) = false := by decide)
    (hdy : (y == ("__debug__" : Str)) = false := by decide) (hcy : (y == ("__classdict__" : Str)) = false := by decide) :
    PE (X.blk s0 H0 scope (compEnvC scope cl C X.env) fp) (.Call (.Name x p) [.Name y py] [] pos) (tItem X.env.cells (X.env.qual ++ "<lambda>") T TT σ i) := by
  refine ⟨fun pinsY sY σY HY Q IY h => ?_⟩
  obtain ⟨f, c', l, hl, hs, hc, hi, htt⟩ := h
  refine wpAny_Call_Name_kw (ld_glob IY hg hm (PySem.W.callWith_K (h₀ := X.base) IY.ok.mod.kin hk ?_ (by rfl) (by rfl)) hdb)
  show wpAny _ _ (spliced ((false, eval (.Name y py) _) :: backTo pos (starEach [] _))) _ _ sY
  refine Calls.spliced_cons (thn ((pe_var (pos := py) (i := i) (X := X.blk s0 H0 scope (compEnvC scope cl C X.env) fp) hN hvy hdy hcy).run pinsY sY σY HY (fun v H1 => v = .ref f ∧ H1 = HY) IY ⟨.ref f, hs, rfl, rfl⟩) fun u s1 got => ?_)
  obtain ⟨v, H1, iv1, r1, ev, eH⟩ := got
  subst ev eH
  obtain rfl : u = Value.ref f := r1
  refine Calls.spliced_nil ⟨iv1.kIn, ?_⟩
  have key : codeAny (model X.prog X.w) X.A (.call (.ref g) ⟨[.ref f], []⟩) (CR C8.CX0 X.stack X.prog X.w H1 s1 Q C8.E0) s1 := by
    refine run_ofS (N := Ng) (ps := [a]) (us := [.ref f]) (vs := [.ref f]) lk hcg Sg hr iv1.env0 (hb s1 [.ref f] iv1.kIn rfl) (.cons rfl .nil) rfl fun room => ?_
    obtain ⟨t', z1, z2⟩ := hG f c' s1 H1 Q (fun E H' Q' => isLam (X.env.qual ++ "<lambda>") l.1 l.2.1 l.2.2.1 X.env.cells f c' H' ∧ l.2.2.2 E σ H' Q')
      (fun W pn xe E p1 p2 tk hW => pe_actQ (i := 0) (ch := fp) iv0 (hL l hl) iv1.base (fun b m => (okFp b m).2.2.2.2.1) tk hW room (fun A outer s H rm => hbody l hl A outer s H E f c' rm) hNg hva hd hcd) hc htt
    exact ⟨t', z1.nox, z2⟩
  refine wpAny_call (codeAny_mono key fun r s2 out => ?_)
  rcases r with e | fl
  · exact (show False from out).elim
  · cases fl with
    | ret u => exact iv1.after out
    | next => exact False.elim out
    | brk => exact False.elim out
    | cont => exact False.elim out
end
end Wl

set_option Elab.async false
set_option linter.all false
set_option maxRecDepth 100000
set_option maxHeartbeats 4000000
/-! [told(y) for y in ys] over deep values, ys a list of lambdas of this def -/
namespace Wl
open PySem PySem.Spec L2 PyProof.Rows LamX

/-- a lambda: its parameters, body and scope, the name that has a default, what its body does -/
structure LamT where
  prs : Arguments
  bd : Expr
  sco : Scope
  nm : Option Str
  t : DXS → DE
def bindB (prs : Arguments) (bd : Expr) (sco : Scope) : Option Str → Prop
  | none => ∀ q cl doc pm cdv ct, bindArgs (PySem.W.kdv_fn "<lambda>" q prs (.expr bd) sco cl .none doc pm cdv ct) ⟨[], []⟩ = pure []
  | some n => sco.names.lookup n = some .local ∧ ∀ q cl dV doc pm cdv ct, ∃ k, bindArgs (PySem.W.kdv_fn "<lambda>" q prs (.expr bd) sco cl dV doc pm cdv ct) ⟨[], []⟩ = seqItems? dV >>= k ∧ ∀ u, k (some #[u]) = pure [(n, u)]
def dfltD : Option Str → Value → Mu → Prop
  | none, dV, _ => dV = .none
  | some _, dV, μ => ∃ (t : Addr) (u : Value), dV = .ref t ∧ μ t = some (.oth (objO t (PySem.W.kdv_tup [u])))
/-- f is a value of the lambda l -/
def isLamD (q : Str) (l : LamT) (cs : List (Str × Addr)) (dV doc pm : Value) (b : Addr) (ctv : Value) (f : Addr) (μ : Mu) : Prop :=
  μ f = some (.fn (lamO q l.prs l.bd l.sco cs dV doc pm b ctv) b q) ∧ dfltD l.nm dV μ
theorem isLamD.down {K : PySem.W.Frag} {I H : Hp} {μ : Mu} {q : Str} {l : LamT} {cs : List (Str × Addr)} {dV doc pm ctv : Value} {b f : Addr} (h : isLamD q l cs dV doc pm b ctv f μ) (S : SatM K I μ H) (hb : bindB l.prs l.bd l.sco l.nm) :
    isLam q l.prs l.bd l.sco cs f b H ∧ H b = some (CodeO b q) := by
  obtain ⟨h1, h2⟩ := h
  obtain ⟨_, h3, h4⟩ := S.mu f _ h1
  refine ⟨?_, S.ex _ _ h4⟩
  obtain ⟨prs, bd, sco, nm, t⟩ := l
  cases nm with
  | none =>
    refine ⟨dV, doc, pm, ctv, [], h3, by simp, fun s1 _ => ?_⟩
    have h2 : dV = .none := h2
    subst h2
    intro M A Q E hq
    rw [hb]
    exact wpAny_pure hq
  | some n =>
    obtain ⟨t0, u, rfl, h5⟩ := h2
    have h6 : H t0 = some (objO t0 (PySem.W.kdv_tup [u])) := (S.mu t0 _ h5).2
    obtain ⟨b1, b2⟩ := hb
    refine ⟨.ref t0, doc, pm, ctv, [(n, u)], h3, fun y hy => ?_, fun s1 known => ?_⟩
    · rw [List.mem_singleton] at hy
      subst hy
      exact b1
    · obtain ⟨k, k1, k2⟩ := b2 q (cloFrom cs sco.names []) (.ref t0) doc pm (.ref b) ctv
      exact BindsTo.of_defaults rfl (known _ _ h6) rfl k1 (k2 u)

def vItem (q : Str) (T : List LamT) (cs : List (Str × Addr)) (tt : DTL → Mu → DV → Prop) (i : Nat) (δ0 : DSt) : DE := fun δ μ Q =>
  ∃ (f : Addr) (l : LamT) (dV doc pm : Value) (b : Addr) (ctv : Value), l ∈ T ∧ δ[i]? = some (some (.ref f)) ∧ isLamD q l cs dV doc pm b ctv f μ ∧
    tt (fun E μ1 Q1 => isLamD q l cs dV doc pm b ctv f μ1 ∧ l.t (fun C d _ μ2 => E C d μ2) δ0 μ1 Q1) μ Q
def vTells (vs : List Nat) (wi : DI) (g : DG) (it : DSt → DE) : DE := fun δ μ Q => vComp vs wi g vYes (it δ) δ μ Q

/-- the same record, seen from a larger part of the heap -/
def Sg.here (S : Sg) (J : Hp) (e : Same S.J J) : Sg := { S with J := J, tr := fun I C d δ μ σ H hJ => S.tr I C d δ μ σ H (e.trans hJ) }
section
variable {S : Sg} {ι : Type} {F : ι → Cx} {pos p py pos1 : Pos}
theorem re_item {tt : DTL → Mu → DV → Prop} {q : Str} {T : List LamT} {cs : List (Str × Addr)} {i : Nat} {I0 : Hp} {δ0 : DSt} {σ0 : L2.St} (hb : ∀ l ∈ T, bindB l.prs l.bd l.sco l.nm) (r0 : RepS S.K I0 δ0 σ0) (hJ0 : S.J = I0) :
    RE S (tItem cs q (T.map fun l => (l.prs, l.bd, l.sco, tBody S.K l.t)) (TTD S.K tt) σ0 i) (vItem q T cs tt i δ0) := by
  intro I δ μ σ H hJ SM hS Q Q' h u
  obtain ⟨f, l, dV, doc, pm, b, ctv, hl, hs, hi, htt⟩ := h
  obtain ⟨w', r1, r2⟩ := hS.at_ i _ hs
  cases r2
  obtain ⟨a1, a2⟩ := hi.down SM (hb l hl)
  refine ⟨f, b, _, List.mem_map_of_mem hl, r1, a2, a1, I, μ, Q, _, SM, ?_, htt, u⟩
  intro I2 μ2 H2 E E' Q2 Q2' e2 S2 h2 ux up
  obtain ⟨h3, h4⟩ := h2
  subst hJ0
  exact ⟨(h3.down S2 (hb l hl)).1, I2, δ0, μ2, E, Q2, S2, r0.mono (hJ.trans e2), h4, ux, up⟩
theorem RI.at_ {wi : TI} {t : DI} {J : Hp} (h : RI S wi t) (e : Same S.J J) : RI (S.here J e) wi t := fun I δ μ σ H hJ SM hS => h I δ μ σ H (e.trans hJ) SM hS
theorem RGv.at_ {vs : List Nat} {g : TG} {t : DG} {J : Hp} (h : RGv S.blk vs g t) (e : Same S.J J) : RGv (S.here J e).blk vs g t := fun I δ μ σ H d v hJ SM hS => h I δ μ σ H d v (e.trans hJ) SM hS
theorem we_tells {it : DSt → DE} {x y q : Str} {tt : DTL → Mu → DV → Prop} {T : List LamT} {cs : List (Str × Addr)} {k i : Nat} {iter : Expr} {scope : Scope} {own : List (Str × Nat)} {wi : DI} {g : DG} {pt : Pos} (hit : ∀ δ0 δ μ Q, it δ0 δ μ Q → vItem q T cs tt i δ0 δ μ Q) (TD : TellD S.P S.w S.K S.mg S.base x tt) (hk : k + 2 ≤ S.k)
    (hN : S.N.Nodup) (hi : WI S F (.Name y pt) iter wi) (ok : ∀ j, BlkOk S.N (F j).env.scope scope own) (hg : WGv S.blk (blkF F scope) (own.map (·.2)) (.Name y pt) g)
    (hcs : ∀ j, (F j).env.cells = cs) (hq : ∀ j, (F j).env.qual ++ "<lambda>" = q) (hb : ∀ l ∈ T, bindB l.prs l.bd l.sco l.nm) (hL : ∀ l ∈ T, ∀ j, LamQ S.N (F j).env.scope l.sco)
    (body : ∀ l ∈ T, ∀ (E : XK) (J : Hp) (E2 : DXS) tr, WE ⟨S.P, S.w, S.K, S.mg, S.base, k, S.N, J, fun cls d _ H => E cls d H, E2, tr, false⟩ (fun j : ι × Around × List Env × Shared × Hp × Addr × Addr => lamCx (F j.1) j.2.1 j.2.2.1 j.2.2.2.1 j.2.2.2.2.1 E l.sco j.2.2.2.2.2.1 j.2.2.2.2.2.2) l.bd (l.t E2))
    (hN2 : S.N[i]? = some y) (hvy : ∀ j cl C, Vis (compEnvC scope cl C (F j).env).scope y) (hgl : ∀ j s H cl C fp, Gl ((F j).blk s H scope (compEnvC scope cl C (F j).env) fp) x)
    (hs : ∀ env, ∀ z, foldedSetIterable iter env z = pure z := by exact fun _ _ => rfl) (hcold : S.cold = false := by rfl)
    (hdb : (x == ("__debug__" : Str)) = false := by decide) (hdy : (y == ("__debug__" : Str)) = false := by decide) (hcy : (y == ("__classdict__" : Str)) = false := by decide) :
    WE S F (.ListComp (.Call (.Name x p) [.Name y py] [] pos1) [⟨.Name y pt, iter, [], 0⟩] scope pos) (vTells (own.map (·.2)) wi g it) := by
  obtain ⟨ti, i1, i2⟩ := hi
  obtain ⟨tg, g1, g2⟩ := hg
  refine ⟨fun σ H Q => tLc ti tg tYes (tItem cs q (T.map fun l => (l.prs, l.bd, l.sco, tBody S.K l.t)) (TTD S.K tt) σ i) (own.map (·.2)) σ H Q, fun j hj => ⟨fun pins s σ H Q iv h => ?_⟩, fun I δ μ σ H hJ SM hS Q Q' h u => ?_⟩
  · obtain ⟨P0, w, K, mg, base, kk, N, J, W, E2, tr, cold⟩ := S
    have is := hj
    obtain ⟨h1, h2, h3, h4, h5, h6, h7, h8, h9, h10, h11⟩ := id hj
    have r8 := h8 hcold
    have r7 := h7 hcold
    dsimp only at h1 h2 h3 h4 h5 h6 r8 h9 TD hk body hN2 hN ok hL h ⊢
    subst h1 h2 h3 h4 h5 h6
    obtain ⟨gA, pg, bg, sg, dV, kV, doc, pm, cdv, ct, oc, an, od, osl, Ng, a, m1, m2, m3, m4, m5, m6, m7, m8, m9, m10, m11⟩ := TD.ex
    have give := m11 (F j) q rfl rfl rfl rfl rfl (by have := r8.un; omega)
    have ec := hcs j
    have eq := hq j
    subst ec eq
    refine near_core r7 hN iv (i1 j is) (ok j) (fun s H C cl fp => g1 (j, s, H, C, cl, fp) (is.blk s H scope _ fp)) (fun s1 H1 C cl fp iv1 okf => ?_) (hs _) h
    refine pe_item (k := k) iv1 okf (hgl j s1 H1 cl C fp) m1 m2 m3 m4 m5 m6 m7 m8 give (r8.mono hk) (fun l hl => ?_) (fun l hl A outer s H E f c' rm => ?_) hN2 (hvy j cl C) hdb m9 m10 hdy hcy
    · obtain ⟨l0, hl0, rfl⟩ := List.mem_map.mp hl
      exact hL l0 hl0 j
    · obtain ⟨l0, hl0, rfl⟩ := List.mem_map.mp hl
      refine ⟨fun pins s2 σ2 H2 Q2 iv2 h => ?_⟩
      obtain ⟨I2, δ2, μ2, ED, QD2, SM2, RS2, b1, b2, b3⟩ := h
      obtain ⟨te, x1, x2⟩ := body l0 hl0 E I2 (fun C d _ μ => ED C d μ) (fun I' C d δ' μ' σ' H' e' S' R' q' => b2 I' C d μ' H' e' S' q')
      exact (x1 (j, A, outer, s, H, f, c') ⟨rfl, rfl, rfl, rfl, rfl, rfl, fun _ => rfl, fun _ => rm, takes_of rfl rfl rfl rfl, passes_of rfl, rm.units⟩).run pins s2 σ2 H2 Q2 iv2 (x2 I2 δ2 μ2 σ2 H2 (Same.refl I2) SM2 RS2 QD2 Q2 b1 b3)
  · have key := re_comp (S := S.here I hJ) (i2.at_ hJ) (g2.at_ hJ) (b2 := (fun I δ μ σ H hJ SM hS Q Q' q u => u I true μ H (Same.refl I) SM q : RT ((S.here I hJ).blk) tYes vYes))
      (te := it δ) (fun I2 δ2 μ2 σ2 H2 hJ2 S2 R2 Q2 Q2' q2 u2 => re_item (S := (S.here I hJ).blk) (tt := tt) (q := q) (cs := cs) (i := i) hb hS rfl I2 δ2 μ2 σ2 H2 hJ2 S2 R2 Q2 Q2' (hit _ _ _ _ q2) u2)
    exact key I δ μ σ H (Same.refl I) SM hS Q Q' h u
end
end Wl

set_option Elab.async false
set_option linter.all false
set_option maxRecDepth 100000
set_option maxHeartbeats 4000000
/-! a lambda as an expression over deep values; defs whose reading rests on their cells -/
namespace Wl
open PySem PySem.Spec L2 PyProof.Rows LamX

def grown (μ μ1 : Mu) : Prop := μ1 = μ ∨ ∃ (t : Addr) (o : HO), μ t = none ∧ μ1 = mset μ t (.oth o)
def vLamV (P : Addr) (q : Str) (l : LamT) (cs : List (Str × Addr)) : DE := fun _ μ Q => μ P = some (.tab q) ∧
  ∀ (μ1 : Mu) (f b : Addr) (dV doc pm ctv : Value), grown μ μ1 → μ1 f = none → dfltD l.nm dV μ1 → Q (.ref f) (mset μ1 f (.fn (lamO q l.prs l.bd l.sco cs dV doc pm b ctv) b q))
def tLamV (K : PySem.W.Frag) (P : Addr) (q : Str) (l : LamT) (cs : List (Str × Addr)) : TE := fun σ H Q =>
  ∃ I δ μ QD, SatM K I μ H ∧ RepS K I δ σ ∧ vLamV P q l cs δ μ QD ∧ Up K I QD Q
section
variable {S : Sg} {ι : Type} {F : ι → Cx} {pos : Pos}
theorem we_lam0 {q : Str} {c P : Addr} {prs : Arguments} {bd : Expr} {sco : Scope} {t : DXS → DE} {cs : List (Str × Addr)} (tb : TabB S.base S.mg c P) (hcs : ∀ j, (F j).env.cells = cs) (hc0 : ∀ i, (F i).env.code = .ref c := by exact fun _ => rfl)
    (hq : ∀ i, (F i).env.qual ++ "<lambda>" = q := by exact fun _ => rfl) (hL : ∀ i, LamQ S.N (F i).env.scope sco) (hdef : ∀ env : Env, defaultsOf prs env = ([], []) := by exact fun _ => rfl) :
    WE S F (.Lambda prs bd sco pos) (vLamV P q ⟨prs, bd, sco, none, t⟩ cs) := by
  refine ⟨tLamV S.K P q ⟨prs, bd, sco, none, t⟩ cs, fun i hi => ⟨fun pins s σ H Q iv h => ?_⟩, fun I δ μ σ H hJ SM hS Q Q' h u => ⟨I, δ, μ, Q, SM, hS, h, u⟩⟩
  obtain ⟨I, δ, μ, QD, SM, RS, ⟨hP, next⟩, up⟩ := h
  obtain ⟨_, tbl, t1, t2, t3⟩ := SM.mu P _ hP
  have iq := hq i
  have ic := hcs i
  subst iq ic
  have iN := hi.N
  refine lam_val0 iv (by rw [hi.base, hi.mg]; exact tb) (hc0 i) t1 t2 (fun at_ v e => let ⟨b, e1, e2⟩ := t3 at_ v e; ⟨b, e1, SM.ex _ _ e2⟩) (hdef _) (LamQ.has (X := F i) (by rw [iN]; exact hL i) iv.ok) fun f b pm ctv doc H1 s' md nf iv1 => ?_
  obtain ⟨I1, e1, S1, cI⟩ := SM.made hP t1 md
  have S2 := S1.setM (p := f) (m := .fn (lamO ((F i).env.qual ++ "<lambda>") prs bd sco (F i).env.cells .none doc pm b ctv) b ((F i).env.qual ++ "<lambda>")) (S1.ex.free nf) (o := objO f (lamO ((F i).env.qual ++ "<lambda>") prs bd sco (F i).env.cells .none doc pm b ctv)) ⟨upd_same, cI⟩
  exact ⟨.ref f, _, iv1, rfl, up I1 (.ref f) (.ref f) _ _ e1 S2 (.ref f) (next μ f b .none doc pm ctv (.inl rfl) (S1.muNone nf) rfl)⟩
theorem we_lam1 {q n : Str} {c P : Addr} {prs : Arguments} {bd e0 : Expr} {v0 : V} {sco : Scope} {t : DXS → DE} {cs : List (Str × Addr)} (tb : TabB S.base S.mg c P) (hcs : ∀ j, (F j).env.cells = cs) (hp0 : ∀ i, PE (F i) e0 (tC v0)) (hc0 : ∀ i, (F i).env.code = .ref c := by exact fun _ => rfl)
    (hq : ∀ i, (F i).env.qual ++ "<lambda>" = q := by exact fun _ => rfl) (hL : ∀ i, LamQ S.N (F i).env.scope sco) (hd1 : prs.defaults = [e0] := by rfl) (hk0 : prs.kw_defaults = [] := by rfl) :
    WE S F (.Lambda prs bd sco pos) (vLamV P q ⟨prs, bd, sco, some n, t⟩ cs) := by
  refine ⟨tLamV S.K P q ⟨prs, bd, sco, some n, t⟩ cs, fun i hi => ⟨fun pins s σ H Q iv h => ?_⟩, fun I δ μ σ H hJ SM hS Q Q' h u => ⟨I, δ, μ, Q, SM, hS, h, u⟩⟩
  obtain ⟨I, δ, μ, QD, SM, RS, ⟨hP, next⟩, up⟩ := h
  obtain ⟨_, tbl, t1, t2, t3⟩ := SM.mu P _ hP
  have iq := hq i
  have ic := hcs i
  subst iq ic
  have iN := hi.N
  refine lam_val1 iv (by rw [hi.base, hi.mg]; exact tb) (hc0 i) t1 t2 (fun at_ v e => let ⟨b, e1, e2⟩ := t3 at_ v e; ⟨b, e1, SM.ex _ _ e2⟩) hd1 hk0 (hp0 i) (LamQ.has (X := F i) (by rw [iN]; exact hL i) iv.ok) fun d f b u pm ctv doc H1 s' ru nd md nf iv1 => ?_
  have nPd : P ≠ d := ne_of_none t1 nd
  have St := SM.setM (p := d) (m := .oth (objO d (PySem.W.kdv_tup [u]))) (o := objO d (PySem.W.kdv_tup [u])) (SM.ex.free nd) upd_same
  have hPt : mset μ d (.oth (objO d (PySem.W.kdv_tup [u]))) P = some (.tab ((F i).env.qual ++ "<lambda>")) := by rw [mset_ne nPd]; exact hP
  obtain ⟨I1, e1, S1, cI⟩ := St.made hPt (by rw [upd_ne nPd]; exact t1) md
  have S2 := S1.setM (p := f) (m := .fn (lamO ((F i).env.qual ++ "<lambda>") prs bd sco (F i).env.cells (.ref d) doc pm b ctv) b ((F i).env.qual ++ "<lambda>")) (S1.ex.free nf) (o := objO f (lamO ((F i).env.qual ++ "<lambda>") prs bd sco (F i).env.cells (.ref d) doc pm b ctv)) ⟨upd_same, cI⟩
  exact ⟨.ref f, _, iv1, rfl, up I1 (.ref f) (.ref f) _ _ e1 S2 (.ref f) (next _ f b (.ref d) doc pm ctv (.inr ⟨d, _, SM.muNone nd, rfl⟩) (S1.muNone nf) ⟨d, u, rfl, mset_same⟩)⟩
end
/-- a def whose reading rests on where its cells lie -/
theorem ok_defN {P : Program} {w : World} {K : PySem.W.Frag} {mg : Str → Option Value} {base : Heap} {x qual : Str} {st : Stmt} {f : Addr} {fd : FuncData} {N ps : List Str} {k : Nat} {sp : Sp2} (Fn : Fun K x qual st f fd) (Sc : FnScope N ps (defScope st))
    (t : List (Str × Addr) → DXS → DS) (hsp : ∀ ds μ Q E, sp ds μ Q E → ds.length = ps.length ∧ ∀ cs, t cs (fun C d _ μ => E C d μ) { nx := fun _ μ' => Q .non μ', rt := Q } (dstart N ds) μ)
    (body : ∀ (cdv : Value) (A : Around) (outer : List Env) (s : Shared) (H : Hp) (E : XK) (J : Hp) (W : WX) (E2 : DXS) tr,
      WSs ⟨P, w, K, mg, base, k, N, J, W, E2, tr, false⟩ (fun _ : Unit => cxOf (L2.CX P w) P w K mg base N qual (defScope st) f cdv A outer s H E) (defBody st) (t (cxOf (L2.CX P w) P w K mg base N qual (defScope st) f cdv A outer s H E).env.cells E2)) :
    Ok P w K mg base (k + 1) f fd ps sp := by
  refine Fn.okX Sc (fun vs H Q E h => ?_) (fun cdv A outer s H vs Q E hr h => ?_)
  · obtain ⟨I, ds, μ, Q2, E2, _, r, h, _⟩ := h
    rw [← r.length]
    exact (hsp ds μ Q2 E2 h).1
  · obtain ⟨I, ds, μ, Q2, E2, SM, r, h, u, ux⟩ := h
    obtain ⟨ts, h1, h2⟩ := body cdv A outer s H E I (fun cls d _ H => E cls d H) (fun C d _ μ => E2 C d μ) (fun I' C d δ μ' σ H' e' S' R' q' => ux I' C d μ' H' e' S' q')
    refine ⟨ts, h1 () ⟨rfl, rfl, rfl, rfl, rfl, rfl, fun _ => rfl, fun _ => hr, takes_of rfl rfl rfl rfl, passes_of rfl, hr.units⟩, ?_⟩
    refine h2 I _ μ _ H (Same.refl I) SM (r.start N) _ _ ((hsp ds μ Q2 E2 h).2 _) ⟨?_, u, ?_, ?_⟩
    · exact fun I' δ' σ' μ' H' e' S' R' q' => u I' .non .non μ' H' e' S' .non q'
    · exact fun _ _ _ _ _ _ _ _ q' => q'.elim
    · exact fun _ _ _ _ _ _ _ _ q' => q'.elim
end Wl

set_option Elab.async false
set_option linter.all false
set_option maxRecDepth 100000
set_option maxHeartbeats 4000000
/-! told(e) where the lambda was made, e any expression that gives such a value -/
namespace Wl
open PySem PySem.Spec L2 PyProof.Rows LamX

section
variable {X : Cx}
def tGot (cs : List (Str × Addr)) (q : Str) (T : List (Arguments × Expr × Scope × (XK → TE))) (TT : (XK → Hp → VK → Prop) → Hp → VK → Prop) (te : TE) : TE := fun σ H Q => te σ H fun v H' =>
  ∃ (f c' : Addr) (l : Arguments × Expr × Scope × (XK → TE)), l ∈ T ∧ v = .ref f ∧ H' c' = some (CodeO c' q) ∧ isLam q l.1 l.2.1 l.2.2.1 cs f c' H' ∧
    TT (fun E H1 Q1 => isLam q l.1 l.2.1 l.2.2.1 cs f c' H1 ∧ l.2.2.2 E σ H1 Q1) H' Q
theorem pe_told {TT : (XK → Hp → VK → Prop) → Hp → VK → Prop} {T : List (Arguments × Expr × Scope × (XK → TE))} {te : TE} {e : Expr} {x a : Str} {g : Addr} {k : Nat} {pg : Arguments} {bg : List Stmt} {sg : Scope} {dV kV doc pm cdv ct oc : Value} {an od : Option Addr} {osl : Array (Option Value)} {Ng : List Str} {p pos : Pos}
    (arg : PE X e te) (hg : Gl X x) (hm : X.mg x = some (.ref g)) (hk : PySem.W.keepIn X.K (.ref g) = true)
    (lk : X.K.lookup g = some ⟨oc, od, .func (PySem.W.fnOf x x pg bg sg dV kV doc pm an cdv ct), osl⟩) (hcg : PySem.W.codeIn X.K cdv x = true) (hb : L2.Binds X.K (PySem.W.fnOf x x pg bg sg dV kV doc pm an cdv ct) [a] []) (Sg : FnScope Ng [a] sg) (hNg : Ng[0]? = some a) (hva : Vis sg a)
    (hG : GivesTo X Ng x sg g cdv bg a (X.env.qual ++ "<lambda>") TT) (hr : Room (k + 2) X.A)
    (hL : ∀ l ∈ T, LamQ X.N X.env.scope l.2.2.1)
    (hbody : ∀ l ∈ T, ∀ (A : Around) (outer : List Env) (s : Shared) (H : Hp) (E : XK) (f c' : Addr), Room k (A.deeper (lamEnv X l.2.2.1 s.heap.objs.size f c')) → PE (lamCx X A outer s H E l.2.2.1 f c') l.2.1 (l.2.2.2 E))
    (hst : starEach [e] X.env = (false, eval e X.env) :: starEach [] X.env) (hpl : (backTo pos (starEach [] X.env)).any (·.1) = false)
    (hdb : (x == ("__debug__" : Str)) = false := by decide) (hd : (a == ("__debug__" : Str)) = false := by decide) (hcd : (a == ("__classdict__" : Str)) = false := by decide) :
    PE X (.Call (.Name x p) [e] [] pos) (tGot X.env.cells (X.env.qual ++ "<lambda>") T TT te) := by
  refine ⟨fun pins s σ H Q iv h => ?_⟩
  refine wpAny_Call_Name_kw (ld_glob iv hg hm (PySem.W.callWith_K (h₀ := X.base) iv.ok.mod.kin hk ?_ hst hpl) hdb)
  rw [hst]
  refine Calls.spliced_cons (thn (arg.run pins s σ H _ iv h) fun u s1 got => ?_)
  obtain ⟨v, H1, iv1, r1, f, c', l, hl, ev, hc, hi, htt⟩ := got
  subst ev
  obtain rfl : u = Value.ref f := r1
  refine Calls.spliced_nil ⟨iv1.kIn, ?_⟩
  have key : codeAny (model X.prog X.w) X.A (.call (.ref g) ⟨[.ref f], []⟩) (CR C8.CX0 X.stack X.prog X.w H1 s1 Q C8.E0) s1 := by
    refine run_ofS (N := Ng) (ps := [a]) (us := [.ref f]) (vs := [.ref f]) lk hcg Sg hr iv1.env0 (hb s1 [.ref f] iv1.kIn rfl) (.cons rfl .nil) rfl fun room => ?_
    obtain ⟨t', z1, z2⟩ := hG f c' s1 H1 Q (fun E H' Q' => isLam (X.env.qual ++ "<lambda>") l.1 l.2.1 l.2.2.1 X.env.cells f c' H' ∧ l.2.2.2 E σ H' Q')
      (fun W pn xe E p1 p2 tk hW => pe_actQ (i := 0) (ch := []) iv1 (hL l hl) Un.refl (fun b m => absurd m (by simp)) tk hW room (fun A outer s H rm => hbody l hl A outer s H E f c' rm) hNg hva hd hcd) hc htt
    exact ⟨t', z1.nox, z2⟩
  refine wpAny_call (codeAny_mono key fun r s2 out => ?_)
  rcases r with e | fl
  · exact (show False from out).elim
  · cases fl with
    | ret u => exact iv1.after out
    | next => exact False.elim out
    | brk => exact False.elim out
    | cont => exact False.elim out
end

/-- told(e): d is a value of one of the lambdas T -/
def vGot (q : Str) (T : List LamT) (cs : List (Str × Addr)) (tt : DTL → Mu → DV → Prop) (t : DE) : DE := fun δ μ Q => t δ μ fun d μ2 =>
  ∃ (f : Addr) (l : LamT) (dV doc pm : Value) (b : Addr) (ctv : Value), l ∈ T ∧ d = .ref f ∧ isLamD q l cs dV doc pm b ctv f μ2 ∧
    tt (fun E μ1 Q1 => isLamD q l cs dV doc pm b ctv f μ1 ∧ l.t (fun C d _ μ2 => E C d μ2) δ μ1 Q1) μ2 Q
section
variable {S : Sg} {ι : Type} {F : ι → Cx} {pos p : Pos}
theorem we_told {x q : Str} {tt : DTL → Mu → DV → Prop} {T : List LamT} {cs : List (Str × Addr)} {k : Nat} {e : Expr} {t : DE} (TD : TellD S.P S.w S.K S.mg S.base x tt) (hk : k + 2 ≤ S.k) (arg : WE S F e t)
    (hcs : ∀ j, (F j).env.cells = cs) (hq : ∀ j, (F j).env.qual ++ "<lambda>" = q) (hb : ∀ l ∈ T, bindB l.prs l.bd l.sco l.nm) (hL : ∀ l ∈ T, ∀ j, LamQ S.N (F j).env.scope l.sco)
    (body : ∀ l ∈ T, ∀ (E : XK) (J : Hp) (E2 : DXS) tr, WE ⟨S.P, S.w, S.K, S.mg, S.base, k, S.N, J, fun cls d _ H => E cls d H, E2, tr, false⟩ (fun j : ι × Around × List Env × Shared × Hp × Addr × Addr => lamCx (F j.1) j.2.1 j.2.2.1 j.2.2.2.1 j.2.2.2.2.1 E l.sco j.2.2.2.2.2.1 j.2.2.2.2.2.2) l.bd (l.t E2))
    (hgl : ∀ j, Gl (F j) x := by exact fun _ => rfl) (hdb : (x == ("__debug__" : Str)) = false := by decide) (hcold : S.cold = false := by rfl)
    (hst : ∀ env : Env, starEach [e] env = (false, eval e env) :: starEach [] env := by exact fun _ => rfl) (hpl : ∀ env : Env, (backTo pos (starEach [] env)).any (·.1) = false := by exact fun _ => rfl) :
    WE S F (.Call (.Name x p) [e] [] pos) (vGot q T cs tt t) := by
  obtain ⟨te, a1, a2⟩ := arg
  refine ⟨tGot cs q (T.map fun l => (l.prs, l.bd, l.sco, tBody S.K l.t)) (TTD S.K tt) te, fun j hj => ?_, fun I δ μ σ H hJ SM hS Q Q' h u => ?_⟩
  · have ae := a1 j hj
    obtain ⟨P0, w, K, mg, base, kk, N, J, W, E2, tr, cold⟩ := S
    obtain ⟨h1, h2, h3, h4, h5, h6, h7, h8, h9, h10, h11⟩ := id hj
    have r8 := h8 hcold
    dsimp only at h1 h2 h3 h4 h5 h6 r8 h9 TD hk body hL ⊢
    subst h1 h2 h3 h4 h5 h6
    obtain ⟨gA, pg, bg, sg, dV, kV, doc, pm, cdv, ct, oc, an, od, osl, Ng, a, m1, m2, m3, m4, m5, m6, m7, m8, m9, m10, m11⟩ := TD.ex
    have give := m11 (F j) q rfl rfl rfl rfl rfl (by have := r8.un; omega)
    have ec := hcs j
    have eq := hq j
    subst ec eq
    refine pe_told (k := k) ae (hgl j) m1 m2 m3 m4 m5 m6 m7 m8 give (r8.mono hk) (fun l hl => ?_) (fun l hl A outer s H E f c' rm => ?_) (hst _) (hpl _) hdb m9 m10
    · obtain ⟨l0, hl0, rfl⟩ := List.mem_map.mp hl
      exact hL l0 hl0 j
    · obtain ⟨l0, hl0, rfl⟩ := List.mem_map.mp hl
      refine ⟨fun pins s2 σ2 H2 Q2 iv2 h => ?_⟩
      obtain ⟨I2, δ2, μ2, ED, QD2, SM2, RS2, b1, b2, b3⟩ := h
      obtain ⟨te, x1, x2⟩ := body l0 hl0 E I2 (fun C d _ μ => ED C d μ) (fun I' C d δ' μ' σ' H' e' S' R' q' => b2 I' C d μ' H' e' S' q')
      exact (x1 (j, A, outer, s, H, f, c') ⟨rfl, rfl, rfl, rfl, rfl, rfl, fun _ => rfl, fun _ => rm, takes_of rfl rfl rfl rfl, passes_of rfl, rm.units⟩).run pins s2 σ2 H2 Q2 iv2 (x2 I2 δ2 μ2 σ2 H2 (Same.refl I2) SM2 RS2 QD2 Q2 b1 b3)
  · refine a2 I δ μ σ H hJ SM hS _ _ h fun I' d v μ' H' e' S' rd q' => ?_
    obtain ⟨f, l, dV, doc, pm, b, ctv, hl, ed, hi, htt⟩ := q'
    subst ed
    cases rd
    obtain ⟨b1, b2⟩ := hi.down S' (hb l hl)
    refine ⟨f, b, _, List.mem_map_of_mem hl, rfl, b2, b1, I', μ', Q, _, S', ?_, htt, fun I2 d2 v2 μ2 H2 e2 => u I2 d2 v2 μ2 H2 (e'.trans e2)⟩
    intro I2 μ2 H2 E E' Q2 Q2' e2 S2 h2 ux up
    exact ⟨(h2.1.down S2 (hb l hl)).1, I2, δ, μ2, E, Q2, S2, hS.mono (e'.trans e2), h2.2, ux, up⟩
end
section
variable {P : Program} {w : World} {K : PySem.W.Frag} {mg : Str → Option Value} {base : Heap}
/-- such a def whose code object is known -/
theorem ok_defCN {x qual : Str} {st : Stmt} {f cod : Addr} {N ps : List Str} {k : Nat} {sp : Sp2} {oc kV doc pm ct : Value} {od an : Option Addr} {osl : Array (Option Value)}
    (lk : K.lookup f = some ⟨oc, od, .func (PySem.W.fnOf x qual (defArgs st) (defBody st) (defScope st) .none kV doc pm an (.ref cod) ct), osl⟩) (hcd : PySem.W.codeIn K (.ref cod) qual = true) (Sc : FnScope N ps (defScope st))
    (t : List (Str × Addr) → DXS → DS) (hsp : ∀ ds μ Q E, sp ds μ Q E → ds.length = ps.length ∧ ∀ cs, t cs (fun C d _ μ => E C d μ) { nx := fun _ μ' => Q .non μ', rt := Q } (dstart N ds) μ)
    (body : ∀ (A : Around) (outer : List Env) (s : Shared) (H : Hp) (E : XK) (J : Hp) (W : WX) (E2 : DXS) tr, WSs ⟨P, w, K, mg, base, k, N, J, W, E2, tr, false⟩ (fun _ : Unit => cxOf (L2.CX P w) P w K mg base N qual (defScope st) f (.ref cod) A outer s H E) (defBody st)
      (t (cxOf (L2.CX P w) P w K mg base N qual (defScope st) f (.ref cod) A outer s H E).env.cells E2)) :
    Ok P w K mg base (k + 1) f (PySem.W.fnOf x qual (defArgs st) (defBody st) (defScope st) .none kV doc pm an (.ref cod) ct) ps sp := by
  refine L2.fn_of lk hcd Sc (fun vs H Q E h => ?_) (fun A outer s H vs Q E hr h => ?_)
  · obtain ⟨I, ds, μ, Q2, E2, _, r, h, _⟩ := h
    rw [← r.length]
    exact (hsp ds μ Q2 E2 h).1
  · obtain ⟨I, ds, μ, Q2, E2, SM, r, h, u, ux⟩ := h
    obtain ⟨ts, h1, h2⟩ := body A outer s H E I (fun cls d _ H => E cls d H) (fun C d _ μ => E2 C d μ) (fun I' C d δ μ' σ H' e' S' R' q' => ux I' C d μ' H' e' S' q')
    refine ⟨ts, h1 () ⟨rfl, rfl, rfl, rfl, rfl, rfl, fun _ => rfl, fun _ => hr, takes_of rfl rfl rfl rfl, passes_of rfl, hr.units⟩, ?_⟩
    refine h2 I _ μ _ H (Same.refl I) SM (r.start N) _ _ ((hsp ds μ Q2 E2 h).2 _) ⟨?_, u, ?_, ?_⟩
    · exact fun I' δ' σ' μ' H' e' S' R' q' => u I' .non .non μ' H' e' S' .non q'
    · exact fun _ _ _ _ _ _ _ _ q' => q'.elim
    · exact fun _ _ _ _ _ _ _ _ q' => q'.elim
end
end Wl

set_option Elab.async false
set_option linter.all false
set_option maxRecDepth 100000
set_option maxHeartbeats 4000000
/-! the same for readings that know no program text: lambdas by their numbers -/
namespace Wl
open PySem PySem.Spec L2 PyProof.Rows LamX

/-- which values are those of lambda n -/
structure LamA where
  is : Nat → Addr → Mu → Prop
  keep : ∀ n f μ μ', is n f μ → μ' f = μ f → (∀ a o, μ a = some (.oth o) → μ' a = some (.oth o)) → is n f μ'
theorem dfltD.keep {nm : Option Str} {dV : Value} {μ μ' : Mu} (h : dfltD nm dV μ) (k : ∀ a o, μ a = some (.oth o) → μ' a = some (.oth o)) : dfltD nm dV μ' := by
  cases nm with
  | none => exact h
  | some n =>
    obtain ⟨t, u, e1, e2⟩ := h
    exact ⟨t, u, e1, k _ _ e2⟩
def lamA (q : Str) (T : List LamT) (cs : List (Str × Addr)) : LamA where
  is n f μ := ∃ l dV doc pm b ctv, T[n]? = some l ∧ isLamD q l cs dV doc pm b ctv f μ
  keep n f μ μ' h e k := by
    obtain ⟨l, dV, doc, pm, b, ctv, h1, h2, h3⟩ := h
    exact ⟨l, dV, doc, pm, b, ctv, h1, e.trans h2, h3.keep k⟩
def vLamA (P : Addr) (q : Str) (A : LamA) (n : Nat) : DE := fun _ μ Q => μ P = some (.tab q) ∧ ∀ (μ1 : Mu) (f : Addr) (m : Mo), grown μ μ1 → μ1 f = none → A.is n f (mset μ1 f m) → Q (.ref f) (mset μ1 f m)
/-- the call itself within told: the value is as it was, the body does t -/
def tdA (A : LamA) (n : Nat) (f : Addr) (μ : Mu) (t : DXS → DE) (δ0 : DSt) : DTL := fun E μ1 Q1 => μ1 f = μ f ∧ A.is n f μ1 ∧ t (fun C d _ μ2 => E C d μ2) δ0 μ1 Q1
def vItemA (A : LamA) (ts : List (DXS → DE)) (tt : DTL → Mu → DV → Prop) (i : Nat) (δ0 : DSt) : DE := fun δ μ Q =>
  ∃ (f : Addr) (n : Nat) (t : DXS → DE), ts[n]? = some t ∧ δ[i]? = some (some (.ref f)) ∧ A.is n f μ ∧ tt (tdA A n f μ t δ0) μ Q
def vGotA (A : LamA) (ts : List (DXS → DE)) (tt : DTL → Mu → DV → Prop) (t0 : DE) : DE := fun δ μ Q => t0 δ μ fun d μ2 =>
  ∃ (f : Addr) (n : Nat) (t : DXS → DE), ts[n]? = some t ∧ d = .ref f ∧ A.is n f μ2 ∧ tt (tdA A n f μ2 t δ) μ2 Q
/-- what told makes of the call grows with it -/
def TtMono (tt : DTL → Mu → DV → Prop) : Prop := ∀ td td' μ Q, (∀ E μ1 Q1, td E μ1 Q1 → td' E μ1 Q1) → tt td μ Q → tt td' μ Q
theorem ttR_mono {isx : Addr → Str → Option Bool} {cs : Str} {n i : Nat} {ts : Addr → Addr → Option Addr → DS} : TtMono (ttR isx cs n i ts) := fun _ _ _ _ h a => h _ _ _ a
theorem ttT_mono {isx : Addr → Str → Option Bool} {cs : Str} {n i : Nat} {ts : Addr → Addr → Option Addr → DS} : TtMono (ttT isx cs n i ts) := fun _ _ _ _ h a => h _ _ _ a
theorem lam_same {q : Str} {l l' : LamT} {cs : List (Str × Addr)} {dV dV' doc doc' pm pm' ctv ctv' : Value} {b b' f : Addr} {μ μ1 : Mu} (h : isLamD q l cs dV doc pm b ctv f μ) (h' : isLamD q l' cs dV' doc' pm' b' ctv' f μ1) (el : l' = l) (e : μ1 f = μ f) :
    isLamD q l cs dV doc pm b ctv f μ1 := by
  subst el
  obtain ⟨h1, h2⟩ := h
  obtain ⟨h3, h4⟩ := h'
  have z := h3.symm.trans (e.trans h1)
  simp only [Option.some.injEq, Mo.fn.injEq, lamO, PySem.W.kdv_obj, PySem.W.kdv_fn, Obj.mk.injEq, Data.func.injEq, FuncData.mk.injEq] at z
  have ed : dV' = dV := by simp_all
  subst ed
  exact ⟨e.trans h1, h4⟩
theorem tdA.down {q : Str} {T : List LamT} {cs : List (Str × Addr)} {n : Nat} {f : Addr} {μ : Mu} {l : LamT} {dV doc pm ctv : Value} {b : Addr} {δ0 : DSt} (hl : T[n]? = some l) (hi : isLamD q l cs dV doc pm b ctv f μ) :
    ∀ E μ1 Q1, tdA (lamA q T cs) n f μ l.t δ0 E μ1 Q1 → isLamD q l cs dV doc pm b ctv f μ1 ∧ l.t (fun C d _ μ2 => E C d μ2) δ0 μ1 Q1 := by
  intro E μ1 Q1 h
  obtain ⟨h1, ⟨l', dV', doc', pm', b', ctv', h2, h3⟩, h4⟩ := h
  exact ⟨lam_same hi h3 (Option.some.inj (h2.symm.trans hl)) h1, h4⟩
theorem vItemA.down {q : Str} {T : List LamT} {cs : List (Str × Addr)} {tt : DTL → Mu → DV → Prop} {i : Nat} {δ0 δ : DSt} {μ : Mu} {Q : DV} (mono : TtMono tt) (h : vItemA (lamA q T cs) (T.map (·.t)) tt i δ0 δ μ Q) : vItem q T cs tt i δ0 δ μ Q := by
  obtain ⟨f, n, t, h1, h2, ⟨l, dV, doc, pm, b, ctv, h3, h4⟩, h5⟩ := h
  rw [List.getElem?_map, h3] at h1
  cases h1
  exact ⟨f, l, dV, doc, pm, b, ctv, List.mem_of_getElem? h3, h2, h4, mono _ _ _ _ (tdA.down h3 h4) h5⟩
theorem vGotA.down {q : Str} {T : List LamT} {cs : List (Str × Addr)} {tt : DTL → Mu → DV → Prop} {t0 : DE} {δ : DSt} {μ : Mu} {Q : DV} (mono : TtMono tt) (m0 : ∀ δ μ Q Q', (∀ d μ, Q d μ → Q' d μ) → t0 δ μ Q → t0 δ μ Q') (h : vGotA (lamA q T cs) (T.map (·.t)) tt t0 δ μ Q) : vGot q T cs tt t0 δ μ Q := by
  refine m0 _ _ _ _ (fun d μ2 h => ?_) h
  obtain ⟨f, n, t, h1, h2, ⟨l, dV, doc, pm, b, ctv, h3, h4⟩, h5⟩ := h
  rw [List.getElem?_map, h3] at h1
  cases h1
  exact ⟨f, l, dV, doc, pm, b, ctv, List.mem_of_getElem? h3, h2, h4, mono _ _ _ _ (tdA.down h3 h4) h5⟩
theorem vLamA.down {P : Addr} {q : Str} {T : List LamT} {cs : List (Str × Addr)} {n : Nat} {l : LamT} {δ : DSt} {μ : Mu} {Q : DV} (hl : T[n]? = some l) (h : vLamA P q (lamA q T cs) n δ μ Q) : vLamV P q l cs δ μ Q := by
  refine ⟨h.1, fun μ1 f b dV doc pm ctv g n0 d => h.2 μ1 f _ g n0 ⟨l, dV, doc, pm, b, ctv, hl, mset_same, d.keep fun a o e => ?_⟩⟩
  by_cases ha : a = f
  · subst ha; rw [n0] at e; cases e
  · rw [mset_ne ha]; exact e
theorem WE.weak {S : Sg} {ι : Type} {F : ι → Cx} {e : Expr} {v v' : DE} (h : WE S F e v) (k : ∀ δ μ Q, v' δ μ Q → v δ μ Q) : WE S F e v' :=
  let ⟨te, a, b⟩ := h
  ⟨te, a, fun I δ μ σ H hJ SM hS Q Q' q u => b I δ μ σ H hJ SM hS Q Q' (k _ _ _ q) u⟩
end Wl

set_option Elab.async false
set_option linter.all false
set_option maxRecDepth 100000
set_option maxHeartbeats 4000000
/-! lambdas by numbers: the rules as a text's derivation uses them -/
namespace Wl
open PySem PySem.Spec L2 PyProof.Rows LamX

/-- the lambdas of an expression, of a statement, in their order (no lambda within a lambda) -/
def lamE : Nat → Expr → List (Arguments × Expr × Scope)
  | 0, _ => []
  | n + 1, e => match e with
    | .Lambda a b s _ => [(a, b, s)]
    | .List es _ => es.flatMap (lamE n)
    | .Tuple es _ _ => es.flatMap (lamE n)
    | .BinOp l _ r _ => lamE n l ++ lamE n r
    | .Compare l _ rs _ => lamE n l ++ rs.flatMap (lamE n)
    | .BoolOp _ es _ => es.flatMap (lamE n)
    | .UnaryOp _ x _ => lamE n x
    | .IfExp t b o _ => lamE n t ++ lamE n b ++ lamE n o
    | .Subscript x i _ => lamE n x ++ lamE n i
    | .Call f as _ _ => lamE n f ++ as.flatMap (lamE n)
    | .Attribute x _ _ => lamE n x
    | _ => []
def lamS : Nat → Stmt → List (Arguments × Expr × Scope)
  | 0, _ => []
  | n + 1, st => match st with
    | .FunctionDef _ _ b _ _ _ _ _ _ _ => b.flatMap (lamS n)
    | .Assign _ v _ => lamE n v
    | .AugAssign _ _ v _ => lamE n v
    | .Expr v _ => lamE n v
    | .Return (some v) _ => lamE n v
    | .For _ i b o _ => lamE n i ++ b.flatMap (lamS n) ++ o.flatMap (lamS n)
    | .While t b o _ => lamE n t ++ b.flatMap (lamS n) ++ o.flatMap (lamS n)
    | .If t b o _ => lamE n t ++ b.flatMap (lamS n) ++ o.flatMap (lamS n)
    | _ => []
def tlOf : List (Arguments × Expr × Scope) → List (Option Str × (DXS → DE)) → List LamT
  | (p, b, s) :: xs, (n, t) :: ys => ⟨p, b, s, n, t⟩ :: tlOf xs ys
  | _, _ => []
def AllT (p : LamT → Prop) : List LamT → Prop
  | [] => True
  | l :: ls => p l ∧ AllT p ls
theorem AllT.mem {p : LamT → Prop} : ∀ {T : List LamT}, AllT p T → ∀ l ∈ T, p l
  | _ :: _, ⟨a, b⟩, l, m => by
    rcases List.mem_cons.mp m with rfl | m
    · exact a
    · exact AllT.mem b l m
section
variable {S : Sg} {ι : Type} {F : ι → Cx} {pos p py pos1 : Pos}
theorem we_lamA0 {q : Str} {c P : Addr} {n : Nat} {T : List LamT} {prs : Arguments} {bd : Expr} {sco : Scope} {t : DXS → DE} {cs : List (Str × Addr)} (tb : TabB S.base S.mg c P) (hl : T[n]? = some ⟨prs, bd, sco, none, t⟩) (hcs : ∀ j, (F j).env.cells = cs) (hL : ∀ i, LamQ S.N (F i).env.scope sco)
    (hc0 : ∀ i, (F i).env.code = .ref c := by exact fun _ => rfl) (hq : ∀ i, (F i).env.qual ++ "<lambda>" = q := by exact fun _ => rfl) (hdef : ∀ env : Env, defaultsOf prs env = ([], []) := by exact fun _ => rfl) :
    WE S F (.Lambda prs bd sco pos) (vLamA P q (lamA q T cs) n) :=
  (we_lam0 (t := t) tb hcs hc0 hq hL hdef).weak fun _ _ _ h => h.down hl
theorem we_lamA1 {q nm : Str} {c P : Addr} {n : Nat} {T : List LamT} {prs : Arguments} {bd e0 : Expr} {v0 : V} {sco : Scope} {t : DXS → DE} {cs : List (Str × Addr)} (tb : TabB S.base S.mg c P) (hl : T[n]? = some ⟨prs, bd, sco, some nm, t⟩) (hcs : ∀ j, (F j).env.cells = cs) (hL : ∀ i, LamQ S.N (F i).env.scope sco)
    (hp0 : ∀ i, PE (F i) e0 (tC v0)) (hc0 : ∀ i, (F i).env.code = .ref c := by exact fun _ => rfl) (hq : ∀ i, (F i).env.qual ++ "<lambda>" = q := by exact fun _ => rfl) (hd1 : prs.defaults = [e0] := by rfl) (hk0 : prs.kw_defaults = [] := by rfl) :
    WE S F (.Lambda prs bd sco pos) (vLamA P q (lamA q T cs) n) :=
  (we_lam1 (n := nm) (t := t) tb hcs hp0 hc0 hq hL hd1 hk0).weak fun _ _ _ h => h.down hl
/-- what must hold of each lambda of the def -/
structure LamOk (S : Sg) {ι : Type} (F : ι → Cx) (k : Nat) (l : LamT) : Prop where
  b : bindB l.prs l.bd l.sco l.nm
  L : ∀ j, LamQ S.N (F j).env.scope l.sco
  run : ∀ (E : XK) (J : Hp) (E2 : DXS) tr, WE ⟨S.P, S.w, S.K, S.mg, S.base, k, S.N, J, fun cls d _ H => E cls d H, E2, tr, false⟩ (fun j : ι × Around × List Env × Shared × Hp × Addr × Addr => lamCx (F j.1) j.2.1 j.2.2.1 j.2.2.2.1 j.2.2.2.2.1 E l.sco j.2.2.2.2.2.1 j.2.2.2.2.2.2) l.bd (l.t E2)
theorem we_tellsA {x y q : Str} {tt : DTL → Mu → DV → Prop} {T : List LamT} {ts : List (DXS → DE)} {cs : List (Str × Addr)} {k i : Nat} {iter : Expr} {scope : Scope} {own : List (Str × Nat)} {wi : DI} {g : DG} {pt : Pos} (TD : TellD S.P S.w S.K S.mg S.base x tt) (hk : k + 2 ≤ S.k)
    (hN : S.N.Nodup) (hi : WI S F (.Name y pt) iter wi) (ok : ∀ j, BlkOk S.N (F j).env.scope scope own) (hg : WGv S.blk (blkF F scope) (own.map (·.2)) (.Name y pt) g)
    (hcs : ∀ j, (F j).env.cells = cs) (hT : AllT (LamOk S F k) T) (hts : ts = T.map (·.t)) (mono : TtMono tt)
    (hN2 : S.N[i]? = some y) (hvy : ∀ j cl C, Vis (compEnvC scope cl C (F j).env).scope y) (hgl : ∀ j s H cl C fp, Gl ((F j).blk s H scope (compEnvC scope cl C (F j).env) fp) x) (hq : ∀ j, (F j).env.qual ++ "<lambda>" = q := by exact fun _ => rfl)
    (hs : ∀ env, ∀ z, foldedSetIterable iter env z = pure z := by exact fun _ _ => rfl) (hcold : S.cold = false := by rfl)
    (hdb : (x == ("__debug__" : Str)) = false := by decide) (hdy : (y == ("__debug__" : Str)) = false := by decide) (hcy : (y == ("__classdict__" : Str)) = false := by decide) :
    WE S F (.ListComp (.Call (.Name x p) [.Name y py] [] pos1) [⟨.Name y pt, iter, [], 0⟩] scope pos) (vTells (own.map (·.2)) wi g (vItemA (lamA q T cs) ts tt i)) := by
  subst hts
  exact we_tells (T := T) (fun _ _ _ _ h => h.down mono) TD hk hN hi ok hg hcs hq (fun l m => (hT.mem l m).b) (fun l m => (hT.mem l m).L) (fun l m => (hT.mem l m).run) hN2 hvy hgl hs hcold hdb hdy hcy
theorem we_toldA {x q : Str} {tt : DTL → Mu → DV → Prop} {T : List LamT} {ts : List (DXS → DE)} {cs : List (Str × Addr)} {k : Nat} {e : Expr} {t : DE} (TD : TellD S.P S.w S.K S.mg S.base x tt) (hk : k + 2 ≤ S.k) (arg : WE S F e t)
    (hcs : ∀ j, (F j).env.cells = cs) (hT : AllT (LamOk S F k) T) (hts : ts = T.map (·.t)) (mono : TtMono tt) (m0 : ∀ δ μ Q Q', (∀ d μ, Q d μ → Q' d μ) → t δ μ Q → t δ μ Q') (hq : ∀ j, (F j).env.qual ++ "<lambda>" = q := by exact fun _ => rfl)
    (hgl : ∀ j, Gl (F j) x := by exact fun _ => rfl) (hdb : (x == ("__debug__" : Str)) = false := by decide) (hcold : S.cold = false := by rfl)
    (hst : ∀ env : Env, starEach [e] env = (false, eval e env) :: starEach [] env := by exact fun _ => rfl) (hpl : ∀ env : Env, (backTo pos (starEach [] env)).any (·.1) = false := by exact fun _ => rfl) :
    WE S F (.Call (.Name x p) [e] [] pos) (vGotA (lamA q T cs) ts tt t) := by
  subst hts
  exact (we_told (T := T) TD hk arg hcs hq (fun l m => (hT.mem l m).b) (fun l m => (hT.mem l m).L) (fun l m => (hT.mem l m).run) hgl hdb hcold hst hpl).weak fun _ _ _ h => h.down mono m0
theorem vLamA_mono {P : Addr} {q : Str} {A : LamA} {n : Nat} : ∀ δ μ (Q Q' : DV), (∀ d μ, Q d μ → Q' d μ) → vLamA P q A n δ μ Q → vLamA P q A n δ μ Q' := fun _ _ _ _ m h => ⟨h.1, fun μ1 f x g n0 i => m _ _ (h.2 μ1 f x g n0 i)⟩
end
end Wl

set_option Elab.async false
set_option linter.all false
set_option maxRecDepth 100000
set_option maxHeartbeats 2000000
/-! a list times an int -/
namespace Wl
open PySem L2
section
variable {S : Sg} {ι : Type} {F : ι → Cx} {pos : Pos}
theorem RepL.rep {K : PySem.W.Frag} {I : Hp} {ds : List Dv} {vs : List V} (r : RepL K I ds vs) : ∀ n : Nat, RepL K I (List.replicate n ds).flatten (List.replicate n vs).flatten
  | 0 => .nil
  | n + 1 => by
    rw [List.replicate_succ, List.replicate_succ, List.flatten_cons, List.flatten_cons]
    exact r.append (RepL.rep r n)
def gRep : D2 := fun x y μ Q => match x, y with
  | .lst xs, .int k => (-(2 ^ 63) ≤ k ∧ k < 2 ^ 63) ∧ xs.length * k.toNat ≤ sizeLine ∧ Q (.lst (List.replicate k.toNat xs).flatten) μ
  | _, _ => False
theorem wo_rep : WO S (binaryOp .Mult) gRep := by
  refine ⟨rRep, fun X hX => op_rep, ?_⟩
  intro I μ H _ SM dx dy x y rx ry Q Q' q u
  cases rx <;> cases ry <;> first | exact False.elim q | skip
  rename_i h1 h2 k
  obtain ⟨⟨k1, k2⟩, k3, q⟩ := q
  refine ⟨_, _, _, rfl, rfl, SM.ex _ _ h1, k1, k2, by rw [← h2.length]; exact k3, fun p hp => ?_⟩
  obtain ⟨s1, s2⟩ := SM.newI hp (.lst _)
  exact u _ _ _ μ _ s1 s2 (.lst upd_same (RepL.mono s1 _ _ (h2.rep _))) q
end
section
variable {μ : Mu} {Q : DV}
@[simp] theorem o_rep {xs : List Dv} {k : Int} : gRep (.lst xs) (.int k) μ Q ↔ (-(2 ^ 63) ≤ k ∧ k < 2 ^ 63) ∧ xs.length * k.toNat ≤ sizeLine ∧ Q (.lst (List.replicate k.toNat xs).flatten) μ := Iff.rfl
/-- every value is equal to itself -/
theorem dEq_refl (d : Dv) : dEq d d = true := PySem.SeqAt.eqv_refl_plain _ d.plain
end
end Wl

set_option Elab.async false
set_option linter.all false
set_option maxRecDepth 100000
set_option maxHeartbeats 2000000
/-! dicts whose keys are nested tuples -/
namespace Wl
open PySem L2
open PySem.Spec PyProof.Rows
section
variable {K : PySem.W.Frag} {P : Program} {w : World} {I H : Hp} {h : Heap}
mutual
theorem nested_is (ok : HOk P w H h) (ex : Same I H) : ∀ (d : Dv) (v : V) (u : Value) (k : NestedKey), Rep K I d v → nkD d = some k → RelV v u → NestedIs h k u
  | .non, _, u, k, r, e, q => by
    cases r; simp [nkD] at e; subst e
    rw [show u = Value.none from q]; exact .none
  | .bl b, _, u, k, r, e, q => by
    cases r; simp [nkD] at e; subst e
    rw [show u = Value.bool b from q]; exact .bool rfl
  | .int i, _, u, k, r, e, q => by
    cases r; simp [nkD] at e; subst e
    obtain ⟨t, rfl⟩ := q; exact .int _ _
  | .str x, _, u, k, r, e, q => by
    cases r; simp [nkD] at e; subst e
    obtain ⟨t, rfl⟩ := q; exact .text _ _
  | .tup xs, _, u, k, r, e, q => by
    simp only [nkD, Option.map_eq_some_iff] at e
    obtain ⟨ks, e1, rfl⟩ := e
    cases r with
    | tup h1 h2 =>
      obtain ⟨z, its, rv, o, g1, g2, n, g3⟩ := ok _ _ (ex _ _ h1)
      rw [show u = Value.ref _ from q]
      exact .tup g1 g2 g3 (nested_all ok ex xs _ its ks h2 e1 rv)
  | .byt _, _, _, _, _, e, _ => by simp [nkD] at e
  | .ref _, _, _, _, _, e, _ => by simp [nkD] at e
  | .ty _, _, _, _, _, e, _ => by simp [nkD] at e
  | .lst _, _, _, _, _, e, _ => by simp [nkD] at e
  | .rol _, _, _, _, _, e, _ => by simp [nkD] at e
  | .rot _, _, _, _, _, e, _ => by simp [nkD] at e
theorem nested_all (ok : HOk P w H h) (ex : Same I H) : ∀ (ds : List Dv) (vs : List V) (us : List Value) (ks : List NestedKey), RepL K I ds vs → nksD ds = some ks → Vals vs us → NestedAll h ks us
  | [], _, us, ks, r, e, q => by
    cases r; cases q; simp [nksD] at e; subst e; exact .nil
  | d :: ds, _, us, ks, r, e, q => by
    cases r with
    | cons r1 r2 =>
      cases q with
      | cons q1 q2 =>
        simp only [nksD] at e
        cases e1 : nkD d with
        | none => rw [e1] at e; simp at e
        | some k =>
          cases e2 : nksD ds with
          | none => rw [e1, e2] at e; simp at e
          | some ks' =>
            rw [e1, e2] at e; simp at e; subst e
            exact .cons (nested_is ok ex d _ _ k r1 e1 q1) (nested_all ok ex ds _ _ ks' r2 e2 q2)
end
theorem nkT_of {d : Dv} {k : NestedKey} (h : nkT d = some k) : nkD d = some k ∧ k.depth ≤ 8 := by
  unfold nkT at h
  cases d <;> simp at h
  rename_i xs
  cases e : nksD xs with
  | none => rw [e] at h; simp at h
  | some ks =>
    rw [e] at h
    simp at h
    obtain ⟨h1, h2⟩ := h
    rw [← h2]
    exact ⟨by simp [nkD, e], h1⟩
theorem nkT_tup {d : Dv} {k : NestedKey} (h : nkT d = some k) : ∃ xs, d = .tup xs := by
  cases d with
  | tup xs => exact ⟨_, rfl⟩
  | _ => cases h
theorem key_is (ok : HOk P w H h) (ex : Same I H) {d : Dv} {v : V} {u : Value} {k : NestedKey} (r : Rep K I d v) (e : nkT d = some k) (q : RelV v u) : ∃ a, u = .ref a ∧ v = .ref a ∧ (nestedKind P w).is h k a := by
  obtain ⟨e1, e2⟩ := nkT_of e
  have n := nested_is ok ex d v u k r e1 q
  obtain ⟨xs, rfl⟩ := nkT_tup e
  clear e
  cases r with
  | tup h1 h2 =>
    have q' : u = Value.ref _ := q
    subst q'
    exact ⟨_, rfl, rfl, n, e2⟩
theorem dn_keys (ok : HOk P w H h) (ex : Same I H) : ∀ {kvs : List (NestedKey × Dv)} {L : List (NestedKey × Addr × Value)}, DNRel K I kvs L → ∀ x ∈ L, (nestedKind P w).is h x.1 x.2.1
  | _, _, .nil, _, hx => by cases hx
  | _, _, .cons ⟨h1, ⟨d, h2, h3⟩, _⟩ t, x, hx => by
    rcases List.mem_cons.mp hx with rfl | hx
    · obtain ⟨a, ea, _, h4⟩ := key_is ok ex h3 h2 (show RelV (.ref _) (.ref _) from rfl)
      cases ea
      rw [← h1]; exact h4
    · exact dn_keys ok ex t x hx
theorem DNRel.length : ∀ {kvs : List (NestedKey × Dv)} {L : List (NestedKey × Addr × Value)}, DNRel K I kvs L → kvs.length = L.length
  | _, _, .nil => rfl
  | _, _, .cons _ t => by rw [List.length_cons, List.length_cons, DNRel.length t]
theorem DNRel.val : ∀ {kvs : List (NestedKey × Dv)} {L : List (NestedKey × Addr × Value)} (k : NestedKey), DNRel K I kvs L → (valD kvs k = none ∧ atKey L k = none) ∨ ∃ d v u p, valD kvs k = some d ∧ atKey L k = some p ∧ p.2 = u ∧ Rep K I d v ∧ RelV v u
  | _, _, k, .nil => .inl ⟨rfl, rfl⟩
  | (k1, d) :: r, (k2, a, u) :: r', k, .cons ⟨h1, h2, v, h3, h4⟩ t => by
    cases (show k1 = k2 from h1)
    by_cases e : k1 = k
    · exact .inr ⟨d, v, u, (a, u), by simp [valD, List.find?_cons, e], by simp [atKey, List.find?_cons, e], rfl, h3, h4⟩
    · have := DNRel.val k t
      have e1 : valD ((k1, d) :: r) k = valD r k := by simp [valD, List.find?_cons, e]
      have e2 : atKey ((k1, a, u) :: r') k = atKey r' k := by simp [atKey, List.find?_cons, e]
      rw [e1, e2]; exact this
theorem DNRel.any : ∀ {kvs : List (NestedKey × Dv)} {L : List (NestedKey × Addr × Value)} (k : NestedKey), DNRel K I kvs L → (kvs.any fun kv => decide (kv.1 = k)) = (L.any fun kv => decide (kv.1 = k))
  | _, _, k, .nil => rfl
  | (k1, d) :: r, (k2, a, u) :: r', k, .cons ⟨h1, _⟩ t => by
    cases (show k1 = k2 from h1)
    simp only [List.any_cons, DNRel.any k t]
theorem DNRel.repl {d : Dv} {v : V} {u : Value} (r : Rep K I d v) (q : RelV v u) (k : NestedKey) : ∀ {kvs : List (NestedKey × Dv)} {L : List (NestedKey × Addr × Value)}, DNRel K I kvs L → DNRel K I (kvs.map fun kv => if kv.1 = k then (kv.1, d) else kv) (L.map (putAt k u))
  | _, _, .nil => .nil
  | (k1, d1) :: r1, (k2, a, u1) :: r2, .cons ⟨h1, h2, h3⟩ t => by
    cases (show k1 = k2 from h1)
    simp only [List.map_cons]
    by_cases e : k1 = k
    · rw [if_pos e, putAt, if_pos e]; exact .cons ⟨rfl, h2, v, r, q⟩ (DNRel.repl r q k t)
    · rw [if_neg e, putAt, if_neg e]; exact .cons ⟨rfl, h2, h3⟩ (DNRel.repl r q k t)
theorem DNRel.app : ∀ {ps ps2 : List (NestedKey × Dv)} {qs qs2 : List (NestedKey × Addr × Value)}, DNRel K I ps qs → DNRel K I ps2 qs2 → DNRel K I (ps ++ ps2) (qs ++ qs2)
  | _, _, _, _, .nil, s => s
  | _, _, _, _, .cons h t, s => .cons h (DNRel.app t s)
theorem atKey_any (L : List (NestedKey × Addr × Value)) (k : NestedKey) : (atKey L k).isSome = (L.any fun kv => decide (kv.1 = k)) := by
  induction L with
  | nil => rfl
  | cons x L ih =>
    unfold atKey at ih ⊢
    by_cases e : x.1 = k
    · simp [List.find?_cons, e]
    · simp only [List.find?_cons, List.any_cons, e, decide_false, Bool.false_or]; exact ih
theorem DNRel.put {kvs : List (NestedKey × Dv)} {L : List (NestedKey × Addr × Value)} {dk d : Dv} {v : V} {u : Value} {k : NestedKey} {a : Addr} (r : DNRel K I kvs L) (hk : nkT dk = some k) (rk : Rep K I dk (.ref a)) (rd : Rep K I d v) (q : RelV v u) : DNRel K I (putD kvs k d) (storedH L k a u) := by
  unfold putD storedH
  rw [atKey_any, r.any k]
  split
  · exact r.repl rd q k
  · exact r.app (.cons ⟨rfl, ⟨dk, hk, rk⟩, v, rd, q⟩ .nil)
theorem storedH_len (L : List (NestedKey × Addr × Value)) (k : NestedKey) (a : Addr) (u : Value) : (storedH L k a u).length ≤ L.length + 1 := by
  unfold storedH
  split
  · simp
  · simp
theorem dno_of {a : Addr} {L : List (NestedKey × Addr × Value)} (ok : HOk P w H h) (e : H a = some (DN P w a L)) : DNo P w a L h := (ok a _ e : ObjOk P w H h a (.ext (DNo P w a L))).1
theorem dno_heap {a : Addr} {L : List (NestedKey × Addr × Value)} (x : DNo P w a L h) (ks : ∀ x ∈ L, (nestedKind P w).is h x.1 x.2.1) : h.DictOfH (nestedKind P w) a L := by
  obtain ⟨_, _, o, es, ep, h1, h2, h3, h4, h5⟩ := x
  exact ⟨o, es, ep, h1, h2, h3, h4, ks, h5⟩
theorem dn_ok {a : Addr} {L : List (NestedKey × Addr × Value)} (x : DNo P w a L h) : ObjOk P w H h a (DN P w a L) := by
  obtain ⟨z1, z2, o, es, ep, h1, h2⟩ := id x
  exact ⟨x, ⟨o, h1⟩, fun _ _ y k => let ⟨y1, y2, o, es, ep, g1, g2⟩ := y; ⟨y1, y2, o, es, ep, k _ g1, g2⟩⟩
theorem heap_dno {a : Addr} {L : List (NestedKey × Addr × Value)} (hd : (a == sysModules) = false) (hl : L.length ≤ sizeLine) (x : h.DictOfH (nestedKind P w) a L) : DNo P w a L h := by
  obtain ⟨o, es, ep, h1, h2, h3, h4, _, h5⟩ := x
  exact ⟨hd, hl, o, es, ep, h1, h2, h3, h4, h5⟩
end
section
variable {X : Cx} {I : Hp}
def rInN (P : Program) (w : World) (K : PySem.W.Frag) (neg : Bool) : R2 := fun x y H Q => ∃ I a kvs L d k, y = V.ref a ∧ H a = some (DN P w a L) ∧ DNRel K I kvs L ∧ Same I H ∧ Rep K I d x ∧ nkT d = some k ∧ Q (.bl (if neg then !(valD kvs k).isSome else (valD kvs k).isSome)) H
theorem val_some {K : PySem.W.Frag} {I : Hp} {kvs : List (NestedKey × Dv)} {L : List (NestedKey × Addr × Value)} (r : DNRel K I kvs L) (k : NestedKey) : (valD kvs k).isSome = (atKey L k).isSome := by
  rcases r.val k with ⟨h1, h2⟩ | ⟨d, v, u, p, h1, h2, _⟩
  · rw [h1, h2]; rfl
  · rw [h1, h2]; rfl
theorem or_inN (hu : X.A.units + 16 < cLine) : OpR X (compareOp .In) (rInN X.prog X.w X.K false) := by
  intro pins s σ H x y v u Q J rx ry h
  obtain ⟨I, a, kvs, L, d, k, rfl, ha, rel, ex, rd, hk, q⟩ := h
  cases (show u = Value.ref a from ry)
  obtain ⟨b, rfl, _, hkey⟩ := key_is (P := X.prog) (w := X.w) J.hok ex rd hk rx
  have dn := dno_of J.hok ha
  refine wpAny_in_heap (show X.A.units + 1 + 8 < cLine by omega) hkey dn.1 (dno_heap dn (dn_keys J.hok ex rel)) ?_
  rw [← val_some rel k]
  exact ⟨.bl _, H, J.tok _, rfl, q⟩
theorem or_notInN (hu : X.A.units + 16 < cLine) : OpR X (compareOp .NotIn) (rInN X.prog X.w X.K true) := by
  intro pins s σ H x y v u Q J rx ry h
  obtain ⟨I, a, kvs, L, d, k, rfl, ha, rel, ex, rd, hk, q⟩ := h
  cases (show u = Value.ref a from ry)
  obtain ⟨b, rfl, _, hkey⟩ := key_is (P := X.prog) (w := X.w) J.hok ex rd hk rx
  have dn := dno_of J.hok ha
  refine wpAny_notIn_heap (show X.A.units + 1 + 8 < cLine by omega) hkey dn.1 (dno_heap dn (dn_keys J.hok ex rel)) ?_
  rw [← val_some rel k]
  exact ⟨.bl _, H, J.tok _, rfl, q⟩
end
end Wl

set_option Elab.async false
set_option linter.all false
set_option maxRecDepth 100000
set_option maxHeartbeats 2000000
/-! dicts whose keys are nested tuples: in, [], [] =, {}, {k: v} -/
namespace Wl
open PySem L2
open PySem.Spec PyProof.Rows
section
variable {S : Sg} {ι : Type} {F : ι → Cx} {pos : Pos}
theorem room16 {X : Cx} (h : Is S X) : X.A.units + 16 < cLine := by have := h.units; omega
/-- y in d -/
def gNIn (P : Program) (w : World) (neg : Bool) : D2 := fun y x μ Q => ∃ a kvs k, x = .ref a ∧ μ a = some (.dN P w kvs) ∧ nkT y = some k ∧ Q (.bl (if neg then !(valD kvs k).isSome else (valD kvs k).isSome)) μ
theorem re_nin {neg : Bool} {I H : Hp} {μ : Mu} {P : Program} {w : World} {K : PySem.W.Frag} (SM : SatM K I μ H) {dy dx : Dv} {y x : V} (ry : Rep K I dy y) (rx : Rep K I dx x) {Q : DV} {Q' : VK} (q : gNIn P w neg dy dx μ Q) (u : ∀ b, Q (.bl b) μ → Q' (.bl b) H) : rInN P w K neg y x H Q' := by
  obtain ⟨a, kvs, k, rfl, hm, hk, q⟩ := q
  cases rx
  obtain ⟨L, rel, hL⟩ := SM.memo hm
  exact ⟨I, a, kvs, L, dy, k, rfl, hL, rel, SM.ex, ry, hk, u _ q⟩
theorem wo_nin : WO S (compareOp .In) (gNIn S.P S.w false) := ⟨rInN S.P S.w S.K false, fun X hX => by have := or_inN (X := X) (room16 hX); rw [hX.prog, hX.w, hX.K] at this; exact this,
  fun I μ H _ SM dy dx y x ry rx Q Q' q u => re_nin SM ry rx q fun b q1 => u I _ _ μ H (Same.refl I) SM (.bl _) q1⟩
theorem wo_nnotin : WO S (compareOp .NotIn) (gNIn S.P S.w true) := ⟨rInN S.P S.w S.K true, fun X hX => by have := or_notInN (X := X) (room16 hX); rw [hX.prog, hX.w, hX.K] at this; exact this,
  fun I μ H _ SM dy dx y x ry rx Q Q' q u => re_nin SM ry rx q fun b q1 => u I _ _ μ H (Same.refl I) SM (.bl _) q1⟩
/-- d[y] -/
def tNGet (P : Program) (w : World) (K : PySem.W.Frag) (td ty : TE) : TE := fun σ H Q => td σ H fun x H1 => ty σ H1 fun y H2 => ∃ I a kvs L d k z, x = V.ref a ∧ H2 a = some (DN P w a L) ∧ DNRel K I kvs L ∧ Same I H2 ∧ Rep K I d y ∧ nkT d = some k ∧ valD kvs k = some z ∧
  ∀ v, Rep K I z v → Q v H2
theorem pe_nget {X : Cx} {o i : Expr} {td ty : TE} (hu : X.A.units + 16 < cLine) (ho : PE X o td) (hi : PE X i ty) (hs : NoSl i) : PE X (.Subscript o i pos) (tNGet X.prog X.w X.K td ty) := by
  refine ⟨fun pins s σ H Q J h => ?_⟩
  refine subD_of PySem.F.slot_dict_getitem.lookup hs (thn (ho.run pins s σ H _ J h) fun u s1 ⟨x, H1, J1, rx, q1⟩ => thn (hi.run pins s1 σ H1 _ J1 q1) fun iv s2 ⟨y, H2, J2, ry, I, a, kvs, L, d, k, z, ex, hL, rel, hex, rd, hk, hz, q2⟩ => ?_)
  subst ex
  obtain rfl : u = Value.ref a := rx
  obtain ⟨b, rfl, _, hkey⟩ := key_is (P := X.prog) (w := X.w) J2.hok hex rd hk ry
  have dn := dno_of J2.hok hL
  have dh := dno_heap dn (dn_keys J2.hok hex rel)
  rcases rel.val k with ⟨h1, _⟩ | ⟨d', v', u', p, h1, h2, h3, h4, h5⟩
  · rw [h1] at hz; cases hz
  · rw [h1] at hz
    cases hz
    refine ⟨dh.typeIs, wpAny_getItem_heap (show X.A.units + 1 + 8 < cLine by omega) hkey dh h2 ?_⟩
    rw [h3]
    exact ⟨v', H2, J2.tok _, h5, q2 v' h4⟩
def vNGet (P : Program) (w : World) (td ty : DE) : DE := fun δ μ Q => td δ μ fun x μ1 => ty δ μ1 fun y μ2 => ∃ a kvs k z, x = .ref a ∧ μ2 a = some (.dN P w kvs) ∧ nkT y = some k ∧ valD kvs k = some z ∧ Q z μ2
theorem we_nget {o i : Expr} {td ty : DE} (ho : WE S F o td) (hi : WE S F i ty) (hs : NoSl i := by exact fun _ _ => rfl) : WE S F (.Subscript o i pos) (vNGet S.P S.w td ty) :=
  let ⟨ta, a1, a2⟩ := ho; let ⟨tb, b1, b2⟩ := hi
  ⟨tNGet S.P S.w S.K ta tb, fun i hi => by have := pe_nget (pos := pos) (room16 hi) (a1 i hi) (b1 i hi) hs; rw [hi.prog, hi.w, hi.K] at this; exact this, fun I δ μ σ H hJ SM hS Q Q' q u => a2 I δ μ σ H hJ SM hS _ _ q fun I1 x vx μ1 H1 e1 S1 r1 q1 =>
    b2 I1 δ μ1 σ H1 (hJ.trans e1) S1 (hS.mono e1) _ _ q1 fun I2 y vy μ2 H2 e2 S2 r2 q2 => by
      obtain ⟨a, kvs, k, z, rfl, hm, hk, hz, q3⟩ := q2
      cases r1
      obtain ⟨L, rel, hL⟩ := S2.memo hm
      exact ⟨I2, a, kvs, L, y, k, z, rfl, hL, rel, S2.ex, r2, hk, hz, fun v rv => u I2 z v μ2 H2 (e1.trans e2) S2 rv q3⟩⟩
/-- d[y] = v -/
def sNPut (P : Program) (w : World) (K : PySem.W.Frag) (td ty tv : TE) : TS := fun D σ H => tv σ H fun v H1 => td σ H1 fun x H2 => ty σ H2 fun y H3 => ∃ I a kvs L dk d k, x = V.ref a ∧ I a = none ∧ H3 a = some (DN P w a L) ∧ DNRel K I kvs L ∧ Same I H3 ∧ Rep K I dk y ∧ nkT dk = some k ∧ Rep K I d v ∧ kvs.length < sizeLine ∧
  ∀ L', DNRel K I (putD kvs k d) L' → D.nx σ (upd H3 a (DN P w a L'))
theorem ps_nput {X : Cx} {o i value : Expr} {pos' : Pos} {td ty tv : TE} (hu : X.A.units + 16 < cLine) (ho : PE X o td) (hi : PE X i ty) (hv : PE X value tv) (hs : swapsWith value (some (.Subscript o i pos')) pos.line X.env = pure false) :
    PS X (.Assign [.Subscript o i pos'] value pos) (sNPut X.prog X.w X.K td ty tv) := by
  refine ⟨fun pins s σ H D J h => ?_⟩
  refine wpAny_Assign_Subscript (thn (hv.run pins s σ H _ J h) fun r s1 ⟨v, H1, J1, rv, q1⟩ => thn (ho.run pins s1 σ H1 _ J1 q1) fun u s2 ⟨x, H2, J2, rx, q2⟩ => thn (hi.run pins s2 σ H2 _ J2 q2) fun iv s3 ⟨y, H3, J3, ry, I, a, kvs, L, dk, d, k, ex, hI, hL, rel, hex, rd, hk, rz, hlen, q3⟩ => ?_) hs
  subst ex
  obtain rfl : u = Value.ref a := rx
  obtain ⟨b, rfl, rfl, hkey⟩ := key_is (P := X.prog) (w := X.w) J3.hok hex rd hk ry
  have dn := dno_of J3.hok hL
  have dh := dno_heap dn (dn_keys J3.hok hex rel)
  have hll := rel.length
  have rel' := rel.put hk rd rz rv
  refine wpAny_setItem_heap (hsz := by omega) (show X.A.units + 1 + 8 < cLine by omega) hkey dh fun h' dd' hs' => ?_
  have hl2 := storedH_len L k b r
  have dn' : DNo X.prog X.w a (storedH L k b r) h' := heap_dno dn.1 (by omega) dd'
  obtain ⟨q, es, ep, hq, _⟩ := id dd'
  exact ⟨σ, _, d_write J3 (by rw [hL]; exact True.intro) hs' ⟨q, hq⟩ (dn_ok dn'), q3 _ rel'⟩
def sNPutV (P : Program) (w : World) (td ty tv : DE) : DS := fun D δ μ => tv δ μ fun v μ1 => td δ μ1 fun x μ2 => ty δ μ2 fun y μ3 => ∃ a kvs k, x = .ref a ∧ μ3 a = some (.dN P w kvs) ∧ nkT y = some k ∧ kvs.length < sizeLine ∧ D.nx δ (mset μ3 a (.dN P w (putD kvs k v)))
theorem ws_nput {o i e : Expr} {td ty tv : DE} {pos' : Pos} (ho : WE S F o td) (hi : WE S F i ty) (hv : WE S F e tv) (hs : ∀ env, swapsWith e (some (.Subscript o i pos')) pos.line env = pure false := by exact fun _ => rfl) : WS S F (.Assign [.Subscript o i pos'] e pos) (sNPutV S.P S.w td ty tv) :=
  let ⟨ta, a1, a2⟩ := ho; let ⟨tb, b1, b2⟩ := hi; let ⟨tc, c1, c2⟩ := hv
  ⟨sNPut S.P S.w S.K ta tb tc, fun i hi => by have := ps_nput (pos := pos) (room16 hi) (a1 i hi) (b1 i hi) (c1 i hi) (hs _); rw [hi.prog, hi.w, hi.K] at this; exact this, fun I δ μ σ H hJ SM hS D D' q u => c2 I δ μ σ H hJ SM hS _ _ q fun I1 v vv μ1 H1 e1 S1 r1 q1 =>
    a2 I1 δ μ1 σ H1 (hJ.trans e1) S1 (hS.mono e1) _ _ q1 fun I2 x vx μ2 H2 e2 S2 r2 q2 =>
      b2 I2 δ μ2 σ H2 ((hJ.trans e1).trans e2) S2 (hS.mono (e1.trans e2)) _ _ q2 fun I3 y vy μ3 H3 e3 S3 r3 q3 => by
        obtain ⟨a, kvs, k, rfl, hm, hk, hl, q4⟩ := q3
        cases r2
        obtain ⟨hI, L, rel, hL⟩ := S3.mu _ _ hm
        refine ⟨I3, a, kvs, L, y, v, k, rfl, hI, hL, rel, S3.ex, r3, hk, r1.mono (e2.trans e3) _ _, hl, fun L' rel' => ?_⟩
        exact u.nx I3 δ σ _ _ ((e1.trans e2).trans e3) (S3.setM (m := .dN S.P S.w (putD kvs k v)) hI ⟨L', rel', upd_same⟩) (hS.mono ((e1.trans e2).trans e3)) q4⟩
/-- {} -/
theorem dn_empty {P : Program} {w : World} {H : Hp} (h : Heap) (hb : sysModules < h.objs.size) : ObjOk P w H (h.push { cls := .type "dict", data := .dict #[] }) h.objs.size (DN P w h.objs.size []) :=
  dn_ok ⟨beq_eq_false_iff_ne.mpr (Ne.symm (Nat.ne_of_lt hb)), Nat.zero_le _, _, #[], 0, Heap.get?_push_size _ rfl, ⟨rfl, rfl, rfl⟩, rfl, rfl, List.nodup_nil⟩
def tDNewN (P : Program) (w : World) : TE := fun _ H Q => ∀ p, H p = none → Q (.ref p) (upd H p (DN P w p []))
theorem pe_dnewN {X : Cx} : PE X (.Dict [] [] pos) (tDNewN X.prog X.w) := ⟨fun pins s σ H Q J h =>
  wpAny_Dict_empty ⟨.ref s.heap.objs.size, _, J.laid (a := s.heap.objs.size) (o := DN X.prog X.w s.heap.objs.size []) (t' := s.toks) (fun _ _ q => Heap.get?_push_of_some _ q) (Nat.le_refl _) (dn_empty s.heap J.big), rfl, h _ (J.hok.fresh (Nat.le_refl _))⟩⟩
def vDNewN (P : Program) (w : World) : DE := fun _ μ Q => ∀ p, μ p = none → Q (.ref p) (mset μ p (.dN P w []))
theorem we_dnewN : WE S F (.Dict [] [] pos) (vDNewN S.P S.w) := ⟨tDNewN S.P S.w, fun i hi => by have := pe_dnewN (X := F i) (pos := pos); rw [hi.prog, hi.w] at this; exact this, fun I δ μ σ H hJ SM hS Q Q' q u p hp => u I _ _ _ _ (Same.refl I) (SM.setM (m := .dN S.P S.w []) (SM.ex.free hp) ⟨[], .nil, upd_same⟩) (.ref p) (q p (SM.muNone hp))⟩
/-- {k: v} -/
def tDisN (P : Program) (w : World) (K : PySem.W.Frag) (tk tv : TE) : TE := fun σ H Q => ∀ p, H p = none → tk σ (upd H p (DN P w p [])) fun y H1 => tv σ H1 fun v H2 => H2 p = some (DN P w p []) ∧ ∃ I dk d k, I p = none ∧ Same I H2 ∧ Rep K I dk y ∧ nkT dk = some k ∧ Rep K I d v ∧
  ∀ L', DNRel K I [(k, d)] L' → Q (.ref p) (upd H2 p (DN P w p L'))
theorem pe_disN {X : Cx} {ke ve : Expr} {tk tv : TE} (hu : X.A.units + 16 < cLine) (hk : PE X ke tk) (hv : PE X ve tv) : PE X (.Dict [some ke] [ve] pos) (tDisN X.prog X.w X.K tk tv) := by
  refine ⟨fun pins s σ H Q J h => ?_⟩
  have hn := J.hok.fresh (Nat.le_refl s.heap.objs.size)
  have J1 := J.laid (a := s.heap.objs.size) (o := DN X.prog X.w s.heap.objs.size []) (h' := s.heap.push { cls := .type "dict", data := .dict #[] }) (t' := s.toks) (fun _ _ q => Heap.get?_push_of_some _ q) (Nat.le_refl _) (dn_empty s.heap J.big)
  rw [arm_eval_Dict, zip_pairTrees [some ke] [ve] X.env pos rfl rfl, dictDisplay_pairs _ (by intro e; cases e) (by show 1 < 17; decide)]
  refine wpAny_bind (wpAny_standAt ?_)
  refine wpAny_bind ?_
  refine wpAny_subDictH (knd := nestedKind X.prog X.w) (show X.A.units + 8 < cLine by omega) (by show 1 ≤ 15; decide) ?_
  refine pairTrees_cons_walk (thn (hk.run pins _ σ _ _ J1 (h _ hn)) fun u s1 ⟨y, H1, J2, ry, q1⟩ => thn (hv.run pins s1 σ H1 _ J2 q1) fun r s2 ⟨v, H2, J3, rv, hp, I, dk, d, k, hI, hex, rd, hkk, rz, q2⟩ => ?_)
  refine pairTrees_nil_walk ?_
  obtain ⟨b, rfl, rfl, hkey⟩ := key_is (P := X.prog) (w := X.w) J3.hok hex rd hkk ry
  have dn := dno_of J3.hok hp
  have dh := dno_heap dn (fun x hx => by cases hx)
  refine ⟨[(k, b, r)], ⟨rfl, rfl, hkey, trivial⟩, dh, fun h' tk dd' hs' => wpAny_pure ?_⟩
  have dn' : DNo X.prog X.w s.heap.objs.size [(k, b, r)] h' := heap_dno dn.1 (by show 1 ≤ sizeLine; decide) dd'
  obtain ⟨q, es, ep, hq, _⟩ := id dd'
  exact ⟨.ref s.heap.objs.size, _, d_write J3 (by rw [hp]; exact True.intro) hs' ⟨q, hq⟩ (dn_ok dn'), rfl, q2 _ (.cons ⟨rfl, ⟨dk, hkk, rd⟩, v, rz, rv⟩ .nil)⟩
def vDisN (P : Program) (w : World) (tk tv : DE) : DE := fun δ μ Q => ∀ p, μ p = none → tk δ (mset μ p (.dN P w [])) fun y μ1 => tv δ μ1 fun v μ2 => μ2 p = some (.dN P w []) ∧ ∃ k, nkT y = some k ∧ Q (.ref p) (mset μ2 p (.dN P w [(k, v)]))
theorem we_disN {ke ve : Expr} {tk tv : DE} (hk : WE S F ke tk) (hv : WE S F ve tv) : WE S F (.Dict [some ke] [ve] pos) (vDisN S.P S.w tk tv) :=
  let ⟨ta, a1, a2⟩ := hk; let ⟨tb, b1, b2⟩ := hv
  ⟨tDisN S.P S.w S.K ta tb, fun i hi => by have := pe_disN (pos := pos) (room16 hi) (a1 i hi) (b1 i hi); rw [hi.prog, hi.w, hi.K] at this; exact this, fun I δ μ σ H hJ SM hS Q Q' q u p hp => by
    have S0 := SM.setM (o := DN S.P S.w p []) (m := .dN S.P S.w []) (SM.ex.free hp) ⟨[], .nil, upd_same⟩
    refine a2 I δ _ σ _ hJ S0 hS _ _ (q p (SM.muNone hp)) fun I1 y vy μ1 H1 e1 S1 r1 q1 => ?_
    refine b2 I1 δ μ1 σ H1 (hJ.trans e1) S1 (hS.mono e1) _ _ q1 fun I2 z vz μ2 H2 e2 S2 r2 q2 => ?_
    obtain ⟨hm, k, hk', q3⟩ := q2
    obtain ⟨hI, L, rel, hL⟩ := S2.mu _ _ hm
    cases rel
    exact ⟨hL, I2, y, z, k, hI, S2.ex, r1.mono e2 _ _, hk', r2, fun L' rel' => u I2 _ _ _ _ (e1.trans e2) (S2.setM (m := .dN S.P S.w [(k, z)]) hI ⟨L', rel', upd_same⟩) (.ref p) q3⟩⟩
end
end Wl

set_option Elab.async false
set_option linter.all false
set_option maxRecDepth 100000
set_option maxHeartbeats 2000000
/-! defs with keyword-only parameters: called with and without them -/
namespace Wl
open PySem L2
open PySem.Spec PyProof.Rows
section
variable {X : Cx} {CX : CXT} {k n : Nat} {f : Addr} {fd : FuncData} {ps ks : List Str} {sp : Sp} {E : L2.St → XK} {x : Str} {p pos : Pos} {e : Expr} {es : List Expr} {kws : List Keyword} {t tk : TA} {g : List Value → List Value → List Value} {gV : List V → List V → List V}
theorem run_kwS {pins : List (Addr × Obj)} {σ : L2.St} {H : Hp} {s : Shared} {Q : VK} {us ws : List Value} {vs zs : List V} (F : FnOk X.prog X.w X.K X.mg X.base CX k f fd ps sp) (hr : Room k X.A) (hb : KBn X.K fd ps n ks g gV)
    (hx : PassesAt CX X σ (E σ)) (I : L2.Inv X pins σ H s) (r : Vals vs us) (rz : Vals zs ws) (l1 : vs.length = n) (l2 : zs.length = ks.length) (h : sp (gV vs zs) H Q (E σ)) :
    wpAny (model X.prog X.w) X.A (call (.ref f) us (ks.zip ws)) (EP X pins σ Q) X.xe s := by
  have b := hb.to s us ws I.kIn (r.length.symm.trans l1) (rz.length.symm.trans l2)
  have run := F.run X.A X.stack s H ⟨us, ks.zip ws⟩ (g us ws) (gV vs zs) Q (E σ) hr I.env0 b (hb.rel r rz) h
  refine wpAny_call (codeAny_mono run ?_)
  intro r s' hq
  match r, hq with
  | .error e, hq => exact hx pins H s e s' I hq
  | .ok (.ret u), hq => exact I.after hq
  | .ok .next, hq => exact False.elim hq
  | .ok .brk, hq => exact False.elim hq
  | .ok .cont, hq => exact False.elim hq
def tCallKS (n m : Nat) (sp : Sp) (gV : List V → List V → List V) (E : L2.St → XK) (t tk : TA) : TE := fun σ H Q => t σ H fun vs H1 => tk σ H1 fun zs H2 => vs.length = n ∧ zs.length = m ∧ sp (gV vs zs) H2 Q (E σ)
theorem pe_callKS (F : FnOk X.prog X.w X.K X.mg X.base CX k f fd ps sp) (hr : Room k X.A) (hg : Gl X x) (hm : X.mg x = some (.ref f)) (hk : PySem.W.keepIn X.K (.ref f) = true) (hb : KBn X.K fd ps n ks g gV) (hx : ∀ σ, PassesAt CX X σ (E σ))
    (ha : PA X (e :: es) t) (hkw : PK X kws tk) (hall : (backToKw pos (keywordEach kws X.env)).all (·.1.isSome) = true)
    (hks : (backToKw pos (keywordEach kws X.env)).filterMap (·.1) = ks) (hdb : (x == ("__debug__" : Str)) = false) (he : starEach (e :: es) X.env = (false, eval e X.env) :: starEach es X.env)
    (hpl : ((backTo pos (starEach (e :: es) X.env)).any (·.1) || (backToKw pos (keywordEach kws X.env)).any (·.1.isNone)) = false) :
    PE X (.Call (.Name x p) (e :: es) kws pos) (tCallKS n ks.length sp gV E t tk) := ⟨fun pins s σ H Q I h => by
  refine wpAny_Call_Name_kw (ld_glob I hg hm ?_ hdb)
  refine PySem.W.callWith_KW (h₀ := X.base) I.ok.mod.kin hk hall ?_ hpl he
  refine thn (ha.run pos pins s σ H _ I h) ?_
  rintro us s1 ⟨vs, H1, I1, r, q⟩
  refine thn (hkw.run pos pins s1 σ H1 _ I1 q) ?_
  rintro ws s2 ⟨zs, H2, I2, rz, l1, l2, q2⟩
  refine ⟨I2.kIn, ?_⟩
  rw [hks]
  exact run_kwS F hr hb (hx σ) I2 r rz l1 l2 q2⟩
end
section
variable {S : Sg} {ι : Type} {F : ι → Cx} {pos : Pos}
def WKw (S : Sg) {ι : Type} (F : ι → Cx) (kws : List Keyword) (r : DA) : Prop := ∃ t, (∀ i, Is S (F i) → PK (F i) kws t) ∧ RA S t r
theorem wk_nil : WKw S F [] vNil := let ⟨t, h1, h2⟩ := wa_nil (S := S) (F := F); ⟨tNil, fun _ _ => pk_nil, fun I δ μ σ H hJ SM hS Q Q' q u => u I [] [] μ H (Same.refl I) SM .nil q⟩
theorem wk_cons {e : Expr} {nm : Option Str} {kpos : Pos} {kws : List Keyword} {t : DE} {r : DA} (he : WE S F e t) (hr : WKw S F kws r) : WKw S F (⟨nm, e, kpos⟩ :: kws) (vCons t r) :=
  let ⟨ta, a1, a2⟩ := he; let ⟨tb, b1, b2⟩ := hr
  ⟨_, fun i hi => pk_cons (a1 i hi) (b1 i hi), fun I δ μ σ H hJ SM hS Q Q' q u => a2 I δ μ σ H hJ SM hS _ _ q fun I1 x vx μ1 H1 e1 S1 r1 q1 =>
    b2 I1 δ μ1 σ H1 (hJ.trans e1) S1 (hS.mono e1) _ _ q1 fun I2 ds vs μ2 H2 e2 S2 r2 q2 => u I2 _ _ μ2 H2 (e1.trans e2) S2 (.cons (Rep.mono e2 _ _ r1) r2) q2⟩
structure CalK (P : Program) (w : World) (K : PySem.W.Frag) (mg : Str → Option Value) (base : Heap) (j : Nat) (x : Str) (sp : Sp2) (n : Nat) (ks : List Str) : Prop where
  ex : ∃ (f : Addr) (fd : FuncData) (ps : List Str) (g : List Value → List Value → List Value), Ok P w K mg base j f fd ps sp ∧ mg x = some (.ref f) ∧ PySem.W.keepIn K (.ref f) = true ∧ KBn K fd ps n ks g (fun vs zs => vs ++ zs)
def vCallK (sp : Sp2) (n m : Nat) (E2 : DXS) (t tk : DA) : DE := fun δ μ Q => t δ μ fun xs μ1 => tk δ μ1 fun zs μ2 => xs.length = n ∧ zs.length = m ∧ sp (xs ++ zs) μ2 Q fun C d μ3 => E2 C d δ μ3
theorem we_calK {x : Str} {sp : Sp2} {n j : Nat} {ks : List Str} {e : Expr} {es : List Expr} {kws : List Keyword} {t tk : DA} {p : Pos} (Fn : CalK S.P S.w S.K S.mg S.base j x sp n ks) (hj : j ≤ S.k) (ha : WA S F (e :: es) t) (hkw : WKw S F kws tk) (hg : ∀ j, Gl (F j) x := by exact fun _ => rfl)
    (hall : ∀ env, (backToKw pos (keywordEach kws env)).all (·.1.isSome) = true := by exact fun _ => rfl) (hks : ∀ env, (backToKw pos (keywordEach kws env)).filterMap (·.1) = ks := by exact fun _ => rfl)
    (hdb : (x == ("__debug__" : Str)) = false := by decide) (he : ∀ env, starEach (e :: es) env = (false, eval e env) :: starEach es env := by exact fun _ => rfl)
    (hpl : ∀ env, ((backTo pos (starEach (e :: es) env)).any (·.1) || (backToKw pos (keywordEach kws env)).any (·.1.isNone)) = false := by exact fun _ => rfl) (hcold : S.cold = false := by rfl) :
    WE S F (.Call (.Name x p) (e :: es) kws pos) (vCallK sp n ks.length S.E2 t tk) := by
  obtain ⟨f, fd, ps, g, h1, h2, h3, h4⟩ := Fn.ex
  obtain ⟨ta, a1, a2⟩ := ha
  obtain ⟨tb, b1, b2⟩ := hkw
  refine ⟨tCallKS n ks.length (toSp S.K sp) (fun vs zs => vs ++ zs) (L2.WE S.W) ta tb, fun i hi => ?_, ?_⟩
  · obtain ⟨P, w, K, mg, base, k, N, J, W, E2, tr, cold⟩ := S
    obtain ⟨g1, g2, g3, g4, g5, g6, g7, g8, g9, g10, g11⟩ := id hi
    have r8 := g8 hcold
    dsimp only at g1 g2 g3 g4 g5 g6 r8 g9 h1 h2 h3 h4 hj a2 ⊢
    subst g1 g2 g3 g4 g5
    exact pe_callKS h1 (r8.mono hj) (hg i) h2 h3 h4 (fun σ => passAt g9 σ) (a1 i hi) (b1 i hi) (hall _) (hks _) hdb (he _) (hpl _)
  · intro I δ μ σ H hJ SM hS Q Q' q u
    refine a2 I δ μ σ H hJ SM hS _ _ q fun I1 ds vs μ1 H1 e1 S1 r1 q1 => ?_
    refine b2 I1 δ μ1 σ H1 (hJ.trans e1) S1 (hS.mono e1) _ _ q1 fun I2 zs ws μ2 H2 e2 S2 r2 q2 => ?_
    obtain ⟨l1, l2, q3⟩ := q2
    exact ⟨r1.length.symm.trans l1, r2.length.symm.trans l2, sp_run ((hJ.trans e1).trans e2) S2 (hS.mono (e1.trans e2)) ((RepL.mono e2 _ _ r1).append r2) q3 (u.mono (e1.trans e2))⟩
end
/-! what the top has left of such a def -/
structure TopK (K : PySem.W.Frag) (x qual : Str) (st : Stmt) (kws : List (Str × V)) (f : Addr) : Prop where
  a : PySem.W.nsIn K mainGlobals x = some (some (.ref f))
  fn : FunF K x qual st f
  d : ∃ fd, FunD K x qual (defArgs st) (defBody st) (defScope st) [] kws f fd ∧ Fun K x qual st f fd
theorem TopK.of {K : PySem.W.Frag} {x qual : Str} {st : Stmt} {f D : Addr} {oc : Value} {od an : Option Addr} {osl : Array (Option Value)} {doc pm cdv ct : Value} {nm : Str} {b : Bool}
    (a : PySem.W.nsIn K mainGlobals x = some (some (.ref f))) (l : K.lookup f = some ⟨oc, od, .func (PySem.W.fnOf x qual (defArgs st) (defBody st) (defScope st) .none (.ref D) doc pm an cdv ct), osl⟩) (c : PySem.W.codeIn K cdv qual = true) (k : PySem.W.keepIn K (.ref f) = true)
    (kd : PySem.W.nsIn K D nm = some (some (.bool b))) : TopK K x qual st [(nm, .bl b)] f :=
  ⟨a, .of l c k, _, ⟨⟨oc, od, .none, .ref D, doc, pm, an, cdv, ct, osl, rfl, l, c, .inl ⟨rfl, rfl⟩, .inr ⟨D, rfl, fun q hq => by
    rw [List.mem_singleton.mp hq]; exact ⟨_, kd, rfl⟩⟩⟩, k⟩, fun_mk l c k⟩
end Wl

set_option Elab.async false
set_option linter.all false
set_option maxRecDepth 100000
set_option maxHeartbeats 3200000
/-! sorted(set(xs)) of a list of ints -/
namespace Wl
open PySem L2
open PySem.Spec PyProof.Rows
/-- the new set, empty -/
def setNew (w : World) : Obj := { cls := .type "set", dict := none, data := .set #[] 0 (.fresh 0 0 (!w.params.followText "set-order")) }
section
variable {P : Program} {w : World} {A : Around} {E : Value → Shared → Prop} {s : Shared}
theorem ints_each {its : Array Value} {ns : List Int} (h : IntsAre its.toList ns) (hz : its.size = ns.length) : ∀ (j : Nat) (u : Value), its[j]? = some u → ∃ k t, ns[j]? = some k ∧ u = .int k t := by
  intro j u hu
  have hj : j < ns.length := hz ▸ (Array.getElem?_eq_some_iff.mp hu).1
  have hu' : its.toList[j]? = some u := by rw [Array.getElem?_toList]; exact hu
  obtain ⟨t, et⟩ := IntsAre.int_at h j u hu'
  have ej : ns[j]? = some ns[j] := List.getElem?_eq_getElem hj
  refine ⟨ns[j], t, ej, ?_⟩
  rw [et, List.getD_eq_getElem?_getD, ej]; rfl
/-- __init__ of the new set: what the list holds is added -/
theorem set_filled {R : Result → Shared → Prop} {S l : Addr} {its : Array Value} {ns : List Int} {ol : Obj} {nl : Nat} (hh : A.handled = none) (hS : s.heap.get? S = some (setNew w)) (hl : s.heap.get? l = some ol) (hc : ol.cls = .type "list") (hd : ol.data = .seq its nl) (hlS : l < S) (hsz : s.heap.objs.size = S + 1)
    (hi : IntsAre its.toList ns) (hb : ns.length + 1 < scanBound)
    (q : ∀ h' tk c, SetR w h' S (fun j => decide (j ∈ ns)) c → c ≤ ns.length → (∀ b o, b < S → s.heap.get? b = some o → h'.get? b = some o) → R (.ok (.ret .none)) { s with heap := h', toks := tk }) :
    codeAny (model P w) A (.builtin "set.update.loop" ⟨[.ref S, .ref s.heap.objs.size], []⟩) R { s with heap := s.heap.push { cls := .type "list_iterator", data := .fields #[.ref l, .int 0 0] } } := by
  have hz : its.size = ns.length := by have := IntsAre.length hi; rw [Array.length_toList] at this; exact this
  have lt1 : l < s.heap.objs.size := by rw [hsz]; exact Nat.lt_succ_of_lt hlS
  have ltS : S < s.heap.objs.size := by rw [hsz]; exact Nat.lt_succ_self S
  have n1 : l ≠ s.heap.objs.size := Nat.ne_of_lt lt1
  have n2 : S ∉ [s.heap.objs.size, l] := by
    intro h
    simp at h
    rcases h with h | h
    · rw [← h] at ltS; exact absurd ltS (Nat.lt_irrefl _)
    · rw [h] at hlS; exact absurd hlS (Nat.lt_irrefl _)
  have hl2 : s.heap.IsList l its := ⟨ol, hl, hc, nl, hd⟩
  have h3 : A.in1.handled = none := by simp [hh]
  have get2 : ∀ o b, s.heap.get? b = some o → (s.heap.push { cls := .type "list_iterator", data := .fields #[.ref l, .int 0 0] }).get? b = some o := fun o b e => Heap.get?_push_of_some _ e
  have W := (Walks.list (prog := P) (w := w) (A := A.in1) h3 _ l n1 its).toS
  refine set_update_ints W S n2 ns hz hb (ints_each hi hz) (its.size - 0) 0 _ rfl (Nat.zero_le _) ⟨⟨_, Heap.get?_push_size _ rfl, rfl, rfl⟩, hl2.push _⟩ ⟨0, Nat.le_refl 0, setR_new_at (get2 _ _ hS)⟩ ?_
  rintro ⟨h', g', d', tk', os'⟩ c hm hc' hS'
  obtain rfl : g' = s.gens := hm.gens
  obtain rfl : d' = s.drawn := hm.drawn
  obtain rfl : os' = s.os := hm.os
  refine q h' tk' c hS' (by omega) fun b o hbS e => ?_
  refine hm.heap b o ?_ (get2 _ _ e)
  intro hx
  simp at hx
  rcases hx with hx | hx
  · rw [hx] at hbS; exact absurd hbS (Nat.lt_irrefl _)
  · rw [hx] at hbS; exact absurd (Nat.lt_trans hbS ltS) (Nat.lt_irrefl _)
/-- set(xs) -/
theorem call_setL {l : Addr} {its : Array Value} {ns : List Int} {Q : Value → Shared → Prop} (hh : A.handled = none) (hl : s.heap.IsList l its) (hi : IntsAre its.toList ns) (hb : ns.length + 1 < scanBound)
    (q : ∀ h' tk c, SetR w h' s.heap.objs.size (fun j => decide (j ∈ ns)) c → c ≤ ns.length → (∀ b o, s.heap.get? b = some o → h'.get? b = some o) → Q (.ref s.heap.objs.size) { s with heap := h', toks := tk }) : wpAny (model P w) A (call (.type "set") [.ref l]) Q E s := by
  have made := F.called_set.made
  have sub := F.called_set.sub
  have nty := F.called_set.notType
  have cre := F.called_set.canCreate
  have tc := F.typeCall_set_1 (.ref l)
  have ini := F.called_set.init.lookup
  obtain ⟨cc, tl, mro⟩ := F.called_set.mro
  apply wpAny_call
  apply codeAny_of_tree
  show wpAny _ _ (callAny (Value.type "set") _) _ _ s
  apply wpAny_pure
  constructor
  · exact Code.quiet_builtin _ (by decide +kernel)
  apply codeAny_builtin F.entry_type_call
  rw [Around.under_plain (weight_type_call_type "set" [Value.ref l] []) rfl]
  repeat any_goals first | assumption | wp_step
  have fresh : (s.heap.push (setNew w)).get? s.heap.objs.size = some (setNew w) := Heap.get?_push_size _ rfl
  have new := code_set_led1 (P := P) (w := w) (A := A.in1) (E := E) (s := s) (.ref l) (Q₁ := fun ob s1 => ob = .ref s.heap.objs.size ∧ s1 = { s with heap := s.heap.push (setNew w) }) ⟨rfl, rfl⟩
  refine codeAny_mono new ?_
  intro r s1 hr
  match r, hr with
  | .error _, hr => exact hr
  | .ok .next, hr => exact hr.elim
  | .ok .brk, hr => exact hr.elim
  | .ok .cont, hr => exact hr.elim
  | .ok (.ret ob), hr =>
    obtain ⟨rfl, rfl⟩ := hr
    have isT : Shared.TypeIs { s with heap := s.heap.push (setNew w) } (.ref s.heap.objs.size) "set" := ⟨_, fresh, rfl⟩
    have bnd := F.called_set.init.bind (.ref s.heap.objs.size)
    repeat any_goals first | assumption | wp_step
    let done : Value → Shared → Prop := fun r s2 => r = .none ∧ ∃ h' tk c, s2 = { s with heap := h', toks := tk } ∧ SetR w h' s.heap.objs.size (fun j => decide (j ∈ ns)) c ∧ c ≤ ns.length ∧ ∀ b o, s.heap.get? b = some o → h'.get? b = some o
    refine codeAny_mono (codeAny_call_builtin (R := wants done E) F.called_set.init.plain F.entry_set_init (check_set_init_1 isT ?_)) ?_
    · obtain ⟨⟨kl, di, da, sl⟩, hol, hk, nl, hdat⟩ := hl
      simp only at hk hdat
      subst hk hdat
      have ltl : l < s.heap.objs.size := Heap.lt_size hol
      have hl1 : (s.heap.push (setNew w)).get? l = some { cls := .type "list", dict := di, data := .seq its nl, slots := sl } := Heap.get?_push_of_some _ hol
      have hls : (s.heap.push (setNew w)).IsList l its := ⟨_, hl1, rfl, nl, rfl⟩
      have ne0 : (Value.type "list" == Value.type "dict") = false := by decide
      have sb1 := F.sub_list_set
      have sb2 := F.sub_list_frozenset
      unfold Builtin.«set.__init__» Builtin.Frozenset.updateFrom noKeywords
      generalize eIt : pyIter = It
      wp_walk
      subst eIt
      apply wpAny_pyIter_list hls
      apply wpAny_bind
      apply wpAny_runValue
      have hz1 : (s.heap.push (setNew w)).objs.size = s.heap.objs.size + 1 := Heap.size_push ..
      refine set_filled (s := { s with heap := s.heap.push (setNew w) }) (by simp [hh]) fresh hl1 rfl rfl ltl hz1 hi hb ?_
      intro h' tk c hS hc hk
      show wpAny _ _ _ _ _ _
      apply wpAny_pure
      show wpAny _ _ (ret Value.none) _ _ _
      exact wpAny_pure ⟨rfl, h', tk, c, rfl, hS, hc, fun b o e => hk b o (Heap.lt_size e) (Heap.get?_push_of_some _ e)⟩
    · intro r2 s2 hr2
      match r2, hr2 with
      | .error _, hr2 => exact hr2
      | .ok .next, hr2 => exact hr2.elim
      | .ok .brk, hr2 => exact hr2.elim
      | .ok .cont, hr2 => exact hr2.elim
      | .ok (.ret v), hr2 =>
        obtain ⟨rfl, h', tk, c, rfl, hS, hc, hk⟩ := hr2
        repeat any_goals first | assumption | wp_step
        exact q h' tk c hS hc hk
end
end Wl

set_option Elab.async false
set_option linter.all false
set_option maxRecDepth 100000
set_option maxHeartbeats 2000000
/-! set(xs) of a list of ints, sorted(it) -/
namespace Wl
open PySem L2
open PySem.Spec PyProof.Rows
section
variable {X : Cx}
def rSetL (w : World) (K : PySem.W.Frag) : List V → Hp → VK → Prop := fun vs H Q => ∃ (l : Addr) (ns : List Int), vs = [V.ref l] ∧ SqL K H l (ns.map V.int) ∧ ns.length < 60 ∧ ∀ p c, H p = none → c ≤ ns.length → Q (.ref p) (upd H p (SetO w p (fun j => decide (j ∈ ns)) c))
theorem cr_setL (hc : X.calm = true) : CallR X (.type "set") (rSetL X.w X.K) := by
  intro pins s σ H vs us Q I r h
  obtain ⟨l, ns, rfl, hs, hlen, q⟩ := h
  obtain ⟨its, rv, hl, _⟩ := I.list hs
  rw [Vals.ref1 r]
  refine call_setL (I.ok.hd hc) hl.isList (by simpa using rv.ints) (by have : 100 ≤ scanBound := (by decide); exact Nat.lt_of_lt_of_le (by omega) this) ?_
  intro h' tk c hS hc' hk
  exact ⟨.ref _, _, I.laid (t' := tk) hk (Nat.le_refl _) (setO_new hS), rfl, q _ c (I.hok.fresh (Nat.le_refl _)) hc'⟩
end
section
variable {S : Sg} {ι : Type} {F : ι → Cx} {pos : Pos}
def gSetOf (w : World) : DC := fun ds μ Q => match ds with
  | [.lst xs] => ∃ ns : List Int, xs = ns.map Dv.int ∧ ns.length < 60 ∧ ∀ p c, μ p = none → c ≤ ns.length → Q (.ref p) (mset μ p (.oth (SetO w p (fun j => decide (j ∈ ns)) c)))
  | _ => False
theorem wc_setL (hcold : S.cold = false := by rfl) : WC S (.type "set") (gSetOf S.w) := by
  refine ⟨rSetL S.w S.K, fun X hX => by have := cr_setL (X := X) (hX.calm hcold); rw [hX.w, hX.K] at this; exact this, ?_⟩
  intro I μ H _ SM ds vs r Q Q' q u
  rcases r with _ | ⟨r1, _ | ⟨r2, r3⟩⟩
  · exact q.elim
  · cases r1 <;> first | exact False.elim q | skip
    rename_i h1 h2
    obtain ⟨ns, rfl, hl, q⟩ := q
    have e := rep_ints h2
    subst e
    exact ⟨_, ns, rfl, .inl (.inl (SM.ex _ _ h1)), hl, fun p c hp hc => u I _ _ _ _ (Same.refl I) (SM.setM (m := .oth (SetO S.w p _ c)) (SM.ex.free hp) upd_same) (.ref p) (q p c (SM.muNone hp) hc)⟩
  · cases r1 <;> exact q.elim
def gSortSet (w : World) : DC := fun ds μ Q => match ds with
  | [.ref a] => ∃ (B : Int → Bool) (n : Nat), μ a = some (.oth (SetO w a B n)) ∧ n < 64 ∧ ∀ ns : List Int, ns.Pairwise (· < ·) → (∀ k : Int, k ∈ ns ↔ B k = true) → ns.length = n → Q (.lst (ns.map Dv.int)) μ
  | _ => False
theorem wc_sortSet (hcold : S.cold = false := by rfl) : WC S (.builtin "sorted") (gSortSet S.w) := by
  refine ⟨rSortedSet S.w, fun X hX => by have := cr_sortedSet (X := X) (hX.calm hcold); rw [hX.w] at this; exact this, ?_⟩
  intro I μ H _ SM ds vs r Q Q' q u
  rcases r with _ | ⟨r1, _ | ⟨r2, r3⟩⟩
  · exact q.elim
  · cases r1 <;> first | exact False.elim q | skip
    obtain ⟨B, n, hm, hn, q⟩ := q
    refine ⟨_, B, n, rfl, SM.memo hm, hn, fun ns p h1 h2 h3 hp => ?_⟩
    obtain ⟨s1, s2⟩ := SM.newI hp (.lst (ns.map V.int))
    exact u _ _ _ μ _ s1 s2 (.lst upd_same (repL_ints ns)) (q ns h1 h2 h3)
  · cases r1 <;> exact q.elim
end
section
variable {μ : Mu} {Q : DV} {w : World}
/-- sorted(set(xs)) -/
theorem o_sortSet {ns : List Int} (hl : ns.length < 60) (q : ∀ (ms : List Int) (μ' : Mu), (∀ b m, μ b = some m → μ' b = some m) → ms.Pairwise (· < ·) → (∀ k : Int, k ∈ ms ↔ k ∈ ns) → Q (.lst (ms.map Dv.int)) μ') : gSetOf w [.lst (ns.map Dv.int)] μ fun x μ1 => gSortSet w [x] μ1 Q := by
  refine ⟨ns, rfl, hl, fun p c hp hc => ?_⟩
  refine ⟨_, c, mset_same, by omega, fun ms h1 h2 h3 => q ms _ (fun b m e => ?_) h1 fun k => by rw [h2]; simp⟩
  rw [mset_ne (fun z => by rw [z, hp] at e; cases e)]; exact e
end
end Wl

set_option Elab.async false
set_option linter.all false
set_option maxRecDepth 100000
set_option maxHeartbeats 2000000
/-! min(xs): the first of the least among data that can be compared -/
namespace Wl
open PySem L2
open PySem.Spec PyProof.Rows
open PySem.W (alike alikeAll dataLt AlikeAll minD min_list_data)
def rMinP (K : PySem.W.Frag) : List V → Hp → VK → Prop := fun xs H Q => ∃ (a : Addr) (ys : List V) (d : PyData) (ds : List PyData), xs = [V.ref a] ∧ SqL K H a ys ∧ DpAll K H ys (d :: ds) ∧ AlikeAll (d :: ds) ∧ PyData.plainAll (d :: ds) = true ∧ PyData.depthAll (d :: ds) ≤ 60 ∧
  ∀ (i : Nat) (y : V), ys[i]? = some y → (d :: ds)[i]? = some (minD d ds) → Q y H
theorem dpAll_at {K : PySem.W.Frag} {H : Hp} : ∀ {vs : List V} {ds : List PyData} {i : Nat} {y : V}, DpAll K H vs ds → vs[i]? = some y → ∃ d, ds[i]? = some d ∧ Dp K H y d
  | _, _, 0, y, .cons h _, e => by
    have e' : _ = y := Option.some.inj e
    exact ⟨_, rfl, e' ▸ h⟩
  | _, _, i + 1, y, .cons _ t, e => dpAll_at (i := i) t e
theorem plain_atD : ∀ {ds : List PyData} {i : Nat} {d : PyData}, PyData.plainAll ds = true → ds[i]? = some d → d.plain = true
  | x :: xs, 0, d, h, e => by
    have e' : x = d := Option.some.inj e
    rw [PyData.plainAll, Bool.and_eq_true] at h
    exact e' ▸ h.1
  | x :: xs, i + 1, d, h, e => by
    rw [PyData.plainAll, Bool.and_eq_true] at h
    exact plain_atD (i := i) h.2 e
theorem call_minP {X : Cx} (hc : X.calm = true) (hu : X.A.units + 64 < cLine) : CallR X (.builtin "min") (rMinP X.K) := by
  intro pins s σ H xs us Q I r h
  obtain ⟨a, ys, d, ds, rfl, hs, ha, hal, hp, hz, q⟩ := h
  obtain ⟨u, rfl, ru⟩ := Vals.one r
  obtain rfl : u = Value.ref a := ru
  obtain ⟨its, rv, pl, _⟩ := I.list hs
  obtain ⟨as, hr⟩ := Dp.readsAll I (d :: ds) ys its ha rv
  refine min_list_data (vs := its.toArray) (I.ok.hd hc) pl.isList hr hal (by omega) fun i v h' tk bs hv hm hk => ?_
  have hv' : its[i]? = some v := by simpa using hv
  have hi : i < ys.length := by
    have := (List.getElem?_eq_some_iff.mp hv').1
    rw [rv.length]; exact this
  obtain ⟨u2, e2, r2⟩ := rv.get (List.getElem?_eq_getElem hi)
  have e3 : u2 = v := Option.some.inj (e2.symm.trans hv')
  subst e3
  obtain ⟨e, he, hd⟩ := dpAll_at ha (List.getElem?_eq_getElem hi)
  obtain ⟨cs, rd⟩ := Dp.reads I e _ _ hd r2
  have e4 : e = minD d ds := (Reads.unique (Reads.keeps hk rd) _ _ hm).1
  exact ⟨_, H, I.kept hk, r2, q i _ (List.getElem?_eq_getElem hi) (e4 ▸ he)⟩
section
variable {S : Sg}
def gMinD : DC
  | [.ref a], μ, Q => ∃ x xs, μ a = some (.lst (x :: xs)) ∧ Dv.areD (x :: xs) = true ∧ AlikeAll (Dv.pds (x :: xs)) ∧ PyData.depthAll (Dv.pds (x :: xs)) ≤ 60 ∧ ∀ d ∈ x :: xs, d.pd = minD x.pd (Dv.pds xs) → Q d μ
  | _, _, _ => False
theorem wc_minD (hcold : S.cold = false := by rfl) : WC S (.builtin "min") gMinD := by
  refine ⟨rMinP S.K, fun X hX => hX.K ▸ call_minP (hX.calm hcold) hX.units, ?_⟩
  intro I μ H _ SM ds vs r Q Q' q u
  rcases r with _ | ⟨r1, _ | _⟩ <;> first | exact q.elim | skip
  · cases r1 <;> first | exact False.elim q | skip
    obtain ⟨x, xs, em, h1, h2, h3, q⟩ := q
    obtain ⟨ys, rl, hv⟩ := SM.memo em
    refine ⟨_, ys, _, _, rfl, .inl (.inl hv), rl.dp SM.ex _ _ h1, h2, Dv.plains (x :: xs), h3, fun i y hy he => ?_⟩
    have hi : i < (x :: xs).length := by
      rw [rl.length]; exact (List.getElem?_eq_some_iff.mp hy).1
    obtain ⟨v, hv2, rv⟩ := rl.get (List.getElem?_eq_getElem hi)
    obtain rfl : v = y := Option.some.inj (hv2.symm.trans hy)
    have he2 : (Dv.pds (x :: xs))[i]? = some ((x :: xs)[i]).pd := by
      rw [Dv.pds_map, List.getElem?_map, List.getElem?_eq_getElem hi]; rfl
    have e5 : ((x :: xs)[i]).pd = minD x.pd (Dv.pds xs) := Option.some.inj (he2.symm.trans he)
    exact u I _ _ μ H (Same.refl I) SM rv (q _ (List.getElem_mem hi) e5)
  · cases r1 <;> exact q.elim
end
end Wl

set_option Elab.async false
set_option linter.all false
set_option maxRecDepth 100000
set_option maxHeartbeats 2000000
/-! defs and methods that take what is left over as a tuple -/
namespace Wl
open PySem L2
open PySem.Spec PyProof.Rows
/-- a promise by all arguments: those ahead, and a tuple of the others -/
def spStar (n : Nat) (sp : Sp2) : Sp2 := fun ds μ Q E => n ≤ ds.length ∧ ds.length ≤ n + 1000 ∧ sp (ds.take n ++ [.tup (ds.drop n)]) μ Q E
abbrev OkS (P : Program) (w : World) (K : PySem.W.Frag) (mg : Str → Option Value) (base : Heap) (k : Nat) (f : Addr) (n : Nat) (sp : Sp2) : Prop := FnR P w K mg base (L2.CX P w) k f (toSp K (spStar n sp))
theorem RepL.take_ {K : PySem.W.Frag} {I : Hp} : ∀ {ds : List Dv} {vs : List V} (n : Nat), RepL K I ds vs → RepL K I (ds.take n) (vs.take n)
  | _, _, 0, _ => .nil
  | _, _, _ + 1, .nil => .nil
  | _, _, n + 1, .cons a r => .cons a (RepL.take_ n r)
theorem RepL.drop_ {K : PySem.W.Frag} {I : Hp} : ∀ {ds : List Dv} {vs : List V} (n : Nat), RepL K I ds vs → RepL K I (ds.drop n) (vs.drop n)
  | _, _, 0, r => r
  | _, _, _ + 1, .nil => .nil
  | _, _, n + 1, .cons _ r => RepL.drop_ n r
/-- what must hold of how such a def binds -/
def BindS (x qual : Str) (st : Stmt) (ps : List Str) (pv : Str) : Prop := ∀ (kV doc pm : Value) (an : Option Addr) (cdv ct : Value) (us rest : List Value), us.length = ps.length →
  bindArgs (PySem.W.fnOf x qual (defArgs st) (defBody st) (defScope st) .none kV doc pm an cdv ct) ⟨us ++ rest, []⟩ = (newTuple rest >>= fun t => pure (ps.zip us ++ [(pv, t)]))
theorem ok_defS {P : Program} {w : World} {K : PySem.W.Frag} {mg : Str → Option Value} {base : Heap} {x qual : Str} {st : Stmt} {f : Addr} {N ps : List Str} {pv : Str} {n k : Nat} {sp : Sp2} (Fn : FunF K x qual st f) (Sc : FnScope N (ps ++ [pv]) (defScope st)) (hb : BindS x qual st ps pv) (hn : ps.length = n)
    (t : DXS → DS) (hsp : ∀ ds μ Q E, sp ds μ Q E → ds.length = (ps ++ [pv]).length ∧ t (fun C d _ μ => E C d μ) { nx := fun _ μ' => Q .non μ', rt := Q } (dstart N ds) μ)
    (body : ∀ (cdv : Value) (A : Around) (outer : List Env) (s : Shared) (H : Hp) (E : XK) (J : Hp) (W : WX) (E2 : DXS) tr, WSs ⟨P, w, K, mg, base, k, N, J, W, E2, tr, false⟩ (fun _ : Unit => cxOf (L2.CX P w) P w K mg base N qual (defScope st) f cdv A outer s H E) (defBody st) (t E2)) :
    OkS P w K mg base (k + 1) f n sp := by
  obtain ⟨oc, od, an, osl, kV, doc, pm, cdv, ct, l, c⟩ := Fn.l
  refine FnR.imp (StX.fn_star (sp := toSp K sp) (ps := ps) l c Sc StX.cxUp (fun us rest h => hb _ _ _ _ _ _ us rest h) (fun A outer s H vs Q E hr h => ?_)) ?_
  · obtain ⟨I, ds, μ, Q2, E2, SM, r, h, u, ux⟩ := h
    obtain ⟨ts, h1, h2⟩ := body cdv A outer s H E I (fun cls d _ H => E cls d H) (fun C d _ μ => E2 C d μ) (fun I' C d δ μ' σ H' e' S' R' q' => ux I' C d μ' H' e' S' q')
    refine ⟨ts, h1 () ⟨rfl, rfl, rfl, rfl, rfl, rfl, fun _ => rfl, fun _ => hr, takes_of rfl rfl rfl rfl, passes_of rfl, hr.units⟩, ?_⟩
    refine h2 I _ μ _ H (Same.refl I) SM (r.start N) _ _ (hsp ds μ Q2 E2 h).2 ⟨?_, u, ?_, ?_⟩
    · exact fun I' δ' σ' μ' H' e' S' R' q' => u I' .non .non μ' H' e' S' .non q'
    · exact fun _ _ _ _ _ _ _ _ q' => q'.elim
    · exact fun _ _ _ _ _ _ _ _ q' => q'.elim
  · intro vs H Q E h
    obtain ⟨I, ds, μ, Q2, E2, SM, r, ⟨h1, h2, h3⟩, u, ux⟩ := h
    have hl := r.length
    refine ⟨vs.take n, vs.drop n, (List.take_append_drop n vs).symm, by rw [List.length_take, hn]; omega, Nat.le_trans (by rw [List.length_drop]; omega : _ ≤ 1000) (by decide), fun p hp => ?_⟩
    obtain ⟨e1, S1⟩ := SM.newI hp (.tup (vs.drop n))
    refine ⟨_, _, μ, Q2, E2, S1, ((r.take_ n).mono e1 _ _).append (.cons (.tup upd_same ((r.drop_ n).mono e1 _ _)) .nil), h3, u.mono e1, fun I' C d μ' H' e' => ux I' C d μ' H' (e1.trans e')⟩
structure CalS (P : Program) (w : World) (K : PySem.W.Frag) (mg : Str → Option Value) (base : Heap) (j : Nat) (x : Str) (sp : Sp2) (n : Nat) : Prop where
  ex : ∃ f, OkS P w K mg base j f n sp ∧ mg x = some (.ref f) ∧ PySem.W.keepIn K (.ref f) = true
structure MetS (P : Program) (w : World) (K : PySem.W.Frag) (mg : Str → Option Value) (base : Heap) (j : Nat) (C : Addr) (m : Str) (sp : Sp2) (n : Nat) : Prop where
  ex : ∃ f, OkS P w K mg base j f n sp ∧ Cls K C ∧ Meth K C m f
theorem run_fnRS {X : Cx} {CX : CXT} {k : Nat} {f : Addr} {sp : Sp} {E : L2.St → XK} {pins : List (Addr × Obj)} {σ : L2.St} {H : Hp} {s : Shared} {Q : VK} {us : List Value} {vs : List V} (F : FnR X.prog X.w X.K X.mg X.base CX k f sp) (hr : Room k X.A) (hx : PassesAt CX X σ (E σ)) (I : L2.Inv X pins σ H s) (r : Vals vs us) (h : sp vs H Q (E σ)) :
    codeAny (model X.prog X.w) X.A (.call (.ref f) ⟨us, []⟩) (fun r s' => match r with | .ok (.ret v) => EP X pins σ Q v s' | .ok _ => False | .error e => X.xe e s') s := by
  refine codeAny_mono (F X.A X.stack s H us vs Q (E σ) hr I.env0 r h) fun r s' hq => ?_
  match r, hq with
  | .error e, hq => exact hx pins H s e s' I hq
  | .ok (.ret u), hq => exact I.after hq
  | .ok .next, hq => exact False.elim hq
  | .ok .brk, hq => exact False.elim hq
  | .ok .cont, hq => exact False.elim hq
theorem pe_callRS {X : Cx} {CX : CXT} {k : Nat} {f : Addr} {sp : Sp} {E : L2.St → XK} {x : Str} {p pos : Pos} {e : Expr} {es : List Expr} {t : TA} (Fn : FnR X.prog X.w X.K X.mg X.base CX k f sp) (hr : Room k X.A) (hk : PySem.W.keepIn X.K (.ref f) = true) (hg : Gl X x) (hm : X.mg x = some (.ref f)) (hx : ∀ σ, PassesAt CX X σ (E σ)) (ha : PA X (e :: es) t)
    (hdb : (x == ("__debug__" : Str)) = false) (he : starEach (e :: es) X.env = (false, eval e X.env) :: starEach es X.env) (hpl : (backTo pos (starEach es X.env)).any (·.1) = false) :
    PE X (.Call (.Name x p) (e :: es) [] pos) (fun σ H Q => t σ H fun vs H1 => sp vs H1 Q (E σ)) := ⟨fun pins s σ H Q I h => by
  refine wpAny_Call_Name_kw (ld_glob I hg hm ?_ hdb)
  refine PySem.W.callWith_K (h₀ := X.base) I.ok.mod.kin hk (thn (ha.run pos pins s σ H _ I h) fun us s1 ⟨vs, H1, I1, r, q⟩ => ⟨I1.kIn, ?_⟩) he hpl
  exact wpAny_call (run_fnRS Fn hr (hx σ) I1 r q)⟩
section
variable {S : Sg} {ι : Type} {F : ι → Cx} {pos : Pos}
def vCallS (n : Nat) (sp : Sp2) (E2 : DXS) (t : DA) : DE := fun δ μ Q => t δ μ fun xs μ1 => n ≤ xs.length ∧ xs.length ≤ n + 1000 ∧ sp (xs.take n ++ [.tup (xs.drop n)]) μ1 Q fun C d μ2 => E2 C d δ μ2
theorem we_calS {x : Str} {sp : Sp2} {n j : Nat} {e : Expr} {es : List Expr} {t : DA} {p : Pos} (Fn : CalS S.P S.w S.K S.mg S.base j x sp n) (hj : j ≤ S.k) (ha : WA S F (e :: es) t) (hg : ∀ j, Gl (F j) x := by exact fun _ => rfl)
    (hdb : (x == ("__debug__" : Str)) = false := by decide) (he : ∀ env, starEach (e :: es) env = (false, eval e env) :: starEach es env := by exact fun _ => rfl) (hpl : ∀ env, (backTo pos (starEach es env)).any (·.1) = false := by exact fun _ => rfl) (hcold : S.cold = false := by rfl) :
    WE S F (.Call (.Name x p) (e :: es) [] pos) (vCallS n sp S.E2 t) := by
  obtain ⟨f, h1, h2, h3⟩ := Fn.ex
  obtain ⟨ta, a1, a2⟩ := ha
  refine ⟨fun σ H Q => ta σ H fun vs H1 => toSp S.K (spStar n sp) vs H1 Q (L2.WE S.W σ), fun i hi => ?_, ?_⟩
  rotate_left
  · exact fun I δ μ σ H hJ SM hS Q Q' q u => a2 I δ μ σ H hJ SM hS _ _ q fun I1 ds vs μ1 H1 e1 S1 r1 q1 => sp_run (sp := spStar n sp) (hJ.trans e1) S1 (hS.mono e1) r1 q1 (u.mono e1)
  · obtain ⟨P, w, K, mg, base, k, N, J, W, E2, tr, cold⟩ := S
    obtain ⟨g1, g2, g3, g4, g5, g6, g7, g8, g9, g10, g11⟩ := id hi
    have r8 := g8 hcold
    dsimp only at g1 g2 g3 g4 g5 g6 r8 g9 h1 h2 h3 hj a2 ⊢
    subst g1 g2 g3 g4 g5
    exact pe_callRS h1 (r8.mono hj) h3 (hg i) h2 (fun σ => passAt g9 σ) (a1 i hi) hdb (he _) (hpl _)
theorem pe_methRS {X : Cx} {CX : CXT} {k : Nat} {C f : Addr} {m : Str} {sp : Sp} {E : L2.St → XK} {apos : Pos} {e o : Expr} {es : List Expr} {ta : TE} {t : TA} {pl : Sem Bool} (ho : PE X o ta) (c : Cls X.K C) (hm : Meth X.K C m f) (Fn : FnR X.prog X.w X.K X.mg X.base CX k f sp) (hr : Room k X.A) (hx : ∀ σ, PassesAt CX X σ (E σ)) (ha : PA X (e :: es) t)
    (hst : starEach (e :: es) X.env = (false, eval e X.env) :: starEach es X.env) (hpl : (backTo pos (starEach es X.env)).any (·.1) = false)
    (ht : eval (.Call (.Attribute o m apos) (e :: es) [] pos) X.env = (do
      let ov ← eval o X.env
      standAt apos.atName
      let (f, first) ← holding [ov] (getMethod ov m pl)
      callWith pos f first (backTo pos (starEach (e :: es) X.env)) (backToKw pos (keywordEach [] X.env)))) :
    PE X (.Call (.Attribute o m apos) (e :: es) [] pos) (fun σ H Q => ta σ H fun x H1 => ∃ a dx fs, x = .ref a ∧ H1 a = some (.ins C dx fs) ∧ fs.lookup m = none ∧ t σ H1 fun vs H2 => sp (x :: vs) H2 Q (E σ)) := ⟨fun pins s σ H Q I h => by
  refine PySem.W.methodCall_KW (pl := pl) (thn (ho.run pins s σ H _ I h) fun u s1 ⟨x, H1, I1, rx, a, dx, fs, ex, ea, l, q⟩ => ?_) ht
  cases ex
  have er : u = Value.ref a := rx
  cases er
  refine getmeth_ok I1 ea c hm l ?_
  refine PySem.W.callWith_K (first := [.ref a]) (h₀ := X.base) I.ok.mod.kin hm.kp (thn (ha.run pos pins s1 σ H1 _ I1 q) fun us s2 ⟨vs, H2, I2, r, q2⟩ => ⟨I2.kIn, ?_⟩) hst hpl
  exact wpAny_call (run_fnRS (us := .ref a :: us) (vs := .ref a :: vs) Fn hr (hx σ) I2 (.cons rfl r) q2)⟩
/-- o.m(e, ..), m a method that takes what is left over; n counts the object too -/
def vMethS (C : Addr) (m : Str) (n : Nat) (sp : Sp2) (E2 : DXS) (to : DE) (t : DA) : DE := fun δ μ Q => to δ μ fun x μ1 => match x with
  | .ref a => ∃ dx fs, μ1 a = some (.ins C dx fs) ∧ fs.lookup m = none ∧ t δ μ1 fun xs μ2 => spStar n sp (.ref a :: xs) μ2 Q fun C' d μ3 => E2 C' d δ μ3
  | _ => False
theorem we_methS {C : Addr} {m : Str} {sp : Sp2} {n j : Nat} {o e : Expr} {es : List Expr} {to : DE} {t : DA} {apos : Pos} {pl : Env → Sem Bool} (Fn : MetS S.P S.w S.K S.mg S.base j C m sp n) (hj : j ≤ S.k) (ho : WE S F o to) (ha : WA S F (e :: es) t)
    (hst : ∀ env, starEach (e :: es) env = (false, eval e env) :: starEach es env := by exact fun _ => rfl) (hpl : ∀ env, (backTo pos (starEach es env)).any (·.1) = false := by exact fun _ => rfl)
    (ht : ∀ env, eval (.Call (.Attribute o m apos) (e :: es) [] pos) env = (do
      let ov ← eval o env
      standAt apos.atName
      let (f, first) ← holding [ov] (getMethod ov m (pl env))
      callWith pos f first (backTo pos (starEach (e :: es) env)) (backToKw pos (keywordEach [] env))) := by exact fun _ => rfl) (hcold : S.cold = false := by rfl) : WE S F (.Call (.Attribute o m apos) (e :: es) [] pos) (vMethS C m n sp S.E2 to t) := by
  obtain ⟨f, h1, h2, h3⟩ := Fn.ex
  obtain ⟨ta, a1, a2⟩ := ho
  obtain ⟨tb, b1, b2⟩ := ha
  refine ⟨fun σ H Q => ta σ H fun x H1 => ∃ a dx fs, x = .ref a ∧ H1 a = some (.ins C dx fs) ∧ fs.lookup m = none ∧ tb σ H1 fun vs H2 => toSp S.K (spStar n sp) (x :: vs) H2 Q (L2.WE S.W σ), fun i hi => ?_, fun I δ μ σ H hJ SM hS Q Q' q u => a2 I δ μ σ H hJ SM hS _ _ q fun I1 x vx μ1 H1 e1 S1 r1 q1 => ?_⟩
  · obtain ⟨P, w, K, mg, base, k, N, J, W, E2, tr, cold⟩ := S
    obtain ⟨k1, k2, k3, k4, k5, k6, k7, k8, k9, k10, k11⟩ := id hi
    have r8 := k8 hcold
    dsimp only at k1 k2 k3 k4 k5 k6 r8 k9 h1 h2 h3 hj a2 b2 ⊢
    subst k1 k2 k3 k4 k5
    exact pe_methRS (a1 i hi) h2 h3 h1 (r8.mono hj) (fun σ => passAt k9 σ) (b1 i hi) (hst _) (hpl _) (ht _)
  · cases r1 <;> first | exact False.elim q1 | skip
    obtain ⟨dx, fs, em, hl, q2⟩ := q1
    obtain ⟨gs, rp, hv⟩ := S1.memo em
    refine ⟨_, dx, gs, rfl, hv, rp.lookup_none hl, b2 I1 δ μ1 σ H1 (hJ.trans e1) S1 (hS.mono e1) _ _ q2 fun I2 ds vs μ2 H2 e2 S2 r2 q3 => ?_⟩
    exact sp_run (sp := spStar n sp) ((hJ.trans e1).trans e2) S2 (hS.mono (e1.trans e2)) (.cons (.ref _) r2) q3 (u.mono (e1.trans e2))
end
end Wl

set_option Elab.async false
set_option linter.all false
set_option maxRecDepth 100000
set_option maxHeartbeats 2000000
/-! len of a dict by numbers or texts -/
namespace Wl
open PySem L2
section
variable {S : Sg}
def gLenD : DC
  | [.ref a], μ, Q => ∃ kvs, μ a = some (.dK kvs) ∧ Q (.int kvs.length) μ
  | _, _, _ => False
theorem wc_lenD : WC S (.builtin "len") gLenD := by
  refine ⟨_, fun X _ => call_lenD, ?_⟩
  intro I μ H _ SM ds vs r Q Q' q u
  rcases r with _ | ⟨r1, _ | _⟩ <;> first | exact q.elim | skip
  · cases r1 <;> first | exact False.elim q | skip
    obtain ⟨kvs, em, q4⟩ := q
    obtain ⟨ws, r, hv⟩ := SM.memo em
    exact ⟨_, _, rfl, hv, u I _ _ μ H (Same.refl I) SM (.int _) (by rw [← r.len]; exact q4)⟩
  · cases r1 <;> exact q.elim
end
end Wl


set_option Elab.async false
set_option linter.all false
set_option maxRecDepth 100000
namespace Lw
open PySem L2 Wl LamX
structure Cs where
  KeyMap : Addr
def N_is_number : List Str := ["value", "least", "greatest"]
def T_is_number (P : Program) (w : World) (c : Cs) (E2 : DXS) : DS :=
 sRet (vAndV (vCB gIsi (vCons (vV 0) (vCons (vC (.ty "int")) (vNil)))) (vAndV (vNotV (vCB gIsi (vCons (vV 0) (vCons (vC (.ty "bool")) (vNil))))) (vChain gLe gLe (vV 1) (vV 0) (vV 2))))
def sp_is_number (P : Program) (w : World) (c : Cs) : Sp2 := spOf 3 N_is_number (T_is_number P w c)
def N_is_word : List Str := ["value", "longest", "letter"]
def T_is_word (P : Program) (w : World) (c : Cs) (E2 : DXS) : DS :=
 sSeq (sIf (vOr (vNot (vTru (vCB gIsi (vCons (vV 0) (vCons (vC (.ty "str")) (vNil)))))) (vNot (vTest (vChain gLe gLe (vC (.int 1)) (vCB gLen (vCons (vV 0) (vNil))) (vV 1))))) (sRet (vC (.bl false))) (sNext))
 (sRet (vCB gAll (vCons (vComp [2] (wStr (vV 0)) (dName 2) (vYes) (vOp (gInS false) (vV 2) (vC (.str "abcdefghijklmnopqrstuvwxyz")))) (vNil))))
def sp_is_word (P : Program) (w : World) (c : Cs) : Sp2 := spOf 2 N_is_word (T_is_word P w c)
def N_is_binding : List Str := ["modes", "value", "mode", "keys", "command", "target"]
def T_is_binding (P : Program) (w : World) (c : Cs) (E2 : DXS) : DS :=
 sSeq (sIf (vOr (vNot (vTru (vCB gIsi (vCons (vV 1) (vCons (vC (.ty "tuple")) (vNil)))))) (vTest (vOp gNe (vCB gLen (vCons (vV 1) (vNil))) (vC (.int 4))))) (sRet (vC (.bl false))) (sNext))
 (sSeq (sAsg (vV 1) (dTup 4 (dCons (dName 2) (dCons (dName 3) (dCons (dName 4) (dCons (dName 5) (dNil)))))))
 (sSeq (sIf (vOr (vTest (vOp (gIn true) (vV 2) (vV 0))) (vTest (vOp (gIn true) (vV 5) (vV 0)))) (sRet (vC (.bl false))) (sNext))
 (sRet (vAndV (vCall (sp_is_word P w c) [] E2 (vCons (vV 3) (vCons (vC (.int 6)) (vNil)))) (vCall (sp_is_word P w c) [] E2 (vCons (vV 4) (vCons (vC (.int 8)) (vNil))))))))
def sp_is_binding (P : Program) (w : World) (c : Cs) : Sp2 := spOf 2 N_is_binding (T_is_binding P w c)
def N_check_modes : List Str := ["modes", "index", "mode"]
def T_check_modes (P : Program) (w : World) (c : Cs) (E2 : DXS) : DS :=
 sSeq (sIf (vOr (vNot (vTru (vCB gIsi (vCons (vV 0) (vCons (vC (.ty "tuple")) (vNil)))))) (vTest (vOp gEq (vCB gLen (vCons (vV 0) (vNil))) (vC (.int 0))))) (sNever) (sNext))
 (sFor (wEnum (vCons (vV 0) (vNil))) (dTup 2 (dCons (dName 1) (dCons (dName 2) (dNil)))) (sIf (vOr (vTest (vOp gGe (vV 1) (vC (.int 4)))) (vOr (vNot (vTru (vCall (sp_is_word P w c) [] E2 (vCons (vV 2) (vCons (vC (.int 8)) (vNil)))))) (vTest (vOp (gIn false) (vV 2) (vSl (vV 0) (vNoPart) (vPart (vV 1))))))) (sNever) (sNext)))
def sp_check_modes (P : Program) (w : World) (c : Cs) : Sp2 := spOf 1 N_check_modes (T_check_modes P w c)
def N_check_bindings : List Str := ["modes", "bindings", "seen", "index", "binding"]
def T_check_bindings (P : Program) (w : World) (c : Cs) (E2 : DXS) : DS :=
 sSeq (sIf (vNot (vTru (vCB gIsi (vCons (vV 1) (vCons (vC (.ty "tuple")) (vNil)))))) (sNever) (sNext))
 (sSeq (sAsg (vSet0 P w) (dName 2))
 (sFor (wEnum (vCons (vV 1) (vNil))) (dTup 2 (dCons (dName 3) (dCons (dName 4) (dNil)))) (sSeq (sIf (vOr (vTest (vOp gGe (vV 3) (vC (.int 30)))) (vOr (vNot (vTru (vCall (sp_is_binding P w c) [] E2 (vCons (vV 0) (vCons (vV 4) (vNil)))))) (vTest (vOp (gInT P w false) (vSl (vV 4) (vNoPart) (vPart (vC (.int 2)))) (vV 2))))) (sNever) (sNext))
 (sDrop (vAddT P w (vV 2) (vSl (vV 4) (vNoPart) (vPart (vC (.int 2)))))))))
def sp_check_bindings (P : Program) (w : World) (c : Cs) : Sp2 := spOf 2 N_check_bindings (T_check_bindings P w c)
def N_KeyMap_init__ : List Str := ["self", "modes", "wait", "bindings"]
def T_KeyMap_init__ (P : Program) (w : World) (c : Cs) (E2 : DXS) : DS :=
 sSeq (sDrop (vCall (sp_check_modes P w c) [] E2 (vCons (vV 1) (vNil))))
 (sSeq (sIf (vNot (vTru (vCall (sp_is_number P w c) [] E2 (vCons (vV 2) (vCons (vC (.int 1)) (vCons (vC (.int 99)) (vNil))))))) (sNever) (sNext))
 (sSeq (sDrop (vCall (sp_check_bindings P w c) [] E2 (vCons (vV 1) (vCons (vV 3) (vNil)))))
 (sSeq (sFldV c.KeyMap "_modes" (vV 0) (vV 1))
 (sSeq (sFldV c.KeyMap "_wait" (vV 0) (vV 2))
 (sFldV c.KeyMap "_bindings" (vV 0) (vV 3))))))
def sp_KeyMap_init__ (P : Program) (w : World) (c : Cs) : Sp2 := spOf 4 N_KeyMap_init__ (T_KeyMap_init__ P w c)
def N_KeyMap_modes : List Str := ["self"]
def T_KeyMap_modes (P : Program) (w : World) (c : Cs) (E2 : DXS) : DS :=
 sRet (vFld c.KeyMap "_modes" (vV 0))
def sp_KeyMap_modes (P : Program) (w : World) (c : Cs) : Sp2 := spOf 1 N_KeyMap_modes (T_KeyMap_modes P w c)
def N_KeyMap_wait : List Str := ["self"]
def T_KeyMap_wait (P : Program) (w : World) (c : Cs) (E2 : DXS) : DS :=
 sRet (vFld c.KeyMap "_wait" (vV 0))
def sp_KeyMap_wait (P : Program) (w : World) (c : Cs) : Sp2 := spOf 1 N_KeyMap_wait (T_KeyMap_wait P w c)
def N_KeyMap_bindings : List Str := ["self"]
def T_KeyMap_bindings (P : Program) (w : World) (c : Cs) (E2 : DXS) : DS :=
 sRet (vFld c.KeyMap "_bindings" (vV 0))
def sp_KeyMap_bindings (P : Program) (w : World) (c : Cs) : Sp2 := spOf 1 N_KeyMap_bindings (T_KeyMap_bindings P w c)
def N_check_index : List Str := ["keymap", "index"]
def T_check_index (P : Program) (w : World) (c : Cs) (E2 : DXS) : DS :=
 sIf (vNot (vTru (vCall (sp_is_number P w c) [] E2 (vCons (vV 1) (vCons (vC (.int 0)) (vCons (vOp gSub (vCB gLen (vCons (vProp c.KeyMap (sp_KeyMap_bindings P w c) (vV 0)) (vNil))) (vC (.int 1))) (vNil))))))) (sNever) (sNext)
def sp_check_index (P : Program) (w : World) (c : Cs) : Sp2 := spOf 2 N_check_index (T_check_index P w c)
def N_late_pairs : List Str := ["keymap", "pairs", "number", "binding", "other_number", "other"]
def T_late_pairs (P : Program) (w : World) (c : Cs) (E2 : DXS) : DS :=
 sSeq (sAsg (vLstM (vNil)) (dName 1))
 (sSeq (sFor (wEnum (vCons (vProp c.KeyMap (sp_KeyMap_bindings P w c) (vV 0)) (vNil))) (dTup 2 (dCons (dName 2) (dCons (dName 3) (dNil)))) (sFor (wEnum (vCons (vProp c.KeyMap (sp_KeyMap_bindings P w c) (vV 0)) (vNil))) (dTup 2 (dCons (dName 4) (dCons (dName 5) (dNil)))) (sIf (vAnd (vTest (vOp gEq (vOp gIx (vV 3) (vC (.int 0))) (vOp gIx (vV 5) (vC (.int 0))))) (vTest (vOp gInX (vOp gIx (vV 3) (vC (.int 1))) (vSl (vOp gIx (vV 5) (vC (.int 1))) (vNoPart) (vPart (vUn gNeg (vC (.int 1)))))))) (sDrop (vBM "list" gAppend (vV 1) (vCons (vTup (vCons (vV 2) (vCons (vV 4) (vNil)))) (vNil)))) (sNext))))
 (sRet (vFrz (vV 1))))
def sp_late_pairs (P : Program) (w : World) (c : Cs) : Sp2 := spOf 1 N_late_pairs (T_late_pairs P w c)
def N_link : List Str := ["late", "number", "links", "tried", "other"]
def T_link (P : Program) (w : World) (c : Cs) (r_link : Sp2) (E2 : DXS) : DS :=
 sSeq (sForG (wAny (vDGet (vV 0) (vV 1))) (dName 4) (sIf (vTest (vDNotIn (vV 4) (vV 3))) (sSeq (sDPutV (vV 3) (vV 4) (vC (.bl true)))
 (sIf (vOr (vTest (vDNotIn (vV 4) (vV 2))) (vTru (vCall r_link [] E2 (vCons (vV 0) (vCons (vDGet (vV 2) (vV 4)) (vCons (vV 2) (vCons (vV 3) (vNil)))))))) (sSeq (sDPutV (vV 2) (vV 4) (vV 1))
 (sRet (vC (.bl true)))) (sNext))) (sNext)))
 (sRet (vC (.bl false)))
def spn_link (P : Program) (w : World) (c : Cs) : Nat → Nat → Sp2
  | 0, _ => spNo
  | n + 1, 0 => spOf 4 N_link (T_link P w c (spn_link P w c n 0))
  | _ + 1, _ => spNo
abbrev sp_link (P : Program) (w : World) (c : Cs) : Sp2 := spn_link P w c 40 0
def N_find_links : List Str := ["pairs", "late", "number", "other", "links"]
def T_find_links (P : Program) (w : World) (c : Cs) (E2 : DXS) : DS :=
 sSeq (sAsg (vDNewK) (dName 1))
 (sSeq (sFor (wSeq (vV 0)) (dTup 2 (dCons (dName 2) (dCons (dName 3) (dNil)))) (sDrop (vBM "list" gAppend (vSetd (vV 1) (vV 2) (vLstM (vNil))) (vCons (vV 3) (vNil)))))
 (sSeq (sAsg (vDNewK) (dName 4))
 (sSeq (sForK (vV 1) (dName 2) (sDrop (vCall (sp_link P w c) [] E2 (vCons (vV 1) (vCons (vV 2) (vCons (vV 4) (vCons (vDNewK) (vNil))))))))
 (sRet (vV 4)))))
def sp_find_links (P : Program) (w : World) (c : Cs) : Sp2 := spOf 1 N_find_links (T_find_links P w c)
def N_fewest_to_drop : List Str := ["keymap", "pairs", "missing", "dropped", "number", "left", "pair"]
def T_fewest_to_drop (P : Program) (w : World) (c : Cs) (E2 : DXS) : DS :=
 sSeq (sAsg (vCall (sp_late_pairs P w c) [] E2 (vCons (vV 0) (vNil))) (dName 1))
 (sSeq (sAsg (vCB gLenD (vCons (vCall (sp_find_links P w c) [] E2 (vCons (vV 1) (vNil))) (vNil))) (dName 2))
 (sSeq (sAsg (vLstM (vNil)) (dName 3))
 (sSeq (sFor (wRng1 (vCons (vCB gLen (vCons (vProp c.KeyMap (sp_KeyMap_bindings P w c) (vV 0)) (vNil))) (vNil))) (dName 4) (sSeq (sAsg (vComp [6] (wSeq (vV 1)) (dName 6) (vTest (vOp (gIn true) (vV 4) (vV 6))) (vV 6)) (dName 5))
 (sIf (vTest (vOp gLt (vCB gLenD (vCons (vCall (sp_find_links P w c) [] E2 (vCons (vV 5) (vNil))) (vNil))) (vV 2))) (sSeq (sDrop (vBM "list" gAppend (vV 3) (vCons (vV 4) (vNil))))
 (sSeq (sAsg (vV 5) (dName 1))
 (sAsg (vOp gSub (vV 2) (vC (.int 1))) (dName 2)))) (sNext))))
 (sRet (vFrz (vV 3))))))
def sp_fewest_to_drop (P : Program) (w : World) (c : Cs) : Sp2 := spOf 1 N_fewest_to_drop (T_fewest_to_drop P w c)
def N_find_chains : List Str := ["keymap", "links", "following", "other", "chains", "number", "chain"]
def T_find_chains (P : Program) (w : World) (c : Cs) (E2 : DXS) : DS :=
 sSeq (sAsg (vCall (sp_find_links P w c) [] E2 (vCons (vCall (sp_late_pairs P w c) [] E2 (vCons (vV 0) (vNil))) (vNil))) (dName 1))
 (sSeq (sAsg (vDcK [3] (vV 1) (dName 3) (vYes) (vDGet (vV 1) (vV 3)) (vV 3)) (dName 2))
 (sSeq (sAsg (vLstM (vNil)) (dName 4))
 (sSeq (sFor (wRng1 (vCons (vCB gLen (vCons (vProp c.KeyMap (sp_KeyMap_bindings P w c) (vV 0)) (vNil))) (vNil))) (dName 5) (sIf (vTest (vDNotIn (vV 5) (vV 1))) (sSeq (sAsg (vLstM (vCons (vV 5) (vNil))) (dName 6))
 (sSeq (sWhile (vTest (vDIn (vOp gIx (vV 6) (vUn gNeg (vC (.int 1)))) (vV 2))) (sDrop (vBM "list" gAppend (vV 6) (vCons (vDGet (vV 2) (vOp gIx (vV 6) (vUn gNeg (vC (.int 1))))) (vNil)))))
 (sDrop (vBM "list" gAppend (vV 4) (vCons (vFrz (vV 6)) (vNil)))))) (sNext)))
 (sRet (vFrz (vV 4))))))
def sp_find_chains (P : Program) (w : World) (c : Cs) : Sp2 := spOf 1 N_find_chains (T_find_chains P w c)
def N_is_chain : List Str := ["value", "many", "pairs", "number", "pair"]
def T_is_chain (P : Program) (w : World) (c : Cs) (E2 : DXS) : DS :=
 sSeq (sIf (vOr (vNot (vTru (vCB gIsi (vCons (vV 0) (vCons (vC (.ty "list")) (vNil)))))) (vTest (vOp gEq (vCB gLen (vCons (vV 0) (vNil))) (vC (.int 0))))) (sRet (vC (.bl false))) (sNext))
 (sSeq (sIf (vNot (vTru (vCB gAll (vCons (vComp [3] (wSeq (vV 0)) (dName 3) (vYes) (vCall (sp_is_number P w c) [] noX (vCons (vV 3) (vCons (vC (.int 0)) (vCons (vOp gSub (vV 1) (vC (.int 1))) (vNil)))))) (vNil))))) (sRet (vC (.bl false))) (sNext))
 (sRet (vCB gAll (vCons (vCompG [4] (wZip (vCons (vV 0) (vCons (vSl (vV 0) (vPart (vC (.int 1))) (vNoPart)) (vNil)))) (dName 4) (vYes) (vOp (gIn false) (vV 4) (vV 2))) (vNil)))))
def sp_is_chain (P : Program) (w : World) (c : Cs) : Sp2 := spOf 3 N_is_chain (T_is_chain P w c)
def N_judge_chains : List Str := ["keymap", "chains", "many", "pairs", "found", "chain"]
def T_judge_chains (P : Program) (w : World) (c : Cs) (E2 : DXS) : DS :=
 sSeq (sIf (vNot (vTru (vCB gIsi (vCons (vV 1) (vCons (vC (.ty "list")) (vNil)))))) (sRet (vC .non)) (sNext))
 (sSeq (sAsg (vCB gLen (vCons (vProp c.KeyMap (sp_KeyMap_bindings P w c) (vV 0)) (vNil))) (dName 2))
 (sSeq (sAsg (vCall (sp_late_pairs P w c) [] E2 (vCons (vV 0) (vNil))) (dName 3))
 (sSeq (sAsg (vLstM (vNil)) (dName 4))
 (sSeq (sForG (wAny (vV 1)) (dName 5) (sSeq (sIf (vNot (vTru (vCall (sp_is_chain P w c) [] E2 (vCons (vV 5) (vCons (vV 2) (vCons (vV 3) (vNil))))))) (sRet (vC .non)) (sNext))
 (sDrop (vBM "list" gExtend (vV 4) (vCons (vV 5) (vNil))))))
 (sSeq (sIf (vTest (vOp gNe (vCB gSortIM (vCons (vV 4) (vNil))) (vListR (vV 2)))) (sRet (vC .non)) (sNext))
 (sRet (vOp gSub (vV 2) (vCB gLen (vCons (vV 1) (vNil))))))))))
def sp_judge_chains (P : Program) (w : World) (c : Cs) : Sp2 := spOf 2 N_judge_chains (T_judge_chains P w c)
def N_without_bindings : List Str := ["keymap", "indexes", "index", "bindings", "number", "binding"]
def T_without_bindings (P : Program) (w : World) (c : Cs) (E2 : DXS) : DS :=
 sSeq (sFor (wSeq (vV 1)) (dName 2) (sDrop (vCall (sp_check_index P w c) [] E2 (vCons (vV 0) (vCons (vV 2) (vNil))))))
 (sSeq (sAsg (vComp [4, 5] (wEnum (vCons (vProp c.KeyMap (sp_KeyMap_bindings P w c) (vV 0)) (vNil))) (dTup 2 (dCons (dName 4) (dCons (dName 5) (dNil)))) (vTest (vOp (gIn true) (vV 4) (vV 1))) (vV 5)) (dName 3))
 (sRet (vMake c.KeyMap (sp_KeyMap_init__ P w c) [] E2 (vCons (vProp c.KeyMap (sp_KeyMap_modes P w c) (vV 0)) (vCons (vProp c.KeyMap (sp_KeyMap_wait P w c) (vV 0)) (vCons (vCB gTupOf (vCons (vV 3) (vNil))) (vNil)))))))
def sp_without_bindings (P : Program) (w : World) (c : Cs) : Sp2 := spOf 2 N_without_bindings (T_without_bindings P w c)
def N_law_taken : List Str := ["_law_row", "_law_many", "_law_found", "_law_cell"]
def T_law_taken (P : Program) (w : World) (c : Cs) (E2 : DXS) : DS :=
 sSeq (sIf (vTest (vOp gGt (vOp gIx (vV 0) (vC (.int 3))) (vC (.int 0)))) (sSeq (sAsg (vOp gMod (vCB gInt (vCons (vOp gIx (vV 0) (vC (.int 3))) (vNil))) (vV 1)) (dName 2))
 (sSeq (sAsg (vOp gFdiv (vOp gIx (vV 0) (vC (.int 3))) (vV 1)) (dSubL (vV 0) (vC (.int 3))))
 (sRet (vV 2)))) (sNext))
 (sSeq (sAsg (vOp gAdd (vOp gIx (vV 0) (vC (.int 1))) (vC (.int 1))) (dSubL (vV 0) (vC (.int 1))))
 (sSeq (sIf (vTest (vOp gGt (vOp gIx (vV 0) (vC (.int 1))) (vCB gLen (vCons (vOp gIx (vV 0) (vC (.int 0))) (vNil))))) (sSeq (sAsg (vOp gMod (vCB gInt (vCons (vOp gAdd (vOp gMul (vOp gIx (vV 0) (vC (.int 2))) (vC (.int 48271))) (vC (.int 11))) (vNil))) (vC (.int 2147483647))) (dSubL (vV 0) (vC (.int 2))))
 (sRet (vOp gMod (vCB gInt (vCons (vOp gFdiv (vOp gIx (vV 0) (vC (.int 2))) (vC (.int 7))) (vNil))) (vV 1)))) (sNext))
 (sSeq (sAsg (vOp gIx (vOp gIx (vV 0) (vC (.int 0))) (vOp gSub (vOp gIx (vV 0) (vC (.int 1))) (vC (.int 1)))) (dName 3))
 (sSeq (sAsg (vOp gMod (vCB gInt (vCons (vOp gAdd (vOp gAdd (vOp gMul (vOp gIx (vV 0) (vC (.int 2))) (vC (.int 48271))) (vV 3)) (vC (.int 11))) (vNil))) (vC (.int 2147483647))) (dSubL (vV 0) (vC (.int 2))))
 (sSeq (sAsg (vIf (vTest (vOp gGe (vV 3) (vOp gPow (vC (.int 10)) (vC (.int 18))))) (vOp gFdiv (vV 3) (vV 1)) (vC (.int 0))) (dSubL (vV 0) (vC (.int 3))))
 (sRet (vOp gMod (vCB gInt (vCons (vV 3) (vNil))) (vV 1))))))))
def sp_law_taken (P : Program) (w : World) (c : Cs) : Sp2 := spOf 2 N_law_taken (T_law_taken P w c)
def N_law_keys : List Str := ["_law_row", "_law_letters", "_law_most", "_law_keys_here", "_law_k"]
def T_law_keys (P : Program) (w : World) (c : Cs) (E2 : DXS) : DS :=
 sSeq (sAsg (vC (.str "")) (dName 3))
 (sSeq (sFor (wRng1 (vCons (vOp gAdd (vC (.int 1)) (vCall (sp_law_taken P w c) [] E2 (vCons (vV 0) (vCons (vV 2) (vNil))))) (vNil))) (dName 4) (sAsg (vOp gAdd (vV 3) (vOp gIx (vV 1) (vCall (sp_law_taken P w c) [] E2 (vCons (vV 0) (vCons (vCB gLen (vCons (vV 1) (vNil))) (vNil)))))) (dName 3)))
 (sRet (vV 3)))
def sp_law_keys (P : Program) (w : World) (c : Cs) : Sp2 := spOf 3 N_law_keys (T_law_keys P w c)
def N_law_parts : List Str := ["_law_row", "_law_letters", "_law_most", "_law_modes", "_law_wait", "_law_bindings", "_law_used", "_law_k", "_law_mode", "_law_keys_here", "_law_command"]
def T_law_parts (P : Program) (w : World) (c : Cs) (E2 : DXS) : DS :=
 sSeq (sAsg (vSl (vTup (vCons (vC (.str "main")) (vCons (vC (.str "edit")) (vCons (vC (.str "move")) (vNil))))) (vNoPart) (vPart (vOp gAdd (vC (.int 1)) (vCall (sp_law_taken P w c) [] E2 (vCons (vV 0) (vCons (vC (.int 3)) (vNil))))))) (dName 3))
 (sSeq (sPar3 4 5 6 (vCons (vOp gAdd (vC (.int 1)) (vCall (sp_law_taken P w c) [] E2 (vCons (vV 0) (vCons (vOp gIx (vLst (vCons (vC (.int 3)) (vCons (vC (.int 9)) (vNil)))) (vCall (sp_law_taken P w c) [] E2 (vCons (vV 0) (vCons (vC (.int 2)) (vNil))))) (vNil))))) (vCons (vLstM (vNil)) (vCons (vLstM (vNil)) (vNil)))))
 (sSeq (sFor (wRng1 (vCons (vCall (sp_law_taken P w c) [] E2 (vCons (vV 0) (vCons (vOp gAdd (vV 2) (vC (.int 1))) (vNil)))) (vNil))) (dName 7) (sSeq (sPar 8 9 (vCons (vOp gIx (vV 3) (vCall (sp_law_taken P w c) [] E2 (vCons (vV 0) (vCons (vCB gLen (vCons (vV 3) (vNil))) (vNil))))) (vCons (vCall (sp_law_keys P w c) [] E2 (vCons (vV 0) (vCons (vV 1) (vCons (vC (.int 3)) (vNil))))) (vNil))))
 (sIf (vTest (vOp (gIn true) (vTup (vCons (vV 8) (vCons (vV 9) (vNil)))) (vV 6))) (sSeq (sDrop (vBM "list" gAppend (vV 6) (vCons (vTup (vCons (vV 8) (vCons (vV 9) (vNil)))) (vNil))))
 (sSeq (sAsg (vOp gIx (vLst (vCons (vC (.str "go")) (vCons (vC (.str "cut")) (vCons (vC (.str "put")) (vCons (vC (.str "mark")) (vCons (vC (.str "join")) (vNil))))))) (vCall (sp_law_taken P w c) [] E2 (vCons (vV 0) (vCons (vC (.int 5)) (vNil))))) (dName 10))
 (sDrop (vBM "list" gAppend (vV 5) (vCons (vTup (vCons (vV 8) (vCons (vV 9) (vCons (vV 10) (vCons (vOp gIx (vV 3) (vCall (sp_law_taken P w c) [] E2 (vCons (vV 0) (vCons (vCB gLen (vCons (vV 3) (vNil))) (vNil))))) (vNil)))))) (vNil)))))) (sNext))))
 (sRet (vTup (vCons (vV 3) (vCons (vV 4) (vCons (vCB gTupOf (vCons (vV 5) (vNil))) (vNil))))))))
def sp_law_parts (P : Program) (w : World) (c : Cs) : Sp2 := spOf 3 N_law_parts (T_law_parts P w c)
def N_law_made : List Str := ["_law_parts_here"]
def T_law_made (P : Program) (w : World) (c : Cs) (E2 : DXS) : DS :=
 sRet (vMake c.KeyMap (sp_KeyMap_init__ P w c) [] E2 (vCons (vOp gIx (vV 0) (vC (.int 0))) (vCons (vOp gIx (vV 0) (vC (.int 1))) (vCons (vOp gIx (vV 0) (vC (.int 2))) (vNil)))))
def sp_law_made (P : Program) (w : World) (c : Cs) : Sp2 := spOf 1 N_law_made (T_law_made P w c)
def N_law_is_late : List Str := ["_law_one", "_law_other", "_law_keys_here"]
def T_law_is_late (P : Program) (w : World) (c : Cs) (E2 : DXS) : DS :=
 sSeq (sAsg (vSl (vOp gIx (vV 1) (vC (.int 1))) (vNoPart) (vPart (vOp gSub (vCB gLen (vCons (vOp gIx (vV 1) (vC (.int 1))) (vNil))) (vC (.int 1))))) (dName 2))
 (sRet (vAndV (vOp gNe (vV 0) (vV 1)) (vAndV (vOp gEq (vOp gIx (vV 0) (vC (.int 0))) (vOp gIx (vV 1) (vC (.int 0)))) (vOp gInX (vOp gIx (vV 0) (vC (.int 1))) (vV 2)))))
def sp_law_is_late (P : Program) (w : World) (c : Cs) : Sp2 := spOf 2 N_law_is_late (T_law_is_late P w c)
def N_law : List Str := ["_law_script", "_law_row", "_law_parts_here", "_law_keymap", "_law_bindings", "_law_pairs", "_law_rows", "_law_many", "_law_k", "_law_j", "_law_some", "_law_good", "_law_pair", "_law_found", "_law_chains", "_law_chain"]
def T_law (P : Program) (w : World) (c : Cs) (E2 : DXS) : DS :=
 sSeq (sAsg (vLstM (vCons (vV 0) (vCons (vC (.int 0)) (vCons (vC (.int 0)) (vCons (vC (.int 0)) (vNil)))))) (dName 1))
 (sSeq (sAsg (vCall (sp_law_parts P w c) [] E2 (vCons (vV 1) (vCons (vOp gIx (vLst (vCons (vC (.str "ab")) (vCons (vC (.str "abc")) (vNil)))) (vCall (sp_law_taken P w c) [] E2 (vCons (vV 1) (vCons (vC (.int 2)) (vNil))))) (vCons (vC (.int 7)) (vNil))))) (dName 2))
 (sSeq (sAsg (vTup (vCons (vCall (sp_law_made P w c) [] E2 (vCons (vV 2) (vNil))) (vCons (vOp gIx (vV 2) (vC (.int 2))) (vCons (vLst (vNil)) (vCons (vLst (vCons (vLst (vNil)) (vNil))) (vNil)))))) (dTup 4 (dCons (dName 3) (dCons (dName 4) (dCons (dName 5) (dCons (dName 6) (dNil)))))))
 (sSeq (sAsg (vCB gLen (vCons (vV 4) (vNil))) (dName 7))
 (sSeq (sFor (wRng1 (vCons (vV 7) (vNil))) (dName 8) (sSeq (sAsg (vOp gAdd (vV 5) (vComp [9] (wRng1 (vCons (vV 7) (vNil))) (dName 9) (vTru (vCall (sp_law_is_late P w c) [] noX (vCons (vOp gIx (vV 4) (vV 8)) (vCons (vOp gIx (vV 4) (vV 9)) (vNil))))) (vTup (vCons (vV 8) (vCons (vV 9) (vNil)))))) (dName 5))
 (sAsg (vOp gAdd (vV 6) (vComp [10] (wSeq (vV 6)) (dName 10) (vYes) (vOp gAdd (vV 10) (vLst (vCons (vV 8) (vNil)))))) (dName 6))))
 (sSeq (sAsg (vLstM (vNil)) (dName 11))
 (sSeq (sFor (wSeq (vV 6)) (dName 10) (sIf (vTest (vOp gEq (vComp [12] (wSeq (vV 5)) (dName 12) (vAnd (vTest (vOp (gIn true) (vOp gIx (vV 12) (vC (.int 0))) (vV 10))) (vTest (vOp (gIn true) (vOp gIx (vV 12) (vC (.int 1))) (vV 10)))) (vV 12)) (vLst (vNil)))) (sDrop (vBM "list" gAppend (vV 11) (vCons (vTup (vCons (vCB gLen (vCons (vV 10) (vNil))) (vCons (vV 10) (vNil)))) (vNil)))) (sNext)))
 (sSeq (sAsg (vCall (sp_fewest_to_drop P w c) [] E2 (vCons (vV 3) (vNil))) (dName 13))
 (sSeq (sIf (vOr (vTest (vOp gNe (vCall (sp_late_pairs P w c) [] E2 (vCons (vV 3) (vNil))) (vV 5))) (vTest (vOp gNe (vV 13) (vOp gIx (vCB gMinD (vCons (vV 11) (vNil))) (vC (.int 1)))))) (sRet (vC (.bl false))) (sNext))
 (sSeq (sAsg (vCall (sp_find_chains P w c) [] E2 (vCons (vV 3) (vNil))) (dName 14))
 (sSeq (sIf (vTest (vOp gNe (vCall (sp_judge_chains P w c) [] E2 (vCons (vV 3) (vCons (vV 14) (vNil)))) (vCB gLen (vCons (vV 13) (vNil))))) (sRet (vC (.bl false))) (sNext))
 (sSeq (sIf (vTest (vOp gNe (vCall (sp_judge_chains P w c) [] E2 (vCons (vV 3) (vCons (vComp [8] (wRng1 (vCons (vV 7) (vNil))) (dName 8) (vYes) (vLst (vCons (vV 8) (vNil)))) (vNil)))) (vC (.int 0)))) (sRet (vC (.bl false))) (sNext))
 (sSeq (sForG (wAny (vV 14)) (dName 15) (sIf (vTest (vOp gNe (vComp [8] (wRng1 (vCons (vOp gSub (vCB gLen (vCons (vV 15) (vNil))) (vC (.int 1))) (vNil))) (dName 8) (vTest (vOp (gIn true) (vTup (vCons (vOp gIx (vV 15) (vV 8)) (vCons (vOp gIx (vV 15) (vOp gAdd (vV 8) (vC (.int 1)))) (vNil)))) (vV 5))) (vV 8)) (vLst (vNil)))) (sRet (vC (.bl false))) (sNext)))
 (sSeq (sIf (vTest (vOp gGt (vV 7) (vC (.int 0)))) (sSeq (sAsg (vCall (sp_law_taken P w c) [] E2 (vCons (vV 1) (vCons (vV 7) (vNil)))) (dName 8))
 (sSeq (sIf (vTest (vOp gNotN (vCall (sp_judge_chains P w c) [] E2 (vCons (vV 3) (vCons (vComp [9] (wRng1 (vCons (vV 7) (vNil))) (dName 9) (vTest (vOp gNe (vV 9) (vV 8))) (vLst (vCons (vV 9) (vNil)))) (vNil)))) (vC .non))) (sRet (vC (.bl false))) (sNext))
 (sIf (vTest (vOp gNe (vProp c.KeyMap (sp_KeyMap_bindings P w c) (vCallS 1 (sp_without_bindings P w c) E2 (vCons (vV 3) (vCons (vV 8) (vNil))))) (vOp gAdd (vSl (vV 4) (vNoPart) (vPart (vV 8))) (vSl (vV 4) (vPart (vOp gAdd (vV 8) (vC (.int 1)))) (vNoPart))))) (sRet (vC (.bl false))) (sNext)))) (sNext))
 (sRet (vC (.bl true))))))))))))))))
def sp_law (P : Program) (w : World) (c : Cs) : Sp2 := spOf 1 N_law (T_law P w c)
end Lw

set_option Elab.async false
set_option linter.all false
set_option maxRecDepth 100000
/-! the readings as rules for simp: fully applied -/
namespace Wl
open PySem L2
section
variable {δ : DSt} {μ : Mu} {Q : DV} {QT : Bool → Mu → Prop} {QA : List Dv → Mu → Prop} {QS : DSt → Mu → Prop} {QO : Option Int → Mu → Prop} {D : DEnds} {i j : Int} {a : Addr} {x y : Str} {xs ys : List Dv} {b : Bool} {d d' : Dv} {T : String}
@[simp] theorem e_V {n : Nat} : vV n δ μ Q ↔ ∃ d, δ[n]? = some (some d) ∧ Q d μ := Iff.rfl
@[simp] theorem e_C : vC d δ μ Q ↔ Q d μ := Iff.rfl
@[simp] theorem e_Op {f : D2} {ta tb : DE} : vOp f ta tb δ μ Q ↔ ta δ μ fun x μ1 => tb δ μ1 fun y μ2 => f x y μ2 Q := Iff.rfl
@[simp] theorem e_Un {f : D1} {ta : DE} : vUn f ta δ μ Q ↔ ta δ μ fun x μ1 => f x μ1 Q := Iff.rfl
@[simp] theorem e_CB {f : DC} {t : DA} : vCB f t δ μ Q ↔ t δ μ fun xs μ1 => f xs μ1 Q := Iff.rfl
@[simp] theorem e_Nil : vNil δ μ QA ↔ QA [] μ := Iff.rfl
@[simp] theorem e_Cons {t : DE} {r : DA} : vCons t r δ μ QA ↔ t δ μ fun x μ1 => r δ μ1 fun xs μ2 => QA (x :: xs) μ2 := Iff.rfl
@[simp] theorem e_Tup {t : DA} : vTup t δ μ Q ↔ t δ μ fun xs μ1 => xs.length ≤ sizeLine ∧ Q (.tup xs) μ1 := Iff.rfl
@[simp] theorem e_Lst {t : DA} : vLst t δ μ Q ↔ t δ μ fun xs μ1 => xs.length ≤ sizeLine ∧ Q (.lst xs) μ1 := Iff.rfl
@[simp] theorem e_LstM {t : DA} : vLstM t δ μ Q ↔ t δ μ fun xs μ1 => xs.length ≤ sizeLine ∧ ∀ p, μ1 p = none → Q (.ref p) (mset μ1 p (.lst xs)) := Iff.rfl
/-- a test of a value -/
def tst (x : Dv) (Q : Bool → Prop) : Prop := match x with | .bl k => Q k | _ => False
@[simp] theorem tst_bl {Q : Bool → Prop} : tst (.bl b) Q ↔ Q b := Iff.rfl
@[simp] theorem e_Test {t : DE} : vTest t δ μ QT ↔ t δ μ fun x μ1 => tst x fun k => QT k μ1 := Iff.rfl
@[simp] theorem e_Tru {t : DE} : vTru t δ μ QT ↔ t δ μ fun x μ1 => gTru x μ1 fun k => QT k μ1 := Iff.rfl
@[simp] theorem tru_bl {Q : Bool → Prop} : gTru (.bl b) μ Q ↔ Q b := Iff.rfl
@[simp] theorem tru_str {Q : Bool → Prop} : gTru (.str x) μ Q ↔ x.length ≤ sizeLine ∧ Q ((x.length : Int) != 0) := Iff.rfl
@[simp] theorem e_Not {t : DT} : vNot t δ μ QT ↔ t δ μ fun b μ1 => QT (!b) μ1 := Iff.rfl
@[simp] theorem e_And {t s : DT} : vAnd t s δ μ QT ↔ t δ μ fun b μ1 => if b = true then s δ μ1 QT else QT false μ1 := Iff.rfl
@[simp] theorem e_Or {t s : DT} : vOr t s δ μ QT ↔ t δ μ fun b μ1 => if b = true then QT true μ1 else s δ μ1 QT := Iff.rfl
@[simp] theorem e_If {t : DT} {ta tb : DE} : vIf t ta tb δ μ Q ↔ t δ μ fun b μ1 => if b = true then ta δ μ1 Q else tb δ μ1 Q := Iff.rfl
@[simp] theorem truth_bl {Q : Bool → Prop} : vTruth (.bl b) Q ↔ Q b := Iff.rfl
@[simp] theorem e_AndV {ta tb : DE} : vAndV ta tb δ μ Q ↔ ta δ μ fun x μ1 => vTruth x fun c => if c = true then tb δ μ1 Q else Q (.bl false) μ1 := Iff.rfl
@[simp] theorem e_NotV {ta : DE} : vNotV ta δ μ Q ↔ ta δ μ fun x μ1 => vTruth x fun c => Q (.bl (!c)) μ1 := Iff.rfl
/-- the second half of a chain -/
def chn (f' : D2) (tc : DE) (δ : DSt) (y : Dv) (Q : DV) (z : Dv) (μ : Mu) : Prop := match z with
  | .bl true => tc δ μ fun w' μ4 => f' y w' μ4 Q
  | .bl false => Q (.bl false) μ
  | _ => False
@[simp] theorem chn_bl {f' : D2} {tc : DE} : chn f' tc δ d Q (.bl b) μ ↔ if b = true then tc δ μ fun w' μ4 => f' d w' μ4 Q else Q (.bl false) μ := by cases b <;> exact Iff.rfl
@[simp] theorem e_Chain {f f' : D2} {ta tb tc : DE} : vChain f f' ta tb tc δ μ Q ↔ ta δ μ fun x μ1 => tb δ μ1 fun y μ2 => f x y μ2 fun z μ3 => chn f' tc δ y Q z μ3 := Iff.rfl
@[simp] theorem e_Call {sp : Sp2} {dds : List Dv} {E2 : DXS} {t : DA} : vCall sp dds E2 t δ μ Q ↔ t δ μ fun xs μ1 => sp (xs ++ dds) μ1 Q fun C d μ2 => E2 C d δ μ2 := Iff.rfl
@[simp] theorem e_Sl {te : DE} {tl th : DO} : vSl te tl th δ μ Q ↔ te δ μ fun x μ1 => tl δ μ1 fun l μ2 => th δ μ2 fun h μ3 => gSl x l h μ3 Q := Iff.rfl
@[simp] theorem e_NoPart : vNoPart δ μ QO ↔ QO none μ := Iff.rfl
def prt (x : Dv) (Q : Option Int → Prop) : Prop := match x with | .int i => Q (some i) | _ => False
@[simp] theorem prt_int {Q : Option Int → Prop} : prt (.int i) Q ↔ Q (some i) := Iff.rfl
@[simp] theorem e_Part {t : DE} : vPart t δ μ QO ↔ t δ μ fun x μ1 => prt x fun o => QO o μ1 := Iff.rfl
@[simp] theorem sl_str {lo hi : Option Int} : gSl (.str x) lo hi μ Q ↔ x.length ≤ sizeLine ∧ Q (.str (cutS x lo hi)) μ := Iff.rfl
@[simp] theorem sl_tup {lo hi : Option Int} : gSl (.tup xs) lo hi μ Q ↔ Q (.tup (dcut xs lo hi)) μ := Iff.rfl
@[simp] theorem sl_lst {lo hi : Option Int} : gSl (.lst xs) lo hi μ Q ↔ Q (.lst (dcut xs lo hi)) μ := Iff.rfl
-- operations on values
@[simp] theorem o_add : gAdd (.int i) (.int j) μ Q ↔ Q (.int (i + j)) μ := Iff.rfl
@[simp] theorem o_addS : gAdd (.str x) (.str y) μ Q ↔ x.length + y.length ≤ sizeLine ∧ Q (.str (x ++ y)) μ := Iff.rfl
@[simp] theorem o_addL : gAdd (.lst xs) (.lst ys) μ Q ↔ xs.length + ys.length ≤ sizeLine ∧ Q (.lst (xs ++ ys)) μ := Iff.rfl
@[simp] theorem o_sub : Wl.gSub (.int i) (.int j) μ Q ↔ Q (.int (i - j)) μ := Iff.rfl
@[simp] theorem o_mul : gMul (.int i) (.int j) μ Q ↔ CMul i j ∧ Q (.int (i * j)) μ := Iff.rfl
@[simp] theorem o_div : gFdiv (.int i) (.int j) μ Q ↔ CDiv i j ∧ Q (.int (i / j)) μ := Iff.rfl
@[simp] theorem o_mod : gMod (.int i) (.int j) μ Q ↔ 0 < j ∧ Q (.int (i % j)) μ := Iff.rfl
@[simp] theorem o_pow : gPow (.int i) (.int j) μ Q ↔ CPow i j ∧ Q (.int (i ^ j.toNat)) μ := Iff.rfl
@[simp] theorem o_lt : gLt (.int i) (.int j) μ Q ↔ Q (.bl (decide (i < j))) μ := Iff.rfl
@[simp] theorem o_le : gLe (.int i) (.int j) μ Q ↔ Q (.bl (decide (i ≤ j))) μ := Iff.rfl
@[simp] theorem o_gt : gGt (.int i) (.int j) μ Q ↔ Q (.bl (decide (j < i))) μ := Iff.rfl
@[simp] theorem o_ge : gGe (.int i) (.int j) μ Q ↔ Q (.bl (decide (j ≤ i))) μ := Iff.rfl
@[simp] theorem o_neg : gNeg (.int i) μ Q ↔ Q (.int (-i)) μ := Iff.rfl
@[simp] theorem o_int : gInt [.int i] μ Q ↔ Q (.int i) μ := Iff.rfl
@[simp] theorem o_len {d : Dv} : gLen [d] μ Q ↔ gLen1 d μ Q := Iff.rfl
@[simp] theorem len_str : gLen1 (.str x) μ Q ↔ x.length ≤ sizeLine ∧ Q (.int x.length) μ := Iff.rfl
@[simp] theorem len_tup : gLen1 (.tup xs) μ Q ↔ Q (.int xs.length) μ := Iff.rfl
@[simp] theorem len_lst : gLen1 (.lst xs) μ Q ↔ Q (.int xs.length) μ := Iff.rfl
@[simp] theorem len_rol : gLen1 (.rol xs) μ Q ↔ Q (.int xs.length) μ := Iff.rfl
@[simp] theorem len_ref : gLen1 (.ref a) μ Q ↔ ∃ xs, μ a = some (.lst xs) ∧ Q (.int xs.length) μ := Iff.rfl
@[simp] theorem ix_ref : gIx (.ref a) (.int i) μ Q ↔ ∃ xs d, μ a = some (.lst xs) ∧ atI xs i = some d ∧ Q d μ := Iff.rfl
@[simp] theorem ix_tup : gIx (.tup xs) (.int i) μ Q ↔ ∃ d, atI xs i = some d ∧ Q d μ := Iff.rfl
@[simp] theorem ix_lst : gIx (.lst xs) (.int i) μ Q ↔ ∃ d, atI xs i = some d ∧ Q d μ := Iff.rfl
@[simp] theorem ix_rol : gIx (.rol xs) (.int i) μ Q ↔ ∃ d, atI xs i = some d ∧ Q d μ := Iff.rfl
@[simp] theorem ix_str : gIx (.str x) (.int i) μ Q ↔ x.length ≤ sizeLine ∧ ∃ c, atI x.cps.toList i = some c ∧ Q (.str ⟨#[c]⟩) μ := Iff.rfl
@[simp] theorem isi_ {d : Dv} : gIsi [d, .ty T] μ Q ↔ ∃ n b, tyName d μ = some n ∧ kitB n T = some b ∧ Q (.bl b) μ := Iff.rfl
@[simp] theorem isN_ : gIsN d .non μ Q ↔ Q (.bl (isNo d)) μ := Iff.rfl
@[simp] theorem notN_ : gNotN d .non μ Q ↔ Q (.bl (!isNo d)) μ := Iff.rfl
@[simp] theorem eq_ : gEq d d' μ Q ↔ eqOk d d' ∧ Q (.bl (dEq d d')) μ := Iff.rfl
@[simp] theorem ne_ : gNe d d' μ Q ↔ eqOk d d' ∧ Q (.bl (!dEq d d')) μ := Iff.rfl
@[simp] theorem kit_int : kitB "int" "int" = some true := by decide +kernel
@[simp] theorem kit_ib : kitB "int" "bool" = some false := by decide +kernel
@[simp] theorem kit_str : kitB "str" "str" = some true := by decide +kernel
@[simp] theorem kit_tup : kitB "tuple" "tuple" = some true := by decide +kernel
@[simp] theorem kit_lst : kitB "list" "list" = some true := by decide +kernel
-- statements
@[simp] theorem s_Seq {t u : DS} : sSeq t u D δ μ ↔ t { D with nx := u D } δ μ := Iff.rfl
@[simp] theorem s_Next : sNext D δ μ ↔ D.nx δ μ := Iff.rfl
@[simp] theorem s_Ret {t : DE} : sRet t D δ μ ↔ t δ μ D.rt := Iff.rfl
@[simp] theorem s_Drop {t : DE} : sDrop t D δ μ ↔ t δ μ fun _ μ1 => D.nx δ μ1 := Iff.rfl
@[simp] theorem s_If {c : DT} {t u : DS} : sIf c t u D δ μ ↔ c δ μ fun b μ1 => if b = true then t D δ μ1 else u D δ μ1 := Iff.rfl
@[simp] theorem s_Never : sNever D δ μ ↔ False := Iff.rfl
@[simp] theorem s_Asg {t : DE} {g : DG} : sAsg t g D δ μ ↔ t δ μ fun x μ1 => g x δ μ1 D.nx := Iff.rfl
@[simp] theorem g_Name {n : Nat} : dName n d δ μ QS ↔ QS (δ.set n (some d)) μ := Iff.rfl
@[simp] theorem g_SubL {to ti : DE} : dSubL to ti d δ μ QS ↔ to δ μ fun o μ1 => ti δ μ1 fun i μ2 => gSetL o i d μ2 fun μ3 => QS δ μ3 := Iff.rfl
@[simp] theorem setL_ref {Q : Mu → Prop} : gSetL (.ref a) (.int i) d μ Q ↔ ∃ xs j, μ a = some (.lst xs) ∧ ixN xs.length i = some j ∧ Q (mset μ a (.lst (xs.set j d))) := Iff.rfl
@[simp] theorem s_Par2 {m n : Nat} {t u : DE} : sPar m n (vCons t (vCons u vNil)) D δ μ ↔ t δ μ fun v μ1 => u δ μ1 fun w μ2 => D.nx ((δ.set m (some v)).set n (some w)) μ2 := Iff.rfl
@[simp] theorem s_Par3 {m n l : Nat} {t u v : DE} : sPar3 m n l (vCons t (vCons u (vCons v vNil))) D δ μ ↔ t δ μ fun x μ1 => u δ μ1 fun y μ2 => v δ μ2 fun z μ3 => D.nx (((δ.set m (some x)).set n (some y)).set l (some z)) μ3 := Iff.rfl
@[simp] theorem s_For {wi : DI} {g : DG} {tb : DS} : sFor wi g tb D δ μ ↔ wi δ μ fun ds μ1 => sLoop g tb ds D δ μ1 := Iff.rfl
@[simp] theorem g_Tup {n : Nat} {t : DGs} : dTup n t (.tup xs) δ μ QS ↔ xs.length = n ∧ t xs δ μ QS := Iff.rfl
@[simp] theorem g_Cons {t : DG} {u : DGs} : dCons t u (d :: xs) δ μ QS ↔ t d δ μ fun δ1 μ1 => u xs δ1 μ1 QS := Iff.rfl
@[simp] theorem g_Nil : dNil [] δ μ QS ↔ QS δ μ := Iff.rfl
@[simp] theorem e_BM {f : DM} {to : DE} {t : DA} : vBM T f to t δ μ Q ↔ to δ μ fun x μ1 => tyD T x μ1 ∧ t δ μ1 fun xs μ2 => f x xs μ2 Q := Iff.rfl
@[simp] theorem o_append : gAppend (.ref a) [d] μ Q ↔ ∃ xs, μ a = some (.lst xs) ∧ xs.length < sizeLine ∧ Q .non (mset μ a (.lst (xs ++ [d]))) := Iff.rfl
theorem ty_ref (h : μ a = some (.lst xs)) : tyD T (.ref a) μ ↔ T = "list" := by simp [tyD, h]
/-- what a list that changes holds, handed on fixed -/
def frz (x : Dv) (μ : Mu) (Q : DV) : Prop := match x with | .ref a => ∃ xs, μ a = some (.lst xs) ∧ Q (.lst xs) (mdel μ a) | _ => False
@[simp] theorem frz_ref : frz (.ref a) μ Q ↔ ∃ xs, μ a = some (.lst xs) ∧ Q (.lst xs) (mdel μ a) := Iff.rfl
@[simp] theorem e_Frz {t : DE} : vFrz t δ μ Q ↔ t δ μ fun x μ1 => frz x μ1 Q := Iff.rfl
/-- a walk over range(n) -/
def rng1 (x : Dv) (Q : List Dv → Prop) : Prop := match x with | .int j => (-(2 ^ 62) ≤ j ∧ j < 2 ^ 62) ∧ Q (irange 0 j.toNat) | _ => False
@[simp] theorem rng1_int {Q : List Dv → Prop} : rng1 (.int j) Q ↔ (-(2 ^ 62) ≤ j ∧ j < 2 ^ 62) ∧ Q (irange 0 j.toNat) := Iff.rfl
theorem rng_of {x : Dv} : (match [x] with | [.int j] => (-(2 ^ 62) ≤ j ∧ j < 2 ^ 62) ∧ QA (irange 0 j.toNat) μ | _ => False) ↔ rng1 x fun ds => QA ds μ := by cases x <;> exact Iff.rfl
@[simp] theorem w_Rng1 {t : DE} : wRng1 (vCons t vNil) δ μ QA ↔ t δ μ fun x μ1 => rng1 x fun ds => QA ds μ1 := by
  have e : wRng1 (vCons t vNil) δ μ QA ↔ t δ μ fun x μ1 => (match [x] with | [.int j] => (-(2 ^ 62) ≤ j ∧ j < 2 ^ 62) ∧ QA (irange 0 j.toNat) μ1 | _ => False) := Iff.rfl
  rw [e]
  have e2 : (fun x μ1 => (match [x] with | [.int j] => (-(2 ^ 62) ≤ j ∧ j < 2 ^ 62) ∧ QA (irange 0 j.toNat) μ1 | _ => False)) = fun (x : Dv) (μ1 : Mu) => rng1 x fun ds => QA ds μ1 := by
    funext x μ1; exact propext (by cases x <;> exact Iff.rfl)
  rw [e2]
@[simp] theorem sp_Of {n : Nat} {N : List Str} {t : DXS → DS} {ds : List Dv} {E : DX} : spOf n N t ds μ Q E ↔ ds.length = n ∧ t (fun C d _ μ => E C d μ) { nx := fun _ μ' => Q .non μ', rt := Q } (dstart N ds) μ := Iff.rfl
@[simp] theorem mset_at {m : Mo} : mset μ a m a = some m := if_pos rfl
theorem mset_off {m : Mo} {p : Addr} (h : p ≠ a) : mset μ a m p = μ p := if_neg h
@[simp] theorem mset_twice {n m : Mo} : mset (mset μ a m) a n = mset μ a n := mset_mset
end
end Wl
namespace Wl
open PySem L2
/-- a for loop, by an invariant -/
theorem loop_inv {g : DG} {tb : DS} {D : DEnds} : ∀ (ds : List Dv) (Iv : Nat → DSt → Mu → Prop) (n : Nat) {δ : DSt} {μ : Mu}, Iv n δ μ →
    (∀ i d δ μ (C : DSt → Mu → Prop), ds[i]? = some d → Iv (n + i) δ μ → (∀ δ' μ', Iv (n + i + 1) δ' μ' → C δ' μ') → g d δ μ fun δ1 μ1 => tb { nx := C, ct := C, bk := D.nx, rt := D.rt } δ1 μ1) →
    (∀ δ μ, Iv (n + ds.length) δ μ → D.nx δ μ) → sLoop g tb ds D δ μ
  | [], Iv, n, δ, μ, h0, _, he => he δ μ h0
  | d :: ds, Iv, n, δ, μ, h0, hs, he => hs 0 d δ μ (sLoop g tb ds D) rfl h0 fun δ' μ' h => loop_inv ds Iv (n + 1) h
      (fun i d' δ2 μ2 C hd hi hc => hs (i + 1) d' δ2 μ2 C hd (by rw [show n + (i + 1) = n + 1 + i by omega]; exact hi) (fun δ3 μ3 h3 => hc δ3 μ3 (by rw [show n + 1 + i + 1 = n + (i + 1) + 1 by omega]; exact h3)))
      (fun δ2 μ2 h2 => he δ2 μ2 (by rw [List.length_cons, show n + (ds.length + 1) = n + 1 + ds.length by omega]; exact h2))
/-- a while loop, by an invariant with a measure -/
theorem while_inv {c : DT} {tb : DS} {D : DEnds} (Iv : Nat → DSt → Mu → Prop) (hs : ∀ m δ μ (C : DSt → Mu → Prop), Iv m δ μ → (∀ m' δ' μ', m' < m → Iv m' δ' μ' → C δ' μ') →
    c δ μ fun b μ1 => if b = true then tb { nx := C, ct := C, bk := D.nx, rt := D.rt } δ μ1 else D.nx δ μ1) : ∀ (n m : Nat) {δ : DSt} {μ : Mu}, m < n → Iv m δ μ → sTimes c tb n D δ μ
  | 0, m, _, _, h, _ => absurd h (Nat.not_lt_zero _)
  | n + 1, m, δ, μ, h, hi => hs m δ μ (sTimes c tb n D) hi fun m' δ' μ' hm h' => while_inv Iv hs n m' (by omega) h'
/-- a comprehension, by an invariant: what is made so far lies at the new list's place -/
theorem comp_inv {vs : List Nat} {g : DG} {tt : DT} {te : DE} {δ : DSt} {A : Addr} {Q : List Dv → Mu → Prop} : ∀ (ds : List Dv) (Iv : Nat → List Dv → Mu → Prop) (n : Nat) (acc : List Dv) {μ : Mu}, Iv n acc μ → μ A = some (.lst acc) →
    (∀ i d acc μ (C : Mu → Prop), ds[i]? = some d → Iv (n + i) acc μ → μ A = some (.lst acc) → (∀ acc' μ', Iv (n + i + 1) acc' μ' → μ' A = some (.lst acc') → C μ') →
      g d (dwipe δ vs) μ fun δ1 μ1 => tt δ1 μ1 fun b μ2 => if b = true then te δ1 μ2 fun y μ3 => ∃ acc, μ3 A = some (.lst acc) ∧ acc.length < sizeLine ∧ C (mset μ3 A (.lst (acc ++ [y]))) else C μ2) →
    (∀ acc μ, Iv (n + ds.length) acc μ → μ A = some (.lst acc) → Q acc μ) → vLoop vs g tt te δ A ds μ Q
  | [], Iv, n, acc, μ, h0, hA, _, he => ⟨acc, hA, he acc μ h0 hA⟩
  | d :: ds, Iv, n, acc, μ, h0, hA, hs, he => hs 0 d acc μ (fun μ' => vLoop vs g tt te δ A ds μ' Q) rfl h0 hA fun acc' μ' h hA' => comp_inv ds Iv (n + 1) acc' h hA'
      (fun i d' acc2 μ2 C hd hi ha hc => hs (i + 1) d' acc2 μ2 C hd (by rw [show n + (i + 1) = n + 1 + i by omega]; exact hi) ha (fun acc3 μ3 h3 => hc acc3 μ3 (by rw [show n + 1 + i + 1 = n + (i + 1) + 1 by omega]; exact h3)))
      (fun acc2 μ2 h2 => he acc2 μ2 (by rw [List.length_cons, show n + (ds.length + 1) = n + 1 + ds.length by omega]; exact h2))
end Wl

set_option Elab.async false
set_option linter.all false
set_option maxRecDepth 100000
namespace Lw
open PySem L2 Wl
section
variable {P : Program} {w : World} {c : Cs} {μ : Mu} {Q : DV} {E : DX}
theorem m_is_number (i lo hi : Int) (q : Q (.bl (decide (lo ≤ i) && decide (i ≤ hi))) μ) : sp_is_number P w c [.int i, .int lo, .int hi] μ Q E := by
  simp [sp_is_number, T_is_number, N_is_number, dstart, tyName]
  by_cases h : lo ≤ i <;> simpa [h] using q
/-- strokes as data -/
def stk (p : Int × Nat) : Dv := .tup [.int p.1, .str ⟨#[p.2]⟩]
structure Stks (L : List Nat) (top : Int) (ss : List (Int × Nat)) : Prop where
  len : ss.length ≤ 16
  key : ∀ p ∈ ss, p.2 ∈ L
  lo : ∀ p ∈ ss, 0 ≤ p.1 ∧ p.1 ≤ top
  up : ss.Pairwise fun p q => p.1 ≤ q.1
end
end Lw

set_option Elab.async false
set_option linter.all false
set_option maxRecDepth 100000
namespace Wl
open PySem L2
/-- plain data at most n deep: no bools, nothing that was walked from outside -/
def Cln : Nat → Dv → Bool
  | _, .non => true
  | _, .int _ => true
  | _, .str _ => true
  | n + 1, .tup xs => xs.all (Cln n)
  | n + 1, .lst xs => xs.all (Cln n)
  | _, _ => false
theorem areD_of {p : Dv → Bool} (h : ∀ d, p d = true → d.isD = true) : ∀ xs : List Dv, xs.all p = true → Dv.areD xs = true
  | [], _ => rfl
  | x :: xs, e => by
    have e' : p x = true ∧ xs.all p = true := by simpa [List.all_cons] using e
    show (x.isD && Dv.areD xs) = true
    rw [h x e'.1, areD_of h xs e'.2]; rfl
theorem cln_isD : ∀ (n : Nat) (d : Dv), Cln n d = true → d.isD = true
  | n, .non, _ => rfl
  | n, .int _, _ => rfl
  | n, .str _, _ => rfl
  | n + 1, .tup xs, e => areD_of (cln_isD n) xs e
  | n + 1, .lst xs, e => areD_of (cln_isD n) xs e
  | 0, .tup _, e => by cases e
  | 0, .lst _, e => by cases e
  | n, .bl _, e => by cases n <;> cases e
  | n, .byt _, e => by cases n <;> cases e
  | n, .ref _, e => by cases n <;> cases e
  | n, .ty _, e => by cases n <;> cases e
  | n, .rot _, e => by cases n <;> cases e
  | n, .rol _, e => by cases n <;> cases e
theorem depth_of {p : Dv → Bool} {n : Nat} (h : ∀ d, p d = true → d.pd.depth ≤ n) : ∀ xs : List Dv, xs.all p = true → PyData.depthAll (Dv.pds xs) ≤ n
  | [], _ => Nat.zero_le _
  | x :: xs, e => by
    have e' : p x = true ∧ xs.all p = true := by simpa [List.all_cons] using e
    show max x.pd.depth (PyData.depthAll (Dv.pds xs)) ≤ n
    exact Nat.max_le.mpr ⟨h x e'.1, depth_of h xs e'.2⟩
theorem cln_depth : ∀ (n : Nat) (d : Dv), Cln n d = true → d.pd.depth ≤ n
  | n, .non, _ => Nat.zero_le _
  | n, .int _, _ => Nat.zero_le _
  | n, .str _, _ => Nat.zero_le _
  | n + 1, .tup xs, e => by
    have := depth_of (cln_depth n) xs e
    show (PyData.tuple (Dv.pds xs)).depth ≤ n + 1
    simp only [PyData.depth]; omega
  | n + 1, .lst xs, e => by
    have := depth_of (cln_depth n) xs e
    show (PyData.list (Dv.pds xs)).depth ≤ n + 1
    simp only [PyData.depth]; omega
  | 0, .tup _, e => by cases e
  | 0, .lst _, e => by cases e
  | n, .bl _, e => by cases n <;> cases e
  | n, .byt _, e => by cases n <;> cases e
  | n, .ref _, e => by cases n <;> cases e
  | n, .ty _, e => by cases n <;> cases e
  | n, .rot _, e => by cases n <;> cases e
  | n, .rol _, e => by cases n <;> cases e
theorem eqAll_of {p q : Dv → Bool} (h : ∀ x y, p x = true → q y = true → (dEq x y = true ↔ x = y)) : ∀ xs ys : List Dv, xs.all p = true → ys.all q = true → (PyData.eqvAll (Dv.pds xs) (Dv.pds ys) = true ↔ xs = ys)
  | [], [], _, _ => by simp [Dv.pds, PyData.eqvAll]
  | [], _ :: _, _, _ => by simp [Dv.pds, PyData.eqvAll]
  | _ :: _, [], _, _ => by simp [Dv.pds, PyData.eqvAll]
  | x :: xs, y :: ys, e, f => by
    have e' : p x = true ∧ xs.all p = true := by simpa [List.all_cons] using e
    have f' : q y = true ∧ ys.all q = true := by simpa [List.all_cons] using f
    have h1 := h x y e'.1 f'.1
    have h2 := eqAll_of h xs ys e'.2 f'.2
    unfold dEq at h1
    simp only [Dv.pds, PyData.eqvAll, Bool.and_eq_true, List.cons.injEq]
    rw [h1, h2]
theorem cln_eq : ∀ (n m : Nat) (x y : Dv), Cln n x = true → Cln m y = true → (dEq x y = true ↔ x = y) := by
  intro n
  induction n with
  | zero =>
    intro m x y hx hy
    cases x <;> first | (cases hx; done) | skip
    all_goals (cases y <;> first | (cases m <;> cases hy; done) | simp [dEq, Dv.pd, PyData.eqv])
  | succ n ih =>
    intro m x y hx hy
    cases x <;> first | (cases hx; done) | skip
    all_goals (cases y <;> first | (cases m <;> cases hy; done) | skip)
    all_goals first
      | (cases m with
         | zero => cases hy
         | succ m =>
           have := eqAll_of (fun a b => ih m a b) _ _ hx hy
           simp only [dEq, Dv.pd, PyData.eqv, this, Dv.tup.injEq, Dv.lst.injEq]
           done)
      | simp [dEq, Dv.pd, PyData.eqv]
theorem cln_ok {n m : Nat} {x y : Dv} (hx : Cln n x = true) (hy : Cln m y = true) (h : n ≤ 60) : eqOk x y := ⟨cln_isD n x hx, cln_isD m y hy, Nat.le_trans (Nat.min_le_left _ _) (Nat.le_trans (cln_depth n x hx) h)⟩
theorem cln_in {n m : Nat} {x : Dv} {ys : List Dv} (hx : Cln n x = true) (hy : ys.all (Cln m) = true) (h : n ≤ 60) : inOk x ys ∧ (dIn x ys = true ↔ x ∈ ys) := by
  refine ⟨⟨cln_isD n x hx, areD_of (cln_isD m) ys hy, Nat.le_trans (Nat.min_le_right _ _) (Nat.le_trans (cln_depth n x hx) h)⟩, ?_⟩
  unfold dIn
  rw [List.any_eq_true]
  constructor
  · rintro ⟨z, hz, e⟩
    have := (cln_eq m n z x (List.all_eq_true.mp hy z hz) hx).mp e
    exact this ▸ hz
  · exact fun hz => ⟨x, hz, (cln_eq m n x x (List.all_eq_true.mp hy x hz) hx).mpr rfl⟩
end Wl

set_option Elab.async false
set_option linter.all false
set_option maxRecDepth 100000
namespace Lw
open PySem L2 Wl
section
variable {P : Program} {w : World} {c : Cs} {μ : Mu} {Q : DV} {E : DX}
/-- a binding as data -/
structure Bd where
  mode : Str
  keys : Str
  cmd : Str
  tgt : Str
def Bd.dv (b : Bd) : Dv := .tup [.str b.mode, .str b.keys, .str b.cmd, .str b.tgt]
def names : List Str := ["main", "edit", "move"]
def cmds : List Str := ["go", "cut", "put", "mark", "join"]
structure Parts (L : List Nat) (ms : List Str) (wt : Int) (bs : List Bd) : Prop where
  mods : ∃ n : Nat, 1 ≤ n ∧ n ≤ 3 ∧ ms = names.take n
  wt : 1 ≤ wt ∧ wt ≤ 9
  len : bs.length ≤ 9
  mode : ∀ b ∈ bs, b.mode ∈ ms ∧ b.tgt ∈ ms ∧ b.cmd ∈ cmds
  keys : ∀ b ∈ bs, 1 ≤ b.keys.cps.size ∧ b.keys.cps.size ≤ 3 ∧ ∀ ch ∈ b.keys.cps.toList, ch ∈ L
  nodup : (bs.map fun b => (b.mode, b.keys)).Nodup
def partsD (ms : List Str) (wt : Int) (bs : List Bd) : Dv := .tup [.tup (ms.map Dv.str), .int wt, .tup (bs.map Bd.dv)]
theorem at_map {α : Type} (f : α → Dv) {ms : List α} {y : Int} (h0 : 0 ≤ y) (h1 : y < (ms.length : Int)) : ∃ s, s ∈ ms ∧ atI (ms.map f) y = some (f s) := by
  refine ⟨ms[y.toNat]'(by omega), List.getElem_mem _, ?_⟩
  simp [atI, ixN, h0, h1, show y.toNat < ms.length by omega]
theorem in_ref {neg : Bool} {d : Dv} {a : Addr} {ys : List Dv} (h : μ a = some (.lst ys)) : gIn neg d (.ref a) μ Q ↔ inOk d ys ∧ Q (.bl (if neg then !dIn d ys else dIn d ys)) μ := by simp [gIn, h]
theorem tupOf_ref {a : Addr} : gTupOf [.ref a] μ Q ↔ ∃ xs, μ a = some (.lst xs) ∧ Q (.tup xs) μ := Iff.rfl
end
end Lw

set_option Elab.async false
set_option linter.all false
set_option maxRecDepth 100000
namespace Wl
open PySem L2
section
variable {δ : DSt} {μ : Mu} {Q : DV} {QA : List Dv → Mu → Prop} {D : DEnds}
@[simp] theorem e_Comp {vs : List Nat} {wi : DI} {g : DG} {tt : DT} {te : DE} : vComp vs wi g tt te δ μ Q ↔ wi δ μ fun ds μ1 => ∀ A, μ1 A = none → vLoop vs g tt te δ A ds (mset μ1 A (.lst [])) fun acc μ2 => Q (.lst acc) (mdel μ2 A) := Iff.rfl
@[simp] theorem e_Yes {QT : Bool → Mu → Prop} : vYes δ μ QT ↔ QT true μ := Iff.rfl
def wst (x : Dv) (Q : List Dv → Prop) : Prop := match x with | .str z => Q (signs z) | _ => False
@[simp] theorem wst_str {z : Str} {Q : List Dv → Prop} : wst (.str z) Q ↔ Q (signs z) := Iff.rfl
@[simp] theorem w_Str {t : DE} : wStr t δ μ QA ↔ t δ μ fun x μ1 => wst x fun ds => QA ds μ1 := Iff.rfl
def wsq (x : Dv) (Q : List Dv → Prop) : Prop := match x with | .tup xs => Q xs | .rot xs => Q xs | .lst xs => Q xs | .rol xs => Q xs | _ => False
@[simp] theorem wsq_tup {xs : List Dv} {Q : List Dv → Prop} : wsq (.tup xs) Q ↔ Q xs := Iff.rfl
@[simp] theorem wsq_lst {xs : List Dv} {Q : List Dv → Prop} : wsq (.lst xs) Q ↔ Q xs := Iff.rfl
@[simp] theorem w_Seq {t : DE} : wSeq t δ μ QA ↔ t δ μ fun x μ1 => wsq x fun ds => QA ds μ1 := by
  have e : wSeq t δ μ QA ↔ t δ μ fun x μ1 => (match x with | .tup xs => QA xs μ1 | .rot xs => QA xs μ1 | .lst xs => QA xs μ1 | .rol xs => QA xs μ1 | _ => False) := Iff.rfl
  rw [e]
  have e2 : (fun (x : Dv) (μ1 : Mu) => (match x with | .tup xs => QA xs μ1 | .rot xs => QA xs μ1 | .lst xs => QA xs μ1 | .rol xs => QA xs μ1 | _ => False)) = fun (x : Dv) (μ1 : Mu) => wsq x fun ds => QA ds μ1 := by
    funext x μ1; exact propext (by cases x <;> exact Iff.rfl)
  rw [e2]
@[simp] theorem o_all {ys : List Dv} : gAll [.lst ys] μ Q ↔ ∃ bs, boolsD ys = some bs ∧ Q (.bl (bs.all id)) μ := Iff.rfl
theorem mdel_mset {A : Addr} {m : Mo} (h : μ A = none) : mdel (mset μ A m) A = μ := by
  funext b
  unfold mdel mset
  by_cases e : b = A
  · rw [if_pos e, e, h]
  · rw [if_neg e, if_neg e]
/-- a comprehension whose parts change nothing -/
theorem comp_pure {vs : List Nat} {g : DG} {tt : DT} {te : DE} (R : List Dv → Mu → Prop) (f : Dv → Option Dv) (ds : List Dv) (hl : ds.length ≤ sizeLine)
    (hb : ∀ d ∈ ds, ∀ (A : Addr) (acc : List Dv) (C : Mu → Prop), μ A = none → acc.length < sizeLine → C (mset μ A (.lst (acc ++ (f d).toList))) →
      g d (dwipe δ vs) (mset μ A (.lst acc)) fun δ1 μ1 => tt δ1 μ1 fun b μ2 => if b = true then te δ1 μ2 fun y μ3 => ∃ acc, μ3 A = some (.lst acc) ∧ acc.length < sizeLine ∧ C (mset μ3 A (.lst (acc ++ [y]))) else C μ2)
    (q : R (ds.filterMap f) μ) : ∀ A, μ A = none → vLoop vs g tt te δ A ds (mset μ A (.lst [])) fun acc μ2 => R acc (mdel μ2 A) := by
  intro A hA
  have main : ∀ (xs : List Dv) (acc : List Dv), (∀ d ∈ xs, d ∈ ds) → acc.length + xs.length ≤ sizeLine → acc ++ xs.filterMap f = ds.filterMap f → vLoop vs g tt te δ A xs (mset μ A (.lst acc)) fun acc μ2 => R acc (mdel μ2 A) := by
    intro xs
    induction xs with
    | nil =>
      intro acc _ _ e
      refine ⟨acc, mset_at, ?_⟩
      show R acc (mdel (mset μ A (.lst acc)) A)
      rw [mdel_mset hA]
      have e' : acc = ds.filterMap f := by simpa using e
      rw [e']; exact q
    | cons x xs ih =>
      intro acc hm hle e
      have hle' : acc.length + (xs.length + 1) ≤ sizeLine := hle
      refine hb x (hm x List.mem_cons_self) A acc _ hA (by omega) ?_
      refine ih _ (fun d hd => hm d (List.mem_cons_of_mem _ hd)) ?_ ?_
      · rw [List.length_append]
        have : (f x).toList.length ≤ 1 := by cases f x <;> simp
        omega
      · rw [← e, List.append_assoc]
        congr 1
        cases h : f x with
        | none => simp [List.filterMap_cons, h]
        | some y => simp [List.filterMap_cons, h]
  exact main ds [] (fun _ h => h) (by simpa using hl) rfl
end
end Wl
namespace Lw
open PySem L2 Wl
section
variable {P : Program} {w : World} {c : Cs} {μ : Mu} {Q : DV} {E : DX}
abbrev alpha : List Nat := ("abcdefghijklmnopqrstuvwxyz" : Str).cps.toList
theorem m_word (x : Str) (n : Int) (h1 : 1 ≤ x.cps.size) (h2 : (x.cps.size : Int) ≤ n) (h3 : x.cps.size ≤ 100) (h4 : ∀ ch ∈ x.cps.toList, ch ∈ alpha) (q : Q (.bl true) μ) : sp_is_word P w c [.str x, .int n] μ Q E := by
  have hz : 100 < sizeLine := by decide
  have hx : x.length = x.cps.size := rfl
  simp [sp_is_word, T_is_word, N_is_word, dstart, tyName]
  rw [if_pos (by rw [hx]; omega), if_pos (by rw [hx]; omega)]
  refine ⟨by rw [hx]; omega, ?_⟩
  refine comp_pure (fun acc μ2 => ∃ bs, boolsD acc = some bs ∧ Q (.bl (bs.all id)) μ2) (fun _ => some (.bl true)) _ (by simp [signs]; omega) ?_ ?_
  · intro d hd A acc C hA hl hC
    obtain ⟨ch, hch, rfl⟩ := List.mem_map.mp hd
    have hal := h4 ch hch
    simp [dwipe, gInS]
    refine ⟨hl, ?_⟩
    have e : ch ∈ (Str.ofString "abcdefghijklmnopqrstuvwxyz").cps := by simpa using hal
    rw [decide_eq_true e]
    simpa using hC
  · have hb : ∀ ys : List Dv, boolsD (ys.filterMap fun _ => some (.bl true)) = some (List.replicate ys.length true) := fun ys => by
      induction ys with
      | nil => rfl
      | cons y ys ih =>
        show (boolsD (ys.filterMap fun _ => some (.bl true))).map (true :: ·) = _
        rw [ih]; rfl
    exact ⟨_, hb _, by simpa using q⟩
end
end Lw

set_option Elab.async false
set_option linter.all false
set_option maxRecDepth 100000
namespace Wl
open PySem L2
section
variable {δ : DSt} {μ : Mu} {Q : DV} {QA : List Dv → Mu → Prop}
def wen (x : Dv) (Q : List Dv → Prop) : Prop := match x with | .tup xs => Q (numbered xs) | .rot xs => Q (numbered xs) | .lst xs => Q (numbered xs) | .rol xs => Q (numbered xs) | _ => False
@[simp] theorem wen_tup {xs : List Dv} {Q : List Dv → Prop} : wen (.tup xs) Q ↔ Q (numbered xs) := Iff.rfl
@[simp] theorem wen_lst {xs : List Dv} {Q : List Dv → Prop} : wen (.lst xs) Q ↔ Q (numbered xs) := Iff.rfl
@[simp] theorem w_Enum {t : DE} : wEnum (vCons t vNil) δ μ QA ↔ t δ μ fun x μ1 => wen x fun ds => QA ds μ1 := by
  have e : wEnum (vCons t vNil) δ μ QA ↔ t δ μ fun x μ1 => (match [x] with | [.tup xs] => QA (numbered xs) μ1 | [.rot xs] => QA (numbered xs) μ1 | [.lst xs] => QA (numbered xs) μ1 | [.rol xs] => QA (numbered xs) μ1 | _ => False) := Iff.rfl
  rw [e]
  have e2 : (fun (x : Dv) (μ1 : Mu) => (match [x] with | [.tup xs] => QA (numbered xs) μ1 | [.rot xs] => QA (numbered xs) μ1 | [.lst xs] => QA (numbered xs) μ1 | [.rol xs] => QA (numbered xs) μ1 | _ => False)) = fun (x : Dv) (μ1 : Mu) => wen x fun ds => QA ds μ1 := by
    funext x μ1; exact propext (by cases x <;> exact Iff.rfl)
  rw [e2]
theorem nmb_at {xs : List Dv} {i : Nat} {d : Dv} (h : (numbered xs)[i]? = some d) : ∃ x, xs[i]? = some x ∧ d = .tup [.int i, x] := by
  unfold numbered at h
  rw [List.getElem?_map, List.getElem?_zipIdx] at h
  cases e : xs[i]? with
  | none => rw [e] at h; simp at h
  | some x => rw [e] at h; simp at h; exact ⟨x, rfl, h.symm⟩
theorem nmb_length {xs : List Dv} : (numbered xs).length = xs.length := by simp [numbered]
theorem in_tup {neg : Bool} {d : Dv} {ys : List Dv} : gIn neg d (.tup ys) μ Q ↔ inOk d ys ∧ Q (.bl (if neg then !dIn d ys else dIn d ys)) μ := Iff.rfl
theorem dcut_to {α : Type} (xs : List α) (k : Nat) : dcut xs none (some (k : Int)) = xs.take k := by
  unfold dcut
  rw [HT.sIx_none, HT.sIx_nat]
  simp
end
end Wl
namespace Lw
open PySem L2 Wl
section
variable {P : Program} {w : World} {c : Cs} {μ : Mu} {Q : DV} {E : DX}
structure Word (x : Str) (n : Nat) : Prop where
  h1 : 1 ≤ x.cps.size
  h2 : x.cps.size ≤ n
  h4 : ∀ ch ∈ x.cps.toList, ch ∈ alpha
theorem m_check_modes (ms : List Str) (h0 : ms ≠ []) (hl : ms.length ≤ 4) (hw : ∀ m ∈ ms, Word m 8) (hn : ms.Nodup) (q : Q .non μ) : sp_check_modes P w c [.tup (ms.map Dv.str)] μ Q E := by
  simp [sp_check_modes, T_check_modes, N_check_modes, dstart, tyName]
  have e0 : ¬ dEq (.int (ms.length : Int)) (.int 0) = true := fun h => by
    have := (cln_eq 0 0 _ _ rfl rfl).mp h
    simp at this
    exact h0 this
  refine ⟨cln_ok (n := 0) (m := 0) rfl rfl (by decide), ?_⟩
  refine ⟨by simpa using e0, ?_⟩
  refine loop_inv _ (fun i δ μ' => μ' = μ ∧ ∃ l1 l2 : Option Dv, δ = [some (.tup (ms.map Dv.str)), l1, l2]) 0 ⟨rfl, none, none, rfl⟩ ?_ ?_
  · rintro i d δ μ' C hd ⟨rfl, l1, l2, rfl⟩ hC
    obtain ⟨x, hx, rfl⟩ := nmb_at hd
    rw [List.getElem?_map] at hx
    cases hm : ms[i]? with
    | none => rw [hm] at hx; cases hx
    | some m =>
      rw [hm] at hx
      cases hx
      have hi : i < ms.length := (List.getElem?_eq_some_iff.mp hm).1
      have hmem : m ∈ ms := List.mem_of_getElem? hm
      have W := hw m hmem
      simp
      refine ⟨by omega, ?_⟩
      refine m_word m 8 W.h1 (by have := W.h2; omega) (by have := W.h2; omega) W.h4 ?_
      simp [dcut_to]
      have hcl : ((ms.map Dv.str).take i).all (Cln 0) = true := List.all_eq_true.mpr fun z hz => by
        obtain ⟨b, _, rfl⟩ := List.mem_map.mp (List.mem_of_mem_take hz)
        rfl
      obtain ⟨k1, k2⟩ := cln_in (n := 0) (m := 0) (x := .str m) rfl hcl (by decide)
      refine in_tup.mpr ⟨by simpa using k1, ?_⟩
      have hno : dIn (.str m) ((ms.map Dv.str).take i) = false := by
        cases hq : dIn (.str m) ((ms.map Dv.str).take i) with
        | false => rfl
        | true =>
          have := k2.mp hq
          rw [← List.map_take] at this
          obtain ⟨m', hm', e⟩ := List.mem_map.mp this
          cases e
          obtain ⟨j, hj, ej⟩ := List.mem_iff_getElem.mp hm'
          rw [List.length_take] at hj
          have hj' : ms[j]? = some m := by
            rw [← ej, List.getElem_take]; simp
          have : j = i := (List.getElem?_inj (by omega) hn).mp (hj'.trans hm.symm)
          omega
      have hno' : dIn (.str m) (List.map Dv.str (ms.take i)) = false := by rw [List.map_take]; exact hno
      simp
      exact ⟨hno, hC _ _ ⟨rfl, _, _, rfl⟩⟩
  · rintro δ μ' ⟨rfl, _⟩
    exact q
end
end Lw

set_option Elab.async false
set_option linter.all false
set_option maxRecDepth 100000
namespace Wl
open PySem L2
section
variable {δ : DSt} {μ : Mu} {Q : DV} {a : Addr} {xs : List Dv}
@[simp] theorem e_Set0 {P : Program} {w : World} : vSet0 P w δ μ Q ↔ ∀ p, μ p = none → Q (.ref p) (mset μ p (.st P w [])) := Iff.rfl
@[simp] theorem in_set {P : Program} {w : World} {neg : Bool} : gInT P w neg (.tup xs) (.ref a) μ Q ↔ ∃ k ks, keysD xs = some k ∧ μ a = some (.st P w ks) ∧ ∀ r : Bool, (r = true ↔ k ∈ ks) → Q (.bl (if neg then !r else r)) μ := Iff.rfl
def addT (P : Program) (w : World) (a : Addr) (y : Dv) (μ : Mu) (Q : DV) : Prop := match y with
  | .tup xs => ∃ k ks, keysD xs = some k ∧ μ a = some (.st P w ks) ∧ ks.length + 1 < 64 ∧ (k ∈ ks → Q .non μ) ∧ (k ∉ ks → Q .non (mset μ a (.st P w (k :: ks))))
  | _ => False
def addTo (P : Program) (w : World) (te : DE) (δ : DSt) (Q : DV) (x : Dv) (μ : Mu) : Prop := match x with
  | .ref a => (∃ ks, μ a = some (.st P w ks)) ∧ te δ μ fun y μ2 => addT P w a y μ2 Q
  | _ => False
@[simp] theorem addTo_ref {P : Program} {w : World} {te : DE} : addTo P w te δ Q (.ref a) μ ↔ (∃ ks, μ a = some (.st P w ks)) ∧ te δ μ fun y μ2 => addT P w a y μ2 Q := Iff.rfl
@[simp] theorem addT_tup {P : Program} {w : World} : addT P w a (.tup xs) μ Q ↔ ∃ k ks, keysD xs = some k ∧ μ a = some (.st P w ks) ∧ ks.length + 1 < 64 ∧ (k ∈ ks → Q .non μ) ∧ (k ∉ ks → Q .non (mset μ a (.st P w (k :: ks)))) := Iff.rfl
@[simp] theorem e_AddT {P : Program} {w : World} {to te : DE} : vAddT P w to te δ μ Q ↔ to δ μ fun x μ1 => addTo P w te δ Q x μ1 := Iff.rfl
@[simp] theorem s_Fld {D : DEnds} {C : Addr} {f : Str} {to te : DE} : sFldV C f to te D δ μ ↔ te δ μ fun y μ1 => to δ μ1 fun x μ2 => gFld C f x y μ2 fun μ3 => D.nx δ μ3 := Iff.rfl
@[simp] theorem fld_ref {C : Addr} {f : Str} {y : Dv} {Q : Mu → Prop} : gFld C f (.ref a) y μ Q ↔ ∃ dx fs, μ a = some (.ins C dx fs) ∧ fs.length < 1000 ∧ Q (mset μ a (.ins C dx (dput f y fs))) := Iff.rfl
end
end Wl
namespace Lw
open PySem L2 Wl
section
variable {P : Program} {w : World} {c : Cs} {μ : Mu} {Q : DV} {E : DX}
structure BdOk (ms : List Str) (b : Bd) : Prop where
  mode : b.mode ∈ ms
  tgt : b.tgt ∈ ms
  keys : Word b.keys 6
  cmd : Word b.cmd 8
theorem m_is_binding (ms : List Str) (b : Bd) (h : BdOk ms b) (q : Q (.bl true) μ) : sp_is_binding P w c [.tup (ms.map Dv.str), b.dv] μ Q E := by
  have hcl : (ms.map Dv.str).all (Cln 0) = true := List.all_eq_true.mpr fun z hz => by
    obtain ⟨b, _, rfl⟩ := List.mem_map.mp hz
    rfl
  have hin : ∀ m, m ∈ ms → inOk (.str m) (ms.map Dv.str) ∧ dIn (.str m) (ms.map Dv.str) = true := fun m hm => by
    obtain ⟨k1, k2⟩ := cln_in (n := 0) (m := 0) (x := .str m) rfl hcl (by decide)
    exact ⟨k1, k2.mpr (List.mem_map.mpr ⟨m, hm, rfl⟩)⟩
  have e4 : dEq (.int 4) (.int 4) = true := rfl
  simp [sp_is_binding, T_is_binding, N_is_binding, dstart, tyName, Bd.dv, e4]
  refine ⟨cln_ok (n := 0) (m := 0) rfl rfl (by decide), ?_⟩
  refine in_tup.mpr ⟨(hin _ h.mode).1, ?_⟩
  simp [(hin _ h.mode).2]
  refine in_tup.mpr ⟨(hin _ h.tgt).1, ?_⟩
  simp [(hin _ h.tgt).2]
  refine m_word _ 6 h.keys.h1 (by have := h.keys.h2; omega) (by have := h.keys.h2; omega) h.keys.h4 ?_
  simp
  exact m_word _ 8 h.cmd.h1 (by have := h.cmd.h2; omega) (by have := h.cmd.h2; omega) h.cmd.h4 q
theorem m_check_bindings (ms : List Str) (bs : List Bd) (hl : bs.length ≤ 30) (hb : ∀ b ∈ bs, BdOk ms b) (hn : (bs.map fun b => (b.mode, b.keys)).Nodup) (q : ∀ p m, μ p = none → Q .non (mset μ p m)) : sp_check_bindings P w c [.tup (ms.map Dv.str), .tup (bs.map Bd.dv)] μ Q E := by
  simp [sp_check_bindings, T_check_bindings, N_check_bindings, dstart, tyName]
  intro p hp
  refine loop_inv _ (fun i δ μ' => ∃ (l1 l2 : Option Dv), δ = [some (.tup (ms.map Dv.str)), some (.tup (bs.map Bd.dv)), some (.ref p), l1, l2] ∧ ∃ ks : List (List Key), μ' = mset μ p (.st P w ks) ∧ ks.length ≤ i ∧ ∀ k ∈ ks, ∃ b ∈ bs.take i, k = [.inr b.mode, .inr b.keys]) 0
    ⟨none, none, rfl, [], rfl, Nat.le_refl _, by simp⟩ ?_ ?_
  · rintro i d δ μ' C hd ⟨l1, l2, rfl, ks, rfl, hkl, hks⟩ hC
    obtain ⟨x, hx, rfl⟩ := nmb_at hd
    rw [List.getElem?_map] at hx
    cases hm : bs[i]? with
    | none => rw [hm] at hx; cases hx
    | some b =>
      rw [hm] at hx
      cases hx
      have hi : i < bs.length := (List.getElem?_eq_some_iff.mp hm).1
      have hmem : b ∈ bs := List.mem_of_getElem? hm
      simp
      refine ⟨by omega, ?_⟩
      refine m_is_binding ms b (hb b hmem) ?_
      have hcut : dcut [Dv.str b.mode, .str b.keys, .str b.cmd, .str b.tgt] none (some 2) = [.str b.mode, .str b.keys] := rfl
      simp [Bd.dv, hcut]
      have hno : ([.inr b.mode, .inr b.keys] : List Key) ∉ ks := fun hk => by
        obtain ⟨b', hb', e⟩ := hks _ hk
        injection e with e1 e2
        injection e2 with e2 _
        injection e1 with e1
        injection e2 with e2
        obtain ⟨j, hj, ej⟩ := List.mem_iff_getElem.mp hb'
        rw [List.length_take] at hj
        have hj1 : j < bs.length := by omega
        have hj' : bs[j]? = some b' := by rw [← ej, List.getElem_take]; simp
        have k1 : (bs.map fun b => (b.mode, b.keys))[j]? = some (b'.mode, b'.keys) := by rw [List.getElem?_map, hj']; rfl
        have k2 : (bs.map fun b => (b.mode, b.keys))[i]? = some (b.mode, b.keys) := by rw [List.getElem?_map, hm]; rfl
        have : j = i := (List.getElem?_inj (by simpa using hj1) hn).mp (k1.trans (by rw [k2, e1, e2]))
        omega
      refine ⟨_, rfl, fun _ => ⟨_, rfl, by omega, fun hk => absurd hk hno, fun _ => ?_⟩, hno⟩
      refine hC _ _ ⟨_, _, rfl, _, rfl, by simp; omega, fun k hk => ?_⟩
      rcases List.mem_cons.mp hk with rfl | hk
      · refine ⟨b, ?_, rfl⟩
        rw [show 0 + i + 1 = i + 1 by omega, List.take_add_one, hm]
        simp
      · obtain ⟨b', h1, h2⟩ := hks k hk
        refine ⟨b', ?_, h2⟩
        have h1' : b' ∈ bs.take i := by simpa using h1
        rw [show 0 + i + 1 = i + 1 by omega, List.take_add_one]
        exact List.mem_append_left _ h1'
  · rintro δ μ' ⟨l1, l2, rfl, ks, rfl, _⟩
    exact q p _ hp
/-- a key map stands at k -/
def MapAt (c : Cs) (μ : Mu) (k : Addr) (ms : List Str) (wt : Int) (bs : List Bd) : Prop :=
  ∃ dx, μ k = some (.ins c.KeyMap dx [("_modes", .tup (ms.map Dv.str)), ("_wait", .int wt), ("_bindings", .tup (bs.map Bd.dv))])
/-- nothing that stood is touched -/
def Gr (μ μ' : Mu) : Prop := ∀ b m, μ b = some m → μ' b = some m
theorem Gr.refl (μ : Mu) : Gr μ μ := fun _ _ h => h
theorem Gr.trans {μ1 μ2 μ3 : Mu} (h : Gr μ1 μ2) (g : Gr μ2 μ3) : Gr μ1 μ3 := fun b m e => g b m (h b m e)
theorem Gr.new {μ : Mu} {p : Addr} {m : Mo} (h : μ p = none) : Gr μ (mset μ p m) := fun b n e => by
  rw [mset_off (fun q => by rw [q, h] at e; cases e)]; exact e
theorem m_map_init (ms : List Str) (wt : Int) (bs : List Bd) (k dx : Addr) (h0 : ms ≠ []) (hl : ms.length ≤ 4) (hw : ∀ m ∈ ms, Word m 8) (hn : ms.Nodup) (hwt : 1 ≤ wt ∧ wt ≤ 99) (hbl : bs.length ≤ 30) (hb : ∀ b ∈ bs, BdOk ms b) (hbn : (bs.map fun b => (b.mode, b.keys)).Nodup)
    (hk : μ k = some (.ins c.KeyMap dx [])) (q : ∀ p m, μ p = none → Q .non (mset (mset μ p m) k (.ins c.KeyMap dx [("_modes", .tup (ms.map Dv.str)), ("_wait", .int wt), ("_bindings", .tup (bs.map Bd.dv))]))) :
    sp_KeyMap_init__ P w c [.ref k, .tup (ms.map Dv.str), .int wt, .tup (bs.map Bd.dv)] μ Q E := by
  simp [sp_KeyMap_init__, T_KeyMap_init__, N_KeyMap_init__, dstart]
  refine m_check_modes ms h0 hl hw hn ?_
  refine m_is_number wt 1 99 ?_
  simp [hwt.1, hwt.2]
  refine m_check_bindings ms bs hbl hb hbn fun p m hp => ?_
  have hkp : k ≠ p := fun e => by rw [← e, hk] at hp; cases hp
  have e1 : ¬ ((Str.ofString "_modes") = (Str.ofString "_wait")) := by decide +kernel
  have e2 : ¬ ((Str.ofString "_modes") = (Str.ofString "_bindings")) := by decide +kernel
  have e3 : ¬ ((Str.ofString "_wait") = (Str.ofString "_bindings")) := by decide +kernel
  simp [mset_off hkp, hk]
  have d1 : dput (Str.ofString "_modes") (Dv.tup (ms.map Dv.str)) [] = ([("_modes", .tup (ms.map Dv.str))] : List (Str × Dv)) := rfl
  have d2 : dput (Str.ofString "_wait") (Dv.int wt) [((Str.ofString "_modes"), Dv.tup (ms.map Dv.str))] = ([("_modes", .tup (ms.map Dv.str)), ("_wait", .int wt)] : List (Str × Dv)) := by simp [dput, e1]
  have d3 : dput (Str.ofString "_bindings") (Dv.tup (bs.map Bd.dv)) [((Str.ofString "_modes"), Dv.tup (ms.map Dv.str)), ((Str.ofString "_wait"), .int wt)] = ([("_modes", .tup (ms.map Dv.str)), ("_wait", .int wt), ("_bindings", .tup (bs.map Bd.dv))] : List (Str × Dv)) := by simp [dput, e2, e3]
  exact ⟨dx, _, ⟨rfl, rfl⟩, by decide, dx, _, ⟨rfl, d1⟩, by simp, dx, _, ⟨rfl, d2⟩, by simp, by rw [d3]; exact q p m hp⟩
/-- an instance that is made: a fresh place -/
theorem m_made (ms : List Str) (wt : Int) (bs : List Bd) (h0 : ms ≠ []) (hl : ms.length ≤ 4) (hw : ∀ m ∈ ms, Word m 8) (hn : ms.Nodup) (hwt : 1 ≤ wt ∧ wt ≤ 99) (hbl : bs.length ≤ 30) (hb : ∀ b ∈ bs, BdOk ms b) (hbn : (bs.map fun b => (b.mode, b.keys)).Nodup)
    (q : ∀ k μ', Gr μ μ' → MapAt c μ' k ms wt bs → Q (.ref k) μ') : sp_law_made P w c [partsD ms wt bs] μ Q E := by
  have a0 : atI [Dv.tup (ms.map Dv.str), .int wt, .tup (bs.map Bd.dv)] 0 = some (.tup (ms.map Dv.str)) := rfl
  have a1 : atI [Dv.tup (ms.map Dv.str), .int wt, .tup (bs.map Bd.dv)] 1 = some (.int wt) := rfl
  have a2 : atI [Dv.tup (ms.map Dv.str), .int wt, .tup (bs.map Bd.dv)] 2 = some (.tup (bs.map Bd.dv)) := rfl
  simp [sp_law_made, T_law_made, N_law_made, dstart, partsD, vMake, a0, a1, a2]
  intro k dx hk
  refine m_map_init ms wt bs k dx h0 hl hw hn hwt hbl hb hbn mset_at fun p m hp => ?_
  have hpk : p ≠ k := fun e => by rw [e, mset_at] at hp; cases hp
  have hp' : μ p = none := by rw [mset_off hpk] at hp; exact hp
  refine q k _ (fun b n e => ?_) ⟨dx, mset_at⟩
  have h1 : b ≠ k := fun q => by rw [q, hk] at e; cases e
  have h2 : b ≠ p := fun q => by rw [q, hp'] at e; cases e
  rw [mset_off h1, mset_off h2, mset_off h1]; exact e
end
end Lw

set_option Elab.async false
set_option linter.all false
set_option maxRecDepth 100000
namespace Wl
open PySem L2
section
variable {κ : Type} [DecidableEq κ]
theorem valD_nil (k : κ) : valD ([] : List (κ × Dv)) k = none := rfl
theorem valD_cons (a k : κ) (x : Dv) (r : List (κ × Dv)) : valD ((a, x) :: r) k = if a = k then some x else valD r k := by
  unfold valD
  by_cases h : a = k
  · simp [h]
  · simp [h]
theorem valD_append (r s : List (κ × Dv)) (k : κ) : valD (r ++ s) k = (valD r k).or (valD s k) := by
  induction r with
  | nil => simp [valD_nil]
  | cons y r ih =>
    obtain ⟨a, x⟩ := y
    rw [List.cons_append, valD_cons, valD_cons, ih]
    split <;> simp
theorem valD_none {r : List (κ × Dv)} {k : κ} (h : ¬ (r.any fun kv => decide (kv.1 = k)) = true) : valD r k = none := by
  unfold valD
  rw [Option.map_eq_none_iff, List.find?_eq_none]
  intro y hy e
  exact h (List.any_eq_true.mpr ⟨y, hy, e⟩)
theorem valD_put (r : List (κ × Dv)) (k k' : κ) (v : Dv) : valD (putD r k v) k' = if k' = k then some v else valD r k' := by
  unfold putD
  split
  · rename_i h
    induction r with
    | nil => cases h
    | cons y r ih =>
      obtain ⟨a, x⟩ := y
      rw [List.map_cons]
      by_cases ha : a = k
      · subst ha
        simp only [if_true, valD_cons]
        by_cases hk : a = k'
        · subst hk; simp
        · rw [if_neg hk, if_neg hk, if_neg (fun e => hk e.symm)]
          -- behind the first: nothing that matters changes
          clear ih h
          induction r with
          | nil => rfl
          | cons z r ih2 =>
            obtain ⟨b, u⟩ := z
            rw [List.map_cons]
            by_cases hb : b = a
            · subst hb
              simp only [if_true, valD_cons]
              rw [if_neg hk, if_neg hk]; exact ih2
            · simp only [if_neg hb, valD_cons]
              rw [ih2]
      · have h' : (r.any fun kv => decide (kv.1 = k)) = true := by simpa [ha] using h
        simp only [if_neg ha, valD_cons]
        rw [ih h']
        by_cases hk : a = k'
        · subst hk; simp [ha]
        · simp [hk]
  · rename_i h
    rw [valD_append, valD_cons, valD_nil]
    by_cases hk : k' = k
    · subst hk
      rw [valD_none h]; simp
    · rw [if_neg (fun e => hk e.symm), if_neg hk]; simp
theorem putD_length (r : List (κ × Dv)) (k : κ) (v : Dv) : (putD r k v).length ≤ r.length + 1 := by
  unfold putD
  split <;> simp
end
section
variable {δ : DSt} {μ : Mu} {Q : DV} {QS : DSt → Mu → Prop} {D : DEnds} {a : Addr} {y v : Dv} {ys : List Dv}
def fldv (C : Addr) (f : Str) (x : Dv) (μ : Mu) (Q : DV) : Prop := match x with | .ref a => ∃ dx fs d, μ a = some (.ins C dx fs) ∧ fs.lookup f = some d ∧ Q d μ | _ => False
@[simp] theorem fldv_ref {C : Addr} {f : Str} : fldv C f (.ref a) μ Q ↔ ∃ dx fs d, μ a = some (.ins C dx fs) ∧ fs.lookup f = some d ∧ Q d μ := Iff.rfl
@[simp] theorem e_Fld {C : Addr} {f : Str} {t : DE} : vFld C f t δ μ Q ↔ t δ μ fun x μ1 => fldv C f x μ1 Q := Iff.rfl
@[simp] theorem e_NewT : vDNewT δ μ Q ↔ ∀ p, μ p = none → Q (.ref p) (mset μ p (.dT [])) := Iff.rfl
def putv (x y v : Dv) (μ : Mu) (Q : Mu → Prop) : Prop := match x with | .ref a => dstore μ a y v Q | _ => False
@[simp] theorem putv_ref {Q : Mu → Prop} : putv (.ref a) y v μ Q ↔ dstore μ a y v Q := Iff.rfl
@[simp] theorem s_DPut {td ty tv : DE} : sDPutV td ty tv D δ μ ↔ tv δ μ fun v μ1 => td δ μ1 fun x μ2 => ty δ μ2 fun y μ3 => putv x y v μ3 fun μ4 => D.nx δ μ4 := Iff.rfl
theorem store_T {Q : Mu → Prop} {kvs : List (List Key × Dv)} {ks : List Key} (h : μ a = some (.dT kvs)) (hk : keysD ys = some ks) : dstore μ a (.tup ys) v Q ↔ kvs.length < sizeLine ∧ Q (mset μ a (.dT (putD kvs ks v))) := by
  simp [dstore, h, hk]
theorem look_T {Q : Option Dv → Prop} {kvs : List (List Key × Dv)} {ks : List Key} (h : μ a = some (.dT kvs)) (hk : keysD ys = some ks) : dlook μ a (.tup ys) Q ↔ Q (valD kvs ks) := by
  simp [dlook, h, hk]
def prpv (C : Addr) (sp : Sp2) (x : Dv) (μ : Mu) (Q : DV) : Prop := match x with | .ref a => ∃ dx fs, μ a = some (.ins C dx fs) ∧ sp [.ref a] μ Q fun _ _ _ => False | _ => False
@[simp] theorem prpv_ref {C : Addr} {sp : Sp2} : prpv C sp (.ref a) μ Q ↔ ∃ dx fs, μ a = some (.ins C dx fs) ∧ sp [.ref a] μ Q fun _ _ _ => False := Iff.rfl
@[simp] theorem e_Prop {C : Addr} {sp : Sp2} {t : DE} : vProp C sp t δ μ Q ↔ t δ μ fun x μ1 => prpv C sp x μ1 Q := Iff.rfl
end
end Wl
namespace Lw
open PySem L2 Wl
section
variable {P : Program} {w : World} {c : Cs} {μ : Mu} {Q : DV} {E : DX}
theorem lk_m {x y z : Dv} : List.lookup (Str.ofString "_modes") [(Str.ofString "_modes", x), (Str.ofString "_wait", y), (Str.ofString "_bindings", z)] = some x := by
  simp
theorem lk_w {x y z : Dv} : List.lookup (Str.ofString "_wait") [(Str.ofString "_modes", x), (Str.ofString "_wait", y), (Str.ofString "_bindings", z)] = some y := by
  have e1 : ((Str.ofString "_wait") == (Str.ofString "_modes")) = false := by decide +kernel
  simp [List.lookup, e1]
theorem lk_b {x y z : Dv} : List.lookup (Str.ofString "_bindings") [(Str.ofString "_modes", x), (Str.ofString "_wait", y), (Str.ofString "_bindings", z)] = some z := by
  have e1 : ((Str.ofString "_bindings") == (Str.ofString "_modes")) = false := by decide +kernel
  have e2 : ((Str.ofString "_bindings") == (Str.ofString "_wait")) = false := by decide +kernel
  simp [List.lookup, e1, e2]
theorem m_map_bindings {k : Addr} {ms : List Str} {wt : Int} {bs : List Bd} (h : MapAt c μ k ms wt bs) (q : Q (.tup (bs.map Bd.dv)) μ) : sp_KeyMap_bindings P w c [.ref k] μ Q E := by
  obtain ⟨dx, h⟩ := h
  simp [sp_KeyMap_bindings, T_KeyMap_bindings, N_KeyMap_bindings, dstart]
  exact ⟨dx, _, h, _, lk_b, q⟩
theorem m_map_wait {k : Addr} {ms : List Str} {wt : Int} {bs : List Bd} (h : MapAt c μ k ms wt bs) (q : Q (.int wt) μ) : sp_KeyMap_wait P w c [.ref k] μ Q E := by
  obtain ⟨dx, h⟩ := h
  simp [sp_KeyMap_wait, T_KeyMap_wait, N_KeyMap_wait, dstart]
  exact ⟨dx, _, h, _, lk_w, q⟩
theorem m_map_modes {k : Addr} {ms : List Str} {wt : Int} {bs : List Bd} (h : MapAt c μ k ms wt bs) (q : Q (.tup (ms.map Dv.str)) μ) : sp_KeyMap_modes P w c [.ref k] μ Q E := by
  obtain ⟨dx, h⟩ := h
  simp [sp_KeyMap_modes, T_KeyMap_modes, N_KeyMap_modes, dstart]
  exact ⟨dx, _, h, _, lk_m, q⟩
end
end Lw

set_option Elab.async false
set_option linter.all false
set_option maxRecDepth 100000
namespace Wl
open PySem L2
section
variable {δ : DSt} {μ : Mu} {Q : DV} {D : DEnds} {a : Addr} {d : Dv}
/-- what is walked, with its guard -/
def wan (x : Dv) (μ1 : Mu) (Q : List Dv → (Mu → Prop) → Mu → Prop) : Prop := match x with
  | .tup xs => Q xs (fun _ => True) μ1
  | .rot xs => Q xs (fun _ => True) μ1
  | .lst xs => Q xs (fun _ => True) μ1
  | .rol xs => Q xs (fun _ => True) μ1
  | .ref a => ∃ xs, μ1 a = some (.lst xs) ∧ Q xs (fun μ => μ a = some (.lst xs)) μ1
  | _ => False
@[simp] theorem wan_tup {xs : List Dv} {Q : List Dv → (Mu → Prop) → Mu → Prop} : wan (.tup xs) μ Q ↔ Q xs (fun _ => True) μ := Iff.rfl
@[simp] theorem wan_lst {xs : List Dv} {Q : List Dv → (Mu → Prop) → Mu → Prop} : wan (.lst xs) μ Q ↔ Q xs (fun _ => True) μ := Iff.rfl
@[simp] theorem wan_ref {Q : List Dv → (Mu → Prop) → Mu → Prop} : wan (.ref a) μ Q ↔ ∃ xs, μ a = some (.lst xs) ∧ Q xs (fun μ => μ a = some (.lst xs)) μ := Iff.rfl
@[simp] theorem w_Any {t : DE} {Q : List Dv → (Mu → Prop) → Mu → Prop} : wAny t δ μ Q ↔ t δ μ fun x μ1 => wan x μ1 Q := Iff.rfl
@[simp] theorem la_lst {xs : List Dv} {Q : List Dv → (Mu → Prop) → Prop} : lstAt μ (.lst xs) Q ↔ Q xs (fun _ => True) := Iff.rfl
@[simp] theorem la_ref {Q : List Dv → (Mu → Prop) → Prop} : lstAt μ (.ref a) Q ↔ ∃ xs, μ a = some (.lst xs) ∧ Q xs (fun μ => μ a = some (.lst xs)) := Iff.rfl
@[simp] theorem w_Zip {t u : DE} {Q : List Dv → (Mu → Prop) → Mu → Prop} : wZip (vCons t (vCons u vNil)) δ μ Q ↔ t δ μ fun x μ1 => u δ μ1 fun y μ2 => lstAt μ2 x fun as g => lstAt μ2 y fun bs h => Q (pairsD as bs) (fun μ => g μ ∧ h μ) μ2 := Iff.rfl
@[simp] theorem s_ForG {wi : DIG} {g : DG} {tb : DS} : sForG wi g tb D δ μ ↔ wi δ μ fun ds G μ1 => sLoopG G g tb ds D δ μ1 := Iff.rfl
@[simp] theorem e_CompG {vs : List Nat} {wi : DIG} {g : DG} {tt : DT} {te : DE} : vCompG vs wi g tt te δ μ Q ↔ wi δ μ fun ds G μ1 => ∀ A, μ1 A = none → vLoopG G vs g tt te δ A ds (mset μ1 A (.lst [])) fun acc μ2 => Q (.lst acc) (mdel μ2 A) := Iff.rfl
@[simp] theorem e_CompGM {vs : List Nat} {wi : DIG} {g : DG} {tt : DT} {te : DE} : vCompGM vs wi g tt te δ μ Q ↔ wi δ μ fun ds G μ1 => ∀ A, μ1 A = none → vLoopG G vs g tt te δ A ds (mset μ1 A (.lst [])) fun _ μ2 => Q (.ref A) μ2 := Iff.rfl
def lsr (x : Dv) (μ : Mu) (Q : DV) : Prop := match x with | .int n => RgOk 0 n ∧ Q (.lst (irange 0 (n - 0).toNat)) μ | _ => False
@[simp] theorem lsr_int {n : Int} : lsr (.int n) μ Q ↔ RgOk 0 n ∧ Q (.lst (irange 0 (n - 0).toNat)) μ := Iff.rfl
@[simp] theorem e_ListR {t : DE} : vListR t δ μ Q ↔ t δ μ fun x μ1 => lsr x μ1 Q := Iff.rfl
def lsr2 (x y : Dv) (μ : Mu) (Q : DV) : Prop := match x, y with | .int a, .int n => RgOk a n ∧ Q (.lst (irange a (n - a).toNat)) μ | _, _ => False
@[simp] theorem lsr2_int {a n : Int} : lsr2 (.int a) (.int n) μ Q ↔ RgOk a n ∧ Q (.lst (irange a (n - a).toNat)) μ := Iff.rfl
@[simp] theorem e_ListR2 {t u : DE} : vListR2 t u δ μ Q ↔ t δ μ fun x μ1 => u δ μ1 fun y μ2 => lsr2 x y μ2 Q := Iff.rfl
@[simp] theorem e_RevL {t : DE} : vRevL t δ μ Q ↔ t δ μ fun x μ1 => lstAt μ1 x fun xs _ => Q (.lst xs.reverse) μ1 := Iff.rfl
end
section
variable {μ : Mu} {Q : DV} {a : Addr} {x y : Dv}
@[simp] theorem o_inX {u z : Str} : gInX (.str u) (.str z) μ Q ↔ Q (.bl (!(Builtin.Str.occurrences z u 0 z.length 1).isEmpty)) μ := Iff.rfl
@[simp] theorem pl_lst {xs : List Dv} : plst μ (.lst xs) = some xs := rfl
theorem pl_ref {xs : List Dv} (h : μ a = some (.lst xs)) : plst μ (.ref a) = some xs := by simp only [plst, h]
@[simp] theorem o_catM : gCatM x y μ Q ↔ ∃ xs ys, plst μ x = some xs ∧ plst μ y = some ys ∧ xs.length + ys.length ≤ sizeLine ∧ Q (.lst (xs ++ ys)) μ := Iff.rfl
@[simp] theorem o_sortIM : gSortIM [x] μ Q ↔ ∃ ns : List Int, plst μ x = some (ns.map Dv.int) ∧ ∀ ns' : List Int, ns'.Perm ns → ns'.Pairwise (· ≤ ·) → Q (.lst (ns'.map Dv.int)) μ := Iff.rfl
end
/-- a for loop under a guard, by an invariant -/
theorem loopG_inv {G : Mu → Prop} {g : DG} {tb : DS} {D : DEnds} : ∀ (ds : List Dv) (Iv : Nat → DSt → Mu → Prop) (n : Nat) {δ : DSt} {μ : Mu}, Iv n δ μ → (∀ i δ μ, Iv i δ μ → G μ) →
    (∀ i d δ μ (C : DSt → Mu → Prop), ds[i]? = some d → Iv (n + i) δ μ → (∀ δ' μ', Iv (n + i + 1) δ' μ' → C δ' μ') → g d δ μ fun δ1 μ1 => tb { nx := C, ct := C, bk := D.nx, rt := D.rt } δ1 μ1) →
    (∀ δ μ, Iv (n + ds.length) δ μ → D.nx δ μ) → sLoopG G g tb ds D δ μ
  | [], Iv, n, δ, μ, h0, hG, _, he => ⟨hG _ _ _ h0, he δ μ h0⟩
  | d :: ds, Iv, n, δ, μ, h0, hG, hs, he => ⟨hG _ _ _ h0, hs 0 d δ μ (sLoopG G g tb ds D) rfl h0 fun δ' μ' h => loopG_inv ds Iv (n + 1) h hG
      (fun i d' δ2 μ2 C hd hi hc => hs (i + 1) d' δ2 μ2 C hd (by rw [show n + (i + 1) = n + 1 + i by omega]; exact hi) (fun δ3 μ3 h3 => hc δ3 μ3 (by rw [show n + 1 + i + 1 = n + (i + 1) + 1 by omega]; exact h3)))
      (fun δ2 μ2 h2 => he δ2 μ2 (by rw [List.length_cons, show n + (ds.length + 1) = n + 1 + ds.length by omega]; exact h2))⟩
/-- a comprehension that changes nothing, under a guard -/
theorem compG_at {G : Mu → Prop} {vs : List Nat} {g : DG} {tt : DT} {te : DE} {δ : DSt} {μ : Mu} {A : Addr} {Qk : List Dv → Mu → Prop} (hA : μ A = none) (f : Dv → Option Dv) (ds : List Dv) (hl : ds.length ≤ sizeLine) (hG : ∀ acc, G (mset μ A (.lst acc)))
    (hb : ∀ d ∈ ds, ∀ (acc : List Dv) (C : Mu → Prop), acc.length < sizeLine → C (mset μ A (.lst (acc ++ (f d).toList))) →
      g d (dwipe δ vs) (mset μ A (.lst acc)) fun δ1 μ1 => tt δ1 μ1 fun b μ2 => if b = true then te δ1 μ2 fun y μ3 => ∃ acc, μ3 A = some (.lst acc) ∧ acc.length < sizeLine ∧ C (mset μ3 A (.lst (acc ++ [y]))) else C μ2)
    (q : Qk (ds.filterMap f) (mset μ A (.lst (ds.filterMap f)))) : vLoopG G vs g tt te δ A ds (mset μ A (.lst [])) Qk := by
  have main : ∀ (xs acc : List Dv), (∀ d ∈ xs, d ∈ ds) → acc.length + xs.length ≤ sizeLine → acc ++ xs.filterMap f = ds.filterMap f → vLoopG G vs g tt te δ A xs (mset μ A (.lst acc)) Qk := by
    intro xs
    induction xs with
    | nil =>
      intro acc _ _ e
      have e' : acc = ds.filterMap f := by simpa using e
      exact ⟨hG _, acc, mset_at, by rw [e']; exact q⟩
    | cons x xs ih =>
      intro acc hm hle e
      rw [List.length_cons] at hle
      refine ⟨hG _, hb x (hm x List.mem_cons_self) acc _ (by omega) (ih _ (fun d hd => hm d (List.mem_cons_of_mem _ hd)) ?_ ?_)⟩
      · rw [List.length_append]
        have : (f x).toList.length ≤ 1 := by cases f x <;> simp
        omega
      · rw [← e, List.append_assoc]
        congr 1
        cases h : f x with
        | none => simp [List.filterMap_cons, h]
        | some y => simp [List.filterMap_cons, h]
  exact main ds [] (fun _ h => h) (by simpa using hl) rfl
theorem compG_pure {G : Mu → Prop} {vs : List Nat} {g : DG} {tt : DT} {te : DE} {δ : DSt} {μ : Mu} (R : List Dv → Mu → Prop) (f : Dv → Option Dv) (ds : List Dv) (hl : ds.length ≤ sizeLine) (hG : ∀ A acc, μ A = none → G (mset μ A (.lst acc)))
    (hb : ∀ d ∈ ds, ∀ (A : Addr) (acc : List Dv) (C : Mu → Prop), μ A = none → acc.length < sizeLine → C (mset μ A (.lst (acc ++ (f d).toList))) →
      g d (dwipe δ vs) (mset μ A (.lst acc)) fun δ1 μ1 => tt δ1 μ1 fun b μ2 => if b = true then te δ1 μ2 fun y μ3 => ∃ acc, μ3 A = some (.lst acc) ∧ acc.length < sizeLine ∧ C (mset μ3 A (.lst (acc ++ [y]))) else C μ2)
    (q : R (ds.filterMap f) μ) : ∀ A, μ A = none → vLoopG G vs g tt te δ A ds (mset μ A (.lst [])) fun acc μ2 => R acc (mdel μ2 A) := fun A hA =>
  compG_at hA f ds hl (fun acc => hG A acc hA) (fun d hd acc C hla hC => hb d hd A acc C hA hla hC) (by show R _ (mdel (mset μ A _) A); rw [mdel_mset hA]; exact q)
theorem ref_stays {a : Addr} {m : Mo} {μ : Mu} (h : μ a = some m) : ∀ A acc, μ A = none → (mset μ A (.lst acc)) a = some m := fun A acc hA => by
  rw [mset_off (fun e => by rw [e, hA] at h; cases h)]; exact h
end Wl

set_option Elab.async false
set_option linter.all false
set_option maxRecDepth 100000
namespace Wl
open PySem L2
section
variable {μ : Mu}
theorem ty_str {T : String} {x : Str} : tyD T (.str x) μ ↔ T = "str" := Iff.rfl
end
end Wl
namespace Lw
open PySem L2 Wl
def tx (l : List Nat) : Str := ⟨l.toArray⟩
theorem tx_size (l : List Nat) : (tx l).cps.size = l.length := by simp [tx]
theorem tx_list (l : List Nat) : (tx l).cps.toList = l := by simp [tx]
theorem tx_of (x : Str) : tx x.cps.toList = x := by cases x; simp [tx]
end Lw
namespace Lw
open PySem L2 Wl
theorem irange_at {lo : Int} {n i : Nat} {d : Dv} (h : (irange lo n)[i]? = some d) : i < n ∧ d = .int (lo + i) := by
  simp [irange, List.getElem?_map] at h
  obtain ⟨j, hj, rfl⟩ := h
  obtain ⟨h1, h2⟩ := List.getElem?_eq_some_iff.mp hj
  simp at h1 h2
  subst h2
  exact ⟨h1, rfl⟩
end Lw

set_option Elab.async false
set_option linter.all false
set_option maxRecDepth 100000
namespace Wl
open PySem L2
section
variable {δ : DSt} {μ : Mu} {Q : DV} {D : DEnds} {a : Addr} {y v : Dv}
def dgt (x y : Dv) (μ2 : Mu) (Q : DV) : Prop := match x with | .ref a => (dlook μ2 a y fun o => match o with | some d => Q d μ2 | none => False) | _ => False
def ino (x y : Dv) (μ2 : Mu) (Q : DV) : Prop := match x with | .ref a => dlook μ2 a y fun o => Q (.bl o.isSome) μ2 | _ => False
def nno (x y : Dv) (μ2 : Mu) (Q : DV) : Prop := match x with | .ref a => dlook μ2 a y fun o => Q (.bl (!o.isSome)) μ2 | _ => False
@[simp] theorem d_Get {td ty : DE} : vDGet td ty δ μ Q ↔ td δ μ fun x μ1 => ty δ μ1 fun y μ2 => dgt x y μ2 Q := Iff.rfl
@[simp] theorem d_In {ty td : DE} : vDIn ty td δ μ Q ↔ ty δ μ fun y μ1 => td δ μ1 fun x μ2 => ino x y μ2 Q := Iff.rfl
@[simp] theorem d_NotIn {ty td : DE} : vDNotIn ty td δ μ Q ↔ ty δ μ fun y μ1 => td δ μ1 fun x μ2 => nno x y μ2 Q := Iff.rfl
@[simp] theorem d_NewK : vDNewK δ μ Q ↔ ∀ p, μ p = none → Q (.ref p) (mset μ p (.dK [])) := Iff.rfl
/-- a dict of whole numbers, locked or not -/
def DAt (μ : Mu) (a : Addr) (kvs : List (Key × Dv)) : Prop := μ a = some (.dK kvs) ∨ ∃ od ws, μ a = some (.fdK od kvs ws)
theorem look_I {Q : Option Dv → Prop} {kvs : List (Key × Dv)} {i : Int} (h : DAt μ a kvs) : dlook μ a (.int i) Q ↔ Q (valD kvs (.inl i)) := by
  rcases h with h | ⟨od, ws, h⟩ <;> simp [dlook, h, keyD]
theorem dgt_I {kvs : List (Key × Dv)} {i : Int} {d : Dv} (h : DAt μ a kvs) (hv : valD kvs (.inl i) = some d) : dgt (.ref a) (.int i) μ Q ↔ Q d μ := by
  unfold dgt; dsimp only
  rw [look_I h, hv]
theorem ino_I {kvs : List (Key × Dv)} {i : Int} (h : DAt μ a kvs) : ino (.ref a) (.int i) μ Q ↔ Q (.bl (valD kvs (.inl i)).isSome) μ := by
  unfold ino; dsimp only
  rw [look_I h]
theorem nno_I {kvs : List (Key × Dv)} {i : Int} (h : DAt μ a kvs) : nno (.ref a) (.int i) μ Q ↔ Q (.bl (!(valD kvs (.inl i)).isSome)) μ := by
  unfold nno; dsimp only
  rw [look_I h]
theorem store_I {Q : Mu → Prop} {kvs : List (Key × Dv)} {i : Int} (h : μ a = some (.dK kvs)) (hl : kvs.length < sizeLine) : dstore μ a (.int i) v Q ↔ Q (mset μ a (.dK (putD kvs (.inl i) v))) := by
  simp [dstore, h, keyD, hl]
theorem mset_comm {μ : Mu} {a b : Addr} {m n : Mo} (h : a ≠ b) : mset (mset μ a m) b n = mset (mset μ b n) a m := by
  funext x
  unfold mset
  by_cases h1 : x = b
  · subst h1; rw [if_pos rfl, if_neg (fun e => h e.symm), if_pos rfl]
  · rw [if_neg h1]
    by_cases h2 : x = a
    · rw [if_pos h2, if_pos h2]
    · rw [if_neg h2, if_neg h2, if_neg h1]
end
end Wl

set_option Elab.async false
set_option linter.all false
set_option maxRecDepth 100000
namespace Wl
open PySem L2
section
variable {δ : DSt} {μ : Mu} {QA : List Dv → Mu → Prop}
def rng2 (x y : Dv) (Q : List Dv → Prop) : Prop := match x, y with | .int i, .int j => (-(2 ^ 62) ≤ i ∧ i < 2 ^ 62 ∧ -(2 ^ 62) ≤ j ∧ j < 2 ^ 62) ∧ Q (irange i (j - i).toNat) | _, _ => False
@[simp] theorem rng2_int {i j : Int} {Q : List Dv → Prop} : rng2 (.int i) (.int j) Q ↔ (-(2 ^ 62) ≤ i ∧ i < 2 ^ 62 ∧ -(2 ^ 62) ≤ j ∧ j < 2 ^ 62) ∧ Q (irange i (j - i).toNat) := Iff.rfl
@[simp] theorem w_Rng2 {t u : DE} : wRng2 (vCons t (vCons u vNil)) δ μ QA ↔ t δ μ fun x μ1 => u δ μ1 fun y μ2 => rng2 x y fun ds => QA ds μ2 := by
  have e : wRng2 (vCons t (vCons u vNil)) δ μ QA ↔ t δ μ fun x μ1 => u δ μ1 fun y μ2 => (match [x, y] with | [.int i, .int j] => (-(2 ^ 62) ≤ i ∧ i < 2 ^ 62 ∧ -(2 ^ 62) ≤ j ∧ j < 2 ^ 62) ∧ QA (irange i (j - i).toNat) μ2 | _ => False) := Iff.rfl
  rw [e]
  have e2 : (fun (x : Dv) (μ1 : Mu) => u δ μ1 fun y μ2 => (match [x, y] with | [.int i, .int j] => (-(2 ^ 62) ≤ i ∧ i < 2 ^ 62 ∧ -(2 ^ 62) ≤ j ∧ j < 2 ^ 62) ∧ QA (irange i (j - i).toNat) μ2 | _ => False)) = fun (x : Dv) (μ1 : Mu) => u δ μ1 fun y μ2 => rng2 x y fun ds => QA ds μ2 := by
    funext x μ1
    have e3 : (fun (y : Dv) (μ2 : Mu) => (match [x, y] with | [.int i, .int j] => (-(2 ^ 62) ≤ i ∧ i < 2 ^ 62 ∧ -(2 ^ 62) ≤ j ∧ j < 2 ^ 62) ∧ QA (irange i (j - i).toNat) μ2 | _ => False)) = fun (y : Dv) (μ2 : Mu) => rng2 x y fun ds => QA ds μ2 := by
      funext y μ2; exact propext (by cases x <;> cases y <;> exact Iff.rfl)
    rw [e3]
  rw [e2]
end
end Wl
namespace Wl
open PySem L2
section
variable {δ : DSt} {μ : Mu} {Q : DV} {QS : DSt → Mu → Prop} {a : Addr} {d v : Dv} {kvs : List (Key × Dv)} {k : Str}
def dget (x y : Dv) (μ : Mu) (Q : DV) : Prop := match x with | .ref a => (dlook μ a y fun o => match o with | some d => Q d μ | none => False) | _ => False
@[simp] theorem e_DGet {td ty : DE} : vDGet td ty δ μ Q ↔ td δ μ fun x μ1 => ty δ μ1 fun y μ2 => dget x y μ2 Q := Iff.rfl
theorem dget_K (h : μ a = some (.dK kvs)) (hv : valD kvs (.inr k) = some d) : dget (.ref a) (.str k) μ Q ↔ Q d μ := by
  simp [dget, dlook, h, keyD, hv]
@[simp] theorem g_SubD {to ti : DE} : dSubD to ti d δ μ QS ↔ to δ μ fun x μ1 => ti δ μ1 fun y μ2 => putv x y d μ2 fun μ3 => QS δ μ3 := Iff.rfl
theorem store_K {Q : Mu → Prop} (h : μ a = some (.dK kvs)) (hl : kvs.length < sizeLine) : dstore μ a (.str k) v Q ↔ Q (mset μ a (.dK (putD kvs (.inr k) v))) := by
  simp [dstore, h, keyD, hl]
@[simp] theorem o_join {x : Str} {ys : List Dv} : gJoin (.str x) [.lst ys] μ Q ↔ ∃ ts, textsD ys = some ts ∧ (ts.map (·.length)).sum + ts.length * x.length ≤ 16777216 ∧ Q (.str (Txt.join x ts)) μ := Iff.rfl
end
end Wl
namespace Wl
open PySem L2
section
variable {δ : DSt} {μ : Mu}
/-- a comprehension whose parts change nothing, with any wish behind it -/
theorem comp_at {vs : List Nat} {g : DG} {tt : DT} {te : DE} {A : Addr} {Qk : List Dv → Mu → Prop} (hA : μ A = none) (f : Dv → Option Dv) (ds : List Dv) (hl : ds.length ≤ sizeLine)
    (hb : ∀ d ∈ ds, ∀ (acc : List Dv) (C : Mu → Prop), acc.length < sizeLine → C (mset μ A (.lst (acc ++ (f d).toList))) →
      g d (dwipe δ vs) (mset μ A (.lst acc)) fun δ1 μ1 => tt δ1 μ1 fun b μ2 => if b = true then te δ1 μ2 fun y μ3 => ∃ acc, μ3 A = some (.lst acc) ∧ acc.length < sizeLine ∧ C (mset μ3 A (.lst (acc ++ [y]))) else C μ2)
    (q : Qk (ds.filterMap f) (mset μ A (.lst (ds.filterMap f)))) : vLoop vs g tt te δ A ds (mset μ A (.lst [])) Qk := by
  have main : ∀ (xs : List Dv) (acc : List Dv), (∀ d ∈ xs, d ∈ ds) → acc.length + xs.length ≤ sizeLine → acc ++ xs.filterMap f = ds.filterMap f → vLoop vs g tt te δ A xs (mset μ A (.lst acc)) Qk := by
    intro xs
    induction xs with
    | nil =>
      intro acc _ _ e
      refine ⟨acc, mset_at, ?_⟩
      have e' : acc = ds.filterMap f := by simpa using e
      rw [e']; exact q
    | cons x xs ih =>
      intro acc hm hle e
      have hle' : acc.length + (xs.length + 1) ≤ sizeLine := hle
      refine hb x (hm x List.mem_cons_self) acc _ (by omega) ?_
      refine ih _ (fun d hd => hm d (List.mem_cons_of_mem _ hd)) ?_ ?_
      · rw [List.length_append]
        have : (f x).toList.length ≤ 1 := by cases f x <;> simp
        omega
      · rw [← e, List.append_assoc]
        congr 1
        cases h : f x with
        | none => simp [List.filterMap_cons, h]
        | some y => simp [List.filterMap_cons, h]
  exact main ds [] (fun _ h => h) (by simpa using hl) rfl
end
end Wl
namespace Wl
open PySem L2
section
variable {δ : DSt} {μ : Mu} {Q : DV}
@[simp] theorem e_ListG {sp : SpY} {dds : List Dv} {t : DA} : vListG sp dds t δ μ Q ↔ t δ μ fun xs μ1 => sp (xs ++ dds) μ1 (fun out μ2 => Q (.lst out) μ2) fun _ _ _ => False := Iff.rfl
end
end Wl

namespace Lw
open PySem L2 Wl
theorem tx_add (l m : List Nat) : tx l ++ tx m = tx (l ++ m) := by
  show (⟨l.toArray ++ m.toArray⟩ : Str) = ⟨(l ++ m).toArray⟩
  simp
theorem eqS {x y : Str} : dEq (.str x) (.str y) = decide (x = y) := by
  have h := cln_eq 0 0 (.str x) (.str y) rfl rfl
  by_cases e : x = y
  · rw [decide_eq_true e]; exact h.mpr (by rw [e])
  · rw [decide_eq_false e]
    cases hd : dEq (.str x) (.str y) with
    | false => rfl
    | true => exact absurd (by have := h.mp hd; injection this) e
theorem okS {x y : Str} : eqOk (.str x) (.str y) := cln_ok (n := 0) (m := 0) rfl rfl (by decide)
theorem at2 {x y z : Dv} : atI [x, y, z] 2 = some z := rfl
theorem at1 {x y z : Dv} : atI [x, y, z] 1 = some y := rfl
theorem at0 {x y z : Dv} : atI [x, y, z] 0 = some x := rfl
theorem bt0 {x y z u : Dv} : atI [x, y, z, u] 0 = some x := rfl
theorem bt1 {x y z u : Dv} : atI [x, y, z, u] 1 = some y := rfl
theorem bt2 {x y z u : Dv} : atI [x, y, z, u] 2 = some z := rfl
theorem bt3 {x y z u : Dv} : atI [x, y, z, u] 3 = some u := rfl
theorem pt0 {x y : Dv} : atI [x, y] 0 = some x := rfl
theorem pt1 {x y : Dv} : atI [x, y] 1 = some y := rfl
theorem dcut_from {α : Type} (xs : List α) (k : Nat) : dcut xs (some (k : Int)) none = xs.drop k := by
  unfold dcut
  rw [HT.sIx_none, HT.sIx_nat]
  by_cases h : k ≤ xs.length
  · rw [Nat.min_eq_left h]; exact List.take_of_length_le (by simp)
  · rw [Nat.min_eq_right (by omega), List.drop_of_length_le (by omega), List.drop_of_length_le (by omega)]; simp
theorem cut_to (l : List Nat) (k : Nat) : cutS (tx l) none (some (k : Int)) = tx (l.take k) := by
  unfold cutS tx
  rw [HT.sIx_none, HT.sIx_nat]
  have : (⟨l.toArray⟩ : Str).length = l.length := by show l.toArray.size = l.length; simp
  rw [this]
  simp
end Lw

set_option Elab.async false
set_option linter.all false
set_option maxRecDepth 100000
namespace Lw
open PySem L2 Wl
/-- what the program looks at: the keys of one within those of the other, ahead of its last one -/
def insd (b o : Bd) : Bool := decide (b.mode = o.mode) && !(Builtin.Str.occurrences (cutS o.keys none (some (-1))) b.keys 0 (cutS o.keys none (some (-1))).length 1).isEmpty
def insAt (bs : List Bd) (i j : Nat) : Bool := match bs[i]?, bs[j]? with | some b, some o => insd b o | _, _ => false
def rowP (bs : List Bd) (i m : Nat) : List (Nat × Nat) := ((List.range m).filter fun j => insAt bs i j).map fun j => (i, j)
def lpsN (bs : List Bd) (n : Nat) : List (Nat × Nat) := (List.range n).flatMap fun i => rowP bs i bs.length
def lps (bs : List Bd) : List (Nat × Nat) := lpsN bs bs.length
def pairD (p : Nat × Nat) : Dv := .tup [.int p.1, .int p.2]
theorem rowP_len (bs : List Bd) (i m : Nat) : (rowP bs i m).length ≤ m := by
  unfold rowP
  rw [List.length_map]
  exact Nat.le_trans (List.length_filter_le _ _) (by rw [List.length_range]; exact Nat.le_refl _)
theorem lpsN_len (bs : List Bd) : ∀ n, (lpsN bs n).length ≤ n * bs.length
  | 0 => by simp [lpsN]
  | n + 1 => by
    have := lpsN_len bs n
    have h2 := rowP_len bs n bs.length
    unfold lpsN at this ⊢
    rw [List.range_succ, List.flatMap_append, List.length_append]
    have e : (n + 1) * bs.length = n * bs.length + bs.length := Nat.succ_mul _ _
    simp
    simp at this
    omega
theorem rowP_succ (bs : List Bd) (i m : Nat) : rowP bs i (m + 1) = rowP bs i m ++ (if insAt bs i m = true then [(i, m)] else []) := by
  unfold rowP
  rw [List.range_succ, List.filter_append, List.map_append]
  by_cases h : insAt bs i m = true
  · rw [if_pos h]; simp [h]
  · rw [if_neg h]; simp [h]
theorem lpsN_succ (bs : List Bd) (n : Nat) : lpsN bs (n + 1) = lpsN bs n ++ rowP bs n bs.length := by
  unfold lpsN
  rw [List.range_succ, List.flatMap_append]
  simp
theorem num_at {bs : List Bd} {i : Nat} {d : Dv} (h : (numbered (bs.map Bd.dv))[i]? = some d) : ∃ b, bs[i]? = some b ∧ d = .tup [.int i, b.dv] := by
  obtain ⟨x, h1, h2⟩ := nmb_at h
  rw [List.getElem?_map] at h1
  cases hb : bs[i]? with
  | none => rw [hb] at h1; cases h1
  | some b => rw [hb] at h1; cases h1; exact ⟨b, rfl, h2⟩
section
variable {P : Program} {w : World} {c : Cs} {μ : Mu} {Q : DV} {E : DX}
theorem m_late_pairs (k : Addr) (ms : List Str) (wt : Int) (bs : List Bd) (hk : MapAt c μ k ms wt bs) (hl : bs.length ≤ 30) (hs : ∀ b ∈ bs, 1 ≤ b.keys.cps.size ∧ b.keys.cps.size ≤ 6) (q : Q (.lst ((lps bs).map pairD)) μ) : sp_late_pairs P w c [.ref k] μ Q E := by
  have hz : 20000 < sizeLine := by decide
  have a0 : ∀ b : Bd, atI [Dv.str b.mode, .str b.keys, .str b.cmd, .str b.tgt] 0 = some (.str b.mode) := fun _ => rfl
  have a1 : ∀ b : Bd, atI [Dv.str b.mode, .str b.keys, .str b.cmd, .str b.tgt] 1 = some (.str b.keys) := fun _ => rfl
  simp [sp_late_pairs, T_late_pairs, N_late_pairs, dstart]
  intro p hp
  have MA : ∀ m, MapAt c (mset μ p m) k ms wt bs := fun m => by
    obtain ⟨dx, h⟩ := hk
    exact ⟨dx, by rw [mset_off (fun e => by rw [e, hp] at h; cases h)]; exact h⟩
  refine ⟨⟨_, _, (MA _).choose_spec⟩, ?_⟩
  refine m_map_bindings (MA _) ?_
  simp
  refine loop_inv _ (fun i δ μ' => (∃ l2 l3 l4 l5 : Option Dv, δ = [some (.ref k), some (.ref p), l2, l3, l4, l5]) ∧ μ' = mset μ p (.lst ((lpsN bs i).map pairD))) 0 ⟨⟨none, none, none, none, rfl⟩, rfl⟩ ?_ ?_
  · rintro i d δ μ' C hd ⟨⟨l2, l3, l4, l5, rfl⟩, rfl⟩ hC
    obtain ⟨b, hb, rfl⟩ := num_at hd
    have hi : i < bs.length := (List.getElem?_eq_some_iff.mp hb).1
    simp only [Nat.zero_add] at hC ⊢
    simp
    refine ⟨⟨_, _, (MA _).choose_spec⟩, ?_⟩
    refine m_map_bindings (MA _) ?_
    simp
    refine loop_inv _ (fun j δ μ' => (∃ l4 l5 : Option Dv, δ = [some (.ref k), some (.ref p), some (.int i), some b.dv, l4, l5]) ∧ μ' = mset μ p (.lst ((lpsN bs i ++ rowP bs i j).map pairD))) 0 ⟨⟨_, _, rfl⟩, by simp [rowP]⟩ ?_ ?_
    · rintro j d δ μ' C2 hd2 ⟨⟨l4, l5, rfl⟩, rfl⟩ hC2
      obtain ⟨o, ho, rfl⟩ := num_at hd2
      have hj : j < bs.length := (List.getElem?_eq_some_iff.mp ho).1
      simp only [Nat.zero_add] at hC2 ⊢
      have hsz : o.keys.length ≤ sizeLine := by
        have := hs o (List.mem_of_getElem? ho)
        show o.keys.cps.size ≤ sizeLine
        omega
      have hl1 := lpsN_len bs i
      have hl2 := rowP_len bs i j
      have hm : i * bs.length ≤ 30 * 30 := Nat.mul_le_mul (by omega) hl
      have hii : insAt bs i j = insd b o := by unfold insAt; rw [hb, ho]
      have hq := cln_eq 0 0 (.str b.mode) (.str o.mode) rfl rfl
      have hok : eqOk (.str b.mode) (.str o.mode) := cln_ok (n := 0) (m := 0) rfl rfl (by decide)
      simp [Bd.dv, a0, a1]
      refine ⟨hok, ?_⟩
      have none_ : insd b o = false → C2 [some (.ref k), some (.ref p), some (.int i), some b.dv, some (.int j), some o.dv] (mset μ p (.lst ((lpsN bs i ++ rowP bs i j).map pairD))) := fun e => by
        refine hC2 _ _ ⟨⟨_, _, rfl⟩, ?_⟩
        rw [rowP_succ, hii, e]
        simp
      by_cases hmo : b.mode = o.mode
      · have h1 : dEq (.str b.mode) (.str o.mode) = true := hq.mpr (by rw [hmo])
        rw [if_pos h1]
        refine ⟨hsz, ?_⟩
        by_cases hocc : Builtin.Str.occurrences (cutS o.keys none (some (-1))) b.keys 0 (cutS o.keys none (some (-1))).length 1 = []
        · rw [if_pos hocc]
          have e : insd b o = false := by unfold insd; rw [hocc]; simp
          simpa [Bd.dv] using none_ e
        · rw [if_neg hocc]
          have e : insd b o = true := by unfold insd; simp [hmo, hocc]
          refine ⟨by simp [tyD], by decide, by omega, ?_⟩
          refine hC2 _ _ ⟨⟨_, _, rfl⟩, ?_⟩
          rw [rowP_succ, hii, e]
          simp [pairD]
      · have h1 : ¬ dEq (.str b.mode) (.str o.mode) = true := fun h => hmo (by have := hq.mp h; injection this)
        rw [if_neg h1]
        have e : insd b o = false := by unfold insd; simp [hmo]
        simpa [Bd.dv] using none_ e
    · rintro δ μ' ⟨⟨l4, l5, rfl⟩, rfl⟩
      refine hC _ _ ⟨⟨_, _, _, _, rfl⟩, ?_⟩
      rw [lpsN_succ]
      simp [nmb_length]
  · rintro δ μ' ⟨⟨l2, l3, l4, l5, rfl⟩, rfl⟩
    have hn : 0 + (numbered (bs.map Bd.dv)).length = bs.length := by simp [nmb_length]
    rw [hn]
    simp
    rw [mdel_mset hp]
    exact q
end
end Lw

set_option Elab.async false
set_option linter.all false
set_option maxRecDepth 100000
namespace Lw
open PySem L2 Wl
/-! links: from a binding to the one just ahead of it -/
abbrev Asc := List (Nat × Nat)
def lget (L : Asc) (o : Nat) : Option Nat := (L.find? fun p => decide (p.1 = o)).map (·.2)
def lput (L : Asc) (o n : Nat) : Asc := if (L.any fun p => decide (p.1 = o)) = true then L.map (fun p => if p.1 = o then (p.1, n) else p) else L ++ [(o, n)]
def lkD (L : Asc) : List (Key × Dv) := L.map fun p => (.inl (p.1 : Int), .int p.2)
def trD (T : List Nat) : List (Key × Dv) := T.map fun (n : Nat) => (.inl (n : Int), .bl true)
theorem inl_eq {a b : Nat} : ((.inl (a : Int) : Key) = .inl (b : Int)) ↔ a = b := by
  constructor
  · intro h; injection h with h; exact Int.ofNat.inj h
  · rintro rfl; rfl
theorem val_lk (L : Asc) (o : Nat) : valD (lkD L) (.inl (o : Int)) = (lget L o).map fun (n : Nat) => Dv.int n := by
  induction L with
  | nil => rfl
  | cons p L ih =>
    obtain ⟨x, n⟩ := p
    have e : lkD ((x, n) :: L) = (.inl (x : Int), .int n) :: lkD L := rfl
    rw [e, valD_cons]
    by_cases h : x = o
    · rw [if_pos (inl_eq.mpr h)]; simp [lget, h]
    · rw [if_neg (fun q => h (inl_eq.mp q)), ih]; simp [lget, List.find?_cons, h]
theorem any_lk (L : Asc) (o : Nat) : ((lkD L).any fun kv => decide (kv.1 = .inl (o : Int))) = (L.any fun p => decide (p.1 = o)) := by
  induction L with
  | nil => rfl
  | cons p L ih =>
    have e : lkD (p :: L) = (.inl (p.1 : Int), .int p.2) :: lkD L := rfl
    rw [e, List.any_cons, List.any_cons, ih]
    congr 1
    exact decide_eq_decide.mpr inl_eq
theorem put_lk (L : Asc) (o n : Nat) : putD (lkD L) (.inl (o : Int)) (.int n) = lkD (lput L o n) := by
  unfold putD lput
  rw [any_lk]
  split
  · unfold lkD
    rw [List.map_map, List.map_map]
    refine List.map_congr_left fun p _ => ?_
    show (if (.inl (p.1 : Int) : Key) = .inl (o : Int) then _ else _) = _
    by_cases h : p.1 = o
    · rw [if_pos (inl_eq.mpr h)]; simp [h]
    · rw [if_neg (fun q => h (inl_eq.mp q))]; simp [h]
  · unfold lkD; rw [List.map_append]; rfl
theorem val_tr (T : List Nat) (o : Nat) : (valD (trD T) (.inl (o : Int))).isSome = decide (o ∈ T) := by
  induction T with
  | nil => simp [trD, valD_nil]
  | cons x T ih =>
    have e : trD (x :: T) = (.inl (x : Int), .bl true) :: trD T := rfl
    rw [e, valD_cons]
    by_cases h : x = o
    · rw [if_pos (inl_eq.mpr h)]; simp [h]
    · rw [if_neg (fun q => h (inl_eq.mp q)), ih]
      have : ¬ o = x := fun q => h q.symm
      simp [this]
theorem put_tr (T : List Nat) (o : Nat) (h : o ∉ T) : putD (trD T) (.inl (o : Int)) (.bl true) = trD (T ++ [o]) := by
  unfold putD
  have e : ((trD T).any fun kv => decide (kv.1 = .inl (o : Int))) = false := by
    rw [List.any_eq_false]
    intro kv hkv
    obtain ⟨x, hx, rfl⟩ := List.mem_map.mp hkv
    simp only [decide_eq_true_eq]
    exact fun q => h (inl_eq.mp q ▸ hx)
  rw [if_neg (by rw [e]; exact Bool.false_ne_true)]
  unfold trD; rw [List.map_append]; rfl
/-! the search, as it goes -/
abbrev Rs := Bool × Asc × List Nat
def lkL (rec : Nat → Asc → List Nat → Option Rs) (n : Nat) : List Nat → Asc → List Nat → Option Rs
  | [], L, T => some (false, L, T)
  | o :: os, L, T => if o ∈ T then lkL rec n os L T else match lget L o with
    | none => some (true, lput L o n, T ++ [o])
    | some n' => match rec n' L (T ++ [o]) with
      | none => none
      | some (true, L', T') => some (true, lput L' o n, T')
      | some (false, L', T') => lkL rec n os L' T'
def lk (g : Nat → List Nat) : Nat → Nat → Asc → List Nat → Option Rs
  | 0, _, _, _ => none
  | f + 1, n, L, T => lkL (lk g f) n (g n) L T
def NatD (l : List Nat) : List Dv := l.map fun (x : Nat) => .int x
/-- the dict of the lists of later ones, beside the two dicts that change -/
structure Late (μ : Mu) (pl lnk trd : Addr) (g : Nat → List Nat) : Prop where
  at_ : ∃ kvs, DAt μ pl kvs ∧ ∀ n : Nat, g n ≠ [] → ∃ r, valD kvs (.inl (n : Int)) = some (.ref r) ∧ r ≠ lnk ∧ r ≠ trd ∧ μ r = some (.lst (NatD (g n)))
  n1 : pl ≠ lnk
  n2 : pl ≠ trd
  n3 : lnk ≠ trd
def U (μ : Mu) (lnk trd : Addr) (L : Asc) (T : List Nat) : Mu := mset (mset μ lnk (.dK (lkD L))) trd (.dK (trD T))
section
variable {P : Program} {w : World} {c : Cs} {μ : Mu} {Q : DV} {E : DX} {pl lnk trd : Addr} {g : Nat → List Nat}
theorem U_trd {L : Asc} {T T' : List Nat} : mset (U μ lnk trd L T) trd (.dK (trD T')) = U μ lnk trd L T' := by unfold U; rw [mset_mset]
theorem U_lnk (h : lnk ≠ trd) {L L' : Asc} {T : List Nat} : mset (U μ lnk trd L T) lnk (.dK (lkD L')) = U μ lnk trd L' T := by
  unfold U; rw [mset_comm (fun e => h e.symm), mset_mset]
theorem U_at {b : Addr} {L : Asc} {T : List Nat} (h1 : b ≠ lnk) (h2 : b ≠ trd) : U μ lnk trd L T b = μ b := by
  unfold U; rw [mset_off h2, mset_off h1]
theorem U_l (h : lnk ≠ trd) {L : Asc} {T : List Nat} : U μ lnk trd L T lnk = some (.dK (lkD L)) := by unfold U; rw [mset_off h, mset_at]
theorem U_t {L : Asc} {T : List Nat} : U μ lnk trd L T trd = some (.dK (trD T)) := by unfold U; rw [mset_at]
theorem lget_key {L : Asc} {o n : Nat} (h : lget L o = some n) : (o, n) ∈ L := by
  unfold lget at h
  cases e : L.find? (fun p => decide (p.1 = o)) with
  | none => rw [e] at h; cases h
  | some p =>
    rw [e] at h
    cases h
    have h1 := List.find?_some e
    have h2 := List.mem_of_find?_eq_some e
    simp only [decide_eq_true_eq] at h1
    obtain ⟨x, y⟩ := p
    simp only at h1
    rw [← h1]; exact h2
theorem lput_mem {L : Asc} {o n : Nat} {p : Nat × Nat} (h : p ∈ lput L o n) : p = (o, n) ∨ p ∈ L := by
  unfold lput at h
  split at h
  · obtain ⟨q, hq, rfl⟩ := List.mem_map.mp h
    by_cases e : q.1 = o
    · rw [if_pos e]; exact .inl (by rw [e])
    · rw [if_neg e]; exact .inr hq
  · rcases List.mem_append.mp h with h | h
    · exact .inr h
    · exact .inl (List.mem_singleton.mp h)
theorem lput_len (L : Asc) (o n : Nat) : (lput L o n).length ≤ L.length + 1 := by
  unfold lput
  split
  · rw [List.length_map]; omega
  · rw [List.length_append]; simp
/-- links lead from what a pair has late to what it has ahead; one for each -/
def LOk (g : Nat → List Nat) (L : Asc) : Prop := (∀ p ∈ L, p.1 ∈ g p.2) ∧ (L.map (·.1)).Nodup
theorem LOk.nil (g : Nat → List Nat) : LOk g [] := ⟨fun p hp => (nomatch hp), List.nodup_nil⟩
theorem lput_keys (L : Asc) (o n : Nat) : (lput L o n).map (·.1) = if o ∈ L.map (·.1) then L.map (·.1) else L.map (·.1) ++ [o] := by
  unfold lput
  have e : (L.any fun p => decide (p.1 = o)) = decide (o ∈ L.map (·.1)) := by
    rw [Bool.eq_iff_iff, List.any_eq_true, decide_eq_true_eq, List.mem_map]
    simp
  rw [e]
  by_cases h : o ∈ L.map (·.1)
  · rw [if_pos (decide_eq_true h), if_pos h, List.map_map]
    refine List.map_congr_left fun p _ => ?_
    show (if p.1 = o then (p.1, n) else p).1 = p.1
    split <;> rfl
  · rw [if_neg (by rw [decide_eq_true_eq]; exact h), if_neg h, List.map_append]; rfl
theorem LOk.put {g : Nat → List Nat} {L : Asc} {o n : Nat} (h : LOk g L) (ho : o ∈ g n) : LOk g (lput L o n) := by
  refine ⟨fun p hp => ?_, ?_⟩
  · rcases lput_mem hp with rfl | hp
    · exact ho
    · exact h.1 p hp
  · rw [lput_keys]
    split
    · exact h.2
    · rename_i hn
      rw [List.nodup_append]
      exact ⟨h.2, by simp, fun a ha b hb => by rw [List.mem_singleton.mp hb]; exact fun e => hn (e ▸ ha)⟩
theorem few : ∀ (N : Nat) (T : List Nat), T.Nodup → (∀ t ∈ T, t < N) → T.length ≤ N
  | 0, T, _, h => by
    cases T with
    | nil => exact Nat.le_refl _
    | cons t T => exact absurd (h t List.mem_cons_self) (Nat.not_lt_zero _)
  | N + 1, T, hn, h => by
    have ih := few N (T.erase N) (hn.erase N) fun t ht => by
      have := (hn.mem_erase_iff).mp ht
      have h2 := h t this.2
      have h3 := this.1
      omega
    by_cases hm : N ∈ T
    · rw [List.length_erase_of_mem hm] at ih; omega
    · rw [List.erase_of_not_mem hm] at ih; omega
theorem lkL_ok (g : Nat → List Nat) (N f : Nat) (hg : ∀ n, ∀ o ∈ g n, o < N) (n : Nat) (rec : Nat → Asc → List Nat → Option Rs)
    (ih : ∀ n L T, LOk g L → T.Nodup → (∀ t ∈ T, t < N) → N < f + T.length → ∃ r : Rs, rec n L T = some r ∧ LOk g r.2.1 ∧ r.2.2.Nodup ∧ (∀ t ∈ r.2.2, t < N) ∧ T.length ≤ r.2.2.length ∧ r.2.1.length + T.length ≤ L.length + r.2.2.length) :
    ∀ (os : List Nat) (L : Asc) (T : List Nat), (∀ o ∈ os, o ∈ g n) → LOk g L → T.Nodup → (∀ t ∈ T, t < N) → N < f + 1 + T.length → ∃ r : Rs, lkL rec n os L T = some r ∧ LOk g r.2.1 ∧ r.2.2.Nodup ∧ (∀ t ∈ r.2.2, t < N) ∧ T.length ≤ r.2.2.length ∧ r.2.1.length + T.length ≤ L.length + r.2.2.length
  | [], L, T, _, hL, hT, hN, _ => ⟨_, rfl, hL, hT, hN, Nat.le_refl _, Nat.le_refl _⟩
  | o :: os, L, T, hos, hL, hT, hN, hf => by
    have hos' : ∀ o ∈ os, o ∈ g n := fun x hx => hos x (List.mem_cons_of_mem _ hx)
    have ho := hos o List.mem_cons_self
    unfold lkL
    by_cases h : o ∈ T
    · rw [if_pos h]; exact lkL_ok g N f hg n rec ih os L T hos' hL hT hN hf
    · rw [if_neg h]
      have hT1 : (T ++ [o]).Nodup := by
        rw [List.nodup_append]
        exact ⟨hT, by simp, fun a ha b hb => by rw [List.mem_singleton.mp hb]; exact fun e => h (e ▸ ha)⟩
      have hN1 : ∀ t ∈ T ++ [o], t < N := fun t ht => by
        rcases List.mem_append.mp ht with ht | ht
        · exact hN t ht
        · rw [List.mem_singleton.mp ht]; exact hg n o ho
      have hl1 : (T ++ [o]).length = T.length + 1 := by simp
      cases e : lget L o with
      | none =>
        have := lput_len L o n
        exact ⟨_, rfl, hL.put ho, hT1, hN1, by show T.length ≤ (T ++ [o]).length; omega, by show (lput L o n).length + T.length ≤ L.length + (T ++ [o]).length; omega⟩
      | some n' =>
        obtain ⟨r, hr, k1, k2, k3, k4, k5⟩ := ih n' L (T ++ [o]) hL hT1 hN1 (by omega)
        obtain ⟨b, L', T'⟩ := r
        simp only [hr]
        cases b with
        | true =>
          have := lput_len L' o n
          simp only at k4 k5
          exact ⟨_, rfl, k1.put ho, k2, k3, by show T.length ≤ T'.length; omega, by show (lput L' o n).length + T.length ≤ L.length + T'.length; omega⟩
        | false =>
          simp only at k4 k5
          obtain ⟨r2, h2, j1, j2, j3, j4, j5⟩ := lkL_ok g N f hg n rec ih os L' T' hos' k1 k2 k3 (by omega)
          exact ⟨r2, h2, j1, j2, j3, by omega, by omega⟩
/-- what a search leaves -/
theorem lk_ok (g : Nat → List Nat) (N : Nat) (hg : ∀ n, ∀ o ∈ g n, o < N) : ∀ (f n : Nat) (L : Asc) (T : List Nat), LOk g L → T.Nodup → (∀ t ∈ T, t < N) → N < f + T.length → ∃ r : Rs, lk g f n L T = some r ∧ LOk g r.2.1 ∧ r.2.2.Nodup ∧ (∀ t ∈ r.2.2, t < N) ∧ T.length ≤ r.2.2.length ∧ r.2.1.length + T.length ≤ L.length + r.2.2.length
  | 0, n, L, T, hL, hT, hN, hf => by
    have := few N T hT hN
    omega
  | f + 1, n, L, T, hL, hT, hN, hf => lkL_ok g N f hg n (lk g f) (fun n L T a b c d => lk_ok g N hg f n L T a b c d) (g n) L T (fun _ h => h) hL hT hN hf
end
end Lw
namespace Lw
open PySem L2 Wl
theorem LOk.len {g : Nat → List Nat} {L : Asc} {N : Nat} (hg : ∀ n, ∀ o ∈ g n, o < N) (h : LOk g L) : L.length ≤ N := by
  have := few N (L.map (·.1)) h.2 fun t ht => by
    obtain ⟨p, hp, rfl⟩ := List.mem_map.mp ht
    exact hg _ _ (h.1 p hp)
  rwa [List.length_map] at this
end Lw

set_option Elab.async false
set_option linter.all false
set_option maxRecDepth 100000
namespace Lw
open PySem L2 Wl
section
variable {P : Program} {w : World} {c : Cs} {μ : Mu} {Q : DV} {E : DX} {pl lnk trd : Addr} {g : Nat → List Nat}
theorem Late.get {L : Asc} {T : List Nat} (h : Late μ pl lnk trd g) {n : Nat} (hn : g n ≠ []) : ∃ kvs r, DAt (U μ lnk trd L T) pl kvs ∧ valD kvs (.inl (n : Int)) = some (.ref r) ∧ ∀ L' T', U μ lnk trd L' T' r = some (.lst (NatD (g n))) := by
  obtain ⟨kvs, h1, h2⟩ := h.at_
  obtain ⟨r, k1, k2, k3, k4⟩ := h2 n hn
  refine ⟨kvs, r, ?_, k1, fun L' T' => by rw [U_at k2 k3]; exact k4⟩
  unfold DAt
  rw [U_at h.n1 h.n2]
  exact h1
theorem m_linkL (N f : Nat) (hN : N ≤ 30) (hg : ∀ n, ∀ o ∈ g n, o < N) (hLt : Late μ pl lnk trd g) (n : Nat) (hn : g n ≠ []) (sp : Sp2) (rec : Nat → Asc → List Nat → Option Rs)
    (ok : ∀ n L T, LOk g L → T.Nodup → (∀ t ∈ T, t < N) → L.length ≤ N + T.length → ∀ r : Rs, rec n L T = some r → LOk g r.2.1 ∧ r.2.2.Nodup ∧ (∀ t ∈ r.2.2, t < N) ∧ r.2.1.length + T.length ≤ L.length + r.2.2.length)
    (ih : ∀ n L T, LOk g L → T.Nodup → (∀ t ∈ T, t < N) → L.length ≤ N + T.length → g n ≠ [] → ∀ r : Rs, rec n L T = some r → ∀ {Q : DV} {E : DX}, Q (.bl r.1) (U μ lnk trd r.2.1 r.2.2) → sp [.ref pl, .int n, .ref lnk, .ref trd] (U μ lnk trd L T) Q E)
    (G : Mu → Prop) (hG : ∀ L T, G (U μ lnk trd L T)) {D : DEnds} (E2 : DXS) :
    ∀ (os : List Nat) (L : Asc) (T : List Nat) (l4 : Option Dv), (∀ o ∈ os, o ∈ g n) → LOk g L → T.Nodup → (∀ t ∈ T, t < N) → L.length ≤ N + T.length → ∀ r : Rs, lkL rec n os L T = some r →
      (∀ l4, r.1 = false → D.nx [some (.ref pl), some (.int n), some (.ref lnk), some (.ref trd), l4] (U μ lnk trd r.2.1 r.2.2)) → (r.1 = true → D.rt (.bl true) (U μ lnk trd r.2.1 r.2.2)) →
      sLoopG G (dName 4) (sIf (vTest (vDNotIn (vV 4) (vV 3))) (sSeq (sDPutV (vV 3) (vV 4) (vC (.bl true)))
        (sIf (vOr (vTest (vDNotIn (vV 4) (vV 2))) (vTru (vCall sp [] E2 (vCons (vV 0) (vCons (vDGet (vV 2) (vV 4)) (vCons (vV 2) (vCons (vV 3) (vNil)))))))) (sSeq (sDPutV (vV 2) (vV 4) (vV 1))
          (sRet (vC (.bl true)))) (sNext))) (sNext)) (NatD os) D [some (.ref pl), some (.int n), some (.ref lnk), some (.ref trd), l4] (U μ lnk trd L T)
  | [], L, T, l4, _, _, _, _, _, r, hr, h1, _ => by
    cases hr
    exact ⟨hG _ _, h1 _ rfl⟩
  | o :: os, L, T, l4, hos, hL, hT, hNT, hlen, r, hr, h1, h2 => by
    have hz : 20000 < sizeLine := by decide
    have n3 := hLt.n3
    have hos' : ∀ o ∈ os, o ∈ g n := fun x hx => hos x (List.mem_cons_of_mem _ hx)
    have ho := hos o List.mem_cons_self
    have IH := m_linkL N f hN hg hLt n hn sp rec ok ih G hG (D := D) E2 os
    have hTl := few N T hT hNT
    have e4 : NatD (o :: os) = .int (o : Nat) :: NatD os := rfl
    rw [e4]
    refine ⟨hG _ _, ?_⟩
    unfold lkL at hr
    simp
    rw [nno_I (.inl U_t), val_tr]
    simp
    by_cases h : o ∈ T
    · rw [if_pos h] at hr
      rw [if_pos h]
      exact IH L T _ hos' hL hT hNT hlen r hr h1 h2
    · rw [if_neg h] at hr
      rw [if_neg h]
      have hT1 : (T ++ [o]).Nodup := by
        rw [List.nodup_append]
        exact ⟨hT, by simp, fun a ha b hb => by rw [List.mem_singleton.mp hb]; exact fun e => h (e ▸ ha)⟩
      have hN1 : ∀ t ∈ T ++ [o], t < N := fun t ht => by
        rcases List.mem_append.mp ht with ht | ht
        · exact hNT t ht
        · rw [List.mem_singleton.mp ht]; exact hg n o ho
      have hl1 : (T ++ [o]).length = T.length + 1 := by simp
      have htl : (trD T).length < sizeLine := by unfold trD; rw [List.length_map]; omega
      rw [store_I U_t htl, put_tr T o h, U_trd]
      rw [nno_I (.inl (U_l n3)), val_lk]
      cases e : lget L o with
      | none =>
        simp only [e] at hr
        cases hr
        simp
        have hll : (lkD L).length < sizeLine := by unfold lkD; rw [List.length_map]; omega
        rw [store_I (U_l n3) hll, put_lk, U_lnk n3]
        exact h2 rfl
      | some n' =>
        simp only [e] at hr
        simp
        have hgn : g n' ≠ [] := fun q => by
          have := hL.1 _ (lget_key e)
          rw [q] at this; cases this
        rw [dgt_I (.inl (U_l n3)) (by rw [val_lk, e]; rfl)]
        cases hrec : rec n' L (T ++ [o]) with
        | none => simp only [hrec] at hr; cases hr
        | some r1 =>
          obtain ⟨k1, k2, k3, k4⟩ := ok n' L (T ++ [o]) hL hT1 hN1 (by omega) r1 hrec
          have hTl1 := few N r1.2.2 k2 k3
          refine ih n' L (T ++ [o]) hL hT1 hN1 (by omega) hgn r1 hrec ?_
          obtain ⟨b, L', T'⟩ := r1
          simp only [hrec] at hr
          simp only at k1 k2 k3 k4 hTl1
          cases b with
          | true =>
            simp only at hr
            cases hr
            simp
            have hll : (lkD L').length < sizeLine := by unfold lkD; rw [List.length_map]; omega
            rw [store_I (U_l n3) hll, put_lk, U_lnk n3]
            exact h2 rfl
          | false =>
            simp only at hr
            simp
            exact IH L' T' _ hos' k1 k2 k3 (by omega) r hr h1 h2
end
end Lw

set_option Elab.async false
set_option linter.all false
set_option maxRecDepth 100000
namespace Lw
open PySem L2 Wl
/-- a search that ends leaves what it must, however much fuel it has -/
theorem lkL_keeps (g : Nat → List Nat) (N : Nat) (hg : ∀ n, ∀ o ∈ g n, o < N) (n : Nat) (rec : Nat → Asc → List Nat → Option Rs)
    (ih : ∀ n L T, LOk g L → T.Nodup → (∀ t ∈ T, t < N) → ∀ r : Rs, rec n L T = some r → LOk g r.2.1 ∧ r.2.2.Nodup ∧ (∀ t ∈ r.2.2, t < N) ∧ r.2.1.length + T.length ≤ L.length + r.2.2.length) :
    ∀ (os : List Nat) (L : Asc) (T : List Nat), (∀ o ∈ os, o ∈ g n) → LOk g L → T.Nodup → (∀ t ∈ T, t < N) → ∀ r : Rs, lkL rec n os L T = some r → LOk g r.2.1 ∧ r.2.2.Nodup ∧ (∀ t ∈ r.2.2, t < N) ∧ r.2.1.length + T.length ≤ L.length + r.2.2.length
  | [], L, T, _, hL, hT, hN, r, hr => by cases hr; exact ⟨hL, hT, hN, Nat.le_refl _⟩
  | o :: os, L, T, hos, hL, hT, hN, r, hr => by
    have hos' : ∀ o ∈ os, o ∈ g n := fun x hx => hos x (List.mem_cons_of_mem _ hx)
    have ho := hos o List.mem_cons_self
    unfold lkL at hr
    by_cases h : o ∈ T
    · rw [if_pos h] at hr; exact lkL_keeps g N hg n rec ih os L T hos' hL hT hN r hr
    · rw [if_neg h] at hr
      have hT1 : (T ++ [o]).Nodup := by
        rw [List.nodup_append]
        exact ⟨hT, by simp, fun a ha b hb => by rw [List.mem_singleton.mp hb]; exact fun e => h (e ▸ ha)⟩
      have hN1 : ∀ t ∈ T ++ [o], t < N := fun t ht => by
        rcases List.mem_append.mp ht with ht | ht
        · exact hN t ht
        · rw [List.mem_singleton.mp ht]; exact hg n o ho
      have hl1 : (T ++ [o]).length = T.length + 1 := by simp
      cases e : lget L o with
      | none =>
        simp only [e] at hr
        cases hr
        have := lput_len L o n
        exact ⟨hL.put ho, hT1, hN1, by show (lput L o n).length + T.length ≤ L.length + (T ++ [o]).length; omega⟩
      | some n' =>
        simp only [e] at hr
        cases hrec : rec n' L (T ++ [o]) with
        | none => simp only [hrec] at hr; cases hr
        | some r1 =>
          obtain ⟨k1, k2, k3, k5⟩ := ih n' L (T ++ [o]) hL hT1 hN1 r1 hrec
          obtain ⟨b, L', T'⟩ := r1
          simp only [hrec] at hr
          simp only at k1 k2 k3 k5
          cases b with
          | true =>
            simp only at hr
            cases hr
            have := lput_len L' o n
            exact ⟨k1.put ho, k2, k3, by show (lput L' o n).length + T.length ≤ L.length + T'.length; omega⟩
          | false =>
            simp only at hr
            obtain ⟨j1, j2, j3, j5⟩ := lkL_keeps g N hg n rec ih os L' T' hos' k1 k2 k3 r hr
            exact ⟨j1, j2, j3, by omega⟩
theorem lk_keeps (g : Nat → List Nat) (N : Nat) (hg : ∀ n, ∀ o ∈ g n, o < N) : ∀ (f n : Nat) (L : Asc) (T : List Nat), LOk g L → T.Nodup → (∀ t ∈ T, t < N) → ∀ r : Rs, lk g f n L T = some r → LOk g r.2.1 ∧ r.2.2.Nodup ∧ (∀ t ∈ r.2.2, t < N) ∧ r.2.1.length + T.length ≤ L.length + r.2.2.length
  | 0, _, _, _, _, _, _, r, hr => by cases hr
  | f + 1, n, L, T, hL, hT, hN, r, hr => lkL_keeps g N hg n (lk g f) (fun n L T a b d r e => lk_keeps g N hg f n L T a b d r e) (g n) L T (fun _ h => h) hL hT hN r hr
section
variable {P : Program} {w : World} {c : Cs} {μ : Mu} {pl lnk trd : Addr} {g : Nat → List Nat}
theorem m_link (N : Nat) (hN : N ≤ 30) (hg : ∀ n, ∀ o ∈ g n, o < N) (hLt : Late μ pl lnk trd g) : ∀ (f k n : Nat) (L : Asc) (T : List Nat), f ≤ k → g n ≠ [] → LOk g L → T.Nodup → (∀ t ∈ T, t < N) → L.length ≤ N + T.length → ∀ r : Rs, lk g f n L T = some r →
    ∀ {Q : DV} {E : DX}, Q (.bl r.1) (U μ lnk trd r.2.1 r.2.2) → spn_link P w c k 0 [.ref pl, .int n, .ref lnk, .ref trd] (U μ lnk trd L T) Q E
  | 0, _, _, _, _, _, _, _, _, _, _, r, hr => by cases hr
  | f + 1, 0, _, _, _, hf, _, _, _, _, _, _, _ => absurd hf (Nat.not_succ_le_zero _)
  | f + 1, k + 1, n, L, T, hf, hn, hL, hT, hNT, hlen, r, hr => fun q => by
    obtain ⟨kvs, rr, h1, h2, h3⟩ := hLt.get (L := L) (T := T) hn
    show spOf 4 N_link (T_link P w c (spn_link P w c k 0)) _ _ _ _
    simp only [sp_Of, T_link, N_link, dstart]
    refine ⟨rfl, ?_⟩
    rw [s_Seq, s_ForG, w_Any, d_Get]
    refine ⟨_, rfl, _, rfl, ?_⟩
    dsimp only
    rw [dgt_I h1 h2, wan_ref]
    refine ⟨_, h3 L T, ?_⟩
    refine m_linkL N f hN hg hLt n hn (spn_link P w c k 0) (lk g f) (fun n L T a b d _ r e => lk_keeps g N hg f n L T a b d r e) (fun n L T a b d e1 e2 r e3 Q E q => m_link N hN hg hLt f k n L T (by omega) e2 a b d e1 r e3 q) _ (fun L T => h3 L T) _ (g n) L T _ (fun _ h => h) hL hT hNT hlen r hr (fun l4 hb => ?_) (fun hb => ?_)
    · rw [hb] at q; exact q
    · rw [hb] at q; exact q
end
end Lw

set_option Elab.async false
set_option linter.all false
set_option maxRecDepth 100000
namespace Lw
open PySem L2 Wl
def gof (ps : List (Nat × Nat)) (n : Nat) : List Nat := (ps.filter fun p => decide (p.1 = n)).map (·.2)
def addK (ks : List Nat) (n : Nat) : List Nat := if n ∈ ks then ks else ks ++ [n]
def keysF (ps : List (Nat × Nat)) : List Nat := ps.foldl (fun ks p => addK ks p.1) []
theorem keysF_snoc (ps : List (Nat × Nat)) (p : Nat × Nat) : keysF (ps ++ [p]) = addK (keysF ps) p.1 := by
  unfold keysF; rw [List.foldl_append]; rfl
theorem gof_snoc (ps : List (Nat × Nat)) (p : Nat × Nat) (n : Nat) : gof (ps ++ [p]) n = if p.1 = n then gof ps n ++ [p.2] else gof ps n := by
  unfold gof
  rw [List.filter_append, List.map_append]
  by_cases h : p.1 = n
  · rw [if_pos h]; simp [h]
  · rw [if_neg h]; simp [h]
theorem addK_len (ks : List Nat) (n : Nat) : (addK ks n).length ≤ ks.length + 1 := by
  unfold addK; split
  · omega
  · simp
/-- the links of all, one after another -/
def flk (g : Nat → List Nat) (ks : List Nat) : Asc := ks.foldl (fun L n => match lk g 31 n L [] with | some r => r.2.1 | none => L) []
def fls (ps : List (Nat × Nat)) : Asc := flk (gof ps) (keysF ps)
theorem val_refs (ρ : Nat → Addr) : ∀ (ks : List Nat) (n : Nat), valD (ks.map fun (m : Nat) => ((.inl (m : Int) : Key), Dv.ref (ρ m))) (.inl (n : Int)) = if n ∈ ks then some (.ref (ρ n)) else none
  | [], n => by simp [valD_nil]
  | m :: ks, n => by
    rw [List.map_cons, valD_cons, val_refs ρ ks n]
    by_cases h : m = n
    · subst h; simp
    · rw [if_neg (fun q => h (inl_eq.mp q))]
      have h2 : ¬ n = m := fun q => h q.symm
      simp [h2]
theorem put_refs (ρ : Nat → Addr) (ks : List Nat) (n : Nat) (r : Addr) (h : n ∉ ks) : putD (ks.map fun (m : Nat) => ((.inl (m : Int) : Key), Dv.ref (ρ m))) (.inl (n : Int)) (.ref r) = (ks ++ [n]).map fun (m : Nat) => ((.inl (m : Int) : Key), Dv.ref (if m = n then r else ρ m)) := by
  unfold putD
  have e : ((ks.map fun (m : Nat) => ((.inl (m : Int) : Key), Dv.ref (ρ m))).any fun kv => decide (kv.1 = .inl (n : Int))) = false := by
    rw [List.any_eq_false]
    intro kv hkv
    obtain ⟨x, hx, rfl⟩ := List.mem_map.mp hkv
    simp only [decide_eq_true_eq]
    exact fun q => h ((inl_eq (a := x) (b := n)).mp q ▸ hx)
  rw [if_neg (by rw [e]; exact Bool.false_ne_true), List.map_append]
  congr 1
  · refine List.map_congr_left fun m hm => ?_
    rw [if_neg (show ¬ m = n from fun q => h (q ▸ hm))]
  · simp
theorem mset_id {μ : Mu} {a : Addr} {m : Mo} (h : μ a = some m) : mset μ a m = μ := by
  funext b
  unfold mset
  by_cases e : b = a
  · rw [if_pos e, e, h]
  · rw [if_neg e]
/-- the dict of lists as it grows, beside all that stood -/
structure LateAt (μ0 μ : Mu) (pl : Addr) (ps : List (Nat × Nat)) (ρ : Nat → Addr) : Prop where
  gr : Gr μ0 μ
  new : μ0 pl = none
  dict : μ pl = some (.dK ((keysF ps).map fun (n : Nat) => ((.inl (n : Int) : Key), Dv.ref (ρ n))))
  at_ : ∀ n ∈ keysF ps, μ (ρ n) = some (.lst (NatD (gof ps n))) ∧ μ0 (ρ n) = none
  inj : ∀ n ∈ keysF ps, ∀ m ∈ keysF ps, ρ n = ρ m → n = m
  out : ∀ n, n ∉ keysF ps → gof ps n = []
  ne : ∀ n ∈ keysF ps, gof ps n ≠ []
  len : (keysF ps).length ≤ ps.length
section
variable {P : Program} {w : World} {c : Cs} {μ : Mu} {Q : DV} {E : DX}
theorem gof_len (ps : List (Nat × Nat)) (n : Nat) : (gof ps n).length ≤ ps.length := by
  unfold gof; rw [List.length_map]; exact List.length_filter_le _ _
theorem late_step {μ0 μ : Mu} {pl : Addr} {ps : List (Nat × Nat)} {ρ : Nat → Addr} {p : Nat × Nat} (h : LateAt μ0 μ pl ps ρ) (hp : ps.length ≤ 1000) {QS : Mu → Prop} {z : Addr} (hz : μ z = none) (q : ∀ ρ' μ', LateAt μ0 μ' pl (ps ++ [p]) ρ' → QS μ') :
    ∃ kvs k, keyD (Dv.int (p.1 : Nat)) = some k ∧ (mset μ z (.lst [])) pl = some (.dK kvs) ∧ kvs.length < sizeLine ∧ (match valD kvs k with
      | some v => (∃ r, v = .ref r ∧ ∃ xs, (mset μ z (.lst [])) r = some (.lst xs) ∧ xs.length < sizeLine ∧ QS (mset (mset μ z (.lst [])) r (.lst (xs ++ [.int (p.2 : Nat)]))))
      | none => (mset (mset μ z (.lst [])) pl (.dK (putD kvs k (.ref z)))) z = some (.lst []) ∧ QS (mset (mset (mset μ z (.lst [])) pl (.dK (putD kvs k (.ref z)))) z (.lst [.int (p.2 : Nat)]))) := by
  have hzz : 20000 < sizeLine := by decide
  have hzp : pl ≠ z := fun e => by rw [← e, h.dict] at hz; cases hz
  have h0z : μ0 z = none := by
    cases e : μ0 z with
    | none => rfl
    | some m => rw [h.gr _ _ e] at hz; cases hz
  have hlen := h.len
  refine ⟨_, .inl (p.1 : Int), rfl, by rw [mset_off hzp]; exact h.dict, by rw [List.length_map]; omega, ?_⟩
  rw [val_refs]
  by_cases hk : p.1 ∈ keysF ps
  · rw [if_pos hk]
    obtain ⟨h1, h2⟩ := h.at_ _ hk
    have hrz : ρ p.1 ≠ z := fun e => by rw [← e, h1] at hz; cases hz
    have hrp : ρ p.1 ≠ pl := fun e => by rw [e, h.dict] at h1; cases h1
    have hl := gof_len ps p.1
    have ek : keysF (ps ++ [p]) = keysF ps := by rw [keysF_snoc]; unfold addK; rw [if_pos hk]
    refine ⟨_, rfl, NatD (gof ps p.1), by rw [mset_off hrz]; exact h1, by unfold NatD; rw [List.length_map]; omega, ?_⟩
    refine q ρ _ ⟨fun b m e => ?_, h.new, ?_, fun n hn => ?_, ?_, fun n hn => ?_, fun n hn => ?_, ?_⟩
    · have h1' : b ≠ ρ p.1 := fun q => by rw [q, h2] at e; cases e
      have h2' : b ≠ z := fun q => by rw [q, h0z] at e; cases e
      rw [mset_off h1', mset_off h2']; exact h.gr _ _ e
    · rw [ek, mset_off hrp.symm, mset_off hzp]; exact h.dict
    · rw [ek] at hn
      obtain ⟨k1, k2⟩ := h.at_ n hn
      refine ⟨?_, k2⟩
      rw [gof_snoc]
      by_cases e : p.1 = n
      · subst e
        rw [if_pos rfl, mset_at]
        unfold NatD; rw [List.map_append]; rfl
      · rw [if_neg e, mset_off (fun q => e (h.inj _ hn _ hk q).symm), mset_off (fun q => by rw [q, hz] at k1; cases k1)]
        exact k1
    · rw [ek]; exact h.inj
    · rw [ek] at hn
      rw [gof_snoc, if_neg (show ¬ p.1 = n from fun e => hn (e ▸ hk))]
      exact h.out n hn
    · rw [ek] at hn
      rw [gof_snoc]
      split
      · simp
      · exact h.ne n hn
    · rw [ek, List.length_append]; have := h.len; simp; omega
  · rw [if_neg hk]
    have ek : keysF (ps ++ [p]) = keysF ps ++ [p.1] := by rw [keysF_snoc]; unfold addK; rw [if_neg hk]
    refine ⟨by rw [mset_off hzp.symm, mset_at], ?_⟩
    have old : ∀ n ∈ keysF ps, n ≠ p.1 := fun n hn e => hk (e ▸ hn)
    have rz : ∀ n ∈ keysF ps, ρ n ≠ z := fun n hn e => by have := (h.at_ n hn).1; rw [e, hz] at this; cases this
    have rp : ∀ n ∈ keysF ps, ρ n ≠ pl := fun n hn e => by have := (h.at_ n hn).1; rw [e, h.dict] at this; cases this
    refine q (fun n => if n = p.1 then z else ρ n) _ ⟨fun b m e => ?_, h.new, ?_, fun n hn => ?_, fun n hn m hm e => ?_, fun n hn => ?_, fun n hn => ?_, ?_⟩
    · have h1' : b ≠ pl := fun q => by rw [q, h.new] at e; cases e
      have h2' : b ≠ z := fun q => by rw [q, h0z] at e; cases e
      rw [mset_off h2', mset_off h1', mset_off h2']; exact h.gr _ _ e
    · rw [mset_off hzp, mset_at, put_refs ρ _ _ _ hk, ek]
    · rw [ek] at hn
      rcases List.mem_append.mp hn with hn | hn
      · obtain ⟨k1, k2⟩ := h.at_ n hn
        rw [if_neg (old n hn), gof_snoc, if_neg (fun e => old n hn e.symm), mset_off (rz n hn), mset_off (rp n hn), mset_off (rz n hn)]
        exact ⟨k1, k2⟩
      · have e := List.mem_singleton.mp hn
        subst e
        rw [if_pos rfl, mset_at, gof_snoc, if_pos rfl, h.out _ hk]
        exact ⟨rfl, h0z⟩
    · rw [ek] at hn hm
      rcases List.mem_append.mp hn with hn | hn <;> rcases List.mem_append.mp hm with hm | hm
      · simp only [if_neg (old n hn), if_neg (old m hm)] at e; exact h.inj n hn m hm e
      · have := List.mem_singleton.mp hm
        subst this
        simp only [if_neg (old n hn), if_true] at e
        exact absurd e (rz n hn)
      · have := List.mem_singleton.mp hn
        subst this
        simp only [if_neg (old m hm), if_true] at e
        exact absurd e.symm (rz m hm)
      · rw [List.mem_singleton.mp hn, List.mem_singleton.mp hm]
    · rw [ek] at hn
      have h1 : n ∉ keysF ps := fun e => hn (List.mem_append.mpr (.inl e))
      have h2 : ¬ p.1 = n := fun e => hn (List.mem_append.mpr (.inr (by rw [e]; exact List.mem_singleton_self _)))
      rw [gof_snoc, if_neg h2]; exact h.out n h1
    · rw [ek] at hn
      rw [gof_snoc]
      rcases List.mem_append.mp hn with hn | hn
      · rw [if_neg (fun e => old n hn e.symm)]; exact h.ne n hn
      · rw [if_pos (List.mem_singleton.mp hn).symm]; simp
    · rw [ek, List.length_append, List.length_append]; have := h.len; simp; omega
end
end Lw

set_option Elab.async false
set_option linter.all false
set_option maxRecDepth 100000
namespace Wl
open PySem L2
section
variable {δ : DSt} {μ : Mu} {Q : DV} {D : DEnds}
def sdf (ty tx : DE) (δ : DSt) (x : Dv) (μ1 : Mu) (Q : DV) : Prop := match x with
  | .ref a => (match μ1 a with | some (.dK _) => True | _ => False) ∧ ty δ μ1 fun y μ2 => tx δ μ2 fun z μ3 => ∃ kvs k, keyD y = some k ∧ μ3 a = some (.dK kvs) ∧ kvs.length < sizeLine ∧
      (match valD kvs k with | some v => Q v μ3 | none => Q z (mset μ3 a (.dK (putD kvs k z))))
  | _ => False
@[simp] theorem e_Setd {td ty tx : DE} : vSetd td ty tx δ μ Q ↔ td δ μ fun x μ1 => sdf ty tx δ x μ1 Q := Iff.rfl
theorem sdf_ref {ty tx : DE} {a : Addr} : sdf ty tx δ (.ref a) μ Q ↔ (match μ a with | some (.dK _) => True | _ => False) ∧ ty δ μ fun y μ2 => tx δ μ2 fun z μ3 => ∃ kvs k, keyD y = some k ∧ μ3 a = some (.dK kvs) ∧ kvs.length < sizeLine ∧
      (match valD kvs k with | some v => Q v μ3 | none => Q z (mset μ3 a (.dK (putD kvs k z)))) := Iff.rfl
theorem s_ForK {td : DE} {g : DG} {tb : DS} : sForK td g tb D δ μ ↔ ∃ a kvs, μ a = some (.dK kvs) ∧ ∀ od ws, td δ (mset μ a (.fdK od kvs ws)) fun x μ1 => x = .ref a ∧ sLoopG (fun μ => μ a = some (.fdK od kvs ws)) g tb (kvs.map fun kv => kD kv.1)
  { nx := fun δ' μ' => μ' a = some (.fdK od kvs ws) ∧ D.nx δ' (mset μ' a (.dK kvs)), rt := fun v μ' => μ' a = some (.fdK od kvs ws) ∧ D.rt v (mset μ' a (.dK kvs)) } δ μ1 := Iff.rfl
end
end Wl
namespace Lw
open PySem L2 Wl
section
variable {P : Program} {w : World} {c : Cs} {μ : Mu} {Q : DV} {E : DX}
theorem flk_ok {g : Nat → List Nat} (hg : ∀ n, ∀ o ∈ g n, o < 30) : ∀ (ks : List Nat) (L : Asc), LOk g L → LOk g (ks.foldl (fun L n => match lk g 31 n L [] with | some r => r.2.1 | none => L) L)
  | [], L, h => h
  | n :: ks, L, h => by
    obtain ⟨r, hr, k1, _⟩ := lk_ok g 30 hg 31 n L [] h List.nodup_nil (fun t ht => (nomatch ht)) (by simp)
    rw [List.foldl_cons, hr]
    exact flk_ok hg ks _ k1
theorem m_find_links (ps : List (Nat × Nat)) (hl : ps.length ≤ 1000) (hps : ∀ p ∈ ps, p.2 < 30) (q : ∀ a μ', Gr μ μ' → μ' a = some (.dK (lkD (fls ps))) → Q (.ref a) μ') : sp_find_links P w c [.lst (ps.map pairD)] μ Q E := by
  have hz : 20000 < sizeLine := by decide
  simp [sp_find_links, T_find_links, N_find_links, dstart]
  intro pl hpl
  refine loop_inv _ (fun i δ μ' => (∃ l2 l3 l4 : Option Dv, δ = [some (.lst (ps.map pairD)), some (.ref pl), l2, l3, l4]) ∧ ∃ ρ, LateAt μ μ' pl (ps.take i) ρ) 0
    ⟨⟨none, none, none, rfl⟩, fun _ => pl, ⟨Gr.new hpl, hpl, by rw [mset_at]; rfl, fun n hn => (nomatch hn), fun n hn => (nomatch hn), fun n _ => rfl, fun n hn => (nomatch hn), by simp [keysF]⟩⟩ ?_ ?_
  · rintro i d δ μ' C hd ⟨⟨l2, l3, l4, rfl⟩, ρ, hLA⟩ hC
    rw [List.getElem?_map] at hd
    cases hm : ps[i]? with
    | none => rw [hm] at hd; cases hd
    | some p =>
      rw [hm] at hd
      cases hd
      have hi : i < ps.length := (List.getElem?_eq_some_iff.mp hm).1
      simp only [Nat.zero_add] at hLA hC ⊢
      have etk : ps.take (i + 1) = ps.take i ++ [p] := by rw [List.take_add_one, hm]; rfl
      simp [pairD]
      rw [sdf_ref, hLA.dict]
      refine ⟨trivial, ?_⟩
      simp
      intro z hz0
      obtain ⟨kvs, k, e1, e2, e3, e4⟩ := late_step (p := p) hLA (by rw [List.length_take]; omega) hz0 (QS := fun μ2 => C [some (.lst (ps.map pairD)), some (.ref pl), some (.int p.1), some (.int p.2), l4] μ2) (fun ρ' μ2 h2 => hC _ _ ⟨⟨_, _, _, rfl⟩, ρ', by rw [etk]; exact h2⟩)
      refine ⟨kvs, k, e1, e2, e3, ?_⟩
      cases hv : valD kvs k with
      | some v =>
        simp only [hv] at e4 ⊢
        obtain ⟨r, rfl, xs, f1, f2, f3⟩ := e4
        exact ⟨(ty_ref f1).mpr rfl, xs, f1, f2, f3⟩
      | none =>
        simp only [hv] at e4 ⊢
        obtain ⟨f1, f2⟩ := e4
        exact ⟨(ty_ref f1).mpr rfl, [], f1, by rw [List.length_nil]; omega, f2⟩
  · rintro δ μ' ⟨⟨l2, l3, l4, rfl⟩, ρ, hLA⟩
    have hn : 0 + (ps.map pairD).length = ps.length := by simp
    rw [hn, List.take_length] at hLA
    simp
    intro lnk hlnk
    have hg : ∀ n, ∀ o ∈ gof ps n, o < 30 := fun n o ho => by
      unfold gof at ho
      obtain ⟨p, hp, rfl⟩ := List.mem_map.mp ho
      exact hps p (List.mem_filter.mp hp).1
    have hlp : pl ≠ lnk := fun e => by rw [← e, hLA.dict] at hlnk; cases hlnk
    have hl0 : μ lnk = none := by
      cases e : μ lnk with
      | none => rfl
      | some m => rw [hLA.gr _ _ e] at hlnk; cases hlnk
    rw [s_ForK]
    refine ⟨pl, _, by rw [mset_off hlp]; exact hLA.dict, fun od ws => ?_⟩
    simp
    refine loopG_inv _ (fun i δ μ2 => (∃ l2 : Option Dv, δ = [some (.lst (ps.map pairD)), some (.ref pl), l2, l3, some (.ref lnk)]) ∧ μ2 pl = some (.fdK od ((keysF ps).map fun (n : Nat) => ((.inl (n : Int) : Key), Dv.ref (ρ n))) ws) ∧ Gr μ μ2 ∧ (∀ n ∈ keysF ps, μ2 (ρ n) = some (.lst (NatD (gof ps n)))) ∧
      μ2 lnk = some (.dK (lkD (flk (gof ps) ((keysF ps).take i)))) ∧ LOk (gof ps) (flk (gof ps) ((keysF ps).take i))) 0 ⟨⟨_, rfl⟩, ?_, ?_, ?_, ?_, LOk.nil _⟩ (fun i δ μ2 h => h.2.1) ?_ ?_
    · rw [mset_at]
    · intro b m e
      have h1 : b ≠ pl := fun q => by rw [q, hLA.new] at e; cases e
      have h2 : b ≠ lnk := fun q => by rw [q, hl0] at e; cases e
      rw [mset_off h1, mset_off h2]; exact hLA.gr _ _ e
    · intro n hn
      have h0 := (hLA.at_ n hn).1
      have h1 : ρ n ≠ pl := fun q => by rw [q, hLA.dict] at h0; cases h0
      have h2 : ρ n ≠ lnk := fun q => by rw [q, hlnk] at h0; cases h0
      rw [mset_off h1, mset_off h2]; exact h0
    · rw [mset_off hlp.symm, mset_at]; rfl
    · rintro i d δ μ2 C hd ⟨⟨l2', rfl⟩, j1, j2, j3, j4, j5⟩ hC
      simp only [Nat.zero_add] at j4 j5 hC ⊢
      cases hm : (keysF ps)[i]? with
      | none => rw [List.getElem?_map, hm] at hd; cases hd
      | some n =>
        have ed : d = .int (n : Nat) := by
          rw [List.getElem?_map, hm] at hd
          cases hd; rfl
        subst ed
        have hmem : n ∈ keysF ps := List.mem_of_getElem? hm
        have etk : (keysF ps).take (i + 1) = (keysF ps).take i ++ [n] := by rw [List.take_add_one, hm]; rfl
        simp
        intro trd htrd
        have hLt : Late μ2 pl lnk trd (gof ps) := by
          refine ⟨⟨_, .inr ⟨od, ws, j1⟩, fun n' hn' => ?_⟩, hlp, (fun e => by rw [← e, j1] at htrd; cases htrd), (fun e => by rw [← e, j4] at htrd; cases htrd)⟩
          have hk : n' ∈ keysF ps := Decidable.byContradiction fun h => hn' (hLA.out n' h)
          refine ⟨ρ n', by rw [val_refs, if_pos hk], fun e => ?_, fun e => ?_, j3 n' hk⟩
          · have := j3 n' hk; rw [e, j4] at this; cases this
          · have := j3 n' hk; rw [e, htrd] at this; cases this
        have hU : mset μ2 trd (.dK []) = U μ2 lnk trd (flk (gof ps) ((keysF ps).take i)) [] := by
          unfold U; rw [mset_id j4]; rfl
        rw [hU]
        have hlen := j5.len hg
        obtain ⟨r, hr, k1, k2, k3, k4⟩ := lk_ok (gof ps) 30 hg 31 n _ [] j5 List.nodup_nil (fun t ht => (nomatch ht)) (by simp)
        refine m_link 30 (by omega) hg hLt 31 40 n _ [] (by omega) (hLA.ne n hmem) j5 List.nodup_nil (fun t ht => (nomatch ht)) (by simpa using hlen) r hr ?_
        have ef : flk (gof ps) ((keysF ps).take (i + 1)) = r.2.1 := by
          rw [etk]; unfold flk; rw [List.foldl_append]
          show (match lk (gof ps) 31 n (flk (gof ps) ((keysF ps).take i)) [] with | some r => r.2.1 | none => _) = _
          rw [hr]
        refine hC _ _ ⟨⟨_, rfl⟩, ?_, fun b m e => ?_, fun n' hn' => ?_, ?_, ?_⟩
        · rw [U_at hLt.n1 hLt.n2]; exact j1
        · have e2 := j2 b m e
          have h1 : b ≠ lnk := fun q => by rw [q, hl0] at e; cases e
          have h2 : b ≠ trd := fun q => by rw [q, htrd] at e2; cases e2
          rw [U_at h1 h2]; exact e2
        · have e2 := j3 n' hn'
          have h1 : ρ n' ≠ lnk := fun q => by rw [q, j4] at e2; cases e2
          have h2 : ρ n' ≠ trd := fun q => by rw [q, htrd] at e2; cases e2
          rw [U_at h1 h2]; exact e2
        · rw [ef]; exact U_l hLt.n3
        · rw [ef]; exact k1
    · rintro δ μ2 ⟨⟨l2', rfl⟩, j1, j2, j3, j4, j5⟩
      refine ⟨j1, ?_⟩
      simp at j4
      simp
      refine q lnk _ (fun b m e => ?_) ?_
      · have h1 : b ≠ pl := fun q => by rw [q, hLA.new] at e; cases e
        rw [mset_off h1]; exact j2 b m e
      · rw [mset_off hlp.symm, j4, fls]
end
end Lw

set_option Elab.async false
set_option linter.all false
set_option maxRecDepth 100000
namespace Lw
open PySem L2 Wl
/-! the links that a search makes are as many as can be: dead ends stay dead -/
theorem lget_put_ne {L : Asc} {o o' n : Nat} (h : o' ≠ o) : lget (lput L o n) o' = lget L o' := by
  have base : ∀ L : Asc, lget (L.map fun p => if p.1 = o then (p.1, n) else p) o' = lget L o' := by
    intro L
    induction L with
    | nil => rfl
    | cons p L ih =>
      unfold lget at ih ⊢
      rw [List.map_cons, List.find?_cons, List.find?_cons]
      by_cases e : p.1 = o
      · have : ¬ p.1 = o' := fun q => h (q.symm.trans e)
        simp only [if_pos e, this, decide_false]
        exact ih
      · simp only [if_neg e]
        by_cases e2 : p.1 = o'
        · simp [e2]
        · simp only [e2, decide_false]
          exact ih
  unfold lput
  split
  · exact base L
  · unfold lget
    rw [List.find?_append]
    have : ([(o, n)] : Asc).find? (fun p => decide (p.1 = o')) = none := by simp; exact fun q => h q.symm
    rw [this, Option.or_none]
theorem lget_none {L : Asc} {o : Nat} : lget L o = none ↔ o ∉ L.map (·.1) := by
  unfold lget
  rw [Option.map_eq_none_iff, List.find?_eq_none]
  constructor
  · intro h hm
    obtain ⟨p, hp, e⟩ := List.mem_map.mp hm
    exact h p hp (by simpa using e)
  · intro h p hp e
    exact h (List.mem_map.mpr ⟨p, hp, by simpa using e⟩)
def Sub (xs ys : List Nat) : Prop := ∀ x ∈ xs, x ∈ ys
/-- a set of later ones that is closed: who holds them has no others -/
def Dead (g : Nat → List Nat) (L : Asc) (D : List Nat) : Prop := ∀ o ∈ D, ∃ m, lget L o = some m ∧ Sub (g m) D
def Fine (g : Nat → List Nat) (D : List Nat) (n : Nat) (L : Asc) (T : List Nat) (r : Rs) : Prop :=
  (∀ o ∈ D, lget r.2.1 o = lget L o) ∧ (Sub (g n) D → r.1 = false) ∧ (∀ o ∈ T, lget r.2.1 o = lget L o) ∧ (r.1 = false → r.2.1 = L) ∧ Sub T r.2.2
theorem lkL_fine (g : Nat → List Nat) (D : List Nat) (n : Nat) (rec : Nat → Asc → List Nat → Option Rs)
    (ih : ∀ n L T, Dead g L D → ∀ r, rec n L T = some r → Fine g D n L T r) :
    ∀ (os : List Nat) (L : Asc) (T : List Nat), Dead g L D → ∀ r, lkL rec n os L T = some r →
      (∀ o ∈ D, lget r.2.1 o = lget L o) ∧ (Sub os D → r.1 = false) ∧ (∀ o ∈ T, lget r.2.1 o = lget L o) ∧ (r.1 = false → r.2.1 = L) ∧ Sub T r.2.2
  | [], L, T, _, r, hr => by cases hr; exact ⟨fun _ _ => rfl, fun _ => rfl, fun _ _ => rfl, fun _ => rfl, fun _ h => h⟩
  | o :: os, L, T, hD, r, hr => by
    unfold lkL at hr
    by_cases h : o ∈ T
    · rw [if_pos h] at hr
      obtain ⟨a, b, c, d⟩ := lkL_fine g D n rec ih os L T hD r hr
      exact ⟨a, fun s => b fun x hx => s x (List.mem_cons_of_mem _ hx), c, d⟩
    · rw [if_neg h] at hr
      cases e : lget L o with
      | none =>
        simp only [e] at hr
        cases hr
        have hoD : o ∉ D := fun q => by obtain ⟨m, hm, _⟩ := hD o q; rw [e] at hm; cases hm
        exact ⟨fun x hx => lget_put_ne fun q : x = o => hoD (q ▸ hx), fun s => absurd (s o List.mem_cons_self) hoD, fun x hx => lget_put_ne fun q : x = o => h (q ▸ hx), (fun q => by cases q), fun x hx => List.mem_append_left _ hx⟩
      | some n' =>
        simp only [e] at hr
        cases hrec : rec n' L (T ++ [o]) with
        | none => simp only [hrec] at hr; cases hr
        | some r1 =>
          obtain ⟨a, b, c, d, m0⟩ := ih n' L (T ++ [o]) hD r1 hrec
          obtain ⟨bb, L', T'⟩ := r1
          simp only [hrec] at hr
          simp only at a b c d m0
          have m1 : Sub T T' := fun x hx => m0 x (List.mem_append_left _ hx)
          cases bb with
          | true =>
            simp only at hr
            cases hr
            have hoD : o ∉ D := fun q => by
              obtain ⟨m, hm, hs⟩ := hD o q
              rw [e] at hm
              cases hm
              cases b hs
            exact ⟨fun x hx => (lget_put_ne fun q : x = o => hoD (q ▸ hx)).trans (a x hx), fun s => absurd (s o List.mem_cons_self) hoD, fun x hx => (lget_put_ne fun q : x = o => h (q ▸ hx)).trans (c x (List.mem_append_left _ hx)), (fun q => by cases q), m1⟩
          | false =>
            simp only at hr
            have eL : L' = L := d rfl
            subst eL
            obtain ⟨a2, b2, c2, d2, m2⟩ := lkL_fine g D n rec ih os L' T' hD r hr
            exact ⟨a2, fun s => b2 fun x hx => s x (List.mem_cons_of_mem _ hx), fun x hx => c2 x (m1 x hx), d2, fun x hx => m2 x (m1 x hx)⟩
theorem lk_fine (g : Nat → List Nat) (D : List Nat) : ∀ (f n : Nat) (L : Asc) (T : List Nat), Dead g L D → ∀ r, lk g f n L T = some r → Fine g D n L T r
  | 0, _, _, _, _, r, hr => by cases hr
  | f + 1, n, L, T, hD, r, hr => lkL_fine g D n (lk g f) (fun n L T h r e => lk_fine g D f n L T h r e) (g n) L T hD r hr
/-- what a search without success has tried is closed -/
def Shut (g : Nat → List Nat) (n : Nat) (L : Asc) (T : List Nat) (r : Rs) : Prop := r.1 = false → Sub (g n) r.2.2 ∧ ∀ o ∈ r.2.2, o ∈ T ∨ ∃ m, lget L o = some m ∧ Sub (g m) r.2.2
theorem lkL_shut (g : Nat → List Nat) (n : Nat) (rec : Nat → Asc → List Nat → Option Rs)
    (ih0 : ∀ n L T r, rec n L T = some r → Sub T r.2.2 ∧ (r.1 = false → r.2.1 = L)) (ih : ∀ n L T r, rec n L T = some r → Shut g n L T r) (keep : ∀ os L T r, lkL rec n os L T = some r → Sub T r.2.2) :
    ∀ (os : List Nat) (L : Asc) (T : List Nat) r, lkL rec n os L T = some r → r.1 = false → Sub os r.2.2 ∧ ∀ o ∈ r.2.2, o ∈ T ∨ ∃ m, lget L o = some m ∧ Sub (g m) r.2.2
  | [], L, T, r, hr, _ => by cases hr; exact ⟨fun _ h => (nomatch h), fun _ h => .inl h⟩
  | o :: os, L, T, r, hr, hb => by
    have kp := keep (o :: os) L T r hr
    unfold lkL at hr
    by_cases h : o ∈ T
    · rw [if_pos h] at hr
      obtain ⟨a, b⟩ := lkL_shut g n rec ih0 ih keep os L T r hr hb
      exact ⟨fun x hx => (List.mem_cons.mp hx).elim (fun e => e ▸ kp o h) (a x), b⟩
    · rw [if_neg h] at hr
      cases e : lget L o with
      | none =>
        simp only [e] at hr
        cases hr
        cases hb
      | some n' =>
        simp only [e] at hr
        cases hrec : rec n' L (T ++ [o]) with
        | none => simp only [hrec] at hr; cases hr
        | some r1 =>
          obtain ⟨k1, k2⟩ := ih0 n' L (T ++ [o]) r1 hrec
          have k3 := ih n' L (T ++ [o]) r1 hrec
          obtain ⟨bb, L', T'⟩ := r1
          simp only [hrec] at hr
          cases bb with
          | true =>
            simp only at hr
            cases hr
            cases hb
          | false =>
            simp only at hr k1
            have eL : L' = L := k2 rfl
            subst eL
            obtain ⟨j1, j2⟩ := k3 rfl
            simp only at j1 j2
            obtain ⟨a, b⟩ := lkL_shut g n rec ih0 ih keep os L' T' r hr hb
            have kp2 := keep os L' T' r hr
            refine ⟨fun x hx => (List.mem_cons.mp hx).elim (fun q => q ▸ kp2 o (k1 o (List.mem_append_right _ (List.mem_singleton.mpr rfl)))) (a x), fun x hx => ?_⟩
            rcases b x hx with q | q
            · rcases j2 x q with q | ⟨m, h1, h2⟩
              · rcases List.mem_append.mp q with q | q
                · exact .inl q
                · rw [List.mem_singleton.mp q]
                  exact .inr ⟨n', e, fun y hy => kp2 y (j1 y hy)⟩
              · exact .inr ⟨m, h1, fun y hy => kp2 y (h2 y hy)⟩
            · exact .inr q
theorem dead_nil (g : Nat → List Nat) (L : Asc) : Dead g L [] := fun _ h => (nomatch h)
theorem lk_shut (g : Nat → List Nat) : ∀ (f n : Nat) (L : Asc) (T : List Nat) r, lk g f n L T = some r → Shut g n L T r
  | 0, _, _, _, r, hr => by cases hr
  | f + 1, n, L, T, r, hr => fun hb => lkL_shut g n (lk g f) (fun n L T r e => ⟨(lk_fine g [] f n L T (dead_nil g L) r e).2.2.2.2, (lk_fine g [] f n L T (dead_nil g L) r e).2.2.2.1⟩) (fun n L T r e => lk_shut g f n L T r e)
      (fun os L T r e => (lkL_fine g [] n (lk g f) (fun n L T h r e => lk_fine g [] f n L T h r e) os L T (dead_nil g L) r e).2.2.2.2) (g n) L T r hr hb
end Lw

set_option Elab.async false
set_option linter.all false
set_option maxRecDepth 100000
namespace Wl
open PySem L2
section
variable {δ : DSt} {μ : Mu} {Q : DV} {D : DEnds}
theorem e_DcK {vs : List Nat} {td : DE} {g : DG} {tt : DT} {tk tv : DE} : vDcK vs td g tt tk tv δ μ Q ↔ ∃ a kvs, μ a = some (.dK kvs) ∧ ∀ od ws, td δ (mset μ a (.fdK od kvs ws)) fun x μ1 => x = .ref a ∧ μ1 a = some (.fdK od kvs ws) ∧ ∀ D, μ1 D = none →
  vDLoopK vs g tt tk tv δ D a (.fdK od kvs ws) (kvs.map fun kv => kD kv.1) (mset μ1 D (.dK [])) fun μ2 => Q (.ref D) (mset μ2 a (.dK kvs)) := Iff.rfl
theorem s_While {c : DT} {tb : DS} : sWhile c tb D δ μ ↔ ∃ n, sTimes c tb n D δ μ := Iff.rfl
end
end Wl
namespace Lw
open PySem L2 Wl
theorem lget_mem {L : Asc} (h : (L.map (·.1)).Nodup) {p : Nat × Nat} (hp : p ∈ L) : lget L p.1 = some p.2 := by
  induction L with
  | nil => cases hp
  | cons x L ih =>
    rw [List.map_cons, List.nodup_cons] at h
    unfold lget
    rw [List.find?_cons]
    rcases List.mem_cons.mp hp with rfl | hp
    · simp
    · have hne : ¬ x.1 = p.1 := fun e => h.1 (List.mem_map.mpr ⟨p, hp, e.symm⟩)
      simp only [hne, decide_false]
      exact ih h.2 hp
/-- from a binding to the one behind it -/
def fwd (L : Asc) : Asc := L.foldl (fun F p => lput F p.2 p.1) []
theorem fwd_from {L : Asc} : ∀ {K F : Asc} {p : Nat × Nat}, (∀ q ∈ K, q ∈ L) → (∀ q ∈ F, (q.2, q.1) ∈ L) → p ∈ K.foldl (fun F p => lput F p.2 p.1) F → (p.2, p.1) ∈ L
  | [], F, p, _, hF, hp => hF p hp
  | x :: K, F, p, hK, hF, hp => fwd_from (K := K) (fun q hq => hK q (List.mem_cons_of_mem _ hq)) (fun q hq => by
      rcases lput_mem hq with rfl | hq
      · exact hK x List.mem_cons_self
      · exact hF q hq) hp
theorem fwd_mem {L : Asc} {n o : Nat} (h : lget (fwd L) n = some o) : (o, n) ∈ L := fwd_from (K := L) (F := []) (p := (n, o)) (fun _ h => h) (fun q hq => (nomatch hq)) (lget_key h)
theorem fwd_len : ∀ (K F : Asc), (K.foldl (fun F p => lput F p.2 p.1) F).length ≤ F.length + K.length
  | [], F => by simp
  | x :: K, F => by
    rw [List.foldl_cons, List.length_cons]
    have := fwd_len K (lput F x.2 x.1)
    have := lput_len F x.2 x.1
    omega
/-- a chain from its first one on -/
def chf (F : Asc) : Nat → List Nat → List Nat
  | 0, ch => ch
  | f + 1, ch => match ch.getLast? with
    | none => ch
    | some l => match lget F l with
      | some o => chf F f (ch ++ [o])
      | none => ch
def chs (L : Asc) (many : Nat) : List (List Nat) := ((List.range many).filter fun n => (lget L n).isNone).map fun n => chf (fwd L) 40 [n]
section
variable {P : Program} {w : World} {c : Cs} {μ : Mu} {Q : DV} {E : DX}
theorem m_fwd {L : Asc} {a D : Addr} {od : Obj} {ws : List (Key × V)} (hn : (L.map (·.1)).Nodup) {x0 x2 x4 x5 x6 : Option Dv} {QS : Mu → Prop} (hD : μ D = none) (ha : μ a = some (.fdK od (lkD L) ws)) :
    ∀ (K F : Asc), (∀ p ∈ K, p ∈ L) → F.length + K.length ≤ 1000 → QS (mset μ D (.dK (lkD (K.foldl (fun F p => lput F p.2 p.1) F)))) →
      vDLoopK [3] (dName 3) vYes (vDGet (vV 1) (vV 3)) (vV 3) [x0, some (.ref a), x2, none, x4, x5, x6] D a (.fdK od (lkD L) ws) ((lkD K).map fun kv => kD kv.1) (mset μ D (.dK (lkD F))) QS
  | [], F, _, _, q => ⟨by rw [mset_off (fun e => by rw [e, hD] at ha; cases ha)]; exact ha, ⟨_, mset_at⟩, q⟩
  | p :: K, F, hK, hl, q => by
    have hz : 20000 < sizeLine := by decide
    have haD : a ≠ D := fun e => by rw [e, hD] at ha; cases ha
    have e1 : (lkD (p :: K)).map (fun kv => kD kv.1) = .int (p.1 : Nat) :: (lkD K).map fun kv => kD kv.1 := rfl
    rw [e1]
    have ha' : ∀ F, (mset μ D (.dK (lkD F))) a = some (.fdK od (lkD L) ws) := fun F => by rw [mset_off haD]; exact ha
    rw [List.length_cons] at hl
    refine ⟨ha' F, ?_⟩
    simp [dwipe]
    rw [dgt_I (.inr ⟨od, ws, ha' F⟩) (by rw [val_lk, lget_mem hn (hK p List.mem_cons_self)]; rfl)]
    refine ⟨lkD F, .inl (p.2 : Int), rfl, by rw [mset_at], by unfold lkD; rw [List.length_map]; omega, ?_⟩
    rw [put_lk, mset_mset]
    have := lput_len F p.2 p.1
    exact m_fwd hn hD ha K (lput F p.2 p.1) (fun q hq => hK q (List.mem_cons_of_mem _ hq)) (by omega) q
end
end Lw

set_option Elab.async false
set_option linter.all false
set_option maxRecDepth 100000
namespace Lw
open PySem L2 Wl
/-! who holds a link: one more after each success -/
theorem lput_new {L : Asc} {o n : Nat} (h : lget L o = none) : lput L o n = L ++ [(o, n)] := by
  have h' := lget_none.mp h
  unfold lput
  rw [if_neg]
  rw [List.any_eq_true]
  rintro ⟨p, hp, e⟩
  exact h' (List.mem_map.mpr ⟨p, hp, by simpa using e⟩)
theorem lput_perm {o n n' : Nat} : ∀ {L : Asc}, (L.map (·.1)).Nodup → lget L o = some n' → (n' :: (lput L o n).map (·.2)).Perm (n :: L.map (·.2)) := by
  intro L hn h
  have hin : (L.any fun p => decide (p.1 = o)) = true := by
    rw [List.any_eq_true]
    exact ⟨_, lget_key h, by simp⟩
  unfold lput
  rw [if_pos hin]
  clear hin
  induction L with
  | nil => exact absurd h (by simp [lget])
  | cons p L ih =>
    obtain ⟨x, y⟩ := p
    rw [List.map_cons, List.nodup_cons] at hn
    by_cases e : x = o
    · subst e
      have : y = n' := by
        unfold lget at h
        simpa using h
      subst this
      have e2 : L.map (fun p => if p.1 = x then (p.1, n) else p) = L := by
        conv => rhs; rw [← List.map_id L]
        refine List.map_congr_left fun p hp => ?_
        have : p.1 ≠ x := fun q => hn.1 (List.mem_map.mpr ⟨p, hp, q⟩)
        simp [this]
      simp only [List.map_cons, if_true, e2]
      exact List.Perm.swap _ _ _
    · have h2 : lget L o = some n' := by
        unfold lget at h ⊢
        simpa [e] using h
      simp only [List.map_cons, if_neg e]
      have := ih hn.2 h2
      exact (List.Perm.swap _ _ _).trans ((List.Perm.cons y this).trans (List.Perm.swap _ _ _))
def Grows (n : Nat) (L : Asc) (r : Rs) : Prop := r.1 = true → (r.2.1.map (·.2)).Perm (n :: L.map (·.2))
theorem lkL_grows (g : Nat → List Nat) (n : Nat) (rec : Nat → Asc → List Nat → Option Rs)
    (ok : ∀ n L T r, LOk g L → rec n L T = some r → LOk g r.2.1 ∧ (∀ o ∈ T, lget r.2.1 o = lget L o) ∧ (r.1 = false → r.2.1 = L)) (ih : ∀ n L T r, LOk g L → rec n L T = some r → Grows n L r) :
    ∀ (os : List Nat) (L : Asc) (T : List Nat) r, LOk g L → lkL rec n os L T = some r → Grows n L r
  | [], L, T, r, _, hr => fun h => by cases hr; cases h
  | o :: os, L, T, r, hL, hr => fun hb => by
    unfold lkL at hr
    by_cases h : o ∈ T
    · rw [if_pos h] at hr
      exact lkL_grows g n rec ok ih os L T r hL hr hb
    · rw [if_neg h] at hr
      cases e : lget L o with
      | none =>
        simp only [e] at hr
        cases hr
        rw [lput_new e, List.map_append]
        exact List.perm_append_comm
      | some n' =>
        simp only [e] at hr
        cases hrec : rec n' L (T ++ [o]) with
        | none => simp only [hrec] at hr; cases hr
        | some r1 =>
          obtain ⟨k1, k2, k3⟩ := ok n' L (T ++ [o]) r1 hL hrec
          have k4 := ih n' L (T ++ [o]) r1 hL hrec
          obtain ⟨bb, L', T'⟩ := r1
          simp only [hrec] at hr
          simp only at k1 k2 k3
          cases bb with
          | true =>
            simp only at hr
            cases hr
            have p1 := k4 rfl
            have e2 : lget L' o = some n' := (k2 o (List.mem_append_right _ (List.mem_singleton.mpr rfl))).trans e
            have p2 := lput_perm (n := n) k1.2 e2
            have p3 : (n' :: (lput L' o n).map (·.2)).Perm (n' :: n :: L.map (·.2)) := p2.trans ((List.Perm.cons n p1).trans (List.Perm.swap _ _ _))
            exact p3.cons_inv
          | false =>
            simp only at hr
            have eL : L' = L := k3 rfl
            subst eL
            exact lkL_grows g n rec ok ih os L' T' r k1 hr hb
theorem lk_grows (g : Nat → List Nat) (ok0 : ∀ f n L T r, LOk g L → lk g f n L T = some r → LOk g r.2.1) : ∀ (f n : Nat) (L : Asc) (T : List Nat) r, LOk g L → lk g f n L T = some r → Grows n L r
  | 0, _, _, _, r, _, hr => by cases hr
  | f + 1, n, L, T, r, hL, hr => lkL_grows g n (lk g f) (fun n L T r h e => ⟨ok0 f n L T r h e, (lk_fine g [] f n L T (dead_nil g L) r e).2.2.1, (lk_fine g [] f n L T (dead_nil g L) r e).2.2.2.1⟩) (fun n L T r h e => lk_grows g ok0 f n L T r h e) (g n) L T r hL hr
/-- links stay links, whatever was tried before -/
theorem lkL_LOk (g : Nat → List Nat) (n : Nat) (rec : Nat → Asc → List Nat → Option Rs) (ih : ∀ n L T r, LOk g L → rec n L T = some r → LOk g r.2.1) :
    ∀ (os : List Nat) (L : Asc) (T : List Nat) r, Sub os (g n) → LOk g L → lkL rec n os L T = some r → LOk g r.2.1
  | [], L, T, r, _, hL, hr => by cases hr; exact hL
  | o :: os, L, T, r, hs, hL, hr => by
    have hs' : Sub os (g n) := fun x hx => hs x (List.mem_cons_of_mem _ hx)
    have ho := hs o List.mem_cons_self
    unfold lkL at hr
    by_cases h : o ∈ T
    · rw [if_pos h] at hr
      exact lkL_LOk g n rec ih os L T r hs' hL hr
    · rw [if_neg h] at hr
      cases e : lget L o with
      | none =>
        simp only [e] at hr
        cases hr
        exact hL.put ho
      | some n' =>
        simp only [e] at hr
        cases hrec : rec n' L (T ++ [o]) with
        | none => simp only [hrec] at hr; cases hr
        | some r1 =>
          have k1 := ih n' L (T ++ [o]) r1 hL hrec
          obtain ⟨bb, L', T'⟩ := r1
          simp only [hrec] at hr
          simp only at k1
          cases bb with
          | true => simp only at hr; cases hr; exact k1.put ho
          | false => simp only at hr; exact lkL_LOk g n rec ih os L' T' r hs' k1 hr
theorem lk_LOk (g : Nat → List Nat) : ∀ (f n : Nat) (L : Asc) (T : List Nat) r, LOk g L → lk g f n L T = some r → LOk g r.2.1
  | 0, _, _, _, r, _, hr => by cases hr
  | f + 1, n, L, T, r, hL, hr => lkL_LOk g n (lk g f) (fun n L T r h e => lk_LOk g f n L T r h e) (g n) L T r (fun _ h => h) hL hr
/-- after all searches: each is linked, or all that it has is in a dead set -/
structure Far (g : Nat → List Nat) (ks : List Nat) (L : Asc) : Prop where
  ok : LOk g L
  own : (L.map (·.2)).Nodup
  in_ : Sub (L.map (·.2)) ks
  dead : ∃ D, Dead g L D ∧ ∀ k ∈ ks, k ∈ L.map (·.2) ∨ Sub (g k) D
theorem flk_far (g : Nat → List Nat) (N : Nat) (hg : ∀ n, ∀ o ∈ g n, o < 30) : ∀ (ks' ks : List Nat) (L : Asc), (ks ++ ks').Nodup → Far g ks L → Far g (ks ++ ks') (ks'.foldl (fun L n => match lk g 31 n L [] with | some r => r.2.1 | none => L) L)
  | [], ks, L, _, h => by rw [List.append_nil]; exact h
  | n :: ks', ks, L, hn, h => by
    have hn2 : ((ks ++ [n]) ++ ks').Nodup := by rw [List.append_assoc]; exact hn
    have hnk : n ∉ ks := fun q => by
      rw [List.nodup_append] at hn
      exact hn.2.2 n q n List.mem_cons_self rfl
    rw [List.foldl_cons]
    have e : ks ++ n :: ks' = (ks ++ [n]) ++ ks' := by simp
    rw [e]
    refine flk_far g N hg ks' (ks ++ [n]) _ hn2 ?_
    obtain ⟨r, hr, -⟩ := lk_ok g 30 hg 31 n L [] h.ok List.nodup_nil (fun _ q => (nomatch q)) (by simp)
    obtain ⟨D, hD, hk⟩ := h.dead
    have hf := lk_fine g D 31 n L [] hD r hr
    have hs := lk_shut g 31 n L [] r hr
    have hG := lk_grows g (fun f n L T r a b => lk_LOk g f n L T r a b) 31 n L [] r h.ok hr
    have hO := lk_LOk g 31 n L [] r h.ok hr
    rw [hr]
    show Far g (ks ++ [n]) r.2.1
    cases hb : r.1 with
    | true =>
      have hp := hG hb
      refine ⟨hO, hp.nodup_iff.mpr (List.nodup_cons.mpr ⟨fun q => hnk (h.in_ n q), h.own⟩), fun x hx => ?_, D, fun o ho => ?_, fun k hkk => ?_⟩
      · rcases List.mem_cons.mp (hp.mem_iff.mp hx) with q | q
        · exact List.mem_append_right _ (List.mem_singleton.mpr q)
        · exact List.mem_append_left _ (h.in_ x q)
      · obtain ⟨m, h1, h2⟩ := hD o ho
        exact ⟨m, (hf.1 o ho).trans h1, h2⟩
      · rcases List.mem_append.mp hkk with q | q
        · rcases hk k q with q2 | q2
          · exact .inl (hp.mem_iff.mpr (List.mem_cons_of_mem _ q2))
          · exact .inr q2
        · exact .inl (hp.mem_iff.mpr (List.mem_cons.mpr (.inl (List.mem_singleton.mp q))))
    | false =>
      obtain ⟨s1, s2⟩ := hs hb
      have eL : r.2.1 = L := hf.2.2.2.1 hb
      rw [eL]
      refine ⟨h.ok, h.own, fun x hx => List.mem_append_left _ (h.in_ x hx), D ++ r.2.2, fun o ho => ?_, fun k hkk => ?_⟩
      · rcases List.mem_append.mp ho with q | q
        · obtain ⟨m, h1, h2⟩ := hD o q
          exact ⟨m, h1, fun x hx => List.mem_append_left _ (h2 x hx)⟩
        · rcases s2 o q with q2 | ⟨m, h1, h2⟩
          · cases q2
          · exact ⟨m, h1, fun x hx => List.mem_append_right _ (h2 x hx)⟩
      · rcases List.mem_append.mp hkk with q | q
        · rcases hk k q with q2 | q2
          · exact .inl q2
          · exact .inr fun x hx => List.mem_append_left _ (q2 x hx)
        · rw [List.mem_singleton.mp q]
          exact .inr fun x hx => List.mem_append_right _ (s1 x hx)
/-! covers -/
abbrev Ps := List (Nat × Nat)
def Cov (ps : Ps) (C : List Nat) : Prop := ∀ p ∈ ps, p.1 ∈ C ∨ p.2 ∈ C
theorem keysF_from : ∀ (ps : Ps) (ks : List Nat), (∀ x, x ∈ ps.foldl (fun ks p => addK ks p.1) ks ↔ x ∈ ks ∨ ∃ p ∈ ps, p.1 = x) ∧ (ks.Nodup → (ps.foldl (fun ks p => addK ks p.1) ks).Nodup)
  | [], ks => ⟨fun x => by simp, fun h => h⟩
  | p :: ps, ks => by
    have ih := keysF_from ps (addK ks p.1)
    have e : ∀ x, x ∈ addK ks p.1 ↔ x ∈ ks ∨ p.1 = x := fun x => by
      unfold addK
      split
      · rename_i h
        constructor
        · exact .inl
        · rintro (q | q)
          · exact q
          · exact q ▸ h
      · rw [List.mem_append, List.mem_singleton]
        constructor
        · rintro (q | q)
          · exact .inl q
          · exact .inr q.symm
        · rintro (q | q)
          · exact .inl q
          · exact .inr q.symm
    refine ⟨fun x => ?_, fun h => ih.2 ?_⟩
    · rw [List.foldl_cons, ih.1 x, e x]
      constructor
      · rintro ((q | q) | ⟨a, b, d⟩)
        · exact .inl q
        · exact .inr ⟨p, List.mem_cons_self, q⟩
        · exact .inr ⟨a, List.mem_cons_of_mem _ b, d⟩
      · rintro (q | ⟨a, b, d⟩)
        · exact .inl (.inl q)
        · rcases List.mem_cons.mp b with q | q
          · exact .inl (.inr (q ▸ d))
          · exact .inr ⟨a, q, d⟩
    · unfold addK
      split
      · exact h
      · rename_i hx
        rw [List.nodup_append]
        exact ⟨h, by simp, fun a ha b hb => by rw [List.mem_singleton.mp hb]; exact fun q => hx (q ▸ ha)⟩
theorem gof_mem {ps : Ps} {a b : Nat} : b ∈ gof ps a ↔ (a, b) ∈ ps := by
  unfold gof
  rw [List.mem_map]
  constructor
  · rintro ⟨p, hp, e⟩
    rw [List.mem_filter] at hp
    obtain ⟨x, y⟩ := p
    have h1 : x = a := by simpa using hp.2
    have h2 : y = b := e
    exact h1 ▸ h2 ▸ hp.1
  · intro h
    exact ⟨(a, b), List.mem_filter.mpr ⟨h, by simp⟩, rfl⟩
theorem fls_far (ps : Ps) (h : ∀ p ∈ ps, p.2 < 30) : Far (gof ps) (keysF ps) (fls ps) := by
  have nd : (keysF ps).Nodup := (keysF_from ps []).2 List.nodup_nil
  have := flk_far (gof ps) 30 (fun n o ho => h _ (gof_mem.mp ho)) (keysF ps) [] [] (by simpa using nd)
    ⟨LOk.nil _, List.nodup_nil, fun _ q => (nomatch q), [], dead_nil _ _, fun _ q => (nomatch q)⟩
  exact this
/-- a cover as small as the links are many -/
theorem fls_cover (ps : Ps) (h : ∀ p ∈ ps, p.2 < 30) : ∃ C, Cov ps C ∧ C.length = (fls ps).length := by
  have F := fls_far ps h
  obtain ⟨D, hD, hk⟩ := F.dead
  refine ⟨(fls ps).map fun p => if p.1 ∈ D then p.1 else p.2, fun p hp => ?_, List.length_map _⟩
  obtain ⟨a, b⟩ := p
  have ha : a ∈ keysF ps := ((keysF_from ps []).1 a).mpr (.inr ⟨_, hp, rfl⟩)
  by_cases hs : Sub (gof ps a) D
  · have hb := hs b (gof_mem.mpr hp)
    obtain ⟨m, h1, -⟩ := hD b hb
    exact .inr (List.mem_map.mpr ⟨(b, m), lget_key h1, if_pos hb⟩)
  · rcases hk a ha with q | q
    · obtain ⟨⟨o, x⟩, hl, e⟩ := List.mem_map.mp q
      have e' : x = a := e
      subst e'
      have ho : o ∉ D := fun z => by
        obtain ⟨m, h1, h2⟩ := hD o z
        have h3 := lget_mem F.ok.2 hl
        rw [h1] at h3
        have h4 : m = x := Option.some.inj h3
        exact hs (h4 ▸ h2)
      exact .inl (List.mem_map.mpr ⟨_, hl, if_neg ho⟩)
    · exact absurd q hs
end Lw

set_option Elab.async false
set_option linter.all false
set_option maxRecDepth 100000
namespace Lw
open PySem L2 Wl
/-! no cover is smaller than the links are many, if lateness is passed on -/
theorem nodup_le : ∀ {xs ys : List Nat}, xs.Nodup → Sub xs ys → xs.length ≤ ys.length
  | [], _, _, _ => Nat.zero_le _
  | x :: xs, ys, hn, hs => by
    obtain ⟨h1, h2⟩ := List.nodup_cons.mp hn
    have hx := hs x List.mem_cons_self
    have ih := nodup_le (ys := ys.erase x) h2 fun y hy => (List.mem_erase_of_ne fun q : y = x => h1 (q ▸ hy)).mpr (hs y (List.mem_cons_of_mem _ hy))
    rw [List.length_erase_of_mem hx] at ih
    have := List.length_pos_of_mem hx
    rw [List.length_cons]
    omega
def Trn (ps : Ps) : Prop := ∀ a b d, (a, b) ∈ ps → (b, d) ∈ ps → (a, d) ∈ ps
def Hit (ps : Ps) (C : List Nat) (a : Nat) : Prop := ∃ u, u ∉ C ∧ (u = a ∨ (u, a) ∈ ps)
open Classical in
noncomputable def pick (ps : Ps) (C : List Nat) (p : Nat × Nat) : Nat := if Hit ps C p.2 then p.1 else p.2
theorem pair_both {α β γ : Type} {f : α → β} {g : α → γ} : ∀ {L : List α}, (L.map f).Nodup → (L.map g).Nodup → L.Pairwise fun p q => f p ≠ f q ∧ g p ≠ g q
  | [], _, _ => .nil
  | p :: L, h1, h2 => by
    obtain ⟨a1, b1⟩ := List.nodup_cons.mp h1
    obtain ⟨a2, b2⟩ := List.nodup_cons.mp h2
    exact .cons (fun q hq => ⟨fun e => a1 (List.mem_map.mpr ⟨q, hq, e.symm⟩), fun e => a2 (List.mem_map.mpr ⟨q, hq, e.symm⟩)⟩) (pair_both b1 b2)
theorem fls_low (ps : Ps) (h : ∀ p ∈ ps, p.2 < 30) (T : Trn ps) (C : List Nat) (hC : Cov ps C) : (fls ps).length ≤ C.length := by
  have F := fls_far ps h
  have hin : ∀ p ∈ fls ps, (p.2, p.1) ∈ ps := fun p hp => gof_mem.mp (F.ok.1 p hp)
  have tr : ∀ p ∈ fls ps, Hit ps C p.2 → ∃ u, u ∉ C ∧ (u, p.1) ∈ ps := fun p hp ⟨u, hu, e⟩ => by
    refine ⟨u, hu, ?_⟩
    rcases e with e | e
    · rw [e]; exact hin p hp
    · exact T _ _ _ e (hin p hp)
  have key : ((fls ps).map (pick ps C)).Nodup := by
    unfold List.Nodup
    rw [List.pairwise_map]
    refine List.Pairwise.imp_of_mem (fun {p q} hp hq hne => ?_) (pair_both F.ok.2 F.own)
    unfold pick
    by_cases a : Hit ps C p.2
    · by_cases b : Hit ps C q.2
      · rw [if_pos a, if_pos b]; exact hne.1
      · rw [if_pos a, if_neg b]
        intro e
        obtain ⟨u, h1, h2⟩ := tr p hp a
        exact b ⟨u, h1, .inr (e ▸ h2)⟩
    · by_cases b : Hit ps C q.2
      · rw [if_neg a, if_pos b]
        intro e
        obtain ⟨u, h1, h2⟩ := tr q hq b
        exact a ⟨u, h1, .inr (e ▸ h2)⟩
      · rw [if_neg a, if_neg b]; exact hne.2
  have sub : Sub ((fls ps).map (pick ps C)) C := fun x hx => by
    obtain ⟨p, hp, e⟩ := List.mem_map.mp hx
    unfold pick at e
    by_cases a : Hit ps C p.2
    · rw [if_pos a] at e
      obtain ⟨u, h1, h2⟩ := tr p hp a
      rcases hC _ h2 with q | q
      · exact absurd q h1
      · exact e ▸ q
    · rw [if_neg a] at e
      by_cases q : p.2 ∈ C
      · exact e ▸ q
      · exact absurd ⟨p.2, q, .inl rfl⟩ a
  have := nodup_le key sub
  rwa [List.length_map] at this
theorem dedup_ex : ∀ C : List Nat, ∃ D : List Nat, D.Nodup ∧ Sub C D ∧ D.length ≤ C.length
  | [] => ⟨[], List.nodup_nil, fun _ h => h, Nat.le_refl _⟩
  | x :: C => by
    obtain ⟨D, h1, h2, h3⟩ := dedup_ex C
    by_cases hx : x ∈ D
    · exact ⟨D, h1, fun y hy => (List.mem_cons.mp hy).elim (fun e => e ▸ hx) (h2 y), Nat.le_succ_of_le h3⟩
    · exact ⟨x :: D, List.nodup_cons.mpr ⟨hx, h1⟩, fun y hy => (List.mem_cons.mp hy).elim (fun e => e ▸ List.mem_cons_self) fun q => List.mem_cons_of_mem _ (h2 y q), Nat.succ_le_succ h3⟩
abbrev tau (ps : Ps) : Nat := (fls ps).length
theorem min_ex (ps : Ps) (h : ∀ p ∈ ps, p.2 < 30) (T : Trn ps) : ∃ C, C.Nodup ∧ Cov ps C ∧ C.length = tau ps := by
  obtain ⟨C, h1, h2⟩ := fls_cover ps h
  obtain ⟨D, k1, k2, k3⟩ := dedup_ex C
  have hD : Cov ps D := fun p hp => (h1 p hp).imp (k2 _) (k2 _)
  have := fls_low ps h T D hD
  exact ⟨D, k1, hD, by show D.length = (fls ps).length; omega⟩
/-! the greedy choice -/
def wo (ps : Ps) (k : Nat) : Ps := ps.filter fun p => !(decide (p.1 = k) || decide (p.2 = k))
theorem wo_mem {ps : Ps} {k : Nat} {p : Nat × Nat} : p ∈ wo ps k ↔ p ∈ ps ∧ p.1 ≠ k ∧ p.2 ≠ k := by
  unfold wo
  rw [List.mem_filter]
  simp
def gr : Nat → Ps → List Nat → List Nat
  | _, _, [] => []
  | m, ps, k :: ks => if tau (wo ps k) < m then k :: gr (m - 1) (wo ps k) ks else gr m ps ks
def lexN : List Nat → List Nat → Bool
  | _, [] => false
  | [], _ :: _ => true
  | x :: xs, y :: ys => decide (x < y) || (decide (x = y) && lexN xs ys)
theorem Trn.wo {ps : Ps} (T : Trn ps) (k : Nat) : Trn (wo ps k) := fun a b d h1 h2 => by
  obtain ⟨p1, p2, p3⟩ := wo_mem.mp h1
  obtain ⟨q1, q2, q3⟩ := wo_mem.mp h2
  exact wo_mem.mpr ⟨T _ _ _ p1 q1, p2, q3⟩
theorem cov_wo {ps : Ps} {k : Nat} {C : List Nat} (h : Cov (wo ps k) C) : Cov ps (k :: C) := fun p hp => by
  by_cases a : p.1 = k
  · exact .inl (a ▸ List.mem_cons_self)
  · by_cases b : p.2 = k
    · exact .inr (b ▸ List.mem_cons_self)
    · exact (h p (wo_mem.mpr ⟨hp, a, b⟩)).imp (List.mem_cons_of_mem _) (List.mem_cons_of_mem _)
theorem cov_erase {ps : Ps} {k : Nat} {C : List Nat} (h : Cov ps C) : Cov (wo ps k) (C.erase k) := fun p hp => by
  obtain ⟨h1, h2, h3⟩ := wo_mem.mp hp
  exact (h p h1).imp (fun q => (List.mem_erase_of_ne h2).mpr q) fun q => (List.mem_erase_of_ne h3).mpr q
theorem gr_first : ∀ (ks : List Nat) (ps : Ps), (∀ p ∈ ps, p.2 < 30) → Trn ps → ks.Pairwise (· < ·) → (∀ C, C.Nodup → Cov ps C → C.length = tau ps → Sub C ks) →
    Cov ps (gr (tau ps) ps ks) ∧ (gr (tau ps) ps ks).length = tau ps ∧ Sub (gr (tau ps) ps ks) ks ∧ (gr (tau ps) ps ks).Pairwise (· < ·) ∧
    ∀ l : List Nat, l.Pairwise (· < ·) → Cov ps l → l.length = tau ps → lexN l (gr (tau ps) ps ks) = false
  | [], ps, h, T, _, inv => by
    obtain ⟨C, h1, h2, h3⟩ := min_ex ps h T
    have e : C = [] := List.eq_nil_iff_forall_not_mem.mpr fun x hx => (nomatch inv C h1 h2 h3 x hx)
    subst e
    refine ⟨h2, h3, fun _ q => q, .nil, fun l _ _ _ => by cases l <;> rfl⟩
  | k :: ks, ps, h, T, hs, inv => by
    have hw : ∀ p ∈ wo ps k, p.2 < 30 := fun p hp => h p (wo_mem.mp hp).1
    have Tw := T.wo k
    obtain ⟨s1, s2⟩ := List.pairwise_cons.mp hs
    have nd : ∀ l : List Nat, l.Pairwise (· < ·) → l.Nodup := fun l hl => hl.imp fun a => Nat.ne_of_lt a
    unfold gr
    by_cases c : tau (wo ps k) < tau ps
    · rw [if_pos c]
      have e : tau ps = tau (wo ps k) + 1 := by
        obtain ⟨C, -, h2, h3⟩ := min_ex (wo ps k) hw Tw
        have := fls_low ps h T (k :: C) (cov_wo h2)
        rw [List.length_cons] at this
        show (fls ps).length = _
        have c' : (fls (wo ps k)).length < (fls ps).length := c
        have h3' : C.length = (fls (wo ps k)).length := h3
        show (fls ps).length = (fls (wo ps k)).length + 1
        omega
      have inv2 : ∀ C, C.Nodup → Cov (wo ps k) C → C.length = tau (wo ps k) → Sub C ks := fun C h1 h2 h3 x hx => by
        have hk : k ∉ C := fun q => by
          have c1 : Cov (wo ps k) (C.erase k) := fun p hp => by
            obtain ⟨a1, a2, a3⟩ := wo_mem.mp hp
            exact (h2 p hp).imp (fun q => (List.mem_erase_of_ne a2).mpr q) fun q => (List.mem_erase_of_ne a3).mpr q
          have := fls_low _ hw Tw _ c1
          rw [List.length_erase_of_mem q] at this
          have := List.length_pos_of_mem q
          have h3' : C.length = (fls (wo ps k)).length := h3
          omega
        have := inv (k :: C) (List.nodup_cons.mpr ⟨hk, h1⟩) (cov_wo h2) (by rw [List.length_cons, h3, e]) x (List.mem_cons_of_mem _ hx)
        exact (List.mem_cons.mp this).resolve_left fun q => hk (q ▸ hx)
      obtain ⟨g1, g2, g3, g4, g5⟩ := gr_first ks (wo ps k) hw Tw s2 inv2
      have e1 : tau ps - 1 = tau (wo ps k) := by omega
      rw [e1]
      refine ⟨cov_wo g1, by rw [List.length_cons, g2, e], fun x hx => (List.mem_cons.mp hx).elim (fun q => q ▸ List.mem_cons_self) fun q => List.mem_cons_of_mem _ (g3 x q), List.pairwise_cons.mpr ⟨fun x hx => s1 x (g3 x hx), g4⟩, fun l l1 l2 l3 => ?_⟩
      have lin := inv l (nd l l1) l2 l3
      cases l with
      | nil => rw [e] at l3; cases l3
      | cons x l =>
        obtain ⟨x1, x2⟩ := List.pairwise_cons.mp l1
        rcases List.mem_cons.mp (lin x List.mem_cons_self) with q | q
        · subst q
          have hx : x ∉ l := fun q => Nat.lt_irrefl _ (x1 x q)
          have c2 : Cov (wo ps x) l := fun p hp => by
            obtain ⟨a1, a2, a3⟩ := wo_mem.mp hp
            exact (l2 p a1).imp (fun q => (List.mem_cons.mp q).resolve_left a2) fun q => (List.mem_cons.mp q).resolve_left a3
          have := g5 l x2 c2 (by rw [List.length_cons] at l3; omega)
          simp [lexN, this]
        · have hx := s1 x q
          simp only [lexN]
          have a1 : ¬ x < k := by omega
          have a2 : ¬ x = k := by omega
          simp [a1, a2]
    · rw [if_neg c]
      have inv2 : ∀ C, C.Nodup → Cov ps C → C.length = tau ps → Sub C ks := fun C h1 h2 h3 x hx => by
        refine (List.mem_cons.mp (inv C h1 h2 h3 x hx)).resolve_left fun q => ?_
        subst q
        have := fls_low _ hw Tw _ (cov_erase (k := x) h2)
        rw [List.length_erase_of_mem hx] at this
        have := List.length_pos_of_mem hx
        have h3' : C.length = (fls ps).length := h3
        have c' : ¬ (fls (wo ps x)).length < (fls ps).length := c
        omega
      obtain ⟨g1, g2, g3, g4, g5⟩ := gr_first ks ps h T s2 inv2
      exact ⟨g1, g2, fun x hx => List.mem_cons_of_mem _ (g3 x hx), g4, g5⟩
/-- at the beginning: what is in no pair is in no least cover -/
theorem inv_start {ps : Ps} {n : Nat} (hn : ∀ p ∈ ps, p.1 < n ∧ p.2 < n) (h30 : ∀ p ∈ ps, p.2 < 30) (T : Trn ps) : ∀ C, C.Nodup → Cov ps C → C.length = tau ps → Sub C (List.range n) := fun C _ h2 h3 x hx => by
  rw [List.mem_range]
  refine Classical.byContradiction fun q => ?_
  have c1 : Cov ps (C.erase x) := fun p hp => by
    have := hn p hp
    exact (h2 p hp).imp (fun z => (List.mem_erase_of_ne (by omega)).mpr z) fun z => (List.mem_erase_of_ne (by omega)).mpr z
  have := fls_low _ h30 T _ c1
  rw [List.length_erase_of_mem hx] at this
  have := List.length_pos_of_mem hx
  have h3' : C.length = (fls ps).length := h3
  omega
end Lw

set_option Elab.async false
set_option linter.all false
set_option maxRecDepth 100000
namespace Lw
open PySem L2 Wl
/-- ranks that grow along the pairs -/
structure Ranked (ps : List (Nat × Nat)) (rk : Nat → Nat) : Prop where
  up : ∀ p ∈ ps, rk p.1 < rk p.2
  top : ∀ n, rk n ≤ 30
section
variable {P : Program} {w : World} {c : Cs} {μ : Mu} {Q : DV} {E : DX}
theorem last_at {xs : List Nat} {l : Nat} (h : xs.getLast? = some l) : atI (NatD xs) (-1) = some (.int l) := by
  have hne : xs ≠ [] := fun e => by rw [e] at h; cases h
  have hl : 0 < xs.length := List.length_pos_iff.mpr hne
  rw [List.getLast?_eq_getElem?] at h
  have e : ixN (NatD xs).length (-1) = some (xs.length - 1) := by
    unfold NatD ixN
    simp
    omega
  unfold atI
  rw [e]
  show (NatD xs)[xs.length - 1]? = _
  unfold NatD
  rw [List.getElem?_map, h]
  rfl
end
end Lw
namespace Lw
open PySem L2 Wl
theorem chf_len (F : Asc) : ∀ (f : Nat) (ch : List Nat), (chf F f ch).length ≤ ch.length + f
  | 0, ch => by simp [chf]
  | f + 1, ch => by
    unfold chf
    cases ch.getLast? with
    | none => simp
    | some l =>
      simp only
      cases lget F l with
      | none => simp
      | some o => have := chf_len F f (ch ++ [o]); simp at this ⊢; omega
theorem chf_ne (F : Asc) : ∀ (f : Nat) (ch : List Nat), ch ≠ [] → chf F f ch ≠ []
  | 0, ch, h => h
  | f + 1, ch, h => by
    unfold chf
    cases ch.getLast? with
    | none => exact h
    | some l =>
      simp only
      cases lget F l with
      | none => exact h
      | some o => exact chf_ne F f (ch ++ [o]) (by simp)
section
variable {P : Program} {w : World} {c : Cs} {μ : Mu} {Q : DV} {E : DX}
theorem m_chain {ps : List (Nat × Nat)} {rk : Nat → Nat} (hr : Ranked ps rk) {L : Asc} (hL : LOk (gof ps) L) {fw q : Addr} (hq : fw ≠ q) (hfw : μ fw = some (.dK (lkD (fwd L)))) {x0 x1 x3 x4 x5 : Option Dv} {D : DEnds} :
    ∀ (f : Nat) (ch : List Nat) (l : Nat), ch.getLast? = some l → 30 < f + rk l → ch.length + f ≤ 100 → D.nx [x0, x1, some (.ref fw), x3, x4, x5, some (.ref q)] (mset μ q (.lst (NatD (chf (fwd L) f ch)))) →
      sTimes (vTest (vDIn (vOp gIx (vV 6) (vUn gNeg (vC (.int 1)))) (vV 2))) (sDrop (vBM "list" gAppend (vV 6) (vCons (vDGet (vV 2) (vOp gIx (vV 6) (vUn gNeg (vC (.int 1))))) (vNil)))) (f + 1) D [x0, x1, some (.ref fw), x3, x4, x5, some (.ref q)] (mset μ q (.lst (NatD ch)))
  | 0, ch, l, _, h30, _, _ => by have := hr.top l; omega
  | f + 1, ch, l, hl, h30, hlen, hd => by
    have hz : 20000 < sizeLine := by decide
    have hF : ∀ ys, DAt (mset μ q (.lst ys)) fw (lkD (fwd L)) := fun ys => .inl (by rw [mset_off hq]; exact hfw)
    have hat := last_at hl
    unfold sTimes
    unfold chf at hd
    simp only [hl] at hd
    simp
    refine ⟨_, hat, ?_⟩
    rw [ino_I (hF _), val_lk]
    cases e : lget (fwd L) l with
    | none =>
      simp only [e] at hd
      simpa using hd
    | some o =>
      simp only [e] at hd
      simp
      refine ⟨(ty_ref mset_at).mpr rfl, _, hat, ?_⟩
      rw [dgt_I (hF _) (by rw [val_lk, e]; rfl)]
      refine ⟨NatD ch, mset_at, by unfold NatD; rw [List.length_map]; omega, ?_⟩
      have e2 : NatD ch ++ [(fun (n : Nat) => Dv.int n) o] = NatD (ch ++ [o]) := by unfold NatD; rw [List.map_append]; rfl
      rw [e2, mset_mset]
      have hm : (l, o) ∈ ps := by
        have h1 := hL.1 _ (fwd_mem e)
        unfold gof at h1
        obtain ⟨p, hp, e3⟩ := List.mem_map.mp h1
        have h2 := (List.mem_filter.mp hp)
        simp only [decide_eq_true_eq] at h2
        obtain ⟨a, b⟩ := p
        simp only at e3 h2
        rw [← e3, ← h2.2]; exact h2.1
      have hup := hr.up _ hm
      simp only at hup
      exact m_chain hr hL hq hfw f (ch ++ [o]) o (by simp) (by omega) (by simp; omega) hd
end
end Lw

set_option Elab.async false
set_option linter.all false
set_option maxRecDepth 100000
namespace Lw
open PySem L2 Wl
theorem rowP_mem {bs : List Bd} {i m : Nat} {p : Nat × Nat} (h : p ∈ rowP bs i m) : p.1 = i ∧ p.2 < m ∧ insAt bs i p.2 = true := by
  unfold rowP at h
  obtain ⟨j, hj, rfl⟩ := List.mem_map.mp h
  obtain ⟨h1, h2⟩ := List.mem_filter.mp hj
  exact ⟨rfl, List.mem_range.mp h1, h2⟩
theorem lps_mem {bs : List Bd} {p : Nat × Nat} (h : p ∈ lps bs) : p.2 < bs.length ∧ insAt bs p.1 p.2 = true := by
  unfold lps lpsN at h
  obtain ⟨i, hi, h2⟩ := List.mem_flatMap.mp h
  obtain ⟨h3, h4, h5⟩ := rowP_mem h2
  exact ⟨h4, by rw [h3]; exact h5⟩
def rkB (bs : List Bd) (n : Nat) : Nat := match bs[n]? with | some b => b.keys.cps.size | none => 0
theorem cut_m1 (x : Str) : cutS x none (some (-1)) = tx (x.cps.toList.take (x.cps.size - 1)) := by
  unfold cutS tx
  have e : HT.sIx x.length x.length (some (-1)) - HT.sIx x.length 0 none = x.cps.size - 1 := by
    unfold HT.sIx
    dsimp only
    rw [if_pos (by decide)]
    show ((-1 : Int) + (x.cps.size : Nat)).toNat - 0 = _
    omega
  rw [e]
  rfl
theorem cut_size (x : Str) : (cutS x none (some (-1))).length ≤ x.cps.size - 1 := by
  rw [cut_m1]
  show (tx _).cps.size ≤ _
  rw [tx_size, List.length_take]
  omega
theorem ranked (bs : List Bd) (hs : ∀ b ∈ bs, 1 ≤ b.keys.cps.size ∧ b.keys.cps.size ≤ 6) : Ranked (lps bs) (rkB bs) := by
  refine ⟨fun p hp => ?_, fun n => ?_⟩
  · obtain ⟨h1, h2⟩ := lps_mem hp
    unfold insAt at h2
    unfold rkB
    cases e1 : bs[p.1]? with
    | none => rw [e1] at h2; cases h2
    | some b =>
      cases e2 : bs[p.2]? with
      | none => rw [e1, e2] at h2; cases h2
      | some o =>
        rw [e1, e2] at h2
        simp only at h2 ⊢
        unfold insd at h2
        rw [Bool.and_eq_true, StrLaws.found_iff] at h2
        obtain ⟨i, hi, _⟩ := h2.2
        have hc := cut_size o.keys
        have ho := hs o (List.mem_of_getElem? e2)
        have : b.keys.length = b.keys.cps.size := rfl
        omega
  · unfold rkB
    cases e : bs[n]? with
    | none => exact Nat.zero_le _
    | some b => have := hs b (List.mem_of_getElem? e); simp only; omega
end Lw

set_option Elab.async false
set_option linter.all false
set_option maxRecDepth 100000
namespace Lw
open PySem L2 Wl
theorem chs_succ (L : Asc) (i : Nat) : chs L (i + 1) = chs L i ++ (if (lget L i).isNone = true then [chf (fwd L) 40 [i]] else []) := by
  unfold chs
  rw [List.range_succ, List.filter_append, List.map_append]
  congr 1
  by_cases h : (lget L i).isNone = true
  · rw [if_pos h]; simp only [List.filter_cons, h, if_true, List.filter_nil, List.map_cons, List.map_nil]
  · rw [if_neg h]; simp only [List.filter_cons, h, if_false, List.filter_nil, List.map_nil]; rfl
theorem chs_len (L : Asc) (i : Nat) : (chs L i).length ≤ i := by
  unfold chs
  rw [List.length_map]
  exact Nat.le_trans (List.length_filter_le _ _) (by rw [List.length_range]; exact Nat.le_refl _)
/-- lists that stand at places of their own -/
def chD (x : List Nat) : Dv := .lst (NatD x)
section
variable {P : Program} {w : World} {c : Cs} {μ : Mu} {Q : DV} {E : DX}
theorem m_find_chains (k : Addr) (ms : List Str) (wt : Int) (bs : List Bd) (hk : MapAt c μ k ms wt bs) (hl : bs.length ≤ 30) (hs : ∀ b ∈ bs, 1 ≤ b.keys.cps.size ∧ b.keys.cps.size ≤ 6)
    (q : ∀ μ', Gr μ μ' → Q (.lst ((chs (fls (lps bs)) bs.length).map chD)) μ') : sp_find_chains P w c [.ref k] μ Q E := by
  have hz : 20000 < sizeLine := by decide
  have hpl : (lps bs).length ≤ 1000 := by
    have := lpsN_len bs bs.length
    have h2 : bs.length * bs.length ≤ 30 * 30 := Nat.mul_le_mul hl hl
    unfold lps; omega
  have hps : ∀ p ∈ lps bs, p.2 < 30 := fun p hp => by have := (lps_mem hp).1; omega
  have hg : ∀ n, ∀ o ∈ gof (lps bs) n, o < 30 := fun n o ho => by
    unfold gof at ho
    obtain ⟨p, hp, rfl⟩ := List.mem_map.mp ho
    exact hps p (List.mem_filter.mp hp).1
  have hLOk : LOk (gof (lps bs)) (fls (lps bs)) := flk_ok hg _ _ (LOk.nil _)
  have hLlen := hLOk.len hg
  have hrk := ranked bs hs
  simp [sp_find_chains, T_find_chains, N_find_chains, dstart]
  refine m_late_pairs k ms wt bs hk hl hs ?_
  refine m_find_links (lps bs) hpl hps fun lnk μ1 g1 hlnk => ?_
  rw [e_DcK]
  refine ⟨lnk, _, hlnk, fun od ws => ?_⟩
  simp
  intro fw hfw
  have hlf : lnk ≠ fw := fun e => by rw [← e, mset_at] at hfw; cases hfw
  have hfw1 : μ1 fw = none := by rw [mset_off hlf.symm] at hfw; exact hfw
  refine m_fwd hLOk.2 hfw mset_at (fls (lps bs)) [] (fun _ h => h) (by simp; omega) ?_
  have hF : (fls (lps bs)).foldl (fun F p => lput F p.2 p.1) [] = fwd (fls (lps bs)) := rfl
  rw [hF]
  have hst : mset (mset (mset μ1 lnk (.fdK od (lkD (fls (lps bs))) ws)) fw (.dK (lkD (fwd (fls (lps bs)))))) lnk (.dK (lkD (fls (lps bs)))) = mset μ1 fw (.dK (lkD (fwd (fls (lps bs))))) := by
    rw [mset_comm hlf.symm, mset_mset, mset_id hlnk]
  rw [hst]
  intro p hp
  have hpf : p ≠ fw := fun e => by rw [e, mset_at] at hp; cases hp
  have hp1 : μ1 p = none := by rw [mset_off hpf] at hp; exact hp
  have hpl' : p ≠ lnk := fun e => by rw [e, hlnk] at hp1; cases hp1
  have hp0 : μ p = none := by
    cases e : μ p with
    | none => rfl
    | some m => rw [g1 _ _ e] at hp1; cases hp1
  have MA : ∀ μ', Gr μ μ' → MapAt c μ' k ms wt bs := fun μ' g => by
    obtain ⟨dx, h⟩ := hk
    exact ⟨dx, g _ _ h⟩
  have g2 : Gr μ (mset (mset μ1 fw (.dK (lkD (fwd (fls (lps bs)))))) p (.lst [])) := fun b m e => by
    have e1 := g1 b m e
    rw [mset_off (fun q => by rw [q, hp0] at e; cases e), mset_off (fun q => by rw [q, hfw1] at e1; cases e1)]; exact e1
  refine ⟨⟨_, _, (MA _ g2).choose_spec⟩, ?_⟩
  refine m_map_bindings (MA _ g2) ?_
  simp
  refine ⟨by omega, ?_⟩
  have hfw0 : μ fw = none := by
    cases e : μ fw with
    | none => rfl
    | some m => rw [g1 _ _ e] at hfw1; cases hfw1
  refine loop_inv _ (fun i δ μ' => (∃ l3 l5 l6 : Option Dv, δ = [some (.ref k), some (.ref lnk), some (.ref fw), l3, some (.ref p), l5, l6]) ∧ Gr μ μ' ∧ μ' lnk = some (.dK (lkD (fls (lps bs)))) ∧ μ' fw = some (.dK (lkD (fwd (fls (lps bs))))) ∧
      μ' p = some (.lst ((chs (fls (lps bs)) i).map chD))) 0 ⟨⟨_, none, none, rfl⟩, g2, by rw [mset_off hpl'.symm, mset_off hlf]; exact hlnk, by rw [mset_off hpf.symm, mset_at], by rw [mset_at]; rfl⟩ ?_ ?_
  · rintro i d δ μ' C hd ⟨⟨l3, l5, l6, rfl⟩, g, j1, j2, j3⟩ hC
    obtain ⟨hi, rfl⟩ := irange_at hd
    have hi' : i < bs.length := by simpa using hi
    simp only [Nat.zero_add] at j3 hC ⊢
    simp
    rw [nno_I (.inl j1), val_lk]
    cases e : lget (fls (lps bs)) i with
    | some n =>
      simp
      refine hC _ _ ⟨⟨_, _, _, rfl⟩, g, j1, j2, ?_⟩
      rw [chs_succ, e]
      simpa using j3
    | none =>
      simp
      refine ⟨by omega, ?_⟩
      intro z hz0
      have hzf : fw ≠ z := fun e => by rw [← e, j2] at hz0; cases hz0
      have hzp : p ≠ z := fun e => by rw [← e, j3] at hz0; cases hz0
      rw [s_While]
      refine ⟨41, m_chain hrk hLOk hzf j2 40 [i] i rfl (by omega) (by simp) ?_⟩
      have hcl := chs_len (fls (lps bs)) i
      simp
      refine ⟨(ty_ref (by rw [mset_off hzp]; exact j3)).mpr rfl, ?_⟩
      rw [mdel_mset hz0]
      refine ⟨_, j3, by rw [List.length_map]; omega, ?_⟩
      refine hC _ _ ⟨⟨_, _, _, rfl⟩, fun b m eb => ?_, ?_, ?_, ?_⟩
      · have h0 := g b m eb
        rw [mset_off (fun q => by rw [q, hp0] at eb; cases eb)]; exact h0
      · rw [mset_off hpl'.symm]; exact j1
      · rw [mset_off hpf.symm]; exact j2
      · rw [mset_at, chs_succ, e, List.map_append]; rfl
  · rintro δ μ' ⟨⟨l3, l5, l6, rfl⟩, g, j1, j2, j3⟩
    simp
    refine ⟨_, j3, ?_⟩
    have en : 0 + (irange 0 bs.length).length = bs.length := by simp [irange]
    rw [en]
    refine q _ fun b m eb => ?_
    have h0 := g b m eb
    rw [mdel_ne (fun q => by rw [q, hp0] at eb; cases eb)]; exact h0
end
end Lw

set_option Elab.async false
set_option linter.all false
set_option maxRecDepth 100000
namespace Lw
open PySem L2 Wl
theorem compN_at {vs : List Nat} {g : DG} {tt : DT} {te : DE} {δ : DSt} {μ : Mu} {A : Addr} {Qk : List Dv → Mu → Prop} (hA : μ A = none) (f : Dv → Option Dv) (ds : List Dv) (hl : ds.length ≤ sizeLine)
    (hb : ∀ d ∈ ds, ∀ (acc : List Dv) (C : Mu → Prop), acc.length < sizeLine → C (mset μ A (.lst (acc ++ (f d).toList))) →
      g d (dwipe δ vs) (mset μ A (.lst acc)) fun δ1 μ1 => tt δ1 μ1 fun b μ2 => if b = true then te δ1 μ2 fun y μ3 => ∃ acc, μ3 A = some (.lst acc) ∧ acc.length < sizeLine ∧ C (mset μ3 A (.lst (acc ++ [y]))) else C μ2)
    (q : Qk (ds.filterMap f) (mset μ A (.lst (ds.filterMap f)))) : vLoop vs g tt te δ A ds (mset μ A (.lst [])) Qk := by
  have main : ∀ (xs acc : List Dv), (∀ d ∈ xs, d ∈ ds) → acc.length + xs.length ≤ sizeLine → acc ++ xs.filterMap f = ds.filterMap f → vLoop vs g tt te δ A xs (mset μ A (.lst acc)) Qk := by
    intro xs
    induction xs with
    | nil =>
      intro acc _ _ e
      have e' : acc = ds.filterMap f := by simpa using e
      exact ⟨acc, mset_at, by rw [e']; exact q⟩
    | cons x xs ih =>
      intro acc hm hle e
      rw [List.length_cons] at hle
      refine hb x (hm x List.mem_cons_self) acc _ (by omega) (ih _ (fun d hd => hm d (List.mem_cons_of_mem _ hd)) ?_ ?_)
      · rw [List.length_append]
        have : (f x).toList.length ≤ 1 := by cases f x <;> simp
        omega
      · rw [← e, List.append_assoc]
        congr 1
        cases h : f x with
        | none => simp [List.filterMap_cons, h]
        | some y => simp [List.filterMap_cons, h]
  exact main ds [] (fun _ h => h) (by simpa using hl) rfl
theorem k_nl : kitB "NoneType" "list" = some false := by decide +kernel
theorem k_tl' : kitB "tuple" "list" = some false := by decide +kernel
def IntD (xs : List Int) : List Dv := xs.map Dv.int
def IntL (xs : List Int) : Dv := .lst (IntD xs)
def prI (ps : List (Nat × Nat)) (p : Int × Int) : Bool := ps.any fun q => decide ((q.1 : Int) = p.1 ∧ (q.2 : Int) = p.2)
def nb (xs : List Int) : List (Int × Int) := xs.zip (xs.drop 1)
def isCh (many : Int) (ps : List (Nat × Nat)) (xs : List Int) : Bool := !xs.isEmpty && xs.all (fun x => decide (0 ≤ x) && decide (x ≤ many - 1)) && (nb xs).all (prI ps)
theorem pairsD_nb : ∀ (xs ys : List Int), pairsD (IntD xs) (IntD ys) = (xs.zip ys).map fun p => Dv.tup [.int p.1, .int p.2]
  | [], ys => by simp [IntD, pairsD]
  | x :: xs, [] => by simp [IntD, pairsD]
  | x :: xs, y :: ys => by
    have := pairsD_nb xs ys
    simp [IntD] at this
    simp [IntD, pairsD, this]
theorem fm_int (f : Dv → Option Dv) (g : Int → Dv) (h : ∀ i, f (.int i) = some (g i)) : ∀ xs : List Int, (IntD xs).filterMap f = xs.map g
  | [] => rfl
  | x :: xs => by
    have := fm_int f g h xs
    unfold IntD at this ⊢
    rw [List.map_cons, List.filterMap_cons, h, List.map_cons, this]
theorem dcut_1 (xs : List Int) : dcut (IntD xs) (some 1) none = IntD (xs.drop 1) := by
  unfold dcut
  have e : HT.sIx (IntD xs).length 0 (some 1) = min 1 (IntD xs).length := by
    unfold HT.sIx
    dsimp only
    rw [if_neg (by decide)]
    rfl
  rw [e, HT.sIx_none]
  unfold IntD
  rw [List.map_drop]
  cases xs with
  | nil => simp
  | cons x xs =>
    have : min 1 ((x :: xs).map Dv.int).length = 1 := by simp
    rw [this]
    rw [List.take_of_length_le]
    simp
theorem in_pairs (ps : List (Nat × Nat)) (i j : Int) : inOk (.tup [.int i, .int j]) (ps.map pairD) ∧ dIn (.tup [.int i, .int j]) (ps.map pairD) = prI ps (i, j) := by
  have hx : Cln 1 (.tup [.int i, .int j]) = true := rfl
  have hy : (ps.map pairD).all (Cln 1) = true := by
    rw [List.all_eq_true]
    intro d hd
    obtain ⟨p, _, rfl⟩ := List.mem_map.mp hd
    rfl
  obtain ⟨h1, h2⟩ := cln_in (n := 1) (m := 1) hx hy (by decide)
  refine ⟨h1, ?_⟩
  rw [Bool.eq_iff_iff, h2]
  unfold prI
  rw [List.any_eq_true, List.mem_map]
  constructor
  · rintro ⟨p, hp, e⟩
    unfold pairD at e
    injection e with e
    injection e with e1 e
    injection e with e2 _
    injection e1 with e1
    injection e2 with e2
    exact ⟨p, hp, by simp [e1, e2]⟩
  · rintro ⟨p, hp, e⟩
    simp only [decide_eq_true_eq] at e
    exact ⟨p, hp, by unfold pairD; rw [e.1, e.2]⟩
theorem bools_map {α : Type} (f : α → Bool) (xs : List α) : boolsD (xs.map fun x => Dv.bl (f x)) = some (xs.map f) := by
  induction xs with
  | nil => rfl
  | cons x xs ih => rw [List.map_cons]; simp only [boolsD, ih]; rfl
section
variable {P : Program} {w : World} {c : Cs} {μ : Mu} {Q : DV} {E : DX}
theorem m_is_chain (xs : List Int) (many : Int) (ps : List (Nat × Nat)) (hl : xs.length ≤ 1000) (q : Q (.bl (isCh many ps xs)) μ) : sp_is_chain P w c [IntL xs, .int many, .lst (ps.map pairD)] μ Q E := by
  have hz : 20000 < sizeLine := by decide
  have hI : (IntD xs).length = xs.length := by unfold IntD; rw [List.length_map]
  simp [sp_is_chain, T_is_chain, N_is_chain, dstart, IntL, hI]
  refine ⟨_, rfl, .inr ⟨kit_lst, ?_⟩⟩
  have hok : eqOk (.int (xs.length : Nat)) (.int 0) := cln_ok (n := 0) (m := 0) rfl rfl (by decide)
  have hq := cln_eq 0 0 (.int (xs.length : Nat)) (.int 0) rfl rfl
  refine ⟨hok, ?_⟩
  by_cases he : xs = []
  · subst he
    rw [if_pos (hq.mpr rfl)]
    exact q
  · have hpos : 0 < xs.length := List.length_pos_iff.mpr he
    rw [if_neg (fun e => by have := hq.mp e; injection this with this; omega)]
    intro A hA
    refine compN_at hA (fun d => match d with | .int i => some (.bl (decide (0 ≤ i) && decide (i ≤ many - 1))) | _ => none) _ (by rw [hI]; omega) ?_ ?_
    · intro d hd acc C hla hC
      unfold IntD at hd
      obtain ⟨i, _, rfl⟩ := List.mem_map.mp hd
      simp [dwipe]
      refine m_is_number i 0 (many - 1) ?_
      simp
      exact ⟨hla, by simpa using hC⟩
    · rw [fm_int _ (fun i => Dv.bl (decide (0 ≤ i) && decide (i ≤ many - 1))) (fun _ => rfl)]
      refine ⟨_, bools_map _ xs, ?_⟩
      rw [mdel_mset hA]
      have hne : xs.isEmpty = false := by simpa using he
      by_cases h2 : xs.all (fun x => decide (0 ≤ x) && decide (x ≤ many - 1)) = true
      · have h3 : ¬ false ∈ xs.map (fun x => decide (0 ≤ x) && decide (x ≤ many - 1)) := fun e => by
          obtain ⟨x, hx, e2⟩ := List.mem_map.mp e
          rw [List.all_eq_true.mp h2 x hx] at e2; cases e2
        rw [if_neg h3]
        intro B hB
        rw [dcut_1, pairsD_nb]
        have hnl : (nb xs).length ≤ 1000 := by unfold nb; rw [List.length_zip]; omega
        refine compG_at hB (fun d => match d with | .tup [.int i, .int j] => some (.bl (prI ps (i, j))) | _ => none) _ (by rw [List.length_map]; unfold nb at hnl; omega) (fun _ => trivial) ?_ ?_
        · intro d hd acc C hla hC
          obtain ⟨p, _, rfl⟩ := List.mem_map.mp hd
          obtain ⟨k1, k2⟩ := in_pairs ps p.1 p.2
          simp [dwipe, gIn]
          refine ⟨k1, hla, ?_⟩
          rw [k2]
          simpa using hC
        · have e2 : ((xs.zip (xs.drop 1)).map fun p => Dv.tup [.int p.1, .int p.2]).filterMap (fun d => match d with | .tup [.int i, .int j] => some (Dv.bl (prI ps (i, j))) | _ => none) = (nb xs).map fun p => Dv.bl (prI ps p) := by
            unfold nb
            induction xs.zip (xs.drop 1) with
            | nil => rfl
            | cons p l ih => rw [List.map_cons, List.filterMap_cons, List.map_cons]; simp only [ih]
          rw [e2]
          refine ⟨_, bools_map _ _, ?_⟩
          rw [mdel_mset hB]
          have e3 : ((nb xs).map (prI ps)).all id = isCh many ps xs := by
            unfold isCh
            rw [hne, h2, List.all_map]
            simp [Function.comp_def]
          have e4 : ((nb xs).map fun p => prI ps p).all id = isCh many ps xs := e3
          rw [e4]; exact q
      · have h3 : false ∈ xs.map (fun x => decide (0 ≤ x) && decide (x ≤ many - 1)) := by
          rw [List.all_eq_true] at h2
          have ⟨x, hx⟩ := Classical.not_forall.mp h2
          have ⟨hx1, hx2⟩ := Classical.not_imp.mp hx
          exact List.mem_map.mpr ⟨x, hx1, by simpa using hx2⟩
        rw [if_pos h3]
        have e3 : isCh many ps xs = false := by
          unfold isCh
          have : xs.all (fun x => decide (0 ≤ x) && decide (x ≤ many - 1)) = false := by simpa using h2
          rw [this]; simp
        rw [e3] at q; exact q
end
end Lw

set_option Elab.async false
set_option linter.all false
set_option maxRecDepth 100000
namespace Lw
open PySem L2 Wl
open PySem.W (alike alikeAll dataLt AlikeAll minD keyToks keyToksAll dataLt_all_yes dataLt_all_no dataLt_int dataLt_list dataLt_tuple)
/-! all choices in their order, and the least of the good ones -/
def rowsN : Nat → List (List Nat)
  | 0 => [[]]
  | n + 1 => rowsN n ++ (rowsN n).map fun l => l ++ [n]
theorem rowsN_asc : ∀ (n : Nat) (l : List Nat), l ∈ rowsN n → l.Pairwise (· < ·) ∧ ∀ x ∈ l, x < n
  | 0, l, h => by
    rw [List.mem_singleton.mp h]
    exact ⟨.nil, fun _ q => (nomatch q)⟩
  | n + 1, l, h => by
    rcases List.mem_append.mp h with q | q
    · obtain ⟨a, b⟩ := rowsN_asc n l q
      exact ⟨a, fun x hx => Nat.lt_succ_of_lt (b x hx)⟩
    · obtain ⟨l', h', rfl⟩ := List.mem_map.mp q
      obtain ⟨a, b⟩ := rowsN_asc n l' h'
      refine ⟨List.pairwise_append.mpr ⟨a, List.pairwise_singleton _ _, fun x hx y hy => by rw [List.mem_singleton.mp hy]; exact b x hx⟩, fun x hx => ?_⟩
      rcases List.mem_append.mp hx with z | z
      · exact Nat.lt_succ_of_lt (b x z)
      · rw [List.mem_singleton.mp z]; exact Nat.lt_succ_self _
theorem rowsN_all : ∀ (n : Nat) (l : List Nat), l.Pairwise (· < ·) → (∀ x ∈ l, x < n) → l ∈ rowsN n
  | 0, l, _, h => by
    have : l = [] := List.eq_nil_iff_forall_not_mem.mpr fun x hx => Nat.not_lt_zero _ (h x hx)
    rw [this]; exact List.mem_singleton.mpr rfl
  | n + 1, l, hp, h => by
    by_cases hn : n ∈ l
    · have hne : l ≠ [] := fun q => by rw [q] at hn; cases hn
      have e := (List.dropLast_concat_getLast hne).symm
      have hp2 := hp
      rw [e, List.pairwise_append] at hp2
      obtain ⟨p1, -, p3⟩ := hp2
      have hl : l.getLast hne = n := by
        have z := h _ (List.getLast_mem hne)
        rw [e] at hn
        rcases List.mem_append.mp hn with q | q
        · have := p3 n q _ (List.mem_singleton.mpr rfl)
          omega
        · exact (List.mem_singleton.mp q).symm
      refine List.mem_append_right _ (List.mem_map.mpr ⟨l.dropLast, rowsN_all n _ p1 fun x hx => ?_, by rw [hl] at e; exact e.symm⟩)
      have := p3 x hx _ (List.mem_singleton.mpr rfl)
      rw [hl] at this
      exact this
    · exact List.mem_append_left _ (rowsN_all n l hp fun x hx => by
        have := h x hx
        have : x ≠ n := fun q => hn (q ▸ hx)
        omega)
theorem rowsN_len : ∀ n : Nat, (rowsN n).length = 2 ^ n
  | 0 => rfl
  | n + 1 => by
    show (rowsN n ++ (rowsN n).map fun l => l ++ [n]).length = _
    rw [List.length_append, List.length_map, rowsN_len n, Nat.pow_succ]
    omega
/-! the order of (number, list) -/
theorem lexN_irr : ∀ a : List Nat, lexN a a = false
  | [] => rfl
  | x :: a => by simp [lexN, lexN_irr a]
theorem lexN_trans : ∀ a b d : List Nat, lexN a b = true → lexN b d = true → lexN a d = true
  | a, [], _, h, _ => by cases a <;> cases h
  | _, _ :: _, [], _, h => by cases h
  | [], _ :: _, _ :: _, _, _ => rfl
  | x :: a, y :: b, z :: d, h1, h2 => by
    simp only [lexN, Bool.or_eq_true, Bool.and_eq_true, decide_eq_true_eq] at h1 h2 ⊢
    rcases h1 with h1 | ⟨rfl, h1⟩
    · rcases h2 with h2 | ⟨rfl, h2⟩
      · exact .inl (by omega)
      · exact .inl h1
    · rcases h2 with h2 | ⟨rfl, h2⟩
      · exact .inl h2
      · exact .inr ⟨rfl, lexN_trans a b d h1 h2⟩
theorem lexN_tri : ∀ a b : List Nat, lexN a b = false → lexN b a = false → a = b
  | [], [], _, _ => rfl
  | [], _ :: _, h, _ => by cases h
  | _ :: _, [], _, h => by cases h
  | x :: a, y :: b, h1, h2 => by
    simp only [lexN, Bool.or_eq_false_iff, Bool.and_eq_false_iff, decide_eq_false_iff_not] at h1 h2
    have e : x = y := by omega
    subst e
    rw [lexN_tri a b (h1.2.resolve_left fun q => q rfl) (h2.2.resolve_left fun q => q rfl)]
abbrev Rk := Nat × List Nat
def pl (a b : Rk) : Bool := decide (a.1 < b.1) || (decide (a.1 = b.1) && lexN a.2 b.2)
theorem pl_irr (a : Rk) : pl a a = false := by simp [pl, lexN_irr]
theorem pl_trans (a b d : Rk) (h1 : pl a b = true) (h2 : pl b d = true) : pl a d = true := by
  simp only [pl, Bool.or_eq_true, Bool.and_eq_true, decide_eq_true_eq] at h1 h2 ⊢
  rcases h1 with h1 | ⟨e1, h1⟩
  · rcases h2 with h2 | ⟨e2, h2⟩
    · exact .inl (by omega)
    · exact .inl (by omega)
  · rcases h2 with h2 | ⟨e2, h2⟩
    · exact .inl (by omega)
    · exact .inr ⟨by omega, lexN_trans _ _ _ h1 h2⟩
def mn (x : Rk) (xs : List Rk) : Rk := xs.foldl (fun a y => if pl y a = true then y else a) x
theorem mn_spec : ∀ (xs : List Rk) (x : Rk), mn x xs ∈ x :: xs ∧ (∀ z, pl z x = false → pl z (mn x xs) = false) ∧ ∀ z ∈ x :: xs, pl z (mn x xs) = false := by
  intro xs
  induction xs with
  | nil => exact fun x => ⟨List.mem_singleton.mpr rfl, fun _ h => h, fun z hz => by rw [List.mem_singleton.mp hz]; exact pl_irr x⟩
  | cons y xs ih =>
    intro x
    have e : mn x (y :: xs) = mn (if pl y x = true then y else x) xs := rfl
    rw [e]
    obtain ⟨a, b, d⟩ := ih (if pl y x = true then y else x)
    have down : ∀ z, pl z x = false → pl z (if pl y x = true then y else x) = false := fun z hz => by
      by_cases h : pl y x = true
      · rw [if_pos h]
        cases q : pl z y with
        | false => rfl
        | true => rw [pl_trans z y x q h] at hz; cases hz
      · rw [if_neg h]; exact hz
    refine ⟨?_, fun z hz => b z (down z hz), fun z hz => ?_⟩
    · rcases List.mem_cons.mp a with q | q
      · rw [q]
        by_cases h : pl y x = true
        · rw [if_pos h]; exact List.mem_cons_of_mem _ List.mem_cons_self
        · rw [if_neg h]; exact List.mem_cons_self
      · exact List.mem_cons_of_mem _ (List.mem_cons_of_mem _ q)
    · rcases List.mem_cons.mp hz with q | q
      · exact b z (down z (q ▸ pl_irr x))
      · rcases List.mem_cons.mp q with q | q
        · subst q
          by_cases h : pl z x = true
          · exact b z (by rw [if_pos h]; exact pl_irr z)
          · exact b z (by rw [if_neg h]; simpa using h)
        · exact d z (List.mem_cons_of_mem _ q)
/-! the same order by the data -/
def rkD (r : Rk) : Dv := .tup [.int r.1, .lst (NatD r.2)]
theorem lx0 : PyProof.Rows.lexLt PyProof.Rows.itemOrd (keyToksAll []) (keyToksAll []) = false := by decide +kernel
theorem lx1 (y : PyData) (ys : List PyData) : PyProof.Rows.lexLt PyProof.Rows.itemOrd (keyToksAll []) (keyToksAll (y :: ys)) = true := by
  show PyProof.Rows.lexLt PyProof.Rows.itemOrd (Sum.inl 0 :: []) (Sum.inl 1 :: _) = true
  rw [PyProof.Rows.lex_diff (O := PyProof.Rows.itemOrd) (by decide)]
  decide +kernel
theorem lx2 (y : PyData) (ys : List PyData) : PyProof.Rows.lexLt PyProof.Rows.itemOrd (keyToksAll (y :: ys)) (keyToksAll []) = false := by
  show PyProof.Rows.lexLt PyProof.Rows.itemOrd (Sum.inl 1 :: _) (Sum.inl 0 :: []) = false
  rw [PyProof.Rows.lex_diff (O := PyProof.Rows.itemOrd) (by decide)]
  decide +kernel
theorem lx_int (x y : Int) (xs ys : List PyData) : PyProof.Rows.lexLt PyProof.Rows.itemOrd (keyToksAll (.int x :: xs)) (keyToksAll (.int y :: ys)) = (decide (x < y) || (decide (x = y) && PyProof.Rows.lexLt PyProof.Rows.itemOrd (keyToksAll xs) (keyToksAll ys))) := by
  by_cases e : x = y
  · subst e
    rw [dataLt_all_yes (by simp [alike]) (by simp [PyData.eqv])]
    simp
  · rw [dataLt_all_no (by simp [alike]) (by simp [PyData.eqv, e]), dataLt_int]
    simp [e]
theorem lx_nats : ∀ a b : List Nat, PyProof.Rows.lexLt PyProof.Rows.itemOrd (keyToksAll (Dv.pds (NatD a))) (keyToksAll (Dv.pds (NatD b))) = lexN a b
  | [], [] => lx0
  | [], _ :: _ => lx1 _ _
  | _ :: _, [] => lx2 _ _
  | x :: a, y :: b => by
    show PyProof.Rows.lexLt PyProof.Rows.itemOrd (keyToksAll (.int x :: Dv.pds (NatD a))) (keyToksAll (.int y :: Dv.pds (NatD b))) = _
    rw [lx_int, lx_nats a b]
    have e1 : decide ((x : Int) < (y : Int)) = decide (x < y) := decide_eq_decide.mpr (by omega)
    have e2 : decide ((x : Int) = (y : Int)) = decide (x = y) := decide_eq_decide.mpr (by omega)
    rw [e1, e2]
    rfl
theorem alike_nats : ∀ a b : List Nat, alikeAll (Dv.pds (NatD a)) (Dv.pds (NatD b)) = true
  | [], _ => by simp [NatD, Dv.pds, alikeAll]
  | _ :: _, [] => by simp [NatD, Dv.pds, alikeAll]
  | x :: a, y :: b => by
    show alikeAll (.int x :: Dv.pds (NatD a)) (.int y :: Dv.pds (NatD b)) = true
    rw [alikeAll, alike_nats a b]
    simp [alike]
theorem lt_rk (a b : Rk) : dataLt (rkD a).pd (rkD b).pd = pl a b := by
  show dataLt (.tuple [.int a.1, .list (Dv.pds (NatD a.2))]) (.tuple [.int b.1, .list (Dv.pds (NatD b.2))]) = _
  rw [dataLt_tuple, lx_int]
  have e1 : decide ((a.1 : Int) < (b.1 : Int)) = decide (a.1 < b.1) := decide_eq_decide.mpr (by omega)
  have e2 : decide ((a.1 : Int) = (b.1 : Int)) = decide (a.1 = b.1) := decide_eq_decide.mpr (by omega)
  have e3 : PyProof.Rows.lexLt PyProof.Rows.itemOrd (keyToksAll [.list (Dv.pds (NatD a.2))]) (keyToksAll [.list (Dv.pds (NatD b.2))]) = lexN a.2 b.2 := by
    have al : alike (.list (Dv.pds (NatD a.2))) (.list (Dv.pds (NatD b.2))) = true := by rw [alike]; exact alike_nats _ _
    cases q : PyData.eqv (.list (Dv.pds (NatD a.2))) (.list (Dv.pds (NatD b.2))) with
    | true =>
      rw [dataLt_all_yes al q, lx0]
      have t := ((PySem.W.toks_eqv _ _ al).1 q)
      have t2 : dataLt (.list (Dv.pds (NatD a.2))) (.list (Dv.pds (NatD b.2))) = false := by
        unfold dataLt
        rw [t]
        exact PyProof.Rows.lex_irrefl (O := PyProof.Rows.itemOrd) _
      rw [dataLt_list, lx_nats] at t2
      exact t2.symm
    | false =>
      rw [dataLt_all_no al q, dataLt_list, lx_nats]
  rw [e1, e2, e3]
  rfl
theorem minD_rk (xs : List Rk) : ∀ x : Rk, minD (rkD x).pd (Dv.pds (xs.map rkD)) = (rkD (mn x xs)).pd := by
  induction xs with
  | nil => exact fun _ => rfl
  | cons y xs ih =>
    intro x
    have e : minD (rkD x).pd (Dv.pds ((y :: xs).map rkD)) = minD (if dataLt (rkD y).pd (rkD x).pd = true then (rkD y).pd else (rkD x).pd) (Dv.pds (xs.map rkD)) := rfl
    rw [e, lt_rk]
    have e2 : (if pl y x = true then (rkD y).pd else (rkD x).pd) = (rkD (if pl y x = true then y else x)).pd := by split <;> rfl
    rw [e2, ih]
    rfl
def rk (l : List Nat) : Rk := (l.length, l)
/-- the least of the good choices is the greedy one -/
theorem least {ps : Ps} {n : Nat} (hn : ∀ p ∈ ps, p.1 < n ∧ p.2 < n) (h30 : ∀ p ∈ ps, p.2 < 30) (T : Trn ps) {good : List (List Nat)} (hg : ∀ l, l ∈ good ↔ l ∈ rowsN n ∧ Cov ps l) :
    ∃ x xs, good = x :: xs ∧ mn (rk x) (xs.map rk) = rk (gr (tau ps) ps (List.range n)) := by
  have hr : (List.range n).Pairwise (· < ·) := List.pairwise_lt_range
  obtain ⟨g1, g2, g3, g4, g5⟩ := gr_first (List.range n) ps h30 T hr (inv_start hn h30 T)
  have hG : gr (tau ps) ps (List.range n) ∈ good := (hg _).mpr ⟨rowsN_all n _ g4 fun x hx => List.mem_range.mp (g3 x hx), g1⟩
  cases good with
  | nil => cases hG
  | cons x xs =>
    refine ⟨x, xs, rfl, ?_⟩
    obtain ⟨m1, -, m3⟩ := mn_spec (xs.map rk) (rk x)
    have e : rk x :: xs.map rk = (x :: xs).map rk := rfl
    rw [e] at m1 m3
    obtain ⟨l, hl, el⟩ := List.mem_map.mp m1
    have k := m3 _ (List.mem_map.mpr ⟨_, hG, rfl⟩)
    rw [← el] at k ⊢
    obtain ⟨l1, l2⟩ := (hg l).mp hl
    obtain ⟨a1, -⟩ := rowsN_asc n l l1
    have low := fls_low ps h30 T l l2
    simp only [pl, rk, Bool.or_eq_false_iff, Bool.and_eq_false_iff, decide_eq_false_iff_not] at k
    have g2' : (gr (tau ps) ps (List.range n)).length = (fls ps).length := g2
    have kk1 := of_decide_eq_false k.1
    have el2 : l.length = tau ps := by show l.length = (fls ps).length; omega
    have k2 := k.2.resolve_left fun q => absurd (by omega) (of_decide_eq_false q)
    rw [lexN_tri _ _ (g5 l a1 l2 el2) k2]
end Lw

set_option Elab.async false
set_option linter.all false
set_option maxRecDepth 100000
namespace Lw
open PySem L2 Wl
/-- lists of whole numbers, in a list that may change -/
def ChAt (μ : Mu) (v : Dv) (xss : List (List Int)) : Prop := v = .lst (xss.map IntL) ∨ ∃ a, v = .ref a ∧ μ a = some (.lst (xss.map IntL))
def rgI (n : Nat) : List Int := (List.range n).map fun (i : Nat) => (i : Int)
theorem irange_I (n : Nat) : irange 0 n = IntD (rgI n) := by
  unfold irange IntD rgI
  rw [List.map_map]
  refine List.map_congr_left fun i _ => ?_
  simp
def judgeR (many : Nat) (ps : List (Nat × Nat)) (xss : List (List Int)) : Dv := if xss.all (isCh many ps) = true ∧ xss.flatten.Perm (rgI many) then .int (many - xss.length) else .non
theorem rgI_sorted (n : Nat) : (rgI n).Pairwise (· ≤ ·) := by
  unfold rgI
  rw [List.pairwise_map]
  exact List.Pairwise.imp (fun h => by omega) List.pairwise_lt_range
theorem sort_rg {ns xs : List Int} {n : Nat} (h1 : ns.Perm xs) (h2 : ns.Pairwise (· ≤ ·)) : ns = rgI n ↔ xs.Perm (rgI n) := by
  constructor
  · intro e; rw [← e]; exact h1.symm
  · intro e
    exact List.Perm.eq_of_pairwise (fun a b _ _ x y => Int.le_antisymm x y) h2 (rgI_sorted n) (h1.trans e)
theorem cln_ints (xs : List Int) : Cln 1 (IntL xs) = true := by
  unfold IntL IntD
  show (xs.map Dv.int).all (Cln 0) = true
  rw [List.all_eq_true]
  intro d hd
  obtain ⟨i, _, rfl⟩ := List.mem_map.mp hd
  rfl
theorem intL_inj {xs ys : List Int} : IntL xs = IntL ys ↔ xs = ys := by
  constructor
  · intro h
    unfold IntL IntD at h
    injection h with h
    exact (List.map_inj_right (fun a b e => by injection e)).mp h
  · rintro rfl; rfl
section
variable {P : Program} {w : World} {c : Cs} {μ : Mu} {Q : DV} {E : DX}
theorem ChAt.set {v : Dv} {xss : List (List Int)} (h : ChAt μ v xss) {p : Addr} (hp : μ p = none) (m : Mo) : ChAt (mset μ p m) v xss := by
  rcases h with h | ⟨a, h, h2⟩
  · exact .inl h
  · exact .inr ⟨a, h, by rw [mset_off (fun e => by rw [e, hp] at h2; cases h2)]; exact h2⟩
theorem ChAt.wan {v : Dv} {xss : List (List Int)} (h : ChAt μ v xss) {p : Addr} (hp : μ p = none) {m : Mo} {Q : List Dv → (Mu → Prop) → Mu → Prop} (q : ∀ G, (∀ m, G (mset μ p m)) → Q (xss.map IntL) G (mset μ p m)) : Wl.wan v (mset μ p m) Q := by
  rcases h with h | ⟨a, h, h2⟩
  · rw [h, wan_lst]; exact q _ fun _ => trivial
  · have hap : a ≠ p := fun e => by rw [e, hp] at h2; cases h2
    rw [h, wan_ref]
    exact ⟨_, by rw [mset_off hap]; exact h2, q _ fun m => by rw [mset_off hap]; exact h2⟩
theorem ChAt.len {v : Dv} {xss : List (List Int)} (h : ChAt μ v xss) {Q : DV} (q : Q (.int xss.length) μ) : gLen1 v μ Q := by
  rcases h with h | ⟨a, h, h2⟩
  · rw [h, len_lst]; simpa using q
  · rw [h, len_ref]; exact ⟨_, h2, by simpa using q⟩
theorem ChAt.ty {v : Dv} {xss : List (List Int)} (h : ChAt μ v xss) : tyName v μ = some "list" := by
  rcases h with h | ⟨a, h, h2⟩
  · rw [h]; rfl
  · rw [h]; simp only [tyName, h2]
theorem m_judge_none (k : Addr) (v : Dv) (n : String) (hv : tyName v μ = some n) (hn : kitB n "list" = some false) (q : Q .non μ) : sp_judge_chains P w c [.ref k, v] μ Q E := by
  simp [sp_judge_chains, T_judge_chains, N_judge_chains, dstart]
  exact ⟨n, hv, .inl ⟨hn, q⟩⟩
theorem m_judge (k : Addr) (ms : List Str) (wt : Int) (bs : List Bd) (v : Dv) (xss : List (List Int)) (hk : MapAt c μ k ms wt bs) (hl : bs.length ≤ 30) (hs : ∀ b ∈ bs, 1 ≤ b.keys.cps.size ∧ b.keys.cps.size ≤ 6) (hv : ChAt μ v xss) (hx : ∀ xs ∈ xss, xs.length ≤ 1000) (hxl : xss.length ≤ 100)
    (q : ∀ μ', Gr μ μ' → Q (judgeR bs.length (lps bs) xss) μ') : sp_judge_chains P w c [.ref k, v] μ Q E := by
  have hz : 200000 < sizeLine := by decide
  simp [sp_judge_chains, T_judge_chains, N_judge_chains, dstart]
  refine ⟨_, hv.ty, .inr ⟨kit_lst, ⟨_, _, hk.choose_spec⟩, ?_⟩⟩
  refine m_map_bindings hk ?_
  simp
  refine m_late_pairs k ms wt bs hk hl hs ?_
  intro p hp
  refine hv.wan hp fun G hG => ?_
  refine loopG_inv _ (fun i δ μ' => (∃ l5 : Option Dv, δ = [some (.ref k), some v, some (.int bs.length), some (.lst ((lps bs).map pairD)), some (.ref p), l5]) ∧ μ' = mset μ p (.lst (IntD (xss.take i).flatten)) ∧ (xss.take i).all (isCh bs.length (lps bs)) = true ∧ (xss.take i).flatten.length ≤ 1000 * i) 0
    ⟨⟨none, rfl⟩, rfl, rfl, by simp⟩ (fun i δ μ' h => by rw [h.2.1]; exact hG _) ?_ ?_
  · rintro i d δ μ' C hd ⟨⟨l5, rfl⟩, rfl, j1, j2⟩ hC
    rw [List.getElem?_map] at hd
    cases hm : xss[i]? with
    | none => rw [hm] at hd; cases hd
    | some xs =>
      rw [hm] at hd
      cases hd
      have hi : i < xss.length := (List.getElem?_eq_some_iff.mp hm).1
      have hxs := hx xs (List.mem_of_getElem? hm)
      simp only [Nat.zero_add] at j1 j2 hC ⊢
      have etk : xss.take (i + 1) = xss.take i ++ [xs] := by rw [List.take_add_one, hm]; rfl
      simp
      refine m_is_chain xs bs.length (lps bs) hxs ?_
      cases hc : isCh bs.length (lps bs) xs with
      | false =>
        simp
        have e : judgeR bs.length (lps bs) xss = .non := by
          unfold judgeR
          rw [if_neg]
          rintro ⟨h1, _⟩
          rw [List.all_eq_true] at h1
          rw [h1 xs (List.mem_of_getElem? hm)] at hc; cases hc
        rw [← e]
        exact q _ (Gr.new hp)
      | true =>
        simp
        refine ⟨(ty_ref mset_at).mpr rfl, IntD (xss.take i).flatten, mset_at, by unfold IntD; rw [List.length_map, List.length_map]; omega, ?_⟩
        refine hC _ _ ⟨⟨_, rfl⟩, ?_, ?_, ?_⟩
        · rw [mset_mset, etk, List.flatten_append]
          unfold IntD
          rw [List.map_append]
          simp
        · rw [etk, List.all_append, j1]; simp [hc]
        · rw [etk, List.flatten_append, List.length_append, show [xs].flatten = xs by simp]; omega
  · rintro δ μ' ⟨⟨l5, rfl⟩, rfl, j1, j2⟩
    have hn : 0 + (xss.map IntL).length = xss.length := by simp
    rw [hn, List.take_length] at j1 j2
    rw [hn, List.take_length]
    dsimp only
    simp
    refine ⟨xss.flatten, pl_ref mset_at, fun ns hp1 hp2 => ?_⟩
    refine ⟨RgOk.of_le (by omega) (by omega) (by omega) (by omega), ?_⟩
    rw [irange_I]
    have hc1 := cln_ints ns
    have hc2 := cln_ints (rgI bs.length)
    refine ⟨cln_ok (n := 1) (m := 1) hc1 hc2 (by decide), ?_⟩
    have hq := cln_eq 1 1 _ _ hc1 hc2
    rw [intL_inj, sort_rg hp1 hp2] at hq
    by_cases hperm : xss.flatten.Perm (rgI bs.length)
    · have h1 : dEq (.lst (ns.map Dv.int)) (.lst (IntD (rgI bs.length))) = true := hq.mpr hperm
      rw [if_pos h1]
      refine hv.set hp _ |>.len ?_
      simp
      have e : judgeR bs.length (lps bs) xss = .int (bs.length - xss.length) := by unfold judgeR; rw [if_pos ⟨j1, hperm⟩]
      rw [← e]
      exact q _ (Gr.new hp)
    · have h1 : ¬ dEq (.lst (ns.map Dv.int)) (.lst (IntD (rgI bs.length))) = true := fun h => hperm (hq.mp h)
      rw [if_neg h1]
      have e : judgeR bs.length (lps bs) xss = .non := by unfold judgeR; rw [if_neg]; exact fun h => hperm h.2
      rw [← e]
      exact q _ (Gr.new hp)
end
end Lw

set_option Elab.async false
set_option linter.all false
set_option maxRecDepth 100000
namespace Lw
open PySem L2 Wl
/-! lateness is passed on -/
theorem insd_iff (b o : Bd) : insd b o = true ↔ b.mode = o.mode ∧ b.keys.cps.toList <:+: o.keys.cps.toList.take (o.keys.cps.size - 1) := by
  unfold insd
  rw [Bool.and_eq_true, decide_eq_true_eq, StrLaws.found_iff, cut_m1]
  refine and_congr_right fun _ => ?_
  have hlen : (tx (o.keys.cps.toList.take (o.keys.cps.size - 1))).length = (o.keys.cps.toList.take (o.keys.cps.size - 1)).length := tx_size _
  have hb : b.keys.length = b.keys.cps.toList.length := by rw [Array.length_toList]; rfl
  have hat : ∀ i, Builtin.Str.subAt (tx (o.keys.cps.toList.take (o.keys.cps.size - 1))) b.keys i = true ↔ ((o.keys.cps.toList.take (o.keys.cps.size - 1)).take (i + b.keys.length)).drop i = b.keys.cps.toList := fun i => by
    unfold Builtin.Str.subAt
    rw [beq_iff_eq, ← Array.toList_inj, Array.toList_extract, tx_list]
    generalize o.keys.cps.toList.take (o.keys.cps.size - 1) = z
    unfold List.extract
    rw [List.drop_take]
  constructor
  · rintro ⟨i, h1, h2⟩
    rw [hat] at h2
    rw [← h2]
    exact (List.drop_suffix _ _).isInfix.trans (List.take_prefix _ _).isInfix
  · rintro ⟨s, t, e⟩
    refine ⟨s.length, ?_, ?_⟩
    · rw [hlen, ← e, hb]; simp
    · rw [hat, ← e, hb]
      rw [List.append_assoc, List.take_append, List.take_of_length_le (by omega)]
      simp
theorem insd_trans {a b d : Bd} (h1 : insd a b = true) (h2 : insd b d = true) : insd a d = true := by
  rw [insd_iff] at h1 h2 ⊢
  exact ⟨h1.1.trans h2.1, h1.2.trans ((List.take_prefix _ _).isInfix.trans h2.2)⟩
theorem lps_iff {bs : List Bd} {p : Nat × Nat} : p ∈ lps bs ↔ p.1 < bs.length ∧ p.2 < bs.length ∧ insAt bs p.1 p.2 = true := by
  constructor
  · intro h
    obtain ⟨h1, h2⟩ := lps_mem h
    refine ⟨?_, h1, h2⟩
    unfold insAt at h2
    cases e : bs[p.1]? with
    | none => rw [e] at h2; cases h2
    | some b => exact (List.getElem?_eq_some_iff.mp e).1
  · rintro ⟨h1, h2, h3⟩
    unfold lps lpsN
    refine List.mem_flatMap.mpr ⟨p.1, List.mem_range.mpr h1, ?_⟩
    unfold rowP
    exact List.mem_map.mpr ⟨p.2, List.mem_filter.mpr ⟨List.mem_range.mpr h2, h3⟩, rfl⟩
theorem lps_trn (bs : List Bd) : Trn (lps bs) := fun a b d h1 h2 => by
  obtain ⟨p1, p2, p3⟩ := lps_iff.mp h1
  obtain ⟨q1, q2, q3⟩ := lps_iff.mp h2
  refine lps_iff.mpr ⟨p1, q2, ?_⟩
  have p1 : a < bs.length := p1
  have p2 : b < bs.length := p2
  have q2 : d < bs.length := q2
  have p3 : insAt bs a b = true := p3
  have q3 : insAt bs b d = true := q3
  show insAt bs a d = true
  unfold insAt at p3 q3 ⊢
  rw [List.getElem?_eq_getElem p1, List.getElem?_eq_getElem p2] at p3
  rw [List.getElem?_eq_getElem p2, List.getElem?_eq_getElem q2] at q3
  rw [List.getElem?_eq_getElem p1, List.getElem?_eq_getElem q2]
  exact insd_trans p3 q3
/-! the fewest to drop -/
def fewest (bs : List Bd) : List Nat := gr (tau (lps bs)) (lps bs) (List.range bs.length)
theorem wo_pairD {ps : Ps} {i : Nat} : (ps.map pairD).filterMap (fun d => match d with | .tup [.int a, .int b] => if a = (i : Int) ∨ b = (i : Int) then none else some d | _ => none) = (wo ps i).map pairD := by
  induction ps with
  | nil => rfl
  | cons p ps ih =>
    rw [List.map_cons, List.filterMap_cons, ih]
    unfold wo
    rw [List.filter_cons]
    simp only [pairD]
    by_cases h : p.1 = i ∨ p.2 = i
    · have h' : (p.1 : Int) = (i : Int) ∨ (p.2 : Int) = (i : Int) := by omega
      rw [if_pos h']
      have : (!(decide (p.1 = i) || decide (p.2 = i))) = false := by rcases h with h | h <;> simp [h]
      rw [this]; rfl
    · have h' : ¬ ((p.1 : Int) = (i : Int) ∨ (p.2 : Int) = (i : Int)) := by omega
      rw [if_neg h']
      have : (!(decide (p.1 = i) || decide (p.2 = i))) = true := by simpa using h
      rw [this]; rfl
section
variable {P : Program} {w : World} {c : Cs} {μ : Mu} {Q : DV} {E : DX}
theorem in_pair (i : Int) (p : Nat × Nat) : inOk (.int i) [.int p.1, .int p.2] ∧ dIn (.int i) [.int p.1, .int p.2] = decide ((p.1 : Int) = i ∨ (p.2 : Int) = i) := by
  obtain ⟨h1, h2⟩ := cln_in (n := 0) (m := 0) (x := .int i) (ys := [.int p.1, .int p.2]) rfl rfl (by decide)
  refine ⟨h1, ?_⟩
  rw [Bool.eq_iff_iff, h2, decide_eq_true_eq]
  simp
  omega
theorem m_fewest (k : Addr) (ms : List Str) (wt : Int) (bs : List Bd) (hk : MapAt c μ k ms wt bs) (hl : bs.length ≤ 30) (hs : ∀ b ∈ bs, 1 ≤ b.keys.cps.size ∧ b.keys.cps.size ≤ 6)
    (q : ∀ μ', Gr μ μ' → Q (.lst (NatD (fewest bs))) μ') : sp_fewest_to_drop P w c [.ref k] μ Q E := by
  have hz : 20000 < sizeLine := by decide
  have hpl : (lps bs).length ≤ 1000 := by
    have := lpsN_len bs bs.length
    have h2 : bs.length * bs.length ≤ 30 * 30 := Nat.mul_le_mul hl hl
    unfold lps; omega
  have hps : ∀ p ∈ lps bs, p.2 < 30 := fun p hp => by have := (lps_mem hp).1; omega
  simp [sp_fewest_to_drop, T_fewest_to_drop, N_fewest_to_drop, dstart]
  refine m_late_pairs k ms wt bs hk hl hs ?_
  refine m_find_links (lps bs) hpl hps fun a1 μ1 g1 ha1 => ⟨_, ha1, ?_⟩
  simp
  intro p hp
  have hp0 : μ p = none := by
    cases e : μ p with
    | none => rfl
    | some m => rw [g1 _ _ e] at hp; cases hp
  have MA : ∀ μ', Gr μ μ' → MapAt c μ' k ms wt bs := fun μ' g => by
    obtain ⟨dx, h⟩ := hk
    exact ⟨dx, g _ _ h⟩
  have g2 : Gr μ (mset μ1 p (.lst [])) := g1.trans (Gr.new hp)
  refine ⟨⟨_, _, (MA _ g2).choose_spec⟩, ?_⟩
  refine m_map_bindings (MA _ g2) ?_
  simp
  refine ⟨by omega, ?_⟩
  have e0 : (lkD (fls (lps bs))).length = tau (lps bs) := by unfold lkD; rw [List.length_map]
  rw [e0]
  refine loop_inv _ (fun i δ μ' => ∃ (m : Nat) (ps : Ps) (D : List Nat), (∃ l4 l5 l6 : Option Dv, δ = [some (.ref k), some (.lst (ps.map pairD)), some (.int m), some (.ref p), l4, l5, l6]) ∧ Gr μ μ' ∧ μ' p = some (.lst (NatD D)) ∧
      D ++ gr m ps (List.range' i (bs.length - i)) = fewest bs ∧ ps.length ≤ 1000 ∧ (∀ x ∈ ps, x.2 < 30) ∧ D.length ≤ i) 0 ⟨_, lps bs, [], ⟨none, none, none, rfl⟩, g2, by rw [mset_at]; rfl, by rw [List.nil_append]; unfold fewest; rw [List.range_eq_range']; rfl, hpl, hps, Nat.le_refl _⟩ ?_ ?_
  · rintro i d δ μ' C hd ⟨m, ps, D, ⟨l4, l5, l6, rfl⟩, g, j1, j2, j3, j4, j5⟩ hC
    obtain ⟨hi, rfl⟩ := irange_at hd
    have hi' : i < bs.length := by simpa using hi
    simp only [Nat.zero_add] at j2 j5 hC ⊢
    have er : List.range' i (bs.length - i) = i :: List.range' (i + 1) (bs.length - (i + 1)) := by
      have : bs.length - i = (bs.length - (i + 1)) + 1 := by omega
      rw [this, List.range'_succ]
    rw [er] at j2
    simp
    intro A hA
    have hAp : p ≠ A := fun e => by rw [← e, j1] at hA; cases hA
    refine comp_at hA (fun d => match d with | .tup [.int a, .int b] => if a = (i : Int) ∨ b = (i : Int) then none else some d | _ => none) _ (by rw [List.length_map]; omega) (fun d hd acc C2 hla hC2 => ?_) ?_
    · obtain ⟨x, hx, rfl⟩ := List.mem_map.mp hd
      obtain ⟨n1, n2⟩ := in_pair (i : Int) x
      simp [pairD, dwipe]
      refine in_tup.mpr ⟨n1, ?_⟩
      rw [n2]
      by_cases h : (x.1 : Int) = (i : Int) ∨ (x.2 : Int) = (i : Int)
      · simp only [h, pairD] at hC2 ⊢
        simpa using hC2
      · simp only [h, pairD] at hC2 ⊢
        simpa [hla] using hC2
    · rw [wo_pairD]
      rw [mdel_mset hA]
      have hwl : (wo ps i).length ≤ 1000 := Nat.le_trans (List.length_filter_le _ _) j3
      have hw3 : ∀ x ∈ wo ps i, x.2 < 30 := fun x hx => j4 x (wo_mem.mp hx).1
      refine m_find_links (wo ps i) hwl hw3 fun a2 μ2 gg ha2 => ⟨_, ha2, ?_⟩
      have e1 : (lkD (fls (wo ps i))).length = tau (wo ps i) := by unfold lkD; rw [List.length_map]
      rw [e1]
      have g3 := g.trans gg
      have j1' := gg _ _ j1
      simp
      by_cases hc : tau (wo ps i) < m
      · rw [if_pos (by omega)]
        refine ⟨(ty_ref j1').mpr rfl, _, j1', by unfold NatD; rw [List.length_map]; omega, ?_⟩
        refine hC _ _ ⟨m - 1, wo ps i, D ++ [i], ⟨some (.int i), some (.lst ((wo ps i).map pairD)), l6, ?_⟩, fun b n eb => ?_, ?_, ?_, hwl, hw3, by rw [List.length_append]; simp; omega⟩
        · have : ((m - 1 : Nat) : Int) = (m : Int) - 1 := by omega
          rw [this]
        · have h0 := g3 b n eb
          rw [mset_off (fun z => by rw [z, hp0] at eb; cases eb)]; exact h0
        · rw [mset_at]; unfold NatD; rw [List.map_append]; rfl
        · rw [← j2, gr, if_pos hc, List.append_assoc]; rfl
      · rw [if_neg (by omega)]
        refine hC _ _ ⟨m, ps, D, ⟨_, _, _, rfl⟩, g3, j1', ?_, j3, j4, by omega⟩
        rw [← j2, gr, if_neg hc]
  · rintro δ μ' ⟨m, ps, D, ⟨l4, l5, l6, rfl⟩, g, j1, j2, j3, j4, j5⟩
    have en : 0 + (irange 0 bs.length).length = bs.length := by simp [irange]
    rw [en, Nat.sub_self] at j2
    have eD : D = fewest bs := by rw [← j2]; simp [gr]
    subst eD
    simp
    refine ⟨_, j1, q _ fun b m eb => ?_⟩
    have h0 := g b m eb
    rw [mdel_ne (fun z => by rw [z, hp0] at eb; cases eb)]; exact h0
end
end Lw

set_option Elab.async false
set_option linter.all false
set_option maxRecDepth 100000
namespace Lw
open PySem L2 Wl
/-! the chains that links tell: each binding stands in one of them -/
theorem lget_iff {L : Asc} (h : (L.map (·.1)).Nodup) {o n : Nat} : lget L o = some n ↔ (o, n) ∈ L := ⟨lget_key, fun hp => lget_mem h hp⟩
theorem fwd_go : ∀ (L K : Asc), ((K.map (·.1)) ++ (L.map (·.2))).Nodup → L.foldl (fun F p => lput F p.2 p.1) K = K ++ L.map fun p => (p.2, p.1)
  | [], K, _ => by simp
  | p :: L, K, h => by
    have hp : p.2 ∉ K.map (·.1) := fun q => by
      rw [List.nodup_append] at h
      exact h.2.2 _ q p.2 (by simp) rfl
    rw [List.foldl_cons, lput_new (lget_none.mpr hp)]
    rw [fwd_go L (K ++ [(p.2, p.1)])]
    · simp
    · simpa using h
theorem fwd_eq {L : Asc} (h : (L.map (·.2)).Nodup) : fwd L = L.map fun p => (p.2, p.1) := by
  unfold fwd
  rw [fwd_go L [] (by simpa using h)]
  rfl
theorem lget_fwd {L : Asc} (h : (L.map (·.2)).Nodup) {n o : Nat} : lget (fwd L) n = some o ↔ (o, n) ∈ L := by
  have h1 : ((fwd L).map (·.1)).Nodup := by rw [fwd_eq h, List.map_map]; exact h
  rw [lget_iff h1, fwd_eq h, List.mem_map]
  constructor
  · rintro ⟨⟨a, b⟩, hp, e⟩
    injection e with e1 e2
    exact e1 ▸ e2 ▸ hp
  · intro hp
    exact ⟨_, hp, rfl⟩
def path (F : Asc) : Nat → Nat → List Nat
  | 0, n => [n]
  | f + 1, n => match lget F n with
    | none => [n]
    | some o => n :: path F f o
theorem chf_path (F : Asc) : ∀ (f n : Nat) (ch : List Nat), chf F f (ch ++ [n]) = ch ++ path F f n
  | 0, n, ch => rfl
  | f + 1, n, ch => by
    unfold chf path
    rw [List.getLast?_append]
    simp only [List.getLast?_singleton, Option.some_or]
    cases lget F n with
    | none => rfl
    | some o =>
      simp only
      rw [chf_path F f o (ch ++ [n])]
      simp
theorem path_head (F : Asc) (f n : Nat) : n ∈ path F f n := by
  cases f with
  | zero => exact List.mem_singleton.mpr rfl
  | succ f => unfold path; split <;> simp
theorem path_pred (F : Asc) : ∀ (f n x : Nat), x ∈ path F f n → x = n ∨ ∃ a ∈ path F f n, lget F a = some x
  | 0, n, x, h => .inl (List.mem_singleton.mp h)
  | f + 1, n, x, h => by
    unfold path at h ⊢
    cases e : lget F n with
    | none => rw [e] at h; exact .inl (List.mem_singleton.mp h)
    | some o =>
      rw [e] at h
      simp only at h ⊢
      rcases List.mem_cons.mp h with q | q
      · exact .inl q
      · rcases path_pred F f o x q with q2 | ⟨a, h1, h2⟩
        · exact .inr ⟨n, List.mem_cons_self, by rw [e, q2]⟩
        · exact .inr ⟨a, List.mem_cons_of_mem _ h1, h2⟩
structure Lks (ps : Ps) (rk : Nat → Nat) (L : Asc) : Prop where
  k1 : (L.map (·.1)).Nodup
  k2 : (L.map (·.2)).Nodup
  in_ : ∀ p ∈ L, (p.2, p.1) ∈ ps
  rnk : Ranked ps rk
section
variable {ps : Ps} {rk : Nat → Nat} {L : Asc} (H : Lks ps rk L)
include H
theorem fwd_ps {n o : Nat} (h : lget (fwd L) n = some o) : (n, o) ∈ ps ∧ rk n < rk o := by
  have h1 := H.in_ _ ((lget_fwd H.k2).mp h)
  exact ⟨h1, H.rnk.up _ h1⟩
theorem path_next : ∀ (f n x o : Nat), 31 ≤ f + rk n → x ∈ path (fwd L) f n → lget (fwd L) x = some o → o ∈ path (fwd L) f n
  | 0, n, _, _, hf, _, _ => by have := H.rnk.top n; omega
  | f + 1, n, x, o, hf, h, e => by
    unfold path at h ⊢
    cases e2 : lget (fwd L) n with
    | none =>
      rw [e2] at h
      rw [List.mem_singleton.mp h, e2] at e
      cases e
    | some o' =>
      rw [e2] at h
      simp only at h ⊢
      have hr := (fwd_ps H e2).2
      rcases List.mem_cons.mp h with q | q
      · rw [q, e2] at e
        have e' : o' = o := Option.some.inj e
        exact List.mem_cons_of_mem _ (e' ▸ path_head _ _ _)
      · exact List.mem_cons_of_mem _ (path_next f o' x o (by omega) q e)
theorem path_up : ∀ (f n : Nat), (∀ x ∈ path (fwd L) f n, rk n ≤ rk x) ∧ (path (fwd L) f n).Pairwise fun a b => rk a < rk b
  | 0, n => ⟨fun x hx => by rw [List.mem_singleton.mp hx]; exact Nat.le_refl _, List.pairwise_singleton _ _⟩
  | f + 1, n => by
    unfold path
    cases e : lget (fwd L) n with
    | none => exact ⟨fun x hx => by rw [List.mem_singleton.mp hx]; exact Nat.le_refl _, List.pairwise_singleton _ _⟩
    | some o =>
      obtain ⟨a, b⟩ := path_up f o
      have hr := (fwd_ps H e).2
      refine ⟨fun x hx => ?_, List.pairwise_cons.mpr ⟨fun x hx => ?_, b⟩⟩
      · rcases List.mem_cons.mp hx with q | q
        · rw [q]; exact Nat.le_refl _
        · have := a x q; omega
      · have := a x hx; omega
theorem path_in {n m : Nat} (hps : ∀ p ∈ ps, p.1 < n ∧ p.2 < n) (f : Nat) (hm : m < n) : ∀ x ∈ path (fwd L) f m, x < n := fun x hx => by
  rcases path_pred _ f m x hx with q | ⟨a, _, h⟩
  · rw [q]; exact hm
  · exact (hps _ (fwd_ps H h).1).2
theorem path_root {f : Nat} : ∀ (N r r' x : Nat), rk x ≤ N → lget L r = none → lget L r' = none → x ∈ path (fwd L) f r → x ∈ path (fwd L) f r' → r = r' := by
  intro N
  induction N with
  | zero =>
    intro r r' x hx h1 h2 p1 p2
    have a : ∀ r, x ∈ path (fwd L) f r → x = r := fun r p => by
      rcases path_pred _ f r x p with q | ⟨a, _, h⟩
      · exact q
      · have := (fwd_ps H h).2; omega
    rw [← a r p1, ← a r' p2]
  | succ N ih =>
    intro r r' x hx h1 h2 p1 p2
    have no : ∀ a, lget (fwd L) a = some x → lget L x = some a := fun a h => (lget_iff H.k1).mpr ((lget_fwd H.k2).mp h)
    rcases path_pred _ f r x p1 with q1 | ⟨a, i1, e1⟩
    · rcases path_pred _ f r' x p2 with q2 | ⟨b, i2, e2⟩
      · rw [← q1, ← q2]
      · have := no b e2
        rw [q1, h1] at this; cases this
    · rcases path_pred _ f r' x p2 with q2 | ⟨b, i2, e2⟩
      · have := no a e1
        rw [q2, h2] at this; cases this
      · have eab : a = b := Option.some.inj ((no a e1).symm.trans (no b e2))
        subst eab
        have := (fwd_ps H e1).2
        exact ih r r' a (by omega) h1 h2 i1 i2
theorem path_all {n : Nat} (hps : ∀ p ∈ ps, p.1 < n ∧ p.2 < n) : ∀ (N m : Nat), rk m ≤ N → m < n → ∃ r, r < n ∧ lget L r = none ∧ m ∈ path (fwd L) 40 r := by
  intro N
  induction N with
  | zero =>
    intro m hN hm
    cases e : lget L m with
    | none => exact ⟨m, hm, e, path_head _ _ _⟩
    | some a =>
      have := H.rnk.up _ (H.in_ _ ((lget_iff H.k1).mp e))
      simp only at this
      omega
  | succ N ih =>
    intro m hN hm
    cases e : lget L m with
    | none => exact ⟨m, hm, e, path_head _ _ _⟩
    | some a =>
      have hl := (lget_iff H.k1).mp e
      have h1 := H.in_ _ hl
      have h2 := H.rnk.up _ h1
      simp only at h2
      obtain ⟨r, i1, i2, i3⟩ := ih a (by omega) (hps _ h1).1
      exact ⟨r, i1, i2, path_next H 40 r a m (by omega) i3 ((lget_fwd H.k2).mpr hl)⟩
theorem chs_eq (n : Nat) : chs L n = ((List.range n).filter fun n => (lget L n).isNone).map fun r => path (fwd L) 40 r := by
  unfold chs
  refine List.map_congr_left fun r _ => ?_
  have := chf_path (fwd L) 40 r []
  simpa using this
theorem chs_perm {n : Nat} (hps : ∀ p ∈ ps, p.1 < n ∧ p.2 < n) : (chs L n).flatten.Perm (List.range n) := by
  rw [chs_eq H]
  refine (List.perm_ext_iff_of_nodup ?_ List.nodup_range).mpr fun x => ?_
  · unfold List.Nodup
    rw [List.pairwise_flatten]
    refine ⟨fun l hl => ?_, ?_⟩
    · obtain ⟨r, _, rfl⟩ := List.mem_map.mp hl
      exact (path_up H 40 r).2.imp fun {a b} h e => by rw [e] at h; exact Nat.lt_irrefl _ h
    · rw [List.pairwise_map]
      have nd : ((List.range n).filter fun n => (lget L n).isNone).Nodup := List.nodup_range.filter _
      refine List.Pairwise.imp_of_mem (fun {a b} ha hb hne x hx y hy e => ?_) nd
      subst e
      have h1 := (List.mem_filter.mp ha).2
      have h2 := (List.mem_filter.mp hb).2
      exact hne (path_root H (rk x) a b x (Nat.le_refl _) (Option.isNone_iff_eq_none.mp h1) (Option.isNone_iff_eq_none.mp h2) hx hy)
  · rw [List.mem_flatten, List.mem_range]
    constructor
    · rintro ⟨l, hl, hx⟩
      obtain ⟨r, hr, rfl⟩ := List.mem_map.mp hl
      exact path_in H hps 40 (List.mem_range.mp (List.mem_filter.mp hr).1) x hx
    · intro hx
      obtain ⟨r, h1, h2, h3⟩ := path_all H hps (rk x) x (Nat.le_refl _) hx
      exact ⟨_, List.mem_map.mpr ⟨r, List.mem_filter.mpr ⟨List.mem_range.mpr h1, by rw [h2]; rfl⟩, rfl⟩, h3⟩
theorem chs_many {n : Nat} (hps : ∀ p ∈ ps, p.1 < n ∧ p.2 < n) : (chs L n).length + L.length = n := by
  rw [chs_eq H, List.length_map]
  have e : ((List.range n).filter fun x => !(lget L x).isNone).Perm (L.map (·.1)) := by
    refine (List.perm_ext_iff_of_nodup (List.nodup_range.filter _) H.k1).mpr fun x => ?_
    rw [List.mem_filter, List.mem_range]
    constructor
    · rintro ⟨_, h⟩
      refine Classical.byContradiction fun q => ?_
      rw [lget_none.mpr q] at h
      cases h
    · intro h
      obtain ⟨p, hp, rfl⟩ := List.mem_map.mp h
      refine ⟨(hps _ (H.in_ p hp)).2, ?_⟩
      cases e : lget L p.1 with
      | none => exact absurd h (lget_none.mp e)
      | some _ => rfl
  have h1 := e.length_eq
  rw [List.length_map] at h1
  have h2 : ∀ (l : List Nat) (p : Nat → Bool), (l.filter p).length + (l.filter fun x => !p x).length = l.length := fun l p => by
    induction l with
    | nil => rfl
    | cons x l ih =>
      rw [List.filter_cons, List.filter_cons]
      cases p x <;> simp <;> omega
  have := h2 (List.range n) fun x => (lget L x).isNone
  rw [List.length_range] at this
  omega
theorem path_links : ∀ (f n : Nat), ∀ q ∈ (path (fwd L) f n).zip ((path (fwd L) f n).drop 1), q ∈ ps
  | 0, n, q, h => by simp [path] at h
  | f + 1, n, q, h => by
    unfold path at h
    cases e : lget (fwd L) n with
    | none => rw [e] at h; simp at h
    | some o =>
      rw [e] at h
      simp only at h
      have hd : ∃ t, path (fwd L) f o = o :: t := by
        cases f with
        | zero => exact ⟨[], rfl⟩
        | succ f => unfold path; split <;> exact ⟨_, rfl⟩
      obtain ⟨t, ht⟩ := hd
      have ih := path_links f o
      rw [ht] at h ih
      simp only [List.drop_succ_cons, List.drop_zero, List.zip_cons_cons] at h
      rcases List.mem_cons.mp h with z | z
      · rw [z]; exact (fwd_ps H e).1
      · exact ih q (by simpa using z)
end
end Lw

set_option Elab.async false
set_option linter.all false
set_option maxRecDepth 100000
namespace Lw
open PySem L2 Wl
def toI (x : List Nat) : List Int := x.map fun (n : Nat) => (n : Int)
theorem chD_IntL (x : List Nat) : chD x = IntL (toI x) := by
  unfold chD IntL IntD toI NatD
  rw [List.map_map]; rfl
theorem nb_toI (x : List Nat) : nb (toI x) = (x.zip (x.drop 1)).map fun p => ((p.1 : Int), (p.2 : Int)) := by
  unfold nb toI
  rw [← List.map_drop, List.zip_map]
  rfl
theorem isCh_nat {ps : Ps} {n : Nat} {x : List Nat} (h0 : x ≠ []) (h1 : ∀ y ∈ x, y < n) (h2 : ∀ q ∈ x.zip (x.drop 1), q ∈ ps) : isCh n ps (toI x) = true := by
  unfold isCh
  rw [Bool.and_eq_true, Bool.and_eq_true]
  refine ⟨⟨?_, ?_⟩, ?_⟩
  · cases x with
    | nil => exact absurd rfl h0
    | cons _ _ => rfl
  · rw [List.all_eq_true]
    intro y hy
    obtain ⟨m, hm, rfl⟩ := List.mem_map.mp hy
    have := h1 m hm
    rw [Bool.and_eq_true, decide_eq_true_eq, decide_eq_true_eq]
    omega
  · rw [nb_toI, List.all_eq_true]
    intro y hy
    obtain ⟨q, hq, rfl⟩ := List.mem_map.mp hy
    unfold prI
    rw [List.any_eq_true]
    exact ⟨q, h2 q hq, by simp⟩
theorem flat_toI : ∀ xss : List (List Nat), (xss.map toI).flatten = toI xss.flatten
  | [] => rfl
  | x :: xss => by
    rw [List.map_cons, List.flatten_cons, List.flatten_cons, flat_toI xss]
    unfold toI
    rw [List.map_append]
theorem judge_nat {ps : Ps} {n : Nat} {xss : List (List Nat)} (h : ∀ x ∈ xss, x ≠ [] ∧ (∀ y ∈ x, y < n) ∧ ∀ q ∈ x.zip (x.drop 1), q ∈ ps) (hp : xss.flatten.Perm (List.range n)) : judgeR n ps (xss.map toI) = .int ((n : Int) - xss.length) := by
  unfold judgeR
  rw [if_pos, List.length_map]
  refine ⟨?_, ?_⟩
  · rw [List.all_eq_true]
    intro y hy
    obtain ⟨x, hx, rfl⟩ := List.mem_map.mp hy
    obtain ⟨a, b, d⟩ := h x hx
    exact isCh_nat a b d
  · rw [flat_toI]
    exact hp.map _
theorem judge_less {ps : Ps} {n : Nat} {xss : List (List Int)} (hp : xss.flatten.length ≠ n) : judgeR n ps xss = .non := by
  unfold judgeR
  rw [if_neg]
  rintro ⟨_, h⟩
  have := h.length_eq
  unfold rgI at this
  rw [List.length_map, List.length_range] at this
  exact hp this
theorem lps_lt (bs : List Bd) : ∀ p ∈ lps bs, p.1 < bs.length ∧ p.2 < bs.length := fun p hp => ⟨(lps_iff.mp hp).1, (lps_iff.mp hp).2.1⟩
section
variable {bs : List Bd} (hl : bs.length ≤ 30) (hs : ∀ b ∈ bs, 1 ≤ b.keys.cps.size ∧ b.keys.cps.size ≤ 6)
include hl hs
theorem lks_of : Lks (lps bs) (rkB bs) (fls (lps bs)) := by
  have F := fls_far (lps bs) fun p hp => by have := (lps_lt bs p hp).2; omega
  exact ⟨F.ok.2, F.own, fun p hp => gof_mem.mp (F.ok.1 p hp), ranked bs hs⟩
theorem fewest_all : Cov (lps bs) (fewest bs) ∧ (fewest bs).length = (fls (lps bs)).length := by
  have h30 : ∀ p ∈ lps bs, p.2 < 30 := fun p hp => by have := (lps_lt bs p hp).2; omega
  obtain ⟨a, b, -⟩ := gr_first (List.range bs.length) (lps bs) h30 (lps_trn bs) List.pairwise_lt_range (inv_start (lps_lt bs) h30 (lps_trn bs))
  exact ⟨a, b⟩
theorem chs_good : ∀ x ∈ chs (fls (lps bs)) bs.length, x ≠ [] ∧ (∀ y ∈ x, y < bs.length) ∧ ∀ q ∈ x.zip (x.drop 1), q ∈ lps bs := fun x hx => by
  have H := lks_of hl hs
  rw [chs_eq H] at hx
  obtain ⟨r, hr, rfl⟩ := List.mem_map.mp hx
  exact ⟨(fun e => by have := path_head (fwd (fls (lps bs))) 40 r; rw [e] at this; cases this), path_in H (lps_lt bs) 40 (List.mem_range.mp (List.mem_filter.mp hr).1), path_links H 40 r⟩
theorem judge_chs : judgeR bs.length (lps bs) ((chs (fls (lps bs)) bs.length).map toI) = .int (fewest bs).length := by
  have H := lks_of hl hs
  rw [judge_nat (chs_good hl hs) (chs_perm H (lps_lt bs)), (fewest_all hl hs).2]
  have := chs_many H (lps_lt bs)
  congr 1
  omega
omit hl hs in
theorem judge_each : judgeR bs.length (lps bs) (((List.range bs.length).map fun k => [k]).map toI) = .int 0 := by
  rw [judge_nat]
  · congr 1
    simp
  · intro x hx
    obtain ⟨k, hk, rfl⟩ := List.mem_map.mp hx
    exact ⟨by simp, fun y hy => by rw [List.mem_singleton.mp hy]; exact List.mem_range.mp hk, fun q hq => by simp at hq⟩
  · have : ∀ l : List Nat, (l.map fun k => [k]).flatten = l := fun l => by
      induction l with
      | nil => rfl
      | cons x l ih => simp [ih]
    rw [this]
end
/-! the law's own words -/
theorem cut_m1' (x : Str) : cutS x none (some ((x.length : Int) - 1)) = cutS x none (some (-1)) := by
  by_cases h : x.length = 0
  · unfold cutS
    have hx : x = ⟨#[]⟩ := by
      cases x with
      | mk c =>
        have : c.size = 0 := h
        rw [Array.size_eq_zero_iff.mp this]
    rw [hx]; decide
  · unfold cutS
    have e : HT.sIx x.length x.length (some ((x.length : Int) - 1)) = HT.sIx x.length x.length (some (-1)) := by
      unfold HT.sIx
      dsimp only
      rw [if_pos (show (-1 : Int) < 0 by decide), if_neg (show ¬ ((x.length : Int) - 1 < 0) by omega)]
      first | omega | (split <;> omega)
    rw [e]
section
variable {P : Program} {w : World} {c : Cs} {μ : Mu} {Q : DV} {E : DX}
theorem m_is_late (b o : Bd) (hb : b.keys.cps.size ≤ 100) (ho : 1 ≤ o.keys.cps.size ∧ o.keys.cps.size ≤ 100) (q : Q (.bl (insd b o)) μ) : sp_law_is_late P w c [b.dv, o.dv] μ Q E := by
  have hz : 20000 < sizeLine := by decide
  have a0 : ∀ b : Bd, atI [Dv.str b.mode, .str b.keys, .str b.cmd, .str b.tgt] 0 = some (.str b.mode) := fun _ => rfl
  have a1 : ∀ b : Bd, atI [Dv.str b.mode, .str b.keys, .str b.cmd, .str b.tgt] 1 = some (.str b.keys) := fun _ => rfl
  have hsz : o.keys.length ≤ sizeLine := by show o.keys.cps.size ≤ sizeLine; omega
  simp [sp_law_is_late, T_law_is_late, N_law_is_late, dstart, Bd.dv, a0, a1, cut_m1', hsz]
  refine ⟨cln_ok (n := 1) (m := 1) rfl rfl (by decide), ?_⟩
  have hq := cln_eq 1 1 (Dv.tup [Dv.str b.mode, Dv.str b.keys, Dv.str b.cmd, Dv.str b.tgt]) (Dv.tup [Dv.str o.mode, Dv.str o.keys, Dv.str o.cmd, Dv.str o.tgt]) rfl rfl
  by_cases e : Dv.tup [Dv.str b.mode, Dv.str b.keys, Dv.str b.cmd, Dv.str b.tgt] = Dv.tup [Dv.str o.mode, Dv.str o.keys, Dv.str o.cmd, Dv.str o.tgt]
  · rw [if_pos (hq.mpr e)]
    have ek : b.keys = o.keys := by simpa using (by injection e with e; injection e with e1 e2; injection e2 with e2 e3; injection e2)
    have : insd b o = false := by
      cases h : insd b o with
      | false => rfl
      | true =>
        have := ((insd_iff b o).mp h).2.length_le
        rw [ek, List.length_take, Array.length_toList] at this
        omega
    rw [← this]; exact q
  · rw [if_neg fun z => e (hq.mp z)]
    refine ⟨okS, ?_⟩
    rw [eqS]
    by_cases hm : b.mode = o.mode
    · rw [if_pos (decide_eq_true hm)]
      have : insd b o = !(Builtin.Str.occurrences (cutS o.keys none (some (-1))) b.keys 0 (cutS o.keys none (some (-1))).length 1).isEmpty := by unfold insd; simp [hm]
      rw [← this]; exact q
    · rw [if_neg (by simpa using hm)]
      have : insd b o = false := by unfold insd; simp [hm]
      rw [← this]; exact q
end
end Lw

set_option Elab.async false
set_option linter.all false
set_option maxRecDepth 100000
namespace Lw
open PySem L2 Wl
section
variable {P : Program} {w : World} {c : Cs} {μ : Mu} {Q : DV} {E : DX}
/-- what a row of dice gives next -/
def tk (ns : List Int) (n1 n2 n3 m : Int) : Int × Int × Int × Int :=
  if 0 < n3 then (n3 % m, n1, n2, n3 / m)
  else match ns[n1.toNat]? with
    | none => (((n2 * 48271 + 11) % 2147483647 / 7) % m, n1 + 1, (n2 * 48271 + 11) % 2147483647, n3)
    | some z => (z % m, n1 + 1, (n2 * 48271 + z + 11) % 2147483647, if 1000000000000000000 ≤ z then z / m else 0)
def row (ns : List Int) (n1 n2 n3 : Int) : Mo := .lst [.rol (ns.map Dv.int), .int n1, .int n2, .int n3]
theorem m_taken (a : Addr) (ns : List Int) (n1 n2 n3 m : Int) (hm : 0 < m) (hm2 : m < 1073741824) (h : μ a = some (row ns n1 n2 n3)) (h1 : 0 ≤ n1) (h2 : 0 ≤ n2) (h3 : n2 < 2147483647)
    (q : Q (.int (tk ns n1 n2 n3 m).1) (mset μ a (row ns (tk ns n1 n2 n3 m).2.1 (tk ns n1 n2 n3 m).2.2.1 (tk ns n1 n2 n3 m).2.2.2))) : sp_law_taken P w c [.ref a, .int m] μ Q E := by
  unfold row at h q
  simp [sp_law_taken, T_law_taken, N_law_taken, dstart, h, atI, ixN, hm, hm2, CDiv, CMul, CPow]
  unfold tk at q
  by_cases h0 : 0 < n3
  · simpa [h0] using q
  · by_cases hn : (ns.length : Int) < n1 + 1
    · have e : ns[n1.toNat]? = none := List.getElem?_eq_none (by omega)
      simpa [h0, hn, e] using q
    · have hl : n1.toNat < ns.length := by omega
      have e : ns[n1.toNat]? = some (ns[n1.toNat]) := by simp [hl]
      have hl' : n1 < (ns.length : Int) := by omega
      rw [e] at q
      simp [h0, hn, h1, hl', e, CDiv, hm, hm2] 
      by_cases hz : 1000000000000000000 ≤ ns[n1.toNat]
      · simpa [h0, hz] using q
      · simpa [h0, hz] using q
structure RowOk (n1 n2 : Int) : Prop where
  h1 : 0 ≤ n1
  h2 : 0 ≤ n2
  h3 : n2 < 2147483647
theorem tk_ok {ns : List Int} {n1 n2 n3 m : Int} (hm : 0 < m) (h : RowOk n1 n2) : 0 ≤ (tk ns n1 n2 n3 m).1 ∧ (tk ns n1 n2 n3 m).1 < m ∧ RowOk (tk ns n1 n2 n3 m).2.1 (tk ns n1 n2 n3 m).2.2.1 := by
  obtain ⟨h1, h2, h3⟩ := h
  unfold tk
  split
  · exact ⟨Int.emod_nonneg _ (by omega), Int.emod_lt_of_pos _ hm, h1, h2, h3⟩
  · split
    · exact ⟨Int.emod_nonneg _ (by omega), Int.emod_lt_of_pos _ hm, by show 0 ≤ n1 + 1; omega, Int.emod_nonneg _ (by omega), Int.emod_lt_of_pos _ (by omega)⟩
    · exact ⟨Int.emod_nonneg _ (by omega), Int.emod_lt_of_pos _ hm, by show 0 ≤ n1 + 1; omega, Int.emod_nonneg _ (by omega), Int.emod_lt_of_pos _ (by omega)⟩
/-- the dice: some number below m; the row alone changes -/
theorem m_take (a : Addr) (ns : List Int) (n1 n2 n3 m : Int) (hm : 0 < m) (hm2 : m < 1073741824) (h : μ a = some (row ns n1 n2 n3)) (ho : RowOk n1 n2)
    (q : ∀ v n1' n2' n3', 0 ≤ v → v < m → RowOk n1' n2' → Q (.int v) (mset μ a (row ns n1' n2' n3'))) : sp_law_taken P w c [.ref a, .int m] μ Q E :=
  m_taken a ns n1 n2 n3 m hm hm2 h ho.h1 ho.h2 ho.h3 (let ⟨k1, k2, k3⟩ := tk_ok (ns := ns) (n3 := n3) hm ho; q _ _ _ _ k1 k2 k3)
theorem m_keys (a : Addr) (ns : List Int) (n1 n2 n3 most : Int) (L : Str) (hm : 0 < most) (hm2 : most < 100) (hL : 0 < L.cps.size) (hL2 : L.cps.size < 100) (h : μ a = some (row ns n1 n2 n3)) (ho : RowOk n1 n2)
    (q : ∀ (x : Str) n1' n2' n3', 1 ≤ x.cps.size → (x.cps.size : Int) ≤ most → (∀ ch ∈ x.cps.toList, ch ∈ L.cps.toList) → RowOk n1' n2' → Q (.str x) (mset μ a (row ns n1' n2' n3'))) : sp_law_keys P w c [.ref a, .str L, .int most] μ Q E := by
  simp [sp_law_keys, T_law_keys, N_law_keys, dstart]
  refine m_take a ns n1 n2 n3 most hm (by omega) h ho fun v m1 m2 m3 hv0 hv1 ho1 => ?_
  simp
  refine ⟨⟨by omega, by omega⟩, ?_⟩
  have hz : 100 < sizeLine := by decide
  refine loop_inv _ (fun i δ μ' => ∃ (x : Str) (k1 k2 k3 : Int) (l : Option Dv), δ = [some (.ref a), some (.str L), some (.int most), some (.str x), l] ∧ x.cps.size = i ∧ (∀ ch ∈ x.cps.toList, ch ∈ L.cps.toList) ∧ RowOk k1 k2 ∧ μ' = mset μ a (row ns k1 k2 k3)) 0
    ⟨"", m1, m2, m3, none, rfl, rfl, (by intro ch hc; rw [show ("" : Str).cps.toList = [] by decide] at hc; cases hc), ho1, rfl⟩ ?_ ?_
  · rintro i d δ μ' C hd ⟨x, k1, k2, k3, l, rfl, hx, hc, ho2, rfl⟩ hC
    have hi : i < (1 + v).toNat := by
      have := (List.getElem?_eq_some_iff.mp hd).1
      simpa [irange] using this
    simp
    refine ⟨by show L.cps.size ≤ sizeLine; omega, ?_⟩
    refine m_take a ns k1 k2 k3 (L.length : Int) (by show (0 : Int) < (L.cps.size : Int); omega) (by show (L.cps.size : Int) < _; omega) mset_at ho2 fun u j1 j2 j3 hu0 hu1 ho3 => ?_
    have hu : u < (L.cps.size : Int) := hu1
    simp [atI, ixN, hu0, hu]
    refine ⟨by show L.cps.size ≤ sizeLine; omega, by show x.cps.size + 1 ≤ sizeLine; omega, ?_⟩
    refine hC _ _ ⟨_, j1, j2, j3, _, rfl, ?_, ?_, ho3, rfl⟩
    · show (x.cps ++ #[_]).size = _
      simp [hx]
    · intro ch hch
      have : ch ∈ (x.cps ++ #[L.cps[u.toNat]'(by omega)]).toList := hch
      simp at this
      rcases this with h' | h'
      · exact hc ch (by simpa using h')
      · rw [h']; simp
  · rintro δ μ' ⟨x, k1, k2, k3, l, rfl, hx, hc, ho2, rfl⟩
    simp
    have hl : (irange 0 (1 + v).toNat).length = (1 + v).toNat := by simp [irange]
    rw [hl] at hx
    exact q x k1 k2 k3 (by omega) (by omega) hc ho2
theorem m_parts (a : Addr) (ns : List Int) (n1 n2 n3 : Int) (L : Str) (hL : 0 < L.cps.size) (hL2 : L.cps.size < 100) (h : μ a = some (row ns n1 n2 n3)) (ho : RowOk n1 n2)
    (q : ∀ ms wt bs n1' n2' n3' μ', Parts L.cps.toList ms wt bs → RowOk n1' n2' → μ' a = some (row ns n1' n2' n3') → (∀ b m, b ≠ a → μ b = some m → μ' b = some m) → Q (partsD ms wt bs) μ') : sp_law_parts P w c [.ref a, .str L, .int 7] μ Q E := by
  have hz : 100 < sizeLine := by decide
  simp [sp_law_parts, T_law_parts, N_law_parts, dstart]
  refine ⟨by omega, ?_⟩
  refine m_take a ns n1 n2 n3 3 (by decide) (by decide) h ho fun v m1 m2 m3 hv0 hv1 ho1 => ?_
  simp
  refine ⟨by omega, ?_⟩
  refine m_take a ns m1 m2 m3 2 (by decide) (by decide) mset_at ho1 fun v2 k1 k2 k3 hu0 hu1 ho2 => ?_
  have e9 : ∃ g : Int, atI [Dv.int 3, Dv.int 9] v2 = some (.int g) ∧ 0 < g ∧ g ≤ 9 := by
    rcases (show v2 = 0 ∨ v2 = 1 by omega) with rfl | rfl
    · exact ⟨3, rfl, by decide, by decide⟩
    · exact ⟨9, rfl, by decide, by decide⟩
  obtain ⟨g, eg, hg0, hg1⟩ := e9
  simp [eg]
  refine m_take a ns k1 k2 k3 g hg0 (by omega) mset_at ho2 fun v3 j1 j2 j3 hw0 hw1 ho3 => ?_
  simp
  intro pb hpb pu hpu
  have hba : pb ≠ a := fun e => by rw [e, mset_at] at hpb; cases hpb
  have hub : pu ≠ pb := fun e => by rw [e, mset_at] at hpu; cases hpu
  have hua : pu ≠ a := fun e => by rw [e, mset_off hba.symm, mset_at] at hpu; cases hpu
  have fb : ∀ {b : Addr} {m : Mo}, b ≠ a → μ b = some m → b ≠ pb := fun {b m} hb e z => by
    subst z
    simp [mset_off hb, e] at hpb
  have fu : ∀ {b : Addr} {m : Mo}, b ≠ a → μ b = some m → b ≠ pu := fun {b m} hb e z => by
    subst z
    simp [mset_off hb, mset_off (fb hb e), e] at hpu
  refine m_take a ns j1 j2 j3 8 (by decide) (by decide) (by rw [mset_off hua.symm, mset_off hba.symm, mset_at]) ho3 fun v4 i1 i2 i3 hx0 hx1 ho4 => ?_
  simp
  refine ⟨⟨by omega, by omega⟩, ?_⟩
  -- the modes
  have hd : ∃ n : Nat, 1 ≤ n ∧ n ≤ 3 ∧ dcut [Dv.str "main", Dv.str "edit", Dv.str "move"] none (some (1 + v)) = (names.take n).map Dv.str := by
    rcases (show v = 0 ∨ v = 1 ∨ v = 2 by omega) with rfl | rfl | rfl
    · exact ⟨1, by decide, by decide, rfl⟩
    · exact ⟨2, by decide, by decide, rfl⟩
    · exact ⟨3, by decide, by decide, rfl⟩
  obtain ⟨n, hn1, hn3, en⟩ := hd
  have en' : dcut [Dv.str (Str.ofString "main"), Dv.str (Str.ofString "edit"), Dv.str (Str.ofString "move")] none (some (1 + v)) = (names.take n).map Dv.str := en
  rw [en']
  have hml : ((names.take n).length : Int) = n := by simp [names]; omega
  generalize hms : names.take n = ms at *
  refine loop_inv _ (fun i δ μ' => ∃ (bs : List Bd) (g1 g2 g3 : Int) (l7 l8 l9 l10 : Option Dv), δ = [some (.ref a), some (.str L), some (.int 7), some (.tup (ms.map Dv.str)), some (.int (1 + v3)), some (.ref pb), some (.ref pu), l7, l8, l9, l10] ∧ bs.length ≤ i ∧
      (∀ b ∈ bs, b.mode ∈ ms ∧ b.tgt ∈ ms ∧ b.cmd ∈ cmds) ∧ (∀ b ∈ bs, 1 ≤ b.keys.cps.size ∧ b.keys.cps.size ≤ 3 ∧ ∀ ch ∈ b.keys.cps.toList, ch ∈ L.cps.toList) ∧ (bs.map fun b => (b.mode, b.keys)).Nodup ∧
      RowOk g1 g2 ∧ μ' a = some (row ns g1 g2 g3) ∧ μ' pb = some (.lst (bs.map Bd.dv)) ∧ μ' pu = some (.lst (bs.map fun b => Dv.tup [.str b.mode, .str b.keys])) ∧ ∀ b m, b ≠ a → μ b = some m → μ' b = some m) 0
    ⟨[], i1, i2, i3, none, none, none, none, rfl, Nat.le_refl _, (by simp), (by simp), .nil, ho4, mset_at, by rw [mset_off hba, mset_off hub.symm, mset_at]; rfl, by rw [mset_off hua, mset_at]; rfl, fun b m hb e => by simp [mset_off hb, mset_off (fb hb e), mset_off (fu hb e), e]⟩ ?_ ?_
  · rintro i d δ μ' C hd ⟨bs, g1, g2, g3, l7, l8, l9, l10, rfl, hl, hm, hk, hnd, ho5, ha, hb, hu, hof⟩ hC
    have hi : i < v4.toNat := by
      have := (List.getElem?_eq_some_iff.mp hd).1
      simpa [irange] using this
    simp
    have hcl : ∀ (bs : List Bd), (bs.map fun b => Dv.tup [Dv.str b.mode, Dv.str b.keys]).all (Cln 1) = true := fun bs => List.all_eq_true.mpr fun z hz' => by
      obtain ⟨b, _, rfl⟩ := List.mem_map.mp hz'
      rfl
    have hml0 : (0 : Int) < (ms.length : Int) := by omega
    refine m_take a ns g1 g2 g3 (ms.length : Int) hml0 (by omega) ha ho5 fun u1 p1 p2 p3 hu0 hu1 ho6 => ?_
    obtain ⟨mo, hmo, emo⟩ := at_map Dv.str hu0 hu1
    simp [emo]
    refine m_keys a ns p1 p2 p3 3 L (by decide) (by decide) hL hL2 mset_at ho6 fun x r1 r2 r3 hx1' hx2' hxl ho7 => ?_
    rw [mset_mset]
    have hpu' : (mset μ' a (row ns r1 r2 r3)) pu = some (.lst (bs.map fun b => Dv.tup [.str b.mode, .str b.keys])) := by rw [mset_off hua]; exact hu
    have hpb' : (mset μ' a (row ns r1 r2 r3)) pb = some (.lst (bs.map Bd.dv)) := by rw [mset_off hba]; exact hb
    obtain ⟨k1', k2'⟩ := cln_in (n := 1) (m := 1) (x := .tup [.str mo, .str x]) (ys := bs.map fun b => Dv.tup [.str b.mode, .str b.keys]) rfl (hcl bs) (by decide)
    refine ⟨by omega, (in_ref hpu').mpr ⟨k1', ?_⟩⟩
    simp
    by_cases hin : dIn (.tup [.str mo, .str x]) (bs.map fun b => Dv.tup [.str b.mode, .str b.keys]) = true
    · rw [if_pos hin]
      exact hC _ _ ⟨bs, r1, r2, r3, _, _, _, _, rfl, by omega, hm, hk, hnd, ho7, mset_at, hpb', hpu', fun b m hb e => by rw [mset_off hb]; exact hof b m hb e⟩
    · have hin0 : dIn (.tup [.str mo, .str x]) (bs.map fun b => Dv.tup [.str b.mode, .str b.keys]) = false := by simpa using hin
      rw [if_neg hin]
      have hno : (mo, x) ∉ bs.map fun b => (b.mode, b.keys) := fun hx => by
        obtain ⟨b, hb1, hb2⟩ := List.mem_map.mp hx
        refine hin (k2'.mpr (List.mem_map.mpr ⟨b, hb1, ?_⟩))
        cases hb2; rfl
      have hnl : bs.length < 9 := by omega
      refine ⟨(ty_ref hpu').mpr rfl, by omega, _, hpu', by simp; omega, by omega, ?_⟩
      refine m_take a ns r1 r2 r3 5 (by decide) (by decide) (by rw [mset_off hua.symm, mset_at]) ho7 fun u2 s1 s2 s3 hy0 hy1 ho8 => ?_
      obtain ⟨co, hco, eco⟩ := at_map Dv.str (ms := cmds) hy0 (by simpa [cmds] using hy1)
      have eco' : atI [Dv.str (Str.ofString "go"), Dv.str (Str.ofString "cut"), Dv.str (Str.ofString "put"), Dv.str (Str.ofString "mark"), Dv.str (Str.ofString "join")] u2 = some (.str co) := eco
      simp [eco']
      have h8 : (mset (mset (mset μ' a (row ns r1 r2 r3)) pu (.lst ((bs.map fun b => Dv.tup [.str b.mode, .str b.keys]) ++ [.tup [.str mo, .str x]]))) a (row ns s1 s2 s3)) pb = some (.lst (bs.map Bd.dv)) := by
        rw [mset_off hba, mset_off hub.symm]; exact hpb'
      refine ⟨(ty_ref h8).mpr rfl, ?_⟩
      refine m_take a ns s1 s2 s3 (ms.length : Int) hml0 (by omega) mset_at ho8 fun u3 t1 t2 t3 hz0 hz1 ho9 => ?_
      obtain ⟨tg, htg, etg⟩ := at_map Dv.str hz0 hz1
      simp [etg]
      refine ⟨by omega, _, by rw [mset_off hba, mset_off hub.symm]; exact hpb', by simp; omega, ?_⟩
      refine hC _ _ ⟨bs ++ [⟨mo, x, co, tg⟩], t1, t2, t3, _, _, _, _, rfl, by simp; omega, ?_, ?_, ?_, ho9, ?_, ?_, ?_, fun b m hb e => by simp [mset_off hb, mset_off (fb hb e), mset_off (fu hb e), hof b m hb e]⟩
      · intro b hb'
        rcases List.mem_append.mp hb' with h' | h'
        · exact hm b h'
        · rw [List.mem_singleton.mp h']; exact ⟨hmo, htg, hco⟩
      · intro b hb'
        rcases List.mem_append.mp hb' with h' | h'
        · exact hk b h'
        · rw [List.mem_singleton.mp h']; exact ⟨hx1', (by show x.cps.size ≤ 3; omega), hxl⟩
      · rw [List.map_append]
        refine List.nodup_append.mpr ⟨hnd, by simp, ?_⟩
        intro z hz1' z' hz2' e
        rw [List.map_singleton, List.mem_singleton] at hz2'
        rw [e, hz2'] at hz1'
        exact hno hz1'
      · rw [mset_off hba.symm, mset_at]
      · rw [mset_at]; simp [Bd.dv]
      · rw [mset_off hub, mset_off hua, mset_at]; simp
  · rintro δ μ' ⟨bs, g1, g2, g3, l7, l8, l9, l10, rfl, hl, hm, hk, hnd, ho5, ha, hb, hu, hof⟩
    have hr : (irange 0 v4.toNat).length = v4.toNat := by simp [irange]
    rw [hr] at hl
    simp [hb]
    refine tupOf_ref.mpr ⟨_, hb, by omega, ?_⟩
    exact q ms (1 + v3) bs g1 g2 g3 μ' ⟨⟨n, hn1, hn3, hms.symm⟩, ⟨by omega, by omega⟩, by omega, hm, hk, hnd⟩ ho5 ha hof
end
end Lw

set_option Elab.async false
set_option linter.all false
set_option maxRecDepth 100000
namespace Lw
open PySem L2 Wl
def lw13 (P : Program) (w : World) (c : Cs) (E2 : DXS) : DS := sSeq (sIf (vTest (vOp gGt (vV 7) (vC (.int 0)))) (sSeq (sAsg (vCall (sp_law_taken P w c) [] E2 (vCons (vV 1) (vCons (vV 7) (vNil)))) (dName 8))
 (sSeq (sIf (vTest (vOp gNotN (vCall (sp_judge_chains P w c) [] E2 (vCons (vV 3) (vCons (vComp [9] (wRng1 (vCons (vV 7) (vNil))) (dName 9) (vTest (vOp gNe (vV 9) (vV 8))) (vLst (vCons (vV 9) (vNil)))) (vNil)))) (vC .non))) (sRet (vC (.bl false))) (sNext))
 (sIf (vTest (vOp gNe (vProp c.KeyMap (sp_KeyMap_bindings P w c) (vCallS 1 (sp_without_bindings P w c) E2 (vCons (vV 3) (vCons (vV 8) (vNil))))) (vOp gAdd (vSl (vV 4) (vNoPart) (vPart (vV 8))) (vSl (vV 4) (vPart (vOp gAdd (vV 8) (vC (.int 1)))) (vNoPart))))) (sRet (vC (.bl false))) (sNext)))) (sNext)) (sRet (vC (.bl true)))
def lw12 (P : Program) (w : World) (c : Cs) (E2 : DXS) : DS := sSeq (sForG (wAny (vV 14)) (dName 15) (sIf (vTest (vOp gNe (vComp [8] (wRng1 (vCons (vOp gSub (vCB gLen (vCons (vV 15) (vNil))) (vC (.int 1))) (vNil))) (dName 8) (vTest (vOp (gIn true) (vTup (vCons (vOp gIx (vV 15) (vV 8)) (vCons (vOp gIx (vV 15) (vOp gAdd (vV 8) (vC (.int 1)))) (vNil)))) (vV 5))) (vV 8)) (vLst (vNil)))) (sRet (vC (.bl false))) (sNext))) (lw13 P w c E2)
def lw9 (P : Program) (w : World) (c : Cs) (E2 : DXS) : DS := sSeq (sAsg (vCall (sp_find_chains P w c) [] E2 (vCons (vV 3) (vNil))) (dName 14)) (sSeq (sIf (vTest (vOp gNe (vCall (sp_judge_chains P w c) [] E2 (vCons (vV 3) (vCons (vV 14) (vNil)))) (vCB gLen (vCons (vV 13) (vNil))))) (sRet (vC (.bl false))) (sNext)) (sSeq (sIf (vTest (vOp gNe (vCall (sp_judge_chains P w c) [] E2 (vCons (vV 3) (vCons (vComp [8] (wRng1 (vCons (vV 7) (vNil))) (dName 8) (vYes) (vLst (vCons (vV 8) (vNil)))) (vNil)))) (vC (.int 0)))) (sRet (vC (.bl false))) (sNext)) (lw12 P w c E2)))
def lw7 (P : Program) (w : World) (c : Cs) (E2 : DXS) : DS := sSeq (sAsg (vCall (sp_fewest_to_drop P w c) [] E2 (vCons (vV 3) (vNil))) (dName 13)) (sSeq (sIf (vOr (vTest (vOp gNe (vCall (sp_late_pairs P w c) [] E2 (vCons (vV 3) (vNil))) (vV 5))) (vTest (vOp gNe (vV 13) (vOp gIx (vCB gMinD (vCons (vV 11) (vNil))) (vC (.int 1)))))) (sRet (vC (.bl false))) (sNext)) (lw9 P w c E2))
def lw5 (P : Program) (w : World) (c : Cs) (E2 : DXS) : DS := sSeq (sAsg (vLstM (vNil)) (dName 11)) (sSeq (sFor (wSeq (vV 6)) (dName 10) (sIf (vTest (vOp gEq (vComp [12] (wSeq (vV 5)) (dName 12) (vAnd (vTest (vOp (gIn true) (vOp gIx (vV 12) (vC (.int 0))) (vV 10))) (vTest (vOp (gIn true) (vOp gIx (vV 12) (vC (.int 1))) (vV 10)))) (vV 12)) (vLst (vNil)))) (sDrop (vBM "list" gAppend (vV 11) (vCons (vTup (vCons (vCB gLen (vCons (vV 10) (vNil))) (vCons (vV 10) (vNil)))) (vNil)))) (sNext))) (lw7 P w c E2))
def lw4 (P : Program) (w : World) (c : Cs) (E2 : DXS) : DS := sSeq (sFor (wRng1 (vCons (vV 7) (vNil))) (dName 8) (sSeq (sAsg (vOp gAdd (vV 5) (vComp [9] (wRng1 (vCons (vV 7) (vNil))) (dName 9) (vTru (vCall (sp_law_is_late P w c) [] noX (vCons (vOp gIx (vV 4) (vV 8)) (vCons (vOp gIx (vV 4) (vV 9)) (vNil))))) (vTup (vCons (vV 8) (vCons (vV 9) (vNil)))))) (dName 5))
 (sAsg (vOp gAdd (vV 6) (vComp [10] (wSeq (vV 6)) (dName 10) (vYes) (vOp gAdd (vV 10) (vLst (vCons (vV 8) (vNil)))))) (dName 6)))) (lw5 P w c E2)
theorem T_law_eq (P : Program) (w : World) (c : Cs) (E2 : DXS) : T_law P w c E2 = sSeq (sAsg (vLstM (vCons (vV 0) (vCons (vC (.int 0)) (vCons (vC (.int 0)) (vCons (vC (.int 0)) (vNil)))))) (dName 1)) (sSeq (sAsg (vCall (sp_law_parts P w c) [] E2 (vCons (vV 1) (vCons (vOp gIx (vLst (vCons (vC (.str "ab")) (vCons (vC (.str "abc")) (vNil)))) (vCall (sp_law_taken P w c) [] E2 (vCons (vV 1) (vCons (vC (.int 2)) (vNil))))) (vCons (vC (.int 7)) (vNil))))) (dName 2)) (sSeq (sAsg (vTup (vCons (vCall (sp_law_made P w c) [] E2 (vCons (vV 2) (vNil))) (vCons (vOp gIx (vV 2) (vC (.int 2))) (vCons (vLst (vNil)) (vCons (vLst (vCons (vLst (vNil)) (vNil))) (vNil)))))) (dTup 4 (dCons (dName 3) (dCons (dName 4) (dCons (dName 5) (dCons (dName 6) (dNil))))))) (sSeq (sAsg (vCB gLen (vCons (vV 4) (vNil))) (dName 7)) (lw4 P w c E2)))) := rfl
end Lw

set_option Elab.async false
set_option linter.all false
set_option maxRecDepth 100000
namespace Lw
open PySem L2 Wl
structure GoodM (ms : List Str) (wt : Int) (bs : List Bd) : Prop where
  h0 : ms ≠ []
  hl : ms.length ≤ 4
  hw : ∀ m ∈ ms, Word m 8
  hn : ms.Nodup
  hwt : 1 ≤ wt ∧ wt ≤ 99
  hbl : bs.length ≤ 9
  hb : ∀ b ∈ bs, BdOk ms b
  hbn : (bs.map fun b => (b.mode, b.keys)).Nodup
  hs : ∀ b ∈ bs, 1 ≤ b.keys.cps.size ∧ b.keys.cps.size ≤ 6
section
variable {P : Program} {w : World} {c : Cs} {μ : Mu} {Q : DV} {E : DX}
theorem m_check_index {k : Addr} {ms : List Str} {wt : Int} {bs : List Bd} (hk : MapAt c μ k ms wt bs) (hl : bs.length ≤ 30) (i : Int) (hi : 0 ≤ i ∧ i < (bs.length : Int)) (q : Q .non μ) : sp_check_index P w c [.ref k, .int i] μ Q E := by
  have hz : 100 < sizeLine := by decide
  obtain ⟨dx, hP⟩ := id hk
  simp [sp_check_index, T_check_index, N_check_index, dstart]
  refine ⟨⟨dx, _, hP⟩, m_map_bindings hk ?_⟩
  simp
  refine m_is_number i 0 _ ?_
  simp
  exact ⟨⟨hi.1, by omega⟩, q⟩
def less (bs : List Bd) (j : Nat) : List Bd := bs.take j ++ bs.drop (j + 1)
theorem less_sub (bs : List Bd) (j : Nat) : (less bs j).Sublist bs := by
  have h := (List.take_append_drop j bs)
  have h2 : (bs.drop (j + 1)).Sublist (bs.drop j) := by
    rw [show j + 1 = j + 1 from rfl, ← List.drop_drop]
    exact List.drop_sublist _ _
  have := (List.Sublist.refl (bs.take j)).append h2
  rw [h] at this
  exact this
theorem GoodM.less {ms : List Str} {wt : Int} {bs : List Bd} (g : GoodM ms wt bs) (j : Nat) : GoodM ms wt (less bs j) := by
  have h := less_sub bs j
  exact ⟨g.h0, g.hl, g.hw, g.hn, g.hwt, Nat.le_trans h.length_le g.hbl, fun b hb => g.hb b (h.mem hb), (h.map _).nodup g.hbn, fun b hb => g.hs b (h.mem hb)⟩
theorem less_num (bs : List Bd) (j : Nat) : (numbered (bs.map Bd.dv)).filterMap (fun d => match d with | .tup [.int i, x] => if i = (j : Int) then none else some x | _ => none) = (less bs j).map Bd.dv := by
  have key : ∀ (xs : List Bd) (n : Nat), ((xs.map Bd.dv).zipIdx n).filterMap (fun p => if (p.2 : Int) = (j : Int) then none else some p.1) = if n ≤ j then (less xs (j - n)).map Bd.dv else xs.map Bd.dv := by
    intro xs
    induction xs with
    | nil => intro n; simp [less]
    | cons x xs ih =>
      intro n
      rw [List.map_cons, List.zipIdx_cons, List.filterMap_cons, ih (n + 1)]
      by_cases h : n = j
      · subst h
        rw [if_pos rfl, if_neg (by omega), if_pos (Nat.le_refl _), Nat.sub_self]
        rfl
      · have h1 : ¬ ((n : Int) = (j : Int)) := by omega
        rw [if_neg h1]
        by_cases h2 : n ≤ j
        · rw [if_pos h2, if_pos (by omega)]
          have e : j - n = (j - (n + 1)) + 1 := by omega
          rw [e]
          simp [less]
        · rw [if_neg h2, if_neg (by omega)]
  have := key bs 0
  rw [if_pos (Nat.zero_le _), Nat.sub_zero] at this
  rw [← this]
  unfold Wl.numbered
  rw [List.filterMap_map]
  rfl
theorem m_without (k : Addr) (ms : List Str) (wt : Int) (bs : List Bd) (g : GoodM ms wt bs) (hk : MapAt c μ k ms wt bs) (j : Nat) (hj : j < bs.length)
    (q : ∀ k2 μ', Gr μ μ' → MapAt c μ' k2 ms wt (less bs j) → Q (.ref k2) μ') : sp_without_bindings P w c [.ref k, .tup [.int j]] μ Q E := by
  have hz : 20000 < sizeLine := by decide
  have hbl := g.hbl
  simp [sp_without_bindings, T_without_bindings, N_without_bindings, dstart]
  simp [sLoop]
  refine m_check_index hk (by omega) _ ⟨by omega, by omega⟩ ?_
  refine ⟨⟨_, _, hk.choose_spec⟩, ?_⟩
  refine m_map_bindings hk ?_
  simp
  intro A hA
  refine comp_at hA (fun d => match d with | .tup [.int i, x] => if i = (j : Int) then none else some x | _ => none) _ (by rw [nmb_length, List.length_map]; omega) (fun d hd acc C2 hla hC2 => ?_) ?_
  · obtain ⟨i, hi⟩ := List.getElem?_of_mem hd
    obtain ⟨x, h1, rfl⟩ := nmb_at hi
    obtain ⟨n1, n2⟩ := cln_in (n := 0) (m := 0) (x := .int (i : Int)) (ys := [.int (j : Int)]) rfl rfl (by decide)
    simp [dwipe]
    refine in_tup.mpr ⟨n1, ?_⟩
    by_cases h : (i : Int) = (j : Int)
    · have e : dIn (.int (i : Int)) [.int (j : Int)] = true := n2.mpr (by rw [h]; simp)
      rw [e]
      simp only [h] at hC2 ⊢
      simpa using hC2
    · have e : dIn (.int (i : Int)) [.int (j : Int)] = false := by
        rw [Bool.eq_false_iff]
        intro q
        have := n2.mp q
        simp at this
        omega
      rw [e]
      simp only [h] at hC2 ⊢
      simpa [hla] using hC2
  · rw [less_num, mdel_mset hA]
    have gl := g.less j
    have hll := (less_sub bs j).length_le
    simp [vMake]
    refine ⟨⟨_, _, hk.choose_spec⟩, m_map_modes hk ⟨⟨_, _, hk.choose_spec⟩, m_map_wait hk ?_⟩⟩
    show ∀ (a dx : Addr), _
    intro k2 dx hk2
    refine m_map_init ms wt (less bs j) k2 dx gl.h0 gl.hl gl.hw gl.hn gl.hwt (by omega) gl.hb gl.hbn mset_at fun p m hp => ?_
    have hpk : p ≠ k2 := fun e => by rw [e, mset_at] at hp; cases hp
    have hp' : μ p = none := by rw [mset_off hpk] at hp; exact hp
    refine q k2 _ (fun b n e => ?_) ⟨dx, mset_at⟩
    have h1 : b ≠ k2 := fun z => by rw [z, hk2] at e; cases e
    have h2 : b ≠ p := fun z => by rw [z, hp'] at e; cases e
    rw [mset_off h1, mset_off h2, mset_off h1]; exact e
/-! the law's last part -/
section
variable {E2 : DXS} {D : DEnds}
theorem mapAt_row {a k : Addr} {ms : List Str} {wt : Int} {bs : List Bd} (hk : MapAt c μ k ms wt bs) {m : Mo} (hka : k ≠ a) : MapAt c (mset μ a m) k ms wt bs := by
  obtain ⟨dx, h⟩ := hk
  exact ⟨dx, by rw [mset_off hka]; exact h⟩
theorem m_lw13 (x0 x2 x5 x6 x8 x9 x10 x11 x12 x13 x14 x15 : Option Dv) (a k : Addr) (ns : List Int) (n1 n2 n3 : Int) (ms : List Str) (wt : Int) (bs : List Bd) (g : GoodM ms wt bs) (hk : MapAt c μ k ms wt bs) (hka : k ≠ a) (h : μ a = some (row ns n1 n2 n3)) (ho : RowOk n1 n2) (q : ∀ μ', D.rt (.bl true) μ') :
    lw13 P w c E2 D [x0, some (.ref a), x2, some (.ref k), some (.tup (bs.map Bd.dv)), x5, x6, some (.int bs.length), x8, x9, x10, x11, x12, x13, x14, x15] μ := by
  have hz : 20000 < sizeLine := by decide
  have hbl := g.hbl
  unfold lw13
  simp
  by_cases h0 : 0 < bs.length
  · rw [if_pos h0]
    refine m_take a ns n1 n2 n3 bs.length (by omega) (by omega) h ho fun v m1 m2 m3 hv0 hv1 ho1 => ?_
    obtain ⟨j, rfl⟩ := Int.eq_ofNat_of_zero_le hv0
    have hj : j < bs.length := by omega
    have hk1 := mapAt_row hk (m := row ns m1 m2 m3) hka
    refine ⟨by omega, fun A hA => ?_⟩
    have hkA : k ≠ A := fun e => by obtain ⟨dx, z⟩ := hk1; rw [e, hA] at z; cases z
    refine comp_at hA (fun d => match d with | .int i => if i = (j : Int) then none else some (.lst [.int i]) | _ => none) _ (by simp [irange]; omega) (fun d hd acc C2 hla hC2 => ?_) ?_
    · obtain ⟨i, hi⟩ := List.getElem?_of_mem hd
      obtain ⟨hi1, rfl⟩ := irange_at hi
      simp [dwipe]
      have hq := cln_eq 0 0 (.int (i : Int)) (.int (j : Int)) rfl rfl
      refine ⟨cln_ok (n := 0) (m := 0) rfl rfl (by decide), ?_⟩
      by_cases z : (i : Int) = (j : Int)
      · rw [if_pos (hq.mpr (by rw [z]))]
        simpa [z] using hC2
      · rw [if_neg (fun y => z (by have := hq.mp y; injection this))]
        have h1 : 1 ≤ sizeLine := by omega
        simpa [z, hla, h1] using hC2
    · rw [mdel_mset hA]
      have e1 : (irange 0 bs.length).filterMap (fun d => match d with | .int i => if i = (j : Int) then none else some (.lst [.int i]) | _ => none) = ((((List.range bs.length).filter fun i => !decide (i = j)).map fun (i : Nat) => [(i : Int)]).map IntL) := by
        unfold irange
        rw [List.filterMap_map, List.map_map]
        generalize List.range bs.length = l
        induction l with
        | nil => rfl
        | cons x l ih =>
          rw [List.filterMap_cons, List.filter_cons, ih]
          by_cases z : x = j
          · subst z; simp
          · have z' : ¬ ((x : Int) = (j : Int)) := by omega
            simp [z, z', IntL, IntD]
      rw [e1]
      refine m_judge k ms wt bs _ _ hk1 (by omega) g.hs (.inl rfl) (fun xs hx => by obtain ⟨i, _, rfl⟩ := List.mem_map.mp hx; simp) (by rw [List.length_map]; have := List.length_filter_le (fun i => !decide (i = j)) (List.range bs.length); rw [List.length_range] at this; omega) fun μ2 g2 => ?_
      rw [judge_less]
      · simp [isNo]
        have hk2 : MapAt c μ2 k ms wt bs := by obtain ⟨dx, z⟩ := hk1; exact ⟨dx, g2 _ _ z⟩
        unfold vCallS
        simp
        refine m_without k ms wt bs g hk2 j hj fun k2 μ3 g3 hk3 => ?_
        refine ⟨_, _, hk3.choose_spec, m_map_bindings hk3 ?_⟩
        have ej : ((j : Int) + 1) = ((j + 1 : Nat) : Int) := by omega
        rw [ej, dcut_to, dcut_from]
        have hll := (less_sub bs j).length_le
        have c1 : ∀ xs : List Bd, Cln 2 (.tup (xs.map Bd.dv)) = true := fun xs => by
          show (xs.map Bd.dv).all (Cln 1) = true
          rw [List.all_eq_true]
          intro d hd
          obtain ⟨b, _, rfl⟩ := List.mem_map.mp hd
          rfl
        have e2 : (bs.map Bd.dv).take j ++ (bs.map Bd.dv).drop (j + 1) = (less bs j).map Bd.dv := by
          unfold less
          rw [List.map_append, List.map_take, List.map_drop]
        have hlen : ((bs.map Bd.dv).take j).length + ((bs.map Bd.dv).drop (j + 1)).length ≤ sizeLine := by
          rw [List.length_take, List.length_drop, List.length_map]; omega
        refine ⟨hlen, ?_⟩
        rw [e2]
        refine ⟨cln_ok (n := 2) (m := 2) (c1 _) (c1 _) (by decide), ?_⟩
        rw [if_pos ((cln_eq 2 2 _ _ (c1 _) (c1 _)).mpr rfl)]
        exact q _
      · have hfl : ((((List.range bs.length).filter fun i => !decide (i = j)).map fun (i : Nat) => [(i : Int)])).flatten.length = ((List.range bs.length).filter fun i => !decide (i = j)).length := by
          generalize (List.range bs.length).filter (fun i => !decide (i = j)) = l
          induction l with
          | nil => rfl
          | cons x l ih => simp at ih ⊢; omega
        rw [hfl]
        have := (List.length_filter_lt_length_iff_exists (l := List.range bs.length) (p := fun i => !decide (i = j))).mpr ⟨j, List.mem_range.mpr hj, by simp⟩
        rw [List.length_range] at this
        omega
  · rw [if_neg h0]
    exact q _
end
end
end Lw

set_option Elab.async false
set_option linter.all false
set_option maxRecDepth 100000
namespace Lw
open PySem L2 Wl
section
variable {P : Program} {w : World} {c : Cs} {μ : Mu} {E2 : DXS} {D : DEnds}
theorem nat_at {x : List Nat} {i : Nat} {y : Nat} (h : x[i]? = some y) : atI (NatD x) (i : Int) = some (.int y) := by
  have hi : i < x.length := (List.getElem?_eq_some_iff.mp h).1
  unfold atI ixN NatD
  rw [if_pos (by omega), if_pos (by rw [List.length_map]; omega)]
  show (x.map fun (x : Nat) => Dv.int x)[((i : Nat) : Int).toNat]? = _
  rw [Int.toNat_natCast, List.getElem?_map, h]; rfl
theorem m_lw12 (x0 x2 x6 x8 x9 x10 x11 x12 x13 x15 : Option Dv) (a k : Addr) (ns : List Int) (n1 n2 n3 : Int) (ms : List Str) (wt : Int) (bs : List Bd) (g : GoodM ms wt bs) (hk : MapAt c μ k ms wt bs) (hka : k ≠ a) (h : μ a = some (row ns n1 n2 n3)) (ho : RowOk n1 n2) (q : ∀ μ', D.rt (.bl true) μ') :
    lw12 P w c E2 D [x0, some (.ref a), x2, some (.ref k), some (.tup (bs.map Bd.dv)), some (.lst ((lps bs).map pairD)), x6, some (.int bs.length), x8, x9, x10, x11, x12, x13, some (.lst ((chs (fls (lps bs)) bs.length).map chD)), x15] μ := by
  have hz : 20000 < sizeLine := by decide
  have hbl := g.hbl
  have hgood := chs_good (by omega : bs.length ≤ 30) g.hs
  unfold lw12
  simp
  refine loopG_inv _ (fun i δ μ' => (∃ y8 y15 : Option Dv, δ = [x0, some (.ref a), x2, some (.ref k), some (.tup (bs.map Bd.dv)), some (.lst ((lps bs).map pairD)), x6, some (.int bs.length), y8, x9, x10, x11, x12, x13, some (.lst ((chs (fls (lps bs)) bs.length).map chD)), y15]) ∧ μ' = μ) 0 ⟨⟨_, _, rfl⟩, rfl⟩ (fun _ _ _ _ => trivial) ?_ ?_
  · rintro i d δ μ' C hd ⟨⟨y8, y15, rfl⟩, rfl⟩ hC
    rw [List.getElem?_map] at hd
    cases hm : (chs (fls (lps bs)) bs.length)[i]? with
    | none => rw [hm] at hd; cases hd
    | some x =>
      rw [hm] at hd
      cases hd
      obtain ⟨hx0, hx1, hx2⟩ := hgood x (List.mem_of_getElem? hm)
      have hxl : x.length ≤ 1000 := by
        have := chs_perm (lks_of (by omega : bs.length ≤ 30) g.hs) (lps_lt bs)
        have e1 := this.length_eq
        rw [List.length_range] at e1
        have e2 := (List.sublist_flatten_of_mem (List.mem_of_getElem? hm)).length_le
        omega
      have hxp : 1 ≤ x.length := List.length_pos_iff.mpr hx0
      have eL : (NatD x).length = x.length := by unfold NatD; rw [List.length_map]
      simp [chD]
      rw [eL]
      refine ⟨⟨by omega, by omega⟩, fun A hA => ?_⟩
      refine comp_at hA (fun _ => none) _ (by simp [irange]; omega) (fun d hd acc C2 hla hC2 => ?_) ?_
      · obtain ⟨m, hmm⟩ := List.getElem?_of_mem hd
        obtain ⟨hm1, rfl⟩ := irange_at hmm
        have hm2 : m + 1 < x.length := by omega
        have e1 := nat_at (List.getElem?_eq_getElem (by omega : m < x.length))
        have e2 := nat_at (List.getElem?_eq_getElem hm2)
        have ej : ((m : Int) + 1) = ((m + 1 : Nat) : Int) := by omega
        simp [dwipe, e1]
        rw [ej]
        simp only [e2]
        simp
        obtain ⟨n1, n2⟩ := in_pairs (lps bs) (x[m]) (x[m + 1])
        have hin : (x[m], x[m + 1]) ∈ lps bs := by
          refine hx2 _ (List.mem_iff_getElem?.mpr ⟨m, ?_⟩)
          rw [List.getElem?_zip_eq_some, List.getElem?_drop]
          refine ⟨List.getElem?_eq_getElem _, ?_⟩
          rw [show 1 + m = m + 1 by omega]
          exact List.getElem?_eq_getElem _
        have n3 : prI (lps bs) ((x[m] : Int), (x[m + 1] : Int)) = true := by
          unfold prI
          rw [List.any_eq_true]
          exact ⟨_, hin, by simp⟩
        refine ⟨by omega, n1, ?_⟩
        rw [n2, n3]
        simpa using hC2
      · have e0 : (irange 0 (x.length - 1)).filterMap (fun _ => (none : Option Dv)) = [] := by simp
        rw [e0, mdel_mset hA]
        refine ⟨cln_ok (n := 1) (m := 1) rfl rfl (by decide), ?_⟩
        rw [if_pos ((cln_eq 1 1 _ _ rfl rfl).mpr rfl)]
        exact hC _ _ ⟨⟨_, _, rfl⟩, rfl⟩
  · rintro δ μ' ⟨⟨y8, y15, rfl⟩, rfl⟩
    exact m_lw13 _ _ _ _ _ _ _ _ _ _ _ _ a k ns n1 n2 n3 ms wt bs g hk hka h ho q
theorem dEq_int (i j : Int) : dEq (.int i) (.int j) = decide (i = j) := by
  have hq := cln_eq 0 0 (.int i) (.int j) rfl rfl
  rw [Bool.eq_iff_iff, hq, decide_eq_true_eq]
  exact ⟨fun h => by injection h, fun h => by rw [h]⟩
theorem okI (i j : Int) : eqOk (.int i) (.int j) := cln_ok (n := 0) (m := 0) rfl rfl (by decide)
theorem m_lw9 (x0 x2 x6 x8 x9 x10 x11 x12 x14 x15 : Option Dv) (a k : Addr) (ns : List Int) (n1 n2 n3 : Int) (ms : List Str) (wt : Int) (bs : List Bd) (g : GoodM ms wt bs) (hk : MapAt c μ k ms wt bs) (hka : k ≠ a) (h : μ a = some (row ns n1 n2 n3)) (ho : RowOk n1 n2) (q : ∀ μ', D.rt (.bl true) μ') :
    lw9 P w c E2 D [x0, some (.ref a), x2, some (.ref k), some (.tup (bs.map Bd.dv)), some (.lst ((lps bs).map pairD)), x6, some (.int bs.length), x8, x9, x10, x11, x12, some (.lst (NatD (fewest bs))), x14, x15] μ := by
  have hz : 20000 < sizeLine := by decide
  have hbl := g.hbl
  have MA : ∀ {μ μ' : Mu}, MapAt c μ k ms wt bs → Gr μ μ' → MapAt c μ' k ms wt bs := fun h g => by
    obtain ⟨dx, z⟩ := h
    exact ⟨dx, g _ _ z⟩
  have hcl : (chs (fls (lps bs)) bs.length).length ≤ bs.length := chs_len _ _
  have hcx : ∀ xs ∈ (chs (fls (lps bs)) bs.length).map toI, xs.length ≤ 1000 := fun xs hxs => by
    obtain ⟨x, hx, rfl⟩ := List.mem_map.mp hxs
    have e1 := (chs_perm (lks_of (by omega : bs.length ≤ 30) g.hs) (lps_lt bs)).length_eq
    rw [List.length_range] at e1
    have e2 := (List.sublist_flatten_of_mem hx).length_le
    unfold toI
    rw [List.length_map]
    omega
  unfold lw9
  simp
  refine m_find_chains k ms wt bs hk (by omega) g.hs fun μ1 g1 => ?_
  have hk1 := MA hk g1
  refine m_judge k ms wt bs _ ((chs (fls (lps bs)) bs.length).map toI) hk1 (by omega) g.hs (.inl (by rw [List.map_map]; exact congrArg Dv.lst (List.map_congr_left fun x _ => chD_IntL x))) hcx (by rw [List.length_map]; omega) fun μ2 g2 => ?_
  rw [judge_chs (by omega : bs.length ≤ 30) g.hs]
  have hk2 := MA hk1 g2
  have eN : (NatD (fewest bs)).length = (fewest bs).length := by unfold NatD; rw [List.length_map]
  rw [eN]
  refine ⟨okI _ _, ?_⟩
  rw [if_pos (by rw [dEq_int]; simp)]
  refine ⟨by omega, fun A hA => ?_⟩
  refine comp_at hA (fun d => match d with | .int i => some (.lst [.int i]) | _ => none) _ (by simp [irange]; omega) (fun d hd acc C2 hla hC2 => ?_) ?_
  · obtain ⟨m, hm⟩ := List.getElem?_of_mem hd
    obtain ⟨hm1, rfl⟩ := irange_at hm
    have h1 : 1 ≤ sizeLine := by omega
    simp [dwipe, h1, hla]
    simpa using hC2
  · rw [mdel_mset hA]
    have e1 : (irange 0 bs.length).filterMap (fun d => match d with | .int i => some (.lst [.int i]) | _ => none) = (((List.range bs.length).map fun k => [k]).map toI).map IntL := by
      unfold irange
      rw [List.filterMap_map, List.map_map, List.map_map]
      generalize List.range bs.length = l
      induction l with
      | nil => rfl
      | cons x l ih => rw [List.filterMap_cons, List.map_cons, ih]; simp [toI, IntL, IntD]
    rw [e1]
    refine m_judge k ms wt bs _ _ hk2 (by omega) g.hs (.inl rfl) (fun xs hxs => by obtain ⟨x, hx, rfl⟩ := List.mem_map.mp hxs; obtain ⟨y, _, rfl⟩ := List.mem_map.mp hx; simp [toI]) (by rw [List.length_map, List.length_map, List.length_range]; omega) fun μ3 g3 => ?_
    rw [judge_each]
    refine ⟨okI _ _, ?_⟩
    rw [if_pos (by rw [dEq_int]; simp)]
    exact m_lw12 _ _ _ _ _ _ _ _ _ _ a k ns n1 n2 n3 ms wt bs g (MA hk2 g3) hka (g3 _ _ (g2 _ _ (g1 _ _ h))) ho q
end
end Lw

set_option Elab.async false
set_option linter.all false
set_option maxRecDepth 100000
namespace Lw
open PySem L2 Wl
open PySem.W (alike alikeAll dataLt AlikeAll minD)
def gdD (l : List Nat) : Dv := rkD (rk l)
theorem natD_isD : ∀ l : List Nat, Dv.areD (NatD l) = true
  | [] => rfl
  | x :: l => by
    show Dv.areD (.int x :: NatD l) = true
    unfold Dv.areD
    rw [natD_isD l]
    rfl
theorem natD_depth : ∀ l : List Nat, PyData.depthAll (Dv.pds (NatD l)) = 0
  | [] => rfl
  | x :: l => by
    show PyData.depthAll (.int x :: Dv.pds (NatD l)) = 0
    rw [PyData.depthAll, natD_depth l]
    rfl
theorem gdD_isD (l : List Nat) : (gdD l).isD = true := by
  have := natD_isD l
  simp [gdD, rkD, rk, Dv.isD, Dv.areD, this]
theorem gdD_depth (l : List Nat) : (gdD l).pd.depth = 2 := by
  have := natD_depth l
  simp [gdD, rkD, rk, Dv.pd, Dv.pds, PyData.depth, PyData.depthAll, this]
theorem gds_isD : ∀ ls : List (List Nat), Dv.areD (ls.map gdD) = true
  | [] => rfl
  | l :: ls => by
    show Dv.areD (gdD l :: ls.map gdD) = true
    unfold Dv.areD
    rw [gdD_isD, gds_isD ls]; rfl
theorem gds_depth : ∀ ls : List (List Nat), PyData.depthAll (Dv.pds (ls.map gdD)) ≤ 2
  | [] => Nat.zero_le _
  | l :: ls => by
    show PyData.depthAll ((gdD l).pd :: Dv.pds (ls.map gdD)) ≤ 2
    rw [PyData.depthAll, gdD_depth]
    exact Nat.max_le.mpr ⟨Nat.le_refl _, gds_depth ls⟩
theorem gds_alike (ls : List (List Nat)) : AlikeAll (Dv.pds (ls.map gdD)) := by
  have hm : ∀ d ∈ Dv.pds (ls.map gdD), ∃ l : List Nat, d = .tuple [.int l.length, .list (Dv.pds (NatD l))] := fun d hd => by
    rw [Dv.pds_map, List.map_map] at hd
    obtain ⟨l, _, rfl⟩ := List.mem_map.mp hd
    exact ⟨l, rfl⟩
  refine ⟨fun x hx y hy => ?_, fun x hx => ?_⟩
  · obtain ⟨l, rfl⟩ := hm x hx
    obtain ⟨m, rfl⟩ := hm y hy
    simp [alike, alikeAll, alike_nats]
  · obtain ⟨l, rfl⟩ := hm x hx
    simp
theorem pds_nat_inj : ∀ {l m : List Nat}, Dv.pds (NatD l) = Dv.pds (NatD m) → l = m
  | [], [], _ => rfl
  | [], _ :: _, h => by cases h
  | _ :: _, [], h => by cases h
  | x :: l, y :: m, h => by
    have h' : (PyData.int x :: Dv.pds (NatD l)) = .int y :: Dv.pds (NatD m) := h
    injection h' with h1 h2
    injection h1 with h1
    rw [Int.ofNat.inj h1, pds_nat_inj h2]
theorem gdD_inj {l m : List Nat} (h : (gdD l).pd = (gdD m).pd) : l = m := by
  have h' : PyData.tuple [.int l.length, .list (Dv.pds (NatD l))] = .tuple [.int m.length, .list (Dv.pds (NatD m))] := h
  injection h' with h1
  injection h1 with _ h2
  injection h2 with h2 _
  injection h2 with h2
  exact pds_nat_inj h2
section
variable {P : Program} {w : World} {c : Cs} {μ : Mu} {E2 : DXS} {D : DEnds} {Q : DV}
theorem o_minG {A : Addr} {good : List (List Nat)} {F : List Nat} (hA : μ A = some (.lst (good.map gdD))) (h : ∃ x xs, good = x :: xs ∧ mn (rk x) (xs.map rk) = rk F) (q : Q (gdD F) μ) : gMinD [.ref A] μ Q := by
  obtain ⟨x, xs, rfl, e⟩ := h
  refine ⟨gdD x, xs.map gdD, hA, gds_isD (x :: xs), gds_alike (x :: xs), Nat.le_trans (gds_depth (x :: xs)) (by decide), fun d hd hm => ?_⟩
  have hd' : d ∈ (x :: xs).map gdD := hd
  obtain ⟨l, hl, rfl⟩ := List.mem_map.mp hd'
  have e2 : xs.map gdD = (xs.map rk).map rkD := by rw [List.map_map]; rfl
  rw [e2] at hm
  have e3 := minD_rk (xs.map rk) (rk x)
  have e4 : (gdD l).pd = (rkD (mn (rk x) (xs.map rk))).pd := hm.trans e3
  rw [e] at e4
  have e5 : l = F := gdD_inj e4
  rw [e5]; exact q
theorem cln_pairs (ps : Ps) : Cln 2 (.lst (ps.map pairD)) = true := by
  show (ps.map pairD).all (Cln 1) = true
  rw [List.all_eq_true]
  intro d hd
  obtain ⟨p, _, rfl⟩ := List.mem_map.mp hd
  rfl
theorem cln_nats (l : List Nat) : Cln 1 (.lst (NatD l)) = true := by
  show (NatD l).all (Cln 0) = true
  rw [List.all_eq_true]
  intro d hd
  obtain ⟨p, _, rfl⟩ := List.mem_map.mp hd
  rfl
theorem m_lw7 (x0 x2 x6 x8 x9 x10 x12 x13 x14 x15 : Option Dv) (a k A : Addr) (ns : List Int) (n1 n2 n3 : Int) (ms : List Str) (wt : Int) (bs : List Bd) (g : GoodM ms wt bs) (hk : MapAt c μ k ms wt bs) (hka : k ≠ a) (h : μ a = some (row ns n1 n2 n3)) (ho : RowOk n1 n2)
    (good : List (List Nat)) (hA : μ A = some (.lst (good.map gdD))) (hg : ∀ l, l ∈ good ↔ l ∈ rowsN bs.length ∧ Cov (lps bs) l) (q : ∀ μ', D.rt (.bl true) μ') :
    lw7 P w c E2 D [x0, some (.ref a), x2, some (.ref k), some (.tup (bs.map Bd.dv)), some (.lst ((lps bs).map pairD)), x6, some (.int bs.length), x8, x9, x10, some (.ref A), x12, x13, x14, x15] μ := by
  have hz : 20000 < sizeLine := by decide
  have hbl := g.hbl
  have MA : ∀ {μ μ' : Mu}, MapAt c μ k ms wt bs → Gr μ μ' → MapAt c μ' k ms wt bs := fun h g => by
    obtain ⟨dx, z⟩ := h
    exact ⟨dx, g _ _ z⟩
  unfold lw7
  simp
  refine m_fewest k ms wt bs hk (by omega) g.hs fun μ1 g1 => ?_
  have hk1 := MA hk g1
  have h30 : ∀ p ∈ lps bs, p.2 < 30 := fun p hp => by have := (lps_lt bs p hp).2; omega
  refine m_late_pairs k ms wt bs hk1 (by omega) g.hs ?_
  refine ⟨cln_ok (n := 2) (m := 2) (cln_pairs _) (cln_pairs _) (by decide), ?_⟩
  rw [if_pos ((cln_eq 2 2 _ _ (cln_pairs _) (cln_pairs _)).mpr rfl)]
  refine o_minG (F := fewest bs) (g1 _ _ hA) (least (lps_lt bs) h30 (lps_trn bs) hg) ?_
  have e1 : gIx (gdD (fewest bs)) (.int 1) μ1 = fun Q => Q (.lst (NatD (fewest bs))) μ1 := by
    funext Q
    exact propext (by simp [gdD, rkD, rk, pt1])
  rw [e1]
  refine ⟨cln_ok (n := 1) (m := 1) (cln_nats _) (cln_nats _) (by decide), ?_⟩
  rw [if_pos ((cln_eq 1 1 _ _ (cln_nats _) (cln_nats _)).mpr rfl)]
  exact m_lw9 _ _ _ _ _ _ _ _ _ _ a k ns n1 n2 n3 ms wt bs g hk1 hka (g1 _ _ h) ho q
/-! the good choices -/
def good (ps : Ps) (n : Nat) : List (List Nat) := (rowsN n).filter fun l => ps.all fun p => decide (p.1 ∈ l) || decide (p.2 ∈ l)
theorem good_iff (ps : Ps) (n : Nat) (l : List Nat) : l ∈ good ps n ↔ l ∈ rowsN n ∧ Cov ps l := by
  unfold good
  rw [List.mem_filter, List.all_eq_true]
  refine and_congr_right fun _ => ?_
  unfold Cov
  simp
theorem in_nats (m : Nat) (l : List Nat) : inOk (.int (m : Int)) (NatD l) ∧ dIn (.int (m : Int)) (NatD l) = decide (m ∈ l) := by
  obtain ⟨h1, h2⟩ := cln_in (n := 0) (m := 0) (x := .int (m : Int)) (ys := NatD l) rfl (cln_nats l) (by decide)
  refine ⟨h1, ?_⟩
  rw [Bool.eq_iff_iff, h2, decide_eq_true_eq]
  unfold NatD
  rw [List.mem_map]
  constructor
  · rintro ⟨n, hn, e⟩
    injection e with e
    have : n = m := by omega
    exact this ▸ hn
  · intro h
    exact ⟨m, h, rfl⟩
def bare (l : List Nat) (d : Dv) : Option Dv := match d with | .tup [.int x, .int y] => if x.toNat ∈ l ∨ y.toNat ∈ l then none else some d | _ => none
theorem bare_pair (l : List Nat) (p : Nat × Nat) : bare l (pairD p) = if p.1 ∈ l ∨ p.2 ∈ l then none else some (pairD p) := rfl
theorem bare_map (l : List Nat) : ∀ ps : Ps, (ps.map pairD).filterMap (bare l) = (ps.filter fun p => !(decide (p.1 ∈ l) || decide (p.2 ∈ l))).map pairD
  | [] => rfl
  | p :: ps => by
    rw [List.map_cons, List.filterMap_cons, bare_map l ps, bare_pair, List.filter_cons]
    by_cases h : p.1 ∈ l ∨ p.2 ∈ l
    · rw [if_pos h, if_neg (by rcases h with h | h <;> simp [h])]
    · rw [if_neg h, if_pos (by simpa using h)]; rfl
theorem bare_nil (l : List Nat) (ps : Ps) : (ps.filter fun p => !(decide (p.1 ∈ l) || decide (p.2 ∈ l))) = [] ↔ (ps.all fun p => decide (p.1 ∈ l) || decide (p.2 ∈ l)) = true := by
  rw [List.filter_eq_nil_iff, List.all_eq_true]
  exact ⟨fun h p hp => by have := h p hp; cases e : (decide (p.1 ∈ l) || decide (p.2 ∈ l)) with | true => rfl | false => rw [e] at this; exact absurd rfl this, fun h p hp => by rw [h p hp]; exact Bool.false_ne_true⟩
theorem m_lw5 (x0 x2 x8 x9 x10 x11 x12 x13 x14 x15 : Option Dv) (a k : Addr) (ns : List Int) (n1 n2 n3 : Int) (ms : List Str) (wt : Int) (bs : List Bd) (g : GoodM ms wt bs) (hk : MapAt c μ k ms wt bs) (hka : k ≠ a) (h : μ a = some (row ns n1 n2 n3)) (ho : RowOk n1 n2) (q : ∀ μ', D.rt (.bl true) μ') :
    lw5 P w c E2 D [x0, some (.ref a), x2, some (.ref k), some (.tup (bs.map Bd.dv)), some (.lst ((lps bs).map pairD)), some (.lst ((rowsN bs.length).map fun l => .lst (NatD l))), some (.int bs.length), x8, x9, x10, x11, x12, x13, x14, x15] μ := by
  have hz : 20000 < sizeLine := by decide
  have hbl := g.hbl
  have hrl : (rowsN bs.length).length ≤ 512 := by
    rw [rowsN_len]
    exact Nat.pow_le_pow_right (by decide) hbl
  have hpl : (lps bs).length ≤ 100 := by
    have := lpsN_len bs bs.length
    have h2 : bs.length * bs.length ≤ 9 * 9 := Nat.mul_le_mul hbl hbl
    unfold lps; omega
  unfold lw5
  simp
  intro A hA
  have hAa : a ≠ A := fun e => by rw [← e, h] at hA; cases hA
  have hAk : k ≠ A := fun e => by obtain ⟨dx, z⟩ := hk; rw [e, hA] at z; cases z
  let cv : List Nat → Bool := fun l => (lps bs).all fun p => decide (p.1 ∈ l) || decide (p.2 ∈ l)
  refine loop_inv _ (fun i δ μ' => (∃ y10 y12 : Option Dv, δ = [x0, some (.ref a), x2, some (.ref k), some (.tup (bs.map Bd.dv)), some (.lst ((lps bs).map pairD)), some (.lst ((rowsN bs.length).map fun l => .lst (NatD l))), some (.int bs.length), x8, x9, y10, some (.ref A), y12, x13, x14, x15]) ∧
      μ' = mset μ A (.lst ((((rowsN bs.length).take i).filter cv).map gdD))) 0 ⟨⟨_, _, rfl⟩, rfl⟩ ?_ ?_
  · rintro i d δ μ' C hd ⟨⟨y10, y12, rfl⟩, rfl⟩ hC
    rw [List.getElem?_map] at hd
    cases hm : (rowsN bs.length)[i]? with
    | none => rw [hm] at hd; cases hd
    | some l =>
      rw [hm] at hd
      cases hd
      have hi : i < (rowsN bs.length).length := (List.getElem?_eq_some_iff.mp hm).1
      have etk : (rowsN bs.length).take (i + 1) = (rowsN bs.length).take i ++ [l] := by rw [List.take_add_one, hm]; rfl
      simp only [Nat.zero_add] at hC ⊢
      simp
      intro B hB
      have hAB : A ≠ B := fun e => by rw [← e, mset_at] at hB; cases hB
      refine comp_at hB (bare l) _ (by rw [List.length_map]; omega) (fun d hd acc C2 hla hC2 => ?_) ?_
      · obtain ⟨p, hp, rfl⟩ := List.mem_map.mp hd
        obtain ⟨o1, o2⟩ := in_nats p.1 l
        obtain ⟨o3, o4⟩ := in_nats p.2 l
        rw [bare_pair] at hC2
        simp [pairD, dwipe, pt0, pt1]
        refine ⟨o1, ?_⟩
        rw [o2]
        by_cases z1 : p.1 ∈ l
        · simpa [z1] using hC2
        · have d1 : decide (p.1 ∈ l) = false := by simpa using z1
          rw [d1]
          refine ⟨o3, ?_⟩
          rw [o4]
          by_cases z2 : p.2 ∈ l
          · simpa [z1, z2] using hC2
          · simpa [z1, z2, hla, pairD] using hC2
      · rw [bare_map, mdel_mset hB]
        have c1 := cln_pairs ((lps bs).filter fun p => !(decide (p.1 ∈ l) || decide (p.2 ∈ l)))
        refine ⟨cln_ok (n := 2) (m := 2) c1 rfl (by decide), ?_⟩
        have hq := cln_eq 2 2 _ (.lst []) c1 rfl
        cases hc : cv l with
        | true =>
          rw [if_pos (hq.mpr (by rw [(bare_nil l (lps bs)).mpr hc]; rfl))]
          refine ⟨(ty_ref mset_at).mpr rfl, by omega, _, mset_at, ?_, ?_⟩
          · have := List.length_filter_le cv ((rowsN bs.length).take i)
            rw [List.length_take] at this
            rw [List.length_map]
            omega
          · refine hC _ _ ⟨⟨_, _, rfl⟩, ?_⟩
            rw [mset_mset, etk, List.filter_append, List.map_append]
            simp [hc, gdD, rkD, rk, NatD]
        | false =>
          rw [if_neg fun z => ?_]
          · refine hC _ _ ⟨⟨_, _, rfl⟩, ?_⟩
            rw [etk, List.filter_append, List.map_append]
            simp [hc]
          · have z2 := hq.mp z
            have z3 : ((lps bs).filter fun p => !(decide (p.1 ∈ l) || decide (p.2 ∈ l))) = [] := by
              injection z2 with z2
              exact List.map_eq_nil_iff.mp z2
            have := (bare_nil l (lps bs)).mp z3
            have hc' : ((lps bs).all fun p => decide (p.1 ∈ l) || decide (p.2 ∈ l)) = false := hc
            rw [this] at hc'; cases hc'
  · rintro δ μ' ⟨⟨y10, y12, rfl⟩, rfl⟩
    have hn : 0 + ((rowsN bs.length).map fun l => Dv.lst (NatD l)).length = (rowsN bs.length).length := by simp
    rw [hn, List.take_length]
    have hk1 := mapAt_row hk (m := .lst (((rowsN bs.length).filter cv).map gdD)) hAk
    exact m_lw7 _ _ _ _ _ _ _ _ _ _ a k A ns n1 n2 n3 ms wt bs g hk1 hka (by rw [mset_off hAa]; exact h) ho (good (lps bs) bs.length) mset_at (good_iff _ _) q
end
end Lw

set_option Elab.async false
set_option linter.all false
set_option maxRecDepth 100000
namespace Lw
open PySem L2 Wl
section
variable {P : Program} {w : World} {c : Cs} {μ : Mu} {E2 : DXS} {D : DEnds} {Q : DV} {E : DX}
def rowD (l : List Nat) : Dv := .lst (NatD l)
theorem at_bd {bs : List Bd} {i : Nat} {b : Bd} (h : bs[i]? = some b) : atI (bs.map Bd.dv) (i : Int) = some b.dv := by
  have hi : i < bs.length := (List.getElem?_eq_some_iff.mp h).1
  unfold atI ixN
  rw [if_pos (by omega), if_pos (by rw [List.length_map]; omega)]
  show (bs.map Bd.dv)[((i : Nat) : Int).toNat]? = _
  rw [Int.toNat_natCast, List.getElem?_map, h]; rfl
def lateF (bs : List Bd) (i : Nat) (d : Dv) : Option Dv := match d with | .int j => if insAt bs i j.toNat = true then some (.tup [.int i, .int j]) else none | _ => none
theorem lateF_row (bs : List Bd) (i : Nat) : ∀ m : Nat, (irange 0 m).filterMap (lateF bs i) = (rowP bs i m).map pairD
  | 0 => rfl
  | m + 1 => by
    have e : irange 0 (m + 1) = irange 0 m ++ [.int m] := by
      unfold irange
      rw [List.range_succ, List.map_append]
      simp
    rw [e, List.filterMap_append, lateF_row bs i m, rowP_succ, List.map_append]
    congr 1
    by_cases h : insAt bs i m = true
    · rw [if_pos h]; simp [lateF, h, pairD]
    · rw [if_neg h]; simp [lateF, h]
theorem m_lw4 (x0 x2 x8 x9 x10 x11 x12 x13 x14 x15 : Option Dv) (a k : Addr) (ns : List Int) (n1 n2 n3 : Int) (ms : List Str) (wt : Int) (bs : List Bd) (g : GoodM ms wt bs) (hk : MapAt c μ k ms wt bs) (hka : k ≠ a) (h : μ a = some (row ns n1 n2 n3)) (ho : RowOk n1 n2) (q : ∀ μ', D.rt (.bl true) μ') :
    lw4 P w c E2 D [x0, some (.ref a), x2, some (.ref k), some (.tup (bs.map Bd.dv)), some (.lst []), some (.lst [.lst []]), some (.int bs.length), x8, x9, x10, x11, x12, x13, x14, x15] μ := by
  have hz : 20000 < sizeLine := by decide
  have hbl := g.hbl
  unfold lw4
  simp
  refine ⟨by omega, ?_⟩
  refine loop_inv _ (fun i δ μ' => (∃ y8 y9 y10 : Option Dv, δ = [x0, some (.ref a), x2, some (.ref k), some (.tup (bs.map Bd.dv)), some (.lst ((lpsN bs i).map pairD)), some (.lst ((rowsN i).map rowD)), some (.int bs.length), y8, y9, y10, x11, x12, x13, x14, x15]) ∧
      μ' = μ) 0 ⟨⟨_, _, _, rfl⟩, rfl⟩ ?_ ?_
  · rintro i d δ μ' C hd ⟨⟨y8, y9, y10, rfl⟩, rfl⟩ hC
    obtain ⟨hi, rfl⟩ := irange_at hd
    have hi' : i < bs.length := by simpa using hi
    simp only [Nat.zero_add] at hC ⊢
    simp
    refine ⟨by omega, ?_⟩
    intro A hA
    refine comp_at hA (lateF bs i) _ (by simp [irange]; omega) (fun d hd acc C2 hla hC2 => ?_) ?_
    · obtain ⟨j, hj⟩ := List.getElem?_of_mem hd
      obtain ⟨hj1, rfl⟩ := irange_at hj
      have hj2 : j < bs.length := by simpa using hj1
      have e1 := at_bd (List.getElem?_eq_getElem hi')
      have e2 := at_bd (List.getElem?_eq_getElem hj2)
      have s1 := g.hs _ (List.getElem_mem hi')
      have s2 := g.hs _ (List.getElem_mem hj2)
      simp [dwipe]
      refine ⟨_, e1, _, e2, m_is_late _ _ (by omega) ⟨s2.1, by omega⟩ ?_⟩
      have e3 : lateF bs i (.int (j : Int)) = if insd bs[i] bs[j] = true then some (.tup [.int i, .int j]) else none := by
        unfold lateF insAt
        simp only [Int.toNat_natCast, List.getElem?_eq_getElem hi', List.getElem?_eq_getElem hj2]
      have e4 : lateF bs i (.int (0 + (j : Int))) = lateF bs i (.int (j : Int)) := by rw [Int.zero_add]
      rw [e4, e3] at hC2
      by_cases z : insd bs[i] bs[j] = true
      · rw [if_pos z] at hC2
        simp [z, hla]
        exact ⟨by omega, hC2⟩
      · rw [if_neg z] at hC2
        simpa [z] using hC2
    · rw [lateF_row, mdel_mset hA]
      have l1 := lpsN_len bs i
      have l2 := rowP_len bs i bs.length
      have l3 : i * bs.length ≤ 9 * 9 := Nat.mul_le_mul (by omega) hbl
      have l4 : (rowsN i).length ≤ 512 := by
        rw [rowsN_len]
        exact Nat.pow_le_pow_right (by decide) (by omega : i ≤ 9)
      simp
      refine ⟨by omega, ?_⟩
      intro A2 hA2
      refine comp_at hA2 (fun d => match d with | .lst xs => some (.lst (xs ++ [.int (i : Int)])) | _ => none) _ (by rw [List.length_map]; omega) (fun d hd acc C2 hla hC2 => ?_) ?_
      · obtain ⟨l, hl, rfl⟩ := List.mem_map.mp hd
        have ll : l.length ≤ i := by
          obtain ⟨r1, r2⟩ := rowsN_asc i l hl
          have := nodup_le (r1.imp fun {a b} (h : a < b) => Nat.ne_of_lt h) (ys := List.range i) fun x hx => List.mem_range.mpr (r2 x hx)
          rw [List.length_range] at this
          exact this
        simp [dwipe, rowD]
        have e7 : (NatD l).length = l.length := by unfold NatD; rw [List.length_map]
        rw [e7]
        simp [rowD] at hC2
        exact ⟨by omega, by omega, hla, hC2⟩
      · rw [mdel_mset hA2]
        have e5 : ((rowsN i).map rowD).filterMap (fun d => match d with | .lst xs => some (.lst (xs ++ [.int (i : Int)])) | _ => none) = ((rowsN i).map fun l => l ++ [i]).map rowD := by
          rw [List.filterMap_map, List.map_map]
          generalize rowsN i = rs
          induction rs with
          | nil => rfl
          | cons x l ih =>
            rw [List.filterMap_cons, List.map_cons, ih]
            simp [rowD, NatD]
        rw [e5]
        refine ⟨by rw [List.length_map, List.length_map]; omega, ?_⟩
        refine hC _ _ ⟨⟨some (.int i), y9, y10, ?_⟩, rfl⟩
        have e6 : rowsN (i + 1) = rowsN i ++ (rowsN i).map fun l => l ++ [i] := rfl
        rw [lpsN_succ, List.map_append, e6, List.map_append]
  · rintro δ μ' ⟨⟨y8, y9, y10, rfl⟩, rfl⟩
    have hn : 0 + (irange 0 bs.length).length = bs.length := by simp [irange]
    rw [hn]
    exact m_lw5 _ _ _ _ _ _ _ _ _ _ a k ns n1 n2 n3 ms wt bs g hk hka h ho q
theorem names_word : ∀ m ∈ names, Word m 8 := by
  intro m hm
  unfold names at hm
  rcases List.mem_cons.mp hm with rfl | hm
  · exact ⟨by decide +kernel, by decide +kernel, by decide +kernel⟩
  rcases List.mem_cons.mp hm with rfl | hm
  · exact ⟨by decide +kernel, by decide +kernel, by decide +kernel⟩
  rcases List.mem_cons.mp hm with rfl | hm
  · exact ⟨by decide +kernel, by decide +kernel, by decide +kernel⟩
  cases hm
theorem cmds_word : ∀ m ∈ cmds, Word m 8 := by
  intro m hm
  unfold cmds at hm
  rcases List.mem_cons.mp hm with rfl | hm
  · exact ⟨by decide +kernel, by decide +kernel, by decide +kernel⟩
  rcases List.mem_cons.mp hm with rfl | hm
  · exact ⟨by decide +kernel, by decide +kernel, by decide +kernel⟩
  rcases List.mem_cons.mp hm with rfl | hm
  · exact ⟨by decide +kernel, by decide +kernel, by decide +kernel⟩
  rcases List.mem_cons.mp hm with rfl | hm
  · exact ⟨by decide +kernel, by decide +kernel, by decide +kernel⟩
  rcases List.mem_cons.mp hm with rfl | hm
  · exact ⟨by decide +kernel, by decide +kernel, by decide +kernel⟩
  cases hm
theorem names_nodup : names.Nodup := by decide +kernel
theorem Parts.goodM {L : List Nat} (hL : ∀ x ∈ L, x ∈ alpha) {ms : List Str} {wt : Int} {bs : List Bd} (h : Parts L ms wt bs) : GoodM ms wt bs := by
  obtain ⟨n, h1, h2, h3⟩ := h.mods
  refine ⟨?_, ?_, ?_, ?_, ⟨h.wt.1, by have := h.wt.2; omega⟩, h.len, fun b hb => ?_, h.nodup, fun b hb => by have := h.keys b hb; exact ⟨this.1, by omega⟩⟩
  · rw [h3]
    cases n with
    | zero => omega
    | succ n => exact fun e => by cases e
  · rw [h3, List.length_take]; omega
  · rw [h3]; exact fun m hm => names_word m (List.mem_of_mem_take hm)
  · rw [h3]; exact (List.take_sublist _ _).nodup names_nodup
  · obtain ⟨k1, k2, k3⟩ := h.mode b hb
    obtain ⟨k4, k5, k6⟩ := h.keys b hb
    exact ⟨k1, k2, ⟨k4, by omega, fun ch hc => hL ch (k6 ch hc)⟩, cmds_word _ k3⟩
theorem maths (P : Program) (w : World) (c : Cs) (ns : List Int) (hns : ns.length ≤ 63) : sp_law P w c [.rol (ns.map Dv.int)] (fun _ => none) (fun d _ => d = .bl true) fun _ _ _ => False := by
  have hz : 20000 < sizeLine := by decide
  refine ⟨rfl, ?_⟩
  rw [T_law_eq]
  simp [dstart, N_law]
  refine ⟨by omega, fun a => ⟨by omega, ?_⟩⟩
  refine m_take a ns 0 0 0 2 (by decide) (by decide) mset_at ⟨by decide, by decide, by decide⟩ fun v m1 m2 m3 hv0 hv1 ho1 => ?_
  have e1 : ∃ L : Str, atI [Dv.str ("ab" : Str), Dv.str ("abc" : Str)] v = some (.str L) ∧ 0 < L.cps.size ∧ L.cps.size < 100 ∧ ∀ x ∈ L.cps.toList, x ∈ alpha := by
    rcases (show v = 0 ∨ v = 1 by omega) with rfl | rfl
    · exact ⟨"ab", rfl, by decide +kernel, by decide +kernel, by decide +kernel⟩
    · exact ⟨"abc", rfl, by decide +kernel, by decide +kernel, by decide +kernel⟩
  obtain ⟨L, eL, hL0, hL1, hL⟩ := e1
  refine (show gIx _ _ _ _ ↔ ∃ d, atI [Dv.str ("ab" : Str), Dv.str ("abc" : Str)] v = some d ∧ _ from Iff.rfl).mpr ⟨_, eL, ?_⟩
  refine m_parts a ns m1 m2 m3 L hL0 hL1 mset_at ho1 fun ms wt bs k1 k2 k3 μ1 hp ho2 hr hk0 => ?_
  have g := hp.goodM hL
  refine m_made ms wt bs g.h0 g.hl g.hw g.hn g.hwt (by have := g.hbl; omega) g.hb g.hbn fun k μ2 g2 hk => ?_
  have hr2 := g2 _ _ hr
  have hka : k ≠ a := fun e => by
    obtain ⟨dx, z⟩ := hk
    rw [e, hr2] at z
    cases z
  have e2 : gIx (partsD ms wt bs) (.int 2) μ2 = fun Q => Q (.tup (bs.map Bd.dv)) μ2 := by
    funext Q
    exact propext (by simp [partsD, at2])
  rw [e2]
  refine ⟨by omega, by omega, ?_⟩
  have e3 : gLen1 (.tup (bs.map Bd.dv)) μ2 = fun Q => Q (.int bs.length) μ2 := by
    funext Q
    exact propext (by simp)
  rw [e3]
  exact m_lw4 _ _ _ _ _ _ _ _ _ _ a k ns k1 k2 k3 ms wt bs g hk hka hr2 ho2 (fun _ => rfl)
end
end Lw

set_option Elab.async false
set_option linter.all false
set_option maxRecDepth 100000
set_option maxHeartbeats 4000000
namespace Lw
open PySem L2 Wl LamX
def top (i : Nat) : Stmt := PySem.Challenge.pw_keywaits_k63_whole_bindings_to_give_up_b.main.body.getD i (.Pass ⟨0, 0, 0, 0⟩)
structure Tp (K : PySem.W.Frag) (mg : Str → Option Value) (c : Cs) : Prop where
  n_all : mg "all" = none
  n_bool : mg "bool" = none
  n_enumerate : mg "enumerate" = none
  n_int : mg "int" = none
  n_isinstance : mg "isinstance" = none
  n_len : mg "len" = none
  n_list : mg "list" = none
  n_min : mg "min" = none
  n_range : mg "range" = none
  n_set : mg "set" = none
  n_sorted : mg "sorted" = none
  n_str : mg "str" = none
  n_tuple : mg "tuple" = none
  n_zip : mg "zip" = none
  k_GREATEST_WAIT : ∃ t, mg "GREATEST_WAIT" = some (.int 99 t)
  k_LETTERS : ∃ t, mg "LETTERS" = some (.str "abcdefghijklmnopqrstuvwxyz" t)
  k_LONGEST_NAME : ∃ t, mg "LONGEST_NAME" = some (.int 8 t)
  k_MOST_BINDINGS : ∃ t, mg "MOST_BINDINGS" = some (.int 30 t)
  k_MOST_KEYS_OF_BINDING : ∃ t, mg "MOST_KEYS_OF_BINDING" = some (.int 6 t)
  k_MOST_MODES : ∃ t, mg "MOST_MODES" = some (.int 4 t)
  cl_KeyMap : Cls K c.KeyMap
  na_KeyMap__bindings : NoAttr K c.KeyMap "_bindings"
  na_KeyMap__modes : NoAttr K c.KeyMap "_modes"
  na_KeyMap__wait : NoAttr K c.KeyMap "_wait"
section
variable {P : Program} {w : World} {K : PySem.W.Frag} {mg : Str → Option Value} {base : Heap} {c : Cs}
abbrev s_is_number : Stmt := top 3
theorem sc_is_number : FnScope N_is_number ["value", "least", "greatest"] (defScope s_is_number) := ⟨rfl, rfl, rfl, by decide +kernel, rfl, by decide +kernel, by decide +kernel⟩
theorem ok_is_number {f : Addr} {fd : FuncData} (F : Fun K "is_number" "is_number" s_is_number f fd) (T : Tp K mg c) : Ok P w K mg base 1 f fd ["value", "least", "greatest"] (sp_is_number P w c) := by
  exact ok_def F sc_is_number (T_is_number P w c) (fun _ _ _ _ h => h) (fun cdv A outer s H E J W E2 tr =>
 wss_one (ws_ret (we_and (we_callB wc_isi T.n_isinstance (by decide +kernel) (wa_cons (we_var 0) (wa_cons (we_bty "int" T.n_int rfl rfl) (wa_nil)))) (we_and (we_not (we_callB wc_isi T.n_isinstance (by decide +kernel) (wa_cons (we_var 0) (wa_cons (we_bty "bool" T.n_bool rfl rfl) (wa_nil))))) (we_one (we_chain wo_le wo_le (we_var 1) (we_var 0) (we_var 2)))))))
abbrev s_is_word : Stmt := top 4
theorem sc_is_word : FnScope N_is_word ["value", "longest"] (defScope s_is_word) := ⟨rfl, rfl, rfl, by decide +kernel, rfl, by decide +kernel, by decide +kernel⟩
theorem ok_is_word {f : Addr} {fd : FuncData} (F : Fun K "is_word" "is_word" s_is_word f fd) (T : Tp K mg c) : Ok P w K mg base 1 f fd ["value", "longest"] (sp_is_word P w c) := by
  obtain ⟨_, c_LETTERS⟩ := T.k_LETTERS
  exact ok_def F sc_is_word (T_is_word P w c) (fun _ _ _ _ h => h) (fun cdv A outer s H E J W E2 tr =>
 wss_cons (ws_if (wt_bool (ww_or (wt_not (wt_tru (we_callB wc_isi T.n_isinstance (by decide +kernel) (wa_cons (we_var 0) (wa_cons (we_bty "str" T.n_str rfl rfl) (wa_nil)))))) (ww_or1 (wt_not (wt_chain wo_le wo_le (we_int) (we_callB wc_len T.n_len (by decide +kernel) (wa_cons (we_var 0) (wa_nil))) (we_var 1)))))) (wss_one (ws_ret (we_bl))) (wss_nil))
 (wss_one (ws_ret (we_callB wc_all T.n_all (by decide +kernel) (wa_cons (we_comp (own := [("letter", 2)]) sc_is_word.nd (wi_str (we_var 0)) (fun _ => blkOk_by (N := N_is_word) (sc := defScope s_is_word) (by decide +kernel)) (wgv_name 2 sc_is_word.nd) (wts_nil) (we_cmp wo_inS (we_var 2) (we_gstr "abcdefghijklmnopqrstuvwxyz" c_LETTERS ))) (wa_nil))))))
abbrev s_is_binding : Stmt := top 15
theorem sc_is_binding : FnScope N_is_binding ["modes", "value"] (defScope s_is_binding) := ⟨rfl, rfl, rfl, by decide +kernel, rfl, by decide +kernel, by decide +kernel⟩
theorem ok_is_binding {f : Addr} {fd : FuncData} (F : Fun K "is_binding" "is_binding" s_is_binding f fd) (T : Tp K mg c) (cal_is_word : CalD P w K mg base 1 "is_word" (sp_is_word P w c) []) : Ok P w K mg base 2 f fd ["modes", "value"] (sp_is_binding P w c) := by
  obtain ⟨_, c_LONGEST_NAME⟩ := T.k_LONGEST_NAME
  obtain ⟨_, c_MOST_KEYS_OF_BINDING⟩ := T.k_MOST_KEYS_OF_BINDING
  exact ok_def F sc_is_binding (T_is_binding P w c) (fun _ _ _ _ h => h) (fun cdv A outer s H E J W E2 tr =>
 wss_cons (ws_if (wt_bool (ww_or (wt_not (wt_tru (we_callB wc_isi T.n_isinstance (by decide +kernel) (wa_cons (we_var 1) (wa_cons (we_bty "tuple" T.n_tuple rfl rfl) (wa_nil)))))) (ww_or1 (wt_cmp wo_ne (we_callB wc_len T.n_len (by decide +kernel) (wa_cons (we_var 1) (wa_nil))) (we_int))))) (wss_one (ws_ret (we_bl))) (wss_nil))
 (wss_cons (ws_asg (we_var 1) (wg_tup (wgs_cons (wg_name 2 sc_is_binding.nd) (wgs_cons (wg_name 3 sc_is_binding.nd) (wgs_cons (wg_name 4 sc_is_binding.nd) (wgs_cons (wg_name 5 sc_is_binding.nd) (wgs_nil)))))))
 (wss_cons (ws_if (wt_bool (ww_or (wt_cmp wo_notIn (we_var 2) (we_var 0)) (ww_or1 (wt_cmp wo_notIn (we_var 5) (we_var 0))))) (wss_one (ws_ret (we_bl))) (wss_nil))
 (wss_one (ws_ret (we_and (we_cal cal_is_word (show 1 ≤ 1 by decide) (wa_cons (we_var 3) (wa_cons (we_gint 6 c_MOST_KEYS_OF_BINDING ) (wa_nil)))) (we_one (we_cal cal_is_word (show 1 ≤ 1 by decide) (wa_cons (we_var 4) (wa_cons (we_gint 8 c_LONGEST_NAME ) (wa_nil)))))))))))
abbrev s_check_modes : Stmt := top 16
theorem sc_check_modes : FnScope N_check_modes ["modes"] (defScope s_check_modes) := ⟨rfl, rfl, rfl, by decide +kernel, rfl, by decide +kernel, by decide +kernel⟩
theorem ok_check_modes {f : Addr} {fd : FuncData} (F : Fun K "check_modes" "check_modes" s_check_modes f fd) (T : Tp K mg c) (cal_is_word : CalD P w K mg base 1 "is_word" (sp_is_word P w c) []) : Ok P w K mg base 2 f fd ["modes"] (sp_check_modes P w c) := by
  obtain ⟨_, c_LONGEST_NAME⟩ := T.k_LONGEST_NAME
  obtain ⟨_, c_MOST_MODES⟩ := T.k_MOST_MODES
  exact ok_def F sc_check_modes (T_check_modes P w c) (fun _ _ _ _ h => h) (fun cdv A outer s H E J W E2 tr =>
 wss_cons (ws_if (wt_bool (ww_or (wt_not (wt_tru (we_callB wc_isi T.n_isinstance (by decide +kernel) (wa_cons (we_var 0) (wa_cons (we_bty "tuple" T.n_tuple rfl rfl) (wa_nil)))))) (ww_or1 (wt_cmp wo_eq (we_callB wc_len T.n_len (by decide +kernel) (wa_cons (we_var 0) (wa_nil))) (we_int))))) (wss_one (ws_never)) (wss_nil))
 (wss_one (ws_for (wi_enum T.n_enumerate (wa_cons (we_var 0) (wa_nil))) (wg_tup (wgs_cons (wg_name 1 sc_check_modes.nd) (wgs_cons (wg_name 2 sc_check_modes.nd) (wgs_nil)))) (wss_one (ws_if (wt_bool (ww_or (wt_cmp wo_ge (we_var 1) (we_gint 4 c_MOST_MODES )) (ww_or (wt_not (wt_tru (we_cal cal_is_word (show 1 ≤ 1 by decide) (wa_cons (we_var 2) (wa_cons (we_gint 8 c_LONGEST_NAME ) (wa_nil)))))) (ww_or1 (wt_cmp wo_in (we_var 2) (we_slice (we_var 0) (wp_none) (wp_some (we_var 1)))))))) (wss_one (ws_never)) (wss_nil))))))
abbrev s_check_bindings : Stmt := top 17
theorem sc_check_bindings : FnScope N_check_bindings ["modes", "bindings"] (defScope s_check_bindings) := ⟨rfl, rfl, rfl, by decide +kernel, rfl, by decide +kernel, by decide +kernel⟩
theorem ok_check_bindings {f : Addr} {fd : FuncData} (F : Fun K "check_bindings" "check_bindings" s_check_bindings f fd) (T : Tp K mg c) (cal_is_binding : CalD P w K mg base 2 "is_binding" (sp_is_binding P w c) []) : Ok P w K mg base 3 f fd ["modes", "bindings"] (sp_check_bindings P w c) := by
  obtain ⟨_, c_MOST_BINDINGS⟩ := T.k_MOST_BINDINGS
  exact ok_def F sc_check_bindings (T_check_bindings P w c) (fun _ _ _ _ h => h) (fun cdv A outer s H E J W E2 tr =>
 wss_cons (ws_if (wt_not (wt_tru (we_callB wc_isi T.n_isinstance (by decide +kernel) (wa_cons (we_var 1) (wa_cons (we_bty "tuple" T.n_tuple rfl rfl) (wa_nil)))))) (wss_one (ws_never)) (wss_nil))
 (wss_cons (ws_set 2 (we_set0 T.n_set) sc_check_bindings.nd)
 (wss_one (ws_for (wi_enum T.n_enumerate (wa_cons (we_var 1) (wa_nil))) (wg_tup (wgs_cons (wg_name 3 sc_check_bindings.nd) (wgs_cons (wg_name 4 sc_check_bindings.nd) (wgs_nil)))) (wss_cons (ws_if (wt_bool (ww_or (wt_cmp wo_ge (we_var 3) (we_gint 30 c_MOST_BINDINGS )) (ww_or (wt_not (wt_tru (we_cal cal_is_binding (show 2 ≤ 2 by decide) (wa_cons (we_var 0) (wa_cons (we_var 4) (wa_nil)))))) (ww_or1 (wt_cmp wo_inT (we_slice (we_var 4) (wp_none) (wp_some (we_int))) (we_var 2)))))) (wss_one (ws_never)) (wss_nil))
 (wss_one (ws_expr (we_addT (we_var 2) (we_slice (we_var 4) (wp_none) (wp_some (we_int)))))))))))
abbrev s_KeyMap_init__ : Stmt := inClass (top 18) 0
theorem sc_KeyMap_init__ : FnScope N_KeyMap_init__ ["self", "modes", "wait", "bindings"] (defScope s_KeyMap_init__) := ⟨rfl, rfl, rfl, by decide +kernel, rfl, by decide +kernel, by decide +kernel⟩
theorem ok_KeyMap_init__ {f : Addr} {fd : FuncData} (F : Fun K "__init__" "KeyMap.__init__" s_KeyMap_init__ f fd) (T : Tp K mg c) (cal_check_bindings : CalD P w K mg base 3 "check_bindings" (sp_check_bindings P w c) []) (cal_check_modes : CalD P w K mg base 2 "check_modes" (sp_check_modes P w c) []) (cal_is_number : CalD P w K mg base 1 "is_number" (sp_is_number P w c) []) : Ok P w K mg base 4 f fd ["self", "modes", "wait", "bindings"] (sp_KeyMap_init__ P w c) := by
  obtain ⟨_, c_GREATEST_WAIT⟩ := T.k_GREATEST_WAIT
  exact ok_def F sc_KeyMap_init__ (T_KeyMap_init__ P w c) (fun _ _ _ _ h => h) (fun cdv A outer s H E J W E2 tr =>
 wss_cons (ws_expr (we_cal cal_check_modes (show 2 ≤ 3 by decide) (wa_cons (we_var 1) (wa_nil))))
 (wss_cons (ws_if (wt_not (wt_tru (we_cal cal_is_number (show 1 ≤ 3 by decide) (wa_cons (we_var 2) (wa_cons (we_int) (wa_cons (we_gint 99 c_GREATEST_WAIT ) (wa_nil))))))) (wss_one (ws_never)) (wss_nil))
 (wss_cons (ws_expr (we_cal cal_check_bindings (show 3 ≤ 3 by decide) (wa_cons (we_var 1) (wa_cons (we_var 3) (wa_nil)))))
 (wss_cons (ws_fld T.cl_KeyMap T.na_KeyMap__modes (we_var 0) (we_var 1))
 (wss_cons (ws_fld T.cl_KeyMap T.na_KeyMap__wait (we_var 0) (we_var 2))
 (wss_one (ws_fld T.cl_KeyMap T.na_KeyMap__bindings (we_var 0) (we_var 3))))))))
abbrev s_KeyMap_modes : Stmt := inClass (top 18) 3
theorem sc_KeyMap_modes : FnScope N_KeyMap_modes ["self"] (defScope s_KeyMap_modes) := ⟨rfl, rfl, rfl, by decide +kernel, rfl, by decide +kernel, by decide +kernel⟩
theorem ok_KeyMap_modes {f : Addr} {fd : FuncData} (F : Fun K "modes" "KeyMap.modes" s_KeyMap_modes f fd) (T : Tp K mg c) : Ok P w K mg base 1 f fd ["self"] (sp_KeyMap_modes P w c) := by
  exact ok_def F sc_KeyMap_modes (T_KeyMap_modes P w c) (fun _ _ _ _ h => h) (fun cdv A outer s H E J W E2 tr =>
 wss_one (ws_ret (we_fld T.cl_KeyMap T.na_KeyMap__modes (we_var 0))))
abbrev s_KeyMap_wait : Stmt := inClass (top 18) 4
theorem sc_KeyMap_wait : FnScope N_KeyMap_wait ["self"] (defScope s_KeyMap_wait) := ⟨rfl, rfl, rfl, by decide +kernel, rfl, by decide +kernel, by decide +kernel⟩
theorem ok_KeyMap_wait {f : Addr} {fd : FuncData} (F : Fun K "wait" "KeyMap.wait" s_KeyMap_wait f fd) (T : Tp K mg c) : Ok P w K mg base 1 f fd ["self"] (sp_KeyMap_wait P w c) := by
  exact ok_def F sc_KeyMap_wait (T_KeyMap_wait P w c) (fun _ _ _ _ h => h) (fun cdv A outer s H E J W E2 tr =>
 wss_one (ws_ret (we_fld T.cl_KeyMap T.na_KeyMap__wait (we_var 0))))
abbrev s_KeyMap_bindings : Stmt := inClass (top 18) 5
theorem sc_KeyMap_bindings : FnScope N_KeyMap_bindings ["self"] (defScope s_KeyMap_bindings) := ⟨rfl, rfl, rfl, by decide +kernel, rfl, by decide +kernel, by decide +kernel⟩
theorem ok_KeyMap_bindings {f : Addr} {fd : FuncData} (F : Fun K "bindings" "KeyMap.bindings" s_KeyMap_bindings f fd) (T : Tp K mg c) : Ok P w K mg base 1 f fd ["self"] (sp_KeyMap_bindings P w c) := by
  exact ok_def F sc_KeyMap_bindings (T_KeyMap_bindings P w c) (fun _ _ _ _ h => h) (fun cdv A outer s H E J W E2 tr =>
 wss_one (ws_ret (we_fld T.cl_KeyMap T.na_KeyMap__bindings (we_var 0))))
abbrev s_check_index : Stmt := top 19
theorem sc_check_index : FnScope N_check_index ["keymap", "index"] (defScope s_check_index) := ⟨rfl, rfl, rfl, by decide +kernel, rfl, by decide +kernel, by decide +kernel⟩
theorem ok_check_index {f : Addr} {fd : FuncData} (F : Fun K "check_index" "check_index" s_check_index f fd) (T : Tp K mg c) (prp_KeyMap_bindings : PrpD P w K mg base 1 c.KeyMap "bindings" (sp_KeyMap_bindings P w c)) (cal_is_number : CalD P w K mg base 1 "is_number" (sp_is_number P w c) []) : Ok P w K mg base 3 f fd ["keymap", "index"] (sp_check_index P w c) := by
  exact ok_def F sc_check_index (T_check_index P w c) (fun _ _ _ _ h => h) (fun cdv A outer s H E J W E2 tr =>
 wss_one (ws_if (wt_not (wt_tru (we_cal cal_is_number (show 1 ≤ 2 by decide) (wa_cons (we_var 1) (wa_cons (we_int) (wa_cons (we_op wo_sub (we_callB wc_len T.n_len (by decide +kernel) (wa_cons (we_prop prp_KeyMap_bindings (show 2 ≤ 2 by decide) (we_var 0)) (wa_nil))) (we_int)) (wa_nil))))))) (wss_one (ws_never)) (wss_nil)))
abbrev s_late_pairs : Stmt := top 21
theorem sc_late_pairs : FnScope N_late_pairs ["keymap"] (defScope s_late_pairs) := ⟨rfl, rfl, rfl, by decide +kernel, rfl, by decide +kernel, by decide +kernel⟩
theorem ok_late_pairs {f : Addr} {fd : FuncData} (F : Fun K "late_pairs" "late_pairs" s_late_pairs f fd) (T : Tp K mg c) (prp_KeyMap_bindings : PrpD P w K mg base 1 c.KeyMap "bindings" (sp_KeyMap_bindings P w c)) : Ok P w K mg base 3 f fd ["keymap"] (sp_late_pairs P w c) := by
  exact ok_def F sc_late_pairs (T_late_pairs P w c) (fun _ _ _ _ h => h) (fun cdv A outer s H E J W E2 tr =>
 wss_cons (ws_set 1 (we_lstM (wa_nil)) sc_late_pairs.nd)
 (wss_cons (ws_for (wi_enum T.n_enumerate (wa_cons (we_prop prp_KeyMap_bindings (show 2 ≤ 2 by decide) (we_var 0)) (wa_nil))) (wg_tup (wgs_cons (wg_name 2 sc_late_pairs.nd) (wgs_cons (wg_name 3 sc_late_pairs.nd) (wgs_nil)))) (wss_one (ws_for (wi_enum T.n_enumerate (wa_cons (we_prop prp_KeyMap_bindings (show 2 ≤ 2 by decide) (we_var 0)) (wa_nil))) (wg_tup (wgs_cons (wg_name 4 sc_late_pairs.nd) (wgs_cons (wg_name 5 sc_late_pairs.nd) (wgs_nil)))) (wss_one (ws_if (wt_bool (ww_and (wt_cmp wo_eq (we_ix (we_var 3) (we_int)) (we_ix (we_var 5) (we_int))) (ww_and1 (wt_cmp wo_inX (we_ix (we_var 3) (we_int)) (we_slice (we_ix (we_var 5) (we_int)) (wp_none) (wp_some (we_un wu_neg (we_int)))))))) (wss_one (ws_expr (we_append (we_var 1) (wa_cons (we_tup (wa_cons (we_var 2) (wa_cons (we_var 4) (wa_nil)))) (wa_nil))))) (wss_nil))))))
 (wss_one (ws_ret (we_frz (we_var 1))))))
abbrev s_link : Stmt := top 23
theorem sc_link : FnScope N_link ["late", "number", "links", "tried"] (defScope s_link) := ⟨rfl, rfl, rfl, by decide +kernel, rfl, by decide +kernel, by decide +kernel⟩
theorem okn_link {f_link : Addr} {fd_link : FuncData} (D_link : DefD K mg "_link" "_link" s_link f_link fd_link ["late", "number", "links", "tried"] []) (T : Tp K mg c) : ∀ n, Ok P w K mg base (0 + n) f_link fd_link ["late", "number", "links", "tried"] (spn_link P w c n 0)
  | 0 => ok_no
  | n + 1 => by
    have o_link := okn_link D_link T  n
    have cal_link := D_link.cal o_link
    exact ok_def D_link.fn sc_link (T_link P w c (spn_link P w c n 0)) (fun _ _ _ _ h => h) (fun cdv A outer s H E J W E2 tr =>
 wss_cons (ws_forG (wi_any (we_dget (we_var 0) (we_var 1))) (wg_name 4 sc_link.nd) (wss_one (ws_if (wt_dnotin (we_var 4) (we_var 3)) (wss_cons (ws_dput (we_var 3) (we_var 4) (we_bl))
 (wss_one (ws_if (wt_bool (ww_or (wt_dnotin (we_var 4) (we_var 2)) (ww_or1 (wt_tru (we_cal cal_link (show 0 + n ≤ 0 + n from Nat.le_refl _) (wa_cons (we_var 0) (wa_cons (we_dget (we_var 2) (we_var 4)) (wa_cons (we_var 2) (wa_cons (we_var 3) (wa_nil)))))))))) (wss_cons (ws_dput (we_var 2) (we_var 4) (we_var 1))
 (wss_one (ws_ret (we_bl)))) (wss_nil)))) (wss_nil))))
 (wss_one (ws_ret (we_bl))))
abbrev s_find_links : Stmt := top 22
theorem sc_find_links : FnScope N_find_links ["pairs"] (defScope s_find_links) := ⟨rfl, rfl, rfl, by decide +kernel, rfl, by decide +kernel, by decide +kernel⟩
theorem ok_find_links {f : Addr} {fd : FuncData} (F : Fun K "_find_links" "_find_links" s_find_links f fd) (T : Tp K mg c) (cal_link : CalD P w K mg base 40 "_link" (sp_link P w c) []) : Ok P w K mg base 41 f fd ["pairs"] (sp_find_links P w c) := by
  exact ok_def F sc_find_links (T_find_links P w c) (fun _ _ _ _ h => h) (fun cdv A outer s H E J W E2 tr =>
 wss_cons (ws_set 1 (we_dnewK) sc_find_links.nd)
 (wss_cons (ws_for (wi_seq (we_var 0)) (wg_tup (wgs_cons (wg_name 2 sc_find_links.nd) (wgs_cons (wg_name 3 sc_find_links.nd) (wgs_nil)))) (wss_one (ws_expr (we_append (we_setd (we_var 1) (we_var 2) (we_lstM (wa_nil))) (wa_cons (we_var 3) (wa_nil))))))
 (wss_cons (ws_set 4 (we_dnewK) sc_find_links.nd)
 (wss_cons (ws_forK (we_var 1) (wg_name 2 sc_find_links.nd) (wss_one (ws_expr (we_cal cal_link (show 40 ≤ 40 by decide) (wa_cons (we_var 1) (wa_cons (we_var 2) (wa_cons (we_var 4) (wa_cons (we_dnewK) (wa_nil)))))))))
 (wss_one (ws_ret (we_var 4)))))))
abbrev s_fewest_to_drop : Stmt := top 24
theorem sc_fewest_to_drop : FnScope N_fewest_to_drop ["keymap"] (defScope s_fewest_to_drop) := ⟨rfl, rfl, rfl, by decide +kernel, rfl, by decide +kernel, by decide +kernel⟩
theorem ok_fewest_to_drop {f : Addr} {fd : FuncData} (F : Fun K "fewest_to_drop" "fewest_to_drop" s_fewest_to_drop f fd) (T : Tp K mg c) (prp_KeyMap_bindings : PrpD P w K mg base 1 c.KeyMap "bindings" (sp_KeyMap_bindings P w c)) (cal_find_links : CalD P w K mg base 41 "_find_links" (sp_find_links P w c) []) (cal_late_pairs : CalD P w K mg base 3 "late_pairs" (sp_late_pairs P w c) []) : Ok P w K mg base 42 f fd ["keymap"] (sp_fewest_to_drop P w c) := by
  exact ok_def F sc_fewest_to_drop (T_fewest_to_drop P w c) (fun _ _ _ _ h => h) (fun cdv A outer s H E J W E2 tr =>
 wss_cons (ws_set 1 (we_cal cal_late_pairs (show 3 ≤ 41 by decide) (wa_cons (we_var 0) (wa_nil))) sc_fewest_to_drop.nd)
 (wss_cons (ws_set 2 (we_callB wc_lenD T.n_len (by decide +kernel) (wa_cons (we_cal cal_find_links (show 41 ≤ 41 by decide) (wa_cons (we_var 1) (wa_nil))) (wa_nil))) sc_fewest_to_drop.nd)
 (wss_cons (ws_set 3 (we_lstM (wa_nil)) sc_fewest_to_drop.nd)
 (wss_cons (ws_for (wi_rng1 T.n_range (wa_cons (we_callB wc_len T.n_len (by decide +kernel) (wa_cons (we_prop prp_KeyMap_bindings (show 2 ≤ 41 by decide) (we_var 0)) (wa_nil))) (wa_nil))) (wg_name 4 sc_fewest_to_drop.nd) (wss_cons (ws_setComp 5 (own := [("pair", 6)]) sc_fewest_to_drop.nd (wi_seq (we_var 1)) (fun _ => blkOk_by (N := N_fewest_to_drop) (sc := defScope s_fewest_to_drop) (by decide +kernel)) (wgv_name 6 sc_fewest_to_drop.nd) (wts_one (wt_cmp wo_notIn (we_var 4) (we_var 6))) (we_var 6))
 (wss_one (ws_if (wt_cmp wo_lt (we_callB wc_lenD T.n_len (by decide +kernel) (wa_cons (we_cal cal_find_links (show 41 ≤ 41 by decide) (wa_cons (we_var 5) (wa_nil))) (wa_nil))) (we_var 2)) (wss_cons (ws_expr (we_append (we_var 3) (wa_cons (we_var 4) (wa_nil))))
 (wss_cons (ws_set 1 (we_var 5) sc_fewest_to_drop.nd)
 (wss_one (ws_set 2 (we_op wo_sub (we_var 2) (we_int)) sc_fewest_to_drop.nd)))) (wss_nil)))))
 (wss_one (ws_ret (we_frz (we_var 3))))))))
abbrev s_find_chains : Stmt := top 25
theorem sc_find_chains : FnScope N_find_chains ["keymap"] (defScope s_find_chains) := ⟨rfl, rfl, rfl, by decide +kernel, rfl, by decide +kernel, by decide +kernel⟩
theorem ok_find_chains {f : Addr} {fd : FuncData} (F : Fun K "find_chains" "find_chains" s_find_chains f fd) (T : Tp K mg c) (prp_KeyMap_bindings : PrpD P w K mg base 1 c.KeyMap "bindings" (sp_KeyMap_bindings P w c)) (cal_find_links : CalD P w K mg base 41 "_find_links" (sp_find_links P w c) []) (cal_late_pairs : CalD P w K mg base 3 "late_pairs" (sp_late_pairs P w c) []) : Ok P w K mg base 42 f fd ["keymap"] (sp_find_chains P w c) := by
  exact ok_def F sc_find_chains (T_find_chains P w c) (fun _ _ _ _ h => h) (fun cdv A outer s H E J W E2 tr =>
 wss_cons (ws_set 1 (we_cal cal_find_links (show 41 ≤ 41 by decide) (wa_cons (we_cal cal_late_pairs (show 3 ≤ 41 by decide) (wa_cons (we_var 0) (wa_nil))) (wa_nil))) sc_find_chains.nd)
 (wss_cons (ws_setDcK 2 (own := [("other", 3)]) sc_find_chains.nd (we_var 1) (fun _ => blkOk_by (N := N_find_chains) (sc := defScope s_find_chains) (by decide +kernel)) (wgv_name 3 sc_find_chains.nd) (wts_nil) (we_dget (we_var 1) (we_var 3)) (we_var 3))
 (wss_cons (ws_set 4 (we_lstM (wa_nil)) sc_find_chains.nd)
 (wss_cons (ws_for (wi_rng1 T.n_range (wa_cons (we_callB wc_len T.n_len (by decide +kernel) (wa_cons (we_prop prp_KeyMap_bindings (show 2 ≤ 41 by decide) (we_var 0)) (wa_nil))) (wa_nil))) (wg_name 5 sc_find_chains.nd) (wss_one (ws_if (wt_dnotin (we_var 5) (we_var 1)) (wss_cons (ws_set 6 (we_lstM (wa_cons (we_var 5) (wa_nil))) sc_find_chains.nd)
 (wss_cons (ws_while (wt_din (we_ix (we_var 6) (we_un wu_neg (we_int))) (we_var 2)) (wss_one (ws_expr (we_append (we_var 6) (wa_cons (we_dget (we_var 2) (we_ix (we_var 6) (we_un wu_neg (we_int)))) (wa_nil))))))
 (wss_one (ws_expr (we_append (we_var 4) (wa_cons (we_frz (we_var 6)) (wa_nil))))))) (wss_nil))))
 (wss_one (ws_ret (we_frz (we_var 4))))))))
abbrev s_is_chain : Stmt := top 27
theorem sc_is_chain : FnScope N_is_chain ["value", "many", "pairs"] (defScope s_is_chain) := ⟨rfl, rfl, rfl, by decide +kernel, rfl, by decide +kernel, by decide +kernel⟩
theorem ok_is_chain {f : Addr} {fd : FuncData} (F : Fun K "_is_chain" "_is_chain" s_is_chain f fd) (T : Tp K mg c) (cal_is_number : CalD P w K mg base 1 "is_number" (sp_is_number P w c) []) : Ok P w K mg base 2 f fd ["value", "many", "pairs"] (sp_is_chain P w c) := by
  exact ok_def F sc_is_chain (T_is_chain P w c) (fun _ _ _ _ h => h) (fun cdv A outer s H E J W E2 tr =>
 wss_cons (ws_if (wt_bool (ww_or (wt_not (wt_tru (we_callB wc_isi T.n_isinstance (by decide +kernel) (wa_cons (we_var 0) (wa_cons (we_bty "list" T.n_list rfl rfl) (wa_nil)))))) (ww_or1 (wt_cmp wo_eq (we_callB wc_len T.n_len (by decide +kernel) (wa_cons (we_var 0) (wa_nil))) (we_int))))) (wss_one (ws_ret (we_bl))) (wss_nil))
 (wss_cons (ws_if (wt_not (wt_tru (we_callB wc_all T.n_all (by decide +kernel) (wa_cons (we_comp (own := [("number", 3)]) sc_is_chain.nd (wi_seq (we_var 0)) (fun _ => blkOk_by (N := N_is_chain) (sc := defScope s_is_chain) (by decide +kernel)) (wgv_name 3 sc_is_chain.nd) (wts_nil) (we_cal cal_is_number (show 1 ≤ 1 by decide) (wa_cons (we_var 3) (wa_cons (we_int) (wa_cons (we_op wo_sub (we_var 1) (we_int)) (wa_nil)))))) (wa_nil))))) (wss_one (ws_ret (we_bl))) (wss_nil))
 (wss_one (ws_ret (we_callB wc_all T.n_all (by decide +kernel) (wa_cons (we_compG (own := [("pair", 4)]) sc_is_chain.nd (wi_zipN T.n_zip (wa_cons (we_var 0) (wa_cons (we_slice (we_var 0) (wp_some (we_int)) (wp_none)) (wa_nil)))) (fun _ => blkOk_by (N := N_is_chain) (sc := defScope s_is_chain) (by decide +kernel)) (wgv_name 4 sc_is_chain.nd) (wts_nil) (we_cmp wo_in (we_var 4) (we_var 2))) (wa_nil)))))))
abbrev s_judge_chains : Stmt := top 26
theorem sc_judge_chains : FnScope N_judge_chains ["keymap", "chains"] (defScope s_judge_chains) := ⟨rfl, rfl, rfl, by decide +kernel, rfl, by decide +kernel, by decide +kernel⟩
theorem ok_judge_chains {f : Addr} {fd : FuncData} (F : Fun K "judge_chains" "judge_chains" s_judge_chains f fd) (T : Tp K mg c) (prp_KeyMap_bindings : PrpD P w K mg base 1 c.KeyMap "bindings" (sp_KeyMap_bindings P w c)) (cal_is_chain : CalD P w K mg base 2 "_is_chain" (sp_is_chain P w c) []) (cal_late_pairs : CalD P w K mg base 3 "late_pairs" (sp_late_pairs P w c) []) : Ok P w K mg base 4 f fd ["keymap", "chains"] (sp_judge_chains P w c) := by
  exact ok_def F sc_judge_chains (T_judge_chains P w c) (fun _ _ _ _ h => h) (fun cdv A outer s H E J W E2 tr =>
 wss_cons (ws_if (wt_not (wt_tru (we_callB wc_isi T.n_isinstance (by decide +kernel) (wa_cons (we_var 1) (wa_cons (we_bty "list" T.n_list rfl rfl) (wa_nil)))))) (wss_one (ws_ret (we_non))) (wss_nil))
 (wss_cons (ws_set 2 (we_callB wc_len T.n_len (by decide +kernel) (wa_cons (we_prop prp_KeyMap_bindings (show 2 ≤ 3 by decide) (we_var 0)) (wa_nil))) sc_judge_chains.nd)
 (wss_cons (ws_set 3 (we_cal cal_late_pairs (show 3 ≤ 3 by decide) (wa_cons (we_var 0) (wa_nil))) sc_judge_chains.nd)
 (wss_cons (ws_set 4 (we_lstM (wa_nil)) sc_judge_chains.nd)
 (wss_cons (ws_forG (wi_any (we_var 1)) (wg_name 5 sc_judge_chains.nd) (wss_cons (ws_if (wt_not (wt_tru (we_cal cal_is_chain (show 2 ≤ 3 by decide) (wa_cons (we_var 5) (wa_cons (we_var 2) (wa_cons (we_var 3) (wa_nil))))))) (wss_one (ws_ret (we_non))) (wss_nil))
 (wss_one (ws_expr (we_extend (we_var 4) (wa_cons (we_var 5) (wa_nil)))))))
 (wss_cons (ws_if (wt_cmp wo_ne (we_callB wc_sortIM T.n_sorted (by decide +kernel) (wa_cons (we_var 4) (wa_nil))) (we_listR T.n_list T.n_range (we_var 2))) (wss_one (ws_ret (we_non))) (wss_nil))
 (wss_one (ws_ret (we_op wo_sub (we_var 2) (we_callB wc_len T.n_len (by decide +kernel) (wa_cons (we_var 1) (wa_nil))))))))))))
abbrev s_without_bindings : Stmt := top 28
theorem sc_without_bindings : FnScope N_without_bindings ["keymap", "indexes"] (defScope s_without_bindings) := ⟨rfl, rfl, rfl, by decide +kernel, rfl, by decide +kernel, by decide +kernel⟩
theorem ok_without_bindings {f : Addr} (F : FunF K "without_bindings" "without_bindings" s_without_bindings f) (hb : BindS "without_bindings" "without_bindings" s_without_bindings ["keymap"] "indexes") (T : Tp K mg c) (prp_KeyMap_bindings : PrpD P w K mg base 1 c.KeyMap "bindings" (sp_KeyMap_bindings P w c)) (mak_KeyMap_init__ : MakD P w K mg base 4 "KeyMap" c.KeyMap (sp_KeyMap_init__ P w c) []) (prp_KeyMap_modes : PrpD P w K mg base 1 c.KeyMap "modes" (sp_KeyMap_modes P w c)) (prp_KeyMap_wait : PrpD P w K mg base 1 c.KeyMap "wait" (sp_KeyMap_wait P w c)) (cal_check_index : CalD P w K mg base 3 "check_index" (sp_check_index P w c) []) : OkS P w K mg base 6 f 1 (sp_without_bindings P w c) := by
  exact ok_defS F sc_without_bindings hb rfl (T_without_bindings P w c) (fun _ _ _ _ h => h) (fun cdv A outer s H E J W E2 tr =>
 wss_cons (ws_for (wi_seq (we_var 1)) (wg_name 2 sc_without_bindings.nd) (wss_one (ws_expr (we_cal cal_check_index (show 3 ≤ 5 by decide) (wa_cons (we_var 0) (wa_cons (we_var 2) (wa_nil)))))))
 (wss_cons (ws_setComp 3 (own := [("number", 4), ("binding", 5)]) sc_without_bindings.nd (wi_enum T.n_enumerate (wa_cons (we_prop prp_KeyMap_bindings (show 2 ≤ 5 by decide) (we_var 0)) (wa_nil))) (fun _ => blkOk_by (N := N_without_bindings) (sc := defScope s_without_bindings) (by decide +kernel)) (wgv_tup (wgsv_cons (wgv_name 4 sc_without_bindings.nd) (wgsv_cons (wgv_name 5 sc_without_bindings.nd) (wgsv_nil)))) (wts_one (wt_cmp wo_notIn (we_var 4) (we_var 1))) (we_var 5))
 (wss_one (ws_ret (we_make mak_KeyMap_init__ (show 5 ≤ 5 by decide) (wa_cons (we_prop prp_KeyMap_modes (show 2 ≤ 5 by decide) (we_var 0)) (wa_cons (we_prop prp_KeyMap_wait (show 2 ≤ 5 by decide) (we_var 0)) (wa_cons (we_callTy wc_tuple T.n_tuple (by decide +kernel) (wa_cons (we_var 3) (wa_nil))) (wa_nil)))))))))
abbrev s_law_taken : Stmt := top 30
theorem sc_law_taken : FnScope N_law_taken ["_law_row", "_law_many"] (defScope s_law_taken) := ⟨rfl, rfl, rfl, by decide +kernel, rfl, by decide +kernel, by decide +kernel⟩
theorem ok_law_taken {f : Addr} {fd : FuncData} (F : Fun K "_law_taken" "_law_taken" s_law_taken f fd) (T : Tp K mg c) : Ok P w K mg base 1 f fd ["_law_row", "_law_many"] (sp_law_taken P w c) := by
  exact ok_def F sc_law_taken (T_law_taken P w c) (fun _ _ _ _ h => h) (fun cdv A outer s H E J W E2 tr =>
 wss_cons (ws_if (wt_cmp wo_gt (we_ix (we_var 0) (we_int)) (we_int)) (wss_cons (ws_set 2 (we_op wo_mod (we_callTy wc_int T.n_int (by decide +kernel) (wa_cons (we_ix (we_var 0) (we_int)) (wa_nil))) (we_var 1)) sc_law_taken.nd)
 (wss_cons (ws_asg (we_op wo_fdiv (we_ix (we_var 0) (we_int)) (we_var 1)) (wg_subL (we_var 0) (we_int)))
 (wss_one (ws_ret (we_var 2))))) (wss_nil))
 (wss_cons (ws_asg (we_op wo_add (we_ix (we_var 0) (we_int)) (we_int)) (wg_subL (we_var 0) (we_int)))
 (wss_cons (ws_if (wt_cmp wo_gt (we_ix (we_var 0) (we_int)) (we_callB wc_len T.n_len (by decide +kernel) (wa_cons (we_ix (we_var 0) (we_int)) (wa_nil)))) (wss_cons (ws_asg (we_op wo_mod (we_callTy wc_int T.n_int (by decide +kernel) (wa_cons (we_op wo_add (we_op wo_mul (we_ix (we_var 0) (we_int)) (we_int)) (we_int)) (wa_nil))) (we_int)) (wg_subL (we_var 0) (we_int)))
 (wss_one (ws_ret (we_op wo_mod (we_callTy wc_int T.n_int (by decide +kernel) (wa_cons (we_op wo_fdiv (we_ix (we_var 0) (we_int)) (we_int)) (wa_nil))) (we_var 1))))) (wss_nil))
 (wss_cons (ws_set 3 (we_ix (we_ix (we_var 0) (we_int)) (we_op wo_sub (we_ix (we_var 0) (we_int)) (we_int))) sc_law_taken.nd)
 (wss_cons (ws_asg (we_op wo_mod (we_callTy wc_int T.n_int (by decide +kernel) (wa_cons (we_op wo_add (we_op wo_add (we_op wo_mul (we_ix (we_var 0) (we_int)) (we_int)) (we_var 3)) (we_int)) (wa_nil))) (we_int)) (wg_subL (we_var 0) (we_int)))
 (wss_cons (ws_asg (we_if (wt_cmp wo_ge (we_var 3) (we_op wo_pow (we_int) (we_int))) (we_op wo_fdiv (we_var 3) (we_var 1)) (we_int)) (wg_subL (we_var 0) (we_int)))
 (wss_one (ws_ret (we_op wo_mod (we_callTy wc_int T.n_int (by decide +kernel) (wa_cons (we_var 3) (wa_nil))) (we_var 1))))))))))
abbrev s_law_keys : Stmt := top 31
theorem sc_law_keys : FnScope N_law_keys ["_law_row", "_law_letters", "_law_most"] (defScope s_law_keys) := ⟨rfl, rfl, rfl, by decide +kernel, rfl, by decide +kernel, by decide +kernel⟩
theorem ok_law_keys {f : Addr} {fd : FuncData} (F : Fun K "_law_keys" "_law_keys" s_law_keys f fd) (T : Tp K mg c) (cal_law_taken : CalD P w K mg base 1 "_law_taken" (sp_law_taken P w c) []) : Ok P w K mg base 2 f fd ["_law_row", "_law_letters", "_law_most"] (sp_law_keys P w c) := by
  exact ok_def F sc_law_keys (T_law_keys P w c) (fun _ _ _ _ h => h) (fun cdv A outer s H E J W E2 tr =>
 wss_cons (ws_set 3 (we_str) sc_law_keys.nd)
 (wss_cons (ws_for (wi_rng1 T.n_range (wa_cons (we_op wo_add (we_int) (we_cal cal_law_taken (show 1 ≤ 1 by decide) (wa_cons (we_var 0) (wa_cons (we_var 2) (wa_nil))))) (wa_nil))) (wg_name 4 sc_law_keys.nd) (wss_one (ws_set 3 (we_op wo_add (we_var 3) (we_ix (we_var 1) (we_cal cal_law_taken (show 1 ≤ 1 by decide) (wa_cons (we_var 0) (wa_cons (we_callB wc_len T.n_len (by decide +kernel) (wa_cons (we_var 1) (wa_nil))) (wa_nil)))))) sc_law_keys.nd)))
 (wss_one (ws_ret (we_var 3)))))
abbrev s_law_parts : Stmt := top 32
theorem sc_law_parts : FnScope N_law_parts ["_law_row", "_law_letters", "_law_most"] (defScope s_law_parts) := ⟨rfl, rfl, rfl, by decide +kernel, rfl, by decide +kernel, by decide +kernel⟩
theorem ok_law_parts {f : Addr} {fd : FuncData} (F : Fun K "_law_parts" "_law_parts" s_law_parts f fd) (T : Tp K mg c) (cal_law_keys : CalD P w K mg base 2 "_law_keys" (sp_law_keys P w c) []) (cal_law_taken : CalD P w K mg base 1 "_law_taken" (sp_law_taken P w c) []) : Ok P w K mg base 3 f fd ["_law_row", "_law_letters", "_law_most"] (sp_law_parts P w c) := by
  exact ok_def F sc_law_parts (T_law_parts P w c) (fun _ _ _ _ h => h) (fun cdv A outer s H E J W E2 tr =>
 wss_cons (ws_set 3 (we_slice (we_tup (wa_cons (we_str) (wa_cons (we_str) (wa_cons (we_str) (wa_nil))))) (wp_none) (wp_some (we_op wo_add (we_int) (we_cal cal_law_taken (show 1 ≤ 2 by decide) (wa_cons (we_var 0) (wa_cons (we_int) (wa_nil))))))) sc_law_parts.nd)
 (wss_cons (ws_par3 4 5 6 (wa_cons (we_op wo_add (we_int) (we_cal cal_law_taken (show 1 ≤ 2 by decide) (wa_cons (we_var 0) (wa_cons (we_ix (we_lst (wa_cons (we_int) (wa_cons (we_int) (wa_nil)))) (we_cal cal_law_taken (show 1 ≤ 2 by decide) (wa_cons (we_var 0) (wa_cons (we_int) (wa_nil))))) (wa_nil))))) (wa_cons (we_lstM (wa_nil)) (wa_cons (we_lstM (wa_nil)) (wa_nil)))) sc_law_parts.nd)
 (wss_cons (ws_for (wi_rng1 T.n_range (wa_cons (we_cal cal_law_taken (show 1 ≤ 2 by decide) (wa_cons (we_var 0) (wa_cons (we_op wo_add (we_var 2) (we_int)) (wa_nil)))) (wa_nil))) (wg_name 7 sc_law_parts.nd) (wss_cons (ws_par 8 9 (wa_cons (we_ix (we_var 3) (we_cal cal_law_taken (show 1 ≤ 2 by decide) (wa_cons (we_var 0) (wa_cons (we_callB wc_len T.n_len (by decide +kernel) (wa_cons (we_var 3) (wa_nil))) (wa_nil))))) (wa_cons (we_cal cal_law_keys (show 2 ≤ 2 by decide) (wa_cons (we_var 0) (wa_cons (we_var 1) (wa_cons (we_int) (wa_nil))))) (wa_nil))) sc_law_parts.nd)
 (wss_one (ws_if (wt_cmp wo_notIn (we_tup (wa_cons (we_var 8) (wa_cons (we_var 9) (wa_nil)))) (we_var 6)) (wss_cons (ws_expr (we_append (we_var 6) (wa_cons (we_tup (wa_cons (we_var 8) (wa_cons (we_var 9) (wa_nil)))) (wa_nil))))
 (wss_cons (ws_set 10 (we_ix (we_lst (wa_cons (we_str) (wa_cons (we_str) (wa_cons (we_str) (wa_cons (we_str) (wa_cons (we_str) (wa_nil))))))) (we_cal cal_law_taken (show 1 ≤ 2 by decide) (wa_cons (we_var 0) (wa_cons (we_int) (wa_nil))))) sc_law_parts.nd)
 (wss_one (ws_expr (we_append (we_var 5) (wa_cons (we_tup (wa_cons (we_var 8) (wa_cons (we_var 9) (wa_cons (we_var 10) (wa_cons (we_ix (we_var 3) (we_cal cal_law_taken (show 1 ≤ 2 by decide) (wa_cons (we_var 0) (wa_cons (we_callB wc_len T.n_len (by decide +kernel) (wa_cons (we_var 3) (wa_nil))) (wa_nil))))) (wa_nil)))))) (wa_nil))))))) (wss_nil)))))
 (wss_one (ws_ret (we_tup (wa_cons (we_var 3) (wa_cons (we_var 4) (wa_cons (we_callTy wc_tuple T.n_tuple (by decide +kernel) (wa_cons (we_var 5) (wa_nil))) (wa_nil))))))))))
abbrev s_law_made : Stmt := top 33
theorem sc_law_made : FnScope N_law_made ["_law_parts_here"] (defScope s_law_made) := ⟨rfl, rfl, rfl, by decide +kernel, rfl, by decide +kernel, by decide +kernel⟩
theorem ok_law_made {f : Addr} {fd : FuncData} (F : Fun K "_law_made" "_law_made" s_law_made f fd) (T : Tp K mg c) (mak_KeyMap_init__ : MakD P w K mg base 4 "KeyMap" c.KeyMap (sp_KeyMap_init__ P w c) []) : Ok P w K mg base 6 f fd ["_law_parts_here"] (sp_law_made P w c) := by
  exact ok_def F sc_law_made (T_law_made P w c) (fun _ _ _ _ h => h) (fun cdv A outer s H E J W E2 tr =>
 wss_one (ws_ret (we_make mak_KeyMap_init__ (show 5 ≤ 5 by decide) (wa_cons (we_ix (we_var 0) (we_int)) (wa_cons (we_ix (we_var 0) (we_int)) (wa_cons (we_ix (we_var 0) (we_int)) (wa_nil)))))))
abbrev s_law_is_late : Stmt := top 34
theorem sc_law_is_late : FnScope N_law_is_late ["_law_one", "_law_other"] (defScope s_law_is_late) := ⟨rfl, rfl, rfl, by decide +kernel, rfl, by decide +kernel, by decide +kernel⟩
theorem ok_law_is_late {f : Addr} {fd : FuncData} (F : Fun K "_law_is_late" "_law_is_late" s_law_is_late f fd) (T : Tp K mg c) : Ok P w K mg base 1 f fd ["_law_one", "_law_other"] (sp_law_is_late P w c) := by
  exact ok_def F sc_law_is_late (T_law_is_late P w c) (fun _ _ _ _ h => h) (fun cdv A outer s H E J W E2 tr =>
 wss_cons (ws_set 2 (we_slice (we_ix (we_var 1) (we_int)) (wp_none) (wp_some (we_op wo_sub (we_callB wc_len T.n_len (by decide +kernel) (wa_cons (we_ix (we_var 1) (we_int)) (wa_nil))) (we_int)))) sc_law_is_late.nd)
 (wss_one (ws_ret (we_and (we_cmp wo_ne (we_var 0) (we_var 1)) (we_and (we_cmp wo_eq (we_ix (we_var 0) (we_int)) (we_ix (we_var 1) (we_int))) (we_one (we_cmp wo_inX (we_ix (we_var 0) (we_int)) (we_var 2))))))))
abbrev s_law : Stmt := top 35
theorem sc_law : FnScope N_law ["_law_script"] (defScope s_law) := ⟨rfl, rfl, rfl, by decide +kernel, rfl, by decide +kernel, by decide +kernel⟩
theorem ok_law {f : Addr} {fd : FuncData} (F : Fun K "law" "law" s_law f fd) (T : Tp K mg c) (prp_KeyMap_bindings : PrpD P w K mg base 1 c.KeyMap "bindings" (sp_KeyMap_bindings P w c)) (cal_fewest_to_drop : CalD P w K mg base 42 "fewest_to_drop" (sp_fewest_to_drop P w c) []) (cal_find_chains : CalD P w K mg base 42 "find_chains" (sp_find_chains P w c) []) (cal_judge_chains : CalD P w K mg base 4 "judge_chains" (sp_judge_chains P w c) []) (cal_late_pairs : CalD P w K mg base 3 "late_pairs" (sp_late_pairs P w c) []) (cal_law_is_late : CalD P w K mg base 1 "_law_is_late" (sp_law_is_late P w c) []) (cal_law_made : CalD P w K mg base 6 "_law_made" (sp_law_made P w c) []) (cal_law_parts : CalD P w K mg base 3 "_law_parts" (sp_law_parts P w c) []) (cal_law_taken : CalD P w K mg base 1 "_law_taken" (sp_law_taken P w c) []) (cas_without_bindings : CalS P w K mg base 6 "without_bindings" (sp_without_bindings P w c) 1) : Ok P w K mg base 43 f fd ["_law_script"] (sp_law P w c) := by
  exact ok_def F sc_law (T_law P w c) (fun _ _ _ _ h => h) (fun cdv A outer s H E J W E2 tr =>
 wss_cons (ws_set 1 (we_lstM (wa_cons (we_var 0) (wa_cons (we_int) (wa_cons (we_int) (wa_cons (we_int) (wa_nil)))))) sc_law.nd)
 (wss_cons (ws_set 2 (we_cal cal_law_parts (show 3 ≤ 42 by decide) (wa_cons (we_var 1) (wa_cons (we_ix (we_lst (wa_cons (we_str) (wa_cons (we_str) (wa_nil)))) (we_cal cal_law_taken (show 1 ≤ 42 by decide) (wa_cons (we_var 1) (wa_cons (we_int) (wa_nil))))) (wa_cons (we_int) (wa_nil))))) sc_law.nd)
 (wss_cons (ws_asg (we_tup (wa_cons (we_cal cal_law_made (show 6 ≤ 42 by decide) (wa_cons (we_var 2) (wa_nil))) (wa_cons (we_ix (we_var 2) (we_int)) (wa_cons (we_lst (wa_nil)) (wa_cons (we_lst (wa_cons (we_lst (wa_nil)) (wa_nil))) (wa_nil)))))) (wg_tup (wgs_cons (wg_name 3 sc_law.nd) (wgs_cons (wg_name 4 sc_law.nd) (wgs_cons (wg_name 5 sc_law.nd) (wgs_cons (wg_name 6 sc_law.nd) (wgs_nil)))))))
 (wss_cons (ws_set 7 (we_callB wc_len T.n_len (by decide +kernel) (wa_cons (we_var 4) (wa_nil))) sc_law.nd)
 (wss_cons (ws_for (wi_rng1 T.n_range (wa_cons (we_var 7) (wa_nil))) (wg_name 8 sc_law.nd) (wss_cons (ws_set 5 (we_op wo_add (we_var 5) (we_comp (own := [("_law_j", 9)]) sc_law.nd (wi_rng1 T.n_range (wa_cons (we_var 7) (wa_nil))) (fun _ => blkOk_by (N := N_law) (sc := defScope s_law) (by decide +kernel)) (wgv_name 9 sc_law.nd) (wts_one (wt_tru (we_cal cal_law_is_late (show 1 ≤ 42 by decide) (wa_cons (we_ix (we_var 4) (we_var 8)) (wa_cons (we_ix (we_var 4) (we_var 9)) (wa_nil)))))) (we_tup (wa_cons (we_var 8) (wa_cons (we_var 9) (wa_nil)))))) sc_law.nd)
 (wss_one (ws_set 6 (we_op wo_add (we_var 6) (we_comp (own := [("_law_some", 10)]) sc_law.nd (wi_seq (we_var 6)) (fun _ => blkOk_by (N := N_law) (sc := defScope s_law) (by decide +kernel)) (wgv_name 10 sc_law.nd) (wts_nil) (we_op wo_add (we_var 10) (we_lst (wa_cons (we_var 8) (wa_nil)))))) sc_law.nd))))
 (wss_cons (ws_set 11 (we_lstM (wa_nil)) sc_law.nd)
 (wss_cons (ws_for (wi_seq (we_var 6)) (wg_name 10 sc_law.nd) (wss_one (ws_if (wt_cmp wo_eq (we_comp (own := [("_law_pair", 12)]) sc_law.nd (wi_seq (we_var 5)) (fun _ => blkOk_by (N := N_law) (sc := defScope s_law) (by decide +kernel)) (wgv_name 12 sc_law.nd) (wts_one (wt_bool (ww_and (wt_cmp wo_notIn (we_ix (we_var 12) (we_int)) (we_var 10)) (ww_and1 (wt_cmp wo_notIn (we_ix (we_var 12) (we_int)) (we_var 10)))))) (we_var 12)) (we_lst (wa_nil))) (wss_one (ws_expr (we_append (we_var 11) (wa_cons (we_tup (wa_cons (we_callB wc_len T.n_len (by decide +kernel) (wa_cons (we_var 10) (wa_nil))) (wa_cons (we_var 10) (wa_nil)))) (wa_nil))))) (wss_nil))))
 (wss_cons (ws_set 13 (we_cal cal_fewest_to_drop (show 42 ≤ 42 by decide) (wa_cons (we_var 3) (wa_nil))) sc_law.nd)
 (wss_cons (ws_if (wt_bool (ww_or (wt_cmp wo_ne (we_cal cal_late_pairs (show 3 ≤ 42 by decide) (wa_cons (we_var 3) (wa_nil))) (we_var 5)) (ww_or1 (wt_cmp wo_ne (we_var 13) (we_ix (we_callB wc_minD T.n_min (by decide +kernel) (wa_cons (we_var 11) (wa_nil))) (we_int)))))) (wss_one (ws_ret (we_bl))) (wss_nil))
 (wss_cons (ws_set 14 (we_cal cal_find_chains (show 42 ≤ 42 by decide) (wa_cons (we_var 3) (wa_nil))) sc_law.nd)
 (wss_cons (ws_if (wt_cmp wo_ne (we_cal cal_judge_chains (show 4 ≤ 42 by decide) (wa_cons (we_var 3) (wa_cons (we_var 14) (wa_nil)))) (we_callB wc_len T.n_len (by decide +kernel) (wa_cons (we_var 13) (wa_nil)))) (wss_one (ws_ret (we_bl))) (wss_nil))
 (wss_cons (ws_if (wt_cmp wo_ne (we_cal cal_judge_chains (show 4 ≤ 42 by decide) (wa_cons (we_var 3) (wa_cons (we_comp (own := [("_law_k", 8)]) sc_law.nd (wi_rng1 T.n_range (wa_cons (we_var 7) (wa_nil))) (fun _ => blkOk_by (N := N_law) (sc := defScope s_law) (by decide +kernel)) (wgv_name 8 sc_law.nd) (wts_nil) (we_lst (wa_cons (we_var 8) (wa_nil)))) (wa_nil)))) (we_int)) (wss_one (ws_ret (we_bl))) (wss_nil))
 (wss_cons (ws_forG (wi_any (we_var 14)) (wg_name 15 sc_law.nd) (wss_one (ws_if (wt_cmp wo_ne (we_comp (own := [("_law_k", 8)]) sc_law.nd (wi_rng1 T.n_range (wa_cons (we_op wo_sub (we_callB wc_len T.n_len (by decide +kernel) (wa_cons (we_var 15) (wa_nil))) (we_int)) (wa_nil))) (fun _ => blkOk_by (N := N_law) (sc := defScope s_law) (by decide +kernel)) (wgv_name 8 sc_law.nd) (wts_one (wt_cmp wo_notIn (we_tup (wa_cons (we_ix (we_var 15) (we_var 8)) (wa_cons (we_ix (we_var 15) (we_op wo_add (we_var 8) (we_int))) (wa_nil)))) (we_var 5))) (we_var 8)) (we_lst (wa_nil))) (wss_one (ws_ret (we_bl))) (wss_nil))))
 (wss_cons (ws_if (wt_cmp wo_gt (we_var 7) (we_int)) (wss_cons (ws_set 8 (we_cal cal_law_taken (show 1 ≤ 42 by decide) (wa_cons (we_var 1) (wa_cons (we_var 7) (wa_nil)))) sc_law.nd)
 (wss_cons (ws_if (wt_cmp wo_notN (we_cal cal_judge_chains (show 4 ≤ 42 by decide) (wa_cons (we_var 3) (wa_cons (we_comp (own := [("_law_j", 9)]) sc_law.nd (wi_rng1 T.n_range (wa_cons (we_var 7) (wa_nil))) (fun _ => blkOk_by (N := N_law) (sc := defScope s_law) (by decide +kernel)) (wgv_name 9 sc_law.nd) (wts_one (wt_cmp wo_ne (we_var 9) (we_var 8))) (we_lst (wa_cons (we_var 9) (wa_nil)))) (wa_nil)))) (we_non)) (wss_one (ws_ret (we_bl))) (wss_nil))
 (wss_one (ws_if (wt_cmp wo_ne (we_prop prp_KeyMap_bindings (show 2 ≤ 42 by decide) (we_calS cas_without_bindings (show 6 ≤ 42 by decide) (wa_cons (we_var 3) (wa_cons (we_var 8) (wa_nil))))) (we_op wo_add (we_slice (we_var 4) (wp_none) (wp_some (we_var 8))) (we_slice (we_var 4) (wp_some (we_op wo_add (we_var 8) (we_int))) (wp_none)))) (wss_one (ws_ret (we_bl))) (wss_nil))))) (wss_nil))
 (wss_one (ws_ret (we_bl)))))))))))))))))
end
end Lw

set_option Elab.async false
set_option linter.all false
set_option maxRecDepth 100000
set_option maxHeartbeats 40000000
namespace Lw
open PySem L2 Wl LamX
theorem all_mk {l : PySem.W.OpenLaw} {w : World} {K : PySem.W.Frag} {h : Heap} {mg : Str → Option Value} {fa : Addr} {c_KeyMap f_is_number f_is_word f_is_binding f_check_modes f_check_bindings f_KeyMap_init__ f_KeyMap_modes f_KeyMap_wait f_KeyMap_bindings f_check_index f_late_pairs f_link f_find_links f_fewest_to_drop f_find_chains f_is_chain f_judge_chains f_without_bindings f_law_taken f_law_keys f_law_parts f_law_made f_law_is_late f_law p_KeyMap_modes p_KeyMap_wait p_KeyMap_bindings : Addr}
    (X : K.In h) (G : h.Ns mainGlobals mg) (hfa : mg "law" = some (.ref fa))
    (z_all : PySem.W.nsIn K mainGlobals "all" = some none)
    (z_bool : PySem.W.nsIn K mainGlobals "bool" = some none)
    (z_enumerate : PySem.W.nsIn K mainGlobals "enumerate" = some none)
    (z_int : PySem.W.nsIn K mainGlobals "int" = some none)
    (z_isinstance : PySem.W.nsIn K mainGlobals "isinstance" = some none)
    (z_len : PySem.W.nsIn K mainGlobals "len" = some none)
    (z_list : PySem.W.nsIn K mainGlobals "list" = some none)
    (z_min : PySem.W.nsIn K mainGlobals "min" = some none)
    (z_range : PySem.W.nsIn K mainGlobals "range" = some none)
    (z_set : PySem.W.nsIn K mainGlobals "set" = some none)
    (z_sorted : PySem.W.nsIn K mainGlobals "sorted" = some none)
    (z_str : PySem.W.nsIn K mainGlobals "str" = some none)
    (z_tuple : PySem.W.nsIn K mainGlobals "tuple" = some none)
    (z_zip : PySem.W.nsIn K mainGlobals "zip" = some none)
    (k_GREATEST_WAIT : ∃ t, PySem.W.nsIn K mainGlobals "GREATEST_WAIT" = some (some (.int 99 t)))
    (k_LETTERS : ∃ t, PySem.W.nsIn K mainGlobals "LETTERS" = some (some (.str "abcdefghijklmnopqrstuvwxyz" t)))
    (k_LONGEST_NAME : ∃ t, PySem.W.nsIn K mainGlobals "LONGEST_NAME" = some (some (.int 8 t)))
    (k_MOST_BINDINGS : ∃ t, PySem.W.nsIn K mainGlobals "MOST_BINDINGS" = some (some (.int 30 t)))
    (k_MOST_KEYS_OF_BINDING : ∃ t, PySem.W.nsIn K mainGlobals "MOST_KEYS_OF_BINDING" = some (some (.int 6 t)))
    (k_MOST_MODES : ∃ t, PySem.W.nsIn K mainGlobals "MOST_MODES" = some (some (.int 4 t)))
    (C_KeyMap : ClsF K "KeyMap" c_KeyMap)
    (na_KeyMap__bindings : NoAttr K c_KeyMap "_bindings")
    (na_KeyMap__modes : NoAttr K c_KeyMap "_modes")
    (na_KeyMap__wait : NoAttr K c_KeyMap "_wait")
    (F_is_number : TopF K "is_number" "is_number" s_is_number f_is_number)
    (F_is_word : TopF K "is_word" "is_word" s_is_word f_is_word)
    (F_is_binding : TopF K "is_binding" "is_binding" s_is_binding f_is_binding)
    (F_check_modes : TopF K "check_modes" "check_modes" s_check_modes f_check_modes)
    (F_check_bindings : TopF K "check_bindings" "check_bindings" s_check_bindings f_check_bindings)
    (F_KeyMap_init__ : MetF K c_KeyMap "__init__" "KeyMap.__init__" s_KeyMap_init__ f_KeyMap_init__)
    (F_KeyMap_modes : PrpF K c_KeyMap "modes" "KeyMap.modes" s_KeyMap_modes p_KeyMap_modes f_KeyMap_modes)
    (F_KeyMap_wait : PrpF K c_KeyMap "wait" "KeyMap.wait" s_KeyMap_wait p_KeyMap_wait f_KeyMap_wait)
    (F_KeyMap_bindings : PrpF K c_KeyMap "bindings" "KeyMap.bindings" s_KeyMap_bindings p_KeyMap_bindings f_KeyMap_bindings)
    (F_check_index : TopF K "check_index" "check_index" s_check_index f_check_index)
    (F_late_pairs : TopF K "late_pairs" "late_pairs" s_late_pairs f_late_pairs)
    (F_link : TopF K "_link" "_link" s_link f_link)
    (F_find_links : TopF K "_find_links" "_find_links" s_find_links f_find_links)
    (F_fewest_to_drop : TopF K "fewest_to_drop" "fewest_to_drop" s_fewest_to_drop f_fewest_to_drop)
    (F_find_chains : TopF K "find_chains" "find_chains" s_find_chains f_find_chains)
    (F_is_chain : TopF K "_is_chain" "_is_chain" s_is_chain f_is_chain)
    (F_judge_chains : TopF K "judge_chains" "judge_chains" s_judge_chains f_judge_chains)
    (F_without_bindings : TopF K "without_bindings" "without_bindings" s_without_bindings f_without_bindings)
    (F_law_taken : TopF K "_law_taken" "_law_taken" s_law_taken f_law_taken)
    (F_law_keys : TopF K "_law_keys" "_law_keys" s_law_keys f_law_keys)
    (F_law_parts : TopF K "_law_parts" "_law_parts" s_law_parts f_law_parts)
    (F_law_made : TopF K "_law_made" "_law_made" s_law_made f_law_made)
    (F_law_is_late : TopF K "_law_is_late" "_law_is_late" s_law_is_late f_law_is_late)
    (F_law : TopF K "law" "law" s_law f_law)
    : ∃ fd : FuncData, (∀ (s : Shared) (u : Value), BindsTo s fd ⟨[u], []⟩ [("_law_script", u)]) ∧ ∀ base : Heap, K.In base → base.Ns mainGlobals mg → FnOk l.prog w K mg base (L2.CX l.prog w) 43 fa fd ["_law_script"] (spEnd K) := by
  have T : Tp K mg ⟨c_KeyMap⟩ := ⟨PySem.W.mg_none_of X G z_all,
    PySem.W.mg_none_of X G z_bool,
    PySem.W.mg_none_of X G z_enumerate,
    PySem.W.mg_none_of X G z_int,
    PySem.W.mg_none_of X G z_isinstance,
    PySem.W.mg_none_of X G z_len,
    PySem.W.mg_none_of X G z_list,
    PySem.W.mg_none_of X G z_min,
    PySem.W.mg_none_of X G z_range,
    PySem.W.mg_none_of X G z_set,
    PySem.W.mg_none_of X G z_sorted,
    PySem.W.mg_none_of X G z_str,
    PySem.W.mg_none_of X G z_tuple,
    PySem.W.mg_none_of X G z_zip,
    (let ⟨t, e⟩ := k_GREATEST_WAIT; ⟨t, PySem.W.mg_of X G e⟩),
    (let ⟨t, e⟩ := k_LETTERS; ⟨t, PySem.W.mg_of X G e⟩),
    (let ⟨t, e⟩ := k_LONGEST_NAME; ⟨t, PySem.W.mg_of X G e⟩),
    (let ⟨t, e⟩ := k_MOST_BINDINGS; ⟨t, PySem.W.mg_of X G e⟩),
    (let ⟨t, e⟩ := k_MOST_KEYS_OF_BINDING; ⟨t, PySem.W.mg_of X G e⟩),
    (let ⟨t, e⟩ := k_MOST_MODES; ⟨t, PySem.W.mg_of X G e⟩),
    C_KeyMap.cls,
    na_KeyMap__bindings,
    na_KeyMap__modes,
    na_KeyMap__wait⟩
  obtain ⟨fd_is_number, D_is_number⟩ := F_is_number.at_ (ps := ["value", "least", "greatest"]) X G (fun _ _ _ _ _ _ us hl => match us, hl with | [_, _, _], _ => rfl)
  obtain ⟨fd_is_word, D_is_word⟩ := F_is_word.at_ (ps := ["value", "longest"]) X G (fun _ _ _ _ _ _ us hl => match us, hl with | [_, _], _ => rfl)
  obtain ⟨fd_is_binding, D_is_binding⟩ := F_is_binding.at_ (ps := ["modes", "value"]) X G (fun _ _ _ _ _ _ us hl => match us, hl with | [_, _], _ => rfl)
  obtain ⟨fd_check_modes, D_check_modes⟩ := F_check_modes.at_ (ps := ["modes"]) X G (fun _ _ _ _ _ _ us hl => match us, hl with | [_], _ => rfl)
  obtain ⟨fd_check_bindings, D_check_bindings⟩ := F_check_bindings.at_ (ps := ["modes", "bindings"]) X G (fun _ _ _ _ _ _ us hl => match us, hl with | [_, _], _ => rfl)
  obtain ⟨fd_KeyMap_init__, G_KeyMap_init__, B_KeyMap_init__⟩ := F_KeyMap_init__.f.bound (ps := ["self", "modes", "wait", "bindings"]) (fun _ _ _ _ _ _ us hl => match us, hl with | [_, _, _, _], _ => rfl)
  obtain ⟨fd_KeyMap_modes, G_KeyMap_modes, B_KeyMap_modes⟩ := F_KeyMap_modes.f.bound (ps := ["self"]) (fun _ _ _ _ _ _ us hl => match us, hl with | [_], _ => rfl)
  obtain ⟨fd_KeyMap_wait, G_KeyMap_wait, B_KeyMap_wait⟩ := F_KeyMap_wait.f.bound (ps := ["self"]) (fun _ _ _ _ _ _ us hl => match us, hl with | [_], _ => rfl)
  obtain ⟨fd_KeyMap_bindings, G_KeyMap_bindings, B_KeyMap_bindings⟩ := F_KeyMap_bindings.f.bound (ps := ["self"]) (fun _ _ _ _ _ _ us hl => match us, hl with | [_], _ => rfl)
  obtain ⟨fd_check_index, D_check_index⟩ := F_check_index.at_ (ps := ["keymap", "index"]) X G (fun _ _ _ _ _ _ us hl => match us, hl with | [_, _], _ => rfl)
  obtain ⟨fd_late_pairs, D_late_pairs⟩ := F_late_pairs.at_ (ps := ["keymap"]) X G (fun _ _ _ _ _ _ us hl => match us, hl with | [_], _ => rfl)
  obtain ⟨fd_link, D_link⟩ := F_link.at_ (ps := ["late", "number", "links", "tried"]) X G (fun _ _ _ _ _ _ us hl => match us, hl with | [_, _, _, _], _ => rfl)
  obtain ⟨fd_find_links, D_find_links⟩ := F_find_links.at_ (ps := ["pairs"]) X G (fun _ _ _ _ _ _ us hl => match us, hl with | [_], _ => rfl)
  obtain ⟨fd_fewest_to_drop, D_fewest_to_drop⟩ := F_fewest_to_drop.at_ (ps := ["keymap"]) X G (fun _ _ _ _ _ _ us hl => match us, hl with | [_], _ => rfl)
  obtain ⟨fd_find_chains, D_find_chains⟩ := F_find_chains.at_ (ps := ["keymap"]) X G (fun _ _ _ _ _ _ us hl => match us, hl with | [_], _ => rfl)
  obtain ⟨fd_is_chain, D_is_chain⟩ := F_is_chain.at_ (ps := ["value", "many", "pairs"]) X G (fun _ _ _ _ _ _ us hl => match us, hl with | [_, _, _], _ => rfl)
  obtain ⟨fd_judge_chains, D_judge_chains⟩ := F_judge_chains.at_ (ps := ["keymap", "chains"]) X G (fun _ _ _ _ _ _ us hl => match us, hl with | [_, _], _ => rfl)
  have B_without_bindings : BindS "without_bindings" "without_bindings" s_without_bindings ["keymap"] "indexes" := fun kV doc pm an cdv ct us rest h => StX.bind_star1 (B := fun zs => bindArgs (PySem.W.fnOf "without_bindings" "without_bindings" (defArgs s_without_bindings) (defBody s_without_bindings) (defScope s_without_bindings) .none kV doc pm an cdv ct) ⟨zs, []⟩) (fun _ => rfl) (fun _ _ _ => rfl) us rest h
  obtain ⟨fd_law_taken, D_law_taken⟩ := F_law_taken.at_ (ps := ["_law_row", "_law_many"]) X G (fun _ _ _ _ _ _ us hl => match us, hl with | [_, _], _ => rfl)
  obtain ⟨fd_law_keys, D_law_keys⟩ := F_law_keys.at_ (ps := ["_law_row", "_law_letters", "_law_most"]) X G (fun _ _ _ _ _ _ us hl => match us, hl with | [_, _, _], _ => rfl)
  obtain ⟨fd_law_parts, D_law_parts⟩ := F_law_parts.at_ (ps := ["_law_row", "_law_letters", "_law_most"]) X G (fun _ _ _ _ _ _ us hl => match us, hl with | [_, _, _], _ => rfl)
  obtain ⟨fd_law_made, D_law_made⟩ := F_law_made.at_ (ps := ["_law_parts_here"]) X G (fun _ _ _ _ _ _ us hl => match us, hl with | [_], _ => rfl)
  obtain ⟨fd_law_is_late, D_law_is_late⟩ := F_law_is_late.at_ (ps := ["_law_one", "_law_other"]) X G (fun _ _ _ _ _ _ us hl => match us, hl with | [_, _], _ => rfl)
  have e := hfa.symm.trans (PySem.W.mg_of X G F_law.a)
  cases e
  obtain ⟨fd_law, G_law, kVl, dcl, pml, anl, cdl, ctl, rfl⟩ := F_law.f.fn
  refine ⟨PySem.W.fnOf "law" "law" (defArgs s_law) (defBody s_law) (defScope s_law) .none kVl dcl pml anl cdl ctl, fun s u => .of_eq rfl, fun base _ _ => ?_⟩
  have O_is_number := ok_is_number (P := l.prog) (w := w) (base := base) D_is_number.fn T 
  have cal_is_number := D_is_number.cal O_is_number
  have O_is_word := ok_is_word (P := l.prog) (w := w) (base := base) D_is_word.fn T 
  have cal_is_word := D_is_word.cal O_is_word
  have O_is_binding := ok_is_binding (P := l.prog) (w := w) (base := base) D_is_binding.fn T cal_is_word
  have cal_is_binding := D_is_binding.cal O_is_binding
  have O_check_modes := ok_check_modes (P := l.prog) (w := w) (base := base) D_check_modes.fn T cal_is_word
  have cal_check_modes := D_check_modes.cal O_check_modes
  have O_check_bindings := ok_check_bindings (P := l.prog) (w := w) (base := base) D_check_bindings.fn T cal_is_binding
  have cal_check_bindings := D_check_bindings.cal O_check_bindings
  have O_KeyMap_init__ := ok_KeyMap_init__ (P := l.prog) (w := w) (base := base) G_KeyMap_init__ T cal_check_bindings cal_check_modes cal_is_number
  have mak_KeyMap_init__ := F_KeyMap_init__.mak X G C_KeyMap B_KeyMap_init__ O_KeyMap_init__
  have O_KeyMap_modes := ok_KeyMap_modes (P := l.prog) (w := w) (base := base) G_KeyMap_modes T 
  have prp_KeyMap_modes := F_KeyMap_modes.prp C_KeyMap.cls B_KeyMap_modes O_KeyMap_modes
  have O_KeyMap_wait := ok_KeyMap_wait (P := l.prog) (w := w) (base := base) G_KeyMap_wait T 
  have prp_KeyMap_wait := F_KeyMap_wait.prp C_KeyMap.cls B_KeyMap_wait O_KeyMap_wait
  have O_KeyMap_bindings := ok_KeyMap_bindings (P := l.prog) (w := w) (base := base) G_KeyMap_bindings T 
  have prp_KeyMap_bindings := F_KeyMap_bindings.prp C_KeyMap.cls B_KeyMap_bindings O_KeyMap_bindings
  have O_check_index := ok_check_index (P := l.prog) (w := w) (base := base) D_check_index.fn T prp_KeyMap_bindings cal_is_number
  have cal_check_index := D_check_index.cal O_check_index
  have O_late_pairs := ok_late_pairs (P := l.prog) (w := w) (base := base) D_late_pairs.fn T prp_KeyMap_bindings
  have cal_late_pairs := D_late_pairs.cal O_late_pairs
  have O_link := okn_link (P := l.prog) (w := w) (base := base) D_link T  40
  have cal_link : CalD l.prog w K mg base 40 "_link" (sp_link l.prog w _) [] := D_link.cal O_link
  have O_find_links := ok_find_links (P := l.prog) (w := w) (base := base) D_find_links.fn T cal_link
  have cal_find_links := D_find_links.cal O_find_links
  have O_fewest_to_drop := ok_fewest_to_drop (P := l.prog) (w := w) (base := base) D_fewest_to_drop.fn T prp_KeyMap_bindings cal_find_links cal_late_pairs
  have cal_fewest_to_drop := D_fewest_to_drop.cal O_fewest_to_drop
  have O_find_chains := ok_find_chains (P := l.prog) (w := w) (base := base) D_find_chains.fn T prp_KeyMap_bindings cal_find_links cal_late_pairs
  have cal_find_chains := D_find_chains.cal O_find_chains
  have O_is_chain := ok_is_chain (P := l.prog) (w := w) (base := base) D_is_chain.fn T cal_is_number
  have cal_is_chain := D_is_chain.cal O_is_chain
  have O_judge_chains := ok_judge_chains (P := l.prog) (w := w) (base := base) D_judge_chains.fn T prp_KeyMap_bindings cal_is_chain cal_late_pairs
  have cal_judge_chains := D_judge_chains.cal O_judge_chains
  have O_without_bindings := ok_without_bindings (P := l.prog) (w := w) (base := base) F_without_bindings.f B_without_bindings T prp_KeyMap_bindings mak_KeyMap_init__ prp_KeyMap_modes prp_KeyMap_wait cal_check_index
  have cas_without_bindings : CalS l.prog w K mg base 6 "without_bindings" (sp_without_bindings l.prog w _) 1 := ⟨_, O_without_bindings, PySem.W.mg_of X G F_without_bindings.a, F_without_bindings.f.k⟩
  have O_law_taken := ok_law_taken (P := l.prog) (w := w) (base := base) D_law_taken.fn T 
  have cal_law_taken := D_law_taken.cal O_law_taken
  have O_law_keys := ok_law_keys (P := l.prog) (w := w) (base := base) D_law_keys.fn T cal_law_taken
  have cal_law_keys := D_law_keys.cal O_law_keys
  have O_law_parts := ok_law_parts (P := l.prog) (w := w) (base := base) D_law_parts.fn T cal_law_keys cal_law_taken
  have cal_law_parts := D_law_parts.cal O_law_parts
  have O_law_made := ok_law_made (P := l.prog) (w := w) (base := base) D_law_made.fn T mak_KeyMap_init__
  have cal_law_made := D_law_made.cal O_law_made
  have O_law_is_late := ok_law_is_late (P := l.prog) (w := w) (base := base) D_law_is_late.fn T 
  have cal_law_is_late := D_law_is_late.cal O_law_is_late
  have O_law := ok_law (P := l.prog) (w := w) (base := base) G_law T prp_KeyMap_bindings cal_fewest_to_drop cal_find_chains cal_judge_chains cal_late_pairs cal_law_is_late cal_law_made cal_law_parts cal_law_taken cas_without_bindings
  exact ok_end O_law rfl (maths _ _ _)
theorem walk_law {l : PySem.W.OpenLaw} {q : Program} {loose : List Str} {XP : (Str → Option Value) → Heap → Prop} {YP : World → Heap → Prop} {d : DefRec} {K : Params → PySem.W.Frag} (hn : l.most = some 63) (hdf : d.params.defaults = [])
    (hY : ∀ (w : World) (h : Heap), YP w h → (K w.params).In h)
    (F : ∀ (w : World) (mg : Str → Option Value) (fa : Addr) (h : Heap), (K w.params).In h → h.Ns mainGlobals mg → mg d.name = some (.ref fa) →
      ∃ fd : FuncData, (∀ (s : Shared) (u : Value), BindsTo s fd ⟨[u], []⟩ [("_law_script", u)]) ∧ ∀ base : Heap, (K w.params).In base → base.Ns mainGlobals mg → FnOk l.prog w (K w.params) mg base (L2.CX l.prog w) 43 fa fd ["_law_script"] (spEnd (K w.params))) :
    PySem.W.WalkO q loose XP YP l.row.toRowW d [] (fun f vs => PySem.call f vs) :=
  L2.walk_of (n := 63) (k := 43) (x := "_law_script") (CX := fun w => L2.CX l.prog w) (sp := fun w => spEnd (K w.params)) hn (by decide) hdf ⟨rfl, by decide, by decide⟩ hY F (fun _ _ a ns hl _ hS => ⟨a, ns, rfl, hS, hl, fun _ => rfl⟩) fun w H s e s1 hc => by
    obtain ⟨a, B, H1, cls, d, z1, fl, z2, ub, z3, z4, z5, z6⟩ := hc
    first | exact z6.elim | exact z5.elim | exact z4.elim | exact z3.elim | exact z2.elim
end Lw
open PySem PySem.W PyProof.Rows
theorem Lw.fin : PySem.Challenge.rw_keywaits_k63_whole_bindings_to_give_up_b.Holds := by
  w_on; o_law; k_head; (case hw => w_witness2)
  k_fill
  refine Lw.walk_law (l := PySem.Challenge.rw_keywaits_k63_whole_bindings_to_give_up_b) rfl rfl (fun w h Y => PySem.W.kIn_of Y) ?F
  case F =>
    intro w mg fa h KX G hmg
    refine' Lw.all_mk KX G hmg ?z_all ?z_bool ?z_enumerate ?z_int ?z_isinstance ?z_len ?z_list ?z_min ?z_range ?z_set ?z_sorted ?z_str ?z_tuple ?z_zip ?k_GREATEST_WAIT ?k_LETTERS ?k_LONGEST_NAME ?k_MOST_BINDINGS ?k_MOST_KEYS_OF_BINDING ?k_MOST_MODES ?C_KeyMap ?na_KeyMap__bindings ?na_KeyMap__modes ?na_KeyMap__wait ?F_is_number ?F_is_word ?F_is_binding ?F_check_modes ?F_check_bindings ?F_KeyMap_init__ ?F_KeyMap_modes ?F_KeyMap_wait ?F_KeyMap_bindings ?F_check_index ?F_late_pairs ?F_link ?F_find_links ?F_fewest_to_drop ?F_find_chains ?F_is_chain ?F_judge_chains ?F_without_bindings ?F_law_taken ?F_law_keys ?F_law_parts ?F_law_made ?F_law_is_late ?F_law
    (case C_KeyMap => refine' ⟨?zza, ?zzb, ?zzc, ?zzd, ?zze, ?zzf, ?zzg⟩; (case zza => k_is); (case zzb => k_is); (case zzc => k_is); (case zzd => k_is); (case zze => k_is); (case zzf => k_is); (case zzg => k_is))
    (case z_all => k_is)
    (case z_bool => k_is)
    (case z_enumerate => k_is)
    (case z_int => k_is)
    (case z_isinstance => k_is)
    (case z_len => k_is)
    (case z_list => k_is)
    (case z_min => k_is)
    (case z_range => k_is)
    (case z_set => k_is)
    (case z_sorted => k_is)
    (case z_str => k_is)
    (case z_tuple => k_is)
    (case z_zip => k_is)
    (case k_GREATEST_WAIT => refine' Wl.con_int ?zzq; (case zzq => k_is))
    (case k_LETTERS => refine' Wl.con_str ?zzq; (case zzq => k_is))
    (case k_LONGEST_NAME => refine' Wl.con_int ?zzq; (case zzq => k_is))
    (case k_MOST_BINDINGS => refine' Wl.con_int ?zzq; (case zzq => k_is))
    (case k_MOST_KEYS_OF_BINDING => refine' Wl.con_int ?zzq; (case zzq => k_is))
    (case k_MOST_MODES => refine' Wl.con_int ?zzq; (case zzq => k_is))
    (case na_KeyMap__bindings => show PySem.W.findIn _ _ _ = _; k_is)
    (case na_KeyMap__modes => show PySem.W.findIn _ _ _ = _; k_is)
    (case na_KeyMap__wait => show PySem.W.findIn _ _ _ = _; k_is)
    (case F_is_number => refine' Wl.TopF.of ?zza ?zzl ?zzc ?zzk; (case zza => k_is); (case zzl => k_is); (case zzc => k_is); (case zzk => k_is))
    (case F_is_word => refine' Wl.TopF.of ?zza ?zzl ?zzc ?zzk; (case zza => k_is); (case zzl => k_is); (case zzc => k_is); (case zzk => k_is))
    (case F_is_binding => refine' Wl.TopF.of ?zza ?zzl ?zzc ?zzk; (case zza => k_is); (case zzl => k_is); (case zzc => k_is); (case zzk => k_is))
    (case F_check_modes => refine' Wl.TopF.of ?zza ?zzl ?zzc ?zzk; (case zza => k_is); (case zzl => k_is); (case zzc => k_is); (case zzk => k_is))
    (case F_check_bindings => refine' Wl.TopF.of ?zza ?zzl ?zzc ?zzk; (case zza => k_is); (case zzl => k_is); (case zzc => k_is); (case zzk => k_is))
    (case F_KeyMap_init__ => refine' Wl.MetF.of ?zza ?zzi ?zzl ?zzc ?zzk; (case zza => k_is); (case zzi => k_is); (case zzl => k_is); (case zzc => k_is); (case zzk => k_is))
    (case F_KeyMap_modes => refine' Wl.PrpF.of ?zza ?zzg ?zzt ?zzr ?zzl ?zzc ?zzk; (case zza => k_is); (case zzg => k_is); (case zzt => k_is); (case zzr => k_is); (case zzl => k_is); (case zzc => k_is); (case zzk => k_is))
    (case F_KeyMap_wait => refine' Wl.PrpF.of ?zza ?zzg ?zzt ?zzr ?zzl ?zzc ?zzk; (case zza => k_is); (case zzg => k_is); (case zzt => k_is); (case zzr => k_is); (case zzl => k_is); (case zzc => k_is); (case zzk => k_is))
    (case F_KeyMap_bindings => refine' Wl.PrpF.of ?zza ?zzg ?zzt ?zzr ?zzl ?zzc ?zzk; (case zza => k_is); (case zzg => k_is); (case zzt => k_is); (case zzr => k_is); (case zzl => k_is); (case zzc => k_is); (case zzk => k_is))
    (case F_check_index => refine' Wl.TopF.of ?zza ?zzl ?zzc ?zzk; (case zza => k_is); (case zzl => k_is); (case zzc => k_is); (case zzk => k_is))
    (case F_late_pairs => refine' Wl.TopF.of ?zza ?zzl ?zzc ?zzk; (case zza => k_is); (case zzl => k_is); (case zzc => k_is); (case zzk => k_is))
    (case F_link => refine' Wl.TopF.of ?zza ?zzl ?zzc ?zzk; (case zza => k_is); (case zzl => k_is); (case zzc => k_is); (case zzk => k_is))
    (case F_find_links => refine' Wl.TopF.of ?zza ?zzl ?zzc ?zzk; (case zza => k_is); (case zzl => k_is); (case zzc => k_is); (case zzk => k_is))
    (case F_fewest_to_drop => refine' Wl.TopF.of ?zza ?zzl ?zzc ?zzk; (case zza => k_is); (case zzl => k_is); (case zzc => k_is); (case zzk => k_is))
    (case F_find_chains => refine' Wl.TopF.of ?zza ?zzl ?zzc ?zzk; (case zza => k_is); (case zzl => k_is); (case zzc => k_is); (case zzk => k_is))
    (case F_is_chain => refine' Wl.TopF.of ?zza ?zzl ?zzc ?zzk; (case zza => k_is); (case zzl => k_is); (case zzc => k_is); (case zzk => k_is))
    (case F_judge_chains => refine' Wl.TopF.of ?zza ?zzl ?zzc ?zzk; (case zza => k_is); (case zzl => k_is); (case zzc => k_is); (case zzk => k_is))
    (case F_without_bindings => refine' Wl.TopF.of ?zza ?zzl ?zzc ?zzk; (case zza => k_is); (case zzl => k_is); (case zzc => k_is); (case zzk => k_is))
    (case F_law_taken => refine' Wl.TopF.of ?zza ?zzl ?zzc ?zzk; (case zza => k_is); (case zzl => k_is); (case zzc => k_is); (case zzk => k_is))
    (case F_law_keys => refine' Wl.TopF.of ?zza ?zzl ?zzc ?zzk; (case zza => k_is); (case zzl => k_is); (case zzc => k_is); (case zzk => k_is))
    (case F_law_parts => refine' Wl.TopF.of ?zza ?zzl ?zzc ?zzk; (case zza => k_is); (case zzl => k_is); (case zzc => k_is); (case zzk => k_is))
    (case F_law_made => refine' Wl.TopF.of ?zza ?zzl ?zzc ?zzk; (case zza => k_is); (case zzl => k_is); (case zzc => k_is); (case zzk => k_is))
    (case F_law_is_late => refine' Wl.TopF.of ?zza ?zzl ?zzc ?zzk; (case zza => k_is); (case zzl => k_is); (case zzc => k_is); (case zzk => k_is))
    (case F_law => refine' Wl.TopF.of ?zza ?zzl ?zzc ?zzk; (case zza => k_is); (case zzl => k_is); (case zzc => k_is); (case zzk => k_is))

theorem PySem.Challenge.cw_keywaits_k63_whole_bindings_to_give_up_b_holds : PySem.Challenge.rw_keywaits_k63_whole_bindings_to_give_up_b.Holds :=
  Lw.fin
