import PyProof.Rows.All
import KE.KDictPairs
import KE.KDictWalk
import KE.KeyNested
import Wide.All
import OpenK.AllK
import Wide.FinOn
import HandS.ForMost
import HandS.IsInst
import HandS.TupAny
import HandS.Deep
import HandS.Flow
import HandS.WideBits
import PyProof.ReprRoads
import HandS.ExcInit
import HandS.Dict
import HandS.Walk
import HandS.Codes
import PyProof.Rows.StrCase
import PyProof.StrBlock2
import HandS.WordsExc
import HandS.RaiseMore
import HandS.ExcIs
import HandS.FStr
import HandS.StrMore
import HandS.MakeKwOnly
import KE.KExcSuper
import KE.KSuper
import KE.KExcIs
import HandS.ExcField
import HandS.ExcOwn
import KE.KDictItemsList
import HandS.ListItems
import HandS.DictComp
import KE.KDictSum
import HandS.More
import KE.KDictOf
import HandS.WordsDict
import KE.KEqDict
import OpenK.KOps
import OpenK.KMake
import PyProof.Raises
import HandS.OwnEq
import HandS.TryMany
import HandS.TupLe
import KE.DataEq
import PySem.Challenge.RW_onefacers_k12_kinds_told_or_refused
import HandS.TupMul
import HandS.ForExc
set_option Elab.async false
set_option linter.all false
set_option maxRecDepth 100000
set_option maxHeartbeats 4000000
/-! Mx1: dicts whose keys are of any kinds: numbers, truths, None, texts, tuples. -/
namespace Mx
open PySem
section
variable {prog : Program} {w : World} {A : Around} {E : Value → Shared → Prop} {s : Shared} {h h' : Heap} {es : Array DictEntry} {ks : List NestedKey} {k : NestedKey} {key : Value}
/-- entry e holds the key k -/
def Ent (w : World) (h : Heap) (e : DictEntry) (k : NestedKey) : Prop := e.hash = k.hash w ∧ NestedIs h k e.key ∧ k.depth ≤ 8
structure Tb (w : World) (h : Heap) (es : Array DictEntry) (ks : List NestedKey) : Prop where
  size : es.size = ks.length
  ent : ∀ i (hi : i < es.size), ∃ k, ks[i]? = some k ∧ Ent w h es[i] k
  nodup : ks.Nodup
theorem Tb.get (T : Tb w h es ks) {j : Nat} (hj : ks[j]? = some k) : ∃ hi : j < es.size, Ent w h es[j] k := by
  have hl : j < es.size := by rw [T.size]; exact (List.getElem?_eq_some_iff.mp hj).1
  obtain ⟨k', h1, h2⟩ := T.ent j hl
  rw [hj] at h1; cases h1; exact ⟨hl, h2⟩
theorem Tb.one (T : Tb w h es ks) {i j : Nat} (hi : ks[i]? = some k) (hj : ks[j]? = some k) : i = j :=
  (List.getElem?_inj (List.getElem?_eq_some_iff.mp hi).1 T.nodup).mp (hi.trans hj.symm)
theorem eqb {k k' : NestedKey} {a b : Value} {Q : Bool → Shared → Prop} (hu : A.units + 8 < cLine) (ha : NestedIs s.heap k a) (hb : NestedIs s.heap k' b) (d1 : k.depth ≤ 8) (hq : Q (decide (k = k')) s) :
    wpAny (model prog w) A (eqBool a b) Q E s := eqAt_key k k' A s a b ha hb (by omega) prog w E Q (by rw [← NestedKey.decide_eq]; exact hq)
theorem tells {st : List Value} {Q : Bool → Shared → Prop} (hk : NestedIs s.heap k key) (hd : k.depth ≤ 8) (hs : ∀ v ∈ st, ∃ k', NestedIs s.heap k' v ∧ k'.depth ≤ 8) (hq : Q false s) : wpAny (model prog w) A (tableMayTell key st) Q E s := by
  unfold tableMayTell
  split
  · exact wpAny_pure hq
  · refine wpAny_bind (quiet_key k key 8 s hk hd A E _ ?_)
    simp only [Bool.not_true, Bool.false_eq_true, if_false]
    refine wpAny_bind (wpAny_forIn_list _ (fun rest r s' => s' = s ∧ r = (none, ()) ∧ ∀ v ∈ rest, v ∈ st) _ ?_ ?_ _ _ ⟨rfl, rfl, fun _ z => z⟩)
    · rintro x rest r s' ⟨rfl, rfl, hr⟩
      obtain ⟨k', hb, hd'⟩ := hs x (hr x List.mem_cons_self)
      refine wpAny_bind (quiet_key k' x 8 s' hb hd' A E _ ?_); simp only [Bool.not_true, Bool.false_eq_true, if_false]
      exact wpAny_pure ⟨rfl, rfl, fun v hv => hr v (List.mem_cons_of_mem _ hv)⟩
    · rintro r s' ⟨rfl, rfl, _⟩; exact wpAny_pure hq
theorem find {d : Addr} {o : Obj} {ep} {Q : Option Nat → Shared → Prop} (hu : A.units + 8 < cLine) (hk : NestedIs s.heap k key) (hdp : k.depth ≤ 8)
    (ho : s.heap.get? d = some o) (hd : o.data = .dict es ep) (T : Tb w s.heap es ks) (h1 : ∀ j, ks[j]? = some k → Q (some j) s) (h0 : k ∉ ks → Q none s) :
    wpAny (model prog w) A (dictFind d key (k.hash w)) Q E s := by
  have P1 : ∀ i ∈ placesWithHash es.size (fun i => es[i]?.map (·.hash)) (k.hash w), i < es.size := fun i hi => by
    unfold placesWithHash at hi; exact List.mem_range.mp (List.mem_filter.mp hi).1
  have P3 : ∀ j, ks[j]? = some k → j ∈ placesWithHash es.size (fun i => es[i]?.map (·.hash)) (k.hash w) := fun j hj => by
    obtain ⟨hl, e1, _⟩ := T.get hj
    unfold placesWithHash
    exact List.mem_filter.mpr ⟨List.mem_range.mpr hl, by simp [Array.getElem?_eq_getElem hl, e1]⟩
  have no : (∀ j, ks[j]? ≠ some k) → Q none s := fun z => h0 fun m => by obtain ⟨j, hj⟩ := List.mem_iff_getElem?.mp m; exact z j hj
  have nxt : ∀ {x : Nat} {rest : List Nat}, ks[x]? ≠ some k → (∀ j, ks[j]? = some k → j ∈ x :: rest) → ∀ j, ks[j]? = some k → j ∈ rest := fun {x rest} hx hj j e => by
    rcases List.mem_cons.mp (hj j e) with q | q
    · subst q; exact absurd e hx
    · exact q
  have sts : ∀ v ∈ (placesWithHash es.size (fun i => es[i]?.map (·.hash)) (k.hash w)).filterMap (fun i => es[i]?.map (·.key)), ∃ k', NestedIs s.heap k' v ∧ k'.depth ≤ 8 := fun v hv => by
    obtain ⟨i, _, hi⟩ := List.mem_filterMap.mp hv
    cases he : es[i]? with
    | none => rw [he] at hi; cases hi
    | some e =>
      rw [he] at hi; obtain rfl : e.key = v := by simpa using hi
      obtain ⟨hl, rfl⟩ := Array.getElem?_eq_some_iff.mp he
      obtain ⟨k', _, _, e2, e3⟩ := T.ent i hl
      exact ⟨k', e2, e3⟩
  have any0 : ∀ a : Addr, key = .ref a → ¬ (es.any fun e => e.key == Value.ref a && e.hash != k.hash w) = true := fun a ea z => by
    rw [← Array.any_toList, List.any_eq_true] at z
    obtain ⟨e, hin, hc⟩ := z
    obtain ⟨i, hi, rfl⟩ := Array.mem_iff_getElem.mp (Array.mem_toList_iff.mp hin)
    obtain ⟨k', _, e1, e2, _⟩ := T.ent i hi
    simp only [Bool.and_eq_true, beq_iff_eq, bne_iff_ne, ne_eq] at hc
    rw [hc.1, ← ea] at e2
    exact hc.2 (by rw [e1, NestedIs.inj _ _ _ e2 hk])
  unfold dictFind
  try with_reducible refine wpAny_holding ?_
  refine wpAny_bind (wpAny_dictEntries ho hd ?_); dsimp only
  have walk : wpAny (model prog w) A (dictWalkPlain d key (k.hash w) es (placesWithHash es.size (fun i => es[i]?.map (·.hash)) (k.hash w))) Q E s := by
    unfold dictWalkPlain
    refine wpAny_bind (wpAny_forIn_list _ (fun rest b s' => s' = s ∧ b = (none, ()) ∧ (∀ i ∈ rest, i < es.size) ∧ ∀ j, ks[j]? = some k → j ∈ rest) _ ?_ ?_ _ _ ⟨rfl, rfl, P1, P3⟩)
    · rintro x rest b s' ⟨rfl, rfl, hlt, hj⟩
      have hx := hlt x List.mem_cons_self
      obtain ⟨k', g1, e1, e2, e3⟩ := T.ent x hx
      simp only [Array.getElem?_eq_getElem hx]
      by_cases hh : (es[x].hash == k.hash w) = true
      · rw [if_pos hh]; refine wpAny_bind (wpAny_dictEpoch ho hd (wpAny_bind (eqb hu e2 hk e3 (wpAny_bind (wpAny_dictEpoch ho hd ?_)))))
        rw [if_neg (by simp)]
        by_cases hkk : k' = k
        · rw [decide_eq_true hkk]; subst hkk
          exact wpAny_bind (wpAny_rule (wpAny_pure (wpAny_pure (h1 x g1))))
        · rw [decide_eq_false hkk]
          exact wpAny_bind (wpAny_rule (wpAny_pure ⟨rfl, rfl, fun i hi => hlt i (List.mem_cons_of_mem _ hi), nxt (by rw [g1]; exact fun z => hkk (Option.some.inj z)) hj⟩))
      · rw [if_neg hh]
        exact wpAny_pure ⟨rfl, rfl, fun i hi => hlt i (List.mem_cons_of_mem _ hi), nxt (by rw [g1]; intro z; rw [e1, Option.some.inj z] at hh; simp at hh) hj⟩
    · rintro b s' ⟨rfl, rfl, _, hj⟩
      exact wpAny_pure (no fun j e => nomatch (hj j e))
  have PN : (placesWithHash es.size (fun i => es[i]?.map (·.hash)) (k.hash w)).Nodup := by unfold placesWithHash; exact List.nodup_range.filter _
  generalize hP : placesWithHash es.size (fun i => es[i]?.map (·.hash)) (k.hash w) = P at *
  generalize hS : P.filterMap (fun i => es[i]?.map (·.key)) = st at *
  have byT : ∀ (x : Str) (t : Tok), key = .str x t → wpAny (model prog w) A (foundByValue d key es x) Q E s := fun x t ekey => by
    unfold foundByValue
    have ek : k = .text x := NestedIs.inj _ _ _ hk (by rw [ekey]; exact .text x t)
    cases hf : es.findIdx? (fun e => e.key.isStr x) with
    | none =>
      dsimp only
      refine wpAny_pure (no fun j hj => ?_)
      obtain ⟨hl, _, e2, _⟩ := T.get hj
      have z := (Array.findIdx?_eq_none_iff.mp hf) es[j] (Array.getElem_mem hl)
      rw [ek] at e2
      generalize es[j].key = kk at e2 z
      cases e2; simp [Value.isStr] at z
    | some i =>
      obtain ⟨hlt, hi, _⟩ := Array.findIdx?_eq_some_iff_getElem.mp hf
      obtain ⟨k', g1, e1, e2, e3⟩ := T.ent i hlt
      have ek' : k' = k := by
        rw [ek]
        generalize es[i].key = kk at e2 hi
        cases e2 <;> simp [Value.isStr] at hi
        rw [hi]
      subst ek'
      simp only [Array.getElem?_eq_getElem hlt]
      refine wpAny_bind (wpAny_dictEpoch ho hd (wpAny_bind (eqb hu e2 hk e3 (wpAny_bind (wpAny_dictEpoch ho hd ?_)))))
      rw [if_neg (by simp), decide_eq_true rfl]; exact wpAny_bind (wpAny_rule (wpAny_pure (h1 i g1)))
  by_cases hall : ((key :: st).all carriedByValue) = true
  · rw [if_pos hall]
    cases key with
    | str x t =>
      dsimp only
      split
      · exact byT x t rfl
      · exact walk
    | _ => exact walk
  · rw [if_neg hall]
    cases key with
    | ref a =>
      dsimp only
      rw [if_neg (any0 a rfl)]
      by_cases hone : (st == [Value.ref a]) = true
      · rw [if_pos hone]; refine wpAny_bind (wpAny_pure ?_)
        (rw [if_neg (by simp)]; refine wpAny_bind ?_
         refine wpAny_forIn_list _ (fun rest b s' => s' = s ∧ b.1 = none ∧ (∀ i ∈ rest, i < es.size ∧ b.2 ≠ some i) ∧ rest.Nodup ∧ ((b.2 = none ∧ ∀ j, ks[j]? = some k → j ∈ rest) ∨ ∃ j, b.2 = some j ∧ ks[j]? = some k)) _ ?_ ?_ _ _ ⟨rfl, rfl, fun i hi => ⟨P1 i hi, nofun⟩, PN, .inl ⟨rfl, P3⟩⟩
         · rintro x rest ⟨b1, b2⟩ s' ⟨rfl, hb1, hlt, nd, hh⟩
           dsimp only at hb1 hlt hh; subst hb1
           obtain ⟨hx, hne⟩ := hlt x List.mem_cons_self
           obtain ⟨k', g1, e1, e2, e3⟩ := T.ent x hx
           have nd' := List.nodup_cons.mp nd
           have stay : ¬ k' = k → (b2 = none ∧ ∀ j, ks[j]? = some k → j ∈ rest) ∨ ∃ j, b2 = some j ∧ ks[j]? = some k := fun hkk => hh.imp (fun z => ⟨z.1, nxt (by rw [g1]; exact fun q => hkk (Option.some.inj q)) z.2⟩) id
           rw [Array.getElem?_eq_getElem hx]; dsimp only
           by_cases h2 : (es[x].hash == k.hash w) = true
           · rw [if_pos h2]; refine wpAny_bind (wpAny_dictEpoch ho hd (wpAny_bind (eqb hu e2 hk e3 (wpAny_bind (wpAny_dictEpoch ho hd ?_))))); rw [if_neg (by simp)]
             by_cases hkk : k' = k
             · rw [decide_eq_true hkk, if_pos rfl]; subst hkk
               have b0 : b2 = none := by
                 rcases hh with z | ⟨j, z, zj⟩
                 · exact z.1
                 · exact absurd (by rw [z, T.one zj g1]) hne
               subst b0
               rw [if_neg (by simp)]; refine wpAny_bind (wpAny_rule ?_)
               split
               · exact wpAny_pure (wpAny_pure (h1 x g1))
               · exact wpAny_pure ⟨rfl, rfl, fun i hi => ⟨(hlt i (List.mem_cons_of_mem _ hi)).1, fun z => nd'.1 (Option.some.inj z ▸ hi)⟩, nd'.2, .inr ⟨x, rfl, g1⟩⟩
             · rw [decide_eq_false hkk, if_neg (by simp)]; refine wpAny_bind (wpAny_rule ?_); rw [if_neg (by simp)]
               exact wpAny_pure ⟨rfl, rfl, fun i hi => hlt i (List.mem_cons_of_mem _ hi), nd'.2, stay hkk⟩
           · rw [if_neg h2]
             exact wpAny_pure ⟨rfl, rfl, fun i hi => hlt i (List.mem_cons_of_mem _ hi), nd'.2, stay fun z => h2 (by rw [e1, z]; simp)⟩
         · rintro ⟨b1, b2⟩ s' ⟨rfl, hb1, _, _, hh⟩
           dsimp only at hb1 hh; subst hb1; dsimp only
           rcases hh with ⟨rfl, z⟩ | ⟨j, rfl, zj⟩
           · exact wpAny_pure (no fun j e => nomatch (z j e))
           · exact wpAny_pure (h1 j zj))
      · rw [if_neg hone]; refine wpAny_bind (tells hk hdp sts ?_)
        (rw [if_neg (by simp)]; refine wpAny_bind ?_
         refine wpAny_forIn_list _ (fun rest b s' => s' = s ∧ b.1 = none ∧ (∀ i ∈ rest, i < es.size ∧ b.2 ≠ some i) ∧ rest.Nodup ∧ ((b.2 = none ∧ ∀ j, ks[j]? = some k → j ∈ rest) ∨ ∃ j, b.2 = some j ∧ ks[j]? = some k)) _ ?_ ?_ _ _ ⟨rfl, rfl, fun i hi => ⟨P1 i hi, nofun⟩, PN, .inl ⟨rfl, P3⟩⟩
         · rintro x rest ⟨b1, b2⟩ s' ⟨rfl, hb1, hlt, nd, hh⟩
           dsimp only at hb1 hlt hh; subst hb1
           obtain ⟨hx, hne⟩ := hlt x List.mem_cons_self
           obtain ⟨k', g1, e1, e2, e3⟩ := T.ent x hx
           have nd' := List.nodup_cons.mp nd
           have stay : ¬ k' = k → (b2 = none ∧ ∀ j, ks[j]? = some k → j ∈ rest) ∨ ∃ j, b2 = some j ∧ ks[j]? = some k := fun hkk => hh.imp (fun z => ⟨z.1, nxt (by rw [g1]; exact fun q => hkk (Option.some.inj q)) z.2⟩) id
           rw [Array.getElem?_eq_getElem hx]; dsimp only
           by_cases h2 : (es[x].hash == k.hash w) = true
           · rw [if_pos h2]; refine wpAny_bind (wpAny_dictEpoch ho hd (wpAny_bind (eqb hu e2 hk e3 (wpAny_bind (wpAny_dictEpoch ho hd ?_))))); rw [if_neg (by simp)]
             by_cases hkk : k' = k
             · rw [decide_eq_true hkk, if_pos rfl]; subst hkk
               have b0 : b2 = none := by
                 rcases hh with z | ⟨j, z, zj⟩
                 · exact z.1
                 · exact absurd (by rw [z, T.one zj g1]) hne
               subst b0
               rw [if_neg (by simp)]; refine wpAny_bind (wpAny_rule ?_)
               split
               · exact wpAny_pure (wpAny_pure (h1 x g1))
               · exact wpAny_pure ⟨rfl, rfl, fun i hi => ⟨(hlt i (List.mem_cons_of_mem _ hi)).1, fun z => nd'.1 (Option.some.inj z ▸ hi)⟩, nd'.2, .inr ⟨x, rfl, g1⟩⟩
             · rw [decide_eq_false hkk, if_neg (by simp)]; refine wpAny_bind (wpAny_rule ?_); rw [if_neg (by simp)]
               exact wpAny_pure ⟨rfl, rfl, fun i hi => hlt i (List.mem_cons_of_mem _ hi), nd'.2, stay hkk⟩
           · rw [if_neg h2]
             exact wpAny_pure ⟨rfl, rfl, fun i hi => hlt i (List.mem_cons_of_mem _ hi), nd'.2, stay fun z => h2 (by rw [e1, z]; simp)⟩
         · rintro ⟨b1, b2⟩ s' ⟨rfl, hb1, _, _, hh⟩
           dsimp only at hb1 hh; subst hb1; dsimp only
           rcases hh with ⟨rfl, z⟩ | ⟨j, rfl, zj⟩
           · exact wpAny_pure (no fun j e => nomatch (z j e))
           · exact wpAny_pure (h1 j zj))
    | str x t =>
      dsimp only
      by_cases hstr : (es.all fun e => isExactStrKey e.key) = true
      · rw [if_pos hstr]; exact byT x t rfl
      · rw [if_neg hstr]
        by_cases hone : (st == [Value.str x t]) = true
        · rw [if_pos hone]; refine wpAny_bind (wpAny_pure ?_)
          (rw [if_neg (by simp)]; refine wpAny_bind ?_
           refine wpAny_forIn_list _ (fun rest b s' => s' = s ∧ b.1 = none ∧ (∀ i ∈ rest, i < es.size ∧ b.2 ≠ some i) ∧ rest.Nodup ∧ ((b.2 = none ∧ ∀ j, ks[j]? = some k → j ∈ rest) ∨ ∃ j, b.2 = some j ∧ ks[j]? = some k)) _ ?_ ?_ _ _ ⟨rfl, rfl, fun i hi => ⟨P1 i hi, nofun⟩, PN, .inl ⟨rfl, P3⟩⟩
           · rintro x rest ⟨b1, b2⟩ s' ⟨rfl, hb1, hlt, nd, hh⟩
             dsimp only at hb1 hlt hh; subst hb1
             obtain ⟨hx, hne⟩ := hlt x List.mem_cons_self
             obtain ⟨k', g1, e1, e2, e3⟩ := T.ent x hx
             have nd' := List.nodup_cons.mp nd
             have stay : ¬ k' = k → (b2 = none ∧ ∀ j, ks[j]? = some k → j ∈ rest) ∨ ∃ j, b2 = some j ∧ ks[j]? = some k := fun hkk => hh.imp (fun z => ⟨z.1, nxt (by rw [g1]; exact fun q => hkk (Option.some.inj q)) z.2⟩) id
             rw [Array.getElem?_eq_getElem hx]; dsimp only
             by_cases h2 : (es[x].hash == k.hash w) = true
             · rw [if_pos h2]; refine wpAny_bind (wpAny_dictEpoch ho hd (wpAny_bind (eqb hu e2 hk e3 (wpAny_bind (wpAny_dictEpoch ho hd ?_))))); rw [if_neg (by simp)]
               by_cases hkk : k' = k
               · rw [decide_eq_true hkk, if_pos rfl]; subst hkk
                 have b0 : b2 = none := by
                   rcases hh with z | ⟨j, z, zj⟩
                   · exact z.1
                   · exact absurd (by rw [z, T.one zj g1]) hne
                 subst b0
                 rw [if_neg (by simp)]; refine wpAny_bind (wpAny_rule ?_)
                 split
                 · exact wpAny_pure (wpAny_pure (h1 x g1))
                 · exact wpAny_pure ⟨rfl, rfl, fun i hi => ⟨(hlt i (List.mem_cons_of_mem _ hi)).1, fun z => nd'.1 (Option.some.inj z ▸ hi)⟩, nd'.2, .inr ⟨x, rfl, g1⟩⟩
               · rw [decide_eq_false hkk, if_neg (by simp)]; refine wpAny_bind (wpAny_rule ?_); rw [if_neg (by simp)]
                 exact wpAny_pure ⟨rfl, rfl, fun i hi => hlt i (List.mem_cons_of_mem _ hi), nd'.2, stay hkk⟩
             · rw [if_neg h2]
               exact wpAny_pure ⟨rfl, rfl, fun i hi => hlt i (List.mem_cons_of_mem _ hi), nd'.2, stay fun z => h2 (by rw [e1, z]; simp)⟩
           · rintro ⟨b1, b2⟩ s' ⟨rfl, hb1, _, _, hh⟩
             dsimp only at hb1 hh; subst hb1; dsimp only
             rcases hh with ⟨rfl, z⟩ | ⟨j, rfl, zj⟩
             · exact wpAny_pure (no fun j e => nomatch (z j e))
             · exact wpAny_pure (h1 j zj))
        · rw [if_neg hone]; refine wpAny_bind (tells hk hdp sts ?_)
          (rw [if_neg (by simp)]; refine wpAny_bind ?_
           refine wpAny_forIn_list _ (fun rest b s' => s' = s ∧ b.1 = none ∧ (∀ i ∈ rest, i < es.size ∧ b.2 ≠ some i) ∧ rest.Nodup ∧ ((b.2 = none ∧ ∀ j, ks[j]? = some k → j ∈ rest) ∨ ∃ j, b.2 = some j ∧ ks[j]? = some k)) _ ?_ ?_ _ _ ⟨rfl, rfl, fun i hi => ⟨P1 i hi, nofun⟩, PN, .inl ⟨rfl, P3⟩⟩
           · rintro x rest ⟨b1, b2⟩ s' ⟨rfl, hb1, hlt, nd, hh⟩
             dsimp only at hb1 hlt hh; subst hb1
             obtain ⟨hx, hne⟩ := hlt x List.mem_cons_self
             obtain ⟨k', g1, e1, e2, e3⟩ := T.ent x hx
             have nd' := List.nodup_cons.mp nd
             have stay : ¬ k' = k → (b2 = none ∧ ∀ j, ks[j]? = some k → j ∈ rest) ∨ ∃ j, b2 = some j ∧ ks[j]? = some k := fun hkk => hh.imp (fun z => ⟨z.1, nxt (by rw [g1]; exact fun q => hkk (Option.some.inj q)) z.2⟩) id
             rw [Array.getElem?_eq_getElem hx]; dsimp only
             by_cases h2 : (es[x].hash == k.hash w) = true
             · rw [if_pos h2]; refine wpAny_bind (wpAny_dictEpoch ho hd (wpAny_bind (eqb hu e2 hk e3 (wpAny_bind (wpAny_dictEpoch ho hd ?_))))); rw [if_neg (by simp)]
               by_cases hkk : k' = k
               · rw [decide_eq_true hkk, if_pos rfl]; subst hkk
                 have b0 : b2 = none := by
                   rcases hh with z | ⟨j, z, zj⟩
                   · exact z.1
                   · exact absurd (by rw [z, T.one zj g1]) hne
                 subst b0
                 rw [if_neg (by simp)]; refine wpAny_bind (wpAny_rule ?_)
                 split
                 · exact wpAny_pure (wpAny_pure (h1 x g1))
                 · exact wpAny_pure ⟨rfl, rfl, fun i hi => ⟨(hlt i (List.mem_cons_of_mem _ hi)).1, fun z => nd'.1 (Option.some.inj z ▸ hi)⟩, nd'.2, .inr ⟨x, rfl, g1⟩⟩
               · rw [decide_eq_false hkk, if_neg (by simp)]; refine wpAny_bind (wpAny_rule ?_); rw [if_neg (by simp)]
                 exact wpAny_pure ⟨rfl, rfl, fun i hi => hlt i (List.mem_cons_of_mem _ hi), nd'.2, stay hkk⟩
             · rw [if_neg h2]
               exact wpAny_pure ⟨rfl, rfl, fun i hi => hlt i (List.mem_cons_of_mem _ hi), nd'.2, stay fun z => h2 (by rw [e1, z]; simp)⟩
           · rintro ⟨b1, b2⟩ s' ⟨rfl, hb1, _, _, hh⟩
             dsimp only at hb1 hh; subst hb1; dsimp only
             rcases hh with ⟨rfl, z⟩ | ⟨j, rfl, zj⟩
             · exact wpAny_pure (no fun j e => nomatch (z j e))
             · exact wpAny_pure (h1 j zj))
    | none =>
      dsimp only
      by_cases hone : (st == [Value.none]) = true
      · rw [if_pos hone]; refine wpAny_bind (wpAny_pure ?_)
        (rw [if_neg (by simp)]; refine wpAny_bind ?_
         refine wpAny_forIn_list _ (fun rest b s' => s' = s ∧ b.1 = none ∧ (∀ i ∈ rest, i < es.size ∧ b.2 ≠ some i) ∧ rest.Nodup ∧ ((b.2 = none ∧ ∀ j, ks[j]? = some k → j ∈ rest) ∨ ∃ j, b.2 = some j ∧ ks[j]? = some k)) _ ?_ ?_ _ _ ⟨rfl, rfl, fun i hi => ⟨P1 i hi, nofun⟩, PN, .inl ⟨rfl, P3⟩⟩
         · rintro x rest ⟨b1, b2⟩ s' ⟨rfl, hb1, hlt, nd, hh⟩
           dsimp only at hb1 hlt hh; subst hb1
           obtain ⟨hx, hne⟩ := hlt x List.mem_cons_self
           obtain ⟨k', g1, e1, e2, e3⟩ := T.ent x hx
           have nd' := List.nodup_cons.mp nd
           have stay : ¬ k' = k → (b2 = none ∧ ∀ j, ks[j]? = some k → j ∈ rest) ∨ ∃ j, b2 = some j ∧ ks[j]? = some k := fun hkk => hh.imp (fun z => ⟨z.1, nxt (by rw [g1]; exact fun q => hkk (Option.some.inj q)) z.2⟩) id
           rw [Array.getElem?_eq_getElem hx]; dsimp only
           by_cases h2 : (es[x].hash == k.hash w) = true
           · rw [if_pos h2]; refine wpAny_bind (wpAny_dictEpoch ho hd (wpAny_bind (eqb hu e2 hk e3 (wpAny_bind (wpAny_dictEpoch ho hd ?_))))); rw [if_neg (by simp)]
             by_cases hkk : k' = k
             · rw [decide_eq_true hkk, if_pos rfl]; subst hkk
               have b0 : b2 = none := by
                 rcases hh with z | ⟨j, z, zj⟩
                 · exact z.1
                 · exact absurd (by rw [z, T.one zj g1]) hne
               subst b0
               rw [if_neg (by simp)]; refine wpAny_bind (wpAny_rule ?_)
               split
               · exact wpAny_pure (wpAny_pure (h1 x g1))
               · exact wpAny_pure ⟨rfl, rfl, fun i hi => ⟨(hlt i (List.mem_cons_of_mem _ hi)).1, fun z => nd'.1 (Option.some.inj z ▸ hi)⟩, nd'.2, .inr ⟨x, rfl, g1⟩⟩
             · rw [decide_eq_false hkk, if_neg (by simp)]; refine wpAny_bind (wpAny_rule ?_); rw [if_neg (by simp)]
               exact wpAny_pure ⟨rfl, rfl, fun i hi => hlt i (List.mem_cons_of_mem _ hi), nd'.2, stay hkk⟩
           · rw [if_neg h2]
             exact wpAny_pure ⟨rfl, rfl, fun i hi => hlt i (List.mem_cons_of_mem _ hi), nd'.2, stay fun z => h2 (by rw [e1, z]; simp)⟩
         · rintro ⟨b1, b2⟩ s' ⟨rfl, hb1, _, _, hh⟩
           dsimp only at hb1 hh; subst hb1; dsimp only
           rcases hh with ⟨rfl, z⟩ | ⟨j, rfl, zj⟩
           · exact wpAny_pure (no fun j e => nomatch (z j e))
           · exact wpAny_pure (h1 j zj))
      · rw [if_neg hone]; refine wpAny_bind (tells hk hdp sts ?_)
        (rw [if_neg (by simp)]; refine wpAny_bind ?_
         refine wpAny_forIn_list _ (fun rest b s' => s' = s ∧ b.1 = none ∧ (∀ i ∈ rest, i < es.size ∧ b.2 ≠ some i) ∧ rest.Nodup ∧ ((b.2 = none ∧ ∀ j, ks[j]? = some k → j ∈ rest) ∨ ∃ j, b.2 = some j ∧ ks[j]? = some k)) _ ?_ ?_ _ _ ⟨rfl, rfl, fun i hi => ⟨P1 i hi, nofun⟩, PN, .inl ⟨rfl, P3⟩⟩
         · rintro x rest ⟨b1, b2⟩ s' ⟨rfl, hb1, hlt, nd, hh⟩
           dsimp only at hb1 hlt hh; subst hb1
           obtain ⟨hx, hne⟩ := hlt x List.mem_cons_self
           obtain ⟨k', g1, e1, e2, e3⟩ := T.ent x hx
           have nd' := List.nodup_cons.mp nd
           have stay : ¬ k' = k → (b2 = none ∧ ∀ j, ks[j]? = some k → j ∈ rest) ∨ ∃ j, b2 = some j ∧ ks[j]? = some k := fun hkk => hh.imp (fun z => ⟨z.1, nxt (by rw [g1]; exact fun q => hkk (Option.some.inj q)) z.2⟩) id
           rw [Array.getElem?_eq_getElem hx]; dsimp only
           by_cases h2 : (es[x].hash == k.hash w) = true
           · rw [if_pos h2]; refine wpAny_bind (wpAny_dictEpoch ho hd (wpAny_bind (eqb hu e2 hk e3 (wpAny_bind (wpAny_dictEpoch ho hd ?_))))); rw [if_neg (by simp)]
             by_cases hkk : k' = k
             · rw [decide_eq_true hkk, if_pos rfl]; subst hkk
               have b0 : b2 = none := by
                 rcases hh with z | ⟨j, z, zj⟩
                 · exact z.1
                 · exact absurd (by rw [z, T.one zj g1]) hne
               subst b0
               rw [if_neg (by simp)]; refine wpAny_bind (wpAny_rule ?_)
               split
               · exact wpAny_pure (wpAny_pure (h1 x g1))
               · exact wpAny_pure ⟨rfl, rfl, fun i hi => ⟨(hlt i (List.mem_cons_of_mem _ hi)).1, fun z => nd'.1 (Option.some.inj z ▸ hi)⟩, nd'.2, .inr ⟨x, rfl, g1⟩⟩
             · rw [decide_eq_false hkk, if_neg (by simp)]; refine wpAny_bind (wpAny_rule ?_); rw [if_neg (by simp)]
               exact wpAny_pure ⟨rfl, rfl, fun i hi => hlt i (List.mem_cons_of_mem _ hi), nd'.2, stay hkk⟩
           · rw [if_neg h2]
             exact wpAny_pure ⟨rfl, rfl, fun i hi => hlt i (List.mem_cons_of_mem _ hi), nd'.2, stay fun z => h2 (by rw [e1, z]; simp)⟩
         · rintro ⟨b1, b2⟩ s' ⟨rfl, hb1, _, _, hh⟩
           dsimp only at hb1 hh; subst hb1; dsimp only
           rcases hh with ⟨rfl, z⟩ | ⟨j, rfl, zj⟩
           · exact wpAny_pure (no fun j e => nomatch (z j e))
           · exact wpAny_pure (h1 j zj))
    | bool b =>
      dsimp only
      by_cases hone : (st == [Value.bool b]) = true
      · rw [if_pos hone]; refine wpAny_bind (wpAny_pure ?_)
        (rw [if_neg (by simp)]; refine wpAny_bind ?_
         refine wpAny_forIn_list _ (fun rest b s' => s' = s ∧ b.1 = none ∧ (∀ i ∈ rest, i < es.size ∧ b.2 ≠ some i) ∧ rest.Nodup ∧ ((b.2 = none ∧ ∀ j, ks[j]? = some k → j ∈ rest) ∨ ∃ j, b.2 = some j ∧ ks[j]? = some k)) _ ?_ ?_ _ _ ⟨rfl, rfl, fun i hi => ⟨P1 i hi, nofun⟩, PN, .inl ⟨rfl, P3⟩⟩
         · rintro x rest ⟨b1, b2⟩ s' ⟨rfl, hb1, hlt, nd, hh⟩
           dsimp only at hb1 hlt hh; subst hb1
           obtain ⟨hx, hne⟩ := hlt x List.mem_cons_self
           obtain ⟨k', g1, e1, e2, e3⟩ := T.ent x hx
           have nd' := List.nodup_cons.mp nd
           have stay : ¬ k' = k → (b2 = none ∧ ∀ j, ks[j]? = some k → j ∈ rest) ∨ ∃ j, b2 = some j ∧ ks[j]? = some k := fun hkk => hh.imp (fun z => ⟨z.1, nxt (by rw [g1]; exact fun q => hkk (Option.some.inj q)) z.2⟩) id
           rw [Array.getElem?_eq_getElem hx]; dsimp only
           by_cases h2 : (es[x].hash == k.hash w) = true
           · rw [if_pos h2]; refine wpAny_bind (wpAny_dictEpoch ho hd (wpAny_bind (eqb hu e2 hk e3 (wpAny_bind (wpAny_dictEpoch ho hd ?_))))); rw [if_neg (by simp)]
             by_cases hkk : k' = k
             · rw [decide_eq_true hkk, if_pos rfl]; subst hkk
               have b0 : b2 = none := by
                 rcases hh with z | ⟨j, z, zj⟩
                 · exact z.1
                 · exact absurd (by rw [z, T.one zj g1]) hne
               subst b0
               rw [if_neg (by simp)]; refine wpAny_bind (wpAny_rule ?_)
               split
               · exact wpAny_pure (wpAny_pure (h1 x g1))
               · exact wpAny_pure ⟨rfl, rfl, fun i hi => ⟨(hlt i (List.mem_cons_of_mem _ hi)).1, fun z => nd'.1 (Option.some.inj z ▸ hi)⟩, nd'.2, .inr ⟨x, rfl, g1⟩⟩
             · rw [decide_eq_false hkk, if_neg (by simp)]; refine wpAny_bind (wpAny_rule ?_); rw [if_neg (by simp)]
               exact wpAny_pure ⟨rfl, rfl, fun i hi => hlt i (List.mem_cons_of_mem _ hi), nd'.2, stay hkk⟩
           · rw [if_neg h2]
             exact wpAny_pure ⟨rfl, rfl, fun i hi => hlt i (List.mem_cons_of_mem _ hi), nd'.2, stay fun z => h2 (by rw [e1, z]; simp)⟩
         · rintro ⟨b1, b2⟩ s' ⟨rfl, hb1, _, _, hh⟩
           dsimp only at hb1 hh; subst hb1; dsimp only
           rcases hh with ⟨rfl, z⟩ | ⟨j, rfl, zj⟩
           · exact wpAny_pure (no fun j e => nomatch (z j e))
           · exact wpAny_pure (h1 j zj))
      · rw [if_neg hone]; refine wpAny_bind (tells hk hdp sts ?_)
        (rw [if_neg (by simp)]; refine wpAny_bind ?_
         refine wpAny_forIn_list _ (fun rest b s' => s' = s ∧ b.1 = none ∧ (∀ i ∈ rest, i < es.size ∧ b.2 ≠ some i) ∧ rest.Nodup ∧ ((b.2 = none ∧ ∀ j, ks[j]? = some k → j ∈ rest) ∨ ∃ j, b.2 = some j ∧ ks[j]? = some k)) _ ?_ ?_ _ _ ⟨rfl, rfl, fun i hi => ⟨P1 i hi, nofun⟩, PN, .inl ⟨rfl, P3⟩⟩
         · rintro x rest ⟨b1, b2⟩ s' ⟨rfl, hb1, hlt, nd, hh⟩
           dsimp only at hb1 hlt hh; subst hb1
           obtain ⟨hx, hne⟩ := hlt x List.mem_cons_self
           obtain ⟨k', g1, e1, e2, e3⟩ := T.ent x hx
           have nd' := List.nodup_cons.mp nd
           have stay : ¬ k' = k → (b2 = none ∧ ∀ j, ks[j]? = some k → j ∈ rest) ∨ ∃ j, b2 = some j ∧ ks[j]? = some k := fun hkk => hh.imp (fun z => ⟨z.1, nxt (by rw [g1]; exact fun q => hkk (Option.some.inj q)) z.2⟩) id
           rw [Array.getElem?_eq_getElem hx]; dsimp only
           by_cases h2 : (es[x].hash == k.hash w) = true
           · rw [if_pos h2]; refine wpAny_bind (wpAny_dictEpoch ho hd (wpAny_bind (eqb hu e2 hk e3 (wpAny_bind (wpAny_dictEpoch ho hd ?_))))); rw [if_neg (by simp)]
             by_cases hkk : k' = k
             · rw [decide_eq_true hkk, if_pos rfl]; subst hkk
               have b0 : b2 = none := by
                 rcases hh with z | ⟨j, z, zj⟩
                 · exact z.1
                 · exact absurd (by rw [z, T.one zj g1]) hne
               subst b0
               rw [if_neg (by simp)]; refine wpAny_bind (wpAny_rule ?_)
               split
               · exact wpAny_pure (wpAny_pure (h1 x g1))
               · exact wpAny_pure ⟨rfl, rfl, fun i hi => ⟨(hlt i (List.mem_cons_of_mem _ hi)).1, fun z => nd'.1 (Option.some.inj z ▸ hi)⟩, nd'.2, .inr ⟨x, rfl, g1⟩⟩
             · rw [decide_eq_false hkk, if_neg (by simp)]; refine wpAny_bind (wpAny_rule ?_); rw [if_neg (by simp)]
               exact wpAny_pure ⟨rfl, rfl, fun i hi => hlt i (List.mem_cons_of_mem _ hi), nd'.2, stay hkk⟩
           · rw [if_neg h2]
             exact wpAny_pure ⟨rfl, rfl, fun i hi => hlt i (List.mem_cons_of_mem _ hi), nd'.2, stay fun z => h2 (by rw [e1, z]; simp)⟩
         · rintro ⟨b1, b2⟩ s' ⟨rfl, hb1, _, _, hh⟩
           dsimp only at hb1 hh; subst hb1; dsimp only
           rcases hh with ⟨rfl, z⟩ | ⟨j, rfl, zj⟩
           · exact wpAny_pure (no fun j e => nomatch (z j e))
           · exact wpAny_pure (h1 j zj))
    | int i t =>
      dsimp only
      by_cases hone : (st == [Value.int i t]) = true
      · rw [if_pos hone]; refine wpAny_bind (wpAny_pure ?_)
        (rw [if_neg (by simp)]; refine wpAny_bind ?_
         refine wpAny_forIn_list _ (fun rest b s' => s' = s ∧ b.1 = none ∧ (∀ i ∈ rest, i < es.size ∧ b.2 ≠ some i) ∧ rest.Nodup ∧ ((b.2 = none ∧ ∀ j, ks[j]? = some k → j ∈ rest) ∨ ∃ j, b.2 = some j ∧ ks[j]? = some k)) _ ?_ ?_ _ _ ⟨rfl, rfl, fun i hi => ⟨P1 i hi, nofun⟩, PN, .inl ⟨rfl, P3⟩⟩
         · rintro x rest ⟨b1, b2⟩ s' ⟨rfl, hb1, hlt, nd, hh⟩
           dsimp only at hb1 hlt hh; subst hb1
           obtain ⟨hx, hne⟩ := hlt x List.mem_cons_self
           obtain ⟨k', g1, e1, e2, e3⟩ := T.ent x hx
           have nd' := List.nodup_cons.mp nd
           have stay : ¬ k' = k → (b2 = none ∧ ∀ j, ks[j]? = some k → j ∈ rest) ∨ ∃ j, b2 = some j ∧ ks[j]? = some k := fun hkk => hh.imp (fun z => ⟨z.1, nxt (by rw [g1]; exact fun q => hkk (Option.some.inj q)) z.2⟩) id
           rw [Array.getElem?_eq_getElem hx]; dsimp only
           by_cases h2 : (es[x].hash == k.hash w) = true
           · rw [if_pos h2]; refine wpAny_bind (wpAny_dictEpoch ho hd (wpAny_bind (eqb hu e2 hk e3 (wpAny_bind (wpAny_dictEpoch ho hd ?_))))); rw [if_neg (by simp)]
             by_cases hkk : k' = k
             · rw [decide_eq_true hkk, if_pos rfl]; subst hkk
               have b0 : b2 = none := by
                 rcases hh with z | ⟨j, z, zj⟩
                 · exact z.1
                 · exact absurd (by rw [z, T.one zj g1]) hne
               subst b0
               rw [if_neg (by simp)]; refine wpAny_bind (wpAny_rule ?_)
               split
               · exact wpAny_pure (wpAny_pure (h1 x g1))
               · exact wpAny_pure ⟨rfl, rfl, fun i hi => ⟨(hlt i (List.mem_cons_of_mem _ hi)).1, fun z => nd'.1 (Option.some.inj z ▸ hi)⟩, nd'.2, .inr ⟨x, rfl, g1⟩⟩
             · rw [decide_eq_false hkk, if_neg (by simp)]; refine wpAny_bind (wpAny_rule ?_); rw [if_neg (by simp)]
               exact wpAny_pure ⟨rfl, rfl, fun i hi => hlt i (List.mem_cons_of_mem _ hi), nd'.2, stay hkk⟩
           · rw [if_neg h2]
             exact wpAny_pure ⟨rfl, rfl, fun i hi => hlt i (List.mem_cons_of_mem _ hi), nd'.2, stay fun z => h2 (by rw [e1, z]; simp)⟩
         · rintro ⟨b1, b2⟩ s' ⟨rfl, hb1, _, _, hh⟩
           dsimp only at hb1 hh; subst hb1; dsimp only
           rcases hh with ⟨rfl, z⟩ | ⟨j, rfl, zj⟩
           · exact wpAny_pure (no fun j e => nomatch (z j e))
           · exact wpAny_pure (h1 j zj))
      · rw [if_neg hone]; refine wpAny_bind (tells hk hdp sts ?_)
        (rw [if_neg (by simp)]; refine wpAny_bind ?_
         refine wpAny_forIn_list _ (fun rest b s' => s' = s ∧ b.1 = none ∧ (∀ i ∈ rest, i < es.size ∧ b.2 ≠ some i) ∧ rest.Nodup ∧ ((b.2 = none ∧ ∀ j, ks[j]? = some k → j ∈ rest) ∨ ∃ j, b.2 = some j ∧ ks[j]? = some k)) _ ?_ ?_ _ _ ⟨rfl, rfl, fun i hi => ⟨P1 i hi, nofun⟩, PN, .inl ⟨rfl, P3⟩⟩
         · rintro x rest ⟨b1, b2⟩ s' ⟨rfl, hb1, hlt, nd, hh⟩
           dsimp only at hb1 hlt hh; subst hb1
           obtain ⟨hx, hne⟩ := hlt x List.mem_cons_self
           obtain ⟨k', g1, e1, e2, e3⟩ := T.ent x hx
           have nd' := List.nodup_cons.mp nd
           have stay : ¬ k' = k → (b2 = none ∧ ∀ j, ks[j]? = some k → j ∈ rest) ∨ ∃ j, b2 = some j ∧ ks[j]? = some k := fun hkk => hh.imp (fun z => ⟨z.1, nxt (by rw [g1]; exact fun q => hkk (Option.some.inj q)) z.2⟩) id
           rw [Array.getElem?_eq_getElem hx]; dsimp only
           by_cases h2 : (es[x].hash == k.hash w) = true
           · rw [if_pos h2]; refine wpAny_bind (wpAny_dictEpoch ho hd (wpAny_bind (eqb hu e2 hk e3 (wpAny_bind (wpAny_dictEpoch ho hd ?_))))); rw [if_neg (by simp)]
             by_cases hkk : k' = k
             · rw [decide_eq_true hkk, if_pos rfl]; subst hkk
               have b0 : b2 = none := by
                 rcases hh with z | ⟨j, z, zj⟩
                 · exact z.1
                 · exact absurd (by rw [z, T.one zj g1]) hne
               subst b0
               rw [if_neg (by simp)]; refine wpAny_bind (wpAny_rule ?_)
               split
               · exact wpAny_pure (wpAny_pure (h1 x g1))
               · exact wpAny_pure ⟨rfl, rfl, fun i hi => ⟨(hlt i (List.mem_cons_of_mem _ hi)).1, fun z => nd'.1 (Option.some.inj z ▸ hi)⟩, nd'.2, .inr ⟨x, rfl, g1⟩⟩
             · rw [decide_eq_false hkk, if_neg (by simp)]; refine wpAny_bind (wpAny_rule ?_); rw [if_neg (by simp)]
               exact wpAny_pure ⟨rfl, rfl, fun i hi => hlt i (List.mem_cons_of_mem _ hi), nd'.2, stay hkk⟩
           · rw [if_neg h2]
             exact wpAny_pure ⟨rfl, rfl, fun i hi => hlt i (List.mem_cons_of_mem _ hi), nd'.2, stay fun z => h2 (by rw [e1, z]; simp)⟩
         · rintro ⟨b1, b2⟩ s' ⟨rfl, hb1, _, _, hh⟩
           dsimp only at hb1 hh; subst hb1; dsimp only
           rcases hh with ⟨rfl, z⟩ | ⟨j, rfl, zj⟩
           · exact wpAny_pure (no fun j e => nomatch (z j e))
           · exact wpAny_pure (h1 j zj))
    | _ => cases hk
/-- at d stands a dict with these keys and values -/
abbrev Row := NestedKey × Value × Value
def ent (w : World) (x : Row) : DictEntry := ⟨x.1.hash w, x.2.1, x.2.2⟩
def DV (w : World) (h : Heap) (d : Addr) (l : List Row) : Prop := ∃ o es ep, h.get? d = some o ∧ o.ExactDict ∧ o.data = .dict es ep ∧ es.toList = l.map (ent w)
structure Ks (h : Heap) (l : List Row) : Prop where
  key : ∀ x ∈ l, NestedIs h x.1 x.2.1 ∧ x.1.depth ≤ 8
  nodup : (l.map (·.1)).Nodup
def putL (l : List Row) (k : NestedKey) (key v : Value) : List Row := if k ∈ l.map (·.1) then l.map (fun x => if x.1 = k then (x.1, x.2.1, v) else x) else l ++ [(k, key, v)]
def getL (l : List Row) (k : NestedKey) : Option Value := (l.find? fun x => decide (x.1 = k)).map (·.2.2)
theorem tb_of {l : List Row} (he : es.toList = l.map (ent w)) (K : Ks h l) : Tb w h es (l.map (·.1)) where
  size := by rw [← Array.length_toList, he, List.length_map, List.length_map]
  nodup := K.nodup
  ent := fun i hi => by
    have hl : i < l.length := by rw [← Array.length_toList, he, List.length_map] at hi; exact hi
    have e : es[i] = ent w l[i] := by
      have z : es.toList[i]? = some es[i] := by rw [Array.getElem?_toList, Array.getElem?_eq_getElem hi]
      rw [he, List.getElem?_map, List.getElem?_eq_getElem hl] at z
      exact (Option.some.inj z).symm
    refine ⟨l[i].1, by rw [List.getElem?_map, List.getElem?_eq_getElem hl]; rfl, ?_⟩
    rw [e]
    exact ⟨rfl, (K.key _ (List.getElem_mem hl)).1, (K.key _ (List.getElem_mem hl)).2⟩
theorem keys_put (l : List Row) (k : NestedKey) (key v : Value) : (putL l k key v).map (·.1) = if k ∈ l.map (·.1) then l.map (·.1) else l.map (·.1) ++ [k] := by
  unfold putL
  split
  · rw [List.map_map]; refine List.map_congr_left fun x _ => ?_
    show (if x.1 = k then (x.1, x.2.1, v) else x).1 = x.1
    split <;> rfl
  · rw [List.map_append]; rfl
theorem Ks.put {l : List Row} (K : Ks h l) (hk : NestedIs h k key) (hd : k.depth ≤ 8) (v : Value) : Ks h (putL l k key v) := by
  refine ⟨fun x hx => ?_, ?_⟩
  · unfold putL at hx
    split at hx
    · obtain ⟨y, hy, rfl⟩ := List.mem_map.mp hx
      have := K.key y hy
      split <;> exact this
    · rcases List.mem_append.mp hx with z | z
      · exact K.key x z
      · rw [List.mem_singleton.mp z]; exact ⟨hk, hd⟩
  · rw [keys_put]
    split
    · exact K.nodup
    · next hn => rw [List.nodup_append]; exact ⟨K.nodup, by simp, fun a ha b hb e => hn (by rw [← List.mem_singleton.mp hb, ← e]; exact ha)⟩
theorem Ks.at {l : List Row} (K : Ks h l) (e : ∀ a o vs n, h.get? a = some o → o.data = .seq vs n → h'.get? a = some o) : Ks h' l := ⟨fun x hx => ⟨(K.key x hx).1.at e, (K.key x hx).2⟩, K.nodup⟩
theorem mod_map {l : List Row} {v : Value} : ∀ {j : Nat}, (l.map (·.1)).Nodup → (l.map (·.1))[j]? = some k → (l.map (ent w)).modify j (fun e => { e with val := v }) = (l.map fun x => if x.1 = k then (x.1, x.2.1, v) else x).map (ent w) := by
  intro j hn hj
  apply List.ext_getElem?
  intro i
  rw [List.getElem?_modify, List.getElem?_map, List.getElem?_map, List.getElem?_map]
  cases e : l[i]? with
  | none => simp
  | some x =>
    simp only [Option.map_some]
    have hi : (l.map (·.1))[i]? = some x.1 := by rw [List.getElem?_map, e]; rfl
    by_cases hij : j = i
    · subst hij
      rw [hj] at hi; have hk : x.1 = k := (Option.some.inj hi).symm
      rw [if_pos hk]; show some (if j = j then _ else _) = _; rw [if_pos rfl]; rfl
    · have hk : ¬ x.1 = k := fun z => hij ((List.getElem?_inj (List.getElem?_eq_some_iff.mp hj).1 hn).mp (by rw [hj, hi, z]))
      rw [if_neg hk]; show some (if j = i then _ else _) = _; rw [if_neg hij]
theorem same_seq {d : Addr} {o : Obj} {es : Array DictEntry} {ep : Nat} (ho : h.get? d = some o) (hd : o.data = .dict es ep) (hs : Heap.SameBut d h h') : ∀ a o vs n, h.get? a = some o → o.data = .seq vs n → h'.get? a = some o := fun a ob vs n e1 e2 => by
  refine (hs.2 a fun z => ?_).trans e1
  subst z; rw [ho] at e1; cases e1; rw [hd] at e2; cases e2
theorem set {d : Addr} {l : List Row} {v : Value} {Q : Unit → Shared → Prop} (hu : A.units + 8 < cLine) (hk : NestedIs s.heap k key) (hdp : k.depth ≤ 8) (D : DV w s.heap d l) (K : Ks s.heap l) (hz : l.length ≤ sizeLine)
    (hQ : ∀ h' tk, DV w h' d (putL l k key v) → Ks h' (putL l k key v) → Heap.SameBut d s.heap h' → Q () { s with heap := h', toks := tk }) : wpAny (model prog w) A (dictSet d key v) Q E s := by
  obtain ⟨o, es, ep, ho, hc, hd, he⟩ := D
  have T := tb_of he K
  have hsz : es.size ≤ sizeLine := by rw [T.size, List.length_map]; exact hz
  unfold dictSet; try with_reducible refine wpAny_holding ?_
  refine wpAny_bind (pyHash_key k key A s _ hk (by omega) ?_)
  unfold dictSetHashed; try with_reducible refine wpAny_holding ?_
  refine wpAny_bind (find (s := { s with toks := s.toks + k.draws }) hu hk hdp ho hd (tb_of he K) ?_ ?_)
  · intro j hj
    refine wpAny_bind (wpAny_rule (wpAny_bind (wpAny_updateDict (s := { s with toks := s.toks + k.draws }) ho hd (wpAny_point ?_))))
    have hm : k ∈ l.map (·.1) := List.mem_iff_getElem?.mpr ⟨j, hj⟩
    refine hQ _ _ ⟨_, _, ep, Heap.get?_update_self _ ho (Obj.isFreed_of_dict (Obj.data_mapDict hd _)), hc.mapDict _, Obj.data_mapDict hd _, ?_⟩ ((K.put hk hdp v).at (same_seq ho hd (Heap.SameBut.update ..))) (Heap.SameBut.update ..)
    unfold putL; rw [if_pos hm, ← mod_map K.nodup hj, ← he]
    obtain ⟨li⟩ := es
    simp
  · intro hn
    refine wpAny_bind (wpAny_rule (wpAny_updateDictKeys (hz := hsz) (s := { s with toks := s.toks + k.draws }) ho hd ?_))
    refine hQ _ _ ⟨_, _, ep + 1, Heap.get?_update_self _ ho (Obj.isFreed_of_dict (Obj.data_mapDictKeys hd _)), hc.mapDictKeys _, Obj.data_mapDictKeys hd _, ?_⟩ ((K.put hk hdp v).at (same_seq ho hd (Heap.SameBut.update ..))) (Heap.SameBut.update ..)
    unfold putL; rw [if_neg hn]; simp [he, ent]
theorem getL_of {l : List Row} {j : Nat} {x : Row} (hn : (l.map (·.1)).Nodup) (hj : l[j]? = some x) : getL l x.1 = some x.2.2 := by
  unfold getL
  have : (l.find? fun y => decide (y.1 = x.1)) = some x := by
    induction l generalizing j with
    | nil => simp at hj
    | cons y r ih =>
      rw [List.map_cons, List.nodup_cons] at hn
      cases j with
      | zero => simp at hj; subst hj; simp
      | succ j =>
        simp only [List.getElem?_cons_succ] at hj
        have hne : ¬ y.1 = x.1 := fun e => hn.1 (by rw [e]; exact List.mem_map.mpr ⟨x, List.mem_of_getElem? hj, rfl⟩)
        rw [List.find?_cons, decide_eq_false hne]; exact ih hn.2 hj
  rw [this]; rfl
theorem getL_none {l : List Row} (hn : k ∉ l.map (·.1)) : getL l k = none := by
  unfold getL
  rw [List.find?_eq_none.mpr fun x hx hk => hn (List.mem_map.mpr ⟨x, hx, of_decide_eq_true hk⟩)]; rfl
theorem get {d : Addr} {l : List Row} {Q : Option Value → Shared → Prop} (hu : A.units + 8 < cLine) (hk : NestedIs s.heap k key) (hdp : k.depth ≤ 8) (D : DV w s.heap d l) (K : Ks s.heap l)
    (hQ : Q (getL l k) { s with toks := s.toks + k.draws }) : wpAny (model prog w) A (dictGet d key) Q E s := by
  obtain ⟨o, es, ep, ho, hc, hd, he⟩ := D
  unfold dictGet; try with_reducible refine wpAny_holding ?_
  refine wpAny_bind (pyHash_key k key A s _ hk (by omega) (wpAny_bind (find (s := { s with toks := s.toks + k.draws }) hu hk hdp ho hd (tb_of he K) ?_ ?_)))
  · intro j hj
    refine wpAny_bind (wpAny_dictEntries (s := { s with toks := s.toks + k.draws }) ho hd (wpAny_pure ?_))
    obtain ⟨x, hx, ex⟩ : ∃ x, l[j]? = some x ∧ x.1 = k := by rw [List.getElem?_map] at hj; cases e : l[j]? with
      | none => rw [e] at hj; cases hj
      | some x => rw [e] at hj; exact ⟨x, rfl, Option.some.inj hj⟩
    have e2 : es[j]? = some (ent w x) := by rw [← Array.getElem?_toList, he, List.getElem?_map, hx]; rfl
    rw [e2]; rw [← ex, getL_of K.nodup hx, ex] at hQ; exact hQ
  · intro hn
    rw [getL_none hn] at hQ; exact wpAny_pure hQ
end
end Mx

set_option Elab.async false
set_option linter.all false
set_option maxRecDepth 100000
set_option maxHeartbeats 4000000
/-! Dat0: data in the heap, the state by data alone. -/
namespace Dat
open PySem PySem.Spec PyProof.Rows L2

/-- a dict of keys of any kinds: of each entry its hash, its key, its value -/
def MxOf (o : Obj) (l : List (Int × V × V)) : Prop := ∃ es ep, o.ExactDict ∧ o.data = .dict es ep ∧ Paired (fun (e : DictEntry) (x : Int × V × V) => e.hash = x.1 ∧ RelV x.2.1 e.key ∧ RelV x.2.2 e.val) es.toList l
def mxo (a : Addr) (o : Obj) (l : List (Int × V × V)) : HO := .ext fun h => h.get? a = some o ∧ MxOf o l ∧ l.length ≤ sizeLine ∧ (a == sysModules) = false
def Ex (H H' : Hp) : Prop := ∀ a o, H a = some o → H' a = some o
theorem Ex.refl (H : Hp) : Ex H H := fun _ _ h => h
theorem Ex.trans {H H1 H2 : Hp} (a : Ex H H1) (b : Ex H1 H2) : Ex H H2 := fun x o h => b x o (a x o h)
theorem Ex.none {H H' : Hp} (e : Ex H H') {p : Addr} (h : H' p = Option.none) : H p = Option.none := by
  cases q : H p with
  | none => rfl
  | some o => rw [e p o q] at h; cases h
theorem Ex.new {H : Hp} {p : Addr} {o : HO} (h : H p = Option.none) : Ex H (upd H p o) := fun a u e => by
  rw [upd_ne (ne_of_none e h)]; exact e
/-- an object that H does not know may change -/
theorem Ex.mut {H H' : Hp} {p : Addr} {o : HO} (e : Ex H H') (h : H p = Option.none) : Ex H (upd H' p o) := fun a u ha => by
  rw [upd_ne (ne_of_none ha h)]; exact e a u ha
theorem Ex.both {H H' : Hp} {p : Addr} {o : HO} (e : Ex H H') : Ex (upd H p o) (upd H' p o) := fun a u ha => by
  by_cases h : a = p
  · subst h; rw [upd_same] at ha ⊢; exact ha
  · rw [upd_ne h] at ha ⊢; exact e a u ha

/-- data: what a value is, whatever address it has -/
inductive Dt where
  | non | bl (b : Bool) | int (i : Int) | str (x : Str) | lst (xs : List Dt) | tup (xs : List Dt) | dic (ks vs : List Dt) | obj (C : Addr) (ns : List Str) (vs : List Dt) | mix (hs : List Int) (ks vs : List Dt) | err (C : Addr) (ns : List Str) (vs : List Dt)

def keyD : Key → Dt
  | .inl i => .int i
  | .inr x => .str x

mutual
inductive Dq (H : Hp) : V → Dt → Prop
  | non : Dq H .non .non
  | bl (b : Bool) : Dq H (.bl b) (.bl b)
  | int (i : Int) : Dq H (.int i) (.int i)
  | str (x : Str) : Dq H (.str x) (.str x)
  | lst {a : Addr} {xs : List V} {ds : List Dt} : H a = some (.lst xs) → DqA H xs ds → Dq H (.ref a) (.lst ds)
  | tup {a : Addr} {xs : List V} {ds : List Dt} : H a = some (.tup xs) → DqA H xs ds → Dq H (.ref a) (.tup ds)
  | dic {a : Addr} {kvs : List (Key × V)} {ds : List Dt} : H a = some (.dK kvs) → DqA H (kvs.map (·.2)) ds → Dq H (.ref a) (.dic (kvs.map fun kv => keyD kv.1) ds)
  | obj {a C dx : Addr} {fs : List (Str × V)} {ds : List Dt} : H a = some (.ins C dx fs) → DqA H (fs.map (·.2)) ds → Dq H (.ref a) (.obj C (fs.map (·.1)) ds)
  | err {a C dx : Addr} {fs : List (Str × V)} {ds : List Dt} : H a = some (exo a C (some dx)) → H dx = some (exd dx fs) → DqA H (fs.map (·.2)) ds → Dq H (.ref a) (.err C (fs.map (·.1)) ds)
  | mix {a : Addr} {o : Obj} {l : List (Int × V × V)} {ks vs : List Dt} : H a = some (mxo a o l) → DqA H (l.map (·.2.1)) ks → DqA H (l.map (·.2.2)) vs → Dq H (.ref a) (.mix (l.map (·.1)) ks vs)
  | err0 {a C : Addr} : H a = some (exo a C none) → Dq H (.ref a) (.err C [] [])
inductive DqA (H : Hp) : List V → List Dt → Prop
  | nil : DqA H [] []
  | cons {v : V} {vs : List V} {d : Dt} {ds : List Dt} : Dq H v d → DqA H vs ds → DqA H (v :: vs) (d :: ds)
end

mutual
theorem Dq.mono {H H' : Hp} (e : Ex H H') : ∀ {v : V} {d : Dt}, Dq H v d → Dq H' v d
  | _, _, .non => .non
  | _, _, .bl b => .bl b
  | _, _, .int i => .int i
  | _, _, .str x => .str x
  | _, _, .lst h q => .lst (e _ _ h) (DqA.mono e q)
  | _, _, .tup h q => .tup (e _ _ h) (DqA.mono e q)
  | _, _, .dic h q => .dic (e _ _ h) (DqA.mono e q)
  | _, _, .obj h q => .obj (e _ _ h) (DqA.mono e q)
  | _, _, .err h k q => .err (e _ _ h) (e _ _ k) (DqA.mono e q)
  | _, _, .mix h q r => .mix (e _ _ h) (DqA.mono e q) (DqA.mono e r)
  | _, _, .err0 h => .err0 (e _ _ h)
theorem DqA.mono {H H' : Hp} (e : Ex H H') : ∀ {vs : List V} {ds : List Dt}, DqA H vs ds → DqA H' vs ds
  | _, _, .nil => .nil
  | _, _, .cons h q => .cons (Dq.mono e h) (DqA.mono e q)
end

section
variable {H : Hp}
theorem DqA.length : ∀ {vs : List V} {ds : List Dt}, DqA H vs ds → vs.length = ds.length
  | _, _, .nil => rfl
  | _, _, .cons _ q => by rw [List.length_cons, List.length_cons, DqA.length q]
theorem DqA.get : ∀ {vs : List V} {ds : List Dt} {i : Nat} {d : Dt}, DqA H vs ds → ds[i]? = some d → ∃ v, vs[i]? = some v ∧ Dq H v d
  | _, _, _, _, .nil, e => by simp at e
  | _, _, 0, _, .cons h _, e => by simp at e; subst e; exact ⟨_, rfl, h⟩
  | _, _, i + 1, d, .cons _ q, e => by
    obtain ⟨v, h1, h2⟩ := DqA.get (i := i) (d := d) q (by simpa using e)
    exact ⟨v, by simpa using h1, h2⟩
theorem DqA.getV : ∀ {vs : List V} {ds : List Dt} {i : Nat} {v : V}, DqA H vs ds → vs[i]? = some v → ∃ d, ds[i]? = some d ∧ Dq H v d
  | _, _, _, _, .nil, e => by simp at e
  | _, _, 0, _, .cons h _, e => by simp at e; subst e; exact ⟨_, rfl, h⟩
  | _, _, i + 1, d, .cons _ q, e => by
    obtain ⟨v, h1, h2⟩ := DqA.getV (i := i) (v := d) q (by simpa using e)
    exact ⟨v, by simpa using h1, h2⟩
theorem DqA.append : ∀ {vs ws : List V} {ds es : List Dt}, DqA H vs ds → DqA H ws es → DqA H (vs ++ ws) (ds ++ es)
  | _, _, _, _, .nil, s => s
  | _, _, _, _, .cons h q, s => .cons h (DqA.append q s)
theorem DqA.take : ∀ {vs : List V} {ds : List Dt} (n : Nat), DqA H vs ds → DqA H (vs.take n) (ds.take n)
  | _, _, 0, _ => .nil
  | _, _, _ + 1, .nil => .nil
  | _, _, n + 1, .cons h q => .cons h (DqA.take n q)
theorem DqA.drop : ∀ {vs : List V} {ds : List Dt} (n : Nat), DqA H vs ds → DqA H (vs.drop n) (ds.drop n)
  | _, _, 0, q => q
  | _, _, _ + 1, .nil => .nil
  | _, _, n + 1, .cons _ q => DqA.drop n q
theorem DqA.one {v : V} {d : Dt} (h : Dq H v d) : DqA H [v] [d] := .cons h .nil
theorem DqA.snoc {vs : List V} {ds : List Dt} {v : V} {d : Dt} (q : DqA H vs ds) (h : Dq H v d) : DqA H (vs ++ [v]) (ds ++ [d]) := q.append (.one h)
theorem DqA.ints : ∀ {vs : List V} {ns : List Int}, DqA H vs (ns.map Dt.int) → vs = ns.map V.int
  | _, [], .nil => rfl
  | _, n :: ns, .cons h q => by cases h; rw [DqA.ints q]; rfl
theorem DqA.bls : ∀ {vs : List V} {ns : List Bool}, DqA H vs (ns.map Dt.bl) → vs = ns.map V.bl
  | _, [], .nil => rfl
  | _, n :: ns, .cons h q => by cases h; rw [DqA.bls q]; rfl
theorem DqA.strs : ∀ {vs : List V} {ns : List Str}, DqA H vs (ns.map Dt.str) → vs = ns.map V.str
  | _, [], .nil => rfl
  | _, n :: ns, .cons h q => by cases h; rw [DqA.strs q]; rfl
theorem DqA.ofInts : ∀ (ns : List Int), DqA H (ns.map V.int) (ns.map Dt.int)
  | [] => .nil
  | n :: ns => .cons (.int n) (DqA.ofInts ns)
theorem DqA.ofStrs : ∀ (ns : List Str), DqA H (ns.map V.str) (ns.map Dt.str)
  | [] => .nil
  | n :: ns => .cons (.str n) (DqA.ofStrs ns)
end

/-! ### what a slot holds, what changes -/
/-- unknown; data; an object that may change, by its address -/
inductive SV where
  | no | dat (d : Dt) | at (p : Addr) | ty (n : String) | sc (K : PySem.W.Frag) (a : Addr) (ns : List Int) | tys (ns : List String) | tvs (xs : List V) | exc (a dx : Addr) (ns : List Str) (ds : List Dt)
/-- what is known of an object that may change: the law's pot of draws; a list of data; a dict -/
inductive MO where
  | pot | lst (ds : List Dt) | dic (ks : List Key) (vs : List Dt) | ins (C : Addr) (ns : List Str) (vs : List Dt) | mix (hs : List Int) (ks vs : List Dt)
abbrev Mus := Addr → Option MO
def Mus.put (μ : Mus) (p : Addr) (o : MO) : Mus := fun q => if q = p then some o else μ q
theorem put_same {μ : Mus} {p : Addr} {o : MO} : μ.put p o p = some o := by unfold Mus.put; rw [if_pos rfl]
theorem put_ne {μ : Mus} {p q : Addr} {o : MO} (h : q ≠ p) : μ.put p o q = μ q := by unfold Mus.put; rw [if_neg h]
theorem put_put {μ : Mus} {p : Addr} {o o' : MO} : (μ.put p o).put p o' = μ.put p o' := by
  funext q; unfold Mus.put; split <;> rfl
theorem put_self {μ : Mus} {p : Addr} {o : MO} (h : μ p = some o) : μ.put p o = μ := by
  funext q; unfold Mus.put; split
  · rename_i e; rw [e, h]
  · rfl
def Mus.Sub (μ ν : Mus) : Prop := ∀ p o, μ p = some o → ν p = some o
theorem Mus.Sub.refl (μ : Mus) : μ.Sub μ := fun _ _ h => h
theorem Mus.Sub.trans {μ ν ξ : Mus} (a : μ.Sub ν) (b : ν.Sub ξ) : μ.Sub ξ := fun p o h => b p o (a p o h)
theorem Mus.Sub.put {μ ν : Mus} {p : Addr} {o : MO} (h : μ.Sub ν) (hp : μ p = none) : μ.Sub (ν.put p o) := fun q u e => by
  rw [put_ne (fun z => by rw [z, hp] at e; cases e)]; exact h q u e

def MoOk (B H : Hp) (p : Addr) : MO → Prop
  | .pot => ∃ a b : Int, 0 ≤ a ∧ 0 ≤ b ∧ b < 4294967296 ∧ H p = some (.lst [.int a, .int b])
  | .lst ds => ∃ xs, H p = some (.lst xs) ∧ DqA B xs ds
  | .dic ks vs => ∃ kvs : List (Key × V), H p = some (.dK kvs) ∧ kvs.map (·.1) = ks ∧ DqA B (kvs.map (·.2)) vs
  | .ins C ns vs => ∃ (dx : Addr) (fs : List (Str × V)), H p = some (.ins C dx fs) ∧ fs.map (·.1) = ns ∧ DqA B (fs.map (·.2)) vs
  | .mix hs ks vs => ∃ (o : Obj) (l : List (Int × V × V)), H p = some (mxo p o l) ∧ l.map (·.1) = hs ∧ DqA B (l.map (·.2.1)) ks ∧ DqA B (l.map (·.2.2)) vs
theorem MoOk.mono {B B' H H' : Hp} {p : Addr} {o : MO} (h : MoOk B H p o) (e : Ex B B') (k : H' p = H p) : MoOk B' H' p o := by
  cases o with
  | pot => obtain ⟨a, b, h1, h2, h3, h4⟩ := h; exact ⟨a, b, h1, h2, h3, by rw [k]; exact h4⟩
  | lst ds => obtain ⟨xs, h1, h2⟩ := h; exact ⟨xs, by rw [k]; exact h1, h2.mono e⟩
  | dic ks vs => obtain ⟨kvs, h1, h2, h3⟩ := h; exact ⟨kvs, by rw [k]; exact h1, h2, h3.mono e⟩
  | ins C ns vs => obtain ⟨dx, fs, h1, h2, h3⟩ := h; exact ⟨dx, fs, by rw [k]; exact h1, h2, h3.mono e⟩
  | mix hs ks vs => obtain ⟨o, l, h1, h2, h3, h4⟩ := h; exact ⟨o, l, by rw [k]; exact h1, h2, h3.mono e, h4.mono e⟩
theorem MoOk.there {B H : Hp} {p : Addr} {o : MO} (h : MoOk B H p o) : H p ≠ none := by
  cases o with
  | pot => obtain ⟨a, b, _, _, _, h4⟩ := h; rw [h4]; exact nofun
  | lst ds => obtain ⟨xs, h1, _⟩ := h; rw [h1]; exact nofun
  | dic ks vs => obtain ⟨kvs, h1, _⟩ := h; rw [h1]; exact nofun
  | ins C ns vs => obtain ⟨dx, fs, h1, _⟩ := h; rw [h1]; exact nofun
  | mix hs ks vs => obtain ⟨o, l, h1, _⟩ := h; rw [h1]; exact nofun

/-- a def's entry: what of data was known, the heap, which objects it may change -/
structure Wd where
  B : Hp
  H : Hp
  M : Addr → Prop
structure SInv (w : Wd) (B H : Hp) (μ : Mus) : Prop where
  b0 : Ex w.B B
  bh : Ex B H
  keep : ∀ q o, ¬ w.M q → w.H q = some o → H q = some o
  there : ∀ q, w.H q ≠ none → H q ≠ none
  out : ∀ q, w.H q ≠ none → w.B q = none → B q = none
  mus : ∀ p o, μ p = some o → B p = none ∧ MoOk B H p o ∧ (w.M p ∨ w.H p = none)

section
variable {w : Wd} {B H : Hp} {μ : Mus} {p : Addr} {o : HO}
theorem SInv.free (I : SInv w B H μ) (hp : H p = none) : B p = none ∧ μ p = none ∧ w.H p = none := by
  refine ⟨I.bh.none hp, ?_, ?_⟩
  · cases e : μ p with
    | none => rfl
    | some o => exact absurd hp (I.mus p o e).2.1.there
  · cases e : w.H p with
    | none => rfl
    | some o => exact absurd hp (I.there p (by rw [e]; exact nofun))
/-- new data -/
theorem SInv.new (I : SInv w B H μ) (hp : H p = none) (o : HO) : SInv w (upd B p o) (upd H p o) μ := by
  obtain ⟨hb, hm, hw⟩ := I.free hp
  have ne : ∀ q, H q ≠ none → q ≠ p := fun q h e => h (e ▸ hp)
  refine ⟨I.b0.mut (I.b0.none hb), I.bh.both, fun q u hM hq => ?_, fun q hq => ?_, fun q hq hB => ?_, fun q u hq => ?_⟩
  · rw [upd_ne (ne q (I.there q (by rw [hq]; exact nofun)))]; exact I.keep q u hM hq
  · rw [upd_ne (ne q (I.there q hq))]; exact I.there q hq
  · rw [upd_ne (ne q (I.there q hq))]; exact I.out q hq hB
  · obtain ⟨h1, h2, h3⟩ := I.mus q u hq
    have hne := ne q h2.there
    exact ⟨by rw [upd_ne hne]; exact h1, h2.mono (Ex.new hb) (upd_ne hne), h3⟩
/-- a new object that may change -/
theorem SInv.newM (I : SInv w B H μ) (hp : H p = none) (m : MO) (h : MoOk B (upd H p o) p m) : SInv w B (upd H p o) (μ.put p m) := by
  obtain ⟨hb, hm, hw⟩ := I.free hp
  have ne : ∀ q, H q ≠ none → q ≠ p := fun q h e => h (e ▸ hp)
  refine ⟨I.b0, I.bh.mut hb, fun q u hM hq => ?_, fun q hq => ?_, I.out, fun q u hq => ?_⟩
  · rw [upd_ne (ne q (I.there q (by rw [hq]; exact nofun)))]; exact I.keep q u hM hq
  · rw [upd_ne (ne q (I.there q hq))]; exact I.there q hq
  · by_cases e : q = p
    · subst e
      rw [put_same] at hq
      cases hq
      exact ⟨hb, h, .inr hw⟩
    · rw [put_ne e] at hq
      obtain ⟨h1, h2, h3⟩ := I.mus q u hq
      exact ⟨h1, h2.mono (Ex.refl B) (upd_ne e), h3⟩
/-- it changes -/
theorem SInv.set (I : SInv w B H μ) {m0 : MO} (hm : μ p = some m0) (m : MO) (h : MoOk B (upd H p o) p m) : SInv w B (upd H p o) (μ.put p m) := by
  obtain ⟨hb, h0, hw⟩ := I.mus p m0 hm
  have nw : ∀ q u, ¬ w.M q → w.H q = some u → q ≠ p := fun q u hM hq e => by
    subst e
    rcases hw with k | k
    · exact hM k
    · rw [k] at hq; cases hq
  refine ⟨I.b0, I.bh.mut hb, fun q u hM hq => ?_, fun q hq => ?_, I.out, fun q u hq => ?_⟩
  · rw [upd_ne (nw q u hM hq)]; exact I.keep q u hM hq
  · by_cases e : q = p
    · subst e; rw [upd_same]; exact nofun
    · rw [upd_ne e]; exact I.there q hq
  · by_cases e : q = p
    · subst e
      rw [put_same] at hq
      cases hq
      exact ⟨hb, h, hw⟩
    · rw [put_ne e] at hq
      obtain ⟨h1, h2, h3⟩ := I.mus q u hq
      exact ⟨h1, h2.mono (Ex.refl B) (upd_ne e), h3⟩
theorem SInv.sub (I : SInv w B H μ) {ν : Mus} (s : ν.Sub μ) : SInv w B H ν := ⟨I.b0, I.bh, I.keep, I.there, I.out, fun p o h => I.mus p o (s p o h)⟩
/-- an own list becomes data -/
theorem SInv.freeze (I : SInv w B H μ) {ds : List Dt} {ν : Mus} (hm : μ p = some (.lst ds)) (hw : w.H p = none) (s : ν.Sub μ) (hn : ν p = none) :
    ∃ B', SInv w B' H ν ∧ Ex B B' ∧ Dq B' (.ref p) (.lst ds) := by
  obtain ⟨hb, ⟨xs, h1, h2⟩, _⟩ := I.mus p _ hm
  refine ⟨upd B p (.lst xs), ⟨I.b0.mut (I.b0.none hb), fun q u hq => ?_, I.keep, I.there, fun q hq hB => ?_, fun q u hq => ?_⟩, Ex.new hb, .lst upd_same (h2.mono (Ex.new hb))⟩
  · by_cases e : q = p
    · subst e; rw [upd_same] at hq; cases hq; exact h1
    · rw [upd_ne e] at hq; exact I.bh q u hq
  · rw [upd_ne (fun e => hq (by rw [e]; exact hw))]; exact I.out q hq hB
  · have e : q ≠ p := fun z => by rw [z, hn] at hq; cases hq
    obtain ⟨h1, h2, h3⟩ := I.mus q u (s q u hq)
    exact ⟨by rw [upd_ne e]; exact h1, h2.mono (Ex.new hb) rfl, h3⟩
/-- an own object becomes data -/
theorem SInv.freezeI (I : SInv w B H μ) {C : Addr} {ns : List Str} {ds : List Dt} {ν : Mus} (hm : μ p = some (.ins C ns ds)) (hw : w.H p = none) (s : ν.Sub μ) (hn : ν p = none) :
    ∃ B', SInv w B' H ν ∧ Ex B B' ∧ Dq B' (.ref p) (.obj C ns ds) := by
  obtain ⟨hb, ⟨dx, fs, h1, rfl, h2⟩, _⟩ := I.mus p _ hm
  refine ⟨upd B p (.ins C dx fs), ⟨I.b0.mut (I.b0.none hb), fun q u hq => ?_, I.keep, I.there, fun q hq hB => ?_, fun q u hq => ?_⟩, Ex.new hb, .obj upd_same (h2.mono (Ex.new hb))⟩
  · by_cases e : q = p
    · subst e; rw [upd_same] at hq; cases hq; exact h1
    · rw [upd_ne e] at hq; exact I.bh q u hq
  · rw [upd_ne (fun e => hq (by rw [e]; exact hw))]; exact I.out q hq hB
  · have e : q ≠ p := fun z => by rw [z, hn] at hq; cases hq
    obtain ⟨h1, h2, h3⟩ := I.mus q u (s q u hq)
    exact ⟨by rw [upd_ne e]; exact h1, h2.mono (Ex.new hb) rfl, h3⟩
/-- behind a call: from the callee's world to the caller's -/
theorem SInv.back (I : SInv w B H μ) {B' H' : Hp} {μ' : Mus} (J : SInv ⟨B, H, fun p => μ p ≠ none⟩ B' H' μ') : SInv w B' H' μ' := by
  refine ⟨I.b0.trans J.b0, J.bh, fun q u hM hq => ?_, fun q hq => J.there q (I.there q hq), fun q hq hB => J.out q (I.there q hq) (I.out q hq hB), fun q u hq => ?_⟩
  · refine J.keep q u (fun z => ?_) (I.keep q u hM hq)
    cases e : μ q with
    | none => exact z e
    | some m =>
      rcases (I.mus q m e).2.2 with k | k
      · exact hM k
      · rw [k] at hq; cases hq
  · obtain ⟨h1, h2, h3⟩ := J.mus q u hq
    refine ⟨h1, h2, ?_⟩
    rcases h3 with k | k
    · cases e : μ q with
      | none => exact absurd e k
      | some m => exact (I.mus q m e).2.2
    · refine .inr ?_
      cases e : w.H q with
      | none => rfl
      | some o => exact absurd k (I.there q (by rw [e]; exact nofun))
theorem SInv.start {B H : Hp} {μ : Mus} (e : Ex B H) (h : ∀ p o, μ p = some o → B p = none ∧ MoOk B H p o) : SInv ⟨B, H, fun p => μ p ≠ none⟩ B H μ :=
  ⟨Ex.refl B, e, fun _ _ _ h => h, fun _ h => h, fun _ _ h => h, fun p o q => ⟨(h p o q).1, (h p o q).2, .inl (show μ p ≠ none by rw [q]; exact nofun)⟩⟩
end

/-- the dict of an error that was raised: its fields -/
def ErrAt (B : Hp) (dx : Addr) (ns : List Str) (ds : List Dt) : Prop := ∃ fs : List (Str × V), B dx = some (.xd fs) ∧ fs.map (·.1) = ns ∧ DqA B (fs.map (·.2)) ds
theorem ErrAt.mono {B B' : Hp} {dx : Addr} {ns : List Str} {ds : List Dt} (e : Ex B B') (h : ErrAt B dx ns ds) : ErrAt B' dx ns ds := h.elim fun fs z => ⟨fs, e _ _ z.1, z.2.1, z.2.2.mono e⟩
def Svq (B : Hp) (v : V) : SV → Prop
  | .no => True
  | .dat d => Dq B v d
  | .at p => v = .ref p
  | .ty n => v = .ty n
  | .sc K a ns => v = .ref a ∧ SqL K B a (ns.map V.int)
  | .tys ns => ∃ a, v = .ref a ∧ B a = some (.tup (ns.map V.ty))
  | .tvs xs => ∃ a, v = .ref a ∧ B a = some (.tup xs)
  | .exc a dx ns ds => v = .ref a ∧ ErrAt B dx ns ds
theorem Svq.mono {B B' : Hp} {v : V} {r : SV} (e : Ex B B') (h : Svq B v r) : Svq B' v r := by
  cases r with
  | no => trivial
  | dat d => exact Dq.mono e h
  | «at» p => exact h
  | ty n => exact h
  | sc K a ns => exact ⟨h.1, h.2.elim (fun z => .inl (z.elim (fun q => .inl (e _ _ q)) fun ⟨c, q⟩ => .inr ⟨c, e _ _ q⟩)) .inr⟩
  | tys ns => exact h.elim fun a z => ⟨a, z.1, e _ _ z.2⟩
  | tvs xs => exact h.elim fun a z => ⟨a, z.1, e _ _ z.2⟩
  | exc a dx ns ds => exact ⟨h.1, h.2.mono e⟩
inductive SvA (B : Hp) : List V → List SV → Prop
  | nil : SvA B [] []
  | cons {v : V} {vs : List V} {r : SV} {rs : List SV} : Svq B v r → SvA B vs rs → SvA B (v :: vs) (r :: rs)
theorem SvA.mono {B B' : Hp} (e : Ex B B') : ∀ {vs : List V} {rs : List SV}, SvA B vs rs → SvA B' vs rs
  | _, _, .nil => .nil
  | _, _, .cons h q => .cons (h.mono e) (SvA.mono e q)
theorem SvA.length {B : Hp} : ∀ {vs : List V} {rs : List SV}, SvA B vs rs → vs.length = rs.length
  | _, _, .nil => rfl
  | _, _, .cons _ q => by rw [List.length_cons, List.length_cons, SvA.length q]

/-- the slots, by what they hold -/
structure Sto (B : Hp) (σ : L2.St) (ρ : List SV) : Prop where
  len : σ.length = ρ.length
  get : ∀ (i : Nat) (r : SV), ρ[i]? = some r → r = .no ∨ ∃ v, σ[i]? = some (some v) ∧ Svq B v r
theorem Sto.mono {B B' : Hp} {σ : L2.St} {ρ : List SV} (e : Ex B B') (S : Sto B σ ρ) : Sto B' σ ρ := ⟨S.len, fun i r h => by
  rcases S.get i r h with q | ⟨v, h1, h2⟩
  · exact .inl q
  · exact .inr ⟨v, h1, h2.mono e⟩⟩
theorem Sto.set {B : Hp} {σ : L2.St} {ρ : List SV} (S : Sto B σ ρ) (i : Nat) {v : V} {r : SV} (h : Svq B v r) : Sto B (σ.set i (some v)) (ρ.set i r) := ⟨by rw [List.length_set, List.length_set, S.len], fun j u hj => by
  by_cases e : i = j
  · subst e
    by_cases hl : i < ρ.length
    · rw [List.getElem?_set_self hl] at hj
      cases hj
      exact .inr ⟨v, by rw [List.getElem?_set_self (by rw [S.len]; exact hl)], h⟩
    · rw [List.getElem?_eq_none (by rw [List.length_set]; omega)] at hj
      cases hj
  · rw [List.getElem?_set_ne e] at hj ⊢
    exact S.get j u hj⟩
theorem Sto.wipe {B : Hp} {σ : L2.St} {ρ : List SV} (S : Sto B σ ρ) : ∀ (vs : List Nat) (ρ' : List SV), ρ'.length = ρ.length → (∀ (i : Nat) r, ρ'[i]? = some r → r = .no ∨ (i ∉ vs ∧ ρ[i]? = some r)) → Sto B (L2.wipe σ vs) ρ' := fun vs ρ' hl h => by
  refine ⟨by rw [wipe_length, S.len, hl], fun i r hi => ?_⟩
  rcases h i r hi with e | ⟨hn, e⟩
  · exact .inl e
  · rcases S.get i r e with e | ⟨v, h1, h2⟩
    · exact .inl e
    · refine .inr ⟨v, ?_, h2⟩
      clear hi h e
      induction vs with
      | nil => exact h1
      | cons x xs ih =>
        unfold L2.wipe
        rw [List.getElem?_set_ne (fun z => hn (by rw [← z]; exact List.mem_cons_self))]
        exact ih fun z => hn (List.mem_cons_of_mem _ z)
end Dat

set_option Elab.async false
set_option linter.all false
set_option maxRecDepth 100000
set_option maxHeartbeats 4000000
/-! Dat1: the judgements over data, and the rules that follow the text. -/
namespace Dat
open PySem PySem.Spec PyProof.Rows L2

/-! ### what is meant, with no reading given -/
def tE (X : Cx) (e : Expr) : TE := fun σ H Q => ∀ pins s, Inv X pins σ H s → wpAny (model X.prog X.w) X.A (eval e X.env) (EP X pins σ Q) X.xe s
def tT (X : Cx) (e : Expr) : TT := fun σ H Q => ∀ pins s, Inv X pins σ H s → wpAny (model X.prog X.w) X.A (isTrue e X.env (eval e X.env)) (TP X pins σ Q) X.xe s
def tW (X : Cx) (e : Expr) : TT := fun σ H Q => ∀ (whole : Sem Value) pins s, Inv X pins σ H s → wpAny (model X.prog X.w) X.A (isTrue e X.env whole) (TP X pins σ Q) X.xe s
def tL (X : Cx) (es : List Expr) : TA := fun σ H Q => ∀ (pos : Pos) pins s, Inv X pins σ H s → wpAny (model X.prog X.w) X.A (spliced (backTo pos (starEach es X.env))) (AP X pins σ Q) X.xe s
def tS (X : Cx) (st : Stmt) : TS := fun D σ H => ∀ pins s, Inv X pins σ H s → wpAny (model X.prog X.w) X.A (exec st X.env) (SP X pins D) X.xe s
def tB_ (X : Cx) (sts : List Stmt) : TS := fun D σ H => ∀ pins s, Inv X pins σ H s → wpAny (model X.prog X.w) X.A (execs sts X.env) (SP X pins D) X.xe s
def tG (X : Cx) (tg : Expr) : TG := fun v σ H Q => ∀ pins s u, Inv X pins σ H s → RelV v u → wpAny (model X.prog X.w) X.A (assign tg X.env u) (fun _ s' => ∃ σ' H', Inv X pins σ' H' s' ∧ Q σ' H') X.xe s
def tI (X : Cx) (tg e : Expr) : TI := fun σ H R => ∀ pins s, Inv X pins σ H s → wpAny (model X.prog X.w) X.A (eval e X.env) (fun v s1 => wpAny (model X.prog X.w) X.A (pyIter v) (PIE X pins σ tg R) X.xe s1) X.xe s
def tP (X : Cx) (e : Option Expr) : TO := fun σ H Q => ∀ pins s, Inv X pins σ H s → wpAny (model X.prog X.w) X.A (evalPart e X.env) (fun u s' => ∃ o H', Inv X pins σ H' s' ∧ IsPart u o ∧ Q o H') X.xe s
def sO (X : Cx) (f : Value → Value → Sem Value) : R2 := fun x y H Q => ∀ pins s σ v u, Inv X pins σ H s → RelV x v → RelV y u → wpAny (model X.prog X.w) X.A (f v u) (EP X pins σ Q) X.xe s
def sU (X : Cx) (f : Value → Sem Value) : V → Hp → VK → Prop := fun x H Q => ∀ pins s σ v, Inv X pins σ H s → RelV x v → wpAny (model X.prog X.w) X.A (f v) (EP X pins σ Q) X.xe s
def sC (X : Cx) (f : Value) : List V → Hp → VK → Prop := fun xs H Q => ∀ pins s σ us, Inv X pins σ H s → Vals xs us → wpAny (model X.prog X.w) X.A (call f us) (EP X pins σ Q) X.xe s
def sM (X : Cx) (id : String) : V → List V → Hp → VK → Prop := fun x xs H Q => ∀ pins s σ v us, Inv X pins σ H s → RelV x v → Vals xs us → wpAny (model X.prog X.w) X.A (call (.builtin id) (v :: us)) (EP X pins σ Q) X.xe s
def sIx (X : Cx) : R2 := fun x y H Q => ∀ (value slice : Expr) pins s σ v u, Inv X pins σ H s → RelV x v → RelV y u → subscripted slice false v u = operate [v, u] (getItem v u) → wpAny (model X.prog X.w) X.A (subscriptTail value slice v u) (EP X pins σ Q) X.xe s
def sSl (X : Cx) : V → Option Int → Option Int → Hp → VK → Prop := fun x lo hi H Q => ∀ pins s σ v vl vu (sl : Addr), Inv X pins σ H s → RelV x v → s.heap.IsSliceOf sl vl vu .none → IsPart vl lo → IsPart vu hi →
  ∃ T id, typeLookup (.type T) "__getitem__" = pure (some (.builtin id)) ∧ s.TypeIs v T ∧ wpAny (model X.prog X.w) X.A (getItem v (.ref sl)) (EP X pins σ Q) X.xe s
section
variable {X : Cx} {e : Expr} {es : List Expr} {σ : L2.St} {H : Hp}
theorem pe_self : PE X e (tE X e) := ⟨fun pins s _ _ _ I h => h pins s I⟩
theorem pt_self : PT X e (tT X e) := ⟨fun pins s _ _ _ I h => h pins s I⟩
theorem pw_self : PW X e (tW X e) := ⟨fun whole pins s _ _ _ I h => h whole pins s I⟩
theorem pa_self : PA X es (tL X es) := ⟨fun pos pins s _ _ _ I h => h pos pins s I⟩
theorem ps_self {st : Stmt} : PS X st (tS X st) := ⟨fun pins s _ _ _ I h => h pins s I⟩
theorem pss_self {sts : List Stmt} : PSs X sts (tB_ X sts) := ⟨fun pins s _ _ _ I h => h pins s I⟩
theorem pg_self : PG X e (tG X e) := ⟨fun pins s _ _ _ u _ I r h => h pins s u I r⟩
theorem pi_self {tg : Expr} : PI X tg e (tI X tg e) := ⟨fun pins s _ _ _ I h => h pins s I⟩
theorem po_self {o : Option Expr} : PO X o (tP X o) := ⟨fun pins s _ _ _ I h => h pins s I⟩
theorem or_self {f : Value → Value → Sem Value} : OpR X f (sO X f) := fun pins s σ _ _ _ v u _ I rx ry h => h pins s σ v u I rx ry
theorem ur_self {f : Value → Sem Value} : UnR X f (sU X f) := fun pins s σ _ _ v _ I rx h => h pins s σ v I rx
theorem cr_self {f : Value} : CallR X f (sC X f) := fun pins s σ _ _ us _ I r h => h pins s σ us I r
theorem mr_self {id : String} : MtR X id (sM X id) := fun pins s σ _ _ _ v us _ I r rs h => h pins s σ v us I r rs
theorem ix_self : IxR X (sIx X) := fun value slice pins s σ _ _ _ v u _ I rx ry h hs => h value slice pins s σ v u I rx ry hs
theorem sl_self : SlR X (sSl X) := fun pins s σ _ _ v vl vu _ _ sl _ I rx hs pl pu h => h pins s σ v vl vu sl I rx hs pl pu
theorem tE_of {t : TE} {Q : VK} (h : PE X e t) (q : t σ H Q) : tE X e σ H Q := fun pins s I => h.run pins s σ H Q I q
theorem tT_of {t : TT} {Q : Bool → Hp → Prop} (h : PT X e t) (q : t σ H Q) : tT X e σ H Q := fun pins s I => h.run pins s σ H Q I q
theorem tW_of {t : TT} {Q : Bool → Hp → Prop} (h : PW X e t) (q : t σ H Q) : tW X e σ H Q := fun whole pins s I => h.run whole pins s σ H Q I q
theorem tL_of {t : TA} {Q : List V → Hp → Prop} (h : PA X es t) (q : t σ H Q) : tL X es σ H Q := fun pos pins s I => h.run pos pins s σ H Q I q
theorem tS_of {st : Stmt} {t : TS} {D : Ends} (h : PS X st t) (q : t D σ H) : tS X st D σ H := fun pins s I => h.run pins s σ H D I q
theorem tB_of {sts : List Stmt} {t : TS} {D : Ends} (h : PSs X sts t) (q : t D σ H) : tB_ X sts D σ H := fun pins s I => h.run pins s σ H D I q
theorem tG_of {t : TG} {v : V} {Q : L2.St → Hp → Prop} (h : PG X e t) (q : t v σ H Q) : tG X e v σ H Q := fun pins s u I r => h.run pins s σ H v u Q I r q
theorem tI_of {tg : Expr} {t : TI} {R : It → Hp → Prop} (h : PI X tg e t) (q : t σ H R) : tI X tg e σ H R := fun pins s I => h.run pins s σ H R I q
theorem tP_of {o : Option Expr} {t : TO} {Q : Option Int → Hp → Prop} (h : PO X o t) (q : t σ H Q) : tP X o σ H Q := fun pins s I => h.run pins s σ H Q I q
theorem sO_of {f : Value → Value → Sem Value} {r : R2} {x y : V} {Q : VK} (h : OpR X f r) (q : r x y H Q) : sO X f x y H Q := fun pins s σ v u I rx ry => h pins s σ H x y v u Q I rx ry q
theorem sU_of {f : Value → Sem Value} {r : V → Hp → VK → Prop} {x : V} {Q : VK} (h : UnR X f r) (q : r x H Q) : sU X f x H Q := fun pins s σ v I rx => h pins s σ H x v Q I rx q
theorem sC_of {f : Value} {r : List V → Hp → VK → Prop} {xs : List V} {Q : VK} (h : CallR X f r) (q : r xs H Q) : sC X f xs H Q := fun pins s σ us I rx => h pins s σ H xs us Q I rx q
theorem sM_of {id : String} {r : V → List V → Hp → VK → Prop} {x : V} {xs : List V} {Q : VK} (h : MtR X id r) (q : r x xs H Q) : sM X id x xs H Q := fun pins s σ v us I rx rs => h pins s σ H x xs v us Q I rx rs q
theorem sIx_of {r : R2} {x y : V} {Q : VK} (h : IxR X r) (q : r x y H Q) : sIx X x y H Q := fun value slice pins s σ v u I rx ry hs => h value slice pins s σ H x y v u Q I rx ry q hs
theorem sSl_of {r : V → Option Int → Option Int → Hp → VK → Prop} {x : V} {lo hi : Option Int} {Q : VK} (h : SlR X r) (q : r x lo hi H Q) : sSl X x lo hi H Q := fun pins s σ v vl vu sl I rx hs pl pu => h pins s σ H x v vl vu lo hi sl Q I rx hs pl pu q
end

/-! ### the judgements -/
/-- what is wanted of a value -/
def Kt (w : Wd) (B : Hp) (R : SV → Mus → Prop) (Q : VK) : Prop := ∀ v r B' H' μ', SInv w B' H' μ' → Ex B B' → Svq B' v r → R r μ' → Q v H'
theorem Kt.mono {w : Wd} {B B' : Hp} {R : SV → Mus → Prop} {Q : VK} (e : Ex B B') (k : Kt w B R Q) : Kt w B' R Q := fun v r B2 H2 μ2 I e2 => k v r B2 H2 μ2 I (e.trans e2)
def DE (X : Cx) (w : Wd) (e : Expr) (ρ : List SV) (μ : Mus) (R : SV → Mus → Prop) : Prop :=
  ∀ σ B H, Sto B σ ρ → SInv w B H μ → ∀ Q : VK, Kt w B R Q → tE X e σ H Q
def DT (X : Cx) (w : Wd) (e : Expr) (ρ : List SV) (μ : Mus) (R : Bool → Mus → Prop) : Prop :=
  ∀ σ B H, Sto B σ ρ → SInv w B H μ → ∀ Q : Bool → Hp → Prop, (∀ b B' H' μ', SInv w B' H' μ' → Ex B B' → R b μ' → Q b H') → tT X e σ H Q
def DW (X : Cx) (w : Wd) (e : Expr) (ρ : List SV) (μ : Mus) (R : Bool → Mus → Prop) : Prop :=
  ∀ σ B H, Sto B σ ρ → SInv w B H μ → ∀ Q : Bool → Hp → Prop, (∀ b B' H' μ', SInv w B' H' μ' → Ex B B' → R b μ' → Q b H') → tW X e σ H Q
def DA (X : Cx) (w : Wd) (es : List Expr) (ρ : List SV) (μ : Mus) (R : List SV → Mus → Prop) : Prop :=
  ∀ σ B H, Sto B σ ρ → SInv w B H μ → ∀ Q : List V → Hp → Prop, (∀ vs rs B' H' μ', SInv w B' H' μ' → Ex B B' → SvA B' vs rs → R rs μ' → Q vs H') → tL X es σ H Q
def DP (X : Cx) (w : Wd) (e : Option Expr) (ρ : List SV) (μ : Mus) (R : Option Int → Mus → Prop) : Prop :=
  ∀ σ B H, Sto B σ ρ → SInv w B H μ → ∀ Q : Option Int → Hp → Prop, (∀ o B' H' μ', SInv w B' H' μ' → Ex B B' → R o μ' → Q o H') → tP X e σ H Q
/-- a target takes a value -/
def DG (X : Cx) (w : Wd) (tg : Expr) (r : SV) (ρ : List SV) (μ : Mus) (R : List SV → Mus → Prop) : Prop :=
  ∀ σ B H v, Sto B σ ρ → SInv w B H μ → Svq B v r → ∀ Q : L2.St → Hp → Prop, (∀ σ' B' H' ρ' μ', Sto B' σ' ρ' → SInv w B' H' μ' → Ex B B' → R ρ' μ' → Q σ' H') → tG X tg v σ H Q
/-- operations on values -/
def OpD (X : Cx) (w : Wd) (f : Value → Value → Sem Value) (r r' : SV) (μ : Mus) (R : SV → Mus → Prop) : Prop :=
  ∀ B H v u, SInv w B H μ → Svq B v r → Svq B u r' → ∀ Q, Kt w B R Q → sO X f v u H Q
def UnD (X : Cx) (w : Wd) (f : Value → Sem Value) (r : SV) (μ : Mus) (R : SV → Mus → Prop) : Prop :=
  ∀ B H v, SInv w B H μ → Svq B v r → ∀ Q, Kt w B R Q → sU X f v H Q
def CaD (X : Cx) (w : Wd) (f : Value) (rs : List SV) (μ : Mus) (R : SV → Mus → Prop) : Prop :=
  ∀ B H vs, SInv w B H μ → SvA B vs rs → ∀ Q, Kt w B R Q → sC X f vs H Q
def MtD (X : Cx) (w : Wd) (id : String) (r : SV) (rs : List SV) (μ : Mus) (R : SV → Mus → Prop) : Prop :=
  ∀ B H v vs, SInv w B H μ → Svq B v r → SvA B vs rs → ∀ Q, Kt w B R Q → sM X id v vs H Q
def IxD (X : Cx) (w : Wd) (r r' : SV) (μ : Mus) (R : SV → Mus → Prop) : Prop :=
  ∀ B H v u, SInv w B H μ → Svq B v r → Svq B u r' → ∀ Q, Kt w B R Q → sIx X v u H Q
def SlD (X : Cx) (w : Wd) (r : SV) (lo hi : Option Int) (μ : Mus) (R : SV → Mus → Prop) : Prop :=
  ∀ B H v, SInv w B H μ → Svq B v r → ∀ Q, Kt w B R Q → sSl X v lo hi H Q
/-- the type of a receiver of a built-in type's method -/
def TyD (K : PySem.W.Frag) (T : String) (r : SV) (μ : Mus) : Prop := ∀ w B H v, SInv w B H μ → Svq B v r → tyV K T v H

/-! ### expressions by their text -/
section
variable {X : Cx} {w : Wd} {ρ : List SV} {μ : Mus} {R : SV → Mus → Prop} {a b c e : Expr} {es : List Expr} {pos p : Pos} {x : Str}
theorem DE.imp {R' : SV → Mus → Prop} (h : DE X w e ρ μ R') (k : ∀ r μ', R' r μ' → R r μ') : DE X w e ρ μ R := fun σ B H S I Q q => h σ B H S I Q fun v r B' H' μ' I' e' s' z => q v r B' H' μ' I' e' s' (k r μ' z)
theorem DT.imp {R R' : Bool → Mus → Prop} (h : DT X w e ρ μ R') (k : ∀ b μ', R' b μ' → R b μ') : DT X w e ρ μ R := fun σ B H S I Q q => h σ B H S I Q fun b B' H' μ' I' e' z => q b B' H' μ' I' e' (k b μ' z)
theorem de_name (i : Nat) {r : SV} (hr : ρ[i]? = some r) (h : R r μ) (hne : r ≠ .no := by exact nofun) (hN : X.N[i]? = some x := by rfl)
    (hv : Vis X.env.scope x := by first | exact Or.inl rfl | exact Or.inr (Or.inl rfl) | exact Or.inr (Or.inr rfl)) (hd : (x == ("__debug__" : Str)) = false := by decide)
    (hcd : (x == ("__classdict__" : Str)) = false := by decide) : DE X w (.Name x pos) ρ μ R := fun σ B H S I Q k => by
  rcases S.get i r hr with z | ⟨v, hs, q⟩
  · exact absurd z hne
  · exact tE_of (pe_var hN hv hd hcd) ⟨v, hs, k v r B H μ I (Ex.refl B) q h⟩
theorem de_int {i : Int} {j} (h : R (.dat (.int i)) μ) : DE X w (.Constant (.int i) j pos) ρ μ R := fun σ B H _ I Q k => tE_of pe_int (k (.int i) (.dat (.int i)) B H μ I (Ex.refl B) (Dq.int i) h)
theorem de_str {z : Str} {j} (h : R (.dat (.str z)) μ) : DE X w (.Constant (.str z) j pos) ρ μ R := fun σ B H _ I Q k => tE_of pe_str (k (.str z) (.dat (.str z)) B H μ I (Ex.refl B) (Dq.str z) h)
theorem de_bl {z : Bool} {j} (h : R (.dat (.bl z)) μ) : DE X w (.Constant (.bool z) j pos) ρ μ R := fun σ B H _ I Q k => tE_of pe_bl (k (.bl z) (.dat (.bl z)) B H μ I (Ex.refl B) (Dq.bl z) h)
theorem de_non {j} (h : R (.dat .non) μ) : DE X w (.Constant .none j pos) ρ μ R := fun σ B H _ I Q k => tE_of pe_non (k .non (.dat .non) B H μ I (Ex.refl B) Dq.non h)
/-- a module's whole number -/
theorem de_globI {i : Int} (hm : ∃ t, X.mg x = some (.int i t)) (h : R (.dat (.int i)) μ) (hg : Gl X x := by rfl) (hd : (x == ("__debug__" : Str)) = false := by decide) : DE X w (.Name x pos) ρ μ R := fun σ B H _ I Q k => by
  obtain ⟨t, hm⟩ := hm
  exact tE_of (pe_glob (v := .int i) hg hm ⟨t, rfl⟩ hd) (k (.int i) (.dat (.int i)) B H μ I (Ex.refl B) (Dq.int i) h)
theorem de_op {op : Operator} (ha : DE X w a ρ μ fun r μ1 => DE X w b ρ μ1 fun r' μ2 => OpD X w (binaryOp op) r r' μ2 R) : DE X w (.BinOp a op b pos) ρ μ R := fun σ B H S I Q k =>
  tE_of (pe_op (or_self (f := binaryOp op)) pe_self pe_self) (ha σ B H S I _ fun v r B1 H1 μ1 I1 e1 q1 h1 => h1 σ B1 H1 (S.mono e1) I1 _ fun u r' B2 H2 μ2 I2 e2 q2 h2 =>
    h2 B2 H2 v u I2 (q1.mono e2) q2 Q (k.mono (e1.trans e2)))
theorem de_un {op : UnaryOp} (ha : DE X w a ρ μ fun r μ1 => UnD X w (unaryOp op) r μ1 R) : DE X w (.UnaryOp op a pos) ρ μ R := fun σ B H S I Q k =>
  tE_of (pe_un (ur_self (f := unaryOp op)) pe_self) (ha σ B H S I _ fun v r B1 H1 μ1 I1 e1 q1 h1 => h1 B1 H1 v I1 q1 Q (k.mono e1))
theorem de_cmp {op : CmpOp} (ha : DE X w a ρ μ fun r μ1 => DE X w b ρ μ1 fun r' μ2 => OpD X w (compareOp op) r r' μ2 R) (hm : behindInMarks op b = false := by first | exact nomark _ | rfl) : DE X w (.Compare a [op] [b] pos) ρ μ R := fun σ B H S I Q k =>
  tE_of (pe_cmpR (or_self (f := compareOp op)) pe_self pe_self hm) (ha σ B H S I _ fun v r B1 H1 μ1 I1 e1 q1 h1 => h1 σ B1 H1 (S.mono e1) I1 _ fun u r' B2 H2 μ2 I2 e2 q2 h2 =>
    h2 B2 H2 v u I2 (q1.mono e2) q2 Q (k.mono (e1.trans e2)))
/-- a value that is a truth -/
def BoolR (r : SV) (k : Bool → Prop) : Prop := ∃ b, r = .dat (.bl b) ∧ k b
theorem de_chain {op op' : CmpOp} (ha : DE X w a ρ μ fun r μ1 => DE X w b ρ μ1 fun r' μ2 => OpD X w (compareOp op) r r' μ2 fun z μ3 => BoolR z fun t =>
      (t = true → DE X w c ρ μ3 fun r'' μ4 => OpD X w (compareOp op') r' r'' μ4 R) ∧ (t = false → R (.dat (.bl false)) μ3)) (hm : lastMarks [op, op'] [b, c] = false := by with_unfolding_all rfl) :
    DE X w (.Compare a [op, op'] [b, c] pos) ρ μ R := fun σ B H S I Q k => by
  refine tE_of (pe_chain (or_self (f := compareOp op)) (or_self (f := compareOp op')) pe_self pe_self pe_self hm) ?_
  refine ha σ B H S I _ fun v r B1 H1 μ1 I1 e1 q1 h1 => h1 σ B1 H1 (S.mono e1) I1 _ fun u r' B2 H2 μ2 I2 e2 q2 h2 => h2 B2 H2 v u I2 (q1.mono e2) q2 _ fun z rz B3 H3 μ3 I3 e3 q3 h3 => ?_
  obtain ⟨t, rfl, ht, hf⟩ := h3
  cases q3
  refine ⟨t, rfl, ?_⟩
  cases t with
  | true =>
    rw [if_pos rfl]
    exact ht rfl σ B3 H3 (S.mono (e1.trans (e2.trans e3))) I3 _ fun u4 r4 B4 H4 μ4 I4 e4 q4 h4 => h4 B4 H4 u u4 I4 (q2.mono (e3.trans e4)) q4 Q (k.mono (e1.trans (e2.trans (e3.trans e4))))
  | false =>
    rw [if_neg Bool.false_ne_true]
    exact k (.bl false) (.dat (.bl false)) B3 H3 μ3 I3 (e1.trans (e2.trans e3)) (Dq.bl false) (hf rfl)
theorem de_ix (ha : DE X w a ρ μ fun r μ1 => DE X w b ρ μ1 fun r' μ2 => IxD X w r r' μ2 R) (hs : PlainIx b := by exact fun _ _ => rfl) : DE X w (.Subscript a b pos) ρ μ R := fun σ B H S I Q k =>
  tE_of (pe_ix ix_self pe_self pe_self hs) (ha σ B H S I _ fun v r B1 H1 μ1 I1 e1 q1 h1 => h1 σ B1 H1 (S.mono e1) I1 _ fun u r' B2 H2 μ2 I2 e2 q2 h2 =>
    h2 B2 H2 v u I2 (q1.mono e2) q2 Q (k.mono (e1.trans e2)))
theorem dp_none {R : Option Int → Mus → Prop} (h : R none μ) : DP X w none ρ μ R := fun σ B H _ I Q k => tP_of po_none (k none B H μ I (Ex.refl B) h)
theorem dp_some {R : Option Int → Mus → Prop} (h : DE X w e ρ μ fun r μ1 => ∃ i, r = .dat (.int i) ∧ R (some i) μ1) : DP X w (some e) ρ μ R := fun σ B H S I Q k =>
  tP_of (po_some pe_self) (h σ B H S I _ fun v r B1 H1 μ1 I1 e1 q1 h1 => by
    obtain ⟨i, rfl, h1⟩ := h1
    cases q1
    exact ⟨i, rfl, k _ B1 H1 μ1 I1 e1 h1⟩)
theorem de_slice {lo hi : Option Expr} {p2 : Pos} (ha : DE X w a ρ μ fun r μ1 => DP X w lo ρ μ1 fun l μ2 => DP X w hi ρ μ2 fun u μ3 => SlD X w r l u μ3 R) : DE X w (.Subscript a (.Slice lo hi none p2) pos) ρ μ R := fun σ B H S I Q k =>
  tE_of (pe_slice sl_self pe_self po_self po_self) (ha σ B H S I _ fun v r B1 H1 μ1 I1 e1 q1 h1 => h1 σ B1 H1 (S.mono e1) I1 _ fun l B2 H2 μ2 I2 e2 h2 => h2 σ B2 H2 (S.mono (e1.trans e2)) I2 _ fun u B3 H3 μ3 I3 e3 h3 =>
    h3 B3 H3 v I3 (q1.mono (e2.trans e3)) Q (k.mono (e1.trans (e2.trans e3))))

theorem da_nil {R : List SV → Mus → Prop} (h : R [] μ) : DA X w [] ρ μ R := fun σ B H _ I Q k => tL_of pa_nil (k [] [] B H μ I (Ex.refl B) .nil h)
theorem da_cons {R : List SV → Mus → Prop} (ha : DE X w e ρ μ fun r μ1 => DA X w es ρ μ1 fun rs μ2 => R (r :: rs) μ2) (hs : starEach (e :: es) X.env = (false, eval e X.env) :: starEach es X.env := by rfl) : DA X w (e :: es) ρ μ R := fun σ B H S I Q k =>
  tL_of (pa_cons pe_self pa_self hs) (ha σ B H S I _ fun v r B1 H1 μ1 I1 e1 q1 h1 => h1 σ B1 H1 (S.mono e1) I1 _ fun vs rs B2 H2 μ2 I2 e2 q2 h2 => k _ _ B2 H2 μ2 I2 (e1.trans e2) (.cons (q1.mono e2) q2) h2)
/-- all are data -/
def undat : List SV → Option (List Dt)
  | [] => some []
  | .dat d :: rs => match undat rs with | some ds => some (d :: ds) | none => none
  | _ :: _ => none
theorem undat_q {B : Hp} : ∀ {vs : List V} {rs : List SV} {ds : List Dt}, SvA B vs rs → undat rs = some ds → DqA B vs ds
  | _, _, _, .nil, e => by cases e; exact .nil
  | _, _, _, .cons (r := r) (rs := rs) h q, e => by
    cases r with
    | no => cases e
    | «at» p => cases e
    | ty n => cases e
    | sc K a ns => cases e
    | tys ns => cases e
    | tvs xs => cases e
    | exc _ _ _ _ => cases e
    | dat d =>
      unfold undat at e
      cases e2 : undat rs with
      | none => rw [e2] at e; cases e
      | some ds => rw [e2] at e; cases e; exact .cons h (undat_q q e2)
theorem small_ok {n : Nat} (h : n ≤ 1000) : n ≤ sizeLine := Nat.le_trans h (by decide)
theorem de_tup {x1} (h : DA X w es ρ μ fun rs μ1 => ∃ ds, undat rs = some ds ∧ ds.length ≤ 1000 ∧ R (.dat (.tup ds)) μ1) : DE X w (.Tuple es x1 pos) ρ μ R := fun σ B H S I Q k =>
  tE_of (pe_tup pa_self) (h σ B H S I _ fun vs rs B1 H1 μ1 I1 e1 q1 h1 => by
    obtain ⟨ds, e, hl, h1⟩ := h1
    have q := undat_q q1 e
    exact ⟨small_ok (by rw [q.length]; exact hl), fun p hp => k (.ref p) (.dat (.tup ds)) _ _ μ1 (I1.new hp _) (e1.trans (Ex.new (I1.free hp).1)) (Dq.tup upd_same (q.mono (Ex.new (I1.free hp).1))) h1⟩)
theorem de_lst (h : DA X w es ρ μ fun rs μ1 => ∃ ds, undat rs = some ds ∧ ds.length ≤ 1000 ∧ R (.dat (.lst ds)) μ1) : DE X w (.List es pos) ρ μ R := fun σ B H S I Q k =>
  tE_of (pe_lst pa_self) (h σ B H S I _ fun vs rs B1 H1 μ1 I1 e1 q1 h1 => by
    obtain ⟨ds, e, hl, h1⟩ := h1
    have q := undat_q q1 e
    exact ⟨small_ok (by rw [q.length]; exact hl), fun p hp => k (.ref p) (.dat (.lst ds)) _ _ μ1 (I1.new hp _) (e1.trans (Ex.new (I1.free hp).1)) (Dq.lst upd_same (q.mono (Ex.new (I1.free hp).1))) h1⟩)
/-- a list that will change -/
theorem de_lstM (h : DA X w es ρ μ fun rs μ1 => ∃ ds, undat rs = some ds ∧ ds.length ≤ 1000 ∧ ∀ p, μ1 p = none → w.H p = none → R (.at p) (μ1.put p (.lst ds))) : DE X w (.List es pos) ρ μ R := fun σ B H S I Q k =>
  tE_of (pe_lst pa_self) (h σ B H S I _ fun vs rs B1 H1 μ1 I1 e1 q1 h1 => by
    obtain ⟨ds, e, hl, h1⟩ := h1
    have q := undat_q q1 e
    exact ⟨small_ok (by rw [q.length]; exact hl), fun p hp => k (.ref p) (.at p) _ _ (μ1.put p (.lst ds)) (I1.newM hp _ ⟨vs, upd_same, q⟩) e1 rfl (h1 p (I1.free hp).2.1 (I1.free hp).2.2)⟩)
/-- a pot: a list of two whole numbers -/
theorem de_lstPot (h : DA X w es ρ μ fun rs μ1 => ∃ a b, rs = [.dat (.int a), .dat (.int b)] ∧ 0 ≤ a ∧ 0 ≤ b ∧ b < 4294967296 ∧ ∀ p, μ1 p = none → w.H p = none → R (.at p) (μ1.put p .pot)) : DE X w (.List es pos) ρ μ R := fun σ B H S I Q k =>
  tE_of (pe_lst pa_self) (h σ B H S I _ fun vs rs B1 H1 μ1 I1 e1 q1 h1 => by
    obtain ⟨a, b, rfl, ha, hb, hb2, h1⟩ := h1
    have q := undat_q (ds := [.int a, .int b]) q1 rfl
    have ev : vs = [.int a, .int b] := DqA.ints (ns := [a, b]) q
    subst ev
    exact ⟨by show 2 ≤ sizeLine; decide, fun p hp => k (.ref p) (.at p) _ _ (μ1.put p .pot) (I1.newM hp _ ⟨a, b, ha, hb, hb2, upd_same⟩) e1 rfl (h1 p (I1.free hp).2.1 (I1.free hp).2.2)⟩)

/-! ### tests -/
theorem dt_val {R : Bool → Mus → Prop} (h : DE X w e ρ μ fun r μ' => BoolR r fun b => R b μ') (he : ∀ whole, isTrue e X.env whole = (do let v ← whole; standAt e.pos; holding [v] (truthy v)) := by intro _; rfl) : DT X w e ρ μ R := fun σ B H S I Q k =>
  tT_of (pt_val pe_self he) (h σ B H S I _ fun v r B1 H1 μ1 I1 e1 q1 h1 => by
    obtain ⟨b, rfl, h1⟩ := h1
    cases q1
    exact ⟨b, rfl, k b B1 H1 μ1 I1 e1 h1⟩)
theorem dt_cmp {op : CmpOp} {R : Bool → Mus → Prop} (ha : DE X w a ρ μ fun r μ1 => DE X w b ρ μ1 fun r' μ2 => OpD X w (compareOp op) r r' μ2 fun z μ3 => BoolR z fun t => R t μ3) (hm : behindInMarks op b = false := by first | exact nomark _ | rfl) : DT X w (.Compare a [op] [b] pos) ρ μ R := fun σ B H S I Q k =>
  tT_of (pt_cmpR (or_self (f := compareOp op)) pe_self pe_self hm) (ha σ B H S I _ fun v r B1 H1 μ1 I1 e1 q1 h1 => h1 σ B1 H1 (S.mono e1) I1 _ fun u r' B2 H2 μ2 I2 e2 q2 h2 =>
    h2 B2 H2 v u I2 (q1.mono e2) q2 _ fun z rz B3 H3 μ3 I3 e3 q3 ⟨t, hz, h3⟩ => by
      subst hz
      cases q3
      exact ⟨t, rfl, k t B3 H3 μ3 I3 (e1.trans (e2.trans e3)) h3⟩)
theorem dt_chain {op op' : CmpOp} {R : Bool → Mus → Prop} (ha : DE X w a ρ μ fun r μ1 => DE X w b ρ μ1 fun r' μ2 => OpD X w (compareOp op) r r' μ2 fun z μ3 => BoolR z fun t =>
      (t = true → DE X w c ρ μ3 fun r'' μ4 => OpD X w (compareOp op') r' r'' μ4 fun z2 μ5 => BoolR z2 fun t2 => R t2 μ5) ∧ (t = false → R false μ3)) (hm : lastMarks [op, op'] [b, c] = false := by with_unfolding_all rfl) : DT X w (.Compare a [op, op'] [b, c] pos) ρ μ R := fun σ B H S I Q k => by
  refine tT_of (pt_chain (or_self (f := compareOp op)) (or_self (f := compareOp op')) pe_self pe_self pe_self hm) ?_
  refine ha σ B H S I _ fun v r B1 H1 μ1 I1 e1 q1 h1 => h1 σ B1 H1 (S.mono e1) I1 _ fun u r' B2 H2 μ2 I2 e2 q2 h2 => h2 B2 H2 v u I2 (q1.mono e2) q2 _ fun z rz B3 H3 μ3 I3 e3 q3 h3 => ?_
  obtain ⟨t, rfl, ht, hf⟩ := h3
  cases q3
  refine ⟨t, rfl, ?_⟩
  cases t with
  | true =>
    rw [if_pos rfl]
    refine ht rfl σ B3 H3 (S.mono (e1.trans (e2.trans e3))) I3 _ fun u4 r4 B4 H4 μ4 I4 e4 q4 h4 => h4 B4 H4 u u4 I4 (q2.mono (e3.trans e4)) q4 _ fun z2 rz2 B5 H5 μ5 I5 e5 q5 ⟨t2, hz, h5⟩ => ?_
    subst hz
    cases q5
    exact ⟨t2, rfl, k t2 B5 H5 μ5 I5 (e1.trans (e2.trans (e3.trans (e4.trans e5)))) h5⟩
  | false =>
    rw [if_neg Bool.false_ne_true]
    exact ⟨false, rfl, k false B3 H3 μ3 I3 (e1.trans (e2.trans e3)) (hf rfl)⟩
theorem dt_not {R : Bool → Mus → Prop} (h : DT X w e ρ μ fun b μ' => R (!b) μ') : DT X w (.UnaryOp .Not e pos) ρ μ R := fun σ B H S I Q k =>
  tT_of (pt_not pt_self) (h σ B H S I _ fun b B1 H1 μ1 I1 e1 h1 => k (!b) B1 H1 μ1 I1 e1 h1)
theorem dt_w {R : Bool → Mus → Prop} (h : DW X w e ρ μ R) : DT X w e ρ μ R := fun σ B H S I Q k => tT_of pw_self.pt (h σ B H S I Q k)
theorem dw_and1 {R : Bool → Mus → Prop} (h : DT X w e ρ μ R) : DW X w (.BoolOp .And [e] pos) ρ μ R := fun σ B H S I Q k => tW_of (pw_and1 pt_self) (h σ B H S I Q k)
theorem dw_or1 {R : Bool → Mus → Prop} (h : DT X w e ρ μ R) : DW X w (.BoolOp .Or [e] pos) ρ μ R := fun σ B H S I Q k => tW_of (pw_or1 pt_self) (h σ B H S I Q k)
theorem dw_and {R : Bool → Mus → Prop} (h : DT X w a ρ μ fun t μ1 => (t = true → DW X w (.BoolOp .And (b :: es) pos) ρ μ1 R) ∧ (t = false → R false μ1)) : DW X w (.BoolOp .And (a :: b :: es) pos) ρ μ R := fun σ B H S I Q k =>
  tW_of (pw_and pt_self pw_self) (h σ B H S I _ fun t B1 H1 μ1 I1 e1 h1 => by
    cases t with
    | true => rw [if_pos rfl]; exact h1.1 rfl σ B1 H1 (S.mono e1) I1 Q fun t2 B2 H2 μ2 I2 e2 => k t2 B2 H2 μ2 I2 (e1.trans e2)
    | false => rw [if_neg Bool.false_ne_true]; exact k false B1 H1 μ1 I1 e1 (h1.2 rfl))
theorem dw_or {R : Bool → Mus → Prop} (h : DT X w a ρ μ fun t μ1 => (t = true → R true μ1) ∧ (t = false → DW X w (.BoolOp .Or (b :: es) pos) ρ μ1 R)) : DW X w (.BoolOp .Or (a :: b :: es) pos) ρ μ R := fun σ B H S I Q k =>
  tW_of (pw_or pt_self pw_self) (h σ B H S I _ fun t B1 H1 μ1 I1 e1 h1 => by
    cases t with
    | true => rw [if_pos rfl]; exact k true B1 H1 μ1 I1 e1 (h1.1 rfl)
    | false => rw [if_neg Bool.false_ne_true]; exact h1.2 rfl σ B1 H1 (S.mono e1) I1 Q fun t2 B2 H2 μ2 I2 e2 => k t2 B2 H2 μ2 I2 (e1.trans e2))
theorem de_one {op} (h : DE X w e ρ μ R) : DE X w (.BoolOp op [e] pos) ρ μ R := fun σ B H S I Q k => tE_of (pe_one pe_self) (h σ B H S I Q k)
theorem de_and (h : DE X w a ρ μ fun r μ1 => BoolR r fun t => (t = true → DE X w (.BoolOp .And (b :: es) pos) ρ μ1 R) ∧ (t = false → R (.dat (.bl false)) μ1)) : DE X w (.BoolOp .And (a :: b :: es) pos) ρ μ R := fun σ B H S I Q k =>
  tE_of (pe_and pe_self pe_self) (h σ B H S I _ fun v r B1 H1 μ1 I1 e1 q1 h1 => by
    obtain ⟨t, rfl, h1⟩ := h1
    cases q1
    refine ⟨t, rfl, ?_⟩
    cases t with
    | true => rw [if_pos rfl]; exact h1.1 rfl σ B1 H1 (S.mono e1) I1 Q (k.mono e1)
    | false => rw [if_neg Bool.false_ne_true]; exact k (.bl false) (.dat (.bl false)) B1 H1 μ1 I1 e1 (Dq.bl false) (h1.2 rfl))
theorem de_or (h : DE X w a ρ μ fun r μ1 => BoolR r fun t => (t = true → R (.dat (.bl true)) μ1) ∧ (t = false → DE X w (.BoolOp .Or (b :: es) pos) ρ μ1 R)) : DE X w (.BoolOp .Or (a :: b :: es) pos) ρ μ R := fun σ B H S I Q k =>
  tE_of (pe_or pe_self pe_self) (h σ B H S I _ fun v r B1 H1 μ1 I1 e1 q1 h1 => by
    obtain ⟨t, rfl, h1⟩ := h1
    cases q1
    refine ⟨t, rfl, ?_⟩
    cases t with
    | true => rw [if_pos rfl]; exact k (.bl true) (.dat (.bl true)) B1 H1 μ1 I1 e1 (Dq.bl true) (h1.1 rfl)
    | false => rw [if_neg Bool.false_ne_true]; exact h1.2 rfl σ B1 H1 (S.mono e1) I1 Q (k.mono e1))
theorem de_not (h : DE X w e ρ μ fun r μ1 => BoolR r fun t => R (.dat (.bl (!t))) μ1) : DE X w (.UnaryOp .Not e pos) ρ μ R := fun σ B H S I Q k =>
  tE_of (pe_not pe_self) (h σ B H S I _ fun v r B1 H1 μ1 I1 e1 q1 h1 => by
    obtain ⟨t, rfl, h1⟩ := h1
    cases q1
    exact ⟨t, rfl, k (.bl (!t)) (.dat (.bl (!t))) B1 H1 μ1 I1 e1 (Dq.bl _) h1⟩)
theorem de_ifx (h : DT X w c ρ μ fun t μ1 => (t = true → DE X w a ρ μ1 R) ∧ (t = false → DE X w b ρ μ1 R)) : DE X w (.IfExp c a b pos) ρ μ R := fun σ B H S I Q k =>
  tE_of (pe_ifExp pt_self pe_self pe_self) (h σ B H S I _ fun t B1 H1 μ1 I1 e1 h1 => by
    cases t with
    | true => rw [if_pos rfl]; exact h1.1 rfl σ B1 H1 (S.mono e1) I1 Q (k.mono e1)
    | false => rw [if_neg Bool.false_ne_true]; exact h1.2 rfl σ B1 H1 (S.mono e1) I1 Q (k.mono e1))

/-! ### calls of built-ins -/
theorem de_callB {id : String} (ha : DA X w (e :: es) ρ μ fun rs μ1 => CaD X w (.builtin id) rs μ1 R) (hm : X.mg x = none) (hv : bootBuiltins x = some (.builtin id)) (hg : Gl X x := by rfl) (hn : x ≠ "__name__" := by decide) (hdb : (x == ("__debug__" : Str)) = false := by decide)
    (he : starEach (e :: es) X.env = (false, eval e X.env) :: starEach es X.env := by rfl) (hpl : (backTo pos (starEach es X.env)).any (·.1) = false := by rfl) : DE X w (.Call (.Name x p) (e :: es) [] pos) ρ μ R := fun σ B H S I Q k =>
  tE_of (pe_callB cr_self hg hm hv pa_self hn hdb he hpl) (ha σ B H S I _ fun vs rs B1 H1 μ1 I1 e1 q1 h1 => h1 B1 H1 vs I1 q1 Q (k.mono e1))
theorem de_callT {T : String} (ha : DA X w (e :: es) ρ μ fun rs μ1 => CaD X w (.type T) rs μ1 R) (hm : X.mg x = none) (hv : bootBuiltins x = some (.type T)) (hg : Gl X x := by rfl) (hn : x ≠ "__name__" := by decide) (hdb : (x == ("__debug__" : Str)) = false := by decide)
    (he : starEach (e :: es) X.env = (false, eval e X.env) :: starEach es X.env := by rfl) (hpl : (backTo pos (starEach es X.env)).any (·.1) = false := by rfl) : DE X w (.Call (.Name x p) (e :: es) [] pos) ρ μ R := fun σ B H S I Q k =>
  tE_of (pe_callTy cr_self hg hm hv pa_self hn hdb he hpl) (ha σ B H S I _ fun vs rs B1 H1 μ1 I1 e1 q1 h1 => h1 B1 H1 vs I1 q1 Q (k.mono e1))
/-- a built-in class as a value: isinstance(x, int) -/
theorem de_bm {T id : String} {name : Str} {o : Expr} {apos cpos : Pos} (ho : DE X w o ρ μ fun r μ1 => TyD X.K T r μ1 ∧ DA X w (e :: es) ρ μ1 fun rs μ2 => MtD X w id r rs μ2 R) (pa : PlainAttrs T) (slot : Slot T name id) (hty : typeOf (.builtin id) = pure (.type "method_descriptor"))
    (hbase : attributeBase o name X.env (eval o X.env) = eval o X.env := by rfl)
    (hfew : ((backTo cpos (starEach (e :: es) X.env)).all (fun x => !x.1) && (backToKw cpos (keywordEach [] X.env)).all (fun x => x.1.isSome)
      && decide ((e :: es).length + ([] : List Keyword).length + (if ([] : List Keyword).isEmpty then 0 else 1) < 30)) = true := by rfl)
    (hline : (apos.endLine == cpos.line) = true := by rfl) (hs : starEach (e :: es) X.env = (false, eval e X.env) :: starEach es X.env := by rfl) (hplain : (backTo cpos (starEach es X.env)).any (·.1) = false := by rfl) :
    DE X w (.Call (.Attribute o name apos) (e :: es) [] cpos) ρ μ R := fun σ B H S I Q k =>
  tE_of (pe_bm pa slot hty mr_self pe_self pa_self hbase hfew hline hs hplain) (ho σ B H S I _ fun v r B1 H1 μ1 I1 e1 q1 h1 => ⟨h1.1 w B1 H1 v I1 q1, h1.2 σ B1 H1 (S.mono e1) I1 _ fun vs rs B2 H2 μ2 I2 e2 q2 h2 => h2 B2 H2 v vs I2 (q1.mono e2) q2 Q (k.mono (e1.trans e2))⟩)
end
end Dat

set_option Elab.async false
set_option linter.all false
set_option maxRecDepth 100000
set_option maxHeartbeats 4000000
/-! Dat2: statements, loops, comprehensions, the program's own defs. -/
namespace Dat
open PySem PySem.Spec PyProof.Rows L2

/-! ### statements -/
structure Po where
  nx : List SV → Mus → Prop
  rt : SV → Mus → Prop
  bk : List SV → Mus → Prop := fun _ _ => False
  ct : List SV → Mus → Prop := fun _ _ => False
structure EndsOk (w : Wd) (B0 : Hp) (P : Po) (D : Ends) : Prop where
  nx : ∀ σ B H ρ μ, Sto B σ ρ → SInv w B H μ → Ex B0 B → P.nx ρ μ → D.nx σ H
  rt : ∀ v r B H μ, SInv w B H μ → Ex B0 B → Svq B v r → P.rt r μ → D.rt v H
  bk : ∀ σ B H ρ μ, Sto B σ ρ → SInv w B H μ → Ex B0 B → P.bk ρ μ → D.bk σ H
  ct : ∀ σ B H ρ μ, Sto B σ ρ → SInv w B H μ → Ex B0 B → P.ct ρ μ → D.ct σ H
theorem EndsOk.mono {w : Wd} {B0 B1 : Hp} {P : Po} {D : Ends} (E : EndsOk w B0 P D) (e : Ex B0 B1) : EndsOk w B1 P D :=
  ⟨fun σ B H ρ μ S I x => E.nx σ B H ρ μ S I (e.trans x), fun v r B H μ I x => E.rt v r B H μ I (e.trans x), fun σ B H ρ μ S I x => E.bk σ B H ρ μ S I (e.trans x), fun σ B H ρ μ S I x => E.ct σ B H ρ μ S I (e.trans x)⟩
def DS (X : Cx) (w : Wd) (st : Stmt) (ρ : List SV) (μ : Mus) (P : Po) : Prop :=
  ∀ σ B H, Sto B σ ρ → SInv w B H μ → ∀ D, EndsOk w B P D → tS X st D σ H
def DSs (X : Cx) (w : Wd) (sts : List Stmt) (ρ : List SV) (μ : Mus) (P : Po) : Prop :=
  ∀ σ B H, Sto B σ ρ → SInv w B H μ → ∀ D, EndsOk w B P D → tB_ X sts D σ H
/-- what a loop walks -/
structure WkD (J : It) (B : Hp) (items : List Dt) : Prop where
  goes : ∀ i H, i < items.length → Ex B H → J.go i H
  stops : ∀ H, Ex B H → J.stop items.length H
  yields : ∀ i H x H', i < items.length → Ex B H → J.yld i H x H' → ∃ d, items[i]? = some d ∧ ((H' = H ∧ Dq B x d) ∨ ∃ T xs ds, x = .ref T ∧ H T = none ∧ H' = upd H T (.tup xs) ∧ DqA B xs ds ∧ d = .tup ds)
def DI (X : Cx) (w : Wd) (tg e : Expr) (ρ : List SV) (μ : Mus) (R : List Dt → Mus → Prop) : Prop :=
  ∀ σ B H, Sto B σ ρ → SInv w B H μ → ∀ RR : It → Hp → Prop, (∀ J items B' H' μ', SInv w B' H' μ' → Ex B B' → WkD J B' items → R items μ' → RR J H') → tI X tg e σ H RR

section
variable {X : Cx} {w : Wd} {ρ : List SV} {μ : Mus} {P : Po} {e c tg : Expr} {st : Stmt} {sts a b : List Stmt} {pos p pos' : Pos} {x : Str}
theorem dss_nil (h : P.nx ρ μ) : DSs X w [] ρ μ P := fun σ B H S I D E => tB_of pss_nil (E.nx σ B H ρ μ S I (Ex.refl B) h)
theorem dss_cons (h : DS X w st ρ μ { P with nx := fun ρ' μ' => DSs X w sts ρ' μ' P }) : DSs X w (st :: sts) ρ μ P := fun σ B H S I D E =>
  tB_of (pss_cons ps_self pss_self) (h σ B H S I _ ⟨fun σ1 B1 H1 ρ1 μ1 S1 I1 e1 h1 => h1 σ1 B1 H1 S1 I1 D (E.mono e1), E.rt, E.bk, E.ct⟩)
theorem dss_one (h : DS X w st ρ μ P) : DSs X w [st] ρ μ P := fun σ B H S I D E => tB_of (pss_one ps_self) (h σ B H S I D E)
theorem ds_pass (h : P.nx ρ μ) : DS X w (.Pass pos) ρ μ P := fun σ B H S I D E => tS_of ps_pass (E.nx σ B H ρ μ S I (Ex.refl B) h)
theorem ds_break (h : P.bk ρ μ) : DS X w (.Break pos) ρ μ P := fun σ B H S I D E => tS_of ps_break (E.bk σ B H ρ μ S I (Ex.refl B) h)
theorem ds_continue (h : P.ct ρ μ) : DS X w (.Continue pos) ρ μ P := fun σ B H S I D E => tS_of ps_continue (E.ct σ B H ρ μ S I (Ex.refl B) h)
theorem ds_doc {z : Str} {j} (h : P.nx ρ μ) : DS X w (.Expr (.Constant (.str z) j pos) pos') ρ μ P := fun σ B H S I D E => tS_of ps_doc (E.nx σ B H ρ μ S I (Ex.refl B) h)
theorem ds_expr (h : DE X w e ρ μ fun _ μ' => P.nx ρ μ') (hs : swapsWith e none pos.line X.env = pure false := by rfl) : DS X w (.Expr e pos) ρ μ P := fun σ B H S I D E =>
  tS_of (ps_expr pe_self hs) (h σ B H S I _ fun v r B1 H1 μ1 I1 e1 q1 h1 => E.nx σ B1 H1 ρ μ1 (S.mono e1) I1 e1 h1)
theorem ds_ret (h : DE X w e ρ μ fun r μ' => P.rt r μ') : DS X w (.Return (some e) pos) ρ μ P := fun σ B H S I D E =>
  tS_of (ps_ret pe_self) (h σ B H S I _ fun v r B1 H1 μ1 I1 e1 q1 h1 => E.rt v r B1 H1 μ1 I1 e1 q1 h1)
/-- return of an own list, that becomes data -/
theorem ds_retL (h : DE X w e ρ μ fun r μ' => ∃ q ds ν, r = .at q ∧ μ' q = some (.lst ds) ∧ w.H q = none ∧ ν.Sub μ' ∧ ν q = none ∧ P.rt (.dat (.lst ds)) ν) : DS X w (.Return (some e) pos) ρ μ P := fun σ B H S I D E =>
  tS_of (ps_ret pe_self) (h σ B H S I _ fun v r B1 H1 μ1 I1 e1 q1 h1 => by
    obtain ⟨q, ds, ν, rfl, hm, hw, hs, hn, h1⟩ := h1
    obtain ⟨B2, I2, e2, q2⟩ := I1.freeze hm hw hs hn
    cases (show v = V.ref q from q1)
    exact E.rt _ (.dat (.lst ds)) B2 H1 ν I2 (e1.trans e2) q2 h1)
theorem ds_retN (h : P.rt (.dat .non) μ) : DS X w (.Return none pos) ρ μ P := fun σ B H S I D E =>
  tS_of ps_retN (E.rt .non (.dat .non) B H μ I (Ex.refl B) Dq.non h)
theorem ds_if (h : DT X w c ρ μ fun t μ1 => (t = true → DSs X w a ρ μ1 P) ∧ (t = false → DSs X w b ρ μ1 P)) : DS X w (.If c a b pos) ρ μ P := fun σ B H S I D E =>
  tS_of (ps_if pt_self pss_self pss_self) (h σ B H S I _ fun t B1 H1 μ1 I1 e1 h1 => by
    cases t with
    | true => rw [if_pos rfl]; exact h1.1 rfl σ B1 H1 (S.mono e1) I1 D (E.mono e1)
    | false => rw [if_neg Bool.false_ne_true]; exact h1.2 rfl σ B1 H1 (S.mono e1) I1 D (E.mono e1))
theorem ds_set (i : Nat) (hN : X.N.Nodup) (h : DE X w e ρ μ fun r μ' => P.nx (ρ.set i r) μ') (hi : X.N[i]? = some x := by rfl) (hx : Loc X.env.scope x := by first | exact Or.inl rfl | exact Or.inr rfl) (hs : swapsWith e (some (.Name x pos')) pos.line X.env = pure false := by rfl)
    (hf : X.fn x = true ∨ X.env.scope.names.lookup x = some .local := by first | exact .inl rfl | exact .inr rfl) : DS X w (.Assign [.Name x pos'] e pos) ρ μ P := fun σ B H S I D E =>
  tS_of (ps_set hN hi hx pe_self hs hf) (h σ B H S I _ fun v r B1 H1 μ1 I1 e1 q1 h1 => E.nx _ B1 H1 _ μ1 ((S.mono e1).set i q1) I1 e1 h1)
theorem ds_asg (h : DE X w e ρ μ fun r μ' => DG X w tg r ρ μ' P.nx) (hs : swapsWithSole [tg] e pos.line X.env = pure false := by rfl) (hw : swappedStores [tg] e X.env = pure none := by rfl)
    (h1 : (assignEach [tg] X.env).map (·.2) = [assign tg X.env] := by rfl) : DS X w (.Assign [tg] e pos) ρ μ P := fun σ B H S I D E =>
  tS_of (ps_asg pe_self pg_self hs hw h1) (h σ B H S I _ fun v r B1 H1 μ1 I1 e1 q1 g => g σ B1 H1 v (S.mono e1) I1 q1 _ fun σ2 B2 H2 ρ2 μ2 S2 I2 e2 k2 => E.nx σ2 B2 H2 ρ2 μ2 S2 I2 (e1.trans e2) k2)
theorem ds_par (i j : Nat) {y : Str} {e1 e2 : Expr} {px py pt : Pos} {kt k2 pt2} (hc : X.calm = true) (hN : X.N.Nodup) (h : DA X w [e1, e2] ρ μ fun rs μ' => ∃ r s, rs = [r, s] ∧ P.nx ((ρ.set i r).set j s) μ') (hi : X.N[i]? = some x := by rfl) (hj : X.N[j]? = some y := by rfl) (hij : i ≠ j := by decide)
    (hx : X.env.scope.names.lookup x = some .local := by rfl) (hy : X.env.scope.names.lookup y = some .local := by rfl)
    (hw : swappedStores [.Tuple [.Name x px, .Name y py] kt pt] (.Tuple [e1, e2] k2 pt2) X.env = pure (some [x, y]) := by rfl)
    (hs : swapsWithSole [.Tuple [.Name x px, .Name y py] kt pt] (.Tuple [e1, e2] k2 pt2) pos.line X.env = pure false := by rfl) :
    DS X w (.Assign [.Tuple [.Name x px, .Name y py] kt pt] (.Tuple [e1, e2] k2 pt2) pos) ρ μ P := fun σ B H S I D E =>
  tS_of (ps_par hc hN hi hj hij hx hy pa_self hw hs) (h σ B H S I _ fun vs rs B1 H1 μ1 I1 ex q1 h1 => by
    obtain ⟨r, s, rfl, h1⟩ := h1
    cases q1 with
    | cons p q => cases q with
      | cons p' q' => cases q'; exact ⟨_, _, rfl, E.nx _ B1 H1 _ μ1 (((S.mono ex).set i p).set j p') I1 ex h1⟩)
theorem ds_while {body : List Stmt} (J : Nat → List SV → Mus → Prop) (n : Nat) (h0 : J n ρ μ) (hp : PassesOwn (model X.prog X.w) X.A X.env X.xe)
    (h : ∀ n ρ1 μ1, J n ρ1 μ1 → DT X w c ρ1 μ1 fun t μ2 => (t = true → DSs X w body ρ1 μ2 { nx := fun ρ' μ' => ∃ m, m < n ∧ J m ρ' μ', ct := fun ρ' μ' => ∃ m, m < n ∧ J m ρ' μ', bk := P.nx, rt := P.rt }) ∧ (t = false → P.nx ρ1 μ2)) :
    DS X w (.While c body [] pos) ρ μ P := fun σ B H S I D E => by
  refine tS_of (ps_while hp pt_self pss_self) ⟨fun m σ H => ∃ B1 ρ μ, Sto B1 σ ρ ∧ SInv w B1 H μ ∧ Ex B B1 ∧ J m ρ μ, ⟨n, B, ρ, μ, S, I, Ex.refl B, h0⟩, ?_⟩
  rintro m σ1 H1 ⟨B1, ρ1, μ1, S1, I1, g1, J1⟩
  refine h m ρ1 μ1 J1 σ1 B1 H1 S1 I1 _ fun t B2 H2 μ2 I2 e2 h2 => ?_
  cases t with
  | true =>
    rw [if_pos rfl]
    exact ⟨fun σ' H' => ∃ m', m' < m ∧ ∃ B1 ρ μ, Sto B1 σ' ρ ∧ SInv w B1 H' μ ∧ Ex B B1 ∧ J m' ρ μ, fun _ _ z => z, h2.1 rfl σ1 B2 H2 (S1.mono e2) I2 _
      ⟨fun σ3 B3 H3 ρ3 μ3 S3 I3 g3 ⟨m', hl, j⟩ => ⟨m', hl, B3, ρ3, μ3, S3, I3, g1.trans (e2.trans g3), j⟩, fun v r B3 H3 μ3 I3 g3 => E.rt v r B3 H3 μ3 I3 (g1.trans (e2.trans g3)), fun σ3 B3 H3 ρ3 μ3 S3 I3 g3 k => E.nx σ3 B3 H3 ρ3 μ3 S3 I3 (g1.trans (e2.trans g3)) k,
        fun σ3 B3 H3 ρ3 μ3 S3 I3 g3 ⟨m', hl, j⟩ => ⟨m', hl, B3, ρ3, μ3, S3, I3, g1.trans (e2.trans g3), j⟩⟩⟩
  | false =>
    rw [if_neg Bool.false_ne_true]
    exact E.nx σ1 B2 H2 ρ1 μ2 (S1.mono e2) I2 (g1.trans e2) (h2.2 rfl)

/-! ### what is walked -/
theorem di_lst {R : List Dt → Mus → Prop} (h : DE X w e ρ μ fun r μ' => ∃ ds, r = .dat (.lst ds) ∧ R ds μ') : DI X w tg e ρ μ R := fun σ B H S I RR k =>
  tI_of (pi_list pe_self) (h σ B H S I _ fun v r B1 H1 μ1 I1 e1 q1 h1 => by
    obtain ⟨ds, rfl, h1⟩ := h1
    cases q1 with
    | @lst a xs _ ha hx =>
      have sq : ∀ H, Ex B1 H → SqL X.K H a xs := fun H e => .inl (.inl (e _ _ ha))
      refine ⟨a, rfl, ⟨xs, sq H1 I1.bh⟩, k (Itl X.K a) ds B1 H1 μ1 I1 e1 ⟨fun i H hi e => ?_, fun H e => ?_, fun i H x H' hi e y => ?_⟩ h1⟩
      · exact walk_list.goes i H (by rw [hx.length]; exact hi) (sq H e)
      · have z := (walk_list (K := X.K) (a := a) (xs := xs)).stops H (sq H e)
        rw [hx.length] at z; exact z
      · obtain ⟨e1, e2⟩ := walk_list.yields i H x H' (by rw [hx.length]; exact hi) (sq H e) y
        obtain ⟨d, h1, h2⟩ := hx.getV e2
        exact ⟨d, h1, .inl ⟨e1, h2⟩⟩)
theorem di_tup {R : List Dt → Mus → Prop} (h : DE X w e ρ μ fun r μ' => ∃ ds, r = .dat (.tup ds) ∧ R ds μ') : DI X w tg e ρ μ R := fun σ B H S I RR k =>
  tI_of (pi_tup pe_self) (h σ B H S I _ fun v r B1 H1 μ1 I1 e1 q1 h1 => by
    obtain ⟨ds, rfl, h1⟩ := h1
    cases q1 with
    | @tup a xs _ ha hx =>
      have sq : ∀ H, Ex B1 H → SqT X.K H a xs := fun H e => .inl (.inl (e _ _ ha))
      refine ⟨a, rfl, ⟨xs, sq H1 I1.bh⟩, k (Itt X.K a) ds B1 H1 μ1 I1 e1 ⟨fun i H hi e => ?_, fun H e => ?_, fun i H x H' hi e y => ?_⟩ h1⟩
      · exact walk_tup.goes i H (by rw [hx.length]; exact hi) (sq H e)
      · have z := (walk_tup (K := X.K) (a := a) (xs := xs)).stops H (sq H e)
        rw [hx.length] at z; exact z
      · obtain ⟨e1, e2⟩ := walk_tup.yields i H x H' (by rw [hx.length]; exact hi) (sq H e) y
        obtain ⟨d, h1, h2⟩ := hx.getV e2
        exact ⟨d, h1, .inl ⟨e1, h2⟩⟩)
def signs (z : Str) : List Dt := z.cps.toList.map fun c => .str ⟨#[c]⟩
theorem di_str {R : List Dt → Mus → Prop} (h : DE X w e ρ μ fun r μ' => ∃ z, r = .dat (.str z) ∧ R (signs z) μ') : DI X w tg e ρ μ R := fun σ B H S I RR k =>
  tI_of (pi_str pe_self) (h σ B H S I _ fun v r B1 H1 μ1 I1 e1 q1 h1 => by
    obtain ⟨z, rfl, h1⟩ := h1
    cases q1
    have hz : (signs z).length = z.cps.size := by simp [signs]
    refine ⟨z, rfl, k (Its z) (signs z) B1 H1 μ1 I1 e1 ⟨fun i H hi e => ?_, fun H e => ?_, fun i H x H' hi e y => ?_⟩ h1⟩
    · show i < z.cps.size; rw [← hz]; exact hi
    · show z.cps.size ≤ (signs z).length; rw [hz]; exact Nat.le_refl _
    · obtain ⟨e1, c, e2, e3⟩ := y
      subst e3
      exact ⟨.str ⟨#[c]⟩, by unfold signs; rw [List.getElem?_map, Array.getElem?_toList, e2]; rfl, .inl ⟨e1, .str _⟩⟩)
def upto (lo : Int) (n : Nat) : List Dt := (List.range n).map fun (k : Nat) => .int (lo + k)
theorem di_range1 {R : List Dt → Mus → Prop} (h : DA X w [e] ρ μ fun rs μ' => ∃ n : Int, rs = [.dat (.int n)] ∧ -(2 ^ 62) ≤ n ∧ n < 2 ^ 62 ∧ R (upto 0 n.toNat) μ') (hm : X.mg "range" = none) (hg : Gl X "range" := by rfl) (hs : starEach [e] X.env = [(false, eval e X.env)] := by rfl) :
    DI X w tg (.Call (.Name "range" p) [e] [] pos) ρ μ R := fun σ B H S I RR k =>
  tI_of (pi_range1 hg hm pa_self hs) (h σ B H S I _ fun vs rs B1 H1 μ1 I1 e1 q1 h1 => by
    obtain ⟨n, rfl, h2, h3, h1⟩ := h1
    have ev := DqA.ints (ns := [n]) (undat_q (ds := [.int n]) q1 rfl)
    subst ev
    have hz : (upto 0 n.toNat).length = n.toNat := by simp [upto]
    refine ⟨n, rfl, h2, h3, k (Itr 0 n.toNat) (upto 0 n.toNat) B1 H1 μ1 I1 e1 ⟨fun i H hi e => ?_, fun H e => ?_, fun i H x H' hi e y => ?_⟩ h1⟩
    · show i < n.toNat; rw [← hz]; exact hi
    · show n.toNat ≤ (upto 0 n.toNat).length; rw [hz]; exact Nat.le_refl _
    · obtain ⟨e1, e2⟩ := y
      subst e2
      exact ⟨.int (0 + (i : Nat)), by unfold upto; rw [List.getElem?_map, List.getElem?_range (by rw [← hz]; exact hi)]; rfl, .inl ⟨e1, .int _⟩⟩)

theorem ds_for {body : List Stmt} (h : DI X w tg e ρ μ fun items μ1 => ∃ J : Nat → List SV → Mus → Prop, J 0 ρ μ1 ∧
      (∀ n d ρ' μ', items[n]? = some d → J n ρ' μ' → DG X w tg (.dat d) ρ' μ' fun ρ2 μ2 => DSs X w body ρ2 μ2 { nx := J (n + 1), ct := J (n + 1), bk := P.nx, rt := P.rt }) ∧ ∀ ρ' μ', J items.length ρ' μ' → P.nx ρ' μ')
    (hp : PassesOwn (model X.prog X.w) X.A X.env X.xe) (hc : X.calm = true) (hf : ∀ z, foldedSetIterable e X.env z = pure z := by intro _; rfl) : DS X w (.For tg e body [] pos) ρ μ P := fun σ B H S I D E => by
  refine tS_of (ps_for hp hc pi_self pg_self pss_self hf) (h σ B H S I _ fun J items B1 H1 μ1 I1 e1 W h1 => ?_)
  obtain ⟨V, v0, turn, fin⟩ := h1
  let Y : Nat → Hp → L2.V → Hp → Prop := fun i H x H' => ∃ d, items[i]? = some d ∧ ((H' = H ∧ Dq B1 x d) ∨ ∃ T xs ds, x = .ref T ∧ H T = none ∧ H' = upd H T (.tup xs) ∧ DqA B1 xs ds ∧ d = .tup ds)
  have wk : Walk J items.length (fun H => Ex B1 H) Y := ⟨fun i H hi g => W.goes i H hi g, W.stops, W.yields⟩
  refine for_it wk (fun i σ H => ∃ B ρ μ, Sto B σ ρ ∧ SInv w B H μ ∧ Ex B1 B ∧ V i ρ μ) ⟨B1, ρ, μ1, S.mono e1, I1, Ex.refl _, v0⟩ (fun i σ H _ ⟨B, ρ, μ, _, I, g, _⟩ => g.trans I.bh) ?_ ?_
  · rintro i x σ2 H2 H3 hi ⟨B2, ρ2, μ2, S2, I2, g2, v2⟩ ⟨d, hd, hy⟩
    have fin2 : ∀ B3, Sto B3 σ2 ρ2 → SInv w B3 H3 μ2 → Ex B1 B3 → Dq B3 x d → tG X tg x σ2 H3 fun σ4 H4 => tB_ X body { D with nx := fun σ H => ∃ B ρ μ, Sto B σ ρ ∧ SInv w B H μ ∧ Ex B1 B ∧ V (i + 1) ρ μ, ct := fun σ H => ∃ B ρ μ, Sto B σ ρ ∧ SInv w B H μ ∧ Ex B1 B ∧ V (i + 1) ρ μ, bk := D.nx } σ4 H4 := fun B3 S3 I3 g3 q3 => by
      refine turn i d ρ2 μ2 hd v2 σ2 B3 H3 x S3 I3 q3 _ fun σ4 B4 H4 ρ4 μ4 S4 I4 e4 h4 => ?_
      exact h4 σ4 B4 H4 S4 I4 _ ⟨fun σ5 B5 H5 ρ5 μ5 S5 I5 e5 v5 => ⟨B5, ρ5, μ5, S5, I5, g3.trans (e4.trans e5), v5⟩, fun v r B5 H5 μ5 I5 e5 => E.rt v r B5 H5 μ5 I5 (e1.trans (g3.trans (e4.trans e5))),
        fun σ5 B5 H5 ρ5 μ5 S5 I5 e5 v5 => E.nx σ5 B5 H5 ρ5 μ5 S5 I5 (e1.trans (g3.trans (e4.trans e5))) v5, fun σ5 B5 H5 ρ5 μ5 S5 I5 e5 v5 => ⟨B5, ρ5, μ5, S5, I5, g3.trans (e4.trans e5), v5⟩⟩
    rcases hy with ⟨rfl, q⟩ | ⟨T, xs, ds, rfl, hT, rfl, q, rfl⟩
    · exact fin2 B2 S2 I2 g2 (q.mono g2)
    · have hb := (I2.free hT).1
      exact fin2 (upd B2 T (.tup xs)) (S2.mono (Ex.new hb)) (I2.new hT _) (g2.trans (Ex.new hb)) (.tup upd_same ((q.mono g2).mono (Ex.new hb)))
  · rintro σ2 H2 ⟨B2, ρ2, μ2, S2, I2, g2, v2⟩
    exact E.nx σ2 B2 H2 ρ2 μ2 S2 I2 (e1.trans g2) (fin ρ2 μ2 v2)
end
end Dat

set_option Elab.async false
set_option linter.all false
set_option maxRecDepth 100000
set_option maxHeartbeats 4000000
/-! Dat3: comprehensions; targets; the program's own defs. -/
namespace Dat
open PySem PySem.Spec PyProof.Rows L2

/-! ### an own object that nobody tells -/
section
variable {w : Wd} {B H : Hp} {μ : Mus} {p : Addr}
theorem SInv.own (I : SInv w B H μ) (hb : B p = none) (hw : w.H p = none) (hm : μ p = none) (o : HO) : SInv w B (upd H p o) μ := by
  refine ⟨I.b0, I.bh.mut hb, fun q u hM hq => ?_, fun q hq => ?_, I.out, fun q u hq => ?_⟩
  · rw [upd_ne (fun z => by rw [z, hw] at hq; cases hq)]; exact I.keep q u hM hq
  · by_cases e : q = p
    · rw [e, upd_same]; exact nofun
    · rw [upd_ne e]; exact I.there q hq
  · have e : q ≠ p := fun z => by rw [z, hm] at hq; cases hq
    obtain ⟨h1, h2, h3⟩ := I.mus q u hq
    exact ⟨h1, h2.mono (Ex.refl B) (upd_ne e), h3⟩
theorem SInv.told (I : SInv w B H μ) (hb : B p = none) (hw : w.H p = none) (hm : μ p = none) {o : HO} (ho : H p = some o) : SInv w (upd B p o) H μ := by
  refine ⟨I.b0.mut (I.b0.none hb), fun q u hq => ?_, I.keep, I.there, fun q hq hB => ?_, fun q u hq => ?_⟩
  · by_cases e : q = p
    · rw [e, upd_same] at hq; cases hq; rw [e]; exact ho
    · rw [upd_ne e] at hq; exact I.bh q u hq
  · rw [upd_ne (fun e => hq (by rw [e]; exact hw))]; exact I.out q hq hB
  · have e : q ≠ p := fun z => by rw [z, hm] at hq; cases hq
    obtain ⟨h1, h2, h3⟩ := I.mus q u hq
    exact ⟨by rw [upd_ne e]; exact h1, h2.mono (Ex.new hb) rfl, h3⟩
end

/-! ### comprehensions -/
/-- the context of a comprehension's block -/
abbrev Bk := Shared × Hp × Addr × List (Str × Addr) × List Addr
abbrev BX (X : Cx) (scope : Scope) (k : Bk) : Cx := X.blk k.1 k.2.1 scope (compEnvC scope k.2.2.2.1 k.2.2.1 X.env) k.2.2.2.2
def tQ (X : Cx) (ifs : List Expr) : TT := fun σ H Q => ∀ pins s, Inv X pins σ H s →
  wpAny (model X.prog X.w) X.A (forIn ifs true fun c r => if r = true then do let ok ← isTrue c X.env (eval c X.env); pure (ForInStep.yield ok) else pure (ForInStep.yield r)) (TP X pins σ Q) X.xe s
theorem pts_self {X : Cx} {ifs : List Expr} : PTs X ifs (tQ X ifs) := ⟨fun pins s _ _ _ I h => h pins s I⟩
theorem tQ_of {X : Cx} {ifs : List Expr} {t : TT} {σ : L2.St} {H : Hp} {Q : Bool → Hp → Prop} (h : PTs X ifs t) (q : t σ H Q) : tQ X ifs σ H Q := fun pins s I => h.run pins s σ H Q I q
def DQ (X : Cx) (w : Wd) (ifs : List Expr) (ρ : List SV) (μ : Mus) (R : Bool → Mus → Prop) : Prop :=
  ∀ σ B H, Sto B σ ρ → SInv w B H μ → ∀ Q : Bool → Hp → Prop, (∀ b B' H' μ', SInv w B' H' μ' → Ex B B' → R b μ' → Q b H') → tQ X ifs σ H Q
theorem dq_nil {X : Cx} {w : Wd} {ρ : List SV} {μ : Mus} {R : Bool → Mus → Prop} (h : R true μ) : DQ X w [] ρ μ R := fun σ B H S I Q k => tQ_of pts_nil (k true B H μ I (Ex.refl B) h)
theorem dq_one {X : Cx} {w : Wd} {ρ : List SV} {μ : Mus} {R : Bool → Mus → Prop} {c : Expr} (h : DT X w c ρ μ R) : DQ X w [c] ρ μ R := fun σ B H S I Q k => tQ_of (pts_one pt_self) (h σ B H S I Q k)

section
variable {X : Cx} {w : Wd} {ρ : List SV} {μ : Mus} {elt tg iter : Expr} {ifs : List Expr} {scope : Scope} {pos px : Pos} {x y : Str}
/-- what an element's turn is to do -/
def LcTurn (X : Cx) (scope : Scope) (elt : Expr) (ifs : List Expr) (ρ : List SV) (j : Nat) (J : Nat → List Dt → Mus → Prop) (n : Nat) (acc : List Dt) (d : Dt) (μ : Mus) : Prop :=
  ∀ w' k, DQ (BX X scope k) w' ifs (ρ.set j (.dat d)) μ fun b μ3 => (b = true → ∀ kc, DE (BX X scope kc) w' elt (ρ.set j (.dat d)) μ3 fun r μ4 => ∃ d', r = .dat d' ∧ J (n + 1) (acc ++ [d']) μ4) ∧ (b = false → J (n + 1) acc μ3)
def LcAsk (X : Cx) (scope : Scope) (elt : Expr) (ifs : List Expr) (ρ : List SV) (j : Nat) (R : SV → Mus → Prop) (items : List Dt) (μ1 : Mus) : Prop :=
  items.length ≤ 100000 ∧ ∃ J : Nat → List Dt → Mus → Prop, J 0 [] μ1 ∧ (∀ n acc d μ2, items[n]? = some d → acc.length ≤ n → J n acc μ2 → LcTurn X scope elt ifs ρ j J n acc d μ2) ∧
    ∀ acc μ', J items.length acc μ' → acc.length ≤ items.length → R (.dat (.lst acc)) μ'
def gE (X : Cx) (scope : Scope) (elt : Expr) : TE := fun σ H Q => ∀ k : Bk, tE (BX X scope k) elt σ H Q
def gQ (X : Cx) (scope : Scope) (ifs : List Expr) : TT := fun σ H Q => ∀ k : Bk, tQ (BX X scope k) ifs σ H Q
theorem lc_data {R : SV → Mus → Prop} {j : Nat} {σ : L2.St} {B H : Hp} {Q : VK} (h : DI X w (.Name x px) iter ρ μ (LcAsk X scope elt ifs ρ j R)) (S : Sto B σ ρ) (I : SInv w B H μ) (k : Kt w B R Q) :
    tLc (tI X (.Name x px) iter) (gName j) (gQ X scope ifs) (gE X scope elt) [j] σ H Q := by
  refine h σ B H S I _ fun J items B1 H1 μ1 I1 e1 W h1 D hD => ?_
  obtain ⟨hlen, V, v0, turn, fin⟩ := h1
  obtain ⟨bD, mD, wD⟩ := I1.free hD
  let Y : Nat → Hp → L2.V → Hp → Prop := fun i H x H' => ∃ d, items[i]? = some d ∧ ((H' = H ∧ Dq B1 x d) ∨ ∃ T xs ds, x = .ref T ∧ H T = none ∧ H' = upd H T (.tup xs) ∧ DqA B1 xs ds ∧ d = .tup ds)
  have wk : Walk J items.length (fun H => Ex B1 H) Y := ⟨fun i H hi g => W.goes i H hi g, W.stops, W.yields⟩
  let Pv : Nat → Hp → Prop := fun i H' => ∃ B' μ' acc xs, SInv w B' H' μ' ∧ Ex B1 B' ∧ μ' D = none ∧ B' D = none ∧ H' D = some (.lst xs) ∧ DqA B' xs acc ∧ acc.length ≤ i ∧ V i acc μ'
  refine lc_it wk Pv ⟨B1, μ1, [], [], I1.own bD wD mD _, Ex.refl _, mD, bD, upd_same, .nil, Nat.le_refl _, v0⟩ (fun i H' _ ⟨B', _, _, _, I', g, _⟩ => g.trans I'.bh) ?_ ?_
  · rintro i v H2 H3 hi ⟨B2, μ2, acc, xs, I2, g2, m2, b2, hx, qx, hl, v2⟩ ⟨d, hd, hy⟩
    refine ⟨by simp [wipe, List.set_set], ?_⟩
    have core : ∀ B3, SInv w B3 H3 μ2 → Ex B2 B3 → B3 D = none → H3 D = some (.lst xs) → Dq B3 v d →
        gQ X scope ifs ((wipe σ [j]).set j (some v)) H3 fun b H4 => if b = true then gE X scope elt ((wipe σ [j]).set j (some v)) H4 fun y H5 => ∃ acc, H5 D = some (.lst acc) ∧ acc.length < sizeLine ∧ Pv (i + 1) (upd H5 D (.lst (acc ++ [y]))) else Pv (i + 1) H4 := by
      intro B3 I3 e3 b3 h3 q3 kb
      have J3 : SInv ⟨B3, H3, fun p => μ2 p ≠ none⟩ B3 H3 μ2 := SInv.start I3.bh fun p o z => ⟨(I3.mus p o z).1, (I3.mus p o z).2.1⟩
      have S3 : Sto B3 ((wipe σ [j]).set j (some v)) (ρ.set j (.dat d)) := by
        have s1 : Sto B3 σ ρ := S.mono (e1.trans (g2.trans e3))
        have s2 : Sto B3 (wipe σ [j]) (ρ.set j .no) := s1.wipe [j] _ (by rw [List.length_set]) fun i r hr => by
          by_cases e : j = i
          · subst e
            by_cases hl : j < ρ.length
            · rw [List.getElem?_set_self hl] at hr; cases hr; exact .inl rfl
            · rw [List.getElem?_eq_none (by rw [List.length_set]; omega)] at hr; cases hr
          · rw [List.getElem?_set_ne e] at hr
            exact .inr ⟨by simpa using fun z => e z.symm, hr⟩
        have s3 := s2.set j (r := .dat d) (v := v) q3
        rwa [List.set_set] at s3
      -- what holds of D behind a piece of the turn
      have keepD : ∀ {B4 H4 μ4}, SInv ⟨B3, H3, fun p => μ2 p ≠ none⟩ B4 H4 μ4 → μ4 D = none ∧ B4 D = none ∧ H4 D = some (.lst xs) := fun {B4 H4 μ4} J4 => by
        refine ⟨?_, J4.out D (by show H3 D ≠ none; rw [h3]; exact nofun) b3, J4.keep D _ (fun z => z m2) h3⟩
        cases z : μ4 D with
        | none => rfl
        | some o =>
          rcases (J4.mus D o z).2.2 with c | c
          · exact absurd m2 c
          · rw [show H3 D = none from c] at h3; cases h3
      have hacc : xs.length < sizeLine := by
        rw [qx.length]
        have : i < items.length := hi
        exact Nat.lt_of_le_of_lt (Nat.le_trans hl (Nat.le_of_lt this)) (Nat.lt_of_le_of_lt hlen (by decide))
      have t := turn i acc d μ2 hd hl v2
      refine (t _ kb) _ B3 H3 S3 J3 _ fun b B4 H4 μ4 J4 e4 h4 => ?_
      cases b with
      | false =>
        rw [if_neg Bool.false_ne_true]
        obtain ⟨k1, k2, k3⟩ := keepD J4
        exact ⟨B4, μ4, acc, xs, I3.back J4, g2.trans (e3.trans e4), k1, k2, k3, (qx.mono e3).mono e4, Nat.le_succ_of_le hl, h4.2 rfl⟩
      | true =>
        rw [if_pos rfl]
        intro kc
        refine h4.1 rfl kc _ B4 H4 (S3.mono e4) J4 _ fun y r B5 H5 μ5 J5 e5 q5 h5 => ?_
        · obtain ⟨d', rfl, h5⟩ := h5
          obtain ⟨k1, k2, k3⟩ := keepD J5
          refine ⟨xs, k3, hacc, B5, μ5, acc ++ [d'], xs ++ [y], (I3.back J5).own k2 wD k1 _, g2.trans (e3.trans (e4.trans e5)), k1, k2, upd_same, (((qx.mono e3).mono e4).mono e5).snoc q5, by rw [List.length_append]; exact Nat.succ_le_succ hl, h5⟩
    rcases hy with ⟨rfl, q⟩ | ⟨T, ys, ds, rfl, hT, rfl, q, rfl⟩
    · exact core B2 I2 (Ex.refl _) b2 hx (q.mono g2)
    · have hb := (I2.free hT).1
      have ne : D ≠ T := fun z => by rw [z, hT] at hx; cases hx
      exact core (upd B2 T (.tup ys)) (I2.new hT _) (Ex.new hb) (by rw [upd_ne ne]; exact b2) (by rw [upd_ne ne]; exact hx) (.tup upd_same ((q.mono g2).mono (Ex.new hb)))
  · rintro H' ⟨B', μ', acc, xs, I', g', m', b', hx, qx, hl, v'⟩
    exact k (.ref D) (.dat (.lst acc)) (upd B' D (.lst xs)) H' μ' (I'.told b' wD m' hx) (e1.trans (g'.trans (Ex.new b'))) (Dq.lst upd_same (qx.mono (Ex.new b'))) (fin acc μ' v' hl)
end
end Dat

set_option Elab.async false
set_option linter.all false
set_option maxRecDepth 100000
set_option maxHeartbeats 4000000
/-! Dat4: comprehensions as expressions; targets; the program's own defs, called where no repr is under way. -/
namespace Dat
open PySem PySem.Spec PyProof.Rows L2
section
variable {X : Cx} {w : Wd} {ρ : List SV} {μ : Mus} {R : SV → Mus → Prop} {P : Po} {elt tg iter e : Expr} {es : List Expr} {ifs : List Expr} {scope : Scope} {pos px p py spos : Pos} {x y : Str}
theorem de_lc (j : Nat) (hc : X.calm = true) (hN : X.N.Nodup) (ok : BlkOk X.N X.env.scope scope [(x, j)]) (h : DI X w (.Name x px) iter ρ μ (LcAsk X scope elt ifs ρ j R)) (hi : X.N[j]? = some x := by rfl)
    (hx : ∀ k, Loc (BX X scope k).env.scope x := by intro _; first | exact Or.inl rfl | exact Or.inr rfl) (hf : ∀ k, (BX X scope k).fn x = true ∨ (BX X scope k).env.scope.names.lookup x = some .local := by intro _; first | exact Or.inr rfl | exact Or.inl rfl)
    (hs : ∀ z, foldedSetIterable iter X.env z = pure z := by intro _; rfl) : DE X w (.ListComp elt [⟨.Name x px, iter, ifs, 0⟩] scope pos) ρ μ R := fun σ B H S I Q k =>
  tE_of (pe_lc (own := [(x, j)]) (g := gName j) (tt := gQ X scope ifs) (te := gE X scope elt) hc hN pi_self ok (fun s H C cl fp => pg_name (X := BX X scope (s, H, C, cl, fp)) hN hi (hx (s, H, C, cl, fp)) (hf (s, H, C, cl, fp)))
    (fun s H C cl fp => ⟨fun pins s1 σ1 H1 Q1 I1 q => q (s, H, C, cl, fp) pins s1 I1⟩) (fun s H C cl fp => ⟨fun pins s1 σ1 H1 Q1 I1 q => q (s, H, C, cl, fp) pins s1 I1⟩) hs) (lc_data h S I k)
/-- name = [..], the name a local -/
theorem ds_setLc (i j : Nat) (hc : X.calm = true) (hN : X.N.Nodup) (ok : BlkOk X.N X.env.scope scope [(x, j)]) (h : DI X w (.Name x px) iter ρ μ (LcAsk X scope elt ifs ρ j fun r μ' => P.nx (ρ.set i r) μ')) (hi : X.N[j]? = some x := by rfl) (hy : X.N[i]? = some y := by rfl)
    (hyl : X.env.scope.names.lookup y = some .local := by rfl) (hsw : swapsWith (.ListComp elt [⟨.Name x px, iter, ifs, 0⟩] scope pos) (some (.Name y py)) spos.line X.env = pure true := by exact sw_true rfl rfl rfl (by decide +kernel))
    (hx : ∀ k, Loc (BX X scope k).env.scope x := by intro _; first | exact Or.inl rfl | exact Or.inr rfl) (hf : ∀ k, (BX X scope k).fn x = true ∨ (BX X scope k).env.scope.names.lookup x = some .local := by intro _; first | exact Or.inr rfl | exact Or.inl rfl)
    (hs : ∀ z, foldedSetIterable iter X.env z = pure z := by intro _; rfl) : DS X w (.Assign [.Name y py] (.ListComp elt [⟨.Name x px, iter, ifs, 0⟩] scope pos) spos) ρ μ P := fun σ B H S I D E =>
  tS_of (ps_setLc (own := [(x, j)]) (g := gName j) (tt := gQ X scope ifs) (te := gE X scope elt) hc hN hy hyl hsw pi_self ok (fun s H C cl fp => pg_name (X := BX X scope (s, H, C, cl, fp)) hN hi (hx (s, H, C, cl, fp)) (hf (s, H, C, cl, fp)))
    (fun s H C cl fp => ⟨fun pins s1 σ1 H1 Q1 I1 q => q (s, H, C, cl, fp) pins s1 I1⟩) (fun s H C cl fp => ⟨fun pins s1 σ1 H1 Q1 I1 q => q (s, H, C, cl, fp) pins s1 I1⟩) hs)
    (lc_data (Q := fun v H1 => D.nx (σ.set i (some v)) H1) h S I fun v r B1 H1 μ1 I1 e1 q1 h1 => E.nx _ B1 H1 _ μ1 ((S.mono e1).set i q1) I1 e1 h1)

/-! ### targets -/
theorem dg_name (i : Nat) {r : SV} {T : List SV → Mus → Prop} (hN : X.N.Nodup) (h : T (ρ.set i r) μ) (hi : X.N[i]? = some x := by rfl) (hx : Loc X.env.scope x := by first | exact Or.inl rfl | exact Or.inr rfl)
    (hf : X.fn x = true ∨ X.env.scope.names.lookup x = some .local := by first | exact .inl rfl | exact .inr rfl) : DG X w (.Name x pos) r ρ μ T := fun σ B H v S I q Q k =>
  tG_of (pg_name hN hi hx hf) (k _ B H _ μ (S.set i q) I (Ex.refl B) h)
def tGs (X : Cx) (ts : List Expr) : TGs := fun vs σ H Q => ∀ pins s us, Inv X pins σ H s → Vals vs us → wpAny (model X.prog X.w) X.A (assignInOrder ((assignEach ts X.env).map (·.2)) us) (fun _ s' => ∃ σ' H', Inv X pins σ' H' s' ∧ Q σ' H') X.xe s
theorem pgs_self {ts : List Expr} : PGs X ts (tGs X ts) := ⟨fun pins s _ _ _ us _ I r h => h pins s us I r⟩
theorem tGs_of {ts : List Expr} {t : TGs} {vs : List V} {σ : L2.St} {H : Hp} {Q : L2.St → Hp → Prop} (h : PGs X ts t) (q : t vs σ H Q) : tGs X ts vs σ H Q := fun pins s us I r => h.run pins s σ H vs us Q I r q
def DGs (X : Cx) (w : Wd) (ts : List Expr) (ds : List Dt) (ρ : List SV) (μ : Mus) (T : List SV → Mus → Prop) : Prop :=
  ∀ σ B H vs, Sto B σ ρ → SInv w B H μ → DqA B vs ds → ∀ Q : L2.St → Hp → Prop, (∀ σ' B' H' ρ' μ', Sto B' σ' ρ' → SInv w B' H' μ' → Ex B B' → T ρ' μ' → Q σ' H') → tGs X ts vs σ H Q
theorem dgs_nil {T : List SV → Mus → Prop} (h : T ρ μ) : DGs X w [] [] ρ μ T := fun σ B H vs S I q Q k => by
  cases q
  exact tGs_of pgs_nil ⟨rfl, k σ B H ρ μ S I (Ex.refl B) h⟩
theorem dgs_cons {d : Dt} {ds : List Dt} {T : List SV → Mus → Prop} (h : DG X w e (.dat d) ρ μ fun ρ1 μ1 => DGs X w es ds ρ1 μ1 T) (hs : (assignEach (e :: es) X.env).map (·.2) = assign e X.env :: (assignEach es X.env).map (·.2) := by rfl) :
    DGs X w (e :: es) (d :: ds) ρ μ T := fun σ B H vs S I q Q k => by
  cases q with
  | cons q1 q2 =>
    exact tGs_of (pgs_cons pg_self pgs_self hs) ⟨_, _, rfl, h σ B H _ S I q1 _ fun σ1 B1 H1 ρ1 μ1 S1 I1 e1 h1 => h1 σ1 B1 H1 _ S1 I1 (q2.mono e1) Q fun σ2 B2 H2 ρ2 μ2 S2 I2 e2 => k σ2 B2 H2 ρ2 μ2 S2 I2 (e1.trans e2)⟩
theorem dg_tup {ds : List Dt} {k : Nat} {T : List SV → Mus → Prop} (hc : X.calm = true) (h : DGs X w es ds ρ μ T) (hl : ds.length = es.length) (hn : (assignEach es X.env).length = es.length := by rfl) (hst : (assignEach es X.env).findIdx? (·.1) = none := by rfl) :
    DG X w (.Tuple es k pos) (.dat (.tup ds)) ρ μ T := fun σ B H v S I q Q kk => by
  cases q with
  | @tup a xs _ ha hx => exact tG_of (pg_tup hc pgs_self hn hst) ⟨a, xs, rfl, .inl (.inl (I.bh _ _ ha)), by rw [hx.length, hl], h σ B H xs S I hx Q kk⟩
/-- pot[0] = n, pot[1] = n -/
theorem dg_pot {o i : Expr} {n : Int} {T : List SV → Mus → Prop} (h : DE X w o ρ μ fun r μ1 => ∃ q, r = .at q ∧ DE X w i ρ μ1 fun r2 μ2 => μ2 q = some .pot ∧ ((r2 = .dat (.int 0) ∧ 0 ≤ n) ∨ (r2 = .dat (.int 1) ∧ 0 ≤ n ∧ n < 4294967296)) ∧ T ρ μ2)
    (ha : ∀ v, assign (.Subscript o i pos) X.env v = (do
      let ov ← holding [v] (eval o X.env)
      let iv ← holding [v, ov] (eval i X.env)
      standAt pos
      holding [v, ov, iv] (setItem ov iv v)
      release [v, ov, iv] []) := by intro _; rfl) : DG X w (.Subscript o i pos) (.dat (.int n)) ρ μ T := fun σ B H v S I q Q k => by
  cases q
  refine tG_of (pg_sub pe_self pe_self set_list ha) (h σ B H S I _ fun v1 r1 B1 H1 μ1 I1 e1 q1 h1 => ?_)
  obtain ⟨p, rfl, h1⟩ := h1
  cases (show v1 = V.ref p from q1)
  refine h1 σ B1 H1 (S.mono e1) I1 _ fun v2 r2 B2 H2 μ2 I2 e2 q2 h2 => ?_
  obtain ⟨hm, hr, hT⟩ := h2
  obtain ⟨_, ⟨a, b, ha, hb, hb2, hH⟩, _⟩ := I2.mus p _ hm
  rcases hr with ⟨rfl, hn⟩ | ⟨rfl, hn, hn2⟩
  · cases q2
    refine ⟨p, _, 0, 0, rfl, rfl, hH, rfl, k σ B2 _ ρ (μ2.put p .pot) (S.mono (e1.trans e2)) (I2.set hm .pot ⟨n, b, hn, hb, hb2, upd_same⟩) (e1.trans e2) ?_⟩
    rw [put_self hm]; exact hT
  · cases q2
    refine ⟨p, _, 1, 1, rfl, rfl, hH, rfl, k σ B2 _ ρ (μ2.put p .pot) (S.mono (e1.trans e2)) (I2.set hm .pot ⟨a, n, ha, hn, hn2, upd_same⟩) (e1.trans e2) ?_⟩
    rw [put_self hm]; exact hT
end

/-! ### the program's own defs -/
/-- a def's promise, of calls where no repr is under way -/
structure FnG (P : Program) (w : World) (K : PySem.W.Frag) (mg : Str → Option Value) (base : Heap) (k : Nat) (f : Addr) (fd : FuncData) (ps : List Str) (sp : Sp) : Prop where
  len : ∀ vs H Q E, sp vs H Q E → vs.length = ps.length
  run : ∀ (A : Around) (outer : List Env) (s : Shared) (H : Hp) (args : Args) (us : List Value) (vs : List V) (Q : VK) (E : XK), Room k A → A.guards = some [] → Env0 P w K mg base A outer s H → BindsTo s fd args (ps.zip us) → Vals vs us → sp vs H Q E →
    codeAny (model P w) A (.call (.ref f) args) (CR CX0 outer P w H s Q E) s
/-- over data: pre of the arguments, post of the answer -/
def GSp (pre : List SV → Mus → Prop) (post : List SV → Mus → SV → Mus → Prop) : Sp := fun vs H Q _ => ∃ B rs μ, SvA B vs rs ∧ Ex B H ∧ (∀ p o, μ p = some o → B p = none ∧ MoOk B H p o) ∧ pre rs μ ∧
  ∀ v r B' H' μ', SInv ⟨B, H, fun p => μ p ≠ none⟩ B' H' μ' → Svq B' v r → post rs μ r μ' → Q v H'
section
variable {P : Program} {wd : World} {K : PySem.W.Frag} {mg : Str → Option Value} {base : Heap}
/-- the context of a def's body -/
abbrev bx (P : Program) (wd : World) (K : PySem.W.Frag) (mg : Str → Option Value) (base : Heap) (N : List Str) (qual : Str) (st : Stmt) (f : Addr) (cdv : Value) (A : Around) (outer : List Env) (s : Shared) (H : Hp) : Cx :=
  (cxOf CX0 P wd K mg base N qual (defScope st) f cdv A outer s H E0).nox
theorem start_sto {N : List Str} {B : Hp} {vs : List V} {rs : List SV} (h : SvA B vs rs) : Sto B (L2.start N vs) (rs ++ List.replicate (N.length - rs.length) .no) := by
  have hl := h.length
  refine ⟨by unfold L2.start; simp [hl], fun i r hr => ?_⟩
  by_cases hi : i < rs.length
  · refine .inr ?_
    rw [List.getElem?_append_left hi] at hr
    have : ∀ {vs : List V} {rs : List SV} {i : Nat} {r : SV}, SvA B vs rs → rs[i]? = some r → ∃ v, vs[i]? = some v ∧ Svq B v r := by
      intro vs rs i r h
      induction h generalizing i with
      | nil => intro e; simp at e
      | cons h1 h2 ih =>
        intro e
        cases i with
        | zero => simp at e; subst e; exact ⟨_, rfl, h1⟩
        | succ i => exact ih (by simpa using e)
    obtain ⟨v, h1, h2⟩ := this h hr
    refine ⟨v, ?_, h2⟩
    unfold L2.start
    rw [List.getElem?_append_left (by rw [List.length_map, hl]; exact hi), List.getElem?_map, h1]
    rfl
  · rw [List.getElem?_append_right (by omega), List.getElem?_replicate] at hr
    split at hr
    · cases hr; exact .inl rfl
    · cases hr
theorem fn_ok {x qual : Str} {st : Stmt} {f : Addr} {fd : FuncData} {N ps : List Str} {k : Nat} {pre : List SV → Mus → Prop} {post : List SV → Mus → SV → Mus → Prop} (F : Fun K x qual st f fd) (S : FnScope N ps (defScope st))
    (len : ∀ rs μ, pre rs μ → rs.length = ps.length)
    (body : ∀ (cdv : Value) (A : Around) (outer : List Env) (s : Shared) (H : Hp), Room k (bx P wd K mg base N qual st f cdv A outer s H).A → (bx P wd K mg base N qual st f cdv A outer s H).A.guards = some [] → ∀ w rs μ, pre rs μ →
      DSs (bx P wd K mg base N qual st f cdv A outer s H) w (defBody st) (rs ++ List.replicate (N.length - rs.length) .no) μ { nx := fun _ μ' => ∃ ν, ν.Sub μ' ∧ post rs μ (.dat .non) ν, rt := fun r μ' => ∃ ν, ν.Sub μ' ∧ post rs μ r ν }) :
    FnG P wd K mg base (k + 1) f fd ps (GSp pre post) := by
  have len' : ∀ vs H Q E, GSp pre post vs H Q E → vs.length = ps.length := fun vs H Q E h => by
    obtain ⟨B, rs, μ, h1, _, _, h2, _⟩ := h
    rw [h1.length]; exact len rs μ h2
  obtain ⟨oc, od, kV, doc, pm, an, cdv, ct, osl, rfl, lk, hcd⟩ := F.ex
  refine ⟨len', fun A outer s H args us vs Q E hr hg en hb rv hsp => ?_⟩
  have inK : K.In s.heap := en.mod.kin.keeps fun b o z => (en.bs b o z).1
  refine codeAny_call_function hr.depth (inK _ _ lk) rfl S.co S.gen rfl (PySem.W.codeRec_of inK hcd) (hb _ _ _ _ (wpAny_newFunctionEnv_cells S.kind ?_ fun env he s1 hx => ?_))
  · rintro ⟨n, v⟩ hy
    have q := S.par n (List.of_mem_zip hy).1
    exact q.imp id fun z => ⟨z, PySem.W.cellsFrom_some _ _ _ (.inl z)⟩
  · subst he
    refine ⟨(en.mod.nolimit.keeps fun b o z => (en.bs b o z).1).keeps hx.toInCall.keep, codeAny_func ?_⟩
    have I0 := inv_start (CX := CX0) (qual := qual) (f := f) (cd := cdv) (E := E) S hr.hd en (len' _ _ _ _ hsp) rv hx
    obtain ⟨B, rs, μ, q1, q2, q3, q4, q5⟩ := id hsp
    have b0 := body cdv A outer s H (hr.deeper _) hg ⟨B, H, fun p => μ p ≠ none⟩ rs μ q4 (L2.start N vs) B H (start_sto q1) (SInv.start q2 q3) { nx := fun _ H' => Q .non H', rt := Q }
      ⟨fun _ B' H' _ μ' _ J _ ⟨ν, hν, h⟩ => q5 .non (.dat .non) B' H' ν (J.sub hν) Dq.non h, fun v r B' H' μ' J _ q ⟨ν, hν, h⟩ => q5 v r B' H' ν (J.sub hν) q h, fun _ _ _ _ _ _ _ _ h => h.elim, fun _ _ _ _ _ _ _ _ h => h.elim⟩
    refine wpAny_mono (b0 [] s1 (I0.wish _)) (fun fl s' hs => ?_) fun _ _ hs => hs.elim
    have done : ∀ {σ' : L2.St} {H' : Hp} {v : V} {u : Value}, Inv (bx P wd K mg base N qual st f cdv A outer s H) [] σ' H' s' → RelV v u → Q v H' → CE outer P wd H s Q u s' := fun {σ' H' v u} J rv q => ⟨v, H', J.os, J.bare, J.base, J.hok, rv, q⟩
    cases fl with
    | ret u => obtain ⟨v, σ', H', J, rv, q⟩ := hs; exact done J rv q
    | next => obtain ⟨σ', H', J, q⟩ := hs; exact done (v := V.non) (u := Value.none) J rfl q
    | brk => obtain ⟨_, _, _, q⟩ := hs; exact q.elim
    | cont => obtain ⟨_, _, _, q⟩ := hs; exact q.elim
end
section
variable {X : Cx} {w : Wd} {ρ : List SV} {μ : Mus} {R : SV → Mus → Prop} {e : Expr} {es : List Expr} {x : Str} {p pos : Pos} {k : Nat} {f : Addr} {fd : FuncData} {ps : List Str}
theorem de_call {pre : List SV → Mus → Prop} {post : List SV → Mus → SV → Mus → Prop} (F : FnG X.prog X.w X.K X.mg X.base k f fd ps (GSp pre post)) (hr : Room k X.A) (hgd : X.A.guards = some []) (hm : X.mg x = some (.ref f)) (hk : PySem.W.keepIn X.K (.ref f) = true) (hb : Binds X.K fd ps [])
    (ha : DA X w (e :: es) ρ μ fun rs μ1 => pre rs μ1 ∧ ∀ r μ2, post rs μ1 r μ2 → R r μ2) (hg : Gl X x := by rfl) (hdb : (x == ("__debug__" : Str)) = false := by decide)
    (he : starEach (e :: es) X.env = (false, eval e X.env) :: starEach es X.env := by rfl) (hpl : (backTo pos (starEach es X.env)).any (·.1) = false := by rfl) : DE X w (.Call (.Name x p) (e :: es) [] pos) ρ μ R := fun σ B H S I Q kk pins s J => by
  refine wpAny_Call_Name_kw (ld_glob J hg hm ?_ hdb)
  refine PySem.W.callWith_K (h₀ := X.base) J.ok.mod.kin hk (thn ((pa_self (X := X) (es := e :: es)).run pos pins s σ H _ J (ha σ B H S I
    (fun vs H1 => ∀ us s1, Inv X pins σ H1 s1 → Vals vs us → wpAny (model X.prog X.w) X.A (call (.ref f) us) (EP X pins σ Q) X.xe s1) ?_)) fun us s1 ⟨vs, H1, J1, rv, q⟩ => ⟨J1.kIn, q us s1 J1 rv⟩) he hpl
  intro vs rs B1 H1 μ1 I1 e1 q1 h1 us s1 J1 rv
  have hsp : GSp pre post vs H1 Q E0 := ⟨B1, rs, μ1, q1, I1.bh, fun p o z => ⟨(I1.mus p o z).1, (I1.mus p o z).2.1⟩, h1.1, fun v r B' H' μ' L qv hp => kk v r B' H' μ' (I1.back L) (e1.trans L.b0) qv (h1.2 r μ' hp)⟩
  have hl : (us ++ []).length = ps.length := by rw [List.append_nil, ← rv.length]; exact F.len _ _ _ _ hsp
  have bd := hb s1 us J1.kIn hl
  rw [List.append_nil] at bd
  refine wpAny_call (codeAny_mono (F.run X.A X.stack s1 H1 ⟨us, []⟩ us vs Q E0 hr hgd J1.env0 bd rv hsp) fun r s' hq => ?_)
  match r, hq with
  | .ok (.ret u), hq => exact J1.after hq
  | .ok .next, hq => exact hq.elim
  | .ok .brk, hq => exact hq.elim
  | .ok .cont, hq => exact hq.elim
  | .error _, hq => exact hq.elim
end
end Dat

set_option Elab.async false
set_option linter.all false
set_option maxRecDepth 100000
set_option maxHeartbeats 4000000
/-! Dat5: repr of data. -/
namespace Dat
open PySem PySem.Spec PyProof.Rows L2
mutual
def toPy : Dt → PyData
  | .non => .none | .bl b => .bool b | .int i => .int i | .str x => .str x | .lst xs => .list (toPyA xs) | .tup xs => .tuple (toPyA xs) | .dic ks vs => .dict ((toPyA ks).zip (toPyA vs)) | .obj _ _ _ => .none | .mix _ ks vs => .dict ((toPyA ks).zip (toPyA vs)) | .err _ _ _ => .none
def toPyA : List Dt → List PyData
  | [] => []
  | d :: ds => toPy d :: toPyA ds
end
mutual
/-- what repr is told of: no own objects -/
def plain : Dt → Bool
  | .lst xs => plainA xs | .tup xs => plainA xs | .dic ks vs => plainA vs | .obj _ _ _ => false | .mix _ ks vs => plainA ks && plainA vs | .err _ _ _ => false | _ => true
def plainA : List Dt → Bool
  | [] => true
  | d :: ds => plain d && plainA ds
end
mutual
def hasLst : Dt → Bool
  | .lst _ => true | .tup xs => hasLstA xs | .dic ks vs => hasLstA vs | .mix _ ks vs => hasLstA ks || hasLstA vs | _ => false
def hasLstA : List Dt → Bool
  | [] => false
  | d :: ds => hasLst d || hasLstA ds
end
theorem toPyA_map : ∀ ds : List Dt, toPyA ds = ds.map toPy
  | [] => by simp [toPyA]
  | d :: ds => by simp [toPyA, toPyA_map ds]
theorem toPyA_len (ds : List Dt) : (toPyA ds).length = ds.length := by rw [toPyA_map, List.length_map]
theorem keyVals {κ : Type} : ∀ {kvs : List (κ × V)} {vs : List (κ × Value)}, KV kvs vs → Vals (kvs.map (·.2)) (vs.map (·.2))
  | _, _, .nil => .nil
  | _, _, .cons h t => .cons h.2 (keyVals t)
section
variable {X : Cx} {pins : List (Addr × Obj)} {σ : L2.St} {H : Hp} {s : Shared} {h : Heap}
theorem dictParts {P : Program} {w : World} : ∀ {es : List DictEntry} {vs : List (Key × Value)} {kvs : List (Key × V)}, Pairs (mixKind P w) es vs → KV kvs vs →
    ReadsAll h (es.map (·.key)) (toPyA (kvs.map fun kv => keyD kv.1)) [] ∧ Vals (kvs.map (·.2)) (es.map (·.val)) := by
  intro es vs kvs p r
  induction p generalizing kvs with
  | nil => cases r; exact ⟨.nil, .nil⟩
  | @cons e kv es' vs' hk hv t ih =>
    cases r with
    | @cons a _ l1 _ r1 r2 =>
      obtain ⟨h1, h2⟩ := ih r2
      have q : Reads h e.key (toPy (keyD a.1)) [] := by
        rcases keyIs_shape (show keyIs kv.1 e.key = true from hk) with ⟨i, t, e1, e2⟩ | ⟨x, t, e1, e2⟩
        · rw [r1.1, e1, e2]; exact .int i t
        · rw [r1.1, e1, e2]; exact .str x t
      refine ⟨?_, .cons (by show L2.RelV a.2 e.val; rw [hv]; exact r1.2) h2⟩
      have z := ReadsAll.cons q h1
      rw [List.map_cons, List.map_cons, toPyA]
      exact z
theorem mixParts : ∀ {es : List DictEntry} {l : List (Int × V × V)}, Paired (fun (e : DictEntry) (x : Int × V × V) => e.hash = x.1 ∧ RelV x.2.1 e.key ∧ RelV x.2.2 e.val) es l → Vals (l.map (·.2.1)) (es.map (·.key)) ∧ Vals (l.map (·.2.2)) (es.map (·.val))
  | _, _, .nil => ⟨.nil, .nil⟩
  | _, _, .cons h t => ⟨.cons h.2.1 (mixParts t).1, .cons h.2.2 (mixParts t).2⟩
theorem zip_maps {α β : Type} : ∀ {as : List α} {bs : List β}, as.length = bs.length → (as.zip bs).map (·.1) = as ∧ (as.zip bs).map (·.2) = bs
  | [], [], _ => ⟨rfl, rfl⟩
  | a :: as, b :: bs, h => by
    obtain ⟨h1, h2⟩ := zip_maps (as := as) (bs := bs) (by simpa using h)
    exact ⟨by rw [List.zip_cons_cons, List.map_cons, h1], by rw [List.zip_cons_cons, List.map_cons, h2]⟩
  | [], _ :: _, h => by simp at h
  | _ :: _, [], h => by simp at h
mutual
theorem Dq.reads (I : Inv X pins σ H s) : ∀ (d : Dt) (v : V) (u : Value), Dq H v d → plain d = true → RelV v u → ∃ as, Reads s.heap u (toPy d) as ∧ (hasLst d = false → sysModules ∉ as)
  | .non, _, _, h, _, r => by cases h; cases r; exact ⟨[], by rw [toPy]; exact .none, fun _ => List.not_mem_nil⟩
  | .bl b, _, _, h, _, r => by cases h; cases r; exact ⟨[], by rw [toPy]; exact .bool b, fun _ => List.not_mem_nil⟩
  | .int i, _, _, h, _, r => by cases h; obtain ⟨t, rfl⟩ := r; exact ⟨[], by rw [toPy]; exact .int i t, fun _ => List.not_mem_nil⟩
  | .str x, _, _, h, _, r => by cases h; obtain ⟨t, rfl⟩ := r; exact ⟨[], by rw [toPy]; exact .str x t, fun _ => List.not_mem_nil⟩
  | .lst ds, _, _, h, hp, r => by
    cases h with
    | lst hs ha =>
      cases r
      obtain ⟨_, its, n, rv, ho⟩ := (show ObjOk X.prog X.w H s.heap _ (.lst _) from I.hok _ _ hs)
      obtain ⟨as, hr, _⟩ := Dq.readsA I ds _ its ha (by simpa [plain] using hp) rv
      exact ⟨_, by rw [toPy]; exact .list ho rfl rfl hr, fun z => by simp [hasLst] at z⟩
  | .tup ds, _, _, h, hp, r => by
    cases h with
    | tup hs ha =>
      cases r
      obtain ⟨_, its, rv, o, ho, hc, n, hd⟩ := (show ObjOk X.prog X.w H s.heap _ (.tup _) from I.hok _ _ hs)
      obtain ⟨as, hr, hm⟩ := Dq.readsA I ds _ its ha (by simpa [plain] using hp) rv
      exact ⟨as, by rw [toPy]; exact .tuple ho hc hd hr, fun z => hm (by simpa [hasLst] using z)⟩
  | .dic ks ds, _, _, h, hp, r => by
    cases h with
    | @dic a kvs _ hs ha =>
      cases r
      obtain ⟨_, hsm, vs, rv, o, es, ep, ho, hx, hd, _, pr, _⟩ := (show ObjOk X.prog X.w H s.heap _ (.dK _) from I.hok _ _ hs)
      obtain ⟨h1, h2⟩ := dictParts (h := s.heap) pr rv
      obtain ⟨as, hr, hm⟩ := Dq.readsA I ds _ _ ha (by simpa [plain] using hp) h2
      have hl : (toPyA (kvs.map fun kv => keyD kv.1)).length = (toPyA ds).length := by rw [toPyA_len, toPyA_len, List.length_map, ← ha.length, List.length_map]
      obtain ⟨z1, z2⟩ := zip_maps hl
      have z : a ≠ sysModules := by simpa using hsm
      refine ⟨a :: [] ++ as, ?_, fun w => ?_⟩
      · rw [toPy]
        exact .dict ho hx.1 hd (by rw [z1]; exact h1) (by rw [z2]; exact hr)
      · have w' := hm (by simpa [hasLst] using w)
        intro q
        rcases List.mem_cons.mp q with e | e
        · exact z e.symm
        · exact w' e
  | .mix hs0 ks ds, _, _, h, hp, r => by
    cases h with
    | @mix a o l _ _ hs hk ha =>
      cases r
      obtain ⟨⟨ho, ⟨es, ep, hx, hd, pr⟩, _, hsm⟩, _⟩ := (show ObjOk X.prog X.w H s.heap a (mxo a o l) from I.hok _ _ hs)
      obtain ⟨v1, v2⟩ := mixParts pr
      have hp' : plainA ks = true ∧ plainA ds = true := by simpa [plain] using hp
      obtain ⟨as1, hr1, hm1⟩ := Dq.readsA I ks _ _ hk hp'.1 v1
      obtain ⟨as2, hr2, hm2⟩ := Dq.readsA I ds _ _ ha hp'.2 v2
      have hl : (toPyA ks).length = (toPyA ds).length := by rw [toPyA_len, toPyA_len, ← hk.length, ← ha.length, List.length_map, List.length_map]
      obtain ⟨z1, z2⟩ := zip_maps hl
      have z : a ≠ sysModules := by simpa using hsm
      refine ⟨a :: as1 ++ as2, ?_, fun w => ?_⟩
      · rw [toPy]
        exact .dict ho hx.1 hd (by rw [z1]; exact hr1) (by rw [z2]; exact hr2)
      · have w' : hasLstA ks = false ∧ hasLstA ds = false := by simpa [hasLst] using w
        intro q
        rcases List.mem_append.mp q with q | q
        · rcases List.mem_cons.mp q with e | e
          · exact z e.symm
          · exact hm1 w'.1 e
        · exact hm2 w'.2 q
  | .obj _ _ _, _, _, _, hp, _ => by simp [plain] at hp
  | .err _ _ _, _, _, _, hp, _ => by simp [plain] at hp
theorem Dq.readsA (I : Inv X pins σ H s) : ∀ (ds : List Dt) (vs : List V) (us : List Value), DqA H vs ds → plainA ds = true → Vals vs us → ∃ as, ReadsAll s.heap us (toPyA ds) as ∧ (hasLstA ds = false → sysModules ∉ as)
  | [], _, _, h, _, r => by cases h; cases r; exact ⟨[], by rw [toPyA]; exact .nil, fun _ => List.not_mem_nil⟩
  | d :: ds, _, _, h, hp, r => by
    cases h with
    | cons h1 h2 =>
      cases r with
      | cons r1 r2 =>
        have hp' : plain d = true ∧ plainA ds = true := by simpa [plainA] using hp
        obtain ⟨as, q1, m1⟩ := Dq.reads I d _ _ h1 hp'.1 r1
        obtain ⟨bs, q2, m2⟩ := Dq.readsA I ds _ _ h2 hp'.2 r2
        refine ⟨as ++ bs, by rw [toPyA]; exact .cons q1 q2, fun w => ?_⟩
        have w' : hasLst d = false ∧ hasLstA ds = false := by simpa [hasLstA] using w
        intro q
        rcases List.mem_append.mp q with e | e
        · exact m1 w'.1 e
        · exact m2 w'.2 e
end
/-- what repr is told of, n: the longest text -/
structure Shown (d : Dt) : Prop where
  plain : plain d = true
  one : (toPy d).hasDict = true → hasLst d = false
  shows : (toPy d).showable = true
  len : (toPy d).shown.length ≤ sizeLine
  deep : (toPy d).depth ≤ 60
theorem ca_repr {w : Wd} {μ : Mus} {R : SV → Mus → Prop} {d : Dt} {k : Nat} (hr : Room k X.A) (hg : X.A.guards = some []) (hd : Shown d) (h : R (.dat (.str (toPy d).shown)) μ) : CaD X w (.builtin "repr") [.dat d] μ R := fun B H vs I q Q kk pins s σ us J rv => by
  cases q with
  | cons q1 q2 =>
    cases q2
    obtain ⟨u, rfl, r1⟩ := vals1 rv
    have fin : ∀ {s' : Shared} {t : Tok}, Inv X pins σ H s' → EP X pins σ Q (.str (toPy d).shown t) s' := fun {s' t} J' => ⟨.str _, H, J', ⟨t, rfl⟩, kk (.str _) (.dat (.str _)) B H μ I (Ex.refl B) (Dq.str _) h⟩
    have obj : ∀ a, u = .ref a → wpAny (model X.prog X.w) X.A (call (.builtin "repr") [u]) (EP X pins σ Q) X.xe s := fun a e => by
      obtain ⟨as, rd, hm⟩ := Dq.reads J d _ u (q1.mono I.bh) hd.plain r1
      subst e
      have hu := hr.un
      have hdp := hd.deep
      exact repr_of_reads' rd hd.shows (fun z => hm (hd.one z)) hg (by omega) (fun _ _ e => e) (fun h' t tk keep => fin (J.kept (t' := tk) keep)) hd.len
    clear h kk
    cases d with
    | non =>
      cases q1; cases r1
      simp only [toPy, PyData.shown] at fin
      exact P.repr_of_none (fin (J.tok _))
    | bl b =>
      cases q1; cases r1
      simp only [toPy, PyData.shown] at fin
      refine P.repr_of_bool ?_
      cases b
      · exact fin (J.tok _)
      · exact fin (J.tok _)
    | int i =>
      cases q1; obtain ⟨t, rfl⟩ := r1
      have hs := hd.shows
      simp only [toPy, PyData.shown, PyData.showable, decide_eq_true_eq] at fin hs
      exact P.repr_of_int hs (fin (J.tok _))
    | str x =>
      cases q1; obtain ⟨t, rfl⟩ := r1
      have hl := hd.len
      simp only [toPy, PyData.shown] at fin hl
      exact P.repr_of_str (fin (J.tok _)) hl
    | lst _ => cases q1; exact obj _ r1
    | tup _ => cases q1; exact obj _ r1
    | dic _ _ => cases q1; exact obj _ r1
    | mix _ _ _ => cases q1; exact obj _ r1
    | obj _ _ _ => cases q1; exact obj _ r1
    | err _ _ _ => cases q1 <;> exact obj _ r1
end
end Dat

set_option Elab.async false
set_option linter.all false
set_option maxRecDepth 100000
set_option maxHeartbeats 4000000
/-! Dat6: operations, subscripts, built-ins, methods over data. -/
namespace Dat
open PySem PySem.Spec PyProof.Rows L2
/-- a list, data or one that may change -/
def LsQ (r : SV) (μ : Mus) (ds : List Dt) : Prop := r = .dat (.lst ds) ∨ ∃ p, r = .at p ∧ μ p = some (.lst ds)
theorem ls_get {w : Wd} {B H : Hp} {μ : Mus} {v : V} {r : SV} {ds : List Dt} (I : SInv w B H μ) (q : Svq B v r) (h : LsQ r μ ds) : ∃ a xs, v = .ref a ∧ H a = some (.lst xs) ∧ DqA B xs ds := by
  rcases h with rfl | ⟨p, rfl, hm⟩
  · cases q with
    | @lst a xs _ ha hx => exact ⟨a, xs, rfl, I.bh _ _ ha, hx⟩
  · obtain ⟨_, ⟨xs, h1, h2⟩, _⟩ := I.mus p _ hm
    exact ⟨p, xs, q, h1, h2⟩
def cutD (ds : List Dt) (lo hi : Option Int) : List Dt := (ds.drop (HT.sIx ds.length 0 lo)).take (HT.sIx ds.length ds.length hi - HT.sIx ds.length 0 lo)
theorem DqA.cut {H : Hp} {vs : List V} {ds : List Dt} (q : DqA H vs ds) (lo hi : Option Int) : DqA H (cutV vs lo hi) (cutD ds lo hi) := by
  unfold cutV cutD
  rw [q.length]
  exact (q.drop _).take _
theorem DqA.at {H : Hp} {vs : List V} {ds : List Dt} {i : Int} {d : Dt} (q : DqA H vs ds) (h : atI ds i = some d) : ∃ v, atI vs i = some v ∧ Dq H v d := by
  unfold atI at h ⊢
  rw [q.length]
  cases e : ixN ds.length i with
  | none => rw [e] at h; cases h
  | some j =>
    rw [e] at h
    exact q.get h
mutual
def noDic : Dt → Bool
  | .lst xs => noDicA xs | .tup xs => noDicA xs | .dic _ _ => false | .mix _ _ _ => false | .obj _ _ _ => false | .err _ _ _ => false | _ => true
def noDicA : List Dt → Bool
  | [] => true
  | d :: ds => noDic d && noDicA ds
end
mutual
theorem Dq.toDp {K : PySem.W.Frag} {B H : Hp} (e : Ex B H) : ∀ {v : V} {d : Dt}, Dq B v d → noDic d = true → Dp K H v (toPy d)
  | _, _, .non, _ => by rw [toPy]; exact .non
  | _, _, .bl b, _ => by rw [toPy]; exact .bl b
  | _, _, .int i, _ => by rw [toPy]; exact .int i
  | _, _, .str x, _ => by rw [toPy]; exact .str x
  | _, _, .lst h q, n => by rw [toPy]; exact .lst (.inl (.inl (e _ _ h))) (DqA.toDp e q (by simpa [noDic] using n))
  | _, _, .tup h q, n => by rw [toPy]; exact .tup (.inl (.inl (e _ _ h))) (DqA.toDp e q (by simpa [noDic] using n))
  | _, _, .dic h q, n => by simp [noDic] at n
  | _, _, .obj h q, n => by simp [noDic] at n
  | _, _, .mix h q r, n => by simp [noDic] at n
  | _, _, .err h k q, n => by simp [noDic] at n
  | _, _, .err0 h, n => by simp [noDic] at n
theorem DqA.toDp {K : PySem.W.Frag} {B H : Hp} (e : Ex B H) : ∀ {vs : List V} {ds : List Dt}, DqA B vs ds → noDicA ds = true → DpAll K H vs (toPyA ds)
  | _, _, .nil, _ => by rw [toPyA]; exact .nil
  | _, _, .cons h q, n => by
    have n' := Bool.and_eq_true_iff.mp (show (noDic _ && noDicA _) = true by simpa [noDicA] using n)
    rw [toPyA]; exact .cons (Dq.toDp e h n'.1) (DqA.toDp e q n'.2)
end

section
variable {X : Cx} {w : Wd} {μ : Mus} {R : SV → Mus → Prop} {i j : Int} {x y : Str} {xs ys : List Dt}
/-! ### arithmetic, texts, lists, tuples -/
theorem op_addI (h : R (.dat (.int (i + j))) μ) : OpD X w (binaryOp .Add) (.dat (.int i)) (.dat (.int j)) μ R := fun B H v u I q1 q2 Q k => by
  cases q1; cases q2; exact sO_of op_add ⟨i, j, rfl, rfl, k (.int _) (.dat (.int _)) B H μ I (Ex.refl B) (Dq.int _) h⟩
theorem op_subI (h : R (.dat (.int (i - j))) μ) : OpD X w (binaryOp .Sub) (.dat (.int i)) (.dat (.int j)) μ R := fun B H v u I q1 q2 Q k => by
  cases q1; cases q2; exact sO_of op_sub ⟨i, j, rfl, rfl, k (.int _) (.dat (.int _)) B H μ I (Ex.refl B) (Dq.int _) h⟩
theorem op_mulI (hb : (-(2 ^ 64) < i ∧ i < 2 ^ 64) ∨ (-(2 ^ 64) < j ∧ j < 2 ^ 64)) (h : R (.dat (.int (i * j))) μ) : OpD X w (binaryOp .Mult) (.dat (.int i)) (.dat (.int j)) μ R := fun B H v u I q1 q2 Q k => by
  cases q1; cases q2; exact sO_of op_mul ⟨i, j, rfl, rfl, hb, k (.int _) (.dat (.int _)) B H μ I (Ex.refl B) (Dq.int _) h⟩
theorem op_modI (hj : 0 < j) (h : R (.dat (.int (i % j))) μ) : OpD X w (binaryOp .Mod) (.dat (.int i)) (.dat (.int j)) μ R := fun B H v u I q1 q2 Q k => by
  cases q1; cases q2; exact sO_of op_mod ⟨i, j, rfl, rfl, hj, k (.int _) (.dat (.int _)) B H μ I (Ex.refl B) (Dq.int _) h⟩
theorem op_fdivI (hj : 0 < j) (hj2 : j < 1073741824) (h : R (.dat (.int (i / j))) μ) : OpD X w (binaryOp .FloorDiv) (.dat (.int i)) (.dat (.int j)) μ R := fun B H v u I q1 q2 Q k => by
  cases q1; cases q2; exact sO_of op_fdiv ⟨i, j, rfl, rfl, ⟨hj, hj2⟩, k (.int _) (.dat (.int _)) B H μ I (Ex.refl B) (Dq.int _) h⟩
theorem op_powI (hj : 0 ≤ j) (hj2 : j ≤ 1000000) (hi : i.natAbs < 2 ^ 64) (h : R (.dat (.int (i ^ j.toNat))) μ) : OpD X w (binaryOp .Pow) (.dat (.int i)) (.dat (.int j)) μ R := fun B H v u I q1 q2 Q k => by
  cases q1; cases q2; exact sO_of op_pow ⟨i, j, rfl, rfl, ⟨hj, hj2, hi⟩, k (.int _) (.dat (.int _)) B H μ I (Ex.refl B) (Dq.int _) h⟩
theorem un_negI (h : R (.dat (.int (-i))) μ) : UnD X w (unaryOp .USub) (.dat (.int i)) μ R := fun B H v I q Q k => by
  cases q; exact sU_of un_neg ⟨i, rfl, k (.int _) (.dat (.int _)) B H μ I (Ex.refl B) (Dq.int _) h⟩
theorem op_addS (hl : x.length + y.length ≤ sizeLine) (h : R (.dat (.str (x ++ y))) μ) : OpD X w (binaryOp .Add) (.dat (.str x)) (.dat (.str y)) μ R := fun B H v u I q1 q2 Q k => by
  cases q1; cases q2; exact sO_of op_add_str ⟨x, y, rfl, rfl, hl, k (.str _) (.dat (.str _)) B H μ I (Ex.refl B) (Dq.str _) h⟩
theorem op_addT (hl : xs.length + ys.length ≤ sizeLine) (h : R (.dat (.tup (xs ++ ys))) μ) : OpD X w (binaryOp .Add) (.dat (.tup xs)) (.dat (.tup ys)) μ R := fun B H v u I q1 q2 Q k => by
  cases q1 with
  | @tup a as _ ha hx =>
    cases q2 with
    | @tup b bs _ hb hy =>
      refine sO_of op_catA ⟨a, b, as, bs, rfl, rfl, .inl (.inl (I.bh _ _ ha)), .inl (.inl (I.bh _ _ hb)), by rw [hx.length, hy.length]; exact hl, fun e => ?_, fun _ e => ?_, fun _ _ p hp => ?_⟩
      · subst e
        cases hx
        exact k _ (.dat (.tup ([] ++ ys))) B H μ I (Ex.refl B) (Dq.tup hb hy) h
      · subst e
        cases hy
        exact k _ (.dat (.tup (xs ++ []))) B H μ I (Ex.refl B) (by rw [List.append_nil]; exact Dq.tup ha hx) h
      · have f := (I.free hp).1
        exact k _ (.dat (.tup (xs ++ ys))) _ _ μ (I.new hp _) (Ex.new f) (Dq.tup upd_same ((hx.append hy).mono (Ex.new f))) h
theorem op_addL {r r' : SV} (h1 : LsQ r μ xs) (h2 : LsQ r' μ ys) (hl : xs.length + ys.length ≤ sizeLine) (h : R (.dat (.lst (xs ++ ys))) μ) : OpD X w (binaryOp .Add) r r' μ R := fun B H v u I q1 q2 Q k => by
  obtain ⟨a, as, rfl, ha, hx⟩ := ls_get I q1 h1
  obtain ⟨b, bs, rfl, hb, hy⟩ := ls_get I q2 h2
  refine sO_of op_cat ⟨a, b, as, bs, rfl, rfl, ha, hb, by rw [hx.length, hy.length]; exact hl, fun p hp => ?_⟩
  have f := (I.free hp).1
  exact k _ (.dat (.lst (xs ++ ys))) _ _ μ (I.new hp _) (Ex.new f) (Dq.lst upd_same ((hx.append hy).mono (Ex.new f))) h

/-! ### comparisons -/
theorem op_cmpI {op : CmpOp} {g : Int → Int → Bool} (ho : OpR X (compareOp op) (rI0 fun i j => .bl (g i j))) (h : R (.dat (.bl (g i j))) μ) : OpD X w (compareOp op) (.dat (.int i)) (.dat (.int j)) μ R := fun B H v u I q1 q2 Q k => by
  cases q1; cases q2; exact sO_of ho ⟨i, j, rfl, rfl, k (.bl _) (.dat (.bl _)) B H μ I (Ex.refl B) (Dq.bl _) h⟩
theorem op_ltI (h : R (.dat (.bl (decide (i < j)))) μ) : OpD X w (compareOp .Lt) (.dat (.int i)) (.dat (.int j)) μ R := op_cmpI op_lt h
theorem op_leI (h : R (.dat (.bl (decide (i ≤ j)))) μ) : OpD X w (compareOp .LtE) (.dat (.int i)) (.dat (.int j)) μ R := op_cmpI op_le h
theorem op_gtI (h : R (.dat (.bl (decide (j < i)))) μ) : OpD X w (compareOp .Gt) (.dat (.int i)) (.dat (.int j)) μ R := op_cmpI op_gt h
theorem op_geI (h : R (.dat (.bl (decide (j ≤ i)))) μ) : OpD X w (compareOp .GtE) (.dat (.int i)) (.dat (.int j)) μ R := op_cmpI op_ge h
theorem op_eqI (h : R (.dat (.bl (decide (i = j)))) μ) : OpD X w (compareOp .Eq) (.dat (.int i)) (.dat (.int j)) μ R := fun B H v u I q1 q2 Q k => by
  cases q1; cases q2
  have e : decide (V.int i = V.int j) = decide (i = j) := by simp
  exact sO_of op_eq ⟨rfl, k (.bl _) (.dat (.bl _)) B H μ I (Ex.refl B) (Dq.bl _) (by rw [e]; exact h)⟩
theorem op_neI (h : R (.dat (.bl (!decide (i = j)))) μ) : OpD X w (compareOp .NotEq) (.dat (.int i)) (.dat (.int j)) μ R := fun B H v u I q1 q2 Q k => by
  cases q1; cases q2
  have e : decide (V.int i = V.int j) = decide (i = j) := by simp
  exact sO_of op_ne ⟨rfl, k (.bl _) (.dat (.bl _)) B H μ I (Ex.refl B) (Dq.bl _) (by rw [e]; exact h)⟩
theorem op_eqS (h : R (.dat (.bl (decide (x = y)))) μ) : OpD X w (compareOp .Eq) (.dat (.str x)) (.dat (.str y)) μ R := fun B H v u I q1 q2 Q k => by
  cases q1; cases q2
  have e : decide (V.str x = V.str y) = decide (x = y) := by simp
  exact sO_of op_eq ⟨rfl, k (.bl _) (.dat (.bl _)) B H μ I (Ex.refl B) (Dq.bl _) (by rw [e]; exact h)⟩
theorem op_neS (h : R (.dat (.bl (!decide (x = y)))) μ) : OpD X w (compareOp .NotEq) (.dat (.str x)) (.dat (.str y)) μ R := fun B H v u I q1 q2 Q k => by
  cases q1; cases q2
  have e : decide (V.str x = V.str y) = decide (x = y) := by simp
  exact sO_of op_ne ⟨rfl, k (.bl _) (.dat (.bl _)) B H μ I (Ex.refl B) (Dq.bl _) (by rw [e]; exact h)⟩
theorem op_leS (h : R (.dat (.bl (!decide (y.cps.toList < x.cps.toList)))) μ) : OpD X w (compareOp .LtE) (.dat (.str x)) (.dat (.str y)) μ R := fun B H v u I q1 q2 Q k => by
  cases q1; cases q2; exact sO_of op_le_str ⟨x, y, rfl, rfl, k (.bl _) (.dat (.bl _)) B H μ I (Ex.refl B) (Dq.bl _) h⟩
/-- lists, tuples, whatever they hold (no dicts) -/
theorem op_eqDt {d e : Dt} {k : Nat} (hr : Room k X.A) (hd : noDic d = true) (he : noDic e = true) (s1 : SeqAt.shaped (toPy d) = true) (s2 : SeqAt.shaped (toPy e) = true) (h : R (.dat (.bl (PyData.eqv (toPy d) (toPy e)))) μ) : OpD X w (compareOp .Eq) (.dat d) (.dat e) μ R := fun B H v u I q1 q2 Q k =>
  sO_of (op_eqD hr.units) ⟨_, _, Dq.toDp I.bh q1 hd, Dq.toDp I.bh q2 he, s1, s2, k (.bl _) (.dat (.bl _)) B H μ I (Ex.refl B) (Dq.bl _) h⟩
theorem op_neDt {d e : Dt} {k : Nat} (hr : Room k X.A) (hd : noDic d = true) (he : noDic e = true) (s1 : SeqAt.shaped (toPy d) = true) (s2 : SeqAt.shaped (toPy e) = true) (h : R (.dat (.bl (!PyData.eqv (toPy d) (toPy e)))) μ) : OpD X w (compareOp .NotEq) (.dat d) (.dat e) μ R := fun B H v u I q1 q2 Q k =>
  sO_of (op_neD hr.units) ⟨_, _, Dq.toDp I.bh q1 hd, Dq.toDp I.bh q2 he, s1, s2, k (.bl _) (.dat (.bl _)) B H μ I (Ex.refl B) (Dq.bl _) h⟩
theorem op_signIn {c : Nat} (h : R (.dat (.bl (decide (c ∈ y.cps.toList)))) μ) : OpD X w (compareOp .In) (.dat (.str ⟨#[c]⟩)) (.dat (.str y)) μ R := fun B H v u I q1 q2 Q k => by
  cases q1; cases q2; exact sO_of op_in_sign ⟨c, y, rfl, rfl, k (.bl _) (.dat (.bl _)) B H μ I (Ex.refl B) (Dq.bl _) h⟩
theorem op_signNotIn {c : Nat} (h : R (.dat (.bl (!decide (c ∈ y.cps.toList)))) μ) : OpD X w (compareOp .NotIn) (.dat (.str ⟨#[c]⟩)) (.dat (.str y)) μ R := fun B H v u I q1 q2 Q k => by
  cases q1; cases q2; exact sO_of op_notIn_sign ⟨c, y, rfl, rfl, k (.bl _) (.dat (.bl _)) B H μ I (Ex.refl B) (Dq.bl _) h⟩
theorem inV_strs : ∀ (x : Str) (zs : List Str), inV (.str x) (zs.map V.str) = decide (x ∈ zs)
  | x, [] => rfl
  | x, z :: zs => by
    have ih := inV_strs x zs
    unfold inV at ih ⊢
    rw [List.map_cons, List.any_cons, ih]
    show ((z == x) || _) = _
    by_cases e : z = x
    · subst e; simp
    · have e' : ¬ x = z := fun q => e q.symm
      have b : (z == x) = false := by simpa using e
      rw [b]; simp [e']
theorem flat_strs : ∀ zs : List Str, (zs.map V.str).all flatV = true
  | [] => rfl
  | z :: zs => by rw [List.map_cons, List.all_cons, flat_strs zs]; rfl
theorem op_notInL {r : SV} {zs : List Str} (h1 : LsQ r μ (zs.map Dt.str)) (h : R (.dat (.bl (!decide (x ∈ zs)))) μ) : OpD X w (compareOp .NotIn) (.dat (.str x)) r μ R := fun B H v u I q1 q2 Q k => by
  cases q1
  obtain ⟨a, as, rfl, ha, hx⟩ := ls_get I q2 h1
  have e := DqA.strs hx
  subst e
  refine sO_of op_notIn_seq ⟨a, _, rfl, .inl (.inl (.inl ha)), rfl, flat_strs zs, ?_⟩
  rw [if_pos rfl, inV_strs]
  exact k (.bl _) (.dat (.bl _)) B H μ I (Ex.refl B) (Dq.bl _) h
theorem op_inL {r : SV} {zs : List Str} (h1 : LsQ r μ (zs.map Dt.str)) (h : R (.dat (.bl (decide (x ∈ zs)))) μ) : OpD X w (compareOp .In) (.dat (.str x)) r μ R := fun B H v u I q1 q2 Q k => by
  cases q1
  obtain ⟨a, as, rfl, ha, hx⟩ := ls_get I q2 h1
  have e := DqA.strs hx
  subst e
  refine sO_of op_in_seq ⟨a, _, rfl, .inl (.inl (.inl ha)), rfl, flat_strs zs, ?_⟩
  rw [if_neg Bool.false_ne_true, inV_strs]
  exact k (.bl _) (.dat (.bl _)) B H μ I (Ex.refl B) (Dq.bl _) h

/-! ### subscripts, slices -/
theorem ix_dL {r : SV} {d : Dt} (h1 : LsQ r μ xs) (ha : atI xs i = some d) (h : R (.dat d) μ) : IxD X w r (.dat (.int i)) μ R := fun B H v u I q1 q2 Q k => by
  cases q2
  obtain ⟨a, as, rfl, hH, hx⟩ := ls_get I q1 h1
  obtain ⟨v, e1, e2⟩ := hx.at ha
  exact sIx_of ix_list ⟨a, as, i, v, rfl, rfl, .inl (.inl hH), e1, k v (.dat d) B H μ I (Ex.refl B) e2 h⟩
theorem ix_dT {d : Dt} (ha : atI xs i = some d) (h : R (.dat d) μ) : IxD X w (.dat (.tup xs)) (.dat (.int i)) μ R := fun B H v u I q1 q2 Q k => by
  cases q2
  cases q1 with
  | @tup a as _ hH hx =>
    obtain ⟨v, e1, e2⟩ := hx.at ha
    exact sIx_of ix_tup ⟨a, as, i, v, rfl, rfl, .inl (.inl (I.bh _ _ hH)), e1, k v (.dat d) B H μ I (Ex.refl B) e2 h⟩
theorem ix_dS {c : Nat} (hl : x.length ≤ sizeLine) (ha : atI x.cps.toList i = some c) (h : R (.dat (.str ⟨#[c]⟩)) μ) : IxD X w (.dat (.str x)) (.dat (.int i)) μ R := fun B H v u I q1 q2 Q k => by
  cases q1; cases q2; exact sIx_of ix_str ⟨x, i, c, rfl, rfl, hl, ha, k (.str _) (.dat (.str _)) B H μ I (Ex.refl B) (Dq.str _) h⟩
theorem ix_pot0 {p : Addr} (hm : μ p = some .pot) (h : ∀ a : Int, 0 ≤ a → R (.dat (.int a)) μ) : IxD X w (.at p) (.dat (.int 0)) μ R := fun B H v u I q1 q2 Q k => by
  cases q2
  cases (show v = V.ref p from q1)
  obtain ⟨_, ⟨a, b, ha, hb, hb2, hH⟩, _⟩ := I.mus p _ hm
  exact sIx_of ix_list ⟨p, _, 0, _, rfl, rfl, .inl (.inl hH), rfl, k (.int a) (.dat (.int a)) B H μ I (Ex.refl B) (Dq.int _) (h a ha)⟩
theorem ix_pot1 {p : Addr} (hm : μ p = some .pot) (h : ∀ b : Int, 0 ≤ b → b < 4294967296 → R (.dat (.int b)) μ) : IxD X w (.at p) (.dat (.int 1)) μ R := fun B H v u I q1 q2 Q k => by
  cases q2
  cases (show v = V.ref p from q1)
  obtain ⟨_, ⟨a, b, ha, hb, hb2, hH⟩, _⟩ := I.mus p _ hm
  exact sIx_of ix_list ⟨p, _, 1, _, rfl, rfl, .inl (.inl hH), rfl, k (.int b) (.dat (.int b)) B H μ I (Ex.refl B) (Dq.int _) (h b hb hb2)⟩
theorem ix_sc {a : Addr} {ns : List Int} {n : Int} (ha : atI ns i = some n) (h : R (.dat (.int n)) μ) : IxD X w (.sc X.K a ns) (.dat (.int i)) μ R := fun B H v u I q1 q2 Q k => by
  cases q2
  obtain ⟨rfl, sq⟩ := q1
  have e : atI (ns.map V.int) i = some (.int n) := by
    unfold atI at ha ⊢
    rw [List.length_map]
    cases hj : ixN ns.length i with
    | none => rw [hj] at ha; cases ha
    | some j =>
      rw [hj] at ha
      show (ns.map V.int)[j]? = _
      rw [List.getElem?_map, show ns[j]? = some n from ha]
      rfl
  refine sIx_of ix_list ⟨a, _, i, _, rfl, rfl, ?_, e, k (.int n) (.dat (.int n)) B H μ I (Ex.refl B) (Dq.int _) h⟩
  exact sq.elim (fun z => .inl (z.elim (fun q => .inl (I.bh _ _ q)) fun ⟨c, q⟩ => .inr ⟨c, I.bh _ _ q⟩)) .inr
theorem sl_dT {lo hi : Option Int} (h : R (.dat (.tup (cutD xs lo hi))) μ) : SlD X w (.dat (.tup xs)) lo hi μ R := fun B H v I q Q k => by
  cases q with
  | @tup a as _ ha hx =>
    refine sSl_of sl_tupA ⟨a, as, rfl, .inl (.inl (I.bh _ _ ha)), fun z => ?_, fun _ p hp => ?_⟩
    · have e : cutD xs lo hi = xs := by
        unfold cutD
        rw [← hx.length, z.1, z.2, List.drop_zero, Nat.sub_zero, hx.length, List.take_length]
      exact k _ (.dat (.tup (cutD xs lo hi))) B H μ I (Ex.refl B) (by rw [e]; exact Dq.tup ha hx) h
    · have f := (I.free hp).1
      exact k _ (.dat (.tup (cutD xs lo hi))) _ _ μ (I.new hp _) (Ex.new f) (Dq.tup upd_same ((hx.cut lo hi).mono (Ex.new f))) h
theorem sl_dS {lo hi : Option Int} (hl : x.length ≤ sizeLine) (h : R (.dat (.str (cutS x lo hi))) μ) : SlD X w (.dat (.str x)) lo hi μ R := fun B H v I q Q k => by
  cases q; exact sSl_of sl_str ⟨x, rfl, hl, k (.str _) (.dat (.str _)) B H μ I (Ex.refl B) (Dq.str _) h⟩

/-! ### built-ins -/
theorem SvA.one {B : Hp} {vs : List V} {r : SV} (h : SvA B vs [r]) : ∃ v, vs = [v] ∧ Svq B v r := by
  cases h with | cons a b => cases b; exact ⟨_, rfl, a⟩
theorem SvA.two {B : Hp} {vs : List V} {r s : SV} (h : SvA B vs [r, s]) : ∃ v u, vs = [v, u] ∧ Svq B v r ∧ Svq B u s := by
  cases h with | cons a b => cases b with | cons c d => cases d; exact ⟨_, _, rfl, a, c⟩
theorem ca_max2 (hc : X.calm = true) (h : R (.dat (.int (max i j))) μ) : CaD X w (.builtin "max") [.dat (.int i), .dat (.int j)] μ R := fun B H vs I q Q k => by
  obtain ⟨v, u, rfl, q1, q2⟩ := q.two
  cases q1; cases q2
  have e : (if j > i then j else i) = max i j := by omega
  exact sC_of (call_max2 hc) ⟨i, j, rfl, by rw [e]; exact k (.int _) (.dat (.int _)) B H μ I (Ex.refl B) (Dq.int _) h⟩
theorem ca_min2 (hc : X.calm = true) (h : R (.dat (.int (min i j))) μ) : CaD X w (.builtin "min") [.dat (.int i), .dat (.int j)] μ R := fun B H vs I q Q k => by
  obtain ⟨v, u, rfl, q1, q2⟩ := q.two
  cases q1; cases q2
  have e : (if j < i then j else i) = min i j := by omega
  exact sC_of (call_min2 hc) ⟨i, j, rfl, by rw [e]; exact k (.int _) (.dat (.int _)) B H μ I (Ex.refl B) (Dq.int _) h⟩
theorem ca_maxL {r : SV} {ns : List Int} (hc : X.calm = true) (h1 : LsQ r μ (ns.map Dt.int)) (h0 : 0 < ns.length) (h : ∀ m, m ∈ ns → (∀ y, y ∈ ns → y ≤ m) → R (.dat (.int m)) μ) : CaD X w (.builtin "max") [r] μ R := fun B H vs I q Q k => by
  obtain ⟨v, rfl, q1⟩ := q.one
  obtain ⟨a, as, rfl, ha, hx⟩ := ls_get I q1 h1
  have e := DqA.ints hx
  subst e
  exact sC_of (cr_max hc) ⟨a, ns, rfl, .inl (.inl ha), h0, fun m hm hle => k (.int m) (.dat (.int m)) B H μ I (Ex.refl B) (Dq.int _) (h m hm hle)⟩
theorem ca_lenL {r : SV} (h1 : LsQ r μ xs) (h : R (.dat (.int (xs.length : Int))) μ) : CaD X w (.builtin "len") [r] μ R := fun B H vs I q Q k => by
  obtain ⟨v, rfl, q1⟩ := q.one
  obtain ⟨a, as, rfl, ha, hx⟩ := ls_get I q1 h1
  exact sC_of call_len_seq ⟨a, as, rfl, .inl (.inl (.inl ha)), by rw [hx.length]; exact k (.int _) (.dat (.int _)) B H μ I (Ex.refl B) (Dq.int _) h⟩
theorem ca_lenT (h : R (.dat (.int (xs.length : Int))) μ) : CaD X w (.builtin "len") [.dat (.tup xs)] μ R := fun B H vs I q Q k => by
  obtain ⟨v, rfl, q1⟩ := q.one
  cases q1 with
  | @tup a as _ ha hx => exact sC_of call_len_seq ⟨a, as, rfl, .inr (.inl (.inl (I.bh _ _ ha))), by rw [hx.length]; exact k (.int _) (.dat (.int _)) B H μ I (Ex.refl B) (Dq.int _) h⟩
theorem ca_lenSc {a : Addr} {ns : List Int} (h : R (.dat (.int (ns.length : Int))) μ) : CaD X w (.builtin "len") [.sc X.K a ns] μ R := fun B H vs I q Q k => by
  obtain ⟨v, rfl, q1⟩ := q.one
  obtain ⟨rfl, sq⟩ := q1
  refine sC_of call_len_seq ⟨a, ns.map V.int, rfl, .inl ?_, by rw [show (ns.map V.int).length = ns.length from List.length_map _]; exact k (.int _) (.dat (.int _)) B H μ I (Ex.refl B) (Dq.int _) h⟩
  exact sq.elim (fun z => .inl (z.elim (fun q => .inl (I.bh _ _ q)) fun ⟨c, q⟩ => .inr ⟨c, I.bh _ _ q⟩)) .inr
theorem ca_lenS (hl : x.length ≤ sizeLine) (h : R (.dat (.int (x.length : Int))) μ) : CaD X w (.builtin "len") [.dat (.str x)] μ R := fun B H vs I q Q k => by
  obtain ⟨v, rfl, q1⟩ := q.one
  cases q1
  exact sC_of call_len_str ⟨x, rfl, hl, k (.int _) (.dat (.int _)) B H μ I (Ex.refl B) (Dq.int _) h⟩
theorem ca_all {r : SV} {bs : List Bool} (hc : X.calm = true) (h1 : LsQ r μ (bs.map Dt.bl)) (h : R (.dat (.bl (bs.all id))) μ) : CaD X w (.builtin "all") [r] μ R := fun B H vs I q Q k => by
  obtain ⟨v, rfl, q1⟩ := q.one
  obtain ⟨a, as, rfl, ha, hx⟩ := ls_get I q1 h1
  have e := DqA.bls hx
  subst e
  exact sC_of (cr_all hc) ⟨a, bs, rfl, .inl (.inl ha), k (.bl _) (.dat (.bl _)) B H μ I (Ex.refl B) (Dq.bl _) h⟩
theorem ca_listT (h : R (.dat (.lst xs)) μ) : CaD X w (.type "list") [.dat (.tup xs)] μ R := fun B H vs I q Q k => by
  obtain ⟨v, rfl, q1⟩ := q.one
  cases q1 with
  | @tup a as _ ha hx => exact sC_of call_list_of ⟨a, as, rfl, .inr (.inl (.inl (I.bh _ _ ha))), fun p hp => k (.ref p) (.dat (.lst xs)) _ _ μ (I.new hp _) (Ex.new (I.free hp).1) (Dq.lst upd_same (hx.mono (Ex.new (I.free hp).1))) h⟩
theorem ca_listL {r : SV} (h1 : LsQ r μ xs) (h : R (.dat (.lst xs)) μ) : CaD X w (.type "list") [r] μ R := fun B H vs I q Q k => by
  obtain ⟨v, rfl, q1⟩ := q.one
  obtain ⟨a, as, rfl, ha, hx⟩ := ls_get I q1 h1
  exact sC_of call_list_of ⟨a, as, rfl, .inl (.inl (.inl ha)), fun p hp => k (.ref p) (.dat (.lst xs)) _ _ μ (I.new hp _) (Ex.new (I.free hp).1) (Dq.lst upd_same (hx.mono (Ex.new (I.free hp).1))) h⟩
theorem ca_tupL {r : SV} (h1 : LsQ r μ xs) (h : R (.dat (.tup xs)) μ) : CaD X w (.type "tuple") [r] μ R := fun B H vs I q Q k => by
  obtain ⟨v, rfl, q1⟩ := q.one
  obtain ⟨a, as, rfl, ha, hx⟩ := ls_get I q1 h1
  exact sC_of call_tuple_of ⟨a, as, rfl, .inl ⟨.inl (.inl ha), fun p hp => k (.ref p) (.dat (.tup xs)) _ _ μ (I.new hp _) (Ex.new (I.free hp).1) (Dq.tup upd_same (hx.mono (Ex.new (I.free hp).1))) h⟩⟩
theorem ca_divmod (hj : 0 < j) (hj2 : j < 1073741824) (h : R (.dat (.tup [.int (i / j), .int (i % j)])) μ) : CaD X w (.builtin "divmod") [.dat (.int i), .dat (.int j)] μ R := fun B H vs I q Q k => by
  obtain ⟨v, u, rfl, q1, q2⟩ := q.two
  cases q1; cases q2
  exact sC_of call_divmod ⟨i, j, rfl, ⟨hj, hj2⟩, fun p hp => k (.ref p) (.dat (.tup [.int (i / j), .int (i % j)])) _ _ μ (I.new hp _) (Ex.new (I.free hp).1) (Dq.tup upd_same (DqA.ofInts [i / j, i % j])) h⟩

/-! ### isinstance -/
def tyD : Dt → String
  | .non => "NoneType" | .bl _ => "bool" | .int _ => "int" | .str _ => "str" | .lst _ => "list" | .tup _ => "tuple" | .dic _ _ => "dict" | .mix _ _ _ => "dict" | .obj _ _ _ => "" | .err _ _ _ => ""
def isObj' : Dt → Bool
  | .obj _ _ _ => true
  | .err _ _ _ => true
  | .mix _ _ _ => true
  | _ => false
def isStr : Dt → Bool
  | .str _ => true
  | _ => false
def isInt : Dt → Bool
  | .int _ => true
  | .bl _ => true
  | _ => false
def isBl : Dt → Bool
  | .bl _ => true
  | _ => false
def isTup : Dt → Bool
  | .tup _ => true
  | _ => false
def isLst : Dt → Bool
  | .lst _ => true
  | _ => false
def isDic : Dt → Bool
  | .dic _ _ => true
  | _ => false
theorem Dq.ty {K : PySem.W.Frag} {B H : Hp} (e : Ex B H) {v : V} {d : Dt} (q : Dq B v d) (h : isObj' d = false) : TyX K H v (.type (tyD d)) := by
  cases q with
  | non => exact .base .non
  | bl b => exact .base (.bl b)
  | int i => exact .base (.int i)
  | str x => exact .base (.str x)
  | lst ha _ => exact .base (.lst (e _ _ ha))
  | tup ha _ => exact .base (.tup (e _ _ ha))
  | dic ha _ => exact .base (.dK (e _ _ ha))
  | obj _ _ => cases h
  | mix _ _ _ => cases h
  | err _ _ _ => cases h
  | err0 _ => cases h
theorem ca_isi {d : Dt} {T : String} {b : Bool} (ho : isObj' d = false) (hk : kitB (tyD d) T = some b) (h : R (.dat (.bl b)) μ) : CaD X w (.builtin "isinstance") [.dat d, .ty T] μ R := fun B H vs I q Q k => by
  obtain ⟨v, u, rfl, q1, q2⟩ := q.two
  cases (show u = V.ty T from q2)
  exact sC_of call_isi ⟨v, .ty T, _, _, b, rfl, .ty T, Dq.ty I.bh q1 ho, kit_ty hk, k (.bl b) (.dat (.bl b)) B H μ I (Ex.refl B) (Dq.bl _) h⟩
theorem kit_str (d : Dt) (h : isObj' d = false) : kitB (tyD d) "str" = some (isStr d) := by
  cases d with
  | obj _ _ _ => simp [isObj'] at h
  | err _ _ _ => simp [isObj'] at h
  | mix _ _ _ => simp [isObj'] at h
  | non => exact (by decide +kernel : kitB "NoneType" "str" = some false)
  | bl _ => exact (by decide +kernel : kitB "bool" "str" = some false)
  | int _ => exact (by decide +kernel : kitB "int" "str" = some false)
  | str _ => exact (by decide +kernel : kitB "str" "str" = some true)
  | lst _ => exact (by decide +kernel : kitB "list" "str" = some false)
  | tup _ => exact (by decide +kernel : kitB "tuple" "str" = some false)
  | dic _ _ => exact (by decide +kernel : kitB "dict" "str" = some false)
theorem kit_int (d : Dt) (h : isObj' d = false) : kitB (tyD d) "int" = some (isInt d) := by
  cases d with
  | obj _ _ _ => simp [isObj'] at h
  | err _ _ _ => simp [isObj'] at h
  | mix _ _ _ => simp [isObj'] at h
  | non => exact (by decide +kernel : kitB "NoneType" "int" = some false)
  | bl _ => exact (by decide +kernel : kitB "bool" "int" = some true)
  | int _ => exact (by decide +kernel : kitB "int" "int" = some true)
  | str _ => exact (by decide +kernel : kitB "str" "int" = some false)
  | lst _ => exact (by decide +kernel : kitB "list" "int" = some false)
  | tup _ => exact (by decide +kernel : kitB "tuple" "int" = some false)
  | dic _ _ => exact (by decide +kernel : kitB "dict" "int" = some false)
theorem kit_bool (d : Dt) (h : isObj' d = false) : kitB (tyD d) "bool" = some (isBl d) := by
  cases d with
  | obj _ _ _ => simp [isObj'] at h
  | err _ _ _ => simp [isObj'] at h
  | mix _ _ _ => simp [isObj'] at h
  | non => exact (by decide +kernel : kitB "NoneType" "bool" = some false)
  | bl _ => exact (by decide +kernel : kitB "bool" "bool" = some true)
  | int _ => exact (by decide +kernel : kitB "int" "bool" = some false)
  | str _ => exact (by decide +kernel : kitB "str" "bool" = some false)
  | lst _ => exact (by decide +kernel : kitB "list" "bool" = some false)
  | tup _ => exact (by decide +kernel : kitB "tuple" "bool" = some false)
  | dic _ _ => exact (by decide +kernel : kitB "dict" "bool" = some false)
theorem kit_tuple (d : Dt) (h : isObj' d = false) : kitB (tyD d) "tuple" = some (isTup d) := by
  cases d with
  | obj _ _ _ => simp [isObj'] at h
  | err _ _ _ => simp [isObj'] at h
  | mix _ _ _ => simp [isObj'] at h
  | non => exact (by decide +kernel : kitB "NoneType" "tuple" = some false)
  | bl _ => exact (by decide +kernel : kitB "bool" "tuple" = some false)
  | int _ => exact (by decide +kernel : kitB "int" "tuple" = some false)
  | str _ => exact (by decide +kernel : kitB "str" "tuple" = some false)
  | lst _ => exact (by decide +kernel : kitB "list" "tuple" = some false)
  | tup _ => exact (by decide +kernel : kitB "tuple" "tuple" = some true)
  | dic _ _ => exact (by decide +kernel : kitB "dict" "tuple" = some false)
theorem kit_list (d : Dt) (h : isObj' d = false) : kitB (tyD d) "list" = some (isLst d) := by
  cases d with
  | obj _ _ _ => simp [isObj'] at h
  | err _ _ _ => simp [isObj'] at h
  | mix _ _ _ => simp [isObj'] at h
  | non => exact (by decide +kernel : kitB "NoneType" "list" = some false)
  | bl _ => exact (by decide +kernel : kitB "bool" "list" = some false)
  | int _ => exact (by decide +kernel : kitB "int" "list" = some false)
  | str _ => exact (by decide +kernel : kitB "str" "list" = some false)
  | lst _ => exact (by decide +kernel : kitB "list" "list" = some true)
  | tup _ => exact (by decide +kernel : kitB "tuple" "list" = some false)
  | dic _ _ => exact (by decide +kernel : kitB "dict" "list" = some false)
theorem kit_dict (d : Dt) (h : isObj' d = false) : kitB (tyD d) "dict" = some (isDic d) := by
  cases d with
  | obj _ _ _ => simp [isObj'] at h
  | err _ _ _ => simp [isObj'] at h
  | mix _ _ _ => simp [isObj'] at h
  | non => exact (by decide +kernel : kitB "NoneType" "dict" = some false)
  | bl _ => exact (by decide +kernel : kitB "bool" "dict" = some false)
  | int _ => exact (by decide +kernel : kitB "int" "dict" = some false)
  | str _ => exact (by decide +kernel : kitB "str" "dict" = some false)
  | lst _ => exact (by decide +kernel : kitB "list" "dict" = some false)
  | tup _ => exact (by decide +kernel : kitB "tuple" "dict" = some false)
  | dic _ _ => exact (by decide +kernel : kitB "dict" "dict" = some true)
/-! ### methods -/
theorem ty_lst {K : PySem.W.Frag} {r : SV} (h1 : LsQ r μ xs) : TyD K "list" r μ := fun w B H v I q => by
  obtain ⟨a, as, rfl, ha, hx⟩ := ls_get I q h1
  exact .inl ⟨rfl, as, .inl (.inl ha)⟩
theorem ty_str {K : PySem.W.Frag} : TyD K "str" (.dat (.str x)) μ := fun w B H v I q => by cases q; rfl
theorem mt_appendM {p : Addr} {d : Dt} (hm : μ p = some (.lst xs)) (hl : xs.length < 100000) (h : R (.dat .non) (μ.put p (.lst (xs ++ [d])))) : MtD X w "list.append" (.at p) [.dat d] μ R := fun B H v vs I q qs Q k => by
  obtain ⟨u, rfl, q1⟩ := qs.one
  cases (show v = V.ref p from q)
  obtain ⟨_, ⟨as, ha, hx⟩, _⟩ := I.mus p _ hm
  exact sM_of mt_append ⟨p, as, u, rfl, rfl, ha, Nat.lt_of_lt_of_le (by rw [hx.length]; exact hl) (by decide : 100000 ≤ sizeLine),
    k .non (.dat .non) B _ _ (I.set hm (.lst (xs ++ [d])) ⟨as ++ [u], upd_same, hx.snoc q1⟩) (Ex.refl B) Dq.non h⟩
end
end Dat

set_option Elab.async false
set_option linter.all false
set_option maxRecDepth 100000
set_option maxHeartbeats 4000000
/-! Dat7: more methods of texts; the law's call at the top, where no repr is under way. -/
namespace Dat
open PySem PySem.Spec PyProof.Rows L2
section
variable {P : Program} {w : World} {K : PySem.W.Frag} {mg mb : Str → Option Value} {k : Nat} {fa a : Addr} {fd : FuncData} {x : Str} {sp : Sp} {s₁ : Shared} {vs : List Value} {ns : List Int}
theorem top_core (KX : K.In s₁.heap) (g : s₁.heap.Ns mainGlobals mg) (b : s₁.heap.Ns builtinsNs mb) (bb : ∀ x : Str, x ≠ "__name__" → mb x = bootBuiltins x) (lim : s₁.heap.NoLimit) (gn : s₁.gens = #[])
    (ha : s₁.heap.get? a = some { cls := .type "list", data := .seq vs.toArray }) (hr : Room k callerA)
    (F : ∀ base : Heap, K.In base → base.Ns mainGlobals mg → FnG P w K mg base k fa fd [x] sp) (bd : ∀ (s : Shared) (u : Value), BindsTo s fd ⟨[u], []⟩ [(x, u)])
    (H : Hp) (ok : HOk P w H s₁.heap) (own : ∀ c, H c ≠ none → c = a ∧ K.lookup a = none) (fz : ∀ c u, H c = some u → ∃ o xs, u = .frz o (.lst xs)) (q : sp [.ref a] H (fun v _ => v = .bl true) fun _ _ _ => False) :
    codeAny (model P w) callerA (.call (.ref fa) ⟨[.ref a], []⟩) (fun r s' => r = .ok (.ret (.bool true)) ∧ OldK s₁.heap s'.heap ∧ s'.os = s₁.os ∧ AllBare s'.gens) s₁ := by
  have free_of : ∀ {c : Addr} {o : Obj}, s₁.heap.get? c = some o → (∀ z n, o.data ≠ .seq z n) → H c = none := fun {c o} e nd => by
    cases z : H c with
    | none => rfl
    | some u =>
      have e2 := (own c (by rw [z]; exact nofun)).1
      rw [e2, ha] at e
      cases e
      exact absurd rfl (nd _ _)
  have nsB : ∀ {c : Addr} {m : Str → Option Value}, s₁.heap.Ns c m → (hidT s₁.heap H).Ns c m := fun {c m} n => by
    obtain ⟨o, es, ep, e, d, r⟩ := n
    exact ⟨o, es, ep, hidT_get e (free_of e fun z n => by rw [d]; exact nofun), d, r⟩
  have inB : K.In (hidT s₁.heap H) := fun c o e => hidT_get (KX c o e) (by
    cases z : H c with
    | none => rfl
    | some u =>
      obtain ⟨e2, e3⟩ := own c (by rw [z]; exact nofun)
      rw [e2, e3] at e
      cases e)
  have md : Mod K mg (hidT s₁.heap H) := by
    obtain ⟨mc, l1, l2⟩ := lim
    exact { kin := inB, glob := nsB g, blt := ⟨mb, nsB b, bb⟩, nolimit := ⟨mc, nsB l1, l2⟩ }
  have en : Env0 P w K mg (hidT s₁.heap H) callerA [] s₁ H := { frames := rfl, mod := md, bs := fun c o e => of_hidT e, bsz := Nat.le_of_eq (hidT_size _ _), funs := trivial, frf := fun c z => (by cases z), hok := ok, bare := .of_eq gn }
  refine codeAny_mono ((F _ inB (nsB g)).run callerA [] s₁ H ⟨[.ref a], []⟩ [.ref a] [.ref a] _ _ hr rfl en (bd s₁ (.ref a)) (.cons rfl .nil) q) fun r s' h => ?_
  match r, h with
  | .error _, h => exact h.elim
  | .ok .next, h => exact h.elim
  | .ok .brk, h => exact h.elim
  | .ok .cont, h => exact h.elim
  | .ok (.ret u), ⟨v, H', os, bare, un, hok', rv, qv⟩ =>
    cases (show v = V.bl true from qv)
    cases (show u = Value.bool true from rv)
    refine ⟨rfl, OldK.of_keep fun c o e => ?_, os, bare⟩
    cases z : H c with
    | none => exact un.keep c o e z (fun z => by cases z) (fun z => by cases z)
    | some y =>
      obtain ⟨ob, xs, rfl⟩ := fz c y z
      have e1 := (ok c _ z).1
      have e2 := (hok' c _ (un.frzs c ob _ z)).1
      rw [e] at e1
      cases e1
      exact e2
/-- the goal that k_head leaves -/
theorem walk_data {l : PySem.W.OpenLaw} {n : Nat} {q : Program} {loose : List Str} {XP : (Str → Option Value) → Heap → Prop} {YP : World → Heap → Prop} {d : DefRec} {KF : Params → PySem.W.Frag} {SP : PySem.W.Frag → Sp}
    (hn : l.most = some n) (hn2 : n ≤ sizeLine) (hdf : d.params.defaults = []) (hr : Room k callerA) (hY : ∀ (w : World) (h : Heap), YP w h → (KF w.params).In h)
    (F : ∀ (w : World) (mg : Str → Option Value) (fa : Addr) (h : Heap), (KF w.params).In h → h.Ns mainGlobals mg → mg d.name = some (.ref fa) →
      ∃ fd : FuncData, (∀ (s : Shared) (u : Value), BindsTo s fd ⟨[u], []⟩ [(x, u)]) ∧ ∀ base : Heap, (KF w.params).In base → base.Ns mainGlobals mg → FnG l.prog w (KF w.params) mg base k fa fd [x] (SP (KF w.params)))
    (hsp : ∀ (K : PySem.W.Frag) (H : Hp) (a : Addr) (ns : List Int), ns.length ≤ n → SqL K H a (ns.map V.int) → SP K [.ref a] H (fun v _ => v = .bl true) fun _ _ _ => False) :
    PySem.W.WalkO q loose XP YP l.row.toRowW d [] (fun f vs => PySem.call f vs) := by
  refine Att.attach_call hn hdf fun w s₀ s₁ mg mb fa o pm cd doc a vs ns G Y ho hd hcd hmg hobj hints hlen hg => ?_
  have KX := hY w _ Y
  obtain ⟨fd, bd, FF⟩ := F w mg fa _ KX G.T.g hmg
  have rv := vals_ints hints
  have hl : (ns.map V.int).length ≤ sizeLine := by rw [List.length_map]; exact Nat.le_trans hlen hn2
  cases hk : (KF w.params).lookup a with
  | some ob =>
    have e := KX a ob hk
    rw [hobj] at e
    cases e
    refine top_core KX G.T.g G.T.b G.T.builtins G.T.nolimit hg hobj hr FF bd (fun _ => none) (fun c u z => nomatch z) (fun c z => absurd rfl z) (fun c u z => nomatch z) (hsp _ _ a ns hlen (.inr ⟨_, vs.toArray, _, hk, rfl, rfl, rfl, ?_, by simpa using rv⟩))
    rw [List.size_toArray, ← rv.length]
    exact hl
  | none =>
    refine top_core KX G.T.g G.T.b G.T.builtins G.T.nolimit hg hobj hr FF bd (fun c => if c = a then some (.frz { cls := .type "list", data := .seq vs.toArray } (.lst (ns.map V.int))) else none) (fun c u z => ?_) (fun c z => ?_) (fun c u z => ?_) (hsp _ _ a ns hlen (.inl (.inr ⟨_, if_pos rfl⟩)))
    · by_cases e : c = a
      · have z' := (if_pos e).symm.trans z
        cases z'
        subst e
        exact ⟨hobj, hl, vs, _, rv, hobj⟩
      · have z' := (if_neg e).symm.trans z
        cases z'
    · by_cases e : c = a
      · exact ⟨e, hk⟩
      · exact absurd (if_neg e) z
    · by_cases e : c = a
      · have z' := (if_pos e).symm.trans z
        cases z'; exact ⟨_, _, rfl⟩
      · have z' := (if_neg e).symm.trans z
        cases z'
end
end Dat

set_option Elab.async false
set_option linter.all false
set_option maxRecDepth 100000
set_option maxHeartbeats 4000000
/-! Dat8: names by themselves, built-ins by their names, own defs packed. -/
namespace Dat
open PySem PySem.Spec PyProof.Rows L2
def idx : List Str → Str → Nat
  | [], _ => 0
  | y :: ys, x => if x = y then 0 else idx ys x + 1
section
variable {X : Cx} {w : Wd} {ρ : List SV} {μ : Mus} {R : SV → Mus → Prop} {e : Expr} {es : List Expr} {pos p : Pos} {x : Str}
theorem de_nm {r : SV} (hr : ρ[idx X.N x]? = some r) (h : R r μ) (hne : r ≠ .no := by exact nofun) (hN : X.N[idx X.N x]? = some x := by rfl)
    (hv : Vis X.env.scope x := by first | exact Or.inl rfl | exact Or.inr (Or.inl rfl) | exact Or.inr (Or.inr rfl)) (hd : (x == ("__debug__" : Str)) = false := by decide)
    (hcd : (x == ("__classdict__" : Str)) = false := by decide) : DE X w (.Name x pos) ρ μ R := de_name (idx X.N x) hr h hne hN hv hd hcd
/-- a built-in class as a value -/
theorem de_tyv {T : String} (hm : X.mg x = none) (hv : bootBuiltins x = some (.type T)) (h : R (.ty T) μ) (hg : Gl X x := by rfl) (hn : x ≠ "__name__" := by decide) (hd : (x == ("__debug__" : Str)) = false := by decide) : DE X w (.Name x pos) ρ μ R := fun σ B H _ I Q k =>
  tE_of (pe_bltn (v := .ty T) hg hm hv rfl hn hd) (k (.ty T) (.ty T) B H μ I (Ex.refl B) rfl h)
theorem de_ty_int (hm : X.mg "int" = none) (h : R (.ty "int") μ) (hg : Gl X "int" := by rfl) : DE X w (.Name "int" pos) ρ μ R := de_tyv hm (by decide +kernel) h hg
theorem de_ty_str (hm : X.mg "str" = none) (h : R (.ty "str") μ) (hg : Gl X "str" := by rfl) : DE X w (.Name "str" pos) ρ μ R := de_tyv hm (by decide +kernel) h hg
theorem de_ty_bool (hm : X.mg "bool" = none) (h : R (.ty "bool") μ) (hg : Gl X "bool" := by rfl) : DE X w (.Name "bool" pos) ρ μ R := de_tyv hm (by decide +kernel) h hg
theorem de_ty_tuple (hm : X.mg "tuple" = none) (h : R (.ty "tuple") μ) (hg : Gl X "tuple" := by rfl) : DE X w (.Name "tuple" pos) ρ μ R := de_tyv hm (by decide +kernel) h hg
theorem de_ty_list (hm : X.mg "list" = none) (h : R (.ty "list") μ) (hg : Gl X "list" := by rfl) : DE X w (.Name "list" pos) ρ μ R := de_tyv hm (by decide +kernel) h hg
theorem de_ty_dict (hm : X.mg "dict" = none) (h : R (.ty "dict") μ) (hg : Gl X "dict" := by rfl) : DE X w (.Name "dict" pos) ρ μ R := de_tyv hm (by decide +kernel) h hg
theorem de_isinstance (ha : DA X w (e :: es) ρ μ fun rs μ1 => CaD X w (.builtin "isinstance") rs μ1 R) (hm : X.mg "isinstance" = none) (hg : Gl X "isinstance" := by rfl)
    (he : starEach (e :: es) X.env = (false, eval e X.env) :: starEach es X.env := by rfl) (hpl : (backTo pos (starEach es X.env)).any (·.1) = false := by rfl) : DE X w (.Call (.Name "isinstance" p) (e :: es) [] pos) ρ μ R :=
  de_callB ha hm (by decide +kernel) hg (by decide) (by decide) he hpl
theorem de_len (ha : DA X w (e :: es) ρ μ fun rs μ1 => CaD X w (.builtin "len") rs μ1 R) (hm : X.mg "len" = none) (hg : Gl X "len" := by rfl)
    (he : starEach (e :: es) X.env = (false, eval e X.env) :: starEach es X.env := by rfl) (hpl : (backTo pos (starEach es X.env)).any (·.1) = false := by rfl) : DE X w (.Call (.Name "len" p) (e :: es) [] pos) ρ μ R :=
  de_callB ha hm (by decide +kernel) hg (by decide) (by decide) he hpl
theorem de_max (ha : DA X w (e :: es) ρ μ fun rs μ1 => CaD X w (.builtin "max") rs μ1 R) (hm : X.mg "max" = none) (hg : Gl X "max" := by rfl)
    (he : starEach (e :: es) X.env = (false, eval e X.env) :: starEach es X.env := by rfl) (hpl : (backTo pos (starEach es X.env)).any (·.1) = false := by rfl) : DE X w (.Call (.Name "max" p) (e :: es) [] pos) ρ μ R :=
  de_callB ha hm (by decide +kernel) hg (by decide) (by decide) he hpl
theorem de_min (ha : DA X w (e :: es) ρ μ fun rs μ1 => CaD X w (.builtin "min") rs μ1 R) (hm : X.mg "min" = none) (hg : Gl X "min" := by rfl)
    (he : starEach (e :: es) X.env = (false, eval e X.env) :: starEach es X.env := by rfl) (hpl : (backTo pos (starEach es X.env)).any (·.1) = false := by rfl) : DE X w (.Call (.Name "min" p) (e :: es) [] pos) ρ μ R :=
  de_callB ha hm (by decide +kernel) hg (by decide) (by decide) he hpl
theorem de_all (ha : DA X w (e :: es) ρ μ fun rs μ1 => CaD X w (.builtin "all") rs μ1 R) (hm : X.mg "all" = none) (hg : Gl X "all" := by rfl)
    (he : starEach (e :: es) X.env = (false, eval e X.env) :: starEach es X.env := by rfl) (hpl : (backTo pos (starEach es X.env)).any (·.1) = false := by rfl) : DE X w (.Call (.Name "all" p) (e :: es) [] pos) ρ μ R :=
  de_callB ha hm (by decide +kernel) hg (by decide) (by decide) he hpl
theorem de_any (ha : DA X w (e :: es) ρ μ fun rs μ1 => CaD X w (.builtin "any") rs μ1 R) (hm : X.mg "any" = none) (hg : Gl X "any" := by rfl)
    (he : starEach (e :: es) X.env = (false, eval e X.env) :: starEach es X.env := by rfl) (hpl : (backTo pos (starEach es X.env)).any (·.1) = false := by rfl) : DE X w (.Call (.Name "any" p) (e :: es) [] pos) ρ μ R :=
  de_callB ha hm (by decide +kernel) hg (by decide) (by decide) he hpl
theorem de_repr (ha : DA X w (e :: es) ρ μ fun rs μ1 => CaD X w (.builtin "repr") rs μ1 R) (hm : X.mg "repr" = none) (hg : Gl X "repr" := by rfl)
    (he : starEach (e :: es) X.env = (false, eval e X.env) :: starEach es X.env := by rfl) (hpl : (backTo pos (starEach es X.env)).any (·.1) = false := by rfl) : DE X w (.Call (.Name "repr" p) (e :: es) [] pos) ρ μ R :=
  de_callB ha hm (by decide +kernel) hg (by decide) (by decide) he hpl
theorem de_divmod (ha : DA X w (e :: es) ρ μ fun rs μ1 => CaD X w (.builtin "divmod") rs μ1 R) (hm : X.mg "divmod" = none) (hg : Gl X "divmod" := by rfl)
    (he : starEach (e :: es) X.env = (false, eval e X.env) :: starEach es X.env := by rfl) (hpl : (backTo pos (starEach es X.env)).any (·.1) = false := by rfl) : DE X w (.Call (.Name "divmod" p) (e :: es) [] pos) ρ μ R :=
  de_callB ha hm (by decide +kernel) hg (by decide) (by decide) he hpl
theorem de_sorted (ha : DA X w (e :: es) ρ μ fun rs μ1 => CaD X w (.builtin "sorted") rs μ1 R) (hm : X.mg "sorted" = none) (hg : Gl X "sorted" := by rfl)
    (he : starEach (e :: es) X.env = (false, eval e X.env) :: starEach es X.env := by rfl) (hpl : (backTo pos (starEach es X.env)).any (·.1) = false := by rfl) : DE X w (.Call (.Name "sorted" p) (e :: es) [] pos) ρ μ R :=
  de_callB ha hm (by decide +kernel) hg (by decide) (by decide) he hpl
theorem de_sum (ha : DA X w (e :: es) ρ μ fun rs μ1 => CaD X w (.builtin "sum") rs μ1 R) (hm : X.mg "sum" = none) (hg : Gl X "sum" := by rfl)
    (he : starEach (e :: es) X.env = (false, eval e X.env) :: starEach es X.env := by rfl) (hpl : (backTo pos (starEach es X.env)).any (·.1) = false := by rfl) : DE X w (.Call (.Name "sum" p) (e :: es) [] pos) ρ μ R :=
  de_callB ha hm (by decide +kernel) hg (by decide) (by decide) he hpl
theorem de_clist (ha : DA X w (e :: es) ρ μ fun rs μ1 => CaD X w (.type "list") rs μ1 R) (hm : X.mg "list" = none) (hg : Gl X "list" := by rfl)
    (he : starEach (e :: es) X.env = (false, eval e X.env) :: starEach es X.env := by rfl) (hpl : (backTo pos (starEach es X.env)).any (·.1) = false := by rfl) : DE X w (.Call (.Name "list" p) (e :: es) [] pos) ρ μ R :=
  de_callT ha hm (by decide +kernel) hg (by decide) (by decide) he hpl
theorem de_ctuple (ha : DA X w (e :: es) ρ μ fun rs μ1 => CaD X w (.type "tuple") rs μ1 R) (hm : X.mg "tuple" = none) (hg : Gl X "tuple" := by rfl)
    (he : starEach (e :: es) X.env = (false, eval e X.env) :: starEach es X.env := by rfl) (hpl : (backTo pos (starEach es X.env)).any (·.1) = false := by rfl) : DE X w (.Call (.Name "tuple" p) (e :: es) [] pos) ρ μ R :=
  de_callT ha hm (by decide +kernel) hg (by decide) (by decide) he hpl
theorem de_cint (ha : DA X w (e :: es) ρ μ fun rs μ1 => CaD X w (.type "int") rs μ1 R) (hm : X.mg "int" = none) (hg : Gl X "int" := by rfl)
    (he : starEach (e :: es) X.env = (false, eval e X.env) :: starEach es X.env := by rfl) (hpl : (backTo pos (starEach es X.env)).any (·.1) = false := by rfl) : DE X w (.Call (.Name "int" p) (e :: es) [] pos) ρ μ R :=
  de_callT ha hm (by decide +kernel) hg (by decide) (by decide) he hpl
theorem de_cstr (ha : DA X w (e :: es) ρ μ fun rs μ1 => CaD X w (.type "str") rs μ1 R) (hm : X.mg "str" = none) (hg : Gl X "str" := by rfl)
    (he : starEach (e :: es) X.env = (false, eval e X.env) :: starEach es X.env := by rfl) (hpl : (backTo pos (starEach es X.env)).any (·.1) = false := by rfl) : DE X w (.Call (.Name "str" p) (e :: es) [] pos) ρ μ R :=
  de_callT ha hm (by decide +kernel) hg (by decide) (by decide) he hpl
theorem de_cdict (ha : DA X w (e :: es) ρ μ fun rs μ1 => CaD X w (.type "dict") rs μ1 R) (hm : X.mg "dict" = none) (hg : Gl X "dict" := by rfl)
    (he : starEach (e :: es) X.env = (false, eval e X.env) :: starEach es X.env := by rfl) (hpl : (backTo pos (starEach es X.env)).any (·.1) = false := by rfl) : DE X w (.Call (.Name "dict" p) (e :: es) [] pos) ρ μ R :=
  de_callT ha hm (by decide +kernel) hg (by decide) (by decide) he hpl
theorem de_cbool (ha : DA X w (e :: es) ρ μ fun rs μ1 => CaD X w (.type "bool") rs μ1 R) (hm : X.mg "bool" = none) (hg : Gl X "bool" := by rfl)
    (he : starEach (e :: es) X.env = (false, eval e X.env) :: starEach es X.env := by rfl) (hpl : (backTo pos (starEach es X.env)).any (·.1) = false := by rfl) : DE X w (.Call (.Name "bool" p) (e :: es) [] pos) ρ μ R :=
  de_callT ha hm (by decide +kernel) hg (by decide) (by decide) he hpl
end

/-! ### own defs -/
theorem undat_len : ∀ {rs : List SV} {ds : List Dt}, undat rs = some ds → rs.length = ds.length
  | [], _, e => by cases e; rfl
  | r :: rs, ds, e => by
    cases r with
    | no => cases e
    | «at» p => cases e
    | ty n => cases e
    | sc K a ns => cases e
    | tys ns => cases e
    | tvs xs => cases e
    | exc _ _ _ _ => cases e
    | dat d =>
      unfold undat at e
      cases e2 : undat rs with
      | none => rw [e2] at e; cases e
      | some ds' => rw [e2] at e; cases e; rw [List.length_cons, List.length_cons, undat_len e2]
theorem undat_map : ∀ {rs : List SV} {ds : List Dt}, undat rs = some ds → rs = ds.map SV.dat
  | [], _, e => by cases e; rfl
  | r :: rs, ds, e => by
    cases r with
    | no => cases e
    | «at» p => cases e
    | ty n => cases e
    | sc K a ns => cases e
    | tys ns => cases e
    | tvs xs => cases e
    | exc _ _ _ _ => cases e
    | dat d =>
      unfold undat at e
      cases e2 : undat rs with
      | none => rw [e2] at e; cases e
      | some ds' => rw [e2] at e; cases e; rw [List.map_cons, ← undat_map e2]
/-- a pure def: of data, data -/
def PSp (ok : List Dt → Prop) (res : List Dt → Dt → Prop) : Sp := GSp (fun rs _ => ∃ ds, undat rs = some ds ∧ ok ds) (fun rs μ r μ' => ∀ ds, undat rs = some ds → ∃ d, r = .dat d ∧ res ds d ∧ μ' = μ)
/-- one that draws from the pot -/
def QSp (ok : List Dt → Prop) (res : List Dt → Dt → Prop) : Sp := GSp (fun rs μ => ∃ p rs' ds, rs = .at p :: rs' ∧ undat rs' = some ds ∧ μ p = some .pot ∧ ok ds) (fun rs μ r μ' => ∀ p rs' ds, rs = .at p :: rs' → undat rs' = some ds → ∃ d, r = .dat d ∧ res ds d ∧ μ' = μ)
structure Own (P : Program) (w : World) (K : PySem.W.Frag) (mg : Str → Option Value) (base : Heap) (x : Str) (k : Nat) (sp : Sp) : Prop where
  ex : ∃ f fd ps, FnG P w K mg base k f fd ps sp ∧ mg x = some (.ref f) ∧ PySem.W.keepIn K (.ref f) = true ∧ Binds K fd ps []
section
variable {P : Program} {wd : World} {K : PySem.W.Frag} {mg : Str → Option Value} {base : Heap} {x qual : Str} {st : Stmt} {f : Addr} {fd : FuncData} {N ps : List Str} {k : Nat}
theorem fn_pure {ok : List Dt → Prop} {res : List Dt → Dt → Prop} (F : Fun K x qual st f fd) (S : FnScope N ps (defScope st)) (hl : ∀ ds, ok ds → ds.length = ps.length)
    (body : ∀ (cdv : Value) (A : Around) (outer : List Env) (s : Shared) (H : Hp), Room k (bx P wd K mg base N qual st f cdv A outer s H).A → (bx P wd K mg base N qual st f cdv A outer s H).A.guards = some [] → ∀ w ds μ, ok ds →
      DSs (bx P wd K mg base N qual st f cdv A outer s H) w (defBody st) (ds.map SV.dat ++ List.replicate (N.length - (ds.map SV.dat).length) .no) μ { nx := fun _ _ => False, rt := fun r μ' => ∃ d, r = .dat d ∧ res ds d ∧ μ.Sub μ' }) :
    FnG P wd K mg base (k + 1) f fd ps (PSp ok res) := by
  refine fn_ok F S (fun rs μ ⟨ds, e, h⟩ => by rw [undat_len e]; exact hl ds h) fun cdv A outer s H hr hg w rs μ ⟨ds, e, h⟩ => ?_
  have b := body cdv A outer s H hr hg w ds μ h
  rw [← undat_map e] at b
  intro σ B H' S' I D E
  refine b σ B H' S' I D ⟨fun _ _ _ _ _ _ _ _ z => z.elim, fun v r B2 H2 μ2 I2 e2 q ⟨d, h1, h2, h3⟩ => E.rt v r B2 H2 μ2 I2 e2 q ⟨μ, h3, fun ds' e' => ?_⟩, E.bk, E.ct⟩
  rw [e] at e'
  cases e'
  exact ⟨d, h1, h2, rfl⟩
theorem fn_pot {ok : List Dt → Prop} {res : List Dt → Dt → Prop} (F : Fun K x qual st f fd) (S : FnScope N ps (defScope st)) (hl : ∀ ds, ok ds → ds.length + 1 = ps.length)
    (body : ∀ (cdv : Value) (A : Around) (outer : List Env) (s : Shared) (H : Hp), Room k (bx P wd K mg base N qual st f cdv A outer s H).A → (bx P wd K mg base N qual st f cdv A outer s H).A.guards = some [] → ∀ w p ds μ, μ p = some .pot → ok ds →
      DSs (bx P wd K mg base N qual st f cdv A outer s H) w (defBody st) (.at p :: ds.map SV.dat ++ List.replicate (N.length - (.at p :: ds.map SV.dat).length) .no) μ { nx := fun _ _ => False, rt := fun r μ' => ∃ d, r = .dat d ∧ res ds d ∧ μ.Sub μ' }) :
    FnG P wd K mg base (k + 1) f fd ps (QSp ok res) := by
  refine fn_ok F S (fun rs μ ⟨p, rs', ds, e0, e, _, h⟩ => by rw [e0, List.length_cons, undat_len e]; exact hl ds h) fun cdv A outer s H hr hg w rs μ ⟨p, rs', ds, e0, e, hm, h⟩ => ?_
  have b := body cdv A outer s H hr hg w p ds μ hm h
  rw [← undat_map e, ← e0] at b
  intro σ B H' S' I D E
  refine b σ B H' S' I D ⟨fun _ _ _ _ _ _ _ _ z => z.elim, fun v r B2 H2 μ2 I2 e2 q ⟨d, h1, h2, h3⟩ => E.rt v r B2 H2 μ2 I2 e2 q ⟨μ, h3, fun p' rs2 ds' e3 e' => ?_⟩, E.bk, E.ct⟩
  rw [e0] at e3
  cases e3
  rw [e] at e'
  cases e'
  exact ⟨d, h1, h2, rfl⟩
end
section
variable {X : Cx} {w : Wd} {ρ : List SV} {μ : Mus} {R : SV → Mus → Prop} {e : Expr} {es : List Expr} {x : Str} {p pos : Pos} {k j : Nat}
theorem de_own {pre : List SV → Mus → Prop} {post : List SV → Mus → SV → Mus → Prop} (O : Own X.prog X.w X.K X.mg X.base x k (GSp pre post)) (hr : Room j X.A) (hkj : k ≤ j) (hgd : X.A.guards = some [])
    (ha : DA X w (e :: es) ρ μ fun rs μ1 => pre rs μ1 ∧ ∀ r μ2, post rs μ1 r μ2 → R r μ2) (hg : Gl X x := by rfl) (hdb : (x == ("__debug__" : Str)) = false := by decide)
    (he : starEach (e :: es) X.env = (false, eval e X.env) :: starEach es X.env := by rfl) (hpl : (backTo pos (starEach es X.env)).any (·.1) = false := by rfl) : DE X w (.Call (.Name x p) (e :: es) [] pos) ρ μ R := by
  obtain ⟨f, fd, ps, F, hm, hk, hb⟩ := O.ex
  exact de_call F (hr.mono hkj) hgd hm hk hb ha hg hdb he hpl
theorem DA.imp {T T' : List SV → Mus → Prop} (h : DA X w es ρ μ T') (k : ∀ rs μ', T' rs μ' → T rs μ') : DA X w es ρ μ T := fun σ B H S I Q q => h σ B H S I Q fun vs rs B' H' μ' I' e' s' z => q vs rs B' H' μ' I' e' s' (k rs μ' z)
theorem de_pure {ok : List Dt → Prop} {res : List Dt → Dt → Prop} (O : Own X.prog X.w X.K X.mg X.base x k (PSp ok res)) (hr : Room j X.A) (hkj : k ≤ j) (hgd : X.A.guards = some [])
    (ha : DA X w (e :: es) ρ μ fun rs μ1 => ∃ ds, undat rs = some ds ∧ ok ds ∧ ∀ d, res ds d → R (.dat d) μ1) (hg : Gl X x := by rfl) (hdb : (x == ("__debug__" : Str)) = false := by decide)
    (he : starEach (e :: es) X.env = (false, eval e X.env) :: starEach es X.env := by rfl) (hpl : (backTo pos (starEach es X.env)).any (·.1) = false := by rfl) : DE X w (.Call (.Name x p) (e :: es) [] pos) ρ μ R :=
  de_own O hr hkj hgd (ha.imp fun rs μ1 ⟨ds, h1, h2, h3⟩ => ⟨⟨ds, h1, h2⟩, fun r μ2 q => by
    obtain ⟨d, rfl, h4, rfl⟩ := q ds h1
    exact h3 d h4⟩) hg hdb he hpl
theorem de_pot {ok : List Dt → Prop} {res : List Dt → Dt → Prop} (O : Own X.prog X.w X.K X.mg X.base x k (QSp ok res)) (hr : Room j X.A) (hkj : k ≤ j) (hgd : X.A.guards = some [])
    (ha : DA X w (e :: es) ρ μ fun rs μ1 => ∃ q rs' ds, rs = .at q :: rs' ∧ undat rs' = some ds ∧ μ1 q = some .pot ∧ ok ds ∧ ∀ d, res ds d → R (.dat d) μ1) (hg : Gl X x := by rfl) (hdb : (x == ("__debug__" : Str)) = false := by decide)
    (he : starEach (e :: es) X.env = (false, eval e X.env) :: starEach es X.env := by rfl) (hpl : (backTo pos (starEach es X.env)).any (·.1) = false := by rfl) : DE X w (.Call (.Name x p) (e :: es) [] pos) ρ μ R :=
  de_own O hr hkj hgd (ha.imp fun rs μ1 ⟨p, rs', ds, h0, h1, hm, h2, h3⟩ => ⟨⟨p, rs', ds, h0, h1, hm, h2⟩, fun r μ2 q => by
    obtain ⟨d, rfl, h4, rfl⟩ := q p rs' ds h0 h1
    exact h3 d h4⟩) hg hdb he hpl
end
end Dat

set_option Elab.async false
set_option linter.all false
set_option maxRecDepth 100000
set_option maxHeartbeats 4000000
/-! Dat9: data of bounded size may be shown. -/
namespace Dat
open PySem PySem.Spec PyProof.Rows L2
theorem textFrom_le : ∀ (ts : List Str) (k : Nat) (acc : Str), (textFrom k acc ts).length ≤ acc.length + piled ts
  | [], k, acc => by simp [textFrom, piled]
  | t :: r, k, acc => by
    have ih := textFrom_le r (k + 1) (acc ++ (if k > 0 then ", " else "" : String) ++ t)
    have e : (acc ++ (if k > 0 then ", " else "" : String) ++ t).length ≤ acc.length + 2 + t.length := by
      rw [strLen_append, strLen_append]
      have : ((if k > 0 then ", " else "" : String) : Str).length ≤ 2 := by split <;> decide
      omega
    have p : piled (t :: r) = t.length + 2 + piled r := by simp [piled]
    show (textFrom (k + 1) _ r).length ≤ _
    rw [p]; omega
theorem listText_le (ts : List Str) : (listText ts).length ≤ piled ts + 2 := by
  unfold listText
  rw [strLen_append]
  have h := textFrom_le ts 0 "["
  have e1 : (("[" : String) : Str).length = 1 := rfl
  have e2 : (("]" : String) : Str).length = 1 := rfl
  rw [e1] at h; rw [e2]; omega
theorem join_le (ts : List Str) : (Str.join ", " ts).length ≤ piled ts := by
  by_cases h : ts = []
  · subst h; decide
  · have := join_length_add ts h; omega
theorem tupleText_le (ts : List Str) : (tupleText ts).length ≤ piled ts + 3 := by
  unfold tupleText
  rw [strLen_append, strLen_append]
  have h := join_le ts
  have e1 : (("(" : String) : Str).length = 1 := rfl
  have e2 : ((if ts.length == 1 then ",)" else ")" : String) : Str).length ≤ 2 := by split <;> decide
  rw [e1]; omega
theorem dictText_le (ts : List Str) : (dictText ts).length ≤ piled ts + 2 := by
  unfold dictText
  rw [strLen_append, strLen_append]
  have h := join_le ts
  have e1 : (("{" : String) : Str).length = 1 := rfl
  have e2 : (("}" : String) : Str).length = 1 := rfl
  rw [e1, e2]; omega
theorem piled_le {L : Nat} : ∀ (ts : List Str), (∀ t ∈ ts, t.length ≤ L) → piled ts ≤ ts.length * (L + 2)
  | [], _ => by simp [piled]
  | t :: r, h => by
    have ih := piled_le r fun u hu => h u (List.mem_cons_of_mem _ hu)
    have p : piled (t :: r) = t.length + 2 + piled r := by simp [piled]
    have := h t List.mem_cons_self
    rw [p, List.length_cons, Nat.succ_mul]; omega
theorem reprChar_le (q c : Nat) (hq : q = 34 ∨ q = 39) (hc : c < 256) : (Builtin.Str.reprChar q c).length ≤ 4 := by
  have h : ∀ c : Fin 256, (Builtin.Str.reprChar 34 c.val).length ≤ 4 ∧ (Builtin.Str.reprChar 39 c.val).length ≤ 4 := by decide +kernel
  rcases hq with rfl | rfl
  · exact (h ⟨c, hc⟩).1
  · exact (h ⟨c, hc⟩).2
theorem reprText_le (x : Str) (h : ∀ c ∈ x.cps.toList, c < 256) : (reprText x).length ≤ 4 * x.length + 2 := by
  rw [← reprLen_eq, ← Array.foldl_toList]
  have hq : reprQuote x = 34 ∨ reprQuote x = 39 := by unfold reprQuote; split <;> simp
  have : ∀ (l : List Nat) (n : Nat), (∀ c ∈ l, c < 256) → l.foldl (fun n c => n + (Builtin.Str.reprChar (reprQuote x) c).length) n ≤ n + 4 * l.length := by
    intro l
    induction l with
    | nil => intro n _; simp
    | cons c l ih =>
      intro n hl
      have h1 := ih (n + (Builtin.Str.reprChar (reprQuote x) c).length) fun d hd => hl d (List.mem_cons_of_mem _ hd)
      have h2 := reprChar_le (reprQuote x) c hq (hl c List.mem_cons_self)
      rw [List.foldl_cons, List.length_cons]; omega
  have z := this x.cps.toList 2 h
  have e : x.cps.toList.length = x.length := by rw [Array.length_toList]; rfl
  rw [e] at z; omega
/-- of bounded size: texts of S signs, M items, so deep -/
def fine (S M : Nat) : Nat → Dt → Prop
  | _, .non => True
  | _, .bl _ => True
  | _, .int i => i.natAbs < 10 ^ 30
  | _, .str x => x.length ≤ S ∧ ∀ c ∈ x.cps.toList, c < 256
  | n + 1, .lst xs => xs.length ≤ M ∧ ∀ d, d ∈ xs → fine S M n d
  | n + 1, .tup xs => xs.length ≤ M ∧ ∀ d, d ∈ xs → fine S M n d
  | n + 1, .dic ks vs => ks.length ≤ 4 ∧ (∀ d, d ∈ ks → fine S M n d) ∧ ∀ d, d ∈ vs → fine S M n d
  | _, _ => False
def fineL (S M : Nat) : Nat → Nat
  | 0 => 4 * S + 40
  | n + 1 => (M + 8) * (fineL S M n + 4) + 3
theorem fine_int {S M : Nat} {i : Int} : ∀ n, i.natAbs < 10 ^ 30 → fine S M n (.int i)
  | 0, h => h
  | _ + 1, h => h
theorem fine_str {S M : Nat} {x : Str} : ∀ n, (x.length ≤ S ∧ ∀ c ∈ x.cps.toList, c < 256) → fine S M n (.str x)
  | 0, h => h
  | _ + 1, h => h
theorem fine_non {S M : Nat} : ∀ n, fine S M n .non
  | 0 => trivial
  | _ + 1 => trivial
theorem fine_bl {S M : Nat} {b : Bool} : ∀ n, fine S M n (.bl b)
  | 0 => trivial
  | _ + 1 => trivial
theorem fine_up {S M : Nat} : ∀ (n : Nat) (d : Dt), fine S M n d → fine S M (n + 1) d
  | _, .non, _ => trivial
  | _, .bl _, _ => trivial
  | 0, .int _, h => h
  | _ + 1, .int _, h => h
  | 0, .str _, h => h
  | _ + 1, .str _, h => h
  | n + 1, .lst xs, h => ⟨h.1, fun d hd => fine_up n d (h.2 d hd)⟩
  | n + 1, .tup xs, h => ⟨h.1, fun d hd => fine_up n d (h.2 d hd)⟩
  | n + 1, .dic ks vs, h => ⟨h.1, fun d hd => fine_up n d (h.2.1 d hd), fun d hd => fine_up n d (h.2.2 d hd)⟩
  | 0, .lst _, h => h.elim
  | 0, .tup _, h => h.elim
  | 0, .dic _ _, h => h.elim
  | 0, .obj _ _ _, h => h.elim
  | 0, .err _ _ _, h => h.elim
  | 0, .mix _ _ _, h => h.elim
  | _ + 1, .mix _ _ _, h => h.elim
  | _ + 1, .obj _ _ _, h => h.elim
  | _ + 1, .err _ _ _, h => h.elim
theorem shownAll_map : ∀ ds : List PyData, PyData.shownAll ds = ds.map PyData.shown
  | [] => by simp [PyData.shownAll]
  | d :: ds => by simp [PyData.shownAll, shownAll_map ds]
theorem fineL_scal (S M n : Nat) : 4 * S + 40 ≤ fineL S M n := by
  induction n with
  | zero => exact Nat.le_refl _
  | succ n ih =>
    show _ ≤ (M + 8) * (fineL S M n + 4) + 3
    have : fineL S M n + 4 ≤ (M + 8) * (fineL S M n + 4) := Nat.le_mul_of_pos_left _ (by omega)
    omega
theorem int_len {i : Int} (h : i.natAbs < 10 ^ 30) : (Str.ofString (toString i)).length ≤ 31 := by
  rw [PySem.ofString_length]
  exact int_text_length_le10 (k := 30) (by decide) h
theorem zip_kv : ∀ (ks vs : List PyData), PyData.shownKv (ks.zip vs) = (ks.zip vs).map fun kv => (kv.1.shown ++ ((": " : String) : Str) ++ kv.2.shown : Str)
  | [], _ => by simp [PyData.shownKv]
  | _ :: _, [] => by simp [PyData.shownKv]
  | k :: ks, v :: vs => by simp [PyData.shownKv, zip_kv ks vs]
theorem fine_len {S M : Nat} : ∀ (n : Nat) (d : Dt), fine S M n d → (toPy d).shown.length ≤ fineL S M n
  | n, .non, _ => by
    have := fineL_scal S M n
    simp only [toPy, PyData.shown]
    have e : (("None" : String) : Str).length = 4 := rfl
    rw [e]; omega
  | n, .bl b, _ => by
    have := fineL_scal S M n
    simp only [toPy, PyData.shown]
    have e : ((if b then "True" else "False" : String) : Str).length ≤ 5 := by cases b <;> decide
    cases b
    · have e : (("False" : String) : Str).length = 5 := rfl
      simp only [Bool.false_eq_true, if_false]
      rw [e]; omega
    · have e : (("True" : String) : Str).length = 4 := rfl
      simp only [if_true]
      rw [e]; omega
  | n, .int i, h => by
    have := fineL_scal S M n
    have h' : i.natAbs < 10 ^ 30 := by cases n <;> exact h
    simp only [toPy, PyData.shown]
    have := int_len h'
    omega
  | n, .str x, h => by
    have := fineL_scal S M n
    have h' : x.length ≤ S ∧ ∀ c ∈ x.cps.toList, c < 256 := by cases n <;> exact h
    simp only [toPy, PyData.shown]
    have := reprText_le x h'.2
    omega
  | n + 1, .lst xs, h => by
    simp only [toPy, PyData.shown, toPyA_map, shownAll_map, List.map_map]
    have q := piled_le (L := fineL S M n) (xs.map (PyData.shown ∘ toPy)) fun t ht => by
      obtain ⟨d, hd, rfl⟩ := List.mem_map.mp ht
      exact fine_len n d (h.2 d hd)
    have z := listText_le (xs.map (PyData.shown ∘ toPy))
    rw [List.length_map] at q
    have m := Nat.mul_le_mul_right (fineL S M n + 2) h.1
    have e : (M + 8) * (fineL S M n + 4) = M * (fineL S M n + 2) + 2 * M + 8 * (fineL S M n + 4) := by rw [Nat.add_mul, Nat.mul_add M, Nat.mul_add M]; omega
    show _ ≤ (M + 8) * (fineL S M n + 4) + 3
    omega
  | n + 1, .tup xs, h => by
    simp only [toPy, PyData.shown, toPyA_map, shownAll_map, List.map_map]
    have q := piled_le (L := fineL S M n) (xs.map (PyData.shown ∘ toPy)) fun t ht => by
      obtain ⟨d, hd, rfl⟩ := List.mem_map.mp ht
      exact fine_len n d (h.2 d hd)
    have z := tupleText_le (xs.map (PyData.shown ∘ toPy))
    rw [List.length_map] at q
    have m := Nat.mul_le_mul_right (fineL S M n + 2) h.1
    have e : (M + 8) * (fineL S M n + 4) = M * (fineL S M n + 2) + 2 * M + 8 * (fineL S M n + 4) := by rw [Nat.add_mul, Nat.mul_add M, Nat.mul_add M]; omega
    show _ ≤ (M + 8) * (fineL S M n + 4) + 3
    omega
  | n + 1, .dic ks vs, h => by
    simp only [toPy, PyData.shown, toPyA_map, zip_kv]
    have q := piled_le (L := 2 * fineL S M n + 2) (((ks.map toPy).zip (vs.map toPy)).map fun kv => kv.1.shown ++ ": " ++ kv.2.shown) fun t ht => by
      obtain ⟨⟨a, b⟩, hd, rfl⟩ := List.mem_map.mp ht
      obtain ⟨h1, h2⟩ := List.of_mem_zip hd
      obtain ⟨x, hx, rfl⟩ := List.mem_map.mp h1
      obtain ⟨y, hy, rfl⟩ := List.mem_map.mp h2
      have q1 := fine_len n x (h.2.1 x hx)
      have q2 := fine_len n y (h.2.2 y hy)
      show ((toPy x).shown ++ ": " ++ (toPy y).shown).length ≤ _
      rw [strLen_append, strLen_append]
      have e : ((": " : String) : Str).length = 2 := rfl
      rw [e]; omega
    have z := dictText_le (((ks.map toPy).zip (vs.map toPy)).map fun kv => kv.1.shown ++ ": " ++ kv.2.shown)
    rw [List.length_map, List.length_zip, List.length_map, List.length_map] at q
    have l4 : min ks.length vs.length ≤ 4 := Nat.le_trans (Nat.min_le_left _ _) h.1
    have m := Nat.mul_le_mul_right (2 * fineL S M n + 2 + 2) l4
    have e : (M + 8) * (fineL S M n + 4) = M * (fineL S M n + 4) + 8 * (fineL S M n + 4) := by rw [Nat.add_mul]
    show _ ≤ (M + 8) * (fineL S M n + 4) + 3
    omega
  | 0, .lst _, h => h.elim
  | 0, .tup _, h => h.elim
  | 0, .dic _ _, h => h.elim
  | 0, .obj _ _ _, h => h.elim
  | 0, .err _ _ _, h => h.elim
  | 0, .mix _ _ _, h => h.elim
  | _ + 1, .mix _ _ _, h => h.elim
  | _ + 1, .obj _ _ _, h => h.elim
  | _ + 1, .err _ _ _, h => h.elim
theorem showsAll_of : ∀ (xs : List Dt), (∀ d, d ∈ xs → (toPy d).showable = true) → PyData.showableAll (toPyA xs) = true
  | [], _ => by simp [toPyA, PyData.showableAll]
  | x :: xs, h => by rw [toPyA, PyData.showableAll, h x List.mem_cons_self, showsAll_of xs fun d hd => h d (List.mem_cons_of_mem _ hd)]; rfl
theorem deepAll_of {n : Nat} : ∀ (xs : List Dt), (∀ d, d ∈ xs → (toPy d).depth ≤ n) → PyData.depthAll (toPyA xs) ≤ n
  | [], _ => by simp [toPyA, PyData.depthAll]
  | x :: xs, h => by
    rw [toPyA, PyData.depthAll]
    exact Nat.max_le.mpr ⟨h x List.mem_cons_self, deepAll_of xs fun d hd => h d (List.mem_cons_of_mem _ hd)⟩
theorem plainAll_of : ∀ (xs : List Dt), (∀ d, d ∈ xs → plain d = true) → plainA xs = true
  | [], _ => by simp [plainA]
  | x :: xs, h => by rw [plainA, h x List.mem_cons_self, plainAll_of xs fun d hd => h d (List.mem_cons_of_mem _ hd)]; rfl
theorem showsKv_of : ∀ (ks vs : List Dt), (∀ d, d ∈ ks → (toPy d).showable = true) → (∀ d, d ∈ vs → (toPy d).showable = true) → PyData.showableKv ((toPyA ks).zip (toPyA vs)) = true
  | [], _, _, _ => by simp [toPyA, PyData.showableKv]
  | _ :: _, [], _, _ => by simp [toPyA, PyData.showableKv]
  | k :: ks, v :: vs, h1, h2 => by
    rw [toPyA, toPyA, List.zip_cons_cons, PyData.showableKv, h1 k List.mem_cons_self, h2 v List.mem_cons_self, showsKv_of ks vs (fun d hd => h1 d (List.mem_cons_of_mem _ hd)) fun d hd => h2 d (List.mem_cons_of_mem _ hd)]; rfl
theorem deepKv_of {n : Nat} : ∀ (ks vs : List Dt), (∀ d, d ∈ ks → (toPy d).depth ≤ n) → (∀ d, d ∈ vs → (toPy d).depth ≤ n) → PyData.depthKv ((toPyA ks).zip (toPyA vs)) ≤ n
  | [], _, _, _ => by simp [toPyA, PyData.depthKv]
  | _ :: _, [], _, _ => by simp [toPyA, PyData.depthKv]
  | k :: ks, v :: vs, h1, h2 => by
    rw [toPyA, toPyA, List.zip_cons_cons, PyData.depthKv]
    exact Nat.max_le.mpr ⟨Nat.max_le.mpr ⟨h1 k List.mem_cons_self, h2 v List.mem_cons_self⟩, deepKv_of ks vs (fun d hd => h1 d (List.mem_cons_of_mem _ hd)) fun d hd => h2 d (List.mem_cons_of_mem _ hd)⟩
theorem fine_rest {S M : Nat} : ∀ (n : Nat) (d : Dt), fine S M n d → (toPy d).showable = true ∧ (toPy d).depth ≤ n ∧ plain d = true
  | n, .non, _ => by simp [toPy, PyData.showable, PyData.depth, plain]
  | n, .bl b, _ => by simp [toPy, PyData.showable, PyData.depth, plain]
  | n, .int i, h => by
    have h' : i.natAbs < 10 ^ 30 := by cases n <;> exact h
    refine ⟨?_, by simp [toPy, PyData.depth], by simp [plain]⟩
    simp only [toPy, PyData.showable, decide_eq_true_eq]
    by_cases z : i.natAbs = 0
    · rw [z]; decide
    · exact (Nat.log2_lt z).mpr (Nat.lt_trans h' (by decide))
  | n, .str x, _ => by simp [toPy, PyData.showable, PyData.depth, plain]
  | n + 1, .lst xs, h => by
    simp only [toPy, PyData.showable, PyData.depth, plain]
    exact ⟨showsAll_of xs fun d hd => (fine_rest n d (h.2 d hd)).1, Nat.succ_le_succ (deepAll_of xs fun d hd => (fine_rest n d (h.2 d hd)).2.1), plainAll_of xs fun d hd => (fine_rest n d (h.2 d hd)).2.2⟩
  | n + 1, .tup xs, h => by
    simp only [toPy, PyData.showable, PyData.depth, plain]
    exact ⟨showsAll_of xs fun d hd => (fine_rest n d (h.2 d hd)).1, Nat.succ_le_succ (deepAll_of xs fun d hd => (fine_rest n d (h.2 d hd)).2.1), plainAll_of xs fun d hd => (fine_rest n d (h.2 d hd)).2.2⟩
  | n + 1, .dic ks vs, h => by
    simp only [toPy, PyData.showable, PyData.depth, plain]
    exact ⟨showsKv_of ks vs (fun d hd => (fine_rest n d (h.2.1 d hd)).1) fun d hd => (fine_rest n d (h.2.2 d hd)).1, Nat.succ_le_succ (deepKv_of ks vs (fun d hd => (fine_rest n d (h.2.1 d hd)).2.1) fun d hd => (fine_rest n d (h.2.2 d hd)).2.1), plainAll_of vs fun d hd => (fine_rest n d (h.2.2 d hd)).2.2⟩
  | 0, .lst _, h => h.elim
  | 0, .tup _, h => h.elim
  | 0, .dic _ _, h => h.elim
  | 0, .obj _ _ _, h => h.elim
  | 0, .err _ _ _, h => h.elim
  | 0, .mix _ _ _, h => h.elim
  | _ + 1, .mix _ _ _, h => h.elim
  | _ + 1, .obj _ _ _, h => h.elim
  | _ + 1, .err _ _ _, h => h.elim
mutual
def hasDic : Dt → Bool
  | .lst xs => hasDicA xs | .tup xs => hasDicA xs | .dic _ _ => true | .mix _ _ _ => true | _ => false
def hasDicA : List Dt → Bool
  | [] => false
  | d :: ds => hasDic d || hasDicA ds
end
mutual
theorem hasDic_py : ∀ d : Dt, (toPy d).hasDict = hasDic d
  | .non => by simp [toPy, PyData.hasDict, hasDic]
  | .bl _ => by simp [toPy, PyData.hasDict, hasDic]
  | .int _ => by simp [toPy, PyData.hasDict, hasDic]
  | .str _ => by simp [toPy, PyData.hasDict, hasDic]
  | .lst xs => by simp [toPy, PyData.hasDict, hasDic, hasDicA_py xs]
  | .tup xs => by simp [toPy, PyData.hasDict, hasDic, hasDicA_py xs]
  | .dic _ _ => by simp [toPy, PyData.hasDict, hasDic]
  | .obj _ _ _ => by simp [toPy, PyData.hasDict, hasDic]
  | .err _ _ _ => by simp [toPy, PyData.hasDict, hasDic]
  | .mix _ _ _ => by simp [toPy, PyData.hasDict, hasDic]
theorem hasDicA_py : ∀ ds : List Dt, PyData.hasDictAll (toPyA ds) = hasDicA ds
  | [] => by simp [toPyA, PyData.hasDictAll, hasDicA]
  | d :: ds => by simp [toPyA, PyData.hasDictAll, hasDicA, hasDic_py d, hasDicA_py ds]
end
theorem fine_shown {S M n : Nat} {d : Dt} (h : fine S M n d) (hl : fineL S M n ≤ 16777216) (hn : n ≤ 60) (h1 : hasDic d = true → hasLst d = false) : Shown d := by
  obtain ⟨a, b, c⟩ := fine_rest n d h
  exact ⟨c, fun z => h1 (by rw [← hasDic_py]; exact z), a, Nat.le_trans (fine_len n d h) (by rw [sizeLine_eq]; exact hl), Nat.le_trans b hn⟩
end Dat

set_option Elab.async false
set_option linter.all false
set_option maxRecDepth 100000
set_option maxHeartbeats 4000000
/-! Dat10: comprehensions told by their items; texts joined. -/
namespace Dat
open PySem PySem.Spec PyProof.Rows L2
section
variable {X : Cx} {w : Wd} {ρ : List SV} {μ : Mus} {R : SV → Mus → Prop} {elt c : Expr} {scope : Scope} {j : Nat} {items : List Dt}
/-- [f x for x in items] -/
theorem lc_map (f : Dt → Dt) (hl : items.length ≤ 100000) (h : ∀ d, d ∈ items → ∀ w' k, DE (BX X scope k) w' elt (ρ.set j (.dat d)) μ fun r μ' => r = .dat (f d) ∧ μ' = μ) (hR : R (.dat (.lst (items.map f))) μ) : LcAsk X scope elt [] ρ j R items μ := by
  refine ⟨hl, fun n acc μ' => μ' = μ ∧ acc = (items.take n).map f, ⟨rfl, by simp⟩, ?_, ?_⟩
  · rintro n acc d μ2 hd _ ⟨rfl, rfl⟩ w' k
    refine dq_nil ⟨fun _ kc => (h d (List.mem_of_getElem? hd) w' kc).imp fun r μ' ⟨h1, h2⟩ => ⟨f d, h1, h2, ?_⟩, nofun⟩
    rw [List.take_add_one, hd, List.map_append]
    rfl
  · rintro acc μ' ⟨rfl, rfl⟩ _
    rw [List.take_length]
    exact hR
/-- [f x for x in items if p x] -/
theorem lc_filter (f : Dt → Dt) (p : Dt → Bool) (hl : items.length ≤ 100000) (hc : ∀ d, d ∈ items → ∀ w' k, DT (BX X scope k) w' c (ρ.set j (.dat d)) μ fun b μ' => b = p d ∧ μ' = μ)
    (h : ∀ d, d ∈ items → p d = true → ∀ w' k, DE (BX X scope k) w' elt (ρ.set j (.dat d)) μ fun r μ' => r = .dat (f d) ∧ μ' = μ) (hR : R (.dat (.lst ((items.filter p).map f))) μ) : LcAsk X scope elt [c] ρ j R items μ := by
  refine ⟨hl, fun n acc μ' => μ' = μ ∧ acc = ((items.take n).filter p).map f, ⟨rfl, by simp⟩, ?_, ?_⟩
  · rintro n acc d μ2 hd _ ⟨rfl, rfl⟩ w' k
    have hm := List.mem_of_getElem? hd
    have tk : items.take (n + 1) = items.take n ++ [d] := by rw [List.take_add_one, hd]; rfl
    refine dq_one ((hc d hm w' k).imp fun b μ3 ⟨hb, e⟩ => ?_)
    subst e
    refine ⟨fun t kc => (h d hm (by rw [← hb]; exact t) w' kc).imp fun r μ' ⟨h1, h2⟩ => ⟨f d, h1, h2, ?_⟩, fun t => ⟨rfl, ?_⟩⟩
    · rw [tk, List.filter_append, List.map_append, List.filter_cons, ← hb, if_pos t]; rfl
    · rw [tk, List.filter_append, List.filter_cons, ← hb, if_neg (by rw [t]; decide)]; simp
  · rintro acc μ' ⟨rfl, rfl⟩ _
    rw [List.take_length]
    exact hR
/-- elements of which T holds, each item giving one -/
theorem lc_some (T : Dt → Prop) (hl : items.length ≤ 100000) (h : ∀ d, d ∈ items → ∀ w' k, DE (BX X scope k) w' elt (ρ.set j (.dat d)) μ fun r μ' => ∃ d', r = .dat d' ∧ T d' ∧ μ' = μ)
    (hR : ∀ acc, acc.length = items.length → (∀ d, d ∈ acc → T d) → R (.dat (.lst acc)) μ) : LcAsk X scope elt [] ρ j R items μ := by
  refine ⟨hl, fun n acc μ' => μ' = μ ∧ acc.length = (items.take n).length ∧ ∀ d, d ∈ acc → T d, ⟨rfl, by simp, by simp⟩, ?_, ?_⟩
  · rintro n acc d μ2 hd _ ⟨rfl, hlen, hT⟩ w' k
    refine dq_nil ⟨fun _ kc => (h d (List.mem_of_getElem? hd) w' kc).imp fun r μ' ⟨d', h1, h2, h3⟩ => ⟨d', h1, h3, ?_, ?_⟩, nofun⟩
    · rw [List.take_add_one, hd, List.length_append, List.length_append, hlen]; rfl
    · intro y hy
      rcases List.mem_append.mp hy with e | e
      · exact hT y e
      · rw [List.mem_singleton.mp e]; exact h2
  · rintro acc μ' ⟨rfl, hlen, hT⟩ _
    rw [List.take_length] at hlen
    exact hR acc hlen hT
theorem signs_mem {z : Str} {d : Dt} (h : d ∈ signs z) : ∃ c, c ∈ z.cps.toList ∧ d = .str ⟨#[c]⟩ := by
  obtain ⟨c, h1, h2⟩ := List.mem_map.mp h
  exact ⟨c, h1, h2.symm⟩
theorem signs_len (z : Str) : (signs z).length = z.length := by
  unfold signs
  rw [List.length_map, Array.length_toList]; rfl
theorem lt_sign (a b : Nat) : decide ([a] < [b]) = decide (a < b) := by
  rw [Bool.eq_iff_iff, decide_eq_true_eq, decide_eq_true_eq]
  constructor
  · intro h
    cases h with
    | rel h => exact h
    | cons h => cases h
  · intro h
    exact .rel h
end
section
variable {X : Cx} {w : Wd} {ρ : List SV} {μ : Mus} {R : SV → Mus → Prop} {o e : Expr} {apos pos : Pos}
theorem de_join (ho : DE X w o ρ μ fun r μ1 => ∃ a, r = .dat (.str a) ∧ DE X w e ρ μ1 fun r2 μ2 => ∃ ys : List Str, LsQ r2 μ2 (ys.map Dt.str) ∧ (ys.map (·.length)).sum + ys.length * a.length ≤ 16777216 ∧ R (.dat (.str (Txt.join a ys))) μ2)
    (hs : starEach [e] X.env = [(false, eval e X.env)] := by rfl) (hbase : attributeBase o "join" X.env (eval o X.env) = eval o X.env := by rfl) (hline : (apos.endLine == pos.line) = true := by rfl) : DE X w (.Call (.Attribute o "join" apos) [e] [] pos) ρ μ R := fun σ B H S I Q k =>
  tE_of (pe_join pe_self pe_self hs hbase hline) (ho σ B H S I _ fun v r B1 H1 μ1 I1 e1 q1 h1 => by
    obtain ⟨a, rfl, h1⟩ := h1
    cases q1
    refine ⟨⟨a, rfl⟩, h1 σ B1 H1 (S.mono e1) I1 _ fun v2 r2 B2 H2 μ2 I2 e2 q2 h2 => ?_⟩
    obtain ⟨ys, hl, hz, h2⟩ := h2
    obtain ⟨p, xs, rfl, hp, hx⟩ := ls_get I2 q2 hl
    have ev := DqA.strs hx
    subst ev
    exact ⟨a, p, ys, rfl, rfl, .inl (.inl (.inl hp)), hz, k _ (.dat (.str (Txt.join a ys))) B2 H2 μ2 I2 (e1.trans e2) (Dq.str _) h2⟩)
theorem de_upper (ho : DE X w o ρ μ fun r μ1 => ∃ a, r = .dat (.str a) ∧ a.length ≤ 5592405 ∧ R (.dat (.str (Txt.upper a))) μ1)
    (hbase : attributeBase o "upper" X.env (eval o X.env) = eval o X.env := by rfl) (hline : (apos.endLine == pos.line) = true := by rfl) : DE X w (.Call (.Attribute o "upper" apos) [] [] pos) ρ μ R := fun σ B H S I Q k =>
  tE_of (pe_upper pe_self hbase hline) (ho σ B H S I _ fun v r B1 H1 μ1 I1 e1 q1 h1 => by
    obtain ⟨a, rfl, hl, h1⟩ := h1
    cases q1
    exact ⟨⟨a, rfl⟩, a, rfl, rfl, hl, k _ (.dat (.str (Txt.upper a))) B1 H1 μ1 I1 e1 (Dq.str _) h1⟩)
theorem op_mulS {x : Str} {n : Int} (hok : MulOk x n) (h : R (.dat (.str (Txt.mul x n))) μ) : OpD X w (binaryOp .Mult) (.dat (.str x)) (.dat (.int n)) μ R := fun B H v u I q1 q2 Q k pins s σ a b J ra rb => by
  cases q1; cases q2
  obtain ⟨t, rfl⟩ := ra
  obtain ⟨t', rfl⟩ := rb
  exact SB.mul hok fun t2 k2 => ⟨.str _, H, J.tok _, ⟨_, rfl⟩, k _ (.dat (.str (Txt.mul x n))) B H μ I (Ex.refl B) (Dq.str _) h⟩
/-- a dict of one text key -/
theorem de_dict0 (h : R (.dat (.dic [] [])) μ) : DE X w (.Dict [] [] pos) ρ μ R := fun σ B H S I Q k =>
  tE_of pe_dnewK fun p hp => k (.ref p) (.dat (.dic [] [])) _ _ μ (I.new hp _) (Ex.new (I.free hp).1) (Dq.dic (kvs := []) upd_same .nil) h
theorem de_dict1 {ke ve : Expr} (h : ∀ w', DE X w' ke ρ μ fun r μ1 => ∃ x, r = .dat (.str x) ∧ DE X w' ve ρ μ1 fun r2 μ2 => ∃ d, r2 = .dat d ∧ R (.dat (.dic [.str x] [d])) μ2) : DE X w (.Dict [some ke] [ve] pos) ρ μ R := fun σ B H S I Q k =>
  tE_of (pe_disp (pps_cons pe_self pe_self pps_nil) rfl rfl (by simp) (by simp)) fun p hp => by
    -- the new dict is made ahead of what it holds: a world begins here
    obtain ⟨bp, mp, wp⟩ := I.free hp
    have I0 : SInv w B (upd H p (.dK [])) μ := I.own bp wp mp _
    have J0 : SInv ⟨B, upd H p (.dK []), fun q => μ q ≠ none⟩ B (upd H p (.dK [])) μ := SInv.start I0.bh fun q o z => ⟨(I0.mus q o z).1, (I0.mus q o z).2.1⟩
    refine h _ σ B _ S J0 _ fun v r B1 H1 μ1 I1 e1 q1 h1 => ?_
    obtain ⟨x, rfl, h1⟩ := h1
    cases q1
    refine h1 σ B1 H1 (S.mono e1) I1 _ fun v2 r2 B2 H2 μ2 I2 e2 q2 h2 => ?_
    obtain ⟨d, rfl, h2⟩ := h2
    have hH : H2 p = some (.dK []) := I2.keep p _ (fun z => z mp) upd_same
    have hB : B2 p = none := I2.out p (show upd H p (.dK []) p ≠ none by rw [upd_same]; exact nofun) bp
    have hM : μ2 p = none := by
      cases z : μ2 p with
      | none => rfl
      | some o =>
        rcases (I2.mus p o z).2.2 with c | c
        · exact absurd mp c
        · have c' : upd H p (.dK []) p = none := c
          rw [upd_same] at c'; cases c'
    refine ⟨hH, [(Sum.inr x, v2)], rfl, by simp, ?_⟩
    have I3 := ((I0.back I2).own hB wp hM (.dK (mergeK [] [(Sum.inr x, v2)]))).told hB wp hM upd_same
    exact k (.ref p) (.dat (.dic [.str x] [d])) _ _ μ2 I3 ((e1.trans e2).trans (Ex.new hB)) (Dq.dic (kvs := [(Sum.inr x, v2)]) upd_same (DqA.one ((show Dq B2 v2 d from q2).mono (Ex.new hB)))) h2
end
end Dat

set_option Elab.async false
set_option linter.all false
set_option maxRecDepth 100000
set_option maxHeartbeats 4000000
/-! Dat11: defs that may raise one of their own errors (without a field); try and except over data. -/
namespace Dat
open PySem PySem.Spec PyProof.Rows L2
theorem Sto.drop {B : Hp} {σ : L2.St} {ρ : List SV} (S : Sto B σ ρ) (i : Nat) : Sto B (σ.set i none) (ρ.set i .no) := ⟨by rw [List.length_set, List.length_set, S.len], fun j u hj => by
  by_cases e : i = j
  · subst e
    by_cases hl : i < ρ.length
    · rw [List.getElem?_set_self hl] at hj
      exact .inl (Option.some.inj hj).symm
    · rw [List.getElem?_eq_none (by rw [List.length_set]; omega)] at hj
      cases hj
  · rw [List.getElem?_set_ne e] at hj
    rcases S.get j u hj with h | ⟨v, h1, h2⟩
    · exact .inl h
    · exact .inr ⟨v, by rw [List.getElem?_set_ne e]; exact h1, h2⟩⟩
structure FnX (P : Program) (w : World) (K : PySem.W.Frag) (mg : Str → Option Value) (base : Heap) (k : Nat) (f : Addr) (fd : FuncData) (ps : List Str) (sp : Sp) : Prop where
  len : ∀ vs H Q E, sp vs H Q E → vs.length = ps.length
  run : ∀ (A : Around) (outer : List Env) (s : Shared) (H : Hp) (args : Args) (us : List Value) (vs : List V) (Q : VK) (E : XK), Room k A → A.guards = some [] → Env0 P w K mg base A outer s H → BindsTo s fd args (ps.zip us) → Vals vs us → sp vs H Q E →
    codeAny (model P w) A (.call (.ref f) args) (CR (L2.CX P w) outer P w H s Q E) s
/-- pre of the arguments, post of the answer, or the error C where exc holds -/
def XSp (C : Addr) (pre : List SV → Mus → Prop) (post : List SV → Mus → SV → Mus → Prop) (exc : List SV → Mus → Prop) : Sp := fun vs H Q E => ∃ B rs μ, SvA B vs rs ∧ Ex B H ∧ (∀ p o, μ p = some o → B p = none ∧ MoOk B H p o) ∧ pre rs μ ∧
  (∀ v r B' H' μ', SInv ⟨B, H, fun p => μ p ≠ none⟩ B' H' μ' → Svq B' v r → post rs μ r μ' → Q v H') ∧ (exc rs μ → ∀ B' H', SInv ⟨B, H, fun p => μ p ≠ none⟩ B' H' μ → E (.ref C) none H')
section
variable {P : Program} {wd : World} {K : PySem.W.Frag} {mg : Str → Option Value} {base : Heap}
abbrev bxx (P : Program) (wd : World) (K : PySem.W.Frag) (mg : Str → Option Value) (base : Heap) (N : List Str) (qual : Str) (st : Stmt) (f : Addr) (cdv : Value) (A : Around) (outer : List Env) (s : Shared) (H : Hp) (E : XK) : Cx :=
  cxOf (L2.CX P wd) P wd K mg base N qual (defScope st) f cdv A outer s H E
theorem fnx_ok {C : Addr} {x qual : Str} {st : Stmt} {f : Addr} {fd : FuncData} {N ps : List Str} {k : Nat} {pre : List SV → Mus → Prop} {post : List SV → Mus → SV → Mus → Prop} {exc : List SV → Mus → Prop} (F : Fun K x qual st f fd) (S : FnScope N ps (defScope st))
    (len : ∀ rs μ, pre rs μ → rs.length = ps.length)
    (body : ∀ (cdv : Value) (A : Around) (outer : List Env) (s : Shared) (H : Hp) (E : XK), Room k (bxx P wd K mg base N qual st f cdv A outer s H E).A → (bxx P wd K mg base N qual st f cdv A outer s H E).A.guards = some [] → ∀ w rs μ, pre rs μ →
      (exc rs μ → ∀ B' H' μ', μ.Sub μ' → SInv w B' H' μ' → E (.ref C) none H') →
      DSs (bxx P wd K mg base N qual st f cdv A outer s H E) w (defBody st) (rs ++ List.replicate (N.length - rs.length) .no) μ { nx := fun _ μ' => ∃ ν, ν.Sub μ' ∧ post rs μ (.dat .non) ν, rt := fun r μ' => ∃ ν, ν.Sub μ' ∧ post rs μ r ν }) :
    FnX P wd K mg base (k + 1) f fd ps (XSp C pre post exc) := by
  have len' : ∀ vs H Q E, XSp C pre post exc vs H Q E → vs.length = ps.length := fun vs H Q E h => by
    obtain ⟨B, rs, μ, h1, _, _, h2, _⟩ := h
    rw [h1.length]; exact len rs μ h2
  obtain ⟨oc, od, kV, doc, pm, an, cdv, ct, osl, rfl, lk, hcd⟩ := F.ex
  refine ⟨len', fun A outer s H args us vs Q E hr hg en hb rv hsp => ?_⟩
  have inK : K.In s.heap := en.mod.kin.keeps fun b o z => (en.bs b o z).1
  refine codeAny_call_function hr.depth (inK _ _ lk) rfl S.co S.gen rfl (PySem.W.codeRec_of inK hcd) (hb _ _ _ _ (wpAny_newFunctionEnv_cells S.kind ?_ fun env he s1 hx => ?_))
  · rintro ⟨n, v⟩ hy
    have q := S.par n (List.of_mem_zip hy).1
    exact q.imp id fun z => ⟨z, PySem.W.cellsFrom_some _ _ _ (.inl z)⟩
  · subst he
    refine ⟨(en.mod.nolimit.keeps fun b o z => (en.bs b o z).1).keeps hx.toInCall.keep, codeAny_func ?_⟩
    have I0 := inv_start (CX := L2.CX P wd) (qual := qual) (f := f) (cd := cdv) (E := E) S hr.hd en (len' _ _ _ _ hsp) rv hx
    obtain ⟨B, rs, μ, q1, q2, q3, q4, q5, q6⟩ := id hsp
    have b0 := body cdv A outer s H E (hr.deeper _) hg ⟨B, H, fun p => μ p ≠ none⟩ rs μ q4 (fun he B' H' μ' sb J => q6 he B' H' (J.sub sb)) (L2.start N vs) B H (start_sto q1) (SInv.start q2 q3) { nx := fun _ H' => Q .non H', rt := Q }
      ⟨fun _ B' H' _ μ' _ J _ ⟨ν, hν, h⟩ => q5 .non (.dat .non) B' H' ν (J.sub hν) Dq.non h, fun v r B' H' μ' J _ q ⟨ν, hν, h⟩ => q5 v r B' H' ν (J.sub hν) q h, fun _ _ _ _ _ _ _ _ h => h.elim, fun _ _ _ _ _ _ _ _ h => h.elim⟩
    refine wpAny_mono (b0 [] s1 I0) (fun fl s' hs => ?_) fun _ _ hs => hs
    have done : ∀ {σ' : L2.St} {H' : Hp} {v : V} {u : Value}, Inv (bxx P wd K mg base N qual st f cdv A outer s H E) [] σ' H' s' → RelV v u → Q v H' → CE outer P wd H s Q u s' := fun {σ' H' v u} J rv q => ⟨v, H', J.os, J.bare, J.base, J.hok, rv, q⟩
    cases fl with
    | ret u => obtain ⟨v, σ', H', J, rv, q⟩ := hs; exact done J rv q
    | next => obtain ⟨σ', H', J, q⟩ := hs; exact done (v := V.non) (u := Value.none) J rfl q
    | brk => obtain ⟨_, _, _, q⟩ := hs; exact q.elim
    | cont => obtain ⟨_, _, _, q⟩ := hs; exact q.elim
end
section
variable {X : Cx} {w : Wd} {ρ : List SV} {μ : Mus} {R : SV → Mus → Prop} {P : Po} {e : Expr} {es : List Expr} {x : Str} {p pos : Pos} {k : Nat} {f C : Addr} {fd : FuncData} {ps : List Str} {W : WX}
/-- a call that may raise C -/
theorem de_callX {pre : List SV → Mus → Prop} {post : List SV → Mus → SV → Mus → Prop} {exc : List SV → Mus → Prop} (F : FnX X.prog X.w X.K X.mg X.base k f fd ps (XSp C pre post exc)) (tk : Takes X W) (hr : Room k X.A) (hgd : X.A.guards = some []) (hm : X.mg x = some (.ref f)) (hk : PySem.W.keepIn X.K (.ref f) = true) (hb : Binds X.K fd ps [])
    (ha : DA X w (e :: es) ρ μ fun rs μ1 => pre rs μ1 ∧ (∀ r μ2, post rs μ1 r μ2 → R r μ2) ∧ (exc rs μ1 → ∀ σ B H, Sto B σ ρ → SInv w B H μ1 → W (.ref C) none σ H)) (hg : Gl X x := by rfl) (hdb : (x == ("__debug__" : Str)) = false := by decide)
    (he : starEach (e :: es) X.env = (false, eval e X.env) :: starEach es X.env := by rfl) (hpl : (backTo pos (starEach es X.env)).any (·.1) = false := by rfl) : DE X w (.Call (.Name x p) (e :: es) [] pos) ρ μ R := fun σ B H S I Q kk pins s J => by
  refine wpAny_Call_Name_kw (ld_glob J hg hm ?_ hdb)
  refine PySem.W.callWith_K (h₀ := X.base) J.ok.mod.kin hk (thn ((pa_self (X := X) (es := e :: es)).run pos pins s σ H _ J (ha σ B H S I
    (fun vs H1 => ∀ us s1, Inv X pins σ H1 s1 → Vals vs us → wpAny (model X.prog X.w) X.A (call (.ref f) us) (EP X pins σ Q) X.xe s1) ?_)) fun us s1 ⟨vs, H1, J1, rv, q⟩ => ⟨J1.kIn, q us s1 J1 rv⟩) he hpl
  intro vs rs B1 H1 μ1 I1 e1 q1 h1 us s1 J1 rv
  have hsp : XSp C pre post exc vs H1 Q (WE W σ) := ⟨B1, rs, μ1, q1, I1.bh, fun p o z => ⟨(I1.mus p o z).1, (I1.mus p o z).2.1⟩, h1.1, fun v r B' H' μ' L qv hp => kk v r B' H' μ' (I1.back L) (e1.trans L.b0) qv (h1.2.1 r μ' hp),
    fun he B' H' L => h1.2.2 he σ B' H' (S.mono (e1.trans L.b0)) (I1.back L)⟩
  have hl : (us ++ []).length = ps.length := by rw [List.append_nil, ← rv.length]; exact F.len _ _ _ _ hsp
  have bd := hb s1 us J1.kIn hl
  rw [List.append_nil] at bd
  refine wpAny_call (codeAny_mono (F.run X.A X.stack s1 H1 ⟨us, []⟩ us vs Q (WE W σ) hr hgd J1.env0 bd rv hsp) fun r s' hq => ?_)
  match r, hq with
  | .ok (.ret u), hq => exact J1.after hq
  | .ok .next, hq => exact hq.elim
  | .ok .brk, hq => exact hq.elim
  | .ok .cont, hq => exact hq.elim
  | .error u, hq => exact passAt tk σ pins H1 s1 u s' J1 hq
/-- raise C("words"), C under ValueError without a def of its own -/
theorem ds_raiseV {m : Str} {j : Nat} {p2 : Pos} (tk : Takes X W) (hc : X.calm = true) (q : PySem.W.excIn X.K C [.type "ValueError", .type "Exception", .type "BaseException", .type "object"] "ValueError.__new__" = true) (gC : X.mg x = some (.ref C)) (kC : PySem.W.keepIn X.K (.ref C) = true)
    (r : Raises X (.ref C)) (h : ∀ σ B H, Sto B σ ρ → SInv w B H μ → W (.ref C) none σ H) (hg : Gl X x := by rfl) (hdb : (x == ("__debug__" : Str)) = false := by decide) {pos2 : Pos} :
    DS X w (.Raise (some (.Call (.Name x p) [.Constant (.str m) j p2] [] pos)) none pos2) ρ μ P := fun σ B H S I D E =>
  tS_of (ps_raise hc tk (pmk_own PySem.F.excBase_ValueError q gC kC r hg hdb)) (h σ B H S I)
/-- try: body; except C as n: suite -/
theorem ds_try {n : Str} {np pos' : Pos} {body suite : List Stmt} {b₀ : Stmt} {cv : Value} (i : Nat) (exc : Mus → Prop) (hN : X.N.Nodup) (hc : Names X x cv) (eP : PySem.W.exmOne X.K (.ref C) cv = some true)
    (hb : ∀ w2 W pn xe, Takes (X.tr pn xe) W → (∀ σ' B' H' μ', Sto B' σ' ρ → SInv w2 B' H' μ' → exc μ' → W (.ref C) none σ' H') → DSs (X.tr pn xe) w2 body ρ μ P)
    (hsu : ∀ a oe pn μ', Zc (.ref C) none oe → (∃ vs, oe.data = .fields vs) → exc μ' → DSs (X.suite a ((a, oe) :: pn)) w (b₀ :: suite) (ρ.set i (.at a)) μ' { nx := fun ρ' μ' => P.nx (ρ'.set i .no) μ', rt := P.rt, bk := fun ρ' μ' => P.bk (ρ'.set i .no) μ', ct := fun ρ' μ' => P.ct (ρ'.set i .no) μ' })
    (hi : X.N[i]? = some n := by rfl) (hln : X.env.kindOf n = some .local := by rfl) (hs : X.stack = X.env :: X.outer := by rfl) (hf : X.env.frame = some X.env.locals := by rfl) :
    DS X w (.Try body [.ExceptHandler (some (.Name x np)) (some n) (b₀ :: suite) pos'] [] [] pos) ρ μ P := fun σ B H S I D E => by
  refine tS_of (ps_try_as (i := i) (Wout := fun _ _ _ _ => False) (tb := fun W D σ H => ∀ pn xe, Takes (X.tr pn xe) W → PassesOwn (model X.prog X.w) X.A X.env xe → tB_ (X.tr pn xe) body D σ H)
    (ts := fun a cls d D σ H => ∀ oe pn, Zc cls d oe → (∃ vs, oe.data = .fields vs) → tB_ (X.suite a ((a, oe) :: pn)) (b₀ :: suite) D σ H) hs hf hN hi hln hc takes0
    (fun W pn xe tk po => ⟨fun pins s σ H D J q => q pn xe tk po pins s J⟩) (fun a oe cls d pn hz hf => ⟨fun pins s σ H D J q => q oe pn hz hf pins s J⟩)) ?_
  intro pn xe tk po
  have L0 : SInv ⟨B, H, fun p => μ p ≠ none⟩ B H μ := SInv.start I.bh fun p o z => ⟨(I.mus p o z).1, (I.mus p o z).2.1⟩
  refine hb _ _ pn xe tk (fun σ' B' H' μ' S' I' hx => ⟨true, eP, fun _ a ha oe pn hz hf => ?_, nofun⟩) σ B H S L0 D ⟨?_, ?_, ?_, ?_⟩
  · have eB : Ex B B' := I'.b0
    refine hsu a oe pn μ' hz hf hx _ B' H' (S'.set i (show Svq B' (.ref a) (.at a) from rfl)) (I.back I') _ ⟨?_, ?_, ?_, ?_⟩
    · exact fun σ2 B2 H2 ρ2 μ2 S2 I2 e2 h2 => E.nx _ B2 H2 _ μ2 (S2.drop i) I2 (eB.trans e2) h2
    · exact fun v r B2 H2 μ2 I2 e2 q2 h2 => E.rt v r B2 H2 μ2 I2 (eB.trans e2) q2 h2
    · exact fun σ2 B2 H2 ρ2 μ2 S2 I2 e2 h2 => E.bk _ B2 H2 _ μ2 (S2.drop i) I2 (eB.trans e2) h2
    · exact fun σ2 B2 H2 ρ2 μ2 S2 I2 e2 h2 => E.ct _ B2 H2 _ μ2 (S2.drop i) I2 (eB.trans e2) h2
  · exact fun σ2 B2 H2 ρ2 μ2 S2 I2 e2 h2 => E.nx _ B2 H2 _ μ2 S2 (I.back I2) e2 h2
  · exact fun v r B2 H2 μ2 I2 e2 q2 h2 => E.rt v r B2 H2 μ2 (I.back I2) e2 q2 h2
  · exact fun σ2 B2 H2 ρ2 μ2 S2 I2 e2 h2 => E.bk _ B2 H2 _ μ2 S2 (I.back I2) e2 h2
  · exact fun σ2 B2 H2 ρ2 μ2 S2 I2 e2 h2 => E.ct _ B2 H2 _ μ2 S2 (I.back I2) e2 h2
/-- isinstance(e, T), e the error that the suite holds -/
theorem ca_isE {a D : Addr} {oe : Obj} {pn : List (Addr × Obj)} {r : SV} {cv : Value} {b : Bool} (CC : ExcC X.K D) (hz : Zc (.ref D) none oe) (hf : ∃ vs, oe.data = .fields vs) (hr : r = .at a) {t : SV} (ht : (∃ T, t = .ty T ∧ cv = .type T) ∨ (∃ c, t = .at c ∧ cv = .ref c))
    (hk : PySem.W.kitOne X.K (.ref D) cv = some b) (h : R (.dat (.bl b)) μ) : CaD (X.suite a ((a, oe) :: pn)) w (.builtin "isinstance") [r, t] μ R := fun B H vs I q Q kk => by
  subst hr
  obtain ⟨v, u, rfl, q1, q2⟩ := q.two
  cases (show v = V.ref a from q1)
  refine sC_of (call_isE CC hz hf) ⟨u, cv, b, rfl, ?_, hk, kk (.bl b) (.dat (.bl b)) B H μ I (Ex.refl B) (Dq.bl _) h⟩
  rcases ht with ⟨T, rfl, rfl⟩ | ⟨c, rfl, rfl⟩
  · cases (show u = V.ty T from q2)
    exact fun u' h => h
  · cases (show u = V.ref c from q2)
    exact fun u' h => h
/-- a class of the module, by its name -/
theorem de_globC {c : Addr} (hm : X.mg x = some (.ref c)) (h : R (.at c) μ) (hg : Gl X x := by rfl) (hd : (x == ("__debug__" : Str)) = false := by decide) : DE X w (.Name x pos) ρ μ R := fun σ B H _ I Q k => by
  exact tE_of (pe_glob (v := .ref c) hg hm rfl hd) (k (.ref c) (.at c) B H μ I (Ex.refl B) rfl h)
end
end Dat

set_option Elab.async false
set_option linter.all false
set_option maxRecDepth 100000
set_option maxHeartbeats 4000000
/-! Dat12: texts split, looked through, put together; a call by a keyword alone. -/
namespace Dat
open PySem PySem.Spec PyProof.Rows L2
section
variable {X : Cx} {w : Wd} {ρ : List SV} {μ : Mus} {R : SV → Mus → Prop} {o e : Expr} {es : List Expr} {apos pos : Pos} {x : Str}
theorem dqa_strs (H : Hp) : ∀ zs : List Str, DqA H (zs.map V.str) (zs.map Dt.str)
  | [] => .nil
  | z :: zs => .cons (Dq.str z) (dqa_strs H zs)
theorem de_split (ho : DE X w o ρ μ fun r μ1 => ∃ a, r = .dat (.str a) ∧ DE X w e ρ μ1 fun r2 μ2 => ∃ b : Str, r2 = .dat (.str b) ∧ (b.length == 0) = false ∧ a.length + 2 ≤ sizeLine ∧ R (.dat (.lst ((Txt.split a b).map Dt.str))) μ2)
    (hs : starEach [e] X.env = [(false, eval e X.env)] := by rfl) (hbase : attributeBase o "split" X.env (eval o X.env) = eval o X.env := by rfl) (hline : (apos.endLine == pos.line) = true := by rfl) : DE X w (.Call (.Attribute o "split" apos) [e] [] pos) ρ μ R := fun σ B H S I Q k =>
  tE_of (pe_split pe_self pe_self hs hbase hline) (ho σ B H S I _ fun v r B1 H1 μ1 I1 e1 q1 h1 => by
    obtain ⟨a, rfl, h1⟩ := h1
    cases q1
    refine ⟨⟨a, rfl⟩, h1 σ B1 H1 (S.mono e1) I1 _ fun v2 r2 B2 H2 μ2 I2 e2 q2 h2 => ?_⟩
    obtain ⟨b, rfl, hb, hz, h2⟩ := h2
    cases q2
    refine ⟨a, b, rfl, rfl, hb, hz, fun p hp => ?_⟩
    have f := (I2.free hp).1
    refine k _ (.dat (.lst ((Txt.split a b).map Dt.str))) _ _ μ2 (I2.new hp _) ((e1.trans e2).trans (Ex.new f)) (Dq.lst upd_same (dqa_strs _ _)) h2)
theorem de_m0 {name : Str} {id : String} {g : Str → V} {d : Str → Dt} (slot : Slot "str" name id) (ty : typeOf (.builtin id) = pure (.type "method_descriptor")) (rule : MtR X id (fun x xs H Q => ∃ a, x = .str a ∧ xs = [] ∧ True ∧ Q (g a) H)) (hgd : ∀ B a, Dq B (g a) (d a))
    (ho : DE X w o ρ μ fun r μ1 => ∃ a, r = .dat (.str a) ∧ R (.dat (d a)) μ1)
    (hbase : attributeBase o name X.env (eval o X.env) = eval o X.env := by rfl) (hline : (apos.endLine == pos.line) = true := by rfl) : DE X w (.Call (.Attribute o name apos) [] [] pos) ρ μ R := fun σ B H S I Q k =>
  tE_of (pe_m0 slot ty rule pe_self hbase hline) (ho σ B H S I _ fun v r B1 H1 μ1 I1 e1 q1 h1 => by
    obtain ⟨a, rfl, h1⟩ := h1
    cases q1
    exact ⟨⟨a, rfl⟩, a, rfl, rfl, trivial, k _ (.dat (d a)) B1 H1 μ1 I1 e1 (hgd B1 a) h1⟩)
theorem ca_intS {a : Str} {n : Int} (ha : PySem.intText? a = some n) (hl : a.length ≤ 640) (h : R (.dat (.int n)) μ) : CaD X w (.type "int") [.dat (.str a)] μ R := fun B H vs I q Q k => by
  obtain ⟨v, rfl, q1⟩ := q.one
  cases q1
  exact sC_of call_int_str ⟨a, n, rfl, ha, hl, k (.int _) (.dat (.int _)) B H μ I (Ex.refl B) (Dq.int _) h⟩
theorem ca_intB {b : Bool} (h : R (.dat (.int (if b then 1 else 0))) μ) : CaD X w (.type "int") [.dat (.bl b)] μ R := fun B H vs I q Q k => by
  obtain ⟨v, rfl, q1⟩ := q.one
  cases q1
  exact sC_of call_int1 (.inr ⟨b, rfl, k (.int _) (.dat (.int _)) B H μ I (Ex.refl B) (Dq.int _) h⟩)
theorem ca_strI {i : Int} (hi : i.natAbs.log2 < 1920) (h : R (.dat (.str (toString i))) μ) : CaD X w (.type "str") [.dat (.int i)] μ R := fun B H vs I q Q k => by
  obtain ⟨v, rfl, q1⟩ := q.one
  cases q1
  exact sC_of call_str_int ⟨i, rfl, hi, k (.str _) (.dat (.str _)) B H μ I (Ex.refl B) (Dq.str _) h⟩
theorem ca_strS {a : Str} (h : R (.dat (.str a)) μ) : CaD X w (.type "str") [.dat (.str a)] μ R := fun B H vs I q Q k => by
  obtain ⟨v, rfl, q1⟩ := q.one
  cases q1
  exact sC_of SkE.call_str_str ⟨a, rfl, k (.str _) (.dat (.str _)) B H μ I (Ex.refl B) (Dq.str _) h⟩
/-- an f-string's parts -/
def DJ (X : Cx) (w : Wd) (es : List Expr) (acc : Str) (ρ : List SV) (μ : Mus) (R : Str → Mus → Prop) : Prop :=
  ∀ σ B H, Sto B σ ρ → SInv w B H μ → ∀ Q : Str → Hp → Prop, (∀ out B' H' μ', SInv w B' H' μ' → Ex B B' → R out μ' → Q out H') → tJs (es.map (tE X)) acc σ H Q
theorem pj_self : ∀ es : List Expr, PJ X es (es.map (tE X))
  | [] => .nil
  | e :: es => .cons pe_self (pj_self es)
theorem dj_nil {acc : Str} {R : Str → Mus → Prop} (h : R acc μ) : DJ X w [] acc ρ μ R := fun σ B H S I Q k => k acc B H μ I (Ex.refl B) h
theorem dj_cons {acc : Str} {R : Str → Mus → Prop} (h : DE X w e ρ μ fun r μ1 => ∃ y, r = .dat (.str y) ∧ (acc ++ y).length ≤ sizeLine ∧ DJ X w es (acc ++ y) ρ μ1 R) : DJ X w (e :: es) acc ρ μ R := fun σ B H S I Q k =>
  h σ B H S I _ fun v r B1 H1 μ1 I1 e1 q1 h1 => by
    obtain ⟨y, rfl, hz, h1⟩ := h1
    cases q1
    exact ⟨y, rfl, hz, h1 σ B1 H1 (S.mono e1) I1 Q fun out B2 H2 μ2 I2 e2 h2 => k out B2 H2 μ2 I2 (e1.trans e2) h2⟩
theorem de_joined {e1 e2 : Expr} (h : DJ X w (e1 :: e2 :: es) Str.empty ρ μ fun out μ1 => R (.dat (.str out)) μ1) : DE X w (.JoinedStr (e1 :: e2 :: es) pos) ρ μ R := fun σ B H S I Q k =>
  tE_of (pe_joined (pj_self _)) (h σ B H S I _ fun out B1 H1 μ1 I1 ex h1 => k (.str out) (.dat (.str out)) B1 H1 μ1 I1 ex (Dq.str _) h1)
theorem de_fmt (h : DE X w e ρ μ fun r μ1 => (∃ y : Str, r = .dat (.str y) ∧ y.length ≤ sizeLine ∧ R (.dat (.str y)) μ1) ∨ ∃ i : Int, r = .dat (.int i) ∧ i.natAbs.log2 < 1920 ∧ R (.dat (.str (toString i))) μ1) : DE X w (.FormattedValue e (-1) none pos) ρ μ R := fun σ B H S I Q k =>
  tE_of (pe_fmt pe_self) (h σ B H S I _ fun v r B1 H1 μ1 I1 e1 q1 h1 => by
    rcases h1 with ⟨y, rfl, hz, h1⟩ | ⟨i, rfl, hz, h1⟩
    · cases q1
      exact .inl ⟨y, rfl, hz, k (.str y) (.dat (.str y)) B1 H1 μ1 I1 e1 (Dq.str _) h1⟩
    · cases q1
      exact .inr ⟨i, rfl, hz, k (.str _) (.dat (.str _)) B1 H1 μ1 I1 e1 (Dq.str _) h1⟩)
/-- f(k = e), f without a way out by an error -/
theorem de_kw1 {p kpos : Pos} {k : Nat} {f : Addr} {fd : FuncData} {nm : Str} {pre : List SV → Mus → Prop} {post : List SV → Mus → SV → Mus → Prop} (F : FnG X.prog X.w X.K X.mg X.base k f fd [nm] (GSp pre post)) (hr : Room k X.A) (hgd : X.A.guards = some []) (hm : X.mg x = some (.ref f)) (hk : PySem.W.keepIn X.K (.ref f) = true)
    (hb : ∀ (s : Shared) (u : Value), BindsTo s fd ⟨[], [(nm, u)]⟩ [(nm, u)]) (ha : DE X w e ρ μ fun r μ1 => pre [r] μ1 ∧ ∀ r' μ2, post [r] μ1 r' μ2 → R r' μ2) (hg : Gl X x := by rfl) (hdb : (x == ("__debug__" : Str)) = false := by decide)
    (hall : (backToKw pos (keywordEach [⟨some nm, e, kpos⟩] X.env)).all (·.1.isSome) = true := by rfl) (hks : (backToKw pos (keywordEach [⟨some nm, e, kpos⟩] X.env)).filterMap (·.1) = [nm] := by rfl)
    (hpl : ((backTo pos (starEach [] X.env)).any (·.1) || (backToKw pos (keywordEach [⟨some nm, e, kpos⟩] X.env)).any (·.1.isNone)) = false := by rfl) : DE X w (.Call (.Name x p) [] [⟨some nm, e, kpos⟩] pos) ρ μ R := fun σ B H S I Q kk pins s J => by
  refine wpAny_Call_Name_kw (ld_glob J hg hm ?_ hdb)
  refine PySem.W.callWith_KW0 (h₀ := X.base) J.ok.mod.kin hk hall ?_ hpl
  refine thn ((pk_cons (nm := some nm) (kpos := kpos) pe_self pk_nil).run pos pins s σ H (fun vs H1 => ∀ us s1, Inv X pins σ H1 s1 → Vals vs us → wpAny (model X.prog X.w) X.A (call (.ref f) ([] ++ []) ([nm].zip us)) (EP X pins σ Q) X.xe s1) J ?_) fun us s1 ⟨vs, H1, J1, rv, q⟩ => ⟨J1.kIn, ?_⟩
  · refine ha σ B H S I _ fun v r B1 H1 μ1 I1 e1 q1 h1 => ?_
    intro us s1 J1 rv
    cases rv with
    | @cons _ u _ _ r1 r2 =>
      cases r2
      have hsp : GSp pre post [v] H1 Q E0 := ⟨B1, [r], μ1, .cons q1 .nil, I1.bh, fun p o z => ⟨(I1.mus p o z).1, (I1.mus p o z).2.1⟩, h1.1, fun v r B' H' μ' L qv hp => kk v r B' H' μ' (I1.back L) (e1.trans L.b0) qv (h1.2 r μ' hp)⟩
      refine wpAny_call (codeAny_mono (F.run X.A X.stack s1 H1 ⟨[], [(nm, u)]⟩ [u] [v] Q E0 hr hgd J1.env0 (hb s1 u) (.cons r1 .nil) hsp) fun r s' hq => ?_)
      match r, hq with
      | .ok (.ret u), hq => exact J1.after hq
      | .ok .next, hq => exact hq.elim
      | .ok .brk, hq => exact hq.elim
      | .ok .cont, hq => exact hq.elim
      | .error _, hq => exact hq.elim
  · rw [hks]
    exact q us s1 J1 rv
/-- f(k = e), f one that may raise; here it does not, or the error is taken -/
theorem de_kwX {p kpos : Pos} {k : Nat} {f C : Addr} {fd : FuncData} {nm : Str} {W : WX} {pre : List SV → Mus → Prop} {post : List SV → Mus → SV → Mus → Prop} {exc : List SV → Mus → Prop} (F : FnX X.prog X.w X.K X.mg X.base k f fd [nm] (XSp C pre post exc)) (tk : Takes X W) (hr : Room k X.A) (hgd : X.A.guards = some []) (hm : X.mg x = some (.ref f)) (hk : PySem.W.keepIn X.K (.ref f) = true)
    (hb : ∀ (s : Shared) (u : Value), BindsTo s fd ⟨[], [(nm, u)]⟩ [(nm, u)]) (ha : DE X w e ρ μ fun r μ1 => pre [r] μ1 ∧ (∀ r' μ2, post [r] μ1 r' μ2 → R r' μ2) ∧ (exc [r] μ1 → ∀ σ B H, Sto B σ ρ → SInv w B H μ1 → W (.ref C) none σ H)) (hg : Gl X x := by rfl) (hdb : (x == ("__debug__" : Str)) = false := by decide)
    (hall : (backToKw pos (keywordEach [⟨some nm, e, kpos⟩] X.env)).all (·.1.isSome) = true := by rfl) (hks : (backToKw pos (keywordEach [⟨some nm, e, kpos⟩] X.env)).filterMap (·.1) = [nm] := by rfl)
    (hpl : ((backTo pos (starEach [] X.env)).any (·.1) || (backToKw pos (keywordEach [⟨some nm, e, kpos⟩] X.env)).any (·.1.isNone)) = false := by rfl) : DE X w (.Call (.Name x p) [] [⟨some nm, e, kpos⟩] pos) ρ μ R := fun σ B H S I Q kk pins s J => by
  refine wpAny_Call_Name_kw (ld_glob J hg hm ?_ hdb)
  refine PySem.W.callWith_KW0 (h₀ := X.base) J.ok.mod.kin hk hall ?_ hpl
  refine thn ((pk_cons (nm := some nm) (kpos := kpos) pe_self pk_nil).run pos pins s σ H (fun vs H1 => ∀ us s1, Inv X pins σ H1 s1 → Vals vs us → wpAny (model X.prog X.w) X.A (call (.ref f) ([] ++ []) ([nm].zip us)) (EP X pins σ Q) X.xe s1) J ?_) fun us s1 ⟨vs, H1, J1, rv, q⟩ => ⟨J1.kIn, ?_⟩
  · refine ha σ B H S I _ fun v r B1 H1 μ1 I1 e1 q1 h1 => ?_
    intro us s1 J1 rv
    cases rv with
    | @cons _ u _ _ r1 r2 =>
      cases r2
      have hsp : XSp C pre post exc [v] H1 Q (WE W σ) := ⟨B1, [r], μ1, .cons q1 .nil, I1.bh, fun p o z => ⟨(I1.mus p o z).1, (I1.mus p o z).2.1⟩, h1.1, fun v r B' H' μ' L qv hp => kk v r B' H' μ' (I1.back L) (e1.trans L.b0) qv (h1.2.1 r μ' hp),
        fun he B' H' L => h1.2.2 he σ B' H' (S.mono (e1.trans L.b0)) (I1.back L)⟩
      refine wpAny_call (codeAny_mono (F.run X.A X.stack s1 H1 ⟨[], [(nm, u)]⟩ [u] [v] Q (WE W σ) hr hgd J1.env0 (hb s1 u) (.cons r1 .nil) hsp) fun r s' hq => ?_)
      match r, hq with
      | .ok (.ret u), hq => exact J1.after hq
      | .ok .next, hq => exact hq.elim
      | .ok .brk, hq => exact hq.elim
      | .ok .cont, hq => exact hq.elim
      | .error u, hq => exact passAt tk σ pins H1 s1 u s' J1 hq
  · rw [hks]
    exact q us s1 J1 rv
end
end Dat

set_option Elab.async false
set_option linter.all false
set_option maxRecDepth 100000
set_option maxHeartbeats 4000000
/-! Dat13: own objects: made, their fields set and read; a made one is data. -/
namespace Dat
open PySem PySem.Spec PyProof.Rows L2
theorem fs_at {B : Hp} : ∀ {fs : List (Str × V)} {ds : List Dt}, DqA B (fs.map (·.2)) ds → ∀ {f : Str} {d : Dt}, ((fs.map (·.1)).zip ds).lookup f = some d → ∃ v, fs.lookup f = some v ∧ Dq B v d
  | [], _, _, f, d, h => by simp at h
  | (g, x) :: fs, _, .cons q qs, f, d, h => by
    rw [List.map_cons, List.zip_cons_cons, List.lookup_cons] at h
    rw [List.lookup_cons]
    cases e : f == g with
    | true => rw [e] at h; cases h; exact ⟨x, rfl, q⟩
    | false => rw [e] at h; exact fs_at qs h
theorem fs_put (f : Str) (v : V) : ∀ fs : List (Str × V), f ∉ fs.map (·.1) → (putF f v fs).map (·.1) = fs.map (·.1) ++ [f] ∧ (putF f v fs).map (·.2) = fs.map (·.2) ++ [v]
  | [], _ => ⟨rfl, rfl⟩
  | (g, x) :: fs, h => by
    have hg : ¬ g = f := fun e => h (by rw [e]; exact List.mem_cons_self)
    obtain ⟨h1, h2⟩ := fs_put f v fs fun e => h (List.mem_cons_of_mem _ e)
    unfold putF
    rw [if_neg hg]
    exact ⟨by rw [List.map_cons, h1]; rfl, by rw [List.map_cons, h2]; rfl⟩
section
variable {X : Cx} {w : Wd} {ρ : List SV} {μ : Mus} {R : SV → Mus → Prop} {P : Po} {o e value : Expr} {es : List Expr} {x f : Str} {p pos pos' : Pos}
/-- o.f, o data -/
theorem de_fld (ho : DE X w o ρ μ fun r μ1 => ∃ C ns vs d, r = .dat (.obj C ns vs) ∧ Cls X.K C ∧ NoAttr X.K C f ∧ (ns.zip vs).lookup f = some d ∧ R (.dat d) μ1) (hb : attributeBase o f X.env (eval o X.env) = eval o X.env := by rfl) : DE X w (.Attribute o f pos) ρ μ R := fun σ B H S I Q k =>
  tE_of (pe_fld pe_self hb) (ho σ B H S I _ fun v r B1 H1 μ1 I1 e1 q1 h1 => by
    obtain ⟨C, ns, vs, d, rfl, c, n, l, h1⟩ := h1
    cases q1 with
    | @obj a C dx fs ds ha hx =>
      obtain ⟨v2, l2, q2⟩ := fs_at hx l
      exact ⟨a, C, dx, fs, v2, rfl, I1.bh _ _ ha, c, n, l2, k v2 (.dat d) B1 H1 μ1 I1 e1 q2 h1⟩)
/-- self.f within __init__ -/
theorem de_fldM (ho : DE X w o ρ μ fun r μ1 => ∃ q C ns vs d, r = .at q ∧ μ1 q = some (.ins C ns vs) ∧ Cls X.K C ∧ NoAttr X.K C f ∧ (ns.zip vs).lookup f = some d ∧ R (.dat d) μ1) (hb : attributeBase o f X.env (eval o X.env) = eval o X.env := by rfl) : DE X w (.Attribute o f pos) ρ μ R := fun σ B H S I Q k =>
  tE_of (pe_fld pe_self hb) (ho σ B H S I _ fun v r B1 H1 μ1 I1 e1 q1 h1 => by
    obtain ⟨q, C, ns, vs, d, rfl, hm, c, n, l, h1⟩ := h1
    cases (show v = V.ref q from q1)
    obtain ⟨_, ⟨dx, fs, ha, rfl, hx⟩, _⟩ := I1.mus q _ hm
    obtain ⟨v2, l2, q2⟩ := fs_at hx l
    exact ⟨q, C, dx, fs, v2, rfl, ha, c, n, l2, k v2 (.dat d) B1 H1 μ1 I1 e1 q2 h1⟩)
/-- self.f = value, f a new field -/
theorem ds_fld (hv : DE X w value ρ μ fun r μ1 => ∃ d, r = .dat d ∧ DE X w o ρ μ1 fun r2 μ2 => ∃ q C ns vs, r2 = .at q ∧ μ2 q = some (.ins C ns vs) ∧ Cls X.K C ∧ NoAttr X.K C f ∧ f ∉ ns ∧ ns.length < 1000 ∧ P.nx ρ (μ2.put q (.ins C (ns ++ [f]) (vs ++ [d]))))
    (hs : swapsWith value (some (.Attribute o f pos')) pos.line X.env = pure false := by rfl) : DS X w (.Assign [.Attribute o f pos'] value pos) ρ μ P := fun σ B H S I D E =>
  tS_of (ps_fld pe_self pe_self hs) (hv σ B H S I _ fun v r B1 H1 μ1 I1 e1 q1 h1 => by
    obtain ⟨d, rfl, h1⟩ := h1
    refine h1 σ B1 H1 (S.mono e1) I1 _ fun v2 r2 B2 H2 μ2 I2 e2 q2 h2 => ?_
    obtain ⟨q, C, ns, vs, rfl, hm, c, n, hf, hl, h2⟩ := h2
    cases (show v2 = V.ref q from q2)
    obtain ⟨_, ⟨dx, fs, ha, rfl, hx⟩, _⟩ := I2.mus q _ hm
    obtain ⟨p1, p2⟩ := fs_put f v fs hf
    refine ⟨q, C, dx, fs, rfl, ha, c, n, by rw [List.length_map] at hl; exact hl, E.nx σ B2 _ ρ _ (S.mono (e1.trans e2)) (I2.set hm (.ins C (fs.map (·.1) ++ [f]) (vs ++ [d])) ⟨dx, putF f v fs, upd_same, p1, ?_⟩) (e1.trans e2) h2⟩
    rw [p2]
    exact hx.snoc (Dq.mono e2 q1))
/-- C(e, ..): made, then data -/
theorem de_make {k : Nat} {g C : Addr} {fd : FuncData} {ps : List Str} {pre : List SV → Mus → Prop} {post : List SV → Mus → SV → Mus → Prop} (M : Mk X.K C g) (F : FnG X.prog X.w X.K X.mg X.base k g fd ps (GSp pre post)) (hr : Room (k + 1) X.A) (hgd : X.A.guards = some []) (hm : X.mg x = some (.ref C)) (hb : Binds X.K fd ps [])
    (ha : DA X w (e :: es) ρ μ fun rs μ1 => ∀ q, μ1 q = none → pre (.at q :: rs) (μ1.put q (.ins C [] [])) ∧ ∀ r μ2, post (.at q :: rs) (μ1.put q (.ins C [] [])) r μ2 → r = .dat .non ∧ ∃ ns vs ν, μ2 q = some (.ins C ns vs) ∧ ν.Sub μ2 ∧ ν q = none ∧ R (.dat (.obj C ns vs)) ν)
    (hg : Gl X x := by rfl) (hdb : (x == ("__debug__" : Str)) = false := by decide)
    (he : starEach (e :: es) X.env = (false, eval e X.env) :: starEach es X.env := by rfl) (hpl : (backTo pos (starEach es X.env)).any (·.1) = false := by rfl) : DE X w (.Call (.Name x p) (e :: es) [] pos) ρ μ R := fun σ B H S I Q kk pins s J => by
  refine wpAny_Call_Name_kw (ld_glob J hg hm ?_ hdb)
  refine PySem.W.callWith_K (h₀ := X.base) J.ok.mod.kin M.kp (thn ((pa_self (X := X) (es := e :: es)).run pos pins s σ H _ J (ha σ B H S I
    (fun vs H1 => ∀ us s1, Inv X pins σ H1 s1 → Vals vs us → wpAny (model X.prog X.w) X.A (call (.ref C) us) (EP X pins σ Q) X.xe s1) ?_)) fun us s1 ⟨vs, H1, J1, rv, q⟩ => ⟨J1.kIn, q us s1 J1 rv⟩) he hpl
  intro vs rs B1 H1 μ1 I1 e1 q1 h1 us s1 J1 rv
  have nx : H1 (s1.heap.objs.size + 1) = none := J1.hok.fresh (Nat.le_succ _)
  have nd : H1 s1.heap.objs.size = none := J1.hok.fresh (Nat.le_refl _)
  have ne : s1.heap.objs.size ≠ s1.heap.objs.size + 1 := Nat.ne_of_lt (Nat.lt_succ_self _)
  obtain ⟨bd, md, wd⟩ := I1.free nd
  have I2 : SInv w B1 (upd H1 s1.heap.objs.size (.own (s1.heap.objs.size + 1))) μ1 := I1.own bd wd md _
  have nx2 : (upd H1 s1.heap.objs.size (.own (s1.heap.objs.size + 1))) (s1.heap.objs.size + 1) = none := by rw [upd_ne ne.symm]; exact nx
  obtain ⟨bx, mx, wx⟩ := I2.free nx2
  have I3 : SInv w B1 (upd (upd H1 s1.heap.objs.size (.own (s1.heap.objs.size + 1))) (s1.heap.objs.size + 1) (.ins C s1.heap.objs.size [])) (μ1.put (s1.heap.objs.size + 1) (.ins C [] [])) := I2.newM nx2 _ ⟨_, [], upd_same, rfl, .nil⟩
  obtain ⟨hp, hq⟩ := h1 _ mx
  have hsp : GSp pre post (.ref (s1.heap.objs.size + 1) :: vs) (upd (upd H1 s1.heap.objs.size (.own (s1.heap.objs.size + 1))) (s1.heap.objs.size + 1) (.ins C s1.heap.objs.size [])) (fun v H2 => v = .non ∧ Q (.ref (s1.heap.objs.size + 1)) H2) E0 :=
    ⟨B1, .at (s1.heap.objs.size + 1) :: rs, _, .cons (r := .at (s1.heap.objs.size + 1)) rfl q1, I3.bh, fun p o z => ⟨(I3.mus p o z).1, (I3.mus p o z).2.1⟩, hp, fun v r B' H' μ' L qv hpo => by
      obtain ⟨rfl, ns, ds, ν, h2, h3, h4, h5⟩ := hq r μ' hpo
      have I4 := I3.back L
      obtain ⟨B2, I5, e5, q5⟩ := I4.freezeI h2 wx h3 h4
      cases qv
      exact ⟨rfl, kk _ (.dat (.obj C ns ds)) B2 H' ν I5 ((e1.trans L.b0).trans e5) q5 h5⟩⟩
  have r2 : Vals (V.ref (s1.heap.objs.size + 1) :: vs) (Value.ref (s1.heap.objs.size + 1) :: us) := .cons rfl rv
  have hl : (Value.ref (s1.heap.objs.size + 1) :: us ++ []).length = ps.length := by rw [List.append_nil, ← r2.length]; exact F.len _ _ _ _ hsp
  have J2 := Inv.made (C := C) J1
  have bnd := hb _ (Value.ref (s1.heap.objs.size + 1) :: us) J2.kIn hl
  rw [List.append_nil] at bnd
  refine wpAny_call (make_map (f := g) J1.kIn M.makes M.init (beq_iff_eq.mp M.fn) (codeAny_mono (F.run _ X.stack _ _ ⟨Value.ref (s1.heap.objs.size + 1) :: us, []⟩ _ _ _ E0 (hr.make C us []) hgd (J2.env0.make C us []) bnd r2 hsp) fun r s' hq' => ?_))
  cases r with
  | error e => exact hq'.elim
  | ok fl =>
    cases fl with
    | ret u =>
      obtain ⟨v, H', I3', rv', ev, q3⟩ := J2.after hq'
      subst ev
      exact ⟨rv', ⟨V.ref (s1.heap.objs.size + 1), H', I3', rfl, q3⟩⟩
    | next => exact False.elim hq'
    | brk => exact False.elim hq'
    | cont => exact False.elim hq'
theorem fs_none {fs : List (Str × V)} {m : Str} (h : m ∉ fs.map (·.1)) : fs.lookup m = none := by
  induction fs with
  | nil => rfl
  | cons g fs ih =>
    obtain ⟨g, x⟩ := g
    rw [List.lookup_cons]
    have e : (m == g) = false := beq_eq_false_iff_ne.mpr fun e => h (by rw [e]; exact List.mem_cons_self)
    rw [e]
    exact ih fun z => h (List.mem_cons_of_mem _ z)
/-- o.m(e, ..), o data of the class C -/
theorem de_meth {pl : Sem Bool} {m : Str} {apos : Pos} {k : Nat} {g C : Addr} {fd : FuncData} {ps : List Str} {pre : List SV → Mus → Prop} {post : List SV → Mus → SV → Mus → Prop} (c : Cls X.K C) (hm : Meth X.K C m g) (F : FnG X.prog X.w X.K X.mg X.base k g fd ps (GSp pre post)) (hr : Room k X.A) (hgd : X.A.guards = some []) (hb : Binds X.K fd ps [])
    (ho : DE X w o ρ μ fun r μ1 => ∃ ns vs, r = .dat (.obj C ns vs) ∧ m ∉ ns ∧ DA X w (e :: es) ρ μ1 fun rs μ2 => pre (r :: rs) μ2 ∧ ∀ r' μ3, post (r :: rs) μ2 r' μ3 → R r' μ3)
    (hst : starEach (e :: es) X.env = (false, eval e X.env) :: starEach es X.env := by rfl) (hpl : (backTo pos (starEach es X.env)).any (·.1) = false := by rfl)
    (ht : eval (.Call (.Attribute o m apos) (e :: es) [] pos) X.env = (do let r0 ← eval o X.env; standAt apos.atName; let (g0, l0) ← holding [r0] (getMethod r0 m pl); callWith pos g0 l0 (backTo pos (starEach (e :: es) X.env)) (backToKw pos (keywordEach [] X.env))) := by rfl) : DE X w (.Call (.Attribute o m apos) (e :: es) [] pos) ρ μ R := fun σ B H S I Q kk pins s J => by
  refine PySem.W.methodCall_KW (pl := pl) (thn ((pe_self (X := X) (e := o)).run pins s σ H (fun v H1 => ∃ a dx fs, v = .ref a ∧ H1 a = some (.ins C dx fs) ∧ fs.lookup m = none ∧ tL X (e :: es) σ H1 (fun vs H2 => ∀ us s2, Inv X pins σ H2 s2 → Vals vs us → wpAny (model X.prog X.w) X.A (call (.ref g) (.ref a :: us)) (EP X pins σ Q) X.xe s2)) J ?_) fun u s1 ⟨v, H1, I1, rx, a, dx, fs, ex, ea, l, q⟩ => ?_) ht
  · refine ho σ B H S I _ fun v r B1 H1 μ1 I1 e1 q1 h1 => ?_
    obtain ⟨ns, vs, rfl, hn, h1⟩ := h1
    cases q1 with
    | @obj a C dx fs ds ha hx =>
      refine ⟨a, dx, fs, rfl, I1.bh _ _ ha, fs_none hn, h1 σ B1 H1 (S.mono e1) I1 _ fun vs2 rs B2 H2 μ2 I2 e2 q2 h2 => ?_⟩
      intro us s2 J2 rv
      have hsp : GSp pre post (.ref a :: vs2) H2 Q E0 := ⟨B2, _, μ2, .cons (r := .dat (.obj C _ _)) (Dq.mono e2 (.obj ha hx)) q2, I2.bh, fun p o z => ⟨(I2.mus p o z).1, (I2.mus p o z).2.1⟩, h2.1, fun v r B' H' μ' L qv hp => kk v r B' H' μ' (I2.back L) ((e1.trans e2).trans L.b0) qv (h2.2 r μ' hp)⟩
      have r2 : Vals (V.ref a :: vs2) (Value.ref a :: us) := .cons rfl rv
      have hl : (Value.ref a :: us ++ []).length = ps.length := by rw [List.append_nil, ← r2.length]; exact F.len _ _ _ _ hsp
      have bd := hb s2 (Value.ref a :: us) J2.kIn hl
      rw [List.append_nil] at bd
      refine wpAny_call (codeAny_mono (F.run X.A X.stack s2 H2 ⟨Value.ref a :: us, []⟩ _ _ Q E0 hr hgd J2.env0 bd r2 hsp) fun r s' hq => ?_)
      match r, hq with
      | .ok (.ret u), hq => exact J2.after hq
      | .ok .next, hq => exact hq.elim
      | .ok .brk, hq => exact hq.elim
      | .ok .cont, hq => exact hq.elim
      | .error _, hq => exact hq.elim
  · subst ex
    obtain rfl : u = Value.ref a := rx
    refine getmeth_ok I1 ea c hm l ?_
    exact PySem.W.callWith_K (first := [.ref a]) (h₀ := X.base) J.ok.mod.kin hm.kp (thn ((pa_self (X := X) (es := e :: es)).run pos pins s1 σ H1 _ I1 q) fun us s2 ⟨vs, H2, I2, r, q2⟩ => ⟨I2.kIn, q2 us s2 I2 r⟩) hst hpl
/-- o.m(), o data of the class C -/
theorem de_meth0 {pl : Sem Bool} {m : Str} {apos : Pos} {k : Nat} {g C : Addr} {fd : FuncData} {ps : List Str} {pre : List SV → Mus → Prop} {post : List SV → Mus → SV → Mus → Prop} (c : Cls X.K C) (hm : Meth X.K C m g) (F : FnG X.prog X.w X.K X.mg X.base k g fd ps (GSp pre post)) (hr : Room k X.A) (hgd : X.A.guards = some []) (hb : Binds X.K fd ps [])
    (ho : DE X w o ρ μ fun r μ1 => ∃ ns vs, r = .dat (.obj C ns vs) ∧ m ∉ ns ∧ pre [r] μ1 ∧ ∀ r' μ3, post [r] μ1 r' μ3 → R r' μ3)
    (ht : eval (.Call (.Attribute o m apos) [] [] pos) X.env = (do let r0 ← eval o X.env; standAt apos.atName; let (g0, l0) ← holding [r0] (getMethod r0 m pl); callWith pos g0 l0 (backTo pos (starEach [] X.env)) (backToKw pos (keywordEach [] X.env))) := by rfl) : DE X w (.Call (.Attribute o m apos) [] [] pos) ρ μ R := fun σ B H S I Q kk pins s J => by
  refine PySem.W.methodCall_KW (pl := pl) (thn ((pe_self (X := X) (e := o)).run pins s σ H (fun v H1 => ∃ a dx fs, v = .ref a ∧ H1 a = some (.ins C dx fs) ∧ fs.lookup m = none ∧ (∀ s2, Inv X pins σ H1 s2 → wpAny (model X.prog X.w) X.A (call (.ref g) [.ref a]) (EP X pins σ Q) X.xe s2)) J ?_) fun u s1 ⟨v, H1, I1, rx, a, dx, fs, ex, ea, l, q⟩ => ?_) ht
  · refine ho σ B H S I _ fun v r B1 H1 μ1 I1 e1 q1 h1 => ?_
    obtain ⟨ns, vs, rfl, hn, h1⟩ := h1
    cases q1 with
    | @obj a C dx fs ds ha hx =>
      refine ⟨a, dx, fs, rfl, I1.bh _ _ ha, fs_none hn, ?_⟩
      intro s2 J2
      have hsp : GSp pre post [.ref a] H1 Q E0 := ⟨B1, _, μ1, .cons (r := .dat (.obj C _ _)) (.obj ha hx) .nil, I1.bh, fun p o z => ⟨(I1.mus p o z).1, (I1.mus p o z).2.1⟩, h1.1, fun v r B' H' μ' L qv hp => kk v r B' H' μ' (I1.back L) (e1.trans L.b0) qv (h1.2 r μ' hp)⟩
      have r2 : Vals [V.ref a] [Value.ref a] := .cons rfl .nil
      have hl : ([Value.ref a] ++ []).length = ps.length := by rw [List.append_nil, ← r2.length]; exact F.len _ _ _ _ hsp
      have bd := hb s2 [Value.ref a] J2.kIn hl
      rw [List.append_nil] at bd
      refine wpAny_call (codeAny_mono (F.run X.A X.stack s2 H1 ⟨[Value.ref a], []⟩ _ _ Q E0 hr hgd J2.env0 bd r2 hsp) fun r s' hq => ?_)
      match r, hq with
      | .ok (.ret u), hq => exact J2.after hq
      | .ok .next, hq => exact hq.elim
      | .ok .brk, hq => exact hq.elim
      | .ok .cont, hq => exact hq.elim
      | .error _, hq => exact hq.elim
  · subst ex
    obtain rfl : u = Value.ref a := rx
    refine getmeth_ok I1 ea c hm l ?_
    exact PySem.W.callWith_K0 (first := [.ref a]) I1.kIn hm.kp (q s1 I1)
end
end Dat

set_option Elab.async false
set_option linter.all false
set_option maxRecDepth 100000
set_option maxHeartbeats 4000000
/-! Er1: errors of one's own, made by places or by keywords, at the library's level. -/
namespace Er
open PySem PySem.W PySem.Calls PyProof.Rows
section
variable {M : Model} {A : Around} {E : Value → Shared → Prop} {h : Heap} {g : Array GenState} {d : Drawn} {t : Nat} {os : OsState}
variable {nm q : Str} {C N : Addr} {bs bm bN : List Value} {hdct : Bool} {sn : List Str} {sub : List Value} {ab : Bool} {col : Option Bool} {dd : Option Addr} {k0 k1 k2 k3 k5 : Option Value} {B newId initId : String}
theorem chk_new (F : ExcBaseFacts B newId initId bN) (hB : bm.contains (.type B) = true) {us : List Value} {kw : List (Str × Value)} {Q : Unit → Shared → Prop}
    (oC : h.get? C = some (excClassObj nm q C N bs bm hdct sn sub ab col dd k0 k1 k2 k3 k5 newId)) (hq : Q () ⟨h, g, d, t, os⟩) : wpAny M A (checkBuiltinCall newId ⟨.ref C :: us, kw⟩) Q E ⟨h, g, d, t, os⟩ := by
  have cB : (Value.ref C :: bm).contains (.type B) = true := by rw [List.contains_cons, hB, Bool.or_true]
  have st := F.noStar
  simp only [checkBuiltinCall, F.newKind, F.newSplit, F.newRow]
  repeat (first | refine wpAny_loadPart_at oC ?_ | (refine wpAny_isSubtype_exc oC ?_; rw [cB]) | refine wpAny_staticBase_exc oC ?_ | refine wpAny_madeBy_exc oC ?_ | simp only [bne_self_eq_false, Bool.false_eq_true, if_false] | wp_step)
  exact hq
end
section
variable {prog : Program} {w : World} {A : Around} {E : Value → Shared → Prop} {R : Result → Shared → Prop} {h : Heap} {g : Array GenState} {d : Drawn} {t : Nat} {os : OsState}
variable {nm q : Str} {C N : Addr} {bs bm bN : List Value} {hdct : Bool} {sn : List Str} {sub : List Value} {ab : Bool} {col : Option Bool} {dd : Option Addr} {k0 k1 k2 k3 k5 : Option Value} {B newId initId : String}
/-- what the class's mro says -/
structure Tl (B : String) (bm : List Value) : Prop where
  own : bm.contains (.type B) = true
  att : bm.contains (.type "AttributeError") = false
  nam : bm.contains (.type "NameError") = false
theorem new_any (F : ExcBaseFacts B newId initId bN) (T : Tl B bm) {us : List Value} {kw : List (Str × Value)}
    (oC : h.get? C = some (excClassObj nm q C N bs bm hdct sn sub ab col dd k0 k1 k2 k3 k5 newId))
    (hq : R (.ok (.ret (.ref (h.objs.size + 1)))) ⟨(h.push { cls := .type "tuple", data := .seq us.toArray }).push (PX.excO C h.objs.size), g, d, t, os⟩) (hz : us.length ≤ sizeLine) :
    codeAny (model prog w) A (.builtin newId ⟨.ref C :: us, kw⟩) R ⟨h, g, d, t, os⟩ := by
  have en := F.ends
  have cB : (Value.ref C :: bm).contains (.type B) = true := by rw [List.contains_cons, T.own, Bool.or_true]
  have cA : (Value.ref C :: bm).contains (.type "AttributeError") = false := by rw [List.contains_cons, T.att]; rfl
  have cN : (Value.ref C :: bm).contains (.type "NameError") = false := by rw [List.contains_cons, T.nam]; rfl
  refine codeAny_builtinAt F.entry ?_
  unfold Builtin.«BaseException.__new__»
  refine _root_.PySem.wpAt_bind ?_
  show _root_.PySem.wpAt _ _ _ (stack >>= _) _ _ _
  refine _root_.PySem.wpAt_bind (_root_.PySem.wpAt_stack fun p below => _root_.PySem.wpAt_of_wpAny ?_)
  wp_walk
  refine _root_.PySem.wpAt_of_wpAny ?_
  rw [F.owner]
  repeat (first | with_reducible refine wpAny_madeHere_exc F.canon oC ?_ | with_reducible refine wpAny_loadPart_at oC ?_ | (with_reducible refine wpAny_isSubtype_exc oC ?_; first | rw [cB] | rw [cA] | rw [cN]) | wp_step)
  show R _ _
  rw [Heap.size_push]
  exact hq

/-- type.__call__: the new object, then its __init__, then Q -/
theorem tcall_any (F : ExcBaseFacts B newId initId bN) (T : Tl B bm) {us : List Value} {kw : List (Str × Value)} {fI : Addr} {Q : Fin → Shared → Prop}
    (oC : h.get? C = some (excClassObj nm q C N bs bm hdct sn sub ab col dd k0 k1 k2 k3 k5 newId))
    (hi : Looks (model prog w) h (typeLookup (.ref C) "__init__") (some (.ref fI))) (hb : ∀ self, Looks (model prog w) h (bindSpecial (.ref fI) self) (.ref fI, [self])) (hz : us.length ≤ sizeLine)
    (hq : codeAny (model prog w) A (.call (.ref fI) ⟨.ref (h.objs.size + 1) :: us, kw⟩)
      (fun r s' => match r with | .ok (.ret v) => v = .none ∧ Q (.done (.ret (.ref (h.objs.size + 1)))) s' | .ok _ => False | .error e => E e s')
      ⟨(h.push (kdv_tup us)).push (PX.excO C h.objs.size), g, d, t, os⟩) :
    wpAny (model prog w) A (Builtin.«type.__call__» ⟨.ref C :: us, kw⟩) Q E ⟨h, g, d, t, os⟩ := by
  repeat (first | with_reducible refine wpAny_loadPart_at oC ?_ | with_reducible refine wpAny_madeBy_exc oC ?_ | wp_step)
  refine codeAny_call_builtin_code (Code.quiet_builtin _ F.quiet) (chk_new F T.own oC ?_)
  refine new_any F T oC ?_ hz
  show wpAny _ _ _ _ _ _
  have kp : ∀ b o, h.get? b = some o → ((h.push (kdv_tup us)).push (PX.excO C h.objs.size)).get? b = some o := fun b o e => Heap.get?_push_of_some _ (Heap.get?_push_of_some _ e)
  have oC₁ := kp _ _ oC
  have oE : ((h.push (kdv_tup us)).push (PX.excO C h.objs.size)).get? (h.objs.size + 1) = some (PX.excO C h.objs.size) := by heap_get
  have cC : (Value.ref C :: bm).contains (.ref C) = true := by simp
  have i1 := hi.keeps kp
  have b1 := (hb (.ref (h.objs.size + 1))).keeps kp
  unfold isInstance
  repeat (first | with_reducible refine wpAny_loadPart_at oE ?_ | (with_reducible refine wpAny_isSubtype_exc oC₁ ?_; rw [cC]) | wp_step)
  show wpAny _ _ (typeLookup (.ref C) _) _ _ _
  refine i1.at ?_
  refine wpAny_holding (wpAny_bind (b1.at ?_))
  refine wpAny_bind (wpAny_call (codeAny_mono hq fun r s' z => ?_))
  rcases r with e | (v | _ | _ | _) <;> first | exact z | exact z.elim | skip
  obtain ⟨ev, z⟩ := z
  subst ev
  first
    | exact wpAny_pure (wpAny_pure z)
    | (wp_walk; exact z)
theorem call_any (F : ExcBaseFacts B newId initId bN) (T : Tl B bm) {us : List Value} {kw : List (Str × Value)} {fI : Addr}
    (oC : h.get? C = some (excClassObj nm q C N bs bm hdct sn sub ab col dd k0 k1 k2 k3 k5 newId))
    (hi : Looks (model prog w) h (typeLookup (.ref C) "__init__") (some (.ref fI))) (hb : ∀ self, Looks (model prog w) h (bindSpecial (.ref fI) self) (.ref fI, [self])) (hz : us.length ≤ sizeLine)
    (hq : codeAny (model prog w) (A.under (.builtin "type.__call__" ⟨.ref C :: us, kw⟩)) (.call (.ref fI) ⟨.ref (h.objs.size + 1) :: us, kw⟩) (InitBack (h.objs.size + 1) R)
      ⟨(h.push (kdv_tup us)).push (PX.excO C h.objs.size), g, d, t, os⟩) :
    codeAny (model prog w) A (.call (.ref C) ⟨us, kw⟩) R ⟨h, g, d, t, os⟩ := by
  have f1 := tc_lookup
  have f2 := tc_bind (.ref C)
  have hTy : (⟨h, g, d, t, os⟩ : Shared).TypeIs (.ref C) "type" := ⟨_, oC, rfl⟩
  refine codeAny_of_tree ?_
  show wpAny _ _ (callAny (.ref C) _) _ _ _
  repeat (any_goals (first | assumption | with_reducible refine wpAny_loadPart_at oC ?_ | wp_step))
  refine ⟨rfl, ?_⟩
  refine codeAny_call_builtin_at (Code.quiet_builtin _ (by decide +kernel)) entry_typeCall (wpAny_check_type_call_sub oC (tcall_any F T oC hi hb hz ?_))
  refine codeAny_mono hq fun r s' z => ?_
  rcases r with e | (v | _ | _ | _) <;> exact z
end
end Er

set_option Elab.async false
set_option linter.all false
set_option maxRecDepth 100000
set_option maxHeartbeats 4000000
/-! Er2: super().__init__(e) within an error's own __init__. -/
namespace Er
open PySem PySem.W PySem.Calls
/-- the built-in __init__ that super() finds -/
structure IniF (B i : String) : Prop where
  plain : plainId i = true
  entry : entryFor table i = some Builtin.«BaseException.__init__»
  kind : builtinKind i = some .slot
  row : Manifest.signature? i = some ⟨.positional, "*", B, .self, [⟨"args", .varPos, false⟩]⟩
  star : (B != "*") = true
  kx : KxsFacts B i
theorem IniF.of {B n i : String} (F : ExcCallFacts B n i) (k : KxsFacts B i) : IniF B i := ⟨F.init.plain, F.initEntry, F.initKind, F.initRow, F.noStar, k⟩
theorem ini_Key : IniF "KeyError" "KeyError.__init__" where
  plain := by decide +kernel
  entry := entryFor_alias (id' := "BaseException.__init__") (by rw [fastTable_eq_tree]; kernel_rfl) (by first | rfl | decide +kernel) (by decide +kernel) (by rw [fastTable_eq_tree]; kernel_rfl)
  kind := by kernel_rfl
  row := by kernel_rfl
  star := by decide +kernel
  kx := ⟨by show builtinType _ = _; rw [builtinType_eq_fast]; kernel_rfl, by first | kernel_rfl | rfl⟩
/-- one object, perhaps, is another; all others stay -/
def But (x : Addr) (h h' : Heap) : Prop := ∀ b o, b ≠ x → h.get? b = some o → h'.get? b = some o
theorem But.trans {x : Addr} {a b c : Heap} (p : But x a b) (q : But x b c) : But x a c := fun y o n e => q y o n (p y o n e)
theorem But.all {x : Addr} {h h' : Heap} (k : ∀ b o, h.get? b = some o → h'.get? b = some o) : But x h h' := fun b o _ e => k b o e
theorem ns_but {x L : Addr} {h h' : Heap} {m : Str → Option Value} (k : But x h h') (ne : L ≠ x) (n : h.Ns L m) : h'.Ns L m := by
  obtain ⟨o, es, ep, e, r⟩ := n
  exact ⟨o, es, ep, k _ _ ne e, r⟩
section
variable {M : Model} {A : Around} {E : Value → Shared → Prop} {h : Heap} {g : Array GenState} {d : Drawn} {t : Nat} {os : OsState}
theorem chk_bound {B i newId : String} (F : IniF B i) {nm q : Str} {C N e : Addr} {oe : Obj} {bs bm : List Value} {hdct : Bool} {sn : List Str} {sub : List Value} {ab : Bool} {col : Option Bool} {dd : Option Addr} {k0 k1 k2 k3 k5 : Option Value} {us : List Value} {Q : Unit → Shared → Prop}
    (oC : h.get? C = some (excClassObj nm q C N bs bm hdct sn sub ab col dd k0 k1 k2 k3 k5 newId)) (he : h.get? e = some oe) (hc : oe.cls = .ref C) (hq : Q () ⟨h, g, d, t, os⟩) : wpAny M A (checkBoundCall i ⟨.ref e :: us, []⟩) Q E ⟨h, g, d, t, os⟩ := by
  have st := F.star
  simp only [checkBoundCall, F.kind, F.row]
  repeat (first | (with_reducible refine wpAny_loadPart_at he ?_; rw [hc]) | with_reducible refine wpAny_loadPart_at oC ?_ | wp_step)
  refine wpAny_onRaise ?_
  rw [show ∀ (a b : String) (n : Nat), Bind.check ⟨.positional, "*", B, .self, [⟨"args", .varPos, false⟩]⟩ a b n (List.map (fun x => x.fst) ({ pos := Value.ref e :: us } : Args).kw) = pure () from fun a b n => check_star_args _ _ _ _ _ _]
  exact wpAny_pure hq
end
section
variable {prog : Program} {w : World} {A : Around} {E : Value → Shared → Prop} {h : Heap} {g : Array GenState} {d : Drawn} {t : Nat} {os : OsState}
/-- the wrapper is called: the args are laid anew -/
theorem call_wr {B i newId : String} (F : IniF B i) {nm q : Str} {C N e u t0 : Addr} {bs bm : List Value} {hdct : Bool} {sn : List Str} {sub : List Value} {ab : Bool} {col : Option Bool} {dd : Option Addr} {k0 k1 k2 k3 k5 : Option Value} {us : List Value} {Q : Value → Shared → Prop}
    (oC : h.get? C = some (excClassObj nm q C N bs bm hdct sn sub ab col dd k0 k1 k2 k3 k5 newId)) (he : h.get? e = some (PX.excO C t0)) (hu : h.get? u = some (kxs_mw i e)) (hz : us.length ≤ sizeLine)
    (hq : ∀ h' t1, But e h h' → h'.get? e = some (PX.excO C t1) → Q .none ⟨h', g, d, t, os⟩) : wpAny (model prog w) A (call (.ref u) us) Q E ⟨h, g, d, t, os⟩ := by
  refine wpAny_call (codeAny_of_tree ?_)
  show wpAny _ A.in1 (callAny (.ref u) ⟨us, []⟩) _ _ _
  simp only [callAny]
  refine wpAny_bind (wpAny_load hu ?_)
  simp only [kxs_mw, show (Value.type "method-wrapper" == Value.type "method" || Value.type "method-wrapper" == Value.type "builtin_function_or_method" || Value.type "method-wrapper" == Value.type "method-wrapper") = true by decide, if_true]
  refine KFB.if_so (by decide) ?_
  refine wpAny_bind (chk_bound F oC he rfl ?_)
  refine wpAny_bind (wpAny_pure (wpAny_pure ?_))
  refine ⟨plainId_quiet F.plain _, codeAny_builtin F.entry ?_⟩
  exact exc_init_tree (cls := .ref C) (t0 := t0) (dv := none) (c2 := .none) (c3 := .none) (b4 := .bool false) he hz fun h' k e' _ => hq h' h.objs.size k e'
end
/-- what is known of the class C at K: its object, its mro behind itself, where super() looks -/
structure ClsE (K : Frag) (C : Addr) (bmB : List Value) (BN B i newId : String) : Prop where
  ini : excInitIn K C bmB newId = true
  tl : Tl BN bmB
  sup : ks_superIn K C C "__init__" = some (some (.builtin i))
  own : mroIn K C (.ref C) = some true
  inB : subIn K (.ref C) (.type B) = some true
  opq : nsIn K cStatics "thirdparty.any" = some none
section
variable {prog : Program} {w : World} {A : Around} {E : Value → Shared → Prop} {s : Shared} {K : Frag} {mg mb m : Str → Option Value} {x C cc cda L f t0 : Addr} {B i newId BN : String} {bmB : List Value}
theorem super_at {body : List Stmt} {q : Str} {scope : Scope} {p0 p1 p2 p3 p4 : Pos} {e : Expr} {fd : FuncData} {of : Obj} {ar : Arg} {vs : Array Value} {file : Str} {tf : Tok} {oc oc2 : Obj} {Q : Flow → Shared → Prop} (F : IniF B i) (T : ClsE K C bmB BN B i newId)
    (X : K.In s.heap) (G : s.heap.Ns mainGlobals mg) (hm : mg "super" = none) (Bt : s.heap.Ns builtinsNs mb) (hmb : mb "super" = some (.type "super")) (hL : s.heap.Ns L m) (hself : m ar.arg = some (.ref x)) (he : s.heap.get? x = some (PX.excO C t0)) (neL : L ≠ x)
    (hf : s.heap.get? f = some of) (hfd : of.data = .func fd) (hp : (fd.params.posonlyargs ++ fd.params.args).head? = some ar) (hcode : s.heap.get? cda = some oc) (hoc : oc.data = .fields vs) (hvs : vs[2]? = some (.str file tf)) (hfile : ((prog.main.file : Str) == file) = true)
    (hcell : s.heap.get? cc = some oc2) (hcd : oc2.data = .cell (some (.ref C)))
    (hks : scope.names.lookup ("super" : Str) = some .globalImplicit) (hkc : scope.names.lookup ("__class__" : Str) = some .free) (hka : scope.names.lookup ar.arg = some .local) (hk : scope.kind = .function) (htop : (prog.main.scope.names.lookup ("super" : Str)).isSome = false)
    (hev : ∀ s1 : Shared, s1.heap.Ns L m → (∀ b o, s.heap.get? b = some o → s1.heap.get? b = some o) → ∀ Q' : Value → Shared → Prop, (∀ u h' tk, (∀ b o, s1.heap.get? b = some o → h'.get? b = some o) → Q' u { s1 with heap := h', toks := tk }) →
      wpAny (model prog w) A (eval e (ksEnv q scope L f (.ref cda) cc)) Q' E s1)
    (hin : interactive (ksEnv q scope L f (.ref cda) cc) = false)
    (hs : swapsWith (.Call (.Attribute (.Call (.Name "super" p0) [] [] p1) "__init__" p2) [e] [] p3) none p4.line (ksEnv q scope L f (.ref cda) cc) = pure false) (hst : starEach [e] (ksEnv q scope L f (.ref cda) cc) = (false, eval e (ksEnv q scope L f (.ref cda) cc)) :: starEach [] (ksEnv q scope L f (.ref cda) cc))
    (hcall : ∃ pl, eval (.Call (.Attribute (.Call (.Name "super" p0) [] [] p1) "__init__" p2) [e] [] p3) (ksEnv q scope L f (.ref cda) cc) = (do
      let ov ← attributeBase (.Call (.Name "super" p0) [] [] p1) "__init__" (ksEnv q scope L f (.ref cda) cc) (eval (.Call (.Name "super" p0) [] [] p1) (ksEnv q scope L f (.ref cda) cc))
      standAt p2.atName
      let (fn, first) ← holding [ov] (getMethod ov "__init__" pl)
      callWith p3 fn first (backTo p3 (starEach [e] (ksEnv q scope L f (.ref cda) cc))) []))
    (hq : ∀ h' t1 tk, But x s.heap h' → h'.get? x = some (PX.excO C t1) → Q .next { s with heap := h', toks := tk }) :
    _root_.PySem.wpAt (model prog w) A (.func body (ksEnv q scope L f (.ref cda) cc)) (exec (.Expr (.Call (.Attribute (.Call (.Name "super" p0) [] [] p1) "__init__" p2) [e] [] p3) p4) (ksEnv q scope L f (.ref cda) cc)) Q E s := by
  obtain ⟨nm, N, qn, bs, bm, hdct, sn, sub, ab, col, dd, k0, k1, k2, k3, k5, oC, _⟩ := excInit_of X T.ini
  obtain ⟨pl, hcall⟩ := hcall
  refine ks_wpAt_Expr_any (hi := hin) (hs := hs) ?_
  refine ks_wpAt_MethodCall (pl := pl) ?_ hcall
  refine ks_wpAt_super_base (env := ksEnv q scope L f (.ref cda) cc) hks hkc (by decide) rfl hf hfd hp rfl hcode hoc hvs hfile htop ?_
  refine ks_loadName_global hk hks (loadGlobal_builtin (env := ksEnv q scope L f (.ref cda) cc) G hm Bt hmb ⟨rfl, ?_⟩)
  refine wpAny_loadName_free hk hkc rfl ⟨_, hcell, hcd⟩ ?_
  refine wpAny_loadName_local hk hka hL hself ?_
  refine ks_wpAny_isType_cls oC rfl ⟨rfl, ?_⟩
  obtain ⟨hh, g, d, t, os⟩ := s
  refine ks_wpAny_call_super oC rfl he rfl (fun c z => by cases z) (looks_mroIn X T.own) (fun h1 e1 kp1 => ?_)
  have X1 : K.In h1 := X.keeps kp1
  have I1 : InstAt h1 x (PX.excO C t0) C none := ⟨kp1 _ _ he, rfl, rfl, trivial⟩
  have hI : Looks (model prog w) h1 (isInstance (.ref x) (.type B)) true := I1.type.andThen (looks_subIn X1 T.inB)
  have hs := T.sup
  cases hc : clsIn K C with
  | none => unfold ks_superIn at hs; rw [hc] at hs; cases hs
  | some cd =>
    unfold ks_superIn at hs
    rw [hc] at hs
    refine kxs_getMethod F.kx e1 (looks_opaque X1 T.opq) (l₀ := cd.mro) ?_ rfl X1 hs hI (ks_ne X1 I1 hc) (by decide) ?_
    · exact fun A Q E s k q => wpAny_bind ((looks_clsIn X1 hc) A _ E s k (wpAny_pure q))
    · have kp2 : ∀ b o, hh.get? b = some o → (h1.push (kxs_mw i x)).get? b = some o := fun b o z => Heap.get?_push_of_some _ (kp1 b o z)
      have ou : (h1.push (kxs_mw i x)).get? h1.objs.size = some (kxs_mw i x) := Heap.get?_push_at rfl rfl
      dsimp only
      rw [hst]
      refine kxs_callWith (i := i) (x := x) (first := []) (by rfl) (evalArgs_plain (spliced_cons (hev _ (ns_but (x := x) (But.all kp2) neL hL) kp2 _ fun u h2 tk kp3 => spliced_nil ⟨kp3 _ _ ou, ?_⟩)))
      refine call_wr F (kp3 _ _ (kp2 _ _ oC)) (kp3 _ _ (kp2 _ _ he)) (kp3 _ _ ou) (by show 1 ≤ sizeLine; rw [sizeLine_eq]; omega) fun h3 t1 k3 e3 => ?_
      exact hq h3 t1 _ ((But.all kp2).trans ((But.all kp3).trans k3)) e3
end
end Er

set_option Elab.async false
set_option linter.all false
set_option maxRecDepth 100000
set_option maxHeartbeats 4000000
/-! Er3: the fields of an error stored; its whole __init__. -/
namespace PySem.F
theorem keyStore : StoreFacts "KeyError" [.type "KeyError", .type "LookupError", .type "Exception", .type "BaseException", .type "object"] "object.__setattr__" "object" where
  mro := by kernel_rfl
  slot := .of (owner := "object") (n := "__setattr__") (by rw [typeLookup_type, builtinLookup_eq_fast]; kernel_rfl) (by decide +kernel) (by decide +kernel) (by decide +kernel) (by first | exact .inl (by decide +kernel) | exact .inr (by decide +kernel)) (by rw [isSubtype_type]; kernel_rfl)
  entry := entry_object_sa
  kind := by decide +kernel
  split := by decide +kernel
  hasOwner := by decide +kernel
  args := fun a b c => by unfold argsOk; kernel_rfl
  passes := fun self => by kernel_rfl
end PySem.F
namespace Er
open PySem PySem.W PySem.Calls
/-- an error with a dict -/
abbrev exD (C t dx : Addr) : Obj := { cls := .ref C, dict := some dx, data := .fields #[.ref t, .none, .none, .none, .bool false, .none] }
structure StE (K : Frag) (C : Addr) (bmB : List Value) : Prop where
  sa : findIn K (.ref C) "__setattr__" = some (some (.builtin "object.__setattr__"))
  ov : excOver K C bmB = true
  hd : hasDictIn K C = true
section
open Builtin Builtin.ObjectAttr
variable {prog : Program} {w : World} {A : Around} {E : Value → Shared → Prop} {hp : Heap} {g : Array GenState} {d : Drawn} {t : Nat} {os : OsState} {K : Frag} {x C dx t1 : Addr} {f : Str} {v : Value} {B : String} {bmB : List Value} {Q : Unit → Shared → Prop}
theorem set0 (SF : StoreFacts B bmB "object.__setattr__" "object") (T : StE K C bmB) (X : K.In hp) (hx : hp.get? x = some (PX.excO C t1)) (ht : takerIn K C f = some none)
    (hq : ∀ h' tk dx, But x hp h' → hp.objs.size ≤ dx → dx ≠ x → h'.get? x = some (exD C t1 dx) → h'.Ns1 dx (fun y => if y = f then some v else none) → Q () ⟨h', g, d, tk, os⟩) : wpAny (model prog w) A (setAttr (.ref x) f v) Q E ⟨hp, g, d, t, os⟩ := by
  have I : InstAt hp x (PX.excO C t1) C none := ⟨hx, rfl, rfl, trivial⟩
  have hxs : x ≠ hp.objs.size := Nat.ne_of_lt (Heap.lt_size hx)
  refine set_plain (od := none) X I T.sa (osa_openX (s := ⟨hp, g, d, t + 1, os⟩) SF X I T.ov ht fun b => ?_)
  obtain ⟨cd, hc, hd'⟩ := any_some T.hd
  have hcls : Looks (model prog w) hp (classData C) cd := looks_clsIn X hc
  obtain ⟨nm, bs, mro, ns, qn, hd, sn, sb, ab, col, del⟩ := cd
  dsimp only at hd'
  subst hd'
  show wpAny _ _ (storeInOwnDict (.ref x) (.ref C) (.str f t) f v b) _ _ _
  unfold storeInOwnDict ownDictForStores
  repeat (first | with_reducible refine PX.store_in_new ?_ ?_ | with_reducible refine wpAny_loadPart_at hx ?_ | with_reducible refine hcls.at ?_ | wp_step)
  · exact ⟨_, #[], _, (Heap.get?_update_ne _ _ _ _ hxs.symm).trans (Heap.get?_push_at rfl rfl), rfl, fun e he => absurd he (by simp), fun _ => rfl⟩
  · intro h' tk' hn' hs
    have hx₁ : (hp.push { cls := .type "dict", data := .dict #[] }).get? x = some (PX.excO C t1) := Heap.get?_push_of_some _ hx
    refine hq h' tk' hp.objs.size (fun b o hb ho => ?_) (Nat.le_refl _) hxs.symm ?_ hn'
    · exact (hs.2 b (Nat.ne_of_lt (Heap.lt_size ho))).trans ((Heap.get?_update_ne _ _ _ _ hb).trans (Heap.get?_push_of_some _ ho))
    · exact (hs.2 x hxs).trans (Heap.get?_update_self _ hx₁ rfl)
theorem set1 {m0 : Str → Option Value} {ns : List Str} (SF : StoreFacts B bmB "object.__setattr__" "object") (T : StE K C bmB) (X : K.In hp) (hx : hp.get? x = some (exD C t1 dx)) (ht : takerIn K C f = some none) (hn : hp.Ns1 dx m0) (hw : Within m0 ns) (hz : ns.length ≤ 900)
    (hq : ∀ h' tk, But dx hp h' → h'.Ns1 dx (fun y => if y = f then some v else m0 y) → Q () ⟨h', g, d, tk, os⟩) : wpAny (model prog w) A (setAttr (.ref x) f v) Q E ⟨hp, g, d, t, os⟩ := by
  obtain ⟨oD, esD, epD, hoD, hdD, _⟩ := hn.count hw
  have I : InstAt hp x (exD C t1 dx) C (some oD) := ⟨hx, rfl, rfl, hoD⟩
  refine set_plain (od := some oD) X I T.sa (osa_openX (s := ⟨hp, g, d, t + 1, os⟩) SF X I T.ov ht fun b => ?_)
  obtain ⟨cd, hc, hd'⟩ := any_some T.hd
  have hcls : Looks (model prog w) hp (classData C) cd := looks_clsIn X hc
  obtain ⟨nm, bs, mro, nn, qn, hd, sn, sb, ab, col, del⟩ := cd
  dsimp only at hd'
  subst hd'
  show wpAny _ _ (storeInOwnDict (.ref x) (.ref C) (.str f t) f v b) _ _ _
  unfold storeInOwnDict ownDictForStores
  repeat (first | with_reducible refine OEX.store_in_old hn hw (Nat.le_trans hz (by decide)) ?_ | with_reducible refine wpAny_loadPart_at hx ?_ | with_reducible refine hcls.at ?_ | wp_step)
  intro h' tk' hn' hs
  exact hq h' tk' (fun b o hb ho => (hs.2 b hb).trans ho) hn'
end
section
variable {prog : Program} {w : World} {A : Around} {E : Value → Shared → Prop} {s : Shared} {env : Env} {m : Str → Option Value} {f : Str} {x : Addr} {v : Value} {Q : Flow → Shared → Prop} {p1 p2 p3 p4 : Pos} {sf : Str}
/-- self.f = f -/
theorem field_st (hk : env.scope.kind = .function) (hL : s.heap.Ns env.locals m) (hf : m f = some v) (hs : m sf = some (.ref x)) (hkf : env.kindOf f = some .local) (hks : env.kindOf sf = some .local)
    (h : wpAny (model prog w) A (setAttr (.ref x) f v) (fun _ => Q .next) E s) (hd : (f == ("__debug__" : Str)) = false) (hd2 : (sf == ("__debug__" : Str)) = false) (hw : swapsWith (.Name f p3) (some (.Attribute (.Name sf p1) f p2)) p4.line env = pure false) :
    wpAny (model prog w) A (exec (.Assign [.Attribute (.Name sf p1) f p2] (.Name f p3) p4) env) Q E s :=
  plainObj_wpAny_Assign_Attribute (wpAny_Name (wpAny_loadName_local hk hkf hL hf (wpAny_Name (wpAny_loadName_local hk hks hL hs h) hd2)) hd) hw
end
end Er

set_option Elab.async false
set_option linter.all false
set_option maxRecDepth 100000
set_option maxHeartbeats 4000000
/-! Er4: an error's __init__: super().__init__(e), then one field or two. -/
namespace Er
open PySem PySem.W PySem.Calls
/-- the rows of the text that Lean finds by itself -/
structure Syn (env : Env) (e : Expr) (p0 p1 p2 p3 p4 : Pos) : Prop where
  hin : interactive env = false
  hs : swapsWith (.Call (.Attribute (.Call (.Name "super" p0) [] [] p1) "__init__" p2) [e] [] p3) none p4.line env = pure false
  hst : starEach [e] env = (false, eval e env) :: starEach [] env
  hcall : ∃ pl, eval (.Call (.Attribute (.Call (.Name "super" p0) [] [] p1) "__init__" p2) [e] [] p3) env = (do
      let ov ← attributeBase (.Call (.Name "super" p0) [] [] p1) "__init__" env (eval (.Call (.Name "super" p0) [] [] p1) env)
      standAt p2.atName
      let (fn, first) ← holding [ov] (getMethod ov "__init__" pl)
      callWith p3 fn first (backTo p3 (starEach [e] env)) [])
/-- the def's own object, its code, its cell -/
structure FnI (prog : Program) (K : Frag) (C fI cda cc : Addr) (qual : Str) (params : Arguments) (body : List Stmt) (scope : Scope) : Prop where
  fn : ∃ oc od kV doc pm an ct osl, K.lookup fI = some ⟨oc, od, .func (ksFn "__init__" qual params body scope .none kV doc pm an (.ref cda) ct cc), osl⟩
  code : codeIn K (.ref cda) qual = true
  file : ∃ ccl cdd vs ccs file tf, K.lookup cda = some ⟨ccl, cdd, .fields vs, ccs⟩ ∧ vs[2]? = some (.str file tf) ∧ ((prog.main.file : Str) == file) = true
  cell : ∃ cl cld csl, K.lookup cc = some ⟨cl, cld, .cell (some (.ref C)), csl⟩
  super : scope.names.lookup ("super" : Str) = some .globalImplicit
  cls : scope.names.lookup ("__class__" : Str) = some .free
  self : scope.names.lookup ("self" : Str) = some .local
  kind : scope.kind = .function
  co : scope.isCoroutine = false
  gen : scope.isGenerator = false
  nocell : ∀ x ∈ scope.names, x.2 ≠ .cell
  top : (prog.main.scope.names.lookup ("super" : Str)).isSome = false
  par : ∃ ar, (params.posonlyargs ++ params.args).head? = some ar ∧ ar.arg = "self"
section
variable {prog : Program} {w : World} {A : Around} {R : Result → Shared → Prop} {s : Shared} {K : Frag} {mg mb : Str → Option Value} {x C cc cda fI t0 : Addr} {B i newId B2 BN : String} {bmB bmC : List Value}
variable {qual : Str} {params : Arguments} {body : List Stmt} {scope : Scope} {p0 p1 p2 p3 p4 q1 q2 q3 q4 r1 r2 r3 r4 : Pos} {e : Expr} {f f2 : Str} {v v2 : Value} {args : Args} {fd : FuncData}
/-- what the message's text does: it is made, whatever it is -/
def Made (prog : Program) (w : World) (A : Around) (e : Expr) (env : Env) (s : Shared) (m : Str → Option Value) : Prop :=
  ∀ (E : Value → Shared → Prop) (s1 : Shared), s1.heap.Ns env.locals m → (∀ b o, s.heap.get? b = some o → s1.heap.get? b = some o) → ∀ Q' : Value → Shared → Prop, (∀ u h' tk, (∀ b o, s1.heap.get? b = some o → h'.get? b = some o) → Q' u { s1 with heap := h', toks := tk }) →
    wpAny (model prog w) A (eval e env) Q' E s1
theorem init_one (F : IniF B i) (T : ClsE K C bmC BN B i newId) (SF : StoreFacts B2 bmB "object.__setattr__" "object") (S : StE K C bmB) (FI : FnI prog K C fI cda cc qual params body scope)
    (hb : body = [.Expr (.Call (.Attribute (.Call (.Name "super" p0) [] [] p1) "__init__" p2) [e] [] p3) p4, .Assign [.Attribute (.Name "self" q1) f q2] (.Name f q3) q4])
    (hsy : ∀ L, Syn (ksEnv qual scope L fI (.ref cda) cc) e p0 p1 p2 p3 p4) (hsw : ∀ L, swapsWith (.Name f q3) (some (.Attribute (.Name "self" q1) f q2)) q4.line (ksEnv qual scope L fI (.ref cda) cc) = pure false)
    (hkf : scope.names.lookup f = some .local) (hfd : (f == ("__debug__" : Str)) = false) (hne : ("self" : Str) ≠ f) (ht : takerIn K C f = some none)
    (X : K.In s.heap) (G : s.heap.Ns mainGlobals mg) (hm : mg "super" = none) (Bt : s.heap.Ns builtinsNs mb) (hmb : mb "super" = some (.type "super")) (lim : s.heap.NoLimit) (room : A.depth < recursionLimit) (he : s.heap.get? x = some (PX.excO C t0)) (hxK : ∀ o, K.lookup x = some o → False)
    (hbind : ∀ oc od kV doc pm an ct osl, K.lookup fI = some ⟨oc, od, .func (ksFn "__init__" qual params body scope .none kV doc pm an (.ref cda) ct cc), osl⟩ → BindsTo s (ksFn "__init__" qual params body scope .none kV doc pm an (.ref cda) ct cc) args [("self", .ref x), (f, v)])
    (hev : ∀ s1 : Shared, (∀ b o, s.heap.get? b = some o → s1.heap.get? b = some o) → Made prog w (A.deeper (ksEnv qual scope s.heap.objs.size fI (.ref cda) cc)) e (ksEnv qual scope s.heap.objs.size fI (.ref cda) cc) s1 (fun y => ([("self", .ref x), (f, v)] : List (Str × Value)).reverse.lookup y))
    (hq : ∀ h' t1 dx tk, But x s.heap h' → s.heap.objs.size ≤ dx → dx ≠ x → h'.get? x = some (exD C t1 dx) → h'.Ns1 dx (fun y => if y = f then some v else none) → R (.ok (.ret .none)) { s with heap := h', toks := tk }) :
    codeAny (model prog w) A (.call (.ref fI) args) R s := by
  obtain ⟨oc, od, kV, doc, pm, an, ct, osl, lf⟩ := FI.fn
  obtain ⟨ccl, cdd, vs, ccs, file, tf, lcd, hvs, hfile⟩ := FI.file
  obtain ⟨cl, cld, csl, lcc⟩ := FI.cell
  obtain ⟨ar, hp, har⟩ := FI.par
  have ok := FI.self
  refine ks_codeAny_call_defAt (fd := ksFn "__init__" qual params body scope .none kV doc pm an (.ref cda) ct cc) (body := body) (binds := [("self", .ref x), (f, v)]) room (X _ _ lf) rfl lim (codeRec_of X FI.code) rfl (hbind _ _ _ _ _ _ _ _ lf) FI.nocell ?_ (fun h₁ hns kp => ?_) FI.co FI.gen FI.kind
  · intro y hy
    rcases List.mem_cons.mp hy with rfl | hy
    · exact ok
    · rcases List.mem_cons.mp hy with rfl | hy
      · exact hkf
      · cases hy
  show _root_.PySem.wpAt (model prog w) (A.deeper (ksEnv qual scope s.heap.objs.size fI (.ref cda) cc)) (.func body (ksEnv qual scope s.heap.objs.size fI (.ref cda) cc)) (execs body (ksEnv qual scope s.heap.objs.size fI (.ref cda) cc)) _ _ _
  have hx : x < s.heap.objs.size := Heap.lt_size he
  have neL : s.heap.objs.size ≠ x := Nat.ne_of_gt hx
  have X1 : K.In h₁ := X.keeps kp
  have sy := hsy s.heap.objs.size
  have ls : (fun y => ([("self", Value.ref x), (f, v)] : List (Str × Value)).reverse.lookup y) "self" = some (.ref x) := by
    have e0 : (("self" : Str) == f) = false := beq_eq_false_iff_ne.mpr hne
    simp [List.lookup, e0]
  have lfv : (fun y => ([("self", Value.ref x), (f, v)] : List (Str × Value)).reverse.lookup y) f = some v := by simp [List.lookup]
  suffices hh : ∀ bd, _root_.PySem.wpAt (model prog w) (A.deeper (ksEnv qual scope s.heap.objs.size fI (.ref cda) cc)) (.func bd (ksEnv qual scope s.heap.objs.size fI (.ref cda) cc)) (execs body (ksEnv qual scope s.heap.objs.size fI (.ref cda) cc)) (fun fl s' => R (.ok (.ret (match fl with | .ret v => v | _ => .none))) s') (fun e s' => wpAny (model prog w) (A.deeper (ksEnv qual scope s.heap.objs.size fI (.ref cda) cc)) (leaving (ksEnv qual scope s.heap.objs.size fI (.ref cda) cc) e) (fun _ s'' => R (.error e) s'') (fun e' s'' => R (.error e') s'') s') { s with heap := h₁, toks := s.toks + 2 } from hh body
  intro bd
  rw [hb]
  refine ks_wpAt_execs_cons ?_
  refine super_at (s := { s with heap := h₁, toks := s.toks + 2 }) (mg := mg) (mb := mb) (m := fun y => ([("self", .ref x), (f, v)] : List (Str × Value)).reverse.lookup y) (ar := ar) F T X1 (G.keeps kp) hm
    (Bt.keeps kp) hmb hns (by rw [har]; exact ls) (kp _ _ he) neL (X1 _ _ lf) rfl hp (X1 _ _ lcd) rfl hvs hfile (X1 _ _ lcc) rfl FI.super FI.cls (by rw [har]; exact ok) FI.kind FI.top
    (fun s1 n1 k1 Q' hQ' => hev { s with heap := h₁, toks := s.toks + 2 } kp _ s1 n1 k1 Q' hQ') sy.hin sy.hs sy.hst sy.hcall ?_
  intro h2 t1 tk k2 e2
  dsimp only
  refine ks_wpAt_execs_cons (_root_.PySem.wpAt_of_wpAny ?_)
  have n2 := ns_but k2 neL hns
  have X2 : K.In h2 := fun b o z => k2 b o (fun y => hxK o (by rw [← y]; exact z)) (X1 _ _ z)
  exact field_st (env := ksEnv qual scope s.heap.objs.size fI (.ref cda) cc) FI.kind n2 lfv ls hkf ok (set0 SF S X2 e2 ht fun h3 tk3 dx k3 hd nd e3 n3 => _root_.PySem.wpAt_of_wpAny (wpAny_execs_nil (hq h3 t1 dx _ ((But.all kp).trans (k2.trans k3)) (by obtain ⟨o, es, ep, e, _⟩ := n2; exact Nat.le_of_lt (Nat.lt_of_lt_of_le (Heap.lt_size e) hd)) nd e3 n3))) hfd (by decide) (hsw _)
theorem init_two (F : IniF B i) (T : ClsE K C bmC BN B i newId) (SF : StoreFacts B2 bmB "object.__setattr__" "object") (S : StE K C bmB) (FI : FnI prog K C fI cda cc qual params body scope)
    (hb : body = [.Expr (.Call (.Attribute (.Call (.Name "super" p0) [] [] p1) "__init__" p2) [e] [] p3) p4, .Assign [.Attribute (.Name "self" q1) f q2] (.Name f q3) q4, .Assign [.Attribute (.Name "self" r1) f2 r2] (.Name f2 r3) r4])
    (hsy : ∀ L, Syn (ksEnv qual scope L fI (.ref cda) cc) e p0 p1 p2 p3 p4) (hsw : ∀ L, swapsWith (.Name f q3) (some (.Attribute (.Name "self" q1) f q2)) q4.line (ksEnv qual scope L fI (.ref cda) cc) = pure false)
    (hsw2 : ∀ L, swapsWith (.Name f2 r3) (some (.Attribute (.Name "self" r1) f2 r2)) r4.line (ksEnv qual scope L fI (.ref cda) cc) = pure false) (hkf2 : scope.names.lookup f2 = some .local) (hfd2 : (f2 == ("__debug__" : Str)) = false) (hne2 : ("self" : Str) ≠ f2) (ht2 : takerIn K C f2 = some none) (hnf : f2 ≠ f)
    (hkf : scope.names.lookup f = some .local) (hfd : (f == ("__debug__" : Str)) = false) (hne : ("self" : Str) ≠ f) (ht : takerIn K C f = some none)
    (X : K.In s.heap) (G : s.heap.Ns mainGlobals mg) (hm : mg "super" = none) (Bt : s.heap.Ns builtinsNs mb) (hmb : mb "super" = some (.type "super")) (lim : s.heap.NoLimit) (room : A.depth < recursionLimit) (he : s.heap.get? x = some (PX.excO C t0)) (hxK : ∀ o, K.lookup x = some o → False)
    (hbind : ∀ oc od kV doc pm an ct osl, K.lookup fI = some ⟨oc, od, .func (ksFn "__init__" qual params body scope .none kV doc pm an (.ref cda) ct cc), osl⟩ → BindsTo s (ksFn "__init__" qual params body scope .none kV doc pm an (.ref cda) ct cc) args [("self", .ref x), (f, v), (f2, v2)])
    (hev : ∀ s1 : Shared, (∀ b o, s.heap.get? b = some o → s1.heap.get? b = some o) → Made prog w (A.deeper (ksEnv qual scope s.heap.objs.size fI (.ref cda) cc)) e (ksEnv qual scope s.heap.objs.size fI (.ref cda) cc) s1 (fun y => ([("self", .ref x), (f, v), (f2, v2)] : List (Str × Value)).reverse.lookup y))
    (hq : ∀ h' t1 dx tk, But x s.heap h' → s.heap.objs.size ≤ dx → dx ≠ x → h'.get? x = some (exD C t1 dx) → h'.Ns1 dx (fun y => if y = f2 then some v2 else if y = f then some v else none) → R (.ok (.ret .none)) { s with heap := h', toks := tk }) :
    codeAny (model prog w) A (.call (.ref fI) args) R s := by
  obtain ⟨oc, od, kV, doc, pm, an, ct, osl, lf⟩ := FI.fn
  obtain ⟨ccl, cdd, vs, ccs, file, tf, lcd, hvs, hfile⟩ := FI.file
  obtain ⟨cl, cld, csl, lcc⟩ := FI.cell
  obtain ⟨ar, hp, har⟩ := FI.par
  have ok := FI.self
  refine ks_codeAny_call_defAt (fd := ksFn "__init__" qual params body scope .none kV doc pm an (.ref cda) ct cc) (body := body) (binds := [("self", .ref x), (f, v), (f2, v2)]) room (X _ _ lf) rfl lim (codeRec_of X FI.code) rfl (hbind _ _ _ _ _ _ _ _ lf) FI.nocell ?_ (fun h₁ hns kp => ?_) FI.co FI.gen FI.kind
  · intro y hy
    rcases List.mem_cons.mp hy with rfl | hy
    · exact ok
    · rcases List.mem_cons.mp hy with rfl | hy
      · exact hkf
      · rcases List.mem_cons.mp hy with rfl | hy
        · exact hkf2
        · cases hy
  show _root_.PySem.wpAt (model prog w) (A.deeper (ksEnv qual scope s.heap.objs.size fI (.ref cda) cc)) (.func body (ksEnv qual scope s.heap.objs.size fI (.ref cda) cc)) (execs body (ksEnv qual scope s.heap.objs.size fI (.ref cda) cc)) _ _ _
  have hx : x < s.heap.objs.size := Heap.lt_size he
  have neL : s.heap.objs.size ≠ x := Nat.ne_of_gt hx
  have X1 : K.In h₁ := X.keeps kp
  have sy := hsy s.heap.objs.size
  have ls : (fun y => ([("self", Value.ref x), (f, v), (f2, v2)] : List (Str × Value)).reverse.lookup y) "self" = some (.ref x) := by
    have e0 : (("self" : Str) == f) = false := beq_eq_false_iff_ne.mpr hne
    have e1 : (("self" : Str) == f2) = false := beq_eq_false_iff_ne.mpr hne2
    simp [List.lookup, e0, e1]
  have lfv : (fun y => ([("self", Value.ref x), (f, v), (f2, v2)] : List (Str × Value)).reverse.lookup y) f = some v := by
    have e1 : (f == f2) = false := beq_eq_false_iff_ne.mpr hnf.symm
    simp [List.lookup, e1]
  have lfv2 : (fun y => ([("self", Value.ref x), (f, v), (f2, v2)] : List (Str × Value)).reverse.lookup y) f2 = some v2 := by simp [List.lookup]
  suffices hh : ∀ bd, _root_.PySem.wpAt (model prog w) (A.deeper (ksEnv qual scope s.heap.objs.size fI (.ref cda) cc)) (.func bd (ksEnv qual scope s.heap.objs.size fI (.ref cda) cc)) (execs body (ksEnv qual scope s.heap.objs.size fI (.ref cda) cc)) (fun fl s' => R (.ok (.ret (match fl with | .ret v => v | _ => .none))) s') (fun e s' => wpAny (model prog w) (A.deeper (ksEnv qual scope s.heap.objs.size fI (.ref cda) cc)) (leaving (ksEnv qual scope s.heap.objs.size fI (.ref cda) cc) e) (fun _ s'' => R (.error e) s'') (fun e' s'' => R (.error e') s'') s') { s with heap := h₁, toks := s.toks + 3 } from hh body
  intro bd
  rw [hb]
  refine ks_wpAt_execs_cons ?_
  refine super_at (s := { s with heap := h₁, toks := s.toks + 3 }) (mg := mg) (mb := mb) (m := fun y => ([("self", .ref x), (f, v), (f2, v2)] : List (Str × Value)).reverse.lookup y) (ar := ar) F T X1 (G.keeps kp) hm
    (Bt.keeps kp) hmb hns (by rw [har]; exact ls) (kp _ _ he) neL (X1 _ _ lf) rfl hp (X1 _ _ lcd) rfl hvs hfile (X1 _ _ lcc) rfl FI.super FI.cls (by rw [har]; exact ok) FI.kind FI.top
    (fun s1 n1 k1 Q' hQ' => hev { s with heap := h₁, toks := s.toks + 3 } kp _ s1 n1 k1 Q' hQ') sy.hin sy.hs sy.hst sy.hcall ?_
  intro h2 t1 tk k2 e2
  dsimp only
  refine ks_wpAt_execs_cons (_root_.PySem.wpAt_of_wpAny ?_)
  have n2 := ns_but k2 neL hns
  have X2 : K.In h2 := fun b o z => k2 b o (fun y => hxK o (by rw [← y]; exact z)) (X1 _ _ z)
  refine field_st (env := ksEnv qual scope s.heap.objs.size fI (.ref cda) cc) FI.kind n2 lfv ls hkf ok (set0 SF S X2 e2 ht fun h3 tk3 dx k3 hd nd e3 n3 => ?_) hfd (by decide) (hsw _)
  dsimp only
  have szL : s.heap.objs.size < dx := by
    obtain ⟨o, es, ep, e, _⟩ := n2
    exact Nat.lt_of_lt_of_le (Heap.lt_size e) hd
  have nn3 := ns_but k3 neL n2
  have X3 : K.In h3 := fun b o z => k3 b o (fun y => hxK o (by rw [← y]; exact z)) (X2 _ _ z)
  refine ks_wpAt_execs_cons (_root_.PySem.wpAt_of_wpAny ?_)
  refine field_st (env := ksEnv qual scope s.heap.objs.size fI (.ref cda) cc) FI.kind nn3 lfv2 ls hkf2 ok (set1 (ns := [f]) SF S X3 e3 ht2 n3 (fun y hy => by
    by_cases z : y = f
    · rw [z]; exact List.mem_cons_self
    · exact absurd (if_neg z) hy) (by show 1 ≤ 900; omega) fun h4 tk4 k4 n4 => ?_) hfd2 (by decide) (hsw2 _)
  dsimp only
  refine _root_.PySem.wpAt_of_wpAny (wpAny_execs_nil (hq h4 t1 dx _ (fun b o nb z => ?_) (Nat.le_of_lt szL) nd (k4 _ _ (Ne.symm nd) e3) n4))
  refine k4 b o (fun y => ?_) (k3 b o nb (k2 b o nb (kp b o z)))
  have q := Heap.lt_size z
  rw [y] at q
  exact Nat.lt_asymm szL q
end
end Er

set_option Elab.async false
set_option linter.all false
set_option maxRecDepth 100000
set_option maxHeartbeats 4000000
/-! Er5: an error is made, in the abstract heap. -/
namespace Er
open PySem PySem.Spec PyProof.Rows L2 Dat
section
variable {X : Cx} {pins : List (Addr × Obj)} {σ : L2.St} {H : Hp} {s : Shared}
theorem inv_err {h' : Heap} {x dx C t1 : Addr} {tk : Nat} {fs : List (Str × V)} {mA : Str → Option Value} (I : Inv X pins σ H s) (hx : s.heap.objs.size ≤ x) (hd : s.heap.objs.size ≤ dx) (ne : dx ≠ x) (kp : ∀ b o, s.heap.get? b = some o → h'.get? b = some o)
    (ex : h'.get? x = some (exD C t1 dx)) (hn : h'.Ns1 dx mA) (r : ∀ f, RelO (fs.lookup f) (mA f)) : Inv X pins σ (upd (upd H dx (exd dx fs)) x (exo x C (some dx))) { s with heap := h', toks := tk } := by
  have nx : H x = none := I.hok.fresh hx
  have nd : H dx = none := I.hok.fresh hd
  have fx : ∀ {b : Addr} {o : Obj}, s.heap.get? b = some o → b ≠ x := fun {b o} z => Nat.ne_of_lt (Nat.lt_of_lt_of_le (Heap.lt_size z) hx)
  have fd : ∀ {b : Addr} {o : Obj}, s.heap.get? b = some o → b ≠ dx := fun {b o} z => Nat.ne_of_lt (Nat.lt_of_lt_of_le (Heap.lt_size z) hd)
  refine I.un (t' := tk) { keep := fun b o q _ _ _ => kp b o q, slot := fun b o q _ _ _ => ⟨o.slots, kp b o q⟩, free := fun b o q n _ => by rw [upd_ne (fx q), upd_ne (fd q)]; exact n, there := fun b o q _ => ⟨o, kp b o q⟩
                           tups := fun b xs q => by rw [upd_ne (ne_of_none q nx), upd_ne (ne_of_none q nd)]; exact q
                           frzs := fun b o u q => by rw [upd_ne (ne_of_none q nx), upd_ne (ne_of_none q nd)]; exact q
                           tbls := fun b ps q => ⟨#[], by rw [upd_ne (ne_of_none q nx), upd_ne (ne_of_none q nd), q]; simp⟩ } fun b o q => ?_
  by_cases hb : b = x
  · subst hb
    rw [upd_same] at q
    cases q
    exact exo_ok ex
  · rw [upd_ne hb] at q
    by_cases he : b = dx
    · subst he
      rw [upd_same] at q
      cases q
      exact exd_ok hn r
    · rw [upd_ne he] at q
      exact (I.hok b o q).stay (fun c v _ z => kp c v z) (fun c hc => by rw [upd_ne (ne_of_none hc nx), upd_ne (ne_of_none hc nd)]; exact hc) (fun c xs hc => by rw [upd_ne (ne_of_none hc nx), upd_ne (ne_of_none hc nd)]; exact hc)
/-- the error may be raised: the state without its own object -/
def Rdy (X : Cx) (pins : List (Addr × Obj)) (σ : L2.St) (H : Hp) (C x dx : Addr) (fs : List (Str × V)) (s' : Shared) : Prop :=
  ∃ (G : Heap) (t1 : Addr), Inv X pins σ (upd H dx (.xd fs)) { s' with heap := G } ∧ (∀ b o, G.get? b = some o → s'.heap.get? b = some o) ∧ G.get? x = none ∧ s'.heap.get? x = some (exD C t1 dx)
theorem rdy_err {h' : Heap} {x dx C t1 : Addr} {tk : Nat} {fs : List (Str × V)} {mA : Str → Option Value} (I : Inv X pins σ H s) (hx : s.heap.objs.size ≤ x) (hd : s.heap.objs.size ≤ dx) (ne : dx ≠ x) (kp : ∀ b o, s.heap.get? b = some o → h'.get? b = some o)
    (ex : h'.get? x = some (exD C t1 dx)) (hn : h'.Ns1 dx mA) (r : ∀ f, RelO (fs.lookup f) (mA f)) : Rdy X pins σ H C x dx fs { s with heap := h', toks := tk } := by
  obtain ⟨G, g1, g2⟩ := restrict h' fun b => decide (b ≠ x)
  have gk : ∀ b, b ≠ x → G.get? b = h'.get? b := fun b hb => g1 b (decide_eq_true hb)
  have ge : G.get? x = none := g2 x (by simp)
  have nd : H dx = none := I.hok.fresh hd
  have fx : ∀ {b : Addr} {o : Obj}, s.heap.get? b = some o → b ≠ x := fun {b o} z => Nat.ne_of_lt (Nat.lt_of_lt_of_le (Heap.lt_size z) hx)
  have fd : ∀ {b : Addr} {o : Obj}, s.heap.get? b = some o → b ≠ dx := fun {b o} z => Nat.ne_of_lt (Nat.lt_of_lt_of_le (Heap.lt_size z) hd)
  have kg : ∀ b o, s.heap.get? b = some o → G.get? b = some o := fun b o z => (gk b (fx z)).trans (kp b o z)
  refine ⟨G, t1, ?_, fun b o z => ?_, ge, ex⟩
  · refine I.un (h' := G) (t' := tk) { keep := fun b o q _ _ _ => kg b o q, slot := fun b o q _ _ _ => ⟨o.slots, kg b o q⟩, free := fun b o q n _ => by rw [upd_ne (fd q)]; exact n, there := fun b o q _ => ⟨o, kg b o q⟩
                                       tups := fun b xs q => by rw [upd_ne (ne_of_none q nd)]; exact q
                                       frzs := fun b o u q => by rw [upd_ne (ne_of_none q nd)]; exact q
                                       tbls := fun b ps q => ⟨#[], by rw [upd_ne (ne_of_none q nd), q]; simp⟩ } fun b o q => ?_
    by_cases he : b = dx
    · subst he; rw [upd_same] at q; cases q
      exact ⟨mA, hn.at fun o y => (gk b ne).trans y, r⟩
    · rw [upd_ne he] at q
      exact (I.hok b o q).stay (fun c v _ z => kg c v z) (fun c hc => by rw [upd_ne (ne_of_none hc nd)]; exact hc) (fun c xs hc => by rw [upd_ne (ne_of_none hc nd)]; exact hc)
  · by_cases hb : b = x
    · rw [hb, ge] at z; cases z
    · exact (gk b hb).symm.trans z
variable {C cda cc fI : Addr} {B i newId B2 BN iN : String} {bmB bmC bN : List Value} {qual : Str} {params : Arguments} {body : List Stmt} {scope : Scope} {p0 p1 p2 p3 p4 q1 q2 q3 q4 r1 r2 r3 r4 : Pos} {e : Expr} {f f2 : Str} {v v2 : Value} {y y2 : V} {us : List Value} {kw : List (Str × Value)}
/-- the message's text, whatever stands around -/
def MadeAll (X : Cx) (s : Shared) (qual : Str) (scope : Scope) (fI cda cc : Addr) (e : Expr) (m : Addr → Str → Option Value) : Prop :=
  ∀ (A : Around) (L x : Addr) (s1 : Shared), A.guards = some [] → A.units + 100 < cLine → (∀ b o, s.heap.get? b = some o → s1.heap.get? b = some o) → Made X.prog X.w A e (PySem.W.ksEnv qual scope L fI (.ref cda) cc) s1 (m x)
theorem err_one (I : Inv X pins σ H s) (hr : Room 2 X.A) (hgd : X.A.guards = some []) (FN : ExcBaseFacts BN newId iN bN) (F : IniF B i) (T : ClsE X.K C bmC BN B i newId) (SF : StoreFacts B2 bmB "object.__setattr__" "object") (S : StE X.K C bmB) (FI : FnI X.prog X.K C fI cda cc qual params body scope)
    (hi : PySem.W.findIn X.K (.ref C) "__init__" = some (some (.ref fI))) (tI : PySem.W.typeIn X.K (.ref fI) = some (.type "function"))
    (hb : body = [.Expr (.Call (.Attribute (.Call (.Name "super" p0) [] [] p1) "__init__" p2) [e] [] p3) p4, .Assign [.Attribute (.Name "self" q1) f q2] (.Name f q3) q4])
    (hsy : ∀ L, Syn (PySem.W.ksEnv qual scope L fI (.ref cda) cc) e p0 p1 p2 p3 p4) (hsw : ∀ L, swapsWith (.Name f q3) (some (.Attribute (.Name "self" q1) f q2)) q4.line (PySem.W.ksEnv qual scope L fI (.ref cda) cc) = pure false)
    (hkf : scope.names.lookup f = some .local) (hfd : (f == ("__debug__" : Str)) = false) (hne : ("self" : Str) ≠ f) (ht : PySem.W.takerIn X.K C f = some none) (hm : X.mg "super" = none) (hz : us.length ≤ sizeLine) (rv : RelV y v)
    (hbind : ∀ (s1 : Shared) (x : Addr) (kV doc pm : Value) (an : Option Addr) (ct : Value), X.K.In s1.heap → BindsTo s1 (PySem.W.ksFn "__init__" qual params body scope .none kV doc pm an (.ref cda) ct cc) ⟨.ref x :: us, kw⟩ [("self", .ref x), (f, v)])
    (hev : MadeAll X s qual scope fI cda cc e fun x z => ([("self", .ref x), (f, v)] : List (Str × Value)).reverse.lookup z)
    {Q : Value → Shared → Prop} (h : ∀ x dx s', H x = none → H dx = none → dx ≠ x → Inv X pins σ (upd (upd H dx (exd dx [(f, y)])) x (exo x C (some dx))) s' → Rdy X pins σ H C x dx [(f, y)] s' → Q (.ref x) s') :
    wpAny (model X.prog X.w) X.A (call (.ref C) us kw) Q X.xe s := by
  obtain ⟨mb, bt1, bt2⟩ := I.mod.blt
  obtain ⟨nm, N, qn, bs, bm, hdct, sn, sub, ab, col, dd, k0, k1, k2, k3, k5, oC, hT⟩ := PySem.W.excInit_of I.kIn T.ini
  have TL : Tl BN bm := ⟨(hT _).trans T.tl.own, (hT _).trans T.tl.att, (hT _).trans T.tl.nam⟩
  have hg := I.bk
  have kin := I.kIn
  obtain ⟨hp, g, d, t, os⟩ := s
  have kp : ∀ b o, hp.get? b = some o → ((hp.push (PySem.W.kdv_tup us)).push (PX.excO C hp.objs.size)).get? b = some o := fun b o e => Heap.get?_push_of_some _ (Heap.get?_push_of_some _ e)
  have oE : ((hp.push (PySem.W.kdv_tup us)).push (PX.excO C hp.objs.size)).get? (hp.objs.size + 1) = some (PX.excO C hp.objs.size) := by heap_get
  refine wpAny_call (call_any FN TL oC (PySem.W.looks_findIn kin hi) (fun self => PySem.W.bind_fn kin self tI) hz ?_)
  refine init_one (s := ⟨(hp.push (PySem.W.kdv_tup us)).push (PX.excO C hp.objs.size), g, d, t, os⟩) (x := hp.objs.size + 1) (v := v) (mg := X.mg) (mb := mb) F T SF S FI hb hsy hsw hkf hfd hne ht (kin.keeps kp) ((I.mod.glob.keeps hg).keeps kp) hm ((bt1.keeps hg).keeps kp) ((bt2 "super" (by decide)).trans (by decide +kernel)) ((I.mod.nolimit.keeps hg).keeps kp) ((hr.make C us kw).depth) oE (fun o z => ?_)
    (fun _ _ _ _ _ _ _ _ _ => hbind _ _ _ _ _ _ _ (kin.keeps kp)) (fun s1 k1 => hev _ _ _ s1 hgd ?_ fun b o z => k1 _ _ (kp b o z)) fun h' t1 dx tk k hd ne ex hn => ⟨rfl, ?_⟩
  · have q := Heap.lt_size (kin _ _ z)
    exact absurd (Nat.lt_of_lt_of_le q (Nat.le_succ _)) (Nat.lt_irrefl _)
  · have q := ((hr.make C us kw).deeper (PySem.W.ksEnv qual scope ((hp.push (PySem.W.kdv_tup us)).push (PX.excO C hp.objs.size)).objs.size fI (.ref cda) cc)).un
    have au : ∀ a, a + 16 * 0 + 200 < cLine → a + 100 < cLine := fun a z => by omega
    exact au _ q
  · have hd2 : hp.objs.size ≤ dx := Nat.le_trans (by rw [Heap.size_push, Heap.size_push]; exact Nat.le_succ_of_le (Nat.le_succ _)) hd
    have kk2 : ∀ b o, hp.get? b = some o → h'.get? b = some o := fun b o z => k b o (fun e => by
      have q := Heap.lt_size z
      rw [e] at q
      exact absurd (Nat.lt_of_lt_of_le q (Nat.le_succ _)) (Nat.lt_irrefl _)) (kp b o z)
    have rl : ∀ z, RelO (([(f, y)] : List (Str × V)).lookup z) _ := fun z => relO_put (fs := []) (mA := fun _ => none) rv (fun g => True.intro) z
    exact h (hp.objs.size + 1) dx _ (I.hok.fresh (Nat.le_succ _)) (I.hok.fresh hd2) ne (inv_err (s := ⟨hp, g, d, t, os⟩) (tk := tk) I (Nat.le_succ _) hd2 ne kk2 ex hn rl) (rdy_err (s := ⟨hp, g, d, t, os⟩) (tk := tk) I (Nat.le_succ _) hd2 ne kk2 ex hn rl)
theorem err_two (I : Inv X pins σ H s) (hr : Room 2 X.A) (hgd : X.A.guards = some []) (FN : ExcBaseFacts BN newId iN bN) (F : IniF B i) (T : ClsE X.K C bmC BN B i newId) (SF : StoreFacts B2 bmB "object.__setattr__" "object") (S : StE X.K C bmB) (FI : FnI X.prog X.K C fI cda cc qual params body scope)
    (hi : PySem.W.findIn X.K (.ref C) "__init__" = some (some (.ref fI))) (tI : PySem.W.typeIn X.K (.ref fI) = some (.type "function"))
    (hb : body = [.Expr (.Call (.Attribute (.Call (.Name "super" p0) [] [] p1) "__init__" p2) [e] [] p3) p4, .Assign [.Attribute (.Name "self" q1) f q2] (.Name f q3) q4, .Assign [.Attribute (.Name "self" r1) f2 r2] (.Name f2 r3) r4])
    (hsy : ∀ L, Syn (PySem.W.ksEnv qual scope L fI (.ref cda) cc) e p0 p1 p2 p3 p4) (hsw : ∀ L, swapsWith (.Name f q3) (some (.Attribute (.Name "self" q1) f q2)) q4.line (PySem.W.ksEnv qual scope L fI (.ref cda) cc) = pure false)
    (hsw2 : ∀ L, swapsWith (.Name f2 r3) (some (.Attribute (.Name "self" r1) f2 r2)) r4.line (PySem.W.ksEnv qual scope L fI (.ref cda) cc) = pure false) (hkf2 : scope.names.lookup f2 = some .local) (hfd2 : (f2 == ("__debug__" : Str)) = false) (hne2 : ("self" : Str) ≠ f2) (ht2 : PySem.W.takerIn X.K C f2 = some none) (hnf : f2 ≠ f) (rv2 : RelV y2 v2)
    (hkf : scope.names.lookup f = some .local) (hfd : (f == ("__debug__" : Str)) = false) (hne : ("self" : Str) ≠ f) (ht : PySem.W.takerIn X.K C f = some none) (hm : X.mg "super" = none) (hz : us.length ≤ sizeLine) (rv : RelV y v)
    (hbind : ∀ (s1 : Shared) (x : Addr) (kV doc pm : Value) (an : Option Addr) (ct : Value), X.K.In s1.heap → BindsTo s1 (PySem.W.ksFn "__init__" qual params body scope .none kV doc pm an (.ref cda) ct cc) ⟨.ref x :: us, kw⟩ [("self", .ref x), (f, v), (f2, v2)])
    (hev : MadeAll X s qual scope fI cda cc e fun x z => ([("self", .ref x), (f, v), (f2, v2)] : List (Str × Value)).reverse.lookup z)
    {Q : Value → Shared → Prop} (h : ∀ x dx s', H x = none → H dx = none → dx ≠ x → Inv X pins σ (upd (upd H dx (exd dx [(f, y), (f2, y2)])) x (exo x C (some dx))) s' → Rdy X pins σ H C x dx [(f, y), (f2, y2)] s' → Q (.ref x) s') :
    wpAny (model X.prog X.w) X.A (call (.ref C) us kw) Q X.xe s := by
  obtain ⟨mb, bt1, bt2⟩ := I.mod.blt
  obtain ⟨nm, N, qn, bs, bm, hdct, sn, sub, ab, col, dd, k0, k1, k2, k3, k5, oC, hT⟩ := PySem.W.excInit_of I.kIn T.ini
  have TL : Tl BN bm := ⟨(hT _).trans T.tl.own, (hT _).trans T.tl.att, (hT _).trans T.tl.nam⟩
  have hg := I.bk
  have kin := I.kIn
  obtain ⟨hp, g, d, t, os⟩ := s
  have kp : ∀ b o, hp.get? b = some o → ((hp.push (PySem.W.kdv_tup us)).push (PX.excO C hp.objs.size)).get? b = some o := fun b o e => Heap.get?_push_of_some _ (Heap.get?_push_of_some _ e)
  have oE : ((hp.push (PySem.W.kdv_tup us)).push (PX.excO C hp.objs.size)).get? (hp.objs.size + 1) = some (PX.excO C hp.objs.size) := by heap_get
  refine wpAny_call (call_any FN TL oC (PySem.W.looks_findIn kin hi) (fun self => PySem.W.bind_fn kin self tI) hz ?_)
  refine init_two (s := ⟨(hp.push (PySem.W.kdv_tup us)).push (PX.excO C hp.objs.size), g, d, t, os⟩) (x := hp.objs.size + 1) (v := v) (v2 := v2) (mg := X.mg) (mb := mb) F T SF S FI hb hsy hsw hsw2 hkf2 hfd2 hne2 ht2 hnf hkf hfd hne ht (kin.keeps kp) ((I.mod.glob.keeps hg).keeps kp) hm ((bt1.keeps hg).keeps kp) ((bt2 "super" (by decide)).trans (by decide +kernel)) ((I.mod.nolimit.keeps hg).keeps kp) ((hr.make C us kw).depth) oE (fun o z => ?_)
    (fun _ _ _ _ _ _ _ _ _ => hbind _ _ _ _ _ _ _ (kin.keeps kp)) (fun s1 k1 => hev _ _ _ s1 hgd ?_ fun b o z => k1 _ _ (kp b o z)) fun h' t1 dx tk k hd ne ex hn => ⟨rfl, ?_⟩
  · have q := Heap.lt_size (kin _ _ z)
    exact absurd (Nat.lt_of_lt_of_le q (Nat.le_succ _)) (Nat.lt_irrefl _)
  · have q := ((hr.make C us kw).deeper (PySem.W.ksEnv qual scope ((hp.push (PySem.W.kdv_tup us)).push (PX.excO C hp.objs.size)).objs.size fI (.ref cda) cc)).un
    have au : ∀ a, a + 16 * 0 + 200 < cLine → a + 100 < cLine := fun a z => by omega
    exact au _ q
  · have hd2 : hp.objs.size ≤ dx := Nat.le_trans (by rw [Heap.size_push, Heap.size_push]; exact Nat.le_succ_of_le (Nat.le_succ _)) hd
    have kk2 : ∀ b o, hp.get? b = some o → h'.get? b = some o := fun b o z => k b o (fun e => by
      have q := Heap.lt_size z
      rw [e] at q
      exact absurd (Nat.lt_of_lt_of_le q (Nat.le_succ _)) (Nat.lt_irrefl _)) (kp b o z)
    have rl : ∀ z, RelO (([(f, y), (f2, y2)] : List (Str × V)).lookup z) _ := fun z => by
      have sw : ∀ z, ([(f, y), (f2, y2)] : List (Str × V)).lookup z = ([(f2, y2), (f, y)] : List (Str × V)).lookup z := fun z => by
        rw [lookup_put, lookup_put, lookup_put, lookup_put]
        by_cases h1 : z = f
        · have h2 : z ≠ f2 := fun e => hnf (e.symm.trans h1)
          rw [if_pos h1, if_neg h2, if_pos h1]
        · rw [if_neg h1, if_neg h1]
      rw [sw]
      exact relO_put (fs := [(f, y)]) (mA := fun z => if z = f then some v else none) rv2 (fun g => relO_put (fs := []) (mA := fun _ => none) rv (fun g => True.intro) g) z
    exact h (hp.objs.size + 1) dx _ (I.hok.fresh (Nat.le_succ _)) (I.hok.fresh hd2) ne (inv_err (s := ⟨hp, g, d, t, os⟩) (tk := tk) I (Nat.le_succ _) hd2 ne kk2 ex hn rl) (rdy_err (s := ⟨hp, g, d, t, os⟩) (tk := tk) I (Nat.le_succ _) hd2 ne kk2 ex hn rl)
end
end Er

set_option Elab.async false
set_option linter.all false
set_option maxRecDepth 100000
set_option maxHeartbeats 4000000
/-! Er6: errors as data: made, read, asked of their classes. -/
namespace Er
open PySem PySem.Spec PyProof.Rows L2 Dat
/-! ### the message's text -/
section
variable {X : Cx} {pins : List (Addr × Obj)} {σ : L2.St} {H : Hp} {s : Shared} {qual : Str} {scope : Scope} {fI cda cc : Addr} {m : Str} {j : Nat} {p p' p2 p3 : Pos} {mm : Addr → Str → Option Value}
theorem made_str : MadeAll X s qual scope fI cda cc (.Constant (.str m) j p) mm := fun A L x s1 _ _ _ E s2 n k Q' hQ' => Calls.Constant_str (hQ' _ _ _ fun _ _ e => e)
/-- a value put into a text -/
theorem fmt_any {A : Around} {E : Value → Shared → Prop} {s2 : Shared} {d : Dt} {y : V} {v : Value} {Q : Value → Shared → Prop} (I : Inv X pins σ H s) (hg : A.guards = some []) (hu : A.units + 100 < cLine) (q : Dq H y d) (rv : RelV y v) (hd : Shown d) (hl : ∀ z, d = .str z → z.length ≤ 16000000) (hi : ∀ i, d = .int i → i.natAbs.log2 < 1920) (hz : (toPy d).shown.length ≤ 16000000)
    (kp : ∀ b o, s.heap.get? b = some o → s2.heap.get? b = some o) (h : ∀ z t h' tk, z.length ≤ 16000000 → (∀ b o, s2.heap.get? b = some o → h'.get? b = some o) → Q (.str z t) { s2 with heap := h', toks := tk }) :
    wpAny (model X.prog X.w) A (formatField v Str.empty) Q E s2 := by
  have obj : ∀ a, v = .ref a → wpAny (model X.prog X.w) A (formatField v Str.empty) Q E s2 := fun a e => by
    obtain ⟨as, rd, hm⟩ := Dq.reads I d _ v q hd.plain rv
    subst e
    have hdp := hd.deep
    exact formatField_of_reads rd hd.shows (fun z => hm (hd.one z)) hg (by omega) kp (fun h' u tk k => h _ _ h' tk hz k) hd.len
  cases d with
  | non => cases q; cases rv; exact wpAny_formatField_none (h _ _ s2.heap _ (by decide) fun _ _ e => e)
  | bl b => cases q; cases rv; exact wpAny_formatField_bool (h _ _ s2.heap _ (by cases b <;> decide) fun _ _ e => e)
  | int i =>
    cases q
    obtain ⟨t, rfl⟩ := rv
    exact wpAny_formatField_int (hi i rfl) (h _ _ s2.heap _ hz fun _ _ e => e)
  | str z =>
    cases q
    obtain ⟨t, rfl⟩ := rv
    exact wpAny_formatField_str (h z _ s2.heap _ (hl z rfl) fun _ _ e => e) (h z _ s2.heap _ (hl z rfl) fun _ _ e => e) (Nat.le_trans (hl z rfl) (by decide))
  | lst _ => cases q; exact obj _ rv
  | tup _ => cases q; exact obj _ rv
  | dic _ _ => cases q; exact obj _ rv
  | mix _ _ _ => cases q; exact obj _ rv
  | obj _ _ _ => cases q; exact obj _ rv
  | err _ _ _ => cases q <;> exact obj _ rv
end
end Er

set_option Elab.async false
set_option linter.all false
set_option maxRecDepth 100000
set_option maxHeartbeats 4000000
/-! Er7: errors as data: made by places or keywords, their fields read, their classes asked. -/
namespace Er
open PySem PySem.Spec PyProof.Rows L2 Dat
/-! ### the promise of a class -/
/-- by places or by keywords a call of the class at C gives an error with these fields -/
def MkE (P : Program) (w : World) (K : PySem.W.Frag) (mg : Str → Option Value) (C : Addr) (ns : List Str) (ok : List Dt → Prop) (sh : List Value → List Value → List (Str × Value) → Prop) : Prop :=
  ∀ (X : Cx), X.prog = P → X.w = w → X.K = K → X.mg = mg → ∀ (pins : List (Addr × Obj)) (σ : L2.St) (H : Hp) (s : Shared), Inv X pins σ H s → Room 2 X.A → X.A.guards = some [] → ∀ (ys : List V) (vs : List Value) (ds : List Dt), Vals ys vs → DqA H ys ds → ok ds →
    ∀ (us : List Value) (kw : List (Str × Value)), sh vs us kw → ∀ Q : Value → Shared → Prop,
      (∀ x dx s' fs, H x = none → H dx = none → dx ≠ x → fs.map (·.1) = ns → fs.map (·.2) = ys → Inv X pins σ (upd (upd H dx (exd dx fs)) x (exo x C (some dx))) s' → Rdy X pins σ H C x dx fs s' → Q (.ref x) s') → wpAny (model X.prog X.w) X.A (call (.ref C) us kw) Q X.xe s
/-- the same of a class without fields, made of one text -/
def MkT (P : Program) (w : World) (K : PySem.W.Frag) (mg : Str → Option Value) (C : Addr) : Prop :=
  ∀ (X : Cx), X.prog = P → X.w = w → X.K = K → X.mg = mg → ∀ (pins : List (Addr × Obj)) (σ : L2.St) (H : Hp) (s : Shared), Inv X pins σ H s → ∀ (v : Value), ∀ Q : Value → Shared → Prop, (∀ x s', H x = none → Inv X pins σ (upd H x (exo x C none)) s' → Q (.ref x) s') → wpAny (model X.prog X.w) X.A (call (.ref C) [v]) Q X.xe s
theorem mkt_of {P : Program} {w : World} {K : PySem.W.Frag} {mg : Str → Option Value} {C : Addr} {bmB : List Value} {B newId initId : String} (F : ExcBaseFacts B newId initId bmB) (q : PySem.W.excIn K C bmB newId = true) : MkT P w K mg C := by
  intro X e1 e2 e3 e4 pins σ H s I v Q h
  subst e3
  obtain ⟨bm, N, nm, qn, bs, hdct, sn, sub, ab, col, dd, k0, k1, k2, k3, k5, mN, hC, hN, hni, T⟩ := exc_obj I.kIn q
  obtain ⟨hp, g, d, t, os⟩ := s
  refine wpAny_call_exc_subT F T hC hN hni (fun h' a hm => ?_) (by show 1 ≤ sizeLine; rw [sizeLine_eq]; omega)
  have hn : H a = none := I.hok.gone hm.new
  obtain ⟨t1, ht, _, _⟩ := hm.there
  refine h a _ hn ?_
  exact I.un (t' := t) { keep := fun b o q _ _ _ => hm.keeps b o q, slot := fun b o q _ _ _ => ⟨o.slots, hm.keeps b o q⟩
                         free := fun b o q n _ => by rw [upd_ne (fun z => by rw [z, hm.new] at q; cases q)]; exact n
                         there := fun b o q _ => ⟨o, hm.keeps b o q⟩, tups := fun b xs q => by rw [upd_ne (ne_of_none q hn)]; exact q, frzs := fun b o u q => by rw [upd_ne (ne_of_none q hn)]; exact q
                         tbls := fun b ps q => ⟨#[], by rw [upd_ne (ne_of_none q hn), q]; simp⟩ } fun b o q => by
    by_cases hb : b = a
    · subst hb
      rw [upd_same] at q
      cases q
      exact exo_ok ht
    · rw [upd_ne hb] at q
      exact (I.hok b o q).stay (fun c v _ z => hm.keeps c v z) (fun c hc => by rw [upd_ne (ne_of_none hc hn)]; exact hc) (fun c xs hc => by rw [upd_ne (ne_of_none hc hn)]; exact hc)
/-- one value, by its place or by its name -/
def sh1 (f : Str) : List Value → List Value → List (Str × Value) → Prop := fun vs us kw => ∃ v, vs = [v] ∧ ((us = [v] ∧ kw = []) ∨ (us = [] ∧ kw = [(f, v)]))
/-- two, the names the other way about -/
def sh2 (f f2 : Str) : List Value → List Value → List (Str × Value) → Prop := fun vs us kw => ∃ v v2, vs = [v, v2] ∧ ((us = [v, v2] ∧ kw = []) ∨ (us = [] ∧ kw = [(f2, v2), (f, v)]))
/-! ### at data -/
theorem SInv.err {w : Wd} {B H : Hp} {μ : Mus} {x dx C : Addr} {fs : List (Str × V)} {ds : List Dt} (I : SInv w B H μ) (hx : H x = none) (hd : H dx = none) (ne : dx ≠ x) (q : DqA B (fs.map (·.2)) ds) :
    ∃ B', SInv w B' (upd (upd H dx (exd dx fs)) x (exo x C (some dx))) μ ∧ Ex B B' ∧ Dq B' (.ref x) (.err C (fs.map (·.1)) ds) := by
  have I1 := I.new hd (exd dx fs)
  have hx1 : upd H dx (exd dx fs) x = none := by rw [upd_ne (Ne.symm ne)]; exact hx
  have I2 := I1.new hx1 (exo x C (some dx))
  have e1 := Ex.new (o := exd dx fs) (I.free hd).1
  have e2 := Ex.new (o := exo x C (some dx)) (I1.free hx1).1
  exact ⟨_, I2, e1.trans e2, .err upd_same (by rw [upd_ne ne, upd_same]) ((q.mono e1).mono e2)⟩
theorem SInv.err0 {w : Wd} {B H : Hp} {μ : Mus} {x C : Addr} (I : SInv w B H μ) (hx : H x = none) : ∃ B', SInv w B' (upd H x (exo x C none)) μ ∧ Ex B B' ∧ Dq B' (.ref x) (.err C [] []) :=
  ⟨_, I.new hx _, Ex.new (I.free hx).1, .err0 upd_same⟩
section
variable {X : Cx} {w : Wd} {ρ : List SV} {μ : Mus} {R : SV → Mus → Prop} {e e1 e2 : Expr} {es : List Expr} {x f f2 : Str} {p pos k1 k2 : Pos} {C : Addr} {ns : List Str} {ok : List Dt → Prop}
/-- C(e, ..) by places -/
theorem de_err {sh : List Value → List Value → List (Str × Value) → Prop} (M : MkE X.prog X.w X.K X.mg C ns ok sh) (hsh : ∀ vs, vs.length = ns.length → sh vs vs []) (hr : Room 2 X.A) (hgd : X.A.guards = some []) (hm : X.mg x = some (.ref C)) (hk : PySem.W.keepIn X.K (.ref C) = true)
    (ha : DA X w (e :: es) ρ μ fun rs μ1 => ∃ ds, undat rs = some ds ∧ ds.length = ns.length ∧ ok ds ∧ R (.dat (.err C ns ds)) μ1) (hg : Gl X x := by rfl) (hdb : (x == ("__debug__" : Str)) = false := by decide)
    (he : starEach (e :: es) X.env = (false, eval e X.env) :: starEach es X.env := by rfl) (hpl : (backTo pos (starEach es X.env)).any (·.1) = false := by rfl) : DE X w (.Call (.Name x p) (e :: es) [] pos) ρ μ R := fun σ B H S I Q kk pins s J => by
  refine wpAny_Call_Name_kw (ld_glob J hg hm ?_ hdb)
  refine PySem.W.callWith_K (h₀ := X.base) J.ok.mod.kin hk (thn ((pa_self (X := X) (es := e :: es)).run pos pins s σ H _ J (ha σ B H S I
    (fun vs H1 => ∀ us s1, Inv X pins σ H1 s1 → Vals vs us → wpAny (model X.prog X.w) X.A (call (.ref C) us) (EP X pins σ Q) X.xe s1) ?_)) fun us s1 ⟨vs, H1, J1, rv, q⟩ => ⟨J1.kIn, q us s1 J1 rv⟩) he hpl
  intro vs rs B1 H1 μ1 I1 e1 q1 h1 us s1 J1 rv
  obtain ⟨ds, eu, hl, hok, h1⟩ := h1
  have qd := undat_q q1 eu
  refine M X rfl rfl rfl rfl pins σ H1 s1 J1 hr hgd vs us ds rv (qd.mono I1.bh) hok us [] (hsh us (by rw [← rv.length, qd.length, hl])) _ fun a dx s' fs nx nd ne en qf J2 _ => ?_
  obtain ⟨B2, I2, ex, qe⟩ := SInv.err (C := C) I1 nx nd ne (fs := fs) (ds := ds) (by rw [qf]; exact qd)
  rw [en] at qe
  exact ⟨.ref a, _, J2, rfl, kk (.ref a) (.dat (.err C ns ds)) B2 _ μ1 I2 (e1.trans ex) qe h1⟩
/-- C(f = e) -/
theorem de_errK1 {ok : List Dt → Prop} (M : MkE X.prog X.w X.K X.mg C [f] ok (sh1 f)) (hr : Room 2 X.A) (hgd : X.A.guards = some []) (hm : X.mg x = some (.ref C)) (hk : PySem.W.keepIn X.K (.ref C) = true)
    (ha : DE X w e ρ μ fun r μ1 => ∃ d, r = .dat d ∧ ok [d] ∧ R (.dat (.err C [f] [d])) μ1) (hg : Gl X x := by rfl) (hdb : (x == ("__debug__" : Str)) = false := by decide)
    (hall : (backToKw pos (keywordEach [⟨some f, e, k1⟩] X.env)).all (·.1.isSome) = true := by rfl) (hks : (backToKw pos (keywordEach [⟨some f, e, k1⟩] X.env)).filterMap (·.1) = [f] := by rfl)
    (hpl : ((backTo pos (starEach [] X.env)).any (·.1) || (backToKw pos (keywordEach [⟨some f, e, k1⟩] X.env)).any (·.1.isNone)) = false := by rfl) : DE X w (.Call (.Name x p) [] [⟨some f, e, k1⟩] pos) ρ μ R := fun σ B H S I Q kk pins s J => by
  refine wpAny_Call_Name_kw (ld_glob J hg hm ?_ hdb)
  refine PySem.W.callWith_KW0 (h₀ := X.base) J.ok.mod.kin hk hall ?_ hpl
  refine thn ((pk_cons (nm := some f) (kpos := k1) pe_self pk_nil).run pos pins s σ H (fun vs H1 => ∀ us s1, Inv X pins σ H1 s1 → Vals vs us → wpAny (model X.prog X.w) X.A (call (.ref C) ([] ++ []) ([f].zip us)) (EP X pins σ Q) X.xe s1) J ?_) fun us s1 ⟨vs, H1, J1, rv, q⟩ => ⟨J1.kIn, ?_⟩
  · refine ha σ B H S I _ fun v r B1 H1 μ1 I1 e1 q1 h1 => ?_
    intro us s1 J1 rv
    obtain ⟨d, rfl, hok, h1⟩ := h1
    obtain ⟨u, rfl, r1⟩ := vals1 rv
    refine M X rfl rfl rfl rfl pins σ H1 s1 J1 hr hgd [v] [u] [d] rv (.one (Dq.mono I1.bh q1)) hok [] [(f, u)] ⟨u, rfl, .inr ⟨rfl, rfl⟩⟩ _ fun a dx s' fs nx nd ne en qf J2 _ => ?_
    obtain ⟨B2, I2, ex, qe⟩ := SInv.err (C := C) I1 nx nd ne (fs := fs) (ds := [d]) (by rw [qf]; exact .one q1)
    rw [en] at qe
    exact ⟨.ref a, _, J2, rfl, kk (.ref a) (.dat (.err C [f] [d])) B2 _ μ1 I2 (e1.trans ex) qe h1⟩
  · rw [hks]
    exact q us s1 J1 rv
/-- C(f2 = e2, f = e1) -/
theorem de_errK2 {ok : List Dt → Prop} (M : MkE X.prog X.w X.K X.mg C [f, f2] ok (sh2 f f2)) (hr : Room 2 X.A) (hgd : X.A.guards = some []) (hm : X.mg x = some (.ref C)) (hk : PySem.W.keepIn X.K (.ref C) = true)
    (ha : DE X w e2 ρ μ fun r2 μ1 => DE X w e1 ρ μ1 fun r μ2 => ∃ d d2, r = .dat d ∧ r2 = .dat d2 ∧ ok [d, d2] ∧ R (.dat (.err C [f, f2] [d, d2])) μ2) (hg : Gl X x := by rfl) (hdb : (x == ("__debug__" : Str)) = false := by decide)
    (hall : (backToKw pos (keywordEach [⟨some f2, e2, k1⟩, ⟨some f, e1, k2⟩] X.env)).all (·.1.isSome) = true := by rfl) (hks : (backToKw pos (keywordEach [⟨some f2, e2, k1⟩, ⟨some f, e1, k2⟩] X.env)).filterMap (·.1) = [f2, f] := by rfl)
    (hpl : ((backTo pos (starEach [] X.env)).any (·.1) || (backToKw pos (keywordEach [⟨some f2, e2, k1⟩, ⟨some f, e1, k2⟩] X.env)).any (·.1.isNone)) = false := by rfl) : DE X w (.Call (.Name x p) [] [⟨some f2, e2, k1⟩, ⟨some f, e1, k2⟩] pos) ρ μ R := fun σ B H S I Q kk pins s J => by
  refine wpAny_Call_Name_kw (ld_glob J hg hm ?_ hdb)
  refine PySem.W.callWith_KW0 (h₀ := X.base) J.ok.mod.kin hk hall ?_ hpl
  refine thn ((pk_cons (nm := some f2) (kpos := k1) pe_self (pk_cons (nm := some f) (kpos := k2) pe_self pk_nil)).run pos pins s σ H (fun vs H1 => ∀ us s1, Inv X pins σ H1 s1 → Vals vs us → wpAny (model X.prog X.w) X.A (call (.ref C) ([] ++ []) ([f2, f].zip us)) (EP X pins σ Q) X.xe s1) J ?_) fun us s1 ⟨vs, H1, J1, rv, q⟩ => ⟨J1.kIn, ?_⟩
  · refine ha σ B H S I _ fun v2 r2 B0 H0 μ0 I0 e0 q0 h0 => ?_
    refine h0 σ B0 H0 (S.mono e0) I0 _ fun v r B1 H1 μ1 I1 ex1 q1 h1 => ?_
    intro us s1 J1 rv
    obtain ⟨d, d2, rfl, rfl, hok, h1⟩ := h1
    obtain ⟨u2, u, rfl, r2, r1⟩ := vals2 rv
    have q2 : Dq B1 v2 d2 := Dq.mono ex1 q0
    refine M X rfl rfl rfl rfl pins σ H1 s1 J1 hr hgd [v, v2] [u, u2] [d, d2] (.cons r1 (.cons r2 .nil)) (.cons (Dq.mono I1.bh q1) (.one (q2.mono I1.bh))) hok [] [(f2, u2), (f, u)] ⟨u, u2, rfl, .inr ⟨rfl, rfl⟩⟩ _ fun a dx s' fs nx nd ne en qf J2 _ => ?_
    obtain ⟨B2, I2, ex, qe⟩ := SInv.err (C := C) I1 nx nd ne (fs := fs) (ds := [d, d2]) (by rw [qf]; exact .cons q1 (.one q2))
    rw [en] at qe
    exact ⟨.ref a, _, J2, rfl, kk (.ref a) (.dat (.err C [f, f2] [d, d2])) B2 _ μ1 I2 ((e0.trans ex1).trans ex) qe h1⟩
  · rw [hks]
    exact q us s1 J1 rv
/-- C(e), C without fields -/
theorem de_errT (M : MkT X.prog X.w X.K X.mg C) (hm : X.mg x = some (.ref C)) (hk : PySem.W.keepIn X.K (.ref C) = true) (ha : DE X w e ρ μ fun r μ1 => R (.dat (.err C [] [])) μ1) (hg : Gl X x := by rfl) (hdb : (x == ("__debug__" : Str)) = false := by decide)
    (he : starEach [e] X.env = (false, eval e X.env) :: starEach [] X.env := by rfl) (hpl : (backTo pos (starEach [] X.env)).any (·.1) = false := by rfl) : DE X w (.Call (.Name x p) [e] [] pos) ρ μ R := fun σ B H S I Q kk pins s J => by
  refine wpAny_Call_Name_kw (ld_glob J hg hm ?_ hdb)
  refine PySem.W.callWith_K (h₀ := X.base) J.ok.mod.kin hk (thn ((pa_self (X := X) (es := [e])).run pos pins s σ H
    (fun vs H1 => ∀ us s1, Inv X pins σ H1 s1 → Vals vs us → wpAny (model X.prog X.w) X.A (call (.ref C) us) (EP X pins σ Q) X.xe s1) J ?_) fun us s1 ⟨vs, H1, J1, rv, q⟩ => ⟨J1.kIn, q us s1 J1 rv⟩) he hpl
  refine tL_of (pa_cons pe_self pa_nil he) (ha σ B H S I _ fun v r B1 H1 μ1 I1 e1 q1 h1 => ?_)
  intro us s1 J1 rv
  obtain ⟨u, rfl, r1⟩ := vals1 rv
  refine M X rfl rfl rfl rfl pins σ H1 s1 J1 u _ fun a s' nx J2 => ?_
  obtain ⟨B2, I2, ex, qe⟩ := SInv.err0 (C := C) I1 nx
  exact ⟨.ref a, _, J2, rfl, kk (.ref a) (.dat (.err C [] [])) B2 _ μ1 I2 (e1.trans ex) qe h1⟩
/-! ### read -/
theorem de_efld {o : Expr} (ho : DE X w o ρ μ fun r μ1 => ∃ C ns ds d, r = .dat (.err C ns ds) ∧ XfC X.K C ∧ PySem.W.findIn X.K (.ref C) f = some none ∧ (ns.zip ds).lookup f = some d ∧ R (.dat d) μ1) (hb : attributeBase o f X.env (eval o X.env) = eval o X.env := by rfl) : DE X w (.Attribute o f pos) ρ μ R := fun σ B H S I Q k pins s J => by
  refine attr_of hb (thn ((pe_self (X := X) (e := o)).run pins s σ H (fun v H1 => ∃ a dx C fs v2, v = .ref a ∧ H1 a = some (exo a C (some dx)) ∧ H1 dx = some (exd dx fs) ∧ XfC X.K C ∧ PySem.W.findIn X.K (.ref C) f = some none ∧ fs.lookup f = some v2 ∧ Q v2 H1) J ?_) fun u s1 ⟨v, H1, J1, rx, a, dx, C, fs, v2, ev, ea, ed, T, hno, l, q⟩ => ?_)
  · refine ho σ B H S I _ fun v r B1 H1 μ1 I1 e1 q1 h1 => ?_
    obtain ⟨C, ns, ds, d, rfl, T, hno, l, h1⟩ := h1
    cases q1 with
    | @err a C dx fs ds ha hd hx =>
      obtain ⟨v2, l2, q2⟩ := fs_at hx l
      exact ⟨a, dx, C, fs, v2, rfl, I1.bh _ _ ha, I1.bh _ _ hd, T, hno, l2, k v2 (.dat d) B1 H1 μ1 I1 e1 q2 h1⟩
    | err0 ha => simp at l
  · subst ev
    obtain rfl : u = Value.ref a := rx
    obtain ⟨t1, ho⟩ := exo_at J1.hok ea
    obtain ⟨mA, hns, hr⟩ := exd_at J1.hok ed
    obtain ⟨od, hod, hl⟩ := lookIn_ns hns
    obtain ⟨u, hu, ru⟩ := RelO.some_of (v := v2) (o := mA f) (by rw [← l]; exact hr f)
    have J2 : PySem.W.InstAt s1.heap a (exD C t1 dx) C (some od) := ⟨ho, rfl, rfl, hod⟩
    exact HandSPX.exc_get J1.kIn J2 T.ga T.gg T.exC (PySem.W.findObj_own T.hdC hno rfl (by rw [hl, hu])) (handed_of ru) ⟨v2, H1, J1.tok _, ru, q⟩
/-! ### asked of its class -/
structure IsC (K : PySem.W.Frag) (C : Addr) : Prop where
  cl : (PySem.W.clsIn K C).isSome = true
  ga : PySem.W.findIn K (.ref C) "__getattribute__" = some (some (.builtin "BaseException.__getattribute__"))
  gt : PySem.W.findIn K (.ref C) "__getattr__" = some none
  sub : PySem.W.subIn K (.ref C) (.type "BaseException") = some true
  ac : PySem.W.findIn K (.ref C) "__class__" = some (some (.builtin "object.__class__"))
  sp : PySem.W.specialIn K (.builtin "object.__class__") "__get__" = some (some (.builtin "getset_descriptor.__get__"))
  tk : PySem.W.takesIn K (.builtin "object.__class__") = some true
  mo : PySem.W.mroIn K C (.type "object") = some true
theorem kit_err {pins : List (Addr × Obj)} {σ : L2.St} {H B : Hp} {s : Shared} {v : V} {u : Value} {ns : List Str} {ds : List Dt} (T : IsC X.K C) (J : Inv X pins σ H s) (e : Ex B H) (q : Dq B v (.err C ns ds)) (r : RelV v u) : ∃ P : Heap → Prop, PySem.W.KitX X.K u (.ref C) P ∧ P s.heap ∧ u ≠ .builtin "__main__.__loader__#opaque" := by
  cases q with
  | @err a C dx fs ds ha hd hx =>
    obtain rfl : u = Value.ref a := r
    obtain ⟨t1, ho⟩ := exo_at J.hok (e _ _ ha)
    obtain ⟨mA, hns, hr⟩ := exd_at J.hok (e _ _ hd)
    obtain ⟨od, hod, hl⟩ := lookIn_ns hns
    exact ⟨_, PySem.W.kitx_exc (od := some od) (ox := exD C t1 dx) T.cl T.ga T.gt T.sub T.ac T.sp T.tk T.mo, ⟨ho, rfl, rfl, hod⟩, fun z => nomatch z⟩
  | @err0 a C ha =>
    obtain rfl : u = Value.ref a := r
    obtain ⟨t1, ho⟩ := exo_at J.hok (e _ _ ha)
    exact ⟨_, PySem.W.kitx_exc (od := none) (ox := PX.excO C t1) T.cl T.ga T.gt T.sub T.ac T.sp T.tk T.mo, ⟨ho, rfl, rfl, trivial⟩, fun z => nomatch z⟩
theorem ca_isErr {ns : List Str} {ds : List Dt} {t : SV} {cv : Value} {b : Bool} (T : IsC X.K C) (ht : (∃ n, t = .ty n ∧ cv = .type n) ∨ (∃ c, t = .at c ∧ cv = .ref c)) (hk : PySem.W.kitOne X.K (.ref C) cv = some b) (h : R (.dat (.bl b)) μ) : CaD X w (.builtin "isinstance") [.dat (.err C ns ds), t] μ R := fun B H vs I q Q kk pins s σ us J r => by
  obtain ⟨v1, v2, rfl, q1, q2⟩ := q.two
  obtain ⟨u1, u2, rfl, r1, r2⟩ := vals2 r
  obtain ⟨P, Z, pp, hx⟩ := kit_err T J I.bh q1 r1
  have e2 : u2 = cv := by
    rcases ht with ⟨n, rfl, rfl⟩ | ⟨c, rfl, rfl⟩
    · cases (show v2 = V.ty n from q2); exact r2
    · cases (show v2 = V.ref c from q2); exact r2
  subst e2
  exact PySem.W.kia_one Z J.kIn pp hk hx fun tk => ⟨.bl b, H, J.tok tk, rfl, kk (.bl b) (.dat (.bl b)) B H μ I (Ex.refl B) (Dq.bl _) h⟩
theorem ty_vals : ∀ (ts : List String) (its : List Value), Vals (ts.map V.ty) its → its = ts.map Value.type
  | [], _, rv => by cases rv; rfl
  | n :: ts, _, rv => by
    cases rv with
    | @cons _ u _ us a b => rw [ty_vals ts us b, show u = Value.type n from a]; rfl
theorem ca_isErrT {ns : List Str} {ds : List Dt} {ts : List String} {b : Bool} (T : IsC X.K C) (hk : PySem.W.kitAny X.K (.ref C) (ts.map Value.type) = some b) (h : R (.dat (.bl b)) μ) : CaD X w (.builtin "isinstance") [.dat (.err C ns ds), .tys ts] μ R := fun B H vs I q Q kk pins s σ us J r => by
  obtain ⟨v1, v2, rfl, q1, q2⟩ := q.two
  obtain ⟨u1, u2, rfl, r1, r2⟩ := vals2 r
  obtain ⟨P, Z, pp, hx⟩ := kit_err T J I.bh q1 r1
  obtain ⟨a, rfl, hT⟩ := q2
  obtain rfl : u2 = Value.ref a := r2
  obtain ⟨_, its, rv, o, h1, h2, n, h3⟩ := (show ObjOk X.prog X.w H s.heap a (.tup (ts.map V.ty)) from J.hok a _ (I.bh _ _ hT))
  have ei : its = ts.map Value.type := ty_vals _ _ rv
  subst ei
  obtain ⟨oc, od, oda, osl⟩ := o
  dsimp only at h2 h3
  subst h2 h3
  exact PySem.W.kia_tup Z J.kIn pp h1 hk hx fun tk => ⟨.bl b, H, J.tok tk, rfl, kk (.bl b) (.dat (.bl b)) B H μ I (Ex.refl B) (Dq.bl _) h⟩
/-- (A, B), classes of Python's own -/
theorem de_tys {x1} {n1 n2 : String} (h : DA X w es ρ μ fun rs μ1 => rs = [.ty n1, .ty n2] ∧ R (.tys [n1, n2]) μ1) : DE X w (.Tuple es x1 pos) ρ μ R := fun σ B H S I Q k =>
  tE_of (pe_tup pa_self) (h σ B H S I _ fun vs rs B1 H1 μ1 I1 e1 q1 h1 => by
    obtain ⟨rfl, h1⟩ := h1
    obtain ⟨v1, v2, rfl, a1, a2⟩ := q1.two
    cases (show v1 = V.ty n1 from a1)
    cases (show v2 = V.ty n2 from a2)
    exact ⟨by show 2 ≤ sizeLine; decide, fun p hp => k (.ref p) (.tys [n1, n2]) _ _ μ1 (I1.new hp _) (e1.trans (Ex.new (I1.free hp).1)) ⟨p, rfl, upd_same⟩ h1⟩)
end
end Er

set_option Elab.async false
set_option linter.all false
set_option maxRecDepth 100000
set_option maxHeartbeats 4000000
/-! Er8: the promise of an error's class from what stands in the written part. -/
namespace Er
open PySem PySem.Spec PyProof.Rows L2 Dat
structure FmtOk (d : Dt) : Prop where
  sh : Shown d
  st : ∀ z, d = .str z → z.length ≤ 16000000
  it : ∀ i, d = .int i → i.natAbs.log2 < 1920
  ln : (toPy d).shown.length ≤ 16000000
section
variable {X : Cx} {pins : List (Addr × Obj)} {σ : L2.St} {H : Hp} {s : Shared} {qual : Str} {scope : Scope} {fI cda cc : Addr} {m f : Str} {j : Nat} {p p' p2 p3 : Pos} {mm : Addr → Str → Option Value} {y : V} {v : Value} {d : Dt}
theorem made_fmt (I : Inv X pins σ H s) (q : Dq H y d) (rv : RelV y v) (ok : FmtOk d) (hk : scope.kind = .function) (hkf : scope.names.lookup f = some .local) (hfd : (f == ("__debug__" : Str)) = false) (hml : m.length ≤ 100) (hmm : ∀ x, mm x f = some v) :
    MadeAll X s qual scope fI cda cc (.JoinedStr [.Constant (.str m) j p, .FormattedValue (.Name f p') (-1) none p2] p3) mm := fun A L x s1 hg hu kp E s2 n k Q' hQ' => by
  refine wpAny_JoinedStr ?_
  have e0 : ∀ env, evalEach [.Constant (.str m) j p, .FormattedValue (.Name f p') (-1) none p2] env = [eval (.Constant (.str m) j p) env, eval (.FormattedValue (.Name f p') (-1) none p2) env] := fun env => by first | rfl | simp [evalEach]
  rw [e0]
  have lm : (Str.empty ++ m).length = m.length := by rw [Str.length_append]; exact Nat.zero_add _
  refine Calls.Constant_str ⟨m, _, rfl, by rw [lm]; exact Nat.le_trans hml (by decide), ?_⟩
  refine wpAny_FormattedValue_plain (wpAny_Name (wpAny_loadName_local hk hkf n (hmm x) (fmt_any (s2 := { s2 with toks := s2.toks + 1 }) I hg hu q rv ok.sh ok.st ok.it ok.ln (fun b o z => k _ _ (kp b o z)) fun z t h' tk hz kp2 => ⟨z, t, rfl, ?_, ?_, hQ' _ h' _ kp2⟩)) hfd)
  · rw [Str.length_append, lm]
    exact Nat.le_trans (Nat.add_le_add hml hz) (by decide)
  · rw [Str.length_append, lm]
    exact Nat.le_trans (Nat.add_le_add hml hz) (by decide)
end
section
variable {P : Program} {wd : World} {K : PySem.W.Frag} {mg : Str → Option Value} {C cda cc fI : Addr} {B i newId B2 BN iN : String} {bmB bmC bN : List Value} {qual : Str} {params : Arguments} {body : List Stmt} {scope : Scope} {p0 p1 p2 p3 p4 q1 q2 q3 q4 r1 r2 r3 r4 a1 a2 a3 a4 : Pos} {e : Expr} {f f2 m : Str} {j : Nat}
theorem mke_one (FN : ExcBaseFacts BN newId iN bN) (F : IniF B i) (T : ClsE K C bmC BN B i newId) (SF : StoreFacts B2 bmB "object.__setattr__" "object") (S : StE K C bmB) (FI : FnI P K C fI cda cc qual params body scope)
    (hi : PySem.W.findIn K (.ref C) "__init__" = some (some (.ref fI))) (tI : PySem.W.typeIn K (.ref fI) = some (.type "function")) (hm : mg "super" = none)
    (hb : body = [.Expr (.Call (.Attribute (.Call (.Name "super" p0) [] [] p1) "__init__" p2) [.Constant (.str m) j a1] [] p3) p4, .Assign [.Attribute (.Name "self" q1) f q2] (.Name f q3) q4])
    (hsy : ∀ L, Syn (PySem.W.ksEnv qual scope L fI (.ref cda) cc) (.Constant (.str m) j a1) p0 p1 p2 p3 p4) (hsw : ∀ L, swapsWith (.Name f q3) (some (.Attribute (.Name "self" q1) f q2)) q4.line (PySem.W.ksEnv qual scope L fI (.ref cda) cc) = pure false)
    (hkf : scope.names.lookup f = some .local) (hfd : (f == ("__debug__" : Str)) = false) (hne : ("self" : Str) ≠ f) (ht : PySem.W.takerIn K C f = some none)
    (bP : ∀ (x : Addr) (v kV doc pm : Value) (an : Option Addr) (ct : Value), bindArgs (PySem.W.ksFn "__init__" qual params body scope .none kV doc pm an (.ref cda) ct cc) ⟨[.ref x, v], []⟩ = pure [(("self" : Str), .ref x), (f, v)])
    (bK : ∀ (x : Addr) (v kV doc pm : Value) (an : Option Addr) (ct : Value), bindArgs (PySem.W.ksFn "__init__" qual params body scope .none kV doc pm an (.ref cda) ct cc) ⟨[.ref x], [(f, v)]⟩ = pure [(("self" : Str), .ref x), (f, v)]) : MkE P wd K mg C [f] (fun _ => True) (sh1 f) := by
  intro X g1 g2 g3 g4 pins σ H s I hr hgd ys vs ds rv q ok us kw hsh Q h
  subst g1 g2 g3 g4
  obtain ⟨v, rfl, hu⟩ := hsh
  cases rv with
  | @cons y _ _ _ ry rn =>
    cases rn
    refine err_one (us := us) (kw := kw) (v := v) I hr hgd FN F T SF S FI hi tI hb hsy hsw hkf hfd hne ht hm (by rcases hu with ⟨rfl, _⟩ | ⟨rfl, _⟩ <;> (simp only [List.length_cons, List.length_nil, sizeLine_eq]; omega)) ry (fun s1 x kV doc pm an ct _ => ?_) made_str fun x dx s' nx nd ne J Rz => h x dx s' [(f, y)] nx nd ne rfl rfl J Rz
    rcases hu with ⟨rfl, rfl⟩ | ⟨rfl, rfl⟩
    · exact .of_eq (bP _ _ _ _ _ _ _)
    · exact .of_eq (bK _ _ _ _ _ _ _)
theorem mke_two (FN : ExcBaseFacts BN newId iN bN) (F : IniF B i) (T : ClsE K C bmC BN B i newId) (SF : StoreFacts B2 bmB "object.__setattr__" "object") (S : StE K C bmB) (FI : FnI P K C fI cda cc qual params body scope)
    (hi : PySem.W.findIn K (.ref C) "__init__" = some (some (.ref fI))) (tI : PySem.W.typeIn K (.ref fI) = some (.type "function")) (hm : mg "super" = none)
    (hb : body = [.Expr (.Call (.Attribute (.Call (.Name "super" p0) [] [] p1) "__init__" p2) [.JoinedStr [.Constant (.str m) j a1, .FormattedValue (.Name f a2) (-1) none a3] a4] [] p3) p4, .Assign [.Attribute (.Name "self" q1) f q2] (.Name f q3) q4, .Assign [.Attribute (.Name "self" r1) f2 r2] (.Name f2 r3) r4])
    (hsy : ∀ L, Syn (PySem.W.ksEnv qual scope L fI (.ref cda) cc) (.JoinedStr [.Constant (.str m) j a1, .FormattedValue (.Name f a2) (-1) none a3] a4) p0 p1 p2 p3 p4) (hsw : ∀ L, swapsWith (.Name f q3) (some (.Attribute (.Name "self" q1) f q2)) q4.line (PySem.W.ksEnv qual scope L fI (.ref cda) cc) = pure false)
    (hsw2 : ∀ L, swapsWith (.Name f2 r3) (some (.Attribute (.Name "self" r1) f2 r2)) r4.line (PySem.W.ksEnv qual scope L fI (.ref cda) cc) = pure false) (hkf2 : scope.names.lookup f2 = some .local) (hfd2 : (f2 == ("__debug__" : Str)) = false) (hne2 : ("self" : Str) ≠ f2) (ht2 : PySem.W.takerIn K C f2 = some none) (hnf : f2 ≠ f)
    (hkf : scope.names.lookup f = some .local) (hfd : (f == ("__debug__" : Str)) = false) (hne : ("self" : Str) ≠ f) (ht : PySem.W.takerIn K C f = some none) (hml : m.length ≤ 100)
    (bP : ∀ (x : Addr) (v v2 kV doc pm : Value) (an : Option Addr) (ct : Value), bindArgs (PySem.W.ksFn "__init__" qual params body scope .none kV doc pm an (.ref cda) ct cc) ⟨[.ref x, v, v2], []⟩ = pure [(("self" : Str), .ref x), (f, v), (f2, v2)])
    (bK : ∀ (x : Addr) (v v2 kV doc pm : Value) (an : Option Addr) (ct : Value), bindArgs (PySem.W.ksFn "__init__" qual params body scope .none kV doc pm an (.ref cda) ct cc) ⟨[.ref x], [(f2, v2), (f, v)]⟩ = pure [(("self" : Str), .ref x), (f, v), (f2, v2)]) :
    MkE P wd K mg C [f, f2] (fun ds => ∀ d, ds[0]? = some d → FmtOk d) (sh2 f f2) := by
  intro X g1 g2 g3 g4 pins σ H s I hr hgd ys vs ds rv q ok us kw hsh Q h
  subst g1 g2 g3 g4
  obtain ⟨v, v2, rfl, hu⟩ := hsh
  cases rv with
  | @cons y _ _ _ ry rn =>
    cases rn with
    | @cons y2 _ _ _ ry2 rn =>
      cases rn
      cases q with
      | @cons _ _ d _ qd qr =>
        refine err_two (us := us) (kw := kw) (v := v) (v2 := v2) I hr hgd FN F T SF S FI hi tI hb hsy hsw hsw2 hkf2 hfd2 hne2 ht2 hnf ry2 hkf hfd hne ht hm (by rcases hu with ⟨rfl, _⟩ | ⟨rfl, _⟩ <;> (simp only [List.length_cons, List.length_nil, sizeLine_eq]; omega)) ry (fun s1 x kV doc pm an ct _ => ?_)
          (made_fmt I qd ry (ok d rfl) FI.kind hkf hfd hml fun x => ?_) fun x dx s' nx nd ne J Rz => h x dx s' [(f, y), (f2, y2)] nx nd ne rfl rfl J Rz
        · rcases hu with ⟨rfl, rfl⟩ | ⟨rfl, rfl⟩
          · exact .of_eq (bP _ _ _ _ _ _ _ _)
          · exact .of_eq (bK _ _ _ _ _ _ _ _)
        · have e1 : (f == f2) = false := beq_eq_false_iff_ne.mpr hnf.symm
          simp [List.lookup, e1]
end
end Er

set_option Elab.async false
set_option linter.all false
set_option maxRecDepth 100000
set_option maxHeartbeats 4000000
/-! Er9: comprehensions over pairs; a list times a number; a number in a list. -/
namespace Dat
open PySem PySem.Spec PyProof.Rows L2
section
variable {X : Cx} {w : Wd} {ρ : List SV} {μ : Mus} {R : SV → Mus → Prop} {elt iter : Expr} {ifs : List Expr} {scope : Scope} {pos px py pt : Pos} {x y : Str} {kk : Nat}
def LcTurn2 (X : Cx) (scope : Scope) (elt : Expr) (ifs : List Expr) (ρ : List SV) (j j2 : Nat) (J : Nat → List Dt → Mus → Prop) (n : Nat) (acc : List Dt) (d1 d2 : Dt) (μ : Mus) : Prop :=
  ∀ w' k, DQ (BX X scope k) w' ifs ((ρ.set j (.dat d1)).set j2 (.dat d2)) μ fun b μ3 => (b = true → ∀ kc, DE (BX X scope kc) w' elt ((ρ.set j (.dat d1)).set j2 (.dat d2)) μ3 fun r μ4 => ∃ d', r = .dat d' ∧ J (n + 1) (acc ++ [d']) μ4) ∧ (b = false → J (n + 1) acc μ3)
def LcAsk2 (X : Cx) (scope : Scope) (elt : Expr) (ifs : List Expr) (ρ : List SV) (j j2 : Nat) (R : SV → Mus → Prop) (items : List Dt) (μ1 : Mus) : Prop :=
  items.length ≤ 100000 ∧ ∃ J : Nat → List Dt → Mus → Prop, J 0 [] μ1 ∧ (∀ n acc d μ2, items[n]? = some d → acc.length ≤ n → J n acc μ2 → ∃ d1 d2, d = .tup [d1, d2] ∧ LcTurn2 X scope elt ifs ρ j j2 J n acc d1 d2 μ2) ∧
    ∀ acc μ', J items.length acc μ' → acc.length ≤ items.length → R (.dat (.lst acc)) μ'
abbrev tg2 (x y : Str) (px py pt : Pos) (kk : Nat) : Expr := .Tuple [.Name x px, .Name y py] kk pt
theorem wipe2 {σ : L2.St} {j j2 : Nat} (hj : j ≠ j2) (v1 v2 : Option V) : wipe (((wipe σ [j, j2]).set j v1).set j2 v2) [j, j2] = wipe σ [j, j2] := by
  show (((((σ.set j2 none).set j none).set j v1).set j2 v2).set j2 none).set j none = (σ.set j2 none).set j none
  refine List.ext_getElem? fun i => ?_
  simp only [List.getElem?_set, List.length_set]
  by_cases h1 : j = i <;> by_cases h2 : j2 = i <;> simp [h1, h2]
theorem lc_data2 {j j2 : Nat} (hj : j ≠ j2) {σ : L2.St} {B H : Hp} {Q : VK} (h : DI X w (tg2 x y px py pt kk) iter ρ μ (LcAsk2 X scope elt ifs ρ j j2 R)) (S : Sto B σ ρ) (I : SInv w B H μ) (k : Kt w B R Q) :
    tLc (tI X (tg2 x y px py pt kk) iter) (gTup X.K 2 (gCons (gName j) (gCons (gName j2) gNil))) (gQ X scope ifs) (gE X scope elt) [j, j2] σ H Q := by
  refine h σ B H S I _ fun J items B1 H1 μ1 I1 e1 W h1 D hD => ?_
  obtain ⟨hlen, V, v0, turn, fin⟩ := h1
  obtain ⟨bD, mD, wD⟩ := I1.free hD
  let Y : Nat → Hp → L2.V → Hp → Prop := fun i H x H' => ∃ d, items[i]? = some d ∧ ((H' = H ∧ Dq B1 x d) ∨ ∃ T xs ds, x = .ref T ∧ H T = none ∧ H' = upd H T (.tup xs) ∧ DqA B1 xs ds ∧ d = .tup ds)
  have wk : Walk J items.length (fun H => Ex B1 H) Y := ⟨fun i H hi g => W.goes i H hi g, W.stops, W.yields⟩
  let Pv : Nat → Hp → Prop := fun i H' => ∃ B' μ' acc xs, SInv w B' H' μ' ∧ Ex B1 B' ∧ μ' D = none ∧ B' D = none ∧ H' D = some (.lst xs) ∧ DqA B' xs acc ∧ acc.length ≤ i ∧ V i acc μ'
  refine lc_it wk Pv ⟨B1, μ1, [], [], I1.own bD wD mD _, Ex.refl _, mD, bD, upd_same, .nil, Nat.le_refl _, v0⟩ (fun i H' _ ⟨B', _, _, _, I', g, _⟩ => g.trans I'.bh) ?_ ?_
  · rintro i v H2 H3 hi ⟨B2, μ2, acc, xs, I2, g2, m2, b2, hx, qx, hl, v2⟩ ⟨d, hd, hy⟩
    obtain ⟨d1, d2, ed, t⟩ := turn i acc d μ2 hd hl v2
    have core : ∀ B3, SInv w B3 H3 μ2 → Ex B2 B3 → B3 D = none → H3 D = some (.lst xs) → Dq B3 v d →
        gTup X.K 2 (gCons (gName j) (gCons (gName j2) gNil)) v (wipe σ [j, j2]) H3 fun σ2 H4 => wipe σ2 [j, j2] = wipe σ [j, j2] ∧ gQ X scope ifs σ2 H4 fun b H5 => if b = true then gE X scope elt σ2 H5 fun y H6 => ∃ acc, H6 D = some (.lst acc) ∧ acc.length < sizeLine ∧ Pv (i + 1) (upd H6 D (.lst (acc ++ [y]))) else Pv (i + 1) H5 := by
      intro B3 I3 e3 b3 h3 q3
      subst ed
      cases q3 with
      | @tup a zs _ ha hz =>
      cases hz with
      | @cons x1 _ _ _ qa hz =>
      cases hz with
      | @cons x2 _ _ _ qb hz =>
      cases hz
      refine ⟨a, [x1, x2], rfl, .inl (.inl (I3.bh _ _ ha)), rfl, x1, [x2], rfl, x2, [], rfl, rfl, wipe2 hj _ _, fun kb => ?_⟩
      have J3 : SInv ⟨B3, H3, fun p => μ2 p ≠ none⟩ B3 H3 μ2 := SInv.start I3.bh fun p o z => ⟨(I3.mus p o z).1, (I3.mus p o z).2.1⟩
      have S3 : Sto B3 (((wipe σ [j, j2]).set j (some x1)).set j2 (some x2)) ((ρ.set j (.dat d1)).set j2 (.dat d2)) := by
        have s1 : Sto B3 σ ρ := S.mono (e1.trans (g2.trans e3))
        have s2 : Sto B3 (wipe σ [j, j2]) ((ρ.set j2 .no).set j .no) := (s1.drop j2).drop j
        have s3 := (s2.set j (r := .dat d1) (v := x1) qa).set j2 (r := .dat d2) (v := x2) qb
        have er : ((((ρ.set j2 .no).set j .no).set j (.dat d1)).set j2 (.dat d2)) = (ρ.set j (.dat d1)).set j2 (.dat d2) := by
          refine List.ext_getElem? fun i => ?_
          simp only [List.getElem?_set, List.length_set]
          by_cases h1 : j = i <;> by_cases h2 : j2 = i <;> simp [h1, h2]
        rw [er] at s3
        exact s3
      have keepD : ∀ {B4 H4 μ4}, SInv ⟨B3, H3, fun p => μ2 p ≠ none⟩ B4 H4 μ4 → μ4 D = none ∧ B4 D = none ∧ H4 D = some (.lst xs) := fun {B4 H4 μ4} J4 => by
        refine ⟨?_, J4.out D (by show H3 D ≠ none; rw [h3]; exact nofun) b3, J4.keep D _ (fun z => z m2) h3⟩
        cases z : μ4 D with
        | none => rfl
        | some o =>
          rcases (J4.mus D o z).2.2 with c | c
          · exact absurd m2 c
          · rw [show H3 D = none from c] at h3; cases h3
      have hacc : xs.length < sizeLine := by
        rw [qx.length]
        have : i < items.length := hi
        exact Nat.lt_of_le_of_lt (Nat.le_trans hl (Nat.le_of_lt this)) (Nat.lt_of_le_of_lt hlen (by decide))
      refine (t _ kb) _ B3 H3 S3 J3 _ fun b B4 H4 μ4 J4 e4 h4 => ?_
      cases b with
      | false =>
        rw [if_neg Bool.false_ne_true]
        obtain ⟨k1, k2, k3⟩ := keepD J4
        exact ⟨B4, μ4, acc, xs, I3.back J4, g2.trans (e3.trans e4), k1, k2, k3, (qx.mono e3).mono e4, Nat.le_succ_of_le hl, h4.2 rfl⟩
      | true =>
        rw [if_pos rfl]
        intro kc
        refine h4.1 rfl kc _ B4 H4 (S3.mono e4) J4 _ fun y r B5 H5 μ5 J5 e5 q5 h5 => ?_
        obtain ⟨d', rfl, h5⟩ := h5
        obtain ⟨k1, k2, k3⟩ := keepD J5
        exact ⟨xs, k3, hacc, B5, μ5, acc ++ [d'], xs ++ [y], (I3.back J5).own k2 wD k1 _, g2.trans (e3.trans (e4.trans e5)), k1, k2, upd_same, (((qx.mono e3).mono e4).mono e5).snoc q5, by rw [List.length_append]; exact Nat.succ_le_succ hl, h5⟩
    rcases hy with ⟨rfl, q⟩ | ⟨T, ys, ds, rfl, hT, rfl, q, rfl⟩
    · exact core B2 I2 (Ex.refl _) b2 hx (q.mono g2)
    · have hb := (I2.free hT).1
      have ne : D ≠ T := fun z => by rw [z, hT] at hx; cases hx
      exact core (upd B2 T (.tup ys)) (I2.new hT _) (Ex.new hb) (by rw [upd_ne ne]; exact b2) (by rw [upd_ne ne]; exact hx) (.tup upd_same ((q.mono g2).mono (Ex.new hb)))
  · rintro H' ⟨B', μ', acc, xs, I', g', m', b', hx, qx, hl, v'⟩
    exact k (.ref D) (.dat (.lst acc)) (upd B' D (.lst xs)) H' μ' (I'.told b' wD m' hx) (e1.trans (g'.trans (Ex.new b'))) (Dq.lst upd_same (qx.mono (Ex.new b'))) (fin acc μ' v' hl)
theorem de_lc2 (j j2 : Nat) (hj : j ≠ j2) (hc : X.calm = true) (hN : X.N.Nodup) (ok : BlkOk X.N X.env.scope scope [(x, j), (y, j2)]) (h : DI X w (tg2 x y px py pt kk) iter ρ μ (LcAsk2 X scope elt ifs ρ j j2 R)) (hi : X.N[j]? = some x := by rfl) (hi2 : X.N[j2]? = some y := by rfl)
    (hx : ∀ k, (BX X scope k).env.scope.names.lookup x = some .local := by intro _; rfl) (hy : ∀ k, (BX X scope k).env.scope.names.lookup y = some .local := by intro _; rfl)
    (hs : ∀ z, foldedSetIterable iter X.env z = pure z := by intro _; rfl) : DE X w (.ListComp elt [⟨tg2 x y px py pt kk, iter, ifs, 0⟩] scope pos) ρ μ R := fun σ B H S I Q k =>
  tE_of (pe_lc (own := [(x, j), (y, j2)]) (g := gTup X.K 2 (gCons (gName j) (gCons (gName j2) gNil))) (tt := gQ X scope ifs) (te := gE X scope elt) hc hN pi_self ok
    (fun s H C cl fp => pg_tup (X := BX X scope (s, H, C, cl, fp)) (n := 2) hc (pgs_cons (pg_name (X := BX X scope (s, H, C, cl, fp)) hN hi (.inl (hx (s, H, C, cl, fp))) (.inr (hx (s, H, C, cl, fp)))) (pgs_cons (pg_name (X := BX X scope (s, H, C, cl, fp)) hN hi2 (.inl (hy (s, H, C, cl, fp))) (.inr (hy (s, H, C, cl, fp)))) pgs_nil)))
    (fun s H C cl fp => ⟨fun pins s1 σ1 H1 Q1 I1 q => q (s, H, C, cl, fp) pins s1 I1⟩) (fun s H C cl fp => ⟨fun pins s1 σ1 H1 Q1 I1 q => q (s, H, C, cl, fp) pins s1 I1⟩) hs) (lc_data2 hj h S I k)
theorem lc2_map (j j2 : Nat) (items : List (Dt × Dt)) (f : Dt × Dt → Dt) (hl : items.length ≤ 100000) (h : ∀ p, p ∈ items → ∀ w' k, DE (BX X scope k) w' elt ((ρ.set j (.dat p.1)).set j2 (.dat p.2)) μ fun r μ' => r = .dat (f p) ∧ μ' = μ) (hR : R (.dat (.lst (items.map f))) μ) :
    LcAsk2 X scope elt [] ρ j j2 R (items.map fun p => .tup [p.1, p.2]) μ := by
  refine ⟨by rw [List.length_map]; exact hl, fun n acc μ' => μ' = μ ∧ acc = (items.take n).map f, ⟨rfl, by simp⟩, ?_, ?_⟩
  · rintro n acc d μ2 hd _ ⟨rfl, rfl⟩
    rw [List.getElem?_map] at hd
    cases e : items[n]? with
    | none => rw [e] at hd; cases hd
    | some p =>
      rw [e] at hd
      cases hd
      refine ⟨p.1, p.2, rfl, fun w' k => dq_nil ⟨fun _ kc => (h p (List.mem_of_getElem? e) w' kc).imp fun r μ' ⟨h1, h2⟩ => ⟨f p, h1, h2, ?_⟩, nofun⟩⟩
      rw [List.take_add_one, e, List.map_append]
      rfl
  · rintro acc μ' ⟨rfl, rfl⟩ _
    rw [List.length_map, List.take_length]
    exact hR
/-- [..] * n -/
theorem op_mulL {r : SV} {xs : List Dt} {n : Nat} (h1 : LsQ r μ xs) (hn : n ≤ 1000) (hl : xs.length ≤ 1000) (h : R (.dat (.lst (List.replicate n xs).flatten)) μ) : OpD X w (binaryOp .Mult) r (.dat (.int (n : Int))) μ R := fun B H v u I q1 q2 Q k => by
  cases q2
  obtain ⟨a, as, rfl, ha, hx⟩ := ls_get I q1 h1
  refine sO_of op_rep ⟨a, (n : Int), as, rfl, rfl, ha, by omega, by omega, ?_, fun p hp => ?_⟩
  · rw [hx.length, Int.toNat_natCast]
    exact Nat.le_trans (Nat.mul_le_mul hl hn) (by decide)
  · rw [Int.toNat_natCast]
    have q : ∀ n : Nat, DqA B (List.replicate n as).flatten (List.replicate n xs).flatten := fun n => by
      induction n with
      | zero => exact .nil
      | succ n ih => rw [List.replicate_succ, List.replicate_succ, List.flatten_cons, List.flatten_cons]; exact hx.append ih
    exact k (.ref p) (.dat (.lst _)) _ _ μ (I.new hp _) (Ex.new (I.free hp).1) (Dq.lst upd_same ((q n).mono (Ex.new (I.free hp).1))) h
theorem inV_ints : ∀ (x : Int) (zs : List Int), inV (.int x) (zs.map V.int) = decide (x ∈ zs)
  | x, [] => rfl
  | x, z :: zs => by
    have ih := inV_ints x zs
    unfold inV at ih ⊢
    rw [List.map_cons, List.any_cons, ih]
    show ((z == x) || _) = _
    by_cases e : z = x
    · subst e; simp
    · have e' : ¬ x = z := fun q => e q.symm
      have b : (z == x) = false := by simpa using e
      rw [b]; simp [e']
theorem flat_ints : ∀ zs : List Int, (zs.map V.int).all flatV = true
  | [] => rfl
  | z :: zs => by rw [List.map_cons, List.all_cons, flat_ints zs]; rfl
theorem op_inInt {r : SV} {i : Int} {zs : List Int} (h1 : LsQ r μ (zs.map Dt.int)) (h : R (.dat (.bl (decide (i ∈ zs)))) μ) : OpD X w (compareOp .In) (.dat (.int i)) r μ R := fun B H v u I q1 q2 Q k => by
  cases q1
  obtain ⟨a, as, rfl, ha, hx⟩ := ls_get I q2 h1
  have e := DqA.ints hx
  subst e
  refine sO_of op_in_seq ⟨a, _, rfl, .inl (.inl (.inl ha)), rfl, flat_ints zs, ?_⟩
  rw [if_neg Bool.false_ne_true, inV_ints]
  exact k (.bl _) (.dat (.bl _)) B H μ I (Ex.refl B) (Dq.bl _) h
end
end Dat

set_option Elab.async false
set_option linter.all false
set_option maxRecDepth 100000
set_option maxHeartbeats 4000000
/-! Er10: repr of lists that hold dicts: where no dict stands at the place of the modules' own one. -/
namespace PySem
section
variable {prog : Program} {w : World} {h₀ : Heap}
theorem deep_all {n m : Nat} {b1 b2 : List Addr} (p : ReadAtMost h₀ n b1) (q : ReadAtMost h₀ m b2) : ReadAtMost h₀ (max n m) (b1 ++ b2) := (p.mono (Nat.le_max_left _ _)).append (q.mono (Nat.le_max_right _ _))
mutual
/-- one value -/
theorem freeK (nd : ∀ o, h₀.get? sysModules = some o → o.cls ≠ .type "dict") : ∀ {v : Value} {d : PyData} {as : List Addr}, Reads h₀ v d as → d.showable = true → d.shown.length ≤ sizeLine → ∃ bs, ReadAtMost h₀ d.depth bs ∧ ReprK prog w bs h₀ d.depth v d.shown
  | _, _, _, .none, sh, sz => ReprK.of_reads .none sh (fun z => nomatch z) sz
  | _, _, _, .bool b, sh, sz => ReprK.of_reads (.bool b) sh (fun z => nomatch z) sz
  | _, _, _, .int i t, sh, sz => ReprK.of_reads (.int i t) sh (fun z => nomatch z) sz
  | _, _, _, .str x t, sh, sz => ReprK.of_reads (.str x t) sh (fun z => nomatch z) sz
  | _, _, _, .list (a := a) (vs := vs) (xs := xs) g1 g2 g3 g4, sh, sz => by
    have sz2 : (listText (PyData.shownAll xs)).length ≤ sizeLine := by rw [PyData.shown] at sz; exact sz
    have sh2 : PyData.showableAll xs = true := by rw [PyData.showable] at sh; exact sh
    have rd : Reads h₀ (.ref a) (.list xs) _ := .list g1 g2 g3 g4
    obtain ⟨bs, p, q⟩ := freeA nd g4 sh2 fun t m => Nat.le_trans (listText_mem_le m) sz2
    have lt : PyData.depthAll xs < (PyData.list xs).depth := by rw [PyData.depth]; omega
    have out : a ∉ bs := not_mem_of_deeper rd lt p
    refine ⟨a :: bs, .cons rd (Nat.le_of_lt lt) p, ?_⟩
    rw [PyData.depth, PyData.shown]
    obtain ⟨l⟩ := vs
    match l, g4, q with
    | [], g4, _ => cases (show ReadsAll h₀ [] xs _ from g4); rw [PyData.shownAll, listText_nil]; exact .listEmpty g1 g2 g3
    | y :: l, _, q => exact .list g1 g2 g3 out (by simpa using q.length_eq) fun i z e => q.item i z (by simpa using e)
  | _, _, _, .tuple (a := a) (xs := xs) g1 g2 g3 g4, sh, sz => by
    have sz2 : (tupleText (PyData.shownAll xs)).length ≤ sizeLine := by rw [PyData.shown] at sz; exact sz
    have sh2 : PyData.showableAll xs = true := by rw [PyData.showable] at sh; exact sh
    have rd : Reads h₀ (.ref a) (.tuple xs) _ := .tuple g1 g2 g3 g4
    obtain ⟨bs, p, q⟩ := freeA nd g4 sh2 fun t m => Nat.le_trans (tupleText_mem_le m) sz2
    have lt : PyData.depthAll xs < (PyData.tuple xs).depth := by rw [PyData.depth]; omega
    refine ⟨a :: bs, .cons rd (Nat.le_of_lt lt) p, ?_⟩
    rw [PyData.depth, PyData.shown]
    exact .tuple g1 g2 g3 (not_mem_of_deeper rd lt p) q
  | _, _, _, .dict (a := a) (es := es) (kvs := kvs) g1 g2 g3 g4 g5, sh, sz => by
    have sz2 : (dictText (PyData.shownKv kvs)).length ≤ sizeLine := by rw [PyData.shown] at sz; exact sz
    obtain ⟨sa, sb⟩ := PyData.showableKv_split kvs (by rw [PyData.showable] at sh; exact sh)
    have rd : Reads h₀ (.ref a) (.dict kvs) _ := .dict g1 g2 g3 g4 g5
    have pair : ∀ p ∈ PyData.shownKv kvs, p.length ≤ sizeLine := fun p m => Nat.le_trans (dictText_mem_le m) sz2
    obtain ⟨ba, pa, qa⟩ := freeA nd g4 sa fun t m => by obtain ⟨p, m2, l2⟩ := PyData.shownKv_key_le kvs t m; exact Nat.le_trans l2 (pair p m2)
    obtain ⟨bb, pb, qb⟩ := freeA nd g5 sb fun t m => by obtain ⟨p, m2, l2⟩ := PyData.shownKv_val_le kvs t m; exact Nat.le_trans l2 (pair p m2)
    have both : ReadAtMost h₀ (PyData.depthKv kvs) (ba ++ bb) := (pa.mono (PyData.depthAll_keys_le kvs)).append (pb.mono (PyData.depthAll_vals_le kvs))
    have lt : PyData.depthKv kvs < (PyData.dict kvs).depth := by rw [PyData.depth]; omega
    have apart : (a == sysModules) = false := beq_eq_false_iff_ne.mpr fun e => nd _ (by rw [← e]; exact g1) g2
    refine ⟨a :: (ba ++ bb), .cons rd (Nat.le_of_lt lt) both, ?_⟩
    rw [PyData.depth, PyData.shown, PyData.shownKv_eq]
    refine .dict g1 g2 g3 apart (not_mem_of_deeper rd lt both) (ReprEntriesK.of_two es.toList _ _ ?_ ?_)
    · exact qa.more_le (fun b m => List.mem_append_left _ m) (PyData.depthAll_keys_le kvs)
    · exact qb.more_le (fun b m => List.mem_append_right _ m) (PyData.depthAll_vals_le kvs)
/-- all of a row -/
theorem freeA (nd : ∀ o, h₀.get? sysModules = some o → o.cls ≠ .type "dict") : ∀ {vs : List Value} {ds : List PyData} {as : List Addr}, ReadsAll h₀ vs ds as → PyData.showableAll ds = true → (∀ t ∈ PyData.shownAll ds, t.length ≤ sizeLine) → ∃ bs, ReadAtMost h₀ (PyData.depthAll ds) bs ∧ ReprAllK prog w bs h₀ (PyData.depthAll ds) vs (PyData.shownAll ds)
  | _, _, _, .nil, _, _ => ReprAllK.of_readsAll .nil rfl (fun z => nomatch z) fun t z => nomatch z
  | _, _, _, .cons (d := d) (ds := ds) r rs, sh, sz => by
    have sh2 : d.showable = true ∧ PyData.showableAll ds = true := by rw [PyData.showableAll, Bool.and_eq_true] at sh; exact sh
    rw [PyData.shownAll] at sz
    obtain ⟨b1, p1, q1⟩ := freeK nd r sh2.1 (sz _ (.head _))
    obtain ⟨b2, p2, q2⟩ := freeA nd rs sh2.2 fun t m => sz t (.tail _ m)
    refine ⟨b1 ++ b2, by rw [PyData.depthAll]; exact deep_all p1 p2, ?_⟩
    rw [PyData.depthAll, PyData.shownAll]
    exact .cons ((q1.more fun b m => List.mem_append_left _ m).level_le (Nat.le_max_left _ _)) (q2.more_le (fun b m => List.mem_append_right _ m) (Nat.le_max_right _ _))
end
/-- repr of a list, whatever it holds -/
theorem repr_free {A : Around} {E : Value → Shared → Prop} {s : Shared} {Q : Value → Shared → Prop} {a : Addr} {xs : List PyData} {as : List Addr} (nd : ∀ o, s.heap.get? sysModules = some o → o.cls ≠ .type "dict") (r : Reads s.heap (.ref a) (.list xs) as) (sh : (PyData.list xs).showable = true) (hg : A.guards = some []) (hu : A.units + ((PyData.list xs).depth + 1) < cLine)
    (hQ : ∀ h' u tk, (∀ b o, s.heap.get? b = some o → h'.get? b = some o) → Q (.str (PyData.list xs).shown u) { s with heap := h', toks := tk }) (sz : (PyData.list xs).shown.length ≤ sizeLine) : wpAny (model prog w) A (call (.builtin "repr") [.ref a]) Q E s := by
  cases r with
  | @list _ o vs n _ as g1 g2 g3 g4 =>
    have rd : Reads s.heap (.ref a) (.list xs) (a :: as) := .list g1 g2 g3 g4
    have sz2 : (listText (PyData.shownAll xs)).length ≤ sizeLine := by rw [PyData.shown] at sz; exact sz
    have sh2 : PyData.showableAll xs = true := by rw [PyData.showable] at sh; exact sh
    obtain ⟨bs, p, q⟩ := freeA (prog := prog) (w := w) nd g4 sh2 fun t m => Nat.le_trans (listText_mem_le m) sz2
    have lt : PyData.depthAll xs < (PyData.list xs).depth := by rw [PyData.depth]; omega
    have out : a ∉ bs := not_mem_of_deeper rd lt p
    refine call_repr_slot (by omega) ⟨o, g1, g2⟩ F.slot_list_repr.toG ?_
    have hu2 : A.in1.units + (PyData.list xs).depth < cLine := by show A.units + 1 + _ < _; omega
    rw [PyData.depth] at hu2
    rw [PyData.shown] at hQ
    obtain ⟨l⟩ := vs
    match l, g3, g4, q with
    | [], g3, g4, _ =>
      cases (show ReadsAll s.heap [] xs _ from g4)
      rw [PyData.shownAll, listText_nil] at hQ
      exact call_list_repr_empty ⟨o, g1, g2⟩ g1 g3 ⟨_, _, rfl, hQ s.heap _ _ fun _ _ e => e⟩
    | y :: l, g3, _, q =>
      exact call_list_reprK g1 g2 g3 out (by simpa using q.length_eq) (fun i z e => q.item i z (by simpa using e)) hg (fun b _ => Clear.nil b) hu2 (fun _ _ e => e) (fun h' u tk k => ⟨_, _, rfl, hQ h' u tk k⟩) sz2
end
end PySem

set_option Elab.async false
set_option linter.all false
set_option maxRecDepth 100000
set_option maxHeartbeats 4000000
/-! Er11: repr of lists of data, dicts among it. -/
namespace Dat
open PySem PySem.Spec PyProof.Rows L2
section
variable {X : Cx} {pins : List (Addr × Obj)} {σ : L2.St} {H : Hp} {s : Shared}
mutual
theorem Dq.reads3 (I : Inv X pins σ H s) (md : ∃ o, s.heap.get? sysModules = some o ∧ o.cls = .type "dict") : ∀ (d : Dt) (v : V) (u : Value), Dq H v d → plain d = true → RelV v u → ∃ as, Reads s.heap u (toPy d) as ∧ sysModules ∉ as
  | .non, _, _, h, _, r => by cases h; cases r; exact ⟨[], by rw [toPy]; exact .none, List.not_mem_nil⟩
  | .bl b, _, _, h, _, r => by cases h; cases r; exact ⟨[], by rw [toPy]; exact .bool b, List.not_mem_nil⟩
  | .int i, _, _, h, _, r => by cases h; obtain ⟨t, rfl⟩ := r; exact ⟨[], by rw [toPy]; exact .int i t, List.not_mem_nil⟩
  | .str x, _, _, h, _, r => by cases h; obtain ⟨t, rfl⟩ := r; exact ⟨[], by rw [toPy]; exact .str x t, List.not_mem_nil⟩
  | .lst ds, _, _, h, hp, r => by
    cases h with
    | lst hs ha =>
      cases r
      obtain ⟨_, its, n, rv, ho⟩ := (show ObjOk X.prog X.w H s.heap _ (.lst _) from I.hok _ _ hs)
      obtain ⟨as, hr, hm⟩ := Dq.reads3A I md ds _ its ha (by simpa [plain] using hp) rv
      refine ⟨_, by rw [toPy]; exact .list ho rfl rfl hr, fun z => ?_⟩
      rcases List.mem_cons.mp z with e | e
      · obtain ⟨o, e1, e2⟩ := md
        rw [e, ho] at e1
        cases e1
        exact absurd (show Value.type "list" = Value.type "dict" from e2) (by decide)
      · exact hm e
  | .tup ds, _, _, h, hp, r => by
    cases h with
    | tup hs ha =>
      cases r
      obtain ⟨_, its, rv, o, ho, hc, n, hd⟩ := (show ObjOk X.prog X.w H s.heap _ (.tup _) from I.hok _ _ hs)
      obtain ⟨as, hr, hm⟩ := Dq.reads3A I md ds _ its ha (by simpa [plain] using hp) rv
      exact ⟨as, by rw [toPy]; exact .tuple ho hc hd hr, hm⟩
  | .dic ks ds, _, _, h, hp, r => by
    cases h with
    | @dic a kvs _ hs ha =>
      cases r
      obtain ⟨_, hsm, vs, rv, o, es, ep, ho, hx, hd, _, pr, _⟩ := (show ObjOk X.prog X.w H s.heap _ (.dK _) from I.hok _ _ hs)
      obtain ⟨h1, h2⟩ := dictParts (h := s.heap) pr rv
      obtain ⟨as, hr, hm⟩ := Dq.reads3A I md ds _ _ ha (by simpa [plain] using hp) h2
      have hl : (toPyA (kvs.map fun kv => keyD kv.1)).length = (toPyA ds).length := by rw [toPyA_len, toPyA_len, List.length_map, ← ha.length, List.length_map]
      obtain ⟨z1, z2⟩ := zip_maps hl
      have z : a ≠ sysModules := by simpa using hsm
      refine ⟨a :: [] ++ as, ?_, ?_⟩
      · rw [toPy]
        exact .dict ho hx.1 hd (by rw [z1]; exact h1) (by rw [z2]; exact hr)
      · intro q
        rcases List.mem_cons.mp q with e | e
        · exact z e.symm
        · exact hm e
  | .mix hs0 ks ds, _, _, h, hp, r => by
    cases h with
    | @mix a o l _ _ hs hk ha =>
      cases r
      obtain ⟨⟨ho, ⟨es, ep, hx, hd, pr⟩, _, hsm⟩, _⟩ := (show ObjOk X.prog X.w H s.heap a (mxo a o l) from I.hok _ _ hs)
      obtain ⟨v1, v2⟩ := mixParts pr
      have hp' : plainA ks = true ∧ plainA ds = true := by simpa [plain] using hp
      obtain ⟨as1, hr1, hm1⟩ := Dq.reads3A I md ks _ _ hk hp'.1 v1
      obtain ⟨as2, hr2, hm2⟩ := Dq.reads3A I md ds _ _ ha hp'.2 v2
      have hl : (toPyA ks).length = (toPyA ds).length := by rw [toPyA_len, toPyA_len, ← hk.length, ← ha.length, List.length_map, List.length_map]
      obtain ⟨z1, z2⟩ := zip_maps hl
      have z : a ≠ sysModules := by simpa using hsm
      refine ⟨a :: as1 ++ as2, ?_, ?_⟩
      · rw [toPy]
        exact .dict ho hx.1 hd (by rw [z1]; exact hr1) (by rw [z2]; exact hr2)
      · intro q
        rcases List.mem_append.mp q with q | q
        · rcases List.mem_cons.mp q with e | e
          · exact z e.symm
          · exact hm1 e
        · exact hm2 q
  | .obj _ _ _, _, _, _, hp, _ => by simp [plain] at hp
  | .err _ _ _, _, _, _, hp, _ => by simp [plain] at hp
theorem Dq.reads3A (I : Inv X pins σ H s) (md : ∃ o, s.heap.get? sysModules = some o ∧ o.cls = .type "dict") : ∀ (ds : List Dt) (vs : List V) (us : List Value), DqA H vs ds → plainA ds = true → Vals vs us → ∃ as, ReadsAll s.heap us (toPyA ds) as ∧ sysModules ∉ as
  | [], _, _, h, _, r => by cases h; cases r; exact ⟨[], by rw [toPyA]; exact .nil, List.not_mem_nil⟩
  | d :: ds, _, _, h, hp, r => by
    cases h with
    | cons h1 h2 =>
      cases r with
      | cons r1 r2 =>
        have hp' : plain d = true ∧ plainA ds = true := by simpa [plainA] using hp
        obtain ⟨as, q1, m1⟩ := Dq.reads3 I md d _ _ h1 hp'.1 r1
        obtain ⟨bs, q2, m2⟩ := Dq.reads3A I md ds _ _ h2 hp'.2 r2
        refine ⟨as ++ bs, by rw [toPyA]; exact .cons q1 q2, fun q => ?_⟩
        rcases List.mem_append.mp q with e | e
        · exact m1 e
        · exact m2 e
end

structure ShownL (d : Dt) : Prop where
  plain : plain d = true
  shows : (toPy d).showable = true
  len : (toPy d).shown.length ≤ sizeLine
  deep : (toPy d).depth ≤ 60
theorem ca_reprL {w : Wd} {μ : Mus} {R : SV → Mus → Prop} {r : SV} {ds : List Dt} {k : Nat} (hr : Room k X.A) (hg : X.A.guards = some []) (h1 : LsQ r μ ds) (hd : ShownL (.lst ds)) (h : R (.dat (.str (toPy (.lst ds)).shown)) μ) : CaD X w (.builtin "repr") [r] μ R := fun B H vs I q Q kk pins s σ us J rv => by
  obtain ⟨v, rfl, q1⟩ := q.one
  obtain ⟨u, rfl, r1⟩ := vals1 rv
  obtain ⟨a, xs, rfl, ha, hx⟩ := ls_get I q1 h1
  have eu : u = Value.ref a := r1
  subst eu
  have fin : ∀ {s' : Shared} {t : Tok}, Inv X pins σ H s' → EP X pins σ Q (.str (toPy (.lst ds)).shown t) s' := fun {s' t} J' => ⟨.str _, H, J', ⟨t, rfl⟩, kk (.str _) (.dat (.str _)) B H μ I (Ex.refl B) (Dq.str _) h⟩
  have hu := hr.un
  have hdp := hd.deep
  have qq : Dq H (.ref a) (.lst ds) := .lst ha (hx.mono I.bh)
  by_cases md : ∃ o, s.heap.get? sysModules = some o ∧ o.cls = .type "dict"
  · obtain ⟨as, rd, hm⟩ := Dq.reads3 J md _ _ _ qq hd.plain r1
    exact repr_of_reads' rd hd.shows (fun _ => hm) hg (by omega) (fun _ _ e => e) (fun h' t tk keep => fin (J.kept (t' := tk) keep)) hd.len
  · obtain ⟨as, rd, _⟩ := Dq.reads J _ _ _ qq hd.plain r1
    have sh := hd.shows
    have sz := hd.len
    rw [toPy] at rd hdp sh sz fin
    exact repr_free (fun o e c => md ⟨o, e, c⟩) rd sh hg (by omega) (fun h' t tk keep => fin (J.kept (t' := tk) keep)) sz
theorem fine_shownL {S M n : Nat} {d : Dt} (h : fine S M n d) (hl : fineL S M n ≤ 16777216) (hn : n ≤ 60) : ShownL d := by
  obtain ⟨h1, h2, h3⟩ := fine_rest n d h
  exact ⟨h3, h1, Nat.le_trans (fine_len n d h) (Nat.le_trans hl (by decide)), Nat.le_trans h2 hn⟩
end
end Dat

set_option Elab.async false
set_option linter.all false
set_option maxRecDepth 100000
set_option maxHeartbeats 4000000
/-! Mx2: dicts of keys of any kinds as data. -/
namespace Dat
open PySem PySem.Spec PyProof.Rows L2 Mx
mutual
def nk : Dt → NestedKey
  | .bl b => .num (if b = true then 1 else 0) | .int i => .num i | .str x => .text x | .tup ds => .tup (nkA ds) | _ => .none
def nkA : List Dt → List NestedKey
  | [] => []
  | d :: ds => nk d :: nkA ds
end
mutual
def keyable : Dt → Bool
  | .non => true | .bl _ => true | .int _ => true | .str _ => true | .tup ds => keyableA ds | _ => false
def keyableA : List Dt → Bool
  | [] => true
  | d :: ds => keyable d && keyableA ds
end
section
variable {X : Cx} {pins : List (Addr × Obj)} {σ : L2.St} {H : Hp} {s : Shared}
mutual
theorem Dq.key (I : Inv X pins σ H s) : ∀ (d : Dt) (v : V) (u : Value), Dq H v d → keyable d = true → RelV v u → NestedIs s.heap (nk d) u
  | .non, _, _, h, _, r => by cases h; cases r; rw [nk]; exact .none; all_goals exact nofun
  | .bl b, _, _, h, _, r => by cases h; cases r; rw [nk]; exact .bool rfl
  | .int i, _, _, h, _, r => by cases h; obtain ⟨t, rfl⟩ := r; rw [nk]; exact .int i t
  | .str x, _, _, h, _, r => by cases h; obtain ⟨t, rfl⟩ := r; rw [nk]; exact .text x t
  | .tup ds, _, _, h, hk, r => by
    cases h with
    | tup hs ha =>
      cases r
      obtain ⟨_, its, rv, o, ho, hc, n, hd⟩ := (show ObjOk X.prog X.w H s.heap _ (.tup _) from I.hok _ _ hs)
      rw [nk]
      exact .tup ho hc hd (Dq.keyA I ds _ its ha (by simpa [keyable] using hk) rv)
  | .lst _, _, _, _, hk, _ => by simp [keyable] at hk
  | .dic _ _, _, _, _, hk, _ => by simp [keyable] at hk
  | .obj _ _ _, _, _, _, hk, _ => by simp [keyable] at hk
  | .mix _ _ _, _, _, _, hk, _ => by simp [keyable] at hk
  | .err _ _ _, _, _, _, hk, _ => by simp [keyable] at hk
theorem Dq.keyA (I : Inv X pins σ H s) : ∀ (ds : List Dt) (vs : List V) (us : List Value), DqA H vs ds → keyableA ds = true → Vals vs us → NestedAll s.heap (nkA ds) us
  | [], _, _, h, _, r => by cases h; cases r; rw [nkA]; exact .nil
  | d :: ds, _, _, h, hk, r => by
    cases h with
    | cons h1 h2 =>
      cases r with
      | cons r1 r2 =>
        have hk' : keyable d = true ∧ keyableA ds = true := by simpa [keyableA] using hk
        rw [nkA]
        exact .cons (Dq.key I d _ _ h1 hk'.1 r1) (Dq.keyA I ds _ _ h2 hk'.2 r2)
end
end
abbrev Tbl := List (Dt × Dt)
def hsh (w : World) (l : Tbl) : List Int := l.map fun x => (nk x.1).hash w
def mixD (w : World) (l : Tbl) : Dt := .mix (hsh w l) (l.map (·.1)) (l.map (·.2))
def mixM (w : World) (l : Tbl) : MO := .mix (hsh w l) (l.map (·.1)) (l.map (·.2))
structure GoodK (l : Tbl) : Prop where
  ka : ∀ x ∈ l, keyable x.1 = true ∧ (nk x.1).depth ≤ 8
  nd : (l.map fun x => nk x.1).Nodup
def putP (l : Tbl) (k v : Dt) : Tbl := if nk k ∈ l.map (fun x => nk x.1) then l.map (fun x => if nk x.1 = nk k then (x.1, v) else x) else l ++ [(k, v)]
def mergeP (l ps : Tbl) : Tbl := ps.foldl (fun acc p => putP acc p.1 p.2) l
/-- one entry, as it stands in the heap, as a value, as data -/
structure Cell where
  key : Value
  val : Value
  kv : V
  vv : V
  kd : Dt
  vd : Dt
def Cell.k (c : Cell) : NestedKey := nk c.kd
def Cell.row (c : Cell) : Mx.Row := (c.k, c.key, c.val)
def Cell.tri (w : World) (c : Cell) : Int × V × V := (c.k.hash w, c.kv, c.vv)
def Cell.pr (c : Cell) : Dt × Dt := (c.kd, c.vd)
structure Cell.Ok (B : Hp) (c : Cell) : Prop where
  rk : RelV c.kv c.key
  rv : RelV c.vv c.val
  dk : Dq B c.kv c.kd
  dv : Dq B c.vv c.vd
  ka : keyable c.kd = true
  dp : c.k.depth ≤ 8
theorem Cell.Ok.mono {B B' : Hp} {c : Cell} (e : Ex B B') (o : c.Ok B) : c.Ok B' := ⟨o.rk, o.rv, o.dk.mono e, o.dv.mono e, o.ka, o.dp⟩
theorem Cell.Ok.is {X : Cx} {pins : List (Addr × Obj)} {σ : L2.St} {H : Hp} {s : Shared} (I : Inv X pins σ H s) {c : Cell} (o : c.Ok H) : NestedIs s.heap c.k c.key := Dq.key I _ _ _ o.dk o.ka o.rk
def putC (cs : List Cell) (c : Cell) : List Cell := if c.k ∈ cs.map Cell.k then cs.map (fun x => if x.k = c.k then { x with val := c.val, vv := c.vv, vd := c.vd } else x) else cs ++ [c]
theorem putC_row (cs : List Cell) (c : Cell) : (putC cs c).map Cell.row = putL (cs.map Cell.row) c.k c.key c.val := by
  have e : (cs.map Cell.row).map (·.1) = cs.map Cell.k := by rw [List.map_map]; rfl
  unfold putC putL
  rw [e]
  split
  · rw [List.map_map, List.map_map]; refine List.map_congr_left fun x _ => ?_
    show (if x.k = c.k then _ else x : Cell).row = if x.k = c.k then _ else _
    split <;> rfl
  · rw [List.map_append]; rfl
theorem putC_pr (cs : List Cell) (c : Cell) : (putC cs c).map Cell.pr = putP (cs.map Cell.pr) c.kd c.vd := by
  have e : (cs.map Cell.pr).map (fun x => nk x.1) = cs.map Cell.k := by rw [List.map_map]; rfl
  unfold putC putP
  rw [e]
  split
  · next h => rw [if_pos (show nk c.kd ∈ _ from h), List.map_map, List.map_map]; refine List.map_congr_left fun x _ => ?_
              show (if x.k = c.k then _ else x : Cell).pr = if x.k = c.k then _ else _
              split <;> rfl
  · next h => rw [if_neg (show ¬ nk c.kd ∈ _ from h), List.map_append]; rfl
theorem putC_ok {B : Hp} {cs : List Cell} {c : Cell} (h : ∀ x ∈ cs, x.Ok B) (hc : c.Ok B) : ∀ x ∈ putC cs c, x.Ok B := fun x hx => by
  unfold putC at hx
  split at hx
  · obtain ⟨y, hy, rfl⟩ := List.mem_map.mp hx
    split
    · exact ⟨(h y hy).rk, hc.rv, (h y hy).dk, hc.dv, (h y hy).ka, (h y hy).dp⟩
    · exact h y hy
  · rcases List.mem_append.mp hx with z | z
    · exact h x z
    · rw [List.mem_singleton.mp z]; exact hc
theorem putC_len (cs : List Cell) (c : Cell) : (putC cs c).length ≤ cs.length + 1 := by
  unfold putC
  split
  · rw [List.length_map]; omega
  · rw [List.length_append]; exact Nat.le_refl _
theorem cells_of {w : World} {B : Hp} : ∀ {es : List DictEntry} {l' : List (Int × V × V)} {l : Tbl}, Paired (fun (e : DictEntry) (x : Int × V × V) => e.hash = x.1 ∧ RelV x.2.1 e.key ∧ RelV x.2.2 e.val) es l' → l'.map (·.1) = hsh w l → DqA B (l'.map (·.2.1)) (l.map (·.1)) → DqA B (l'.map (·.2.2)) (l.map (·.2)) → (∀ x ∈ l, keyable x.1 = true ∧ (nk x.1).depth ≤ 8) →
    ∃ cs : List Cell, es = cs.map (fun c => ent w c.row) ∧ l' = cs.map (Cell.tri w) ∧ l = cs.map Cell.pr ∧ ∀ c ∈ cs, c.Ok B
  | _, _, [], .nil, _, _, _, _ => ⟨[], rfl, rfl, rfl, fun _ h => nomatch h⟩
  | _, _, _ :: _, .nil, h, _, _, _ => by simp [hsh] at h
  | _, _, [], .cons _ _, h, _, _, _ => by simp [hsh] at h
  | e :: es, t :: l', p :: l, .cons a as, h, q1, q2, g => by
    rw [List.map_cons, List.map_cons] at q1 q2
    rw [hsh, List.map_cons, List.map_cons] at h
    injection h with h1 h2
    cases q1 with
    | cons x1 y1 =>
      cases q2 with
      | cons x2 y2 =>
        obtain ⟨cs, c1, c2, c3, c4⟩ := cells_of as h2 y1 y2 fun x hx => g x (List.mem_cons_of_mem _ hx)
        obtain ⟨th, tk, tv⟩ := t
        obtain ⟨pk, pv⟩ := p
        refine ⟨⟨e.key, e.val, tk, tv, pk, pv⟩ :: cs, ?_, ?_, ?_, ?_⟩
        · rw [List.map_cons, ← c1]; congr 1
          obtain ⟨eh, ek, ev⟩ := e
          show _ = DictEntry.mk ((nk pk).hash w) ek ev
          rw [← h1, ← a.1]
        · rw [List.map_cons, ← c2]; congr 1; show (th, tk, tv) = ((nk pk).hash w, tk, tv); rw [← h1]
        · rw [List.map_cons, ← c3]; rfl
        · intro c hc
          rcases List.mem_cons.mp hc with z | z
          · rw [z]; exact ⟨a.2.1, a.2.2, x1, x2, (g _ List.mem_cons_self).1, (g _ List.mem_cons_self).2⟩
          · exact c4 c z
theorem tri_pair {w : World} {B : Hp} : ∀ {cs : List Cell}, (∀ c ∈ cs, c.Ok B) → Paired (fun (e : DictEntry) (x : Int × V × V) => e.hash = x.1 ∧ RelV x.2.1 e.key ∧ RelV x.2.2 e.val) (cs.map (fun c => ent w c.row)) (cs.map (Cell.tri w))
  | [], _ => .nil
  | c :: cs, h => .cons ⟨rfl, (h c List.mem_cons_self).rk, (h c List.mem_cons_self).rv⟩ (tri_pair fun x hx => h x (List.mem_cons_of_mem _ hx))
theorem tri_k {w : World} (cs : List Cell) : (cs.map (Cell.tri w)).map (·.1) = hsh w (cs.map Cell.pr) := by unfold hsh; rw [List.map_map, List.map_map]; rfl
theorem tri_dk {w : World} {B : Hp} : ∀ {cs : List Cell}, (∀ c ∈ cs, c.Ok B) → DqA B ((cs.map (Cell.tri w)).map (·.2.1)) ((cs.map Cell.pr).map (·.1))
  | [], _ => .nil
  | c :: cs, h => .cons (h c List.mem_cons_self).dk (tri_dk fun x hx => h x (List.mem_cons_of_mem _ hx))
theorem tri_dv {w : World} {B : Hp} : ∀ {cs : List Cell}, (∀ c ∈ cs, c.Ok B) → DqA B ((cs.map (Cell.tri w)).map (·.2.2)) ((cs.map Cell.pr).map (·.2))
  | [], _ => .nil
  | c :: cs, h => .cons (h c List.mem_cons_self).dv (tri_dv fun x hx => h x (List.mem_cons_of_mem _ hx))
/-- a dict, data or one that may change -/
def TbQ (w : World) (r : SV) (μ : Mus) (l : Tbl) : Prop := r = .dat (mixD w l) ∨ ∃ p, r = .at p ∧ μ p = some (mixM w l)
theorem mixD_dq {w : World} {B : Hp} {a : Addr} {o : Obj} {cs : List Cell} (h : B a = some (mxo a o (cs.map (Cell.tri w)))) (ok : ∀ c ∈ cs, c.Ok B) : Dq B (.ref a) (mixD w (cs.map Cell.pr)) := by
  have z := Dq.mix h (tri_dk ok) (tri_dv ok)
  rw [tri_k] at z; exact z
theorem tb_get {wd : World} {w : Wd} {B H : Hp} {μ : Mus} {v : V} {r : SV} {l : Tbl} (I : SInv w B H μ) (q : Svq B v r) (h : TbQ wd r μ l) : ∃ a o l', v = .ref a ∧ H a = some (mxo a o l') ∧ l'.map (·.1) = hsh wd l ∧ DqA B (l'.map (·.2.1)) (l.map (·.1)) ∧ DqA B (l'.map (·.2.2)) (l.map (·.2)) := by
  rcases h with rfl | ⟨p, rfl, hm⟩
  · have q2 : Dq B v (mixD wd l) := q
    unfold mixD at q2
    generalize e : hsh wd l = hh at q2
    cases q2 with
    | mix ha hk hv => exact ⟨_, _, _, rfl, I.bh _ _ ha, rfl, hk, hv⟩
  · cases (show v = V.ref p from q)
    obtain ⟨_, ⟨o, l', h1, h2, h3, h4⟩, _⟩ := I.mus p _ hm
    exact ⟨p, o, l', rfl, h1, h2, h3, h4⟩
theorem mxo_at {P : Program} {wd : World} {H : Hp} {h : Heap} {a : Addr} {o : Obj} {l : List (Int × V × V)} (ok : HOk P wd H h) (e : H a = some (mxo a o l)) : h.get? a = some o ∧ MxOf o l ∧ l.length ≤ sizeLine ∧ (a == sysModules) = false :=
  ((show ObjOk P wd H h a (.ext _) from ok a _ e)).1
theorem mxo_ok {P : Program} {wd : World} {H : Hp} {h : Heap} {a : Addr} {o : Obj} {l : List (Int × V × V)} (ho : h.get? a = some o) (m : MxOf o l) (hl : l.length ≤ sizeLine) (hs : (a == sysModules) = false) : ObjOk P wd H h a (mxo a o l) :=
  ⟨⟨ho, m, hl, hs⟩, ⟨_, ho⟩, fun h1 h2 z k => ⟨k _ z.1, z.2⟩⟩
/-- what a table is in the heap -/
structure At (w : World) (B : Hp) (h : Heap) (a : Addr) (o : Obj) (cs : List Cell) : Prop where
  get : h.get? a = some o
  ex : o.ExactDict
  en : ∃ es ep, o.data = .dict es ep ∧ es.toList = cs.map (fun c => ent w c.row)
  ok : ∀ c ∈ cs, c.Ok B
  len : cs.length ≤ sizeLine
  sys : (a == sysModules) = false
theorem at_of {P : Program} {wd : World} {B H : Hp} {h : Heap} {a : Addr} {o : Obj} {l' : List (Int × V × V)} {l : Tbl} (ok : HOk P wd H h) (e : H a = some (mxo a o l')) (h1 : l'.map (·.1) = hsh wd l) (h2 : DqA B (l'.map (·.2.1)) (l.map (·.1))) (h3 : DqA B (l'.map (·.2.2)) (l.map (·.2))) (g : GoodK l) :
    ∃ cs, At wd B h a o cs ∧ l' = cs.map (Cell.tri wd) ∧ l = cs.map Cell.pr := by
  obtain ⟨k1, ⟨es, ep, k2, k3, k4⟩, k5, k6⟩ := mxo_at ok e
  obtain ⟨cs, c1, c2, c3, c4⟩ := cells_of k4 h1 h2 h3 g.ka
  exact ⟨cs, ⟨k1, k2, ⟨es, ep, k3, c1⟩, c4, by rw [c2, List.length_map] at k5; exact k5, k6⟩, c2, c3⟩
theorem At.dv {w : World} {B : Hp} {h : Heap} {a : Addr} {o : Obj} {cs : List Cell} (A : At w B h a o cs) : DV w h a (cs.map Cell.row) := by
  obtain ⟨es, ep, e1, e2⟩ := A.en
  exact ⟨o, es, ep, A.get, A.ex, e1, by rw [e2, List.map_map]; rfl⟩
theorem At.raw {w : World} {B : Hp} {h : Heap} {a : Addr} {o : Obj} {cs : List Cell} (A : At w B h a o cs) : ∃ es ep, h.DictRaw a es ep ∧ o.data = .dict es ep ∧ es.toList = cs.map (fun c => ent w c.row) := by
  obtain ⟨es, ep, e1, e2⟩ := A.en
  exact ⟨es, ep, ⟨o, A.get, A.ex, e1⟩, e1, e2⟩
theorem At.ks {X : Cx} {pins : List (Addr × Obj)} {σ : L2.St} {B H : Hp} {s : Shared} (I : Inv X pins σ H s) (e : Ex B H) {w : World} {a : Addr} {o : Obj} {cs : List Cell} (A : At w B s.heap a o cs) (g : GoodK (cs.map Cell.pr)) : Ks s.heap (cs.map Cell.row) := by
  refine ⟨fun x hx => ?_, ?_⟩
  · obtain ⟨c, hc, rfl⟩ := List.mem_map.mp hx
    exact ⟨((A.ok c hc).mono e).is I, (A.ok c hc).dp⟩
  · have := g.nd
    rw [List.map_map] at this ⊢; exact this
theorem At.mx {w : World} {B : Hp} {h : Heap} {a : Addr} {o : Obj} {cs : List Cell} (A : At w B h a o cs) : MxOf o (cs.map (Cell.tri w)) := by
  obtain ⟨es, ep, e1, e2⟩ := A.en
  exact ⟨es, ep, A.ex, e1, by rw [e2]; exact tri_pair A.ok⟩
theorem at_dv {w : World} {B : Hp} {h : Heap} {a : Addr} {cs : List Cell} (D : DV w h a (cs.map Cell.row)) (ok : ∀ c ∈ cs, c.Ok B) (hl : cs.length ≤ sizeLine) (hs : (a == sysModules) = false) : ∃ o, At w B h a o cs := by
  obtain ⟨o, es, ep, h1, h2, h3, h4⟩ := D
  exact ⟨o, h1, h2, ⟨es, ep, h3, by rw [h4, List.map_map]; rfl⟩, ok, hl, hs⟩
theorem GoodK.put {l : Tbl} (g : GoodK l) {k : Dt} (v : Dt) (hk : keyable k = true) (hd : (nk k).depth ≤ 8) : GoodK (putP l k v) := by
  refine ⟨fun x hx => ?_, ?_⟩
  · unfold putP at hx
    split at hx
    · obtain ⟨y, hy, rfl⟩ := List.mem_map.mp hx
      split <;> exact g.ka y hy
    · rcases List.mem_append.mp hx with z | z
      · exact g.ka x z
      · rw [List.mem_singleton.mp z]; exact ⟨hk, hd⟩
  · unfold putP
    split
    · rw [List.map_map]
      have e : ((fun x : Dt × Dt => nk x.1) ∘ fun x => if nk x.1 = nk k then (x.1, v) else x) = fun x => nk x.1 := by
        funext x; show nk (if nk x.1 = nk k then (x.1, v) else x).1 = nk x.1; split <;> rfl
      rw [e]; exact g.nd
    · next hn =>
      rw [List.map_append, List.nodup_append]
      exact ⟨g.nd, by simp, fun a ha b hb e => hn (by have z : b = nk k := List.mem_singleton.mp hb; rw [← z, ← e]; exact ha)⟩
theorem GoodK.nil : GoodK [] := ⟨fun _ h => (nomatch h), List.nodup_nil⟩
theorem GoodK.merge : ∀ {ps l : Tbl}, GoodK l → (∀ x ∈ ps, keyable x.1 = true ∧ (nk x.1).depth ≤ 8) → GoodK (mergeP l ps)
  | [], _, g, _ => g
  | p :: ps, l, g, h => GoodK.merge (l := putP l p.1 p.2) (g.put p.2 (h p List.mem_cons_self).1 (h p List.mem_cons_self).2) fun x hx => h x (List.mem_cons_of_mem _ hx)
end Dat

set_option Elab.async false
set_option linter.all false
set_option maxRecDepth 100000
set_option maxHeartbeats 4000000
/-! Mx3: what is done with dicts of keys of any kinds. -/
namespace Dat
open PySem PySem.Spec PyProof.Rows L2 Mx
/-- pairs that stand in a list: the tuples, and what each holds -/
theorem pair_cells {X : Cx} {pins : List (Addr × Obj)} {σ : L2.St} {B H : Hp} {s : Shared} (I : Inv X pins σ H s) (eB : Ex B H) : ∀ {l : Tbl} {xs : List V} {its : List Value}, DqA B xs (l.map fun p => Dt.tup [p.1, p.2]) → Vals xs its → (∀ x ∈ l, keyable x.1 = true ∧ (nk x.1).depth ≤ 8) →
    ∃ ps : List (Addr × Cell), its = ps.map (fun p => Value.ref p.1) ∧ l = ps.map (·.2.pr) ∧ (∀ p ∈ ps, p.2.Ok B) ∧ ∀ p ∈ ps, s.heap.IsTuple p.1 #[p.2.key, p.2.val]
  | [], _, _, .nil, .nil, _ => ⟨[], rfl, rfl, fun _ h => (nomatch h), fun _ h => (nomatch h)⟩
  | p :: l, _, _, q, r, g => by
    rw [List.map_cons] at q
    cases q with
    | cons q1 q2 =>
      cases r with
      | cons r1 r2 =>
        obtain ⟨ps, e1, e2, e3, e4⟩ := pair_cells I eB q2 r2 fun x hx => g x (List.mem_cons_of_mem _ hx)
        cases q1 with
        | @tup a vs _ ha hx =>
          cases hx with
          | cons x1 x2 =>
            cases x2 with
            | cons x2 x3 =>
              cases x3
              rename_i u hu v1 v2
              obtain ⟨_, us, rv, o, ho, hc, n, hd⟩ := (show ObjOk X.prog X.w H s.heap _ (.tup _) from I.hok _ _ (eB _ _ ha))
              obtain ⟨w1, w2, rfl, rk, rw2⟩ := vals2 rv
              obtain ⟨pk, pv⟩ := p
              obtain rfl := (show _ = Value.ref a from r1)
              refine ⟨(a, ⟨w1, w2, v1, v2, pk, pv⟩) :: ps, by rw [e1]; rfl, by rw [List.map_cons, ← e2]; rfl, fun q hq => ?_, fun q hq => ?_⟩
              · rcases List.mem_cons.mp hq with z | z
                · rw [z]; exact ⟨rk, rw2, x1, x2, (g _ List.mem_cons_self).1, (g _ List.mem_cons_self).2⟩
                · exact e3 q z
              · rcases List.mem_cons.mp hq with z | z
                · rw [z]; exact ⟨o, ho, hc, n, hd⟩
                · exact e4 q z
def mergeC (cs ps : List Cell) : List Cell := ps.foldl putC cs
theorem mergeC_pr : ∀ (ps cs : List Cell), (mergeC cs ps).map Cell.pr = mergeP (cs.map Cell.pr) (ps.map Cell.pr)
  | [], _ => rfl
  | p :: ps, cs => by
    show (mergeC (putC cs p) ps).map Cell.pr = mergeP (putP (cs.map Cell.pr) p.kd p.vd) (ps.map Cell.pr)
    rw [mergeC_pr ps, putC_pr]
theorem mergeC_ok {B : Hp} : ∀ {ps cs : List Cell}, (∀ c ∈ cs, c.Ok B) → (∀ c ∈ ps, c.Ok B) → ∀ c ∈ mergeC cs ps, c.Ok B
  | [], _, h, _ => h
  | p :: ps, cs, h, hp => by
    show ∀ c ∈ mergeC (putC cs p) ps, c.Ok B
    exact mergeC_ok (putC_ok h (hp p List.mem_cons_self)) fun c hc => hp c (List.mem_cons_of_mem _ hc)
theorem mergeC_len : ∀ (ps cs : List Cell), (mergeC cs ps).length ≤ cs.length + ps.length
  | [], _ => Nat.le_refl _
  | p :: ps, cs => by
    have h1 := mergeC_len ps (putC cs p)
    have h2 := putC_len cs p
    show (mergeC (putC cs p) ps).length ≤ _
    rw [List.length_cons]; omega
theorem mergeC_succ (ps : List Cell) (cs : List Cell) (i : Nat) (c : Cell) (h : ps[i]? = some c) : mergeC cs (ps.take (i + 1)) = putC (mergeC cs (ps.take i)) c := by
  unfold mergeC
  rw [List.take_add_one, h, List.foldl_append]; rfl
section
variable {X : Cx} {w : Wd} {ρ : List SV} {μ : Mus} {R : SV → Mus → Prop}
/-- the raw call: dict(pairs) -/
theorem dict_raw {pins : List (Addr × Obj)} {σ : L2.St} {H : Hp} {s : Shared} {Q : Value → Shared → Prop} {E : Value → Shared → Prop} {a : Addr} {ps : List (Addr × Cell)} {k : Nat} (hr : Room k X.A) (I : Inv X pins σ H s) (hl : PlainSeq "list" s.heap a (ps.map fun p => Value.ref p.1).toArray)
    (ok : ∀ p ∈ ps, p.2.Ok H) (tp : ∀ p ∈ ps, s.heap.IsTuple p.1 #[p.2.key, p.2.val]) (hz : ps.length ≤ 100000)
    (h : ∀ h' tk, DV X.w h' s.heap.objs.size ((mergeC [] (ps.map (·.2))).map Cell.row) → (∀ b o, s.heap.get? b = some o → h'.get? b = some o) → Q (.ref s.heap.objs.size) { s with heap := h', toks := tk }) :
    wpAny (model X.prog X.w) X.A (call (.type "dict") [.ref a]) Q E s := by
  have hu := hr.un
  have PI : PairItems s.heap (ps.map fun p => Value.ref p.1).toArray (fun j => ((ps[j]?).map (·.1)).getD 0) (ps.map fun p => (p.2.key, p.2.val)) := ⟨by simp, fun j x y e => by
    rw [List.getElem?_map] at e
    cases e2 : ps[j]? with
    | none => rw [e2] at e; cases e
    | some p => rw [e2] at e; cases e; exact ⟨by simp [e2], by simp only [e2, Option.map_some, Option.getD_some]; exact .inl (tp p (List.mem_of_getElem? e2))⟩⟩
  have bare : ∀ b o, s.heap.get? b = some o → b ≠ s.heap.objs.size := fun b o e => Nat.ne_of_lt (Heap.lt_size e)
  have cok : ∀ c ∈ ps.map (·.2), c.Ok H := fun c hc => by obtain ⟨p, hp, rfl⟩ := List.mem_map.mp hc; exact ok p hp
  refine call_dict_arg (PairArg.list a _ _ _) ⟨hl, PI⟩ fun s₁ hs₁ hdf ok₁ => ?_
  subst hs₁
  have isAt : ∀ (h' : Heap) (c : Cell), (∀ b o, b ≠ s.heap.objs.size → s.heap.get? b = some o → h'.get? b = some o) → c.Ok H → NestedIs h' c.k c.key := fun h' c kp hc => (hc.is I).at fun b o vs n e _ => kp b o (bare b o e) e
  refine updateFrom_arg (A := X.A.in1) (Tab := fun i h => DV X.w h s.heap.objs.size ((mergeC [] ((ps.map (·.2)).take i)).map Cell.row) ∧ ∀ b o, b ≠ s.heap.objs.size → s.heap.get? b = some o → h.get? b = some o) (PairArg.list a _ _ _) .none hr.hd ok₁ hdf ?_ ?_ ?_ ?_ ?_
  · exact ⟨⟨_, #[], 0, Heap.get?_push_size _ rfl, ⟨rfl, rfl, rfl⟩, rfl, rfl⟩, fun b o _ e => Heap.get?_push_of_some _ e⟩
  · rintro i h' ⟨⟨o, _, _, ho, _⟩, _⟩; exact Heap.lt_size ho
  · rintro i h' h2 wr' hd hw ⟨⟨o, es, ep, ho, hc, hdd, he⟩, kp⟩ hk
    refine ⟨⟨o, es, ep, hk _ _ hd ho, hc, hdd, he⟩, fun b ob hb e => hk b ob (fun hm => ?_) (kp b ob hb e)⟩
    rcases hw b hm with z | z
    · cases z
    · rw [Heap.get?_push_of_some _ e] at z; cases z
  · rintro i x y s2 Q2 E2 hi rel ⟨D, kp⟩ _ hQ
    have rel2 : (ps.map fun p => (p.2.key, p.2.val))[i]? = some (x, y) := rel
    rw [List.getElem?_map] at rel2
    cases e2 : ps[i]? with
    | none => rw [e2] at rel2; cases rel2
    | some p =>
      rw [e2] at rel2; cases rel2
      have hc := ok p (List.mem_of_getElem? e2)
      have e3 : (ps.map (·.2))[i]? = some p.2 := by rw [List.getElem?_map, e2]; rfl
      have tok : ∀ c ∈ mergeC [] ((ps.map (·.2)).take i), c.Ok H := mergeC_ok (fun _ z => (nomatch z)) fun c z => cok c (List.mem_of_mem_take z)
      have gk : GoodK ((mergeC [] ((ps.map (·.2)).take i)).map Cell.pr) := by
        rw [mergeC_pr]
        refine GoodK.merge GoodK.nil fun x hx => ?_
        obtain ⟨c, hcm, rfl⟩ := List.mem_map.mp hx
        exact ⟨(cok c (List.mem_of_mem_take hcm)).ka, (cok c (List.mem_of_mem_take hcm)).dp⟩
      have K : Ks s2.heap ((mergeC [] ((ps.map (·.2)).take i)).map Cell.row) := ⟨fun x hx => by
        obtain ⟨c, hcm, rfl⟩ := List.mem_map.mp hx
        exact ⟨isAt s2.heap c kp (tok c hcm), (tok c hcm).dp⟩, by have := gk.nd; rw [List.map_map] at this ⊢; exact this⟩
      have len := mergeC_len ((ps.map (·.2)).take i) []
      rw [List.length_take, List.length_map, List.length_nil] at len
      refine Mx.set (A := X.A.in1.in1) (k := p.2.k) (by show X.A.units + 1 + 1 + 8 < _; omega) (isAt s2.heap p.2 kp hc) hc.dp D K (by rw [List.length_map, sizeLine_eq]; omega) fun h' tk D' K' sb => ?_
      refine hQ h' tk ⟨?_, fun b o hb e => (sb.2 b hb).trans (kp b o hb e)⟩ sb
      rw [mergeC_succ _ _ i p.2 e3, putC_row]; exact D'
  · intro h' tk ⟨D, kp⟩ _
    have e : (ps.map (·.2)).take (ps.map fun p => (p.2.key, p.2.val)).length = ps.map (·.2) := List.take_of_length_le (by rw [List.length_map, List.length_map]; exact Nat.le_refl _)
    rw [e] at D
    exact ⟨rfl, h h' tk D fun b o z => kp b o (bare b o z) z⟩
/-- a new table becomes data -/
theorem new_tb {pins : List (Addr × Obj)} {σ : L2.St} {B H : Hp} {s : Shared} {h' : Heap} {tk : Nat} {cs : List Cell} (J : Inv X pins σ H s) (I : SInv w B H μ) (kp : ∀ b o, s.heap.get? b = some o → h'.get? b = some o) (D : DV X.w h' s.heap.objs.size (cs.map Cell.row)) (ok : ∀ c ∈ cs, c.Ok B) (hl : cs.length ≤ sizeLine) :
    ∃ o, Inv X pins σ (upd H s.heap.objs.size (mxo s.heap.objs.size o (cs.map (Cell.tri X.w)))) { s with heap := h', toks := tk } ∧ SInv w (upd B s.heap.objs.size (mxo s.heap.objs.size o (cs.map (Cell.tri X.w)))) (upd H s.heap.objs.size (mxo s.heap.objs.size o (cs.map (Cell.tri X.w)))) μ ∧
      Ex B (upd B s.heap.objs.size (mxo s.heap.objs.size o (cs.map (Cell.tri X.w)))) ∧ Dq (upd B s.heap.objs.size (mxo s.heap.objs.size o (cs.map (Cell.tri X.w)))) (.ref s.heap.objs.size) (mixD X.w (cs.map Cell.pr)) := by
  have hs : (s.heap.objs.size == sysModules) = false := beq_eq_false_iff_ne.mpr (Nat.ne_of_gt J.big)
  obtain ⟨o, A⟩ := at_dv D ok hl hs
  have fr : H s.heap.objs.size = none := J.hok.fresh (Nat.le_refl _)
  have hb := (I.free fr).1
  exact ⟨o, J.laid kp (Nat.le_refl _) (mxo_ok A.get A.mx (by rw [List.length_map]; exact hl) hs), I.new fr _, Ex.new hb, mixD_dq upd_same fun c hc => (ok c hc).mono (Ex.new hb)⟩
theorem ca_dictL {r : SV} {l : Tbl} {k : Nat} (hr : Room k X.A) (h1 : LsQ r μ (l.map fun p => Dt.tup [p.1, p.2])) (hk : ∀ x ∈ l, keyable x.1 = true ∧ (nk x.1).depth ≤ 8) (hl : l.length ≤ 100000) (h : R (.dat (mixD X.w (mergeP [] l))) μ) : CaD X w (.type "dict") [r] μ R := fun B H vs I q Q kk pins s σ us J rv => by
  obtain ⟨v, rfl, q1⟩ := q.one
  obtain ⟨u, rfl, r1⟩ := vals1 rv
  obtain ⟨a, xs, rfl, ha, hx⟩ := ls_get I q1 h1
  obtain rfl : u = Value.ref a := r1
  obtain ⟨_, its, n, rvs, ho⟩ := (show ObjOk X.prog X.w H s.heap a (.lst xs) from J.hok a _ ha)
  obtain ⟨ps, e1, e2, e3, e4⟩ := pair_cells J I.bh hx rvs hk
  subst e1
  refine dict_raw hr J ⟨_, n, ho, rfl, rfl, rfl⟩ (fun p hp => (e3 p hp).mono I.bh) e4 (by rw [e2, List.length_map] at hl; exact hl) fun h' tk D kp => ?_
  obtain ⟨o, J2, I2, ex, q2⟩ := new_tb (tk := tk) J I kp D (mergeC_ok (fun _ z => (nomatch z)) fun c hc => by obtain ⟨p, hp, rfl⟩ := List.mem_map.mp hc; exact e3 p hp) (by
    have z := mergeC_len (ps.map (·.2)) []
    rw [e2, List.length_map] at hl
    rw [List.length_map, List.length_nil] at z; rw [sizeLine_eq]; omega)
  refine ⟨.ref s.heap.objs.size, _, J2, rfl, kk _ (.dat (mixD X.w (mergeP [] l))) _ _ μ I2 ex ?_ h⟩
  rw [mergeC_pr, List.map_map] at q2
  rw [e2]; exact q2
end
end Dat

set_option Elab.async false
set_option linter.all false
set_option maxRecDepth 100000
set_option maxHeartbeats 4000000
/-! Mx4: walks over dicts of keys of any kinds. -/
namespace Dat
open PySem PySem.Spec PyProof.Rows L2 Mx
abbrev Tri := Int × V × V
def ItK (d : Addr) (o : Obj) (l : List Tri) : It := ⟨fun i H => H d = some (mxo d o l) ∧ i < l.length, fun i H x H' => H' = H ∧ ∃ t, l[i]? = some t ∧ x = t.2.1, fun i H => H d = some (mxo d o l) ∧ l.length ≤ i⟩
def ItI (d : Addr) (o : Obj) (l : List Tri) : It := ⟨fun i H => H d = some (mxo d o l) ∧ i < l.length, fun i H x H' => ∃ T t, l[i]? = some t ∧ x = .ref T ∧ H T = none ∧ H' = upd H T (.tup [t.2.1, t.2.2]), fun i H => H d = some (mxo d o l) ∧ l.length ≤ i⟩
theorem mx_get {es : Array DictEntry} {l : List Tri} (p : Paired (fun (e : DictEntry) (x : Int × V × V) => e.hash = x.1 ∧ RelV x.2.1 e.key ∧ RelV x.2.2 e.val) es.toList l) {i : Nat} (hi : i < l.length) :
    ∃ (he : i < es.size) (t : Tri), l[i]? = some t ∧ RelV t.2.1 es[i].key ∧ RelV t.2.2 es[i].val := by
  have he : i < es.size := by rw [← Array.length_toList, Paired.length p]; exact hi
  obtain ⟨t, h1, _, h2, h3⟩ := LiI.paired_get p (i := i) (x := es[i]) (by rw [Array.getElem?_toList, Array.getElem?_eq_getElem he])
  exact ⟨he, t, h1, h2, h3⟩
section
variable {P : Program} {wd : World} {K : PySem.W.Frag} {tg : Expr} {d : Addr} {o : Obj} {es : Array DictEntry} {ep : Nat} {l : List Tri}
theorem turnK (it : Addr) (hod : o.data = .dict es ep) (hz : es.size = l.length) : Turn P wd K tg (ItK d o l) [it] it (fun i h => h.IsKeyIter it d i l.length ep) where
  mem := List.mem_singleton.mpr rfl
  obj := fun i h st b hb => by
    obtain rfl := List.mem_singleton.mp hb
    obtain ⟨oi, e, c, dd⟩ := st
    exact ⟨oi, e, fun v z => by rw [dd] at z; cases z⟩
  keep := fun i h h' st k => st.at fun oi e => k it (List.mem_singleton.mpr rfl) oi e
  item := by
    intro X hP hw hK hc i pins s σ H E I hf st hg
    subst hP hw hK; obtain ⟨hd, hi⟩ := hg
    obtain ⟨g0, g1, g2, g3, g4, g5⟩ := hf it (List.mem_singleton.mpr rfl)
    obtain ⟨m1, ⟨es', ep', m2, m3, m4⟩, m5, m6⟩ := mxo_at I.hok hd
    obtain ⟨rfl, rfl⟩ := dict_ep hod m3
    obtain ⟨he, t, t1, t2, t3⟩ := mx_get m4 hi
    refine next_key_item st m1 m3 hz (Array.getElem?_eq_getElem he) fun h' st' sb => ?_
    have I1 : Inv X pins σ H { s with heap := h' } := I.turned (t' := s.toks) (fun b ob hb e => (sb.2 b hb).trans e) g0 g1 g3 g4 g5
    obtain ⟨oi, e, c, dd⟩ := id st'
    exact ⟨_, rfl, go_of (s := { s with heap := h' }) e c dd (by decide) ⟨t.2.1, H, I1, t2, ⟨rfl, t, t1, rfl⟩, st', fun b hb => (hf b hb).1⟩⟩
  done := by
    intro X hP hw hK hc i pins s σ H E I hf st hg
    subst hP hw hK; obtain ⟨hd, hi⟩ := hg
    obtain ⟨g0, g1, g2, g3, g4, g5⟩ := hf it (List.mem_singleton.mpr rfl)
    obtain ⟨m1, ⟨es', ep', m2, m3, m4⟩, m5, m6⟩ := mxo_at I.hok hd
    obtain ⟨rfl, rfl⟩ := dict_ep hod m3
    exact next_key_end (I.ok.hd hc) st m1 m3 hz hi fun h' eb => ⟨rfl, I.turned (t' := s.toks) (fun b ob hb e => eb b ob hb e) g0 g1 g3 g4 g5⟩
  self := fun A i s Q E st h => by
    refine wpAny_pyIter_slot st.typeIs F.slot_dict_keyiterator_iter (wpAny_call_entry F.slot_dict_keyiterator_iter st.typeIs F.entry_dict_keyiterator_iter ?_ (F.args_dict_keyiterator_iter_1 _))
    show wpAny _ _ (ret (.ref it)) _ _ s; exact wpAny_pure ⟨_, rfl, "dict_keyiterator", _, st.typeIs, F.slot_dict_keyiterator_next.lookup, h⟩
theorem turnI {elts : List Expr} {kk : Nat} {tpos : Pos} (it : Addr) (hod : o.data = .dict es ep) (hz : es.size = l.length) :
    Turn P wd K (.Tuple elts kk tpos) (ItI d o l) [it] it (fun i h => ∃ ok ov, IsItemIter h it d i l.length ep ok ov) where
  mem := List.mem_singleton.mpr rfl
  obj := fun i h st b hb => by
    obtain rfl := List.mem_singleton.mp hb
    obtain ⟨ok, ov, e⟩ := st
    exact ⟨_, e, fun v z => nomatch z⟩
  keep := fun i h h' st k => let ⟨ok, ov, e⟩ := st; ⟨ok, ov, k it (List.mem_singleton.mpr rfl) _ e⟩
  item := by
    intro X hP hw hK hc i pins s σ H E I hf st hg
    subst hP hw hK; obtain ⟨hd, hi⟩ := hg
    obtain ⟨m1, ⟨es', ep', m2, m3, m4⟩, m5, m6⟩ := mxo_at I.hok hd
    obtain ⟨rfl, rfl⟩ := dict_ep hod m3
    obtain ⟨he, t, t1, t2, t3⟩ := mx_get m4 hi
    obtain ⟨ok, ov, hit⟩ := st
    rw [← hz] at hit
    have hlt : it < s.heap.objs.size := Heap.lt_size hit
    refine wpAny_pyNext_items_item_raw hit ⟨o, m1, m2, m3⟩ he fun h' ho hT hsz hk => ?_
    refine ⟨_, rfl, wpAny_letOwnedTupleGo_items (s := { s with heap := h' }) ho fun h'' he' sb => ?_⟩
    have hT2 := (sb.2 _ (Nat.ne_of_gt hlt)).trans hT
    have new : ObjOk X.prog X.w (upd H s.heap.objs.size (.tup [t.2.1, t.2.2])) h'' s.heap.objs.size (.tup [t.2.1, t.2.2]) := ⟨by show 2 ≤ sizeLine; decide, [_, _], .cons t2 (.cons t3 .nil), ⟨_, hT2, rfl, _, rfl⟩⟩
    have I1 : Inv X pins σ (upd H s.heap.objs.size (.tup [t.2.1, t.2.2])) { s with heap := h'' } :=
      I.turnedNew (t' := s.toks) (ch := [it]) (fun b ob hb e => (sb.2 b (fun z => hb (List.mem_singleton.mpr z))).trans (hk b ob (fun z => hb (List.mem_singleton.mpr z)) e)) hf (Nat.le_refl _) new
    refine ⟨.ref s.heap.objs.size, _, I1, rfl, ⟨_, t, t1, rfl, I.hok.fresh (Nat.le_refl _), rfl⟩, ⟨_, _, by rw [← hz]; exact he'⟩, fun b hb => ?_⟩
    obtain rfl := List.mem_singleton.mp hb
    rw [upd_ne (Nat.ne_of_lt hlt)]; exact (hf b hb).1
  done := by
    intro X hP hw hK hc i pins s σ H E I hf st hg
    subst hP hw hK; obtain ⟨hd, hi⟩ := hg
    obtain ⟨g0, g1, g2, g3, g4, g5⟩ := hf it (List.mem_singleton.mpr rfl)
    obtain ⟨m1, ⟨es', ep', m2, m3, m4⟩, m5, m6⟩ := mxo_at I.hok hd
    obtain ⟨rfl, rfl⟩ := dict_ep hod m3
    obtain ⟨ok, ov, hit⟩ := st
    rw [← hz] at hit hi
    exact wpAny_pyNext_items_end_raw (I.ok.hd hc) hit ⟨o, m1, m2, m3⟩ hi fun h' eb => ⟨rfl, I.turned (t' := s.toks) (fun b ob hb e => eb b ob hb e) g0 g1 g3 g4 g5⟩
  self := fun A i s Q E st h => let ⟨_, _, e⟩ := st; wpAny_pyIter_itemiter e h
end
section
variable {X : Cx} {w : Wd} {ρ : List SV} {μ : Mus} {tg e : Expr} {apos cpos : Pos}
/-- what is a table -/
def TbD (X : Cx) (r : SV) (l : Tbl) : Prop := ∃ hs, r = .dat (.mix hs (l.map (·.1)) (l.map (·.2)))
theorem tbD_get {B : Hp} {v : V} {l : Tbl} {hs : List Int} (q : Dq B v (.mix hs (l.map (·.1)) (l.map (·.2)))) : ∃ a o l', v = .ref a ∧ B a = some (mxo a o l') ∧ DqA B (l'.map (·.2.1)) (l.map (·.1)) ∧ DqA B (l'.map (·.2.2)) (l.map (·.2)) ∧ l'.length = l.length := by
  cases q with
  | mix ha hk hv => exact ⟨_, _, _, rfl, ha, hk, hv, by have := hk.length; rw [List.length_map, List.length_map] at this; exact this⟩
theorem pi_keysX {td : TE} (he : PE X e td) : PI X tg e (fun σ H R => td σ H fun x H1 => ∃ d o l, x = .ref d ∧ H1 d = some (mxo d o l) ∧ R (ItK d o l) H1) := by
  refine ⟨fun pins s σ H R I h => thn (he.run pins s σ H _ I h) fun u s1 ⟨x, H1, I1, rx, d, o, l, ex, hd, q⟩ => ?_⟩
  subst ex
  obtain rfl : u = Value.ref d := rx
  obtain ⟨m1, ⟨es, ep, m2, m3, m4⟩, m5, m6⟩ := mxo_at I1.hok hd
  have hz : es.size = l.length := by rw [← Array.length_toList, Paired.length m4]
  refine iter_keys m6 m1 m2 m3 (pi_one (tk := s1.toks) I1 _ (turnK _ m3 hz) ⟨_, Heap.get?_push_size _ rfl, rfl, ?_⟩ q)
  rw [hz] <;> rfl
theorem pi_itemsX {elts : List Expr} {kk : Nat} {tpos : Pos} {td : TE} (he : PE X e td) (hbase : attributeBase e "items" X.env (eval e X.env) = eval e X.env := by rfl) (hline : (apos.endLine == cpos.line) = true := by rfl) :
    PI X (.Tuple elts kk tpos) (.Call (.Attribute e "items" apos) [] [] cpos) (fun σ H R => td σ H fun x H1 => ∃ d o l, x = .ref d ∧ H1 d = some (mxo d o l) ∧ R (ItI d o l) H1) := by
  refine ⟨fun pins s σ H R I h => wpAny_Call_method (T := "dict") (id := "dict.items") hbase rfl hline F.plainAttrs_dict F.slot_dict_items F.type_dict_items (thn (he.run pins s σ H _ I h) fun u s1 ⟨x, H1, I1, rx, d, o, l, ex, hd, q⟩ => ?_)⟩
  subst ex
  obtain rfl : u = Value.ref d := rx
  obtain ⟨m1, ⟨es, ep, m2, m3, m4⟩, m5, m6⟩ := mxo_at I1.hok hd
  have hz : es.size = l.length := by rw [← Array.length_toList, Paired.length m4]
  have raw : s1.heap.DictRaw d es ep := ⟨o, m1, m2, m3⟩
  refine ⟨raw.typeIs, fun b z => by cases z; exact ⟨o, m1, m2.2.1⟩, ?_⟩
  have I2 : Inv X pins σ H1 { s1 with heap := s1.heap.push { cls := .type "dict_items", data := .fields #[.ref d] } } := I1.kept (t' := s1.toks) fun b ob q => Heap.get?_push_of_some _ q
  have fin : wpAny (model X.prog X.w) X.A (pyIter (.ref s1.heap.objs.size)) (PIE X pins σ (.Tuple elts kk tpos) R) X.xe { s1 with heap := s1.heap.push { cls := .type "dict_items", data := .fields #[.ref d] } } := by
    refine wpAny_pyIter_items_raw (d := d) (es := es) (ep := ep) ⟨_, Heap.get?_push_size _ rfl, rfl, rfl⟩ (raw.at fun o e => Heap.get?_push_of_some _ e) (pi_one (tk := s1.toks) I2 _ (turnI _ m3 hz) ⟨.none, .none, ?_⟩ q)
    rw [← hz]; exact Heap.get?_push_size _ rfl
  show wpAny _ _ (callWith cpos (.builtin "dict.items") [.ref d] [] []) _ X.xe s1
  exact method_meetsIn F.slot_dict_items F.entry_dict_items rfl (PySem.evalArgs_none ⟨rfl, raw.typeIs, F.args_dict_items_1 _, _, meets_dict_items_raw d m6, ⟨⟨es, ep, raw⟩, fin⟩⟩)
theorem di_keysT {R : List Dt → Mus → Prop} (h : DE X w e ρ μ fun r μ' => ∃ l, TbD X r l ∧ R (l.map (·.1)) μ') : DI X w tg e ρ μ R := fun σ B H S I RR k =>
  tI_of (pi_keysX pe_self) (h σ B H S I _ fun v r B1 H1 μ1 I1 e1 q1 h1 => by
    obtain ⟨l, ⟨hs, rfl⟩, h1⟩ := h1
    obtain ⟨a, o, l', rfl, ha, hk, hv, hl⟩ := tbD_get q1
    refine ⟨a, o, l', rfl, I1.bh _ _ ha, k (ItK a o l') (l.map (·.1)) B1 H1 μ1 I1 e1 ⟨fun i H hi e => ⟨e _ _ ha, by rw [List.length_map] at hi; omega⟩, fun H e => ⟨e _ _ ha, by rw [List.length_map]; omega⟩, fun i H x H' hi e y => ?_⟩ h1⟩
    obtain ⟨e1, t, t1, rfl⟩ := y
    obtain ⟨d, d1, d2⟩ := hk.getV (i := i) (v := t.2.1) (by rw [List.getElem?_map, t1]; rfl)
    exact ⟨d, d1, .inl ⟨e1, d2⟩⟩)
def pairD (p : Dt × Dt) : Dt := .tup [p.1, p.2]
theorem di_itemsT {elts : List Expr} {kk : Nat} {tpos : Pos} {R : List Dt → Mus → Prop} (h : DE X w e ρ μ fun r μ' => ∃ l : Tbl, TbD X r l ∧ R (l.map pairD) μ') (hbase : attributeBase e "items" X.env (eval e X.env) = eval e X.env := by rfl) (hline : (apos.endLine == cpos.line) = true := by rfl) :
    DI X w (.Tuple elts kk tpos) (.Call (.Attribute e "items" apos) [] [] cpos) ρ μ R := fun σ B H S I RR k =>
  tI_of (pi_itemsX pe_self hbase hline) (h σ B H S I _ fun v r B1 H1 μ1 I1 e1 q1 h1 => by
    obtain ⟨l, ⟨hs, rfl⟩, h1⟩ := h1
    obtain ⟨a, o, l', rfl, ha, hk, hv, hl⟩ := tbD_get q1
    refine ⟨a, o, l', rfl, I1.bh _ _ ha, k (ItI a o l') (l.map pairD) B1 H1 μ1 I1 e1 ⟨fun i H hi e => ⟨e _ _ ha, by rw [List.length_map] at hi; omega⟩, fun H e => ⟨e _ _ ha, by rw [List.length_map]; omega⟩, fun i H x H' hi e y => ?_⟩ h1⟩
    obtain ⟨T, t, t1, rfl, hT, rfl⟩ := y
    obtain ⟨d, d1, d2⟩ := hk.getV (i := i) (v := t.2.1) (by rw [List.getElem?_map, t1]; rfl)
    obtain ⟨d', d3, d4⟩ := hv.getV (i := i) (v := t.2.2) (by rw [List.getElem?_map, t1]; rfl)
    rw [List.getElem?_map] at d1 d3
    cases el : l[i]? with
    | none => rw [el] at d1; cases d1
    | some p =>
      rw [el] at d1 d3; cases d1; cases d3
      exact ⟨pairD p, by rw [List.getElem?_map, el]; rfl, .inr ⟨T, [t.2.1, t.2.2], [p.1, p.2], rfl, hT, rfl, .cons d2 (.one d4), rfl⟩⟩)
end
end Dat

set_option Elab.async false
set_option linter.all false
set_option maxRecDepth 100000
set_option maxHeartbeats 4000000
/-! Mx5: more that is done with dicts of keys of any kinds. -/
namespace Dat
open PySem PySem.Spec PyProof.Rows L2 Mx
/-- new objects N put on H -/
def over (N H : Hp) : Hp := fun b => match N b with | some u => some u | none => H b
theorem over_old {N H : Hp} {b : Addr} (h : N b = none) : over N H b = H b := by unfold over; rw [h]
theorem over_new {N H : Hp} {b : Addr} {u : HO} (h : N b = some u) : over N H b = some u := by unfold over; rw [h]
theorem over_ext {N H : Hp} (h : ∀ b, N b ≠ none → H b = none) : Ex H (over N H) := fun b u e => by
  cases n : N b with
  | none => rw [over_old n]; exact e
  | some v => rw [h b (by rw [n]; exact nofun)] at e; cases e
theorem SInv.adopt {w : Wd} {B H : Hp} {μ : Mus} (I : SInv w B H μ) {N : Hp} (h : ∀ b, N b ≠ none → H b = none) : SInv w (over N B) (over N H) μ ∧ Ex B (over N B) := by
  have hB : ∀ b, N b ≠ none → B b = none := fun b n => I.bh.none (h b n)
  have off : ∀ q, H q ≠ none → N q = none := fun q hq => by
    cases e : N q with
    | none => rfl
    | some u => exact absurd (h q (by rw [e]; exact nofun)) hq
  refine ⟨⟨I.b0.trans (over_ext hB), fun q u hq => ?_, fun q u hM hq => ?_, fun q hq => ?_, fun q hq hb => ?_, fun q u hq => ?_⟩, over_ext hB⟩
  · cases n : N q with
    | none => rw [over_old n] at hq ⊢; exact I.bh q u hq
    | some v => rw [over_new n] at hq ⊢; exact hq
  · have e := I.keep q u hM hq
    rw [over_old (off q (by rw [e]; exact nofun))]; exact e
  · rw [over_old (off q (I.there q hq))]; exact I.there q hq
  · rw [over_old (off q (I.there q hq))]; exact I.out q hq hb
  · obtain ⟨h1, h2, h3⟩ := I.mus q u hq
    have nn := off q h2.there
    exact ⟨by rw [over_old nn]; exact h1, h2.mono (over_ext hB) (over_old nn), h3⟩
theorem inv_adopt {X : Cx} {pins : List (Addr × Obj)} {σ : L2.St} {H : Hp} {s : Shared} {h' : Heap} {tk : Nat} {N : Hp} (I : Inv X pins σ H s) (kp : ∀ b o, s.heap.get? b = some o → h'.get? b = some o) (hi : ∀ b, N b ≠ none → s.heap.objs.size ≤ b) (ok : ∀ b u, N b = some u → ObjOk X.prog X.w (over N H) h' b u) :
    Inv X pins σ (over N H) { s with heap := h', toks := tk } := by
  have fr : ∀ b, N b ≠ none → H b = none := fun b n => I.hok.fresh (hi b n)
  have ex := over_ext (H := H) fr
  refine I.call' (ch := []) rfl ⟨fun b o q _ _ _ => kp b o q, fun b o q _ _ _ => ⟨o.slots, kp b o q⟩, fun b o q n _ => ?_, fun b o q _ => ⟨o, kp b o q⟩, fun b xs q => ex b _ q, fun b o u q => ex b _ q, fun b ps q => ⟨#[], by rw [ex b _ q]; simp⟩⟩ (fun b u q => ?_) I.bare fun b z => by simp at z
  · cases e : N b with
    | none => rw [over_old e]; exact n
    | some u => exact absurd (Heap.lt_size q) (Nat.not_lt.mpr (hi b (by rw [e]; exact nofun)))
  · cases e : N b with
    | none => rw [over_old e] at q; exact (I.hok b u q).stay (fun d v _ y => kp d v y) (fun d y => ex d _ y) fun d xs y => ex d _ y
    | some v => rw [over_new e] at q; cases q; exact ok b u e
def putT2 : Hp → List Addr → List (V × V) → Hp
  | N, a :: as, t :: ts => putT2 (upd N a (.tup [t.1, t.2])) as ts
  | N, _, _ => N
theorem putT2_off {b : Addr} : ∀ (as : List Addr) (ts : List (V × V)) (N : Hp), b ∉ as → putT2 N as ts b = N b
  | [], _, _, _ => rfl
  | _ :: _, [], _, _ => rfl
  | a :: as, t :: ts, N, h => by
    show putT2 (upd N a _) as ts b = N b
    rw [putT2_off as ts _ (fun z => h (List.mem_cons_of_mem _ z)), upd_ne fun z => h (by rw [z]; exact List.mem_cons_self)]
theorem putT2_at : ∀ (as : List Addr) (ts : List (V × V)) (N : Hp) {j : Nat} {a : Addr} {t : V × V}, as.Nodup → as[j]? = some a → ts[j]? = some t → putT2 N as ts a = some (.tup [t.1, t.2])
  | [], _, _, j, _, _, _, h, _ => by simp at h
  | _ :: _, [], _, j, _, _, _, _, h => by simp at h
  | a :: as, t :: ts, N, 0, _, _, nd, h1, h2 => by
    cases h1; cases h2
    show putT2 (upd N a _) as ts a = _
    rw [putT2_off as ts _ (List.nodup_cons.mp nd).1, upd_same]
  | a :: as, t :: ts, N, j + 1, _, _, nd, h1, h2 => putT2_at as ts _ (List.nodup_cons.mp nd).2 (by simpa using h1) (by simpa using h2)
theorem dq_rows {B : Hp} : ∀ {as : List Addr} {ts : List (V × V)} {l : Tbl}, as.length = l.length → (∀ (j : Nat) a t, as[j]? = some a → ts[j]? = some t → B a = some (.tup [t.1, t.2])) → DqA B (ts.map (·.1)) (l.map (·.1)) → DqA B (ts.map (·.2)) (l.map (·.2)) → DqA B (as.map V.ref) (l.map pairD)
  | [], _, [], _, _, _, _ => .nil
  | [], _, _ :: _, h, _, _, _ => by cases h
  | _ :: _, _, [], h, _, _, _ => by cases h
  | a :: as, [], p :: l, _, _, q, _ => by cases q
  | a :: as, t :: ts, p :: l, h, g, q1, q2 => by
    cases q1 with
    | cons x1 y1 =>
      cases q2 with
      | cons x2 y2 =>
        exact .cons (.tup (g 0 a t rfl rfl) (.cons x1 (.one x2))) (dq_rows (Nat.succ.inj h) (fun j b u h1 h2 => g (j + 1) b u (by simpa using h1) (by simpa using h2)) y1 y2)
section
variable {X : Cx} {w : Wd} {ρ : List SV} {μ : Mus} {R : SV → Mus → Prop} {e : Expr} {p apos cpos pos : Pos}
/-- list(d.items()) -/
theorem de_listItems (hc : X.calm = true) (hm : X.mg "list" = none) (h : DE X w e ρ μ fun r μ1 => ∃ l : Tbl, TbD X r l ∧ R (.dat (.lst (l.map pairD))) μ1) (hg : Gl X "list" := by rfl) (hbase : attributeBase e "items" X.env (eval e X.env) = eval e X.env := by rfl) (hline : (apos.endLine == cpos.line) = true := by rfl)
    (hs : starEach [.Call (.Attribute e "items" apos) [] [] cpos] X.env = (false, eval (.Call (.Attribute e "items" apos) [] [] cpos) X.env) :: starEach [] X.env := by rfl) :
    DE X w (.Call (.Name "list" p) [.Call (.Attribute e "items" apos) [] [] cpos] [] pos) ρ μ R := fun σ B H S I Q kk pins s J => by
  refine wpAny_Call_Name_kw (ld_blt J hg hm (by decide +kernel : bootBuiltins "list" = some (.type "list")) ?_)
  refine PyProof.Rows.callWith_type1 ?_ hs rfl
  rw [hs]; show wpAny _ _ (spliced ((false, eval (.Call (.Attribute e "items" apos) [] [] cpos) X.env) :: backTo pos (starEach [] X.env))) _ _ s
  refine Calls.spliced_cons (wpAny_Call_method (T := "dict") (id := "dict.items") hbase rfl hline F.plainAttrs_dict F.slot_dict_items F.type_dict_items (thn ((pe_self (X := X) (e := e)).run pins s σ H (fun v H1 => ∃ d, v = .ref d ∧ ∃ o l, H1 d = some (mxo d o l) ∧ ∀ (h' : Heap) (s1 : Shared) (tk : Nat) (as : List Addr) (acc : Array Value) (c : Nat), Inv X pins σ H1 s1 → (∀ b o, s1.heap.get? b = some o → h'.get? b = some o) → h'.get? s1.heap.objs.size = some { cls := .type "list", dict := none, data := .seq acc c, slots := #[] } → as.length = l.length → as.Nodup → (∀ a ∈ as, s1.heap.objs.size < a) →
      (∀ (j : Nat) a t, as[j]? = some a → l[j]? = some t → ∃ x y, h'.get? a = some { cls := .type "tuple", data := .seq #[x, y] } ∧ RelV t.2.1 x ∧ RelV t.2.2 y) → acc.toList = as.map Value.ref → EP X pins σ Q (.ref s1.heap.objs.size) { s1 with heap := h', toks := tk }) J ?_) fun u s1 ⟨v, H1, I1, rx, d, ex, o, l, hd, q⟩ => ?_))
  · refine h σ B H S I _ fun v r B1 H1 μ1 I1 e1 q1 h1 => ?_
    obtain ⟨lt, ⟨hh, rfl⟩, h1⟩ := h1
    obtain ⟨a, o, l', rfl, ha, hk, hv, hl⟩ := tbD_get q1
    refine ⟨a, rfl, o, l', I1.bh _ _ ha, fun h' s1 tk as acc c J1 kp hS hal nd hab hT hacc => ?_⟩
    have hSn : s1.heap.objs.size ∉ as := fun z => Nat.lt_irrefl _ (hab _ z)
    let ts : List (V × V) := l'.map (·.2)
    have htl : ts.length = l'.length := List.length_map ..
    let N : Hp := putT2 (upd (fun _ => none) s1.heap.objs.size (.lst (as.map V.ref))) as ts
    have nS : N s1.heap.objs.size = some (.lst (as.map V.ref)) := by show putT2 _ as ts _ = _; rw [putT2_off as ts _ hSn, upd_same]
    have nA : ∀ (j : Nat) a t, as[j]? = some a → ts[j]? = some t → N a = some (.tup [t.1, t.2]) := fun j a t h1 h2 => putT2_at as ts _ nd h1 h2
    have nO : ∀ b u, N b = some u → b = s1.heap.objs.size ∧ u = .lst (as.map V.ref) ∨ ∃ (j : Nat) (t : Tri), as[j]? = some b ∧ l'[j]? = some t ∧ u = .tup [t.2.1, t.2.2] := fun b u hb => by
      by_cases hm : b ∈ as
      · obtain ⟨j, hj⟩ := List.mem_iff_getElem?.mp hm
        have hj2 : j < l'.length := by rw [← hal]; exact (List.getElem?_eq_some_iff.mp hj).1
        have e2 : l'[j]? = some l'[j] := List.getElem?_eq_getElem hj2
        refine .inr ⟨j, l'[j], hj, e2, ?_⟩
        have e3 : ts[j]? = some l'[j].2 := by show (l'.map (·.2))[j]? = _; rw [List.getElem?_map, e2]; rfl
        rw [nA j b _ hj e3] at hb; exact (Option.some.inj hb).symm
      · by_cases hs : b = s1.heap.objs.size
        · subst hs; rw [nS] at hb; exact .inl ⟨rfl, (Option.some.inj hb).symm⟩
        · have : N b = none := by show putT2 _ as ts b = none; rw [putT2_off as ts _ hm, upd_ne hs]
          rw [this] at hb; cases hb
    have nHi : ∀ b, N b ≠ none → s1.heap.objs.size ≤ b := fun b hb => by
      cases e : N b with
      | none => exact absurd e hb
      | some u =>
        rcases nO b u e with ⟨z, _⟩ | ⟨j, t, hj, _⟩
        · rw [z]; exact Nat.le_refl _
        · exact Nat.le_of_lt (hab _ (List.mem_of_getElem? hj))
    have J2 : Inv X pins σ (over N H1) { s1 with heap := h', toks := tk } := inv_adopt J1 kp nHi fun b u hb => by
      rcases nO b u hb with ⟨rfl, rfl⟩ | ⟨j, t, hj, ht, rfl⟩
      · refine ⟨?_, acc.toList, c, by rw [hacc]; exact LiI.vals_refs as, by rw [Array.toArray_toList]; exact hS⟩
        obtain ⟨m1, m2, m3, m4⟩ := mxo_at J1.hok (I1.bh _ _ ha)
        rw [List.length_map, hal]; exact m3
      · obtain ⟨x, y, hg, r1, r2⟩ := hT j b t hj ht
        exact ⟨by show 2 ≤ sizeLine; decide, [x, y], .cons r1 (.cons r2 .nil), ⟨_, hg, rfl, _, rfl⟩⟩
    obtain ⟨I2, ex⟩ := I1.adopt (N := N) fun b hb => J1.hok.fresh (nHi b hb)
    refine ⟨.ref s1.heap.objs.size, over N H1, J2, rfl, kk _ (.dat (.lst (lt.map pairD))) _ _ μ1 I2 (e1.trans ex) (.lst (over_new nS) ?_) h1⟩
    have c1 : ts.map (·.1) = l'.map (·.2.1) := by show (l'.map (·.2)).map (·.1) = _; rw [List.map_map]; rfl
    have c2 : ts.map (·.2) = l'.map (·.2.2) := by show (l'.map (·.2)).map (·.2) = _; rw [List.map_map]; rfl
    exact dq_rows (ts := ts) (by rw [hal, hl]) (fun j a t h1 h2 => over_new (nA j a t h1 h2)) (by rw [c1]; exact hk.mono ex) (by rw [c2]; exact hv.mono ex)
  · subst ex
    obtain rfl : u = Value.ref d := rx
    obtain ⟨m1, ⟨es, ep, m2, m3, m4⟩, m5, m6⟩ := mxo_at I1.hok hd
    have raw : s1.heap.DictRaw d es ep := ⟨o, m1, m2, m3⟩
    have hz : es.size = l.length := by rw [← Array.length_toList, Paired.length m4]
    refine ⟨raw.typeIs, fun b z => by cases z; exact ⟨o, m1, m2.2.1⟩, ?_⟩
    show wpAny _ _ (callWith cpos (.builtin "dict.items") [.ref d] [] []) _ X.xe s1
    have I2 : Inv X pins σ H1 { s1 with heap := s1.heap.push { cls := .type "dict_items", data := .fields #[.ref d] } } := I1.kept (t' := s1.toks) fun b ob q => Heap.get?_push_of_some _ q
    refine method_meetsIn F.slot_dict_items F.entry_dict_items rfl (PySem.evalArgs_none ⟨rfl, raw.typeIs, F.args_dict_items_1 _, _, meets_dict_items_raw d m6, ⟨⟨es, ep, raw⟩, Calls.spliced_nil ?_⟩⟩)
    refine PySem.W.dil_call (es := es) (ep := ep) (I1.ok.hd hc) ⟨_, Heap.get?_push_size _ rfl, rfl, rfl⟩ (raw.at fun o e => Heap.get?_push_of_some _ e) (by rw [hz]; exact m5) fun h' tk acc c as hk hS hl hG hacc => ?_
    refine q h' _ tk as acc c I2 hk hS (by rw [hl, hz]) (List.Pairwise.imp (fun {a b} (h : a < b) => Nat.ne_of_lt h) hG.rise) hG.above (fun j a t hj ht => ?_) hacc
    obtain ⟨hjs, hg⟩ := hG.pairs j a hj
    obtain ⟨_, t', ht', r1, r2⟩ := mx_get m4 (i := j) (by rw [← hz]; exact hjs)
    rw [ht] at ht'; cases ht'
    exact ⟨_, _, hg, r1, r2⟩
end
end Dat

set_option Elab.async false
set_option linter.all false
set_option maxRecDepth 100000
set_option maxHeartbeats 4000000
/-! Mx6: tables asked, filled, copied. -/
namespace Dat
open PySem PySem.Spec PyProof.Rows L2 Mx
def getT (l : Tbl) (k : Dt) : Option Dt := (l.find? fun x => decide (nk x.1 = nk k)).map (·.2)
theorem getC {B : Hp} {k : Dt} {d : Dt} : ∀ {cs : List Cell}, (∀ c ∈ cs, c.Ok B) → getT (cs.map Cell.pr) k = some d → ∃ v u, getL (cs.map Cell.row) (nk k) = some u ∧ RelV v u ∧ Dq B v d
  | [], _, h => by simp [getT] at h
  | c :: cs, ok, h => by
    by_cases e : c.k = nk k
    · have h2 : getT ((c :: cs).map Cell.pr) k = some c.vd := by
        unfold getT; rw [List.map_cons, List.find?_cons, decide_eq_true (show nk (Cell.pr c).1 = nk k from e)]; rfl
      rw [h2] at h; cases h
      refine ⟨c.vv, c.val, ?_, (ok c List.mem_cons_self).rv, (ok c List.mem_cons_self).dv⟩
      unfold getL; rw [List.map_cons, List.find?_cons, decide_eq_true (show (Cell.row c).1 = nk k from e)]; rfl
    · have h2 : getT ((c :: cs).map Cell.pr) k = getT (cs.map Cell.pr) k := by
        unfold getT; rw [List.map_cons, List.find?_cons, decide_eq_false (show ¬ nk (Cell.pr c).1 = nk k from e)]
      have h3 : getL ((c :: cs).map Cell.row) (nk k) = getL (cs.map Cell.row) (nk k) := by
        unfold getL; rw [List.map_cons, List.find?_cons, decide_eq_false (show ¬ (Cell.row c).1 = nk k from e)]
      rw [h3]; rw [h2] at h
      exact getC (fun x hx => ok x (List.mem_cons_of_mem _ hx)) h
section
variable {X : Cx} {w : Wd} {ρ : List SV} {μ : Mus} {R : SV → Mus → Prop} {P : Po} {e o i value : Expr} {p apos cpos pos pos' : Pos}
/-- d[k], k there -/
theorem ix_tb {r : SV} {l : Tbl} {kd d : Dt} {k : Nat} (hr : Room k X.A) (h1 : TbQ X.w r μ l) (g : GoodK l) (hk : keyable kd = true) (hd : (nk kd).depth ≤ 8) (ht : getT l kd = some d) (h : R (.dat d) μ) : IxD X w r (.dat kd) μ R := fun B H v u I q1 q2 Q kk value slice pins s σ v' u' J rv ru hsub => by
  obtain ⟨a, ob, l', rfl, ha, e1, e2, e3⟩ := tb_get I q1 h1
  obtain rfl : v' = Value.ref a := rv
  obtain ⟨cs, A, _, rfl⟩ := at_of J.hok ha e1 e2 e3 g
  obtain ⟨w1, u1, g1, g2, g3⟩ := getC A.ok ht
  have hu := hr.un
  have hT : s.TypeIs (.ref a) "dict" := ⟨ob, A.get, A.ex.1⟩
  have fin : wpAny (model X.prog X.w) X.A (getItem (.ref a) u') (EP X pins σ Q) X.xe s := by
    unfold getItem; try with_reducible refine wpAny_holding ?_
    refine wpAny_bind (wpAny_sequenceKey hT (by decide) (wpAny_bind (wpAny_callSpecial?_slot (name := Str.ofString "__getitem__") hT PySem.F.slot_dict_getitem (wpAny_call_entry PySem.F.slot_dict_getitem hT PySem.F.entry_dict_getitem ?_ (PySem.F.args_dict_getitem_2 _ _)))))
    show wpAny _ _ (dictGet a u' >>= _) _ _ s
    refine wpAny_bind (Mx.get (A := X.A.in1) (by show X.A.units + 1 + 8 < _; omega) (Dq.key J _ _ _ (q2.mono I.bh) hk ru) hd A.dv (A.ks J I.bh g) ?_)
    rw [g1]
    exact wpAny_pure ⟨u1, rfl, wpAny_pure ⟨w1, H, J.tok _, g2, kk w1 (.dat d) B H μ I (Ex.refl B) g3 h⟩⟩
  unfold subscriptTail
  refine wpAny_bind ?_
  rw [getitemInPython_of_ne hT.not_modules]; refine wpAny_bind (wpAny_specialOf hT PySem.F.slot_dict_getitem.lookup ?_)
  have last : wpAny (model X.prog X.w) X.A (subscripted slice false (.ref a) u') (fun r s₃ => wpAny (model X.prog X.w) X.A (letTemporaryGo value (.ref a) r >>= fun _ => pure r) (EP X pins σ Q) X.xe s₃) X.xe s := by
    rw [hsub]; exact wpAny_operating (wpAny_mono fin (fun r s₃ h₃ => wpAny_bind (wpAny_letTemporaryGo (wpAny_pure h₃))) fun _ _ x => x)
  first
    | exact wpAny_pure (wpAny_bind last)
    | exact wpAny_bind (wpAny_pure (wpAny_bind last))
    | exact wpAny_bind last
/-- len(d) -/
theorem ca_lenTb {r : SV} {l : Tbl} (h1 : TbQ X.w r μ l) (h : R (.dat (.int (l.length : Int))) μ) : CaD X w (.builtin "len") [r] μ R := fun B H vs I q Q kk pins s σ us J rv => by
  obtain ⟨v, rfl, q1⟩ := q.one
  obtain ⟨u, rfl, r1⟩ := vals1 rv
  obtain ⟨a, ob, l', rfl, ha, e1, e2, e3⟩ := tb_get I q1 h1
  obtain rfl : u = Value.ref a := r1
  obtain ⟨m1, ⟨es, ep, m2, m3, m4⟩, m5, m6⟩ := mxo_at J.hok ha
  have hz : es.size = l'.length := by rw [← Array.length_toList, Paired.length m4]
  have hl : l'.length = l.length := by have := e2.length; rw [List.length_map, List.length_map] at this; exact this
  have raw : s.heap.DictRaw a es ep := ⟨ob, m1, m2, m3⟩
  rw [sizeLine_eq] at m5
  refine PyProof.Rows.call_len_slot (n := es.size) raw.typeIs F.slot_dict_len (fun Q' hq => PySem.call_len_raw m6 raw hq) (by omega) (by omega) ?_
  exact ⟨.int _, H, J.tok _, ⟨_, by rw [hz, hl]⟩, kk (.int (l.length : Int)) (.dat (.int _)) B H μ I (Ex.refl B) (Dq.int _) h⟩
/-- isinstance(d, T) -/
theorem ca_isTb {r : SV} {l : Tbl} {T : String} {b : Bool} (h1 : TbQ X.w r μ l) (hk : kitB "dict" T = some b) (h : R (.dat (.bl b)) μ) : CaD X w (.builtin "isinstance") [r, .ty T] μ R := fun B H vs I q Q kk pins s σ us J rv => by
  obtain ⟨v, t, rfl, q1, q2⟩ := q.two
  obtain ⟨u1, u2, rfl, r1, r2⟩ := vals2 rv
  obtain ⟨a, ob, l', rfl, ha, e1, e2, e3⟩ := tb_get I q1 h1
  obtain rfl : u1 = Value.ref a := r1
  cases (show t = V.ty T from q2)
  obtain rfl : u2 = Value.type T := r2
  obtain ⟨m1, ⟨es, ep, m2, m3, m4⟩, m5, m6⟩ := mxo_at J.hok ha
  exact PySem.W.kia_one PySem.W.kitx_dict J.kIn (⟨ob, m1, m2.1⟩ : s.TypeIs (.ref a) "dict") (kit_ty hk) (fun z => nomatch z) fun tk => ⟨.bl b, H, J.tok tk, rfl, kk (.bl b) (.dat (.bl b)) B H μ I (Ex.refl B) (Dq.bl _) h⟩
theorem upd_twice {H : Hp} {a : Addr} {o o' : HO} : upd (upd H a o) a o' = upd H a o' := by
  funext b; by_cases h : b = a
  · subst h; rw [upd_same, upd_same]
  · rw [upd_ne h, upd_ne h, upd_ne h]
/-- {} that will be filled -/
theorem de_tbNew (h : ∀ q, μ q = none → w.H q = none → R (.at q) (μ.put q (mixM X.w []))) : DE X w (.Dict [] [] pos) ρ μ R := fun σ B H S I Q kk pins s J => by
  refine thn ((pe_dnewK (X := X)).run pins s σ H (fun v H1 => ∃ a, H a = none ∧ v = .ref a ∧ H1 = upd H a (.dK [])) J fun a ha => ⟨a, ha, rfl, rfl⟩) fun u s1 ⟨v, H1, J1, rv, a, ha, ev, eH⟩ => ?_
  subst ev eH
  obtain rfl : u = Value.ref a := rv
  obtain ⟨_, hs, vs, kv, ob, es, ep, h1, h2, h3, _, pr, _⟩ := (show ObjOk X.prog X.w _ s1.heap a (.dK []) from J1.hok a _ upd_same)
  cases kv
  have pe : es.toList = [] := by generalize es.toList = t at pr; cases pr; rfl
  have new : ObjOk X.prog X.w (upd (upd H a (.dK [])) a (mxo a ob [])) s1.heap a (mxo a ob []) := mxo_ok h1 ⟨es, ep, h2, h3, by rw [pe]; exact .nil⟩ (Nat.zero_le _) hs
  have J2 := J1.write (h' := s1.heap) (t' := s1.toks) (x := a) (e := a) (o := mxo a ob []) (by rw [upd_same]; exact True.intro) (.inl rfl) (fun _ _ _ e => e) ⟨_, h1⟩ new
  rw [upd_twice] at J2
  refine ⟨.ref a, _, J2, rfl, kk _ (.at a) B _ _ (I.newM (p := a) ha (mixM X.w []) ⟨ob, [], upd_same, rfl, .nil, .nil⟩) (Ex.refl B) rfl (h a (I.free ha).2.1 (I.free ha).2.2)⟩
/-- d[k] = v, d one that may change -/
theorem ds_putTb {k : Nat} (hr : Room k X.A) (hv : DE X w value ρ μ fun r1 μ1 => ∃ vd, r1 = .dat vd ∧ DE X w o ρ μ1 fun r2 μ2 => DE X w i ρ μ2 fun r3 μ3 => ∃ q l kd, r2 = .at q ∧ μ3 q = some (mixM X.w l) ∧ GoodK l ∧ l.length ≤ 100000 ∧ r3 = .dat kd ∧ keyable kd = true ∧ (nk kd).depth ≤ 8 ∧ P.nx ρ (μ3.put q (mixM X.w (putP l kd vd))))
    (hs : swapsWith value (some (.Subscript o i pos')) pos.line X.env = pure false := by rfl) : DS X w (.Assign [.Subscript o i pos'] value pos) ρ μ P := fun σ B H S I D E pins s J => by
  refine wpAny_Assign_Subscript (thn ((pe_self (X := X) (e := value)).run pins s σ H (fun v1 H1 => tE X o σ H1 fun v2 H2 => tE X i σ H2 fun v3 H3 => ∀ s3 u1 u2 u3, Inv X pins σ H3 s3 → RelV v1 u1 → RelV v2 u2 → RelV v3 u3 → wpAny (model X.prog X.w) X.A (setItem u2 u3 u1) (fun _ s4 => SP X pins D .next s4) X.xe s3) J ?_) fun u1 s1 ⟨v1, H1, J1, r1, q1⟩ => thn (q1 pins s1 J1) fun u2 s2 ⟨v2, H2, J2, r2, q2⟩ => thn (q2 pins s2 J2) fun u3 s3 ⟨v3, H3, J3, r3, q3⟩ => q3 s3 u1 u2 u3 J3 r1 r2 r3) hs
  refine hv σ B H S I _ fun v1 rr1 B1 H1 μ1 I1 e1 q1 h1 => ?_
  obtain ⟨vd, rfl, h1⟩ := h1
  refine h1 σ B1 H1 (S.mono e1) I1 _ fun v2 rr2 B2 H2 μ2 I2 e2 q2 h2 => ?_
  refine h2 σ B2 H2 (S.mono (e1.trans e2)) I2 _ fun v3 rr3 B3 H3 μ3 I3 e3 q3 h3 => ?_
  obtain ⟨q, l, kd, rfl, hm, g, hl, rfl, hk, hd, h3⟩ := h3
  intro s3 u1 u2 u3 J r1 r2 r3
  cases (show v2 = V.ref q from q2)
  obtain rfl : u2 = Value.ref q := r2
  obtain ⟨_, ⟨ob, l', g1, g2, g3, g4⟩, _⟩ := I3.mus q _ hm
  obtain ⟨cs, A, _, rfl⟩ := at_of J.hok g1 g2 g3 g4 g
  have hu := hr.un
  have hT : s3.TypeIs (.ref q) "dict" := ⟨ob, A.get, A.ex.1⟩
  have q1' : Dq B3 v1 vd := (Dq.mono e2 q1).mono e3
  have hc : (Cell.mk u3 u1 v3 v1 kd vd).Ok B3 := ⟨r3, r1, q3, q1', hk, hd⟩
  rw [List.length_map] at hl
  unfold setItem; try with_reducible refine wpAny_holding ?_
  refine wpAny_bind (wpAny_sequenceKey hT (by decide) (wpAny_bind (wpAny_callSpecial?_slot (name := Str.ofString "__setitem__") hT PySem.F.slot_dict_setitem (wpAny_call_entry PySem.F.slot_dict_setitem hT PySem.F.entry_dict_setitem ?_ (PySem.F.args_dict_setitem_3 _ _ _)))))
  show wpAny _ _ (Builtin.Dict.notOrdered "__setitem__" ⟨[.ref q, u3, u1], []⟩ >>= _) _ _ s3
  refine wpAny_bind (wpAny_notOrdered_dict hT ?_)
  show wpAny _ _ (dictSet q u3 u1 >>= _) _ _ s3
  refine wpAny_bind (Mx.set (A := X.A.in1) (k := nk kd) (by show X.A.units + 1 + 8 < _; omega) (Dq.key J _ _ _ (Dq.mono I3.bh q3) hk r3) hd A.dv (A.ks J I3.bh g) (by rw [List.length_map, sizeLine_eq]; omega) fun h' tk D' K' sb => wpAny_pure ⟨.none, rfl, wpAny_pure ?_⟩)
  have er := putC_row cs (Cell.mk u3 u1 v3 v1 kd vd)
  have ep := putC_pr cs (Cell.mk u3 u1 v3 v1 kd vd)
  have cok := putC_ok (c := Cell.mk u3 u1 v3 v1 kd vd) A.ok hc
  have cl := putC_len cs (Cell.mk u3 u1 v3 v1 kd vd)
  obtain ⟨ob2, A2⟩ := at_dv (cs := putC cs (Cell.mk u3 u1 v3 v1 kd vd)) (by rw [er]; exact D') cok (by rw [sizeLine_eq]; omega) A.sys
  have J2 := J.write (h' := h') (t' := tk) (x := q) (e := q) (o := mxo q ob2 ((putC cs (Cell.mk u3 u1 v3 v1 kd vd)).map (Cell.tri X.w))) (by rw [g1]; exact True.intro) (.inl rfl) (fun b u hb e => (sb.2 b hb).trans e) ⟨_, A2.get⟩ (mxo_ok A2.get A2.mx (by rw [List.length_map]; exact A2.len) A2.sys)
  have I4 := I3.set hm (mixM X.w (putP (cs.map Cell.pr) kd vd)) ⟨ob2, _, upd_same, by rw [tri_k, ep], by have z := tri_dk (w := X.w) cok; rw [ep] at z; exact z, by have z := tri_dv (w := X.w) cok; rw [ep] at z; exact z⟩
  exact ⟨σ, _, J2, E.nx σ B3 _ ρ _ (S.mono ((e1.trans e2).trans e3)) I4 ((e1.trans e2).trans e3) h3⟩
end
end Dat

set_option Elab.async false
set_option linter.all false
set_option maxRecDepth 100000
set_option maxHeartbeats 4000000
/-! Mx7: tables of texts: copied, sorted; keys as a list; own tables become data. -/
namespace Dat
open PySem PySem.Spec PyProof.Rows L2 Mx
def txt : Dt → Str
  | .str x => x
  | _ => Str.empty
def isText : Dt → Bool
  | .str _ => true
  | _ => false
theorem text_of {d : Dt} (h : isText d = true) : d = .str (txt d) := by cases d <;> simp [isText] at h; rfl
/-- all keys are texts -/
def TxK (l : Tbl) : Prop := ∀ x ∈ l, isText x.1 = true
theorem TxK.cell {cs : List Cell} (h : TxK (cs.map Cell.pr)) : ∀ c ∈ cs, c.kd = .str (txt c.kd) := fun c hc => text_of (h c.pr (List.mem_map.mpr ⟨c, hc, rfl⟩))
theorem cell_key {B : Hp} {c : Cell} (o : c.Ok B) {x : Str} (e : c.kd = .str x) : ∃ t, c.key = .str x t := by
  have q := o.dk
  rw [e] at q
  have r := o.rk
  generalize c.kv = v at q r
  cases q
  exact r
theorem nk_str (x : Str) : nk (.str x) = .text x := by rw [nk]
abbrev Cell.tk (c : Cell) : Key × Value := (Sum.inr (txt c.kd), c.val)
theorem dictOf_pairs {P : Program} {w : World} {B : Hp} : ∀ {cs : List Cell}, (∀ c ∈ cs, c.Ok B) → (∀ c ∈ cs, c.kd = .str (txt c.kd)) → Pairs (mixKind P w) (cs.map fun c => ent w c.row) (cs.map Cell.tk) ∧ ∀ e ∈ cs.map (fun c => ent w c.row), ∃ k, (mixKind P w).is k e.key = true ∧ e.hash = (mixKind P w).hash k
  | [], _, _ => ⟨.nil, fun _ h => (nomatch h)⟩
  | c :: cs, ok, tx => by
    obtain ⟨h1, h2⟩ := dictOf_pairs (P := P) (w := w) (fun x hx => ok x (List.mem_cons_of_mem _ hx)) fun x hx => tx x (List.mem_cons_of_mem _ hx)
    have ek := tx c List.mem_cons_self
    obtain ⟨t, et⟩ := cell_key (ok c List.mem_cons_self) ek
    have is1 : (mixKind P w).is (Sum.inr (txt c.kd)) c.key = true := by rw [et]; exact keyIs_str _ t
    refine ⟨.cons is1 rfl h1, fun e he => ?_⟩
    rcases List.mem_cons.mp he with z | z
    · rw [z]; refine ⟨_, is1, ?_⟩
      show (nk c.kd).hash w = _
      rw [ek, nk_str]; rfl
    · exact h2 e z
theorem At.dictOf {P : Program} {w : World} {B : Hp} {h : Heap} {a : Addr} {o : Obj} {cs : List Cell} (A : At w B h a o cs) (tx : TxK (cs.map Cell.pr)) (g : GoodK (cs.map Cell.pr)) : h.DictOf (mixKind P w) a (cs.map Cell.tk) := by
  obtain ⟨es, ep, e1, e2⟩ := A.en
  obtain ⟨h1, h2⟩ := dictOf_pairs (P := P) (w := w) A.ok tx.cell
  refine ⟨o, es, ep, A.get, A.ex, e1, fun e he => h2 e (by rw [← e2]; exact Array.mem_toList_iff.mpr he), by rw [e2]; exact h1, ?_⟩
  have nd := g.nd
  rw [List.map_map] at nd ⊢
  refine List.Pairwise.imp_of_mem ?_ (List.pairwise_map.mp nd) |> List.pairwise_map.mpr
  intro x y hx hy hne e
  refine hne ?_
  show nk x.kd = nk y.kd
  rw [tx.cell x hx, tx.cell y hy]
  have e' : (Sum.inr (txt x.kd) : Key) = Sum.inr (txt y.kd) := e
  injection e' with e'
  rw [e']
theorem cells_back {P : Program} {w : World} {B : Hp} : ∀ {cs : List Cell} {es : List DictEntry}, Pairs (mixKind P w) es (cs.map Cell.tk) → (∀ e ∈ es, ∃ k, (mixKind P w).is k e.key = true ∧ e.hash = (mixKind P w).hash k) → (∀ c ∈ cs, c.Ok B) → (∀ c ∈ cs, c.kd = .str (txt c.kd)) →
    ∃ cs' : List Cell, es = cs'.map (fun c => ent w c.row) ∧ cs'.map Cell.pr = cs.map Cell.pr ∧ cs'.map (Cell.tri w) = cs.map (Cell.tri w) ∧ ∀ c ∈ cs', c.Ok B
  | [], es, p, _, _, _ => by cases p; exact ⟨[], rfl, rfl, rfl, fun _ h => (nomatch h)⟩
  | c :: cs, es, p, hk, ok, tx => by
    rw [List.map_cons] at p
    cases p with
    | @cons e _ es' _ p1 p2 p3 =>
      obtain ⟨cs', c1, c2, c3, c4⟩ := cells_back p3 (fun x hx => hk x (List.mem_cons_of_mem _ hx)) (fun x hx => ok x (List.mem_cons_of_mem _ hx)) fun x hx => tx x (List.mem_cons_of_mem _ hx)
      have o := ok c List.mem_cons_self
      have ek := tx c List.mem_cons_self
      obtain ⟨k, k1, k2⟩ := hk e List.mem_cons_self
      have ekk : k = Sum.inr (txt c.kd) := (mixKind P w).inj _ _ _ k1 p1
      obtain ⟨t, et⟩ := Value.isStrOf_shape (x := txt c.kd) (v := e.key) p1
      have rk : RelV c.kv e.key := by
        have q := o.dk
        rw [ek] at q
        generalize c.kv = v at q
        cases q
        exact ⟨t, et⟩
      refine ⟨⟨e.key, e.val, c.kv, c.vv, c.kd, c.vd⟩ :: cs', ?_, ?_, ?_, fun x hx => ?_⟩
      · rw [List.map_cons, ← c1]; congr 1
        obtain ⟨eh, ekey, ev⟩ := e
        show _ = DictEntry.mk ((nk c.kd).hash w) ekey ev
        have k2' : eh = (mixKind P w).hash k := k2
        rw [k2', ekk, ek, nk_str]; rfl
      · rw [List.map_cons, List.map_cons, c2]; rfl
      · rw [List.map_cons, List.map_cons, c3]; rfl
      · rcases List.mem_cons.mp hx with z | z
        · rw [z]; exact ⟨rk, by show RelV c.vv e.val; rw [p2]; exact o.rv, o.dk, o.dv, o.ka, o.dp⟩
        · exact c4 x z
section
variable {X : Cx} {w : Wd} {ρ : List SV} {μ : Mus} {R : SV → Mus → Prop} {P : Po} {e : Expr} {pos : Pos}
/-- dict(d), a copy that may change -/
theorem ca_dictCopy {r : SV} {l : Tbl} (h1 : TbQ X.w r μ l) (g : GoodK l) (tx : TxK l) (h : ∀ q, μ q = none → R (.at q) (μ.put q (mixM X.w l))) : CaD X w (.type "dict") [r] μ R := fun B H vs I q Q kk pins s σ us J rv => by
  obtain ⟨v, rfl, q1⟩ := q.one
  obtain ⟨u, rfl, r1⟩ := vals1 rv
  obtain ⟨a, ob, l', rfl, ha, e1, e2, e3⟩ := tb_get I q1 h1
  obtain rfl : u = Value.ref a := r1
  obtain ⟨cs, A, _, rfl⟩ := at_of J.hok ha e1 e2 e3 g
  refine kt_call_dict (knd := mixKind X.prog X.w) A.sys (A.dictOf tx g) (by rw [List.length_map]; exact A.len) fun h' dd' hs => ?_
  obtain ⟨o2, es, ep, k1, k2, k3, k4, k5, _⟩ := dd'
  obtain ⟨cs', c1, c2, c3, c4⟩ := cells_back (w := X.w) k5 (fun e he => k4 e (Array.mem_toList_iff.mp he)) A.ok tx.cell
  have hsm : (s.heap.objs.size == sysModules) = false := beq_eq_false_iff_ne.mpr (Nat.ne_of_gt J.big)
  have hl : cs'.length ≤ sizeLine := by have := congrArg List.length c2; rw [List.length_map, List.length_map] at this; rw [this]; exact A.len
  have A2 : At X.w B h' s.heap.objs.size o2 cs' := ⟨k1, k2, ⟨es, ep, k3, c1⟩, c4, hl, hsm⟩
  have fr : H s.heap.objs.size = none := J.hok.fresh (Nat.le_refl _)
  have J2 := J.laid (h' := h') (a := s.heap.objs.size) (o := mxo s.heap.objs.size o2 (cs'.map (Cell.tri X.w))) (t' := s.toks) (fun b u hb => (hs.2 b (Nat.ne_of_lt (Heap.lt_size hb))).trans (Heap.get?_push_of_some _ hb)) (Nat.le_refl _) (mxo_ok A2.get A2.mx (by rw [List.length_map]; exact hl) hsm)
  refine ⟨.ref s.heap.objs.size, _, J2, rfl, kk _ (.at s.heap.objs.size) B _ _ (I.newM fr (mixM X.w (cs.map Cell.pr)) ⟨o2, _, upd_same, by rw [tri_k, c2], by have z := tri_dk (w := X.w) c4; rw [c2] at z; exact z, by have z := tri_dv (w := X.w) c4; rw [c2] at z; exact z⟩) (Ex.refl B) rfl (h _ (I.free fr).2.1)⟩
/-- an own table becomes data -/
theorem SInv.freezeT {B H : Hp} {p : Addr} (I : SInv w B H μ) {hs : List Int} {ks vs : List Dt} {ν : Mus} (hm : μ p = some (.mix hs ks vs)) (hw : w.H p = none) (s : ν.Sub μ) (hn : ν p = none) :
    ∃ B', SInv w B' H ν ∧ Ex B B' ∧ Dq B' (.ref p) (.mix hs ks vs) := by
  obtain ⟨hb, ⟨o, l, h1, rfl, h2, h3⟩, _⟩ := I.mus p _ hm
  refine ⟨upd B p (mxo p o l), ⟨I.b0.mut (I.b0.none hb), fun q u hq => ?_, I.keep, I.there, fun q hq hB => ?_, fun q u hq => ?_⟩, Ex.new hb, .mix upd_same (h2.mono (Ex.new hb)) (h3.mono (Ex.new hb))⟩
  · by_cases e : q = p
    · subst e; rw [upd_same] at hq; cases hq; exact h1
    · rw [upd_ne e] at hq; exact I.bh q u hq
  · rw [upd_ne (fun e => hq (by rw [e]; exact hw))]; exact I.out q hq hB
  · have e : q ≠ p := fun z => by rw [z, hn] at hq; cases hq
    obtain ⟨h1, h2, h3⟩ := I.mus q u (s q u hq)
    exact ⟨by rw [upd_ne e]; exact h1, h2.mono (Ex.new hb) rfl, h3⟩
/-- return of an own table, that becomes data -/
theorem ds_retT (h : DE X w e ρ μ fun r μ' => ∃ q l ν, r = .at q ∧ μ' q = some (mixM X.w l) ∧ w.H q = none ∧ ν.Sub μ' ∧ ν q = none ∧ P.rt (.dat (mixD X.w l)) ν) : DS X w (.Return (some e) pos) ρ μ P := fun σ B H S I D E =>
  tS_of (ps_ret pe_self) (h σ B H S I _ fun v r B1 H1 μ1 I1 e1 q1 h1 => by
    obtain ⟨q, l, ν, rfl, hm, hw, hs, hn, h1⟩ := h1
    obtain ⟨B2, I2, e2, q2⟩ := I1.freezeT hm hw hs hn
    cases (show v = V.ref q from q1)
    exact E.rt _ (.dat (mixD X.w l)) B2 H1 ν I2 (e1.trans e2) q2 h1)
/-- list(d): the keys -/
theorem ca_listTb {r : SV} {l : Tbl} {k : Nat} (hr : Room k X.A) (h1 : TbQ X.w r μ l) (h : R (.dat (.lst (l.map (·.1)))) μ) : CaD X w (.type "list") [r] μ R := fun B H vs I q Q kk pins s σ us J rv => by
  obtain ⟨v, rfl, q1⟩ := q.one
  obtain ⟨u, rfl, r1⟩ := vals1 rv
  obtain ⟨a, ob, l', rfl, ha, e1, e2, e3⟩ := tb_get I q1 h1
  obtain rfl : u = Value.ref a := r1
  obtain ⟨m1, ⟨es, ep, m2, m3, m4⟩, m5, m6⟩ := mxo_at J.hok ha
  have hz : es.size = l'.length := by rw [← Array.length_toList, Paired.length m4]
  have raw : s.heap.DictRaw a es ep := ⟨ob, m1, m2, m3⟩
  refine PySem.W.kdl_call (PySem.KdlSrc.rawDict (es := es) (ep := ep) m6) hr.hd raw (by rw [hz]; exact m5) fun h' tk acc c kp hS hI => ?_
  have rel : Vals (l'.map (·.2.1)) acc.toList := by
    have al : acc.toList.length = (es.toList.map (·.key)).length := by rw [Array.length_toList, List.length_map, Array.length_toList]; exact hI.1
    have ae : acc.toList = es.toList.map (·.key) := by
      apply List.ext_getElem?
      intro j
      by_cases hj : j < acc.toList.length
      · have hj2 : j < es.size := by rw [Array.length_toList, hI.1] at hj; exact hj
        have hj3 : j < acc.size := by rw [Array.length_toList] at hj; exact hj
        obtain ⟨_, ev⟩ := hI.2 j acc[j] (Array.getElem?_eq_getElem hj3)
        rw [Array.getElem?_toList, Array.getElem?_eq_getElem hj3, ev, List.getElem?_map, Array.getElem?_toList, Array.getElem?_eq_getElem hj2]; rfl
      · rw [List.getElem?_eq_none (by omega), List.getElem?_eq_none (by omega)]
    rw [ae]; exact (mixParts m4).1
  have fr : H s.heap.objs.size = none := J.hok.fresh (Nat.le_refl _)
  have J2 := J.laid (h' := h') (a := s.heap.objs.size) (o := .lst (l'.map (·.2.1))) (t' := tk) kp (Nat.le_refl _) ⟨by rw [List.length_map]; exact m5, acc.toList, c, rel, by rw [Array.toArray_toList]; exact hS⟩
  refine ⟨.ref s.heap.objs.size, _, J2, rfl, kk _ (.dat (.lst (l.map (·.1)))) _ _ μ (I.new fr _) (Ex.new (I.free fr).1) (.lst upd_same (e2.mono (Ex.new (I.free fr).1))) h⟩
end
end Dat

set_option Elab.async false
set_option linter.all false
set_option maxRecDepth 100000
set_option maxHeartbeats 4000000
/-! Mx8: sorted(d); repr of anything. -/
namespace Dat
open PySem PySem.Spec PyProof.Rows L2 Mx
section
variable {X : Cx} {w : Wd} {ρ : List SV} {μ : Mus} {R : SV → Mus → Prop} {P : Po} {e : Expr} {pos : Pos}
theorem ca_sortedTb {r : SV} {l : Tbl} {k : Nat} (hr : Room k X.A) (h1 : TbQ X.w r μ l) (g : GoodK l) (tx : TxK l) (h64 : l.length < 64) (h : ∀ ys : List Str, ys.Perm (l.map fun x => txt x.1) → sortedS ys = true → R (.dat (.lst (ys.map Dt.str))) μ) : CaD X w (.builtin "sorted") [r] μ R := fun B H vs I q Q kk pins s σ us J rv => by
  obtain ⟨v, rfl, q1⟩ := q.one
  obtain ⟨u, rfl, r1⟩ := vals1 rv
  obtain ⟨a, ob, l', rfl, ha, e1, e2, e3⟩ := tb_get I q1 h1
  obtain rfl : u = Value.ref a := r1
  obtain ⟨cs, A, _, rfl⟩ := at_of J.hok ha e1 e2 e3 g
  obtain ⟨es, ep, raw, _, hen⟩ := A.raw
  have hz : es.size = cs.length := by rw [← Array.length_toList, hen, List.length_map]
  rw [List.length_map] at h64
  refine Calls.call_function_entry PyProof.Rows.kind_sorted PyProof.Rows.plain_sorted PyProof.Rows.entry_sorted (PyProof.Rows.args_sorted1 _) ?_
  unfold Builtin.«sorted»; refine wpAny_bind (m := checkCount "sorted" 1 1 _) (wpAny_pure ?_)
  refine wpAny_bind (PySem.W.kdu_collect (A := X.A.in1) (PySem.KdlSrc.rawDict (es := es) (ep := ep) A.sys) hr.hd raw (by rw [hz]; exact A.len) fun h' tk acc hk hI => ?_)
  have hal : acc.toList.length = (cs.map fun c => txt c.kd).length := by rw [Array.length_toList, hI.1, hz, List.length_map]
  have hS : StrsAre acc.toList (cs.map fun c => txt c.kd) := L2.strs_at hal fun j v ev => by
    obtain ⟨hj, ev2⟩ := hI.2 j v (by rw [← Array.getElem?_toList]; exact ev)
    have hj2 : j < cs.length := by rw [← hz]; exact hj
    have e4 : es[j] = ent X.w cs[j].row := by
      have z : es.toList[j]? = some es[j] := by rw [Array.getElem?_toList, Array.getElem?_eq_getElem hj]
      rw [hen, List.getElem?_map, List.getElem?_eq_getElem hj2] at z
      exact (Option.some.inj z).symm
    obtain ⟨t, et⟩ := cell_key (A.ok _ (List.getElem_mem hj2)) (tx.cell _ (List.getElem_mem hj2))
    exact ⟨_, t, by rw [List.getElem?_map, List.getElem?_eq_getElem hj2]; rfl, by rw [ev2, e4]; exact et⟩
  have I1 : Inv X pins σ H { s with heap := h', toks := tk } := J.kept hk
  refine wpAny_bind (wpAny_newList ?_ (by rw [hal, List.length_map, sizeLine_eq]; omega))
  have hoL : (h'.push (seqObj "list" acc.toList.toArray 0)).get? h'.objs.size = some (seqObj "list" acc.toList.toArray 0) := Heap.get?_push_size _ rfl
  show wpAny _ _ _ _ _ { s with heap := h'.push (seqObj "list" acc.toList.toArray 0), toks := tk }
  refine wpAny_bind (wpAny_holding (wpAny_call_entry PyProof.Rows.slot_list_sort ⟨_, hoL, rfl⟩ PyProof.Rows.entry_list_sort (list_sort_treeK strKind_oneLt (s := { s with heap := h'.push (seqObj "list" acc.toList.toArray 0), toks := tk }) hoL hS.keysOf (fun v₁ v₂ rest e => keyKind_strs (by rw [← e]; exact hS)) (by rw [hal, List.length_map]; exact h64) fun st' hp hs => ⟨_, rfl, ?_⟩) (PyProof.Rows.args_list_sort _)))
  obtain ⟨ys, g1, g2, g3⟩ := sorted_out_str hS hp hs
  obtain ⟨e', he'⟩ := PyProof.Rows.sortedHeap_at (vs := acc.toList) (out := (arrOf st').map (·.2)) hoL
  have hlen : (ys.map V.str).length ≤ sizeLine := by rw [List.length_map, g2.length_eq, List.length_map, sizeLine_eq]; omega
  have fr : H h'.objs.size = none := I1.hok.fresh (Nat.le_refl _)
  refine wpAny_pure ⟨_, rfl, .ref h'.objs.size, upd H h'.objs.size (.lst (ys.map V.str)), I1.laid (t' := tk) (fun b u e => ?_) (Nat.le_refl _) (show ObjOk X.prog X.w _ _ _ (.lst (ys.map V.str)) from ⟨hlen, ((arrOf st').map (·.2)).toList, e', vals_of_strs g1, by rw [Array.toArray_toList]; exact he'⟩), rfl, ?_⟩
  · have hb : b < h'.objs.size := Heap.lt_size e
    rw [PyProof.Rows.sortedHeap_old (Nat.ne_of_lt hb) (by rw [size_push']; exact Nat.lt_succ_of_lt hb)]; exact Heap.get?_push_of_some _ e
  · exact kk _ (.dat (.lst (ys.map Dt.str))) _ _ μ (I.new fr _) (Ex.new (I.free fr).1) (.lst upd_same (dqa_strs _ ys)) (h ys (by rw [List.map_map]; exact g2) g3)
end
end Dat
namespace PySem
variable {prog : Program} {w : World}
/-- repr of a list, a tuple, a dict, whatever it holds, where sys.modules is no dict -/
theorem repr_any {A : Around} {E : Value → Shared → Prop} {s : Shared} {Q : Value → Shared → Prop} {a : Addr} {d : PyData} {as : List Addr} (nd : ∀ o, s.heap.get? sysModules = some o → o.cls ≠ .type "dict") (r : Reads s.heap (.ref a) d as) (sh : d.showable = true) (hg : A.guards = some []) (hu : A.units + (d.depth + 1) < cLine)
    (hQ : ∀ h' u tk, (∀ b o, s.heap.get? b = some o → h'.get? b = some o) → Q (.str d.shown u) { s with heap := h', toks := tk }) (sz : d.shown.length ≤ sizeLine) : wpAny (model prog w) A (call (.builtin "repr") [.ref a]) Q E s := by
  cases r with
  | @list _ o vs n xs as g1 g2 g3 g4 => exact repr_free nd (.list g1 g2 g3 g4) sh hg hu hQ sz
  | @tuple _ o vs n xs as g1 g2 g3 g4 =>
    have rd : Reads s.heap (.ref a) (.tuple xs) as := .tuple g1 g2 g3 g4
    have sz2 : (tupleText (PyData.shownAll xs)).length ≤ sizeLine := by rw [PyData.shown] at sz; exact sz
    have sh2 : PyData.showableAll xs = true := by rw [PyData.showable] at sh; exact sh
    obtain ⟨bs, p, q⟩ := freeA (prog := prog) (w := w) nd g4 sh2 fun t m => Nat.le_trans (tupleText_mem_le m) sz2
    have lt : PyData.depthAll xs < (PyData.tuple xs).depth := by rw [PyData.depth]; omega
    refine call_repr_slot (by omega) ⟨o, g1, g2⟩ F.slot_tuple_repr ?_
    have hu2 : A.in1.units + (PyData.tuple xs).depth < cLine := by show A.units + 1 + _ < _; omega
    rw [PyData.depth] at hu2; rw [PyData.shown] at hQ
    exact call_tuple_reprK g1 g2 g3 (not_mem_of_deeper rd lt p) q hg (fun b _ => Clear.nil b) hu2 (fun _ _ e => e) (fun h' u tk k => ⟨_, _, rfl, hQ h' u tk k⟩) sz2
  | @dict _ o es n kvs as bs g1 g2 g3 g4 g5 =>
    have rd := Reads.dict g1 g2 g3 g4 g5
    have sz2 : (dictText (PyData.shownKv kvs)).length ≤ sizeLine := by rw [PyData.shown] at sz; exact sz
    obtain ⟨sa, sb⟩ := PyData.showableKv_split kvs (by rw [PyData.showable] at sh; exact sh)
    have pair : ∀ p ∈ PyData.shownKv kvs, p.length ≤ sizeLine := fun p m => Nat.le_trans (dictText_mem_le m) sz2
    obtain ⟨ba, pa, qa⟩ := freeA (prog := prog) (w := w) nd g4 sa fun t m => by obtain ⟨p, m2, l2⟩ := PyData.shownKv_key_le kvs t m; exact Nat.le_trans l2 (pair p m2)
    obtain ⟨bb, pb, qb⟩ := freeA (prog := prog) (w := w) nd g5 sb fun t m => by obtain ⟨p, m2, l2⟩ := PyData.shownKv_val_le kvs t m; exact Nat.le_trans l2 (pair p m2)
    have both : ReadAtMost s.heap (PyData.depthKv kvs) (ba ++ bb) := (pa.mono (PyData.depthAll_keys_le kvs)).append (pb.mono (PyData.depthAll_vals_le kvs))
    have lt : PyData.depthKv kvs < (PyData.dict kvs).depth := by rw [PyData.depth]; omega
    have apart : (a == sysModules) = false := beq_eq_false_iff_ne.mpr fun e => nd _ (by rw [← e]; exact g1) g2
    refine call_repr_slot (by omega) ⟨o, g1, g2⟩ F.slot_dict_repr ?_
    have hu2 : A.in1.units + (PyData.dict kvs).depth < cLine := by show A.units + 1 + _ < _; omega
    rw [PyData.depth] at hu2; rw [PyData.shown, PyData.shownKv_eq] at hQ; rw [PyData.shownKv_eq] at sz2
    exact call_dict_reprK g1 g2 g3 apart (not_mem_of_deeper rd lt both) (ReprEntriesK.of_two es.toList _ _ (qa.more_le (fun b m => List.mem_append_left _ m) (PyData.depthAll_keys_le kvs)) (qb.more_le (fun b m => List.mem_append_right _ m) (PyData.depthAll_vals_le kvs))) hg (fun b _ => Clear.nil b) hu2 (fun _ _ e => e) (fun h' u tk k => ⟨_, _, rfl, hQ h' u tk k⟩) sz2
end PySem
namespace Dat
open PySem PySem.Spec PyProof.Rows L2 Mx
section
variable {X : Cx} {w : Wd} {ρ : List SV} {μ : Mus} {R : SV → Mus → Prop}
theorem ca_reprG {d : Dt} {k : Nat} (hr : Room k X.A) (hg : X.A.guards = some []) (hd : ShownL d) (h : R (.dat (.str (toPy d).shown)) μ) : CaD X w (.builtin "repr") [.dat d] μ R := fun B H vs I q Q kk pins s σ us J rv => by
  by_cases md : ∃ o, s.heap.get? sysModules = some o ∧ o.cls = .type "dict"
  · -- sys.modules is a dict: no list stands there
    obtain ⟨v, rfl, q1⟩ := q.one
    obtain ⟨u, rfl, r1⟩ := vals1 rv
    have fin : ∀ {s' : Shared} {t : Tok}, Inv X pins σ H s' → EP X pins σ Q (.str (toPy d).shown t) s' := fun {s' t} J' => ⟨.str _, H, J', ⟨t, rfl⟩, kk (.str _) (.dat (.str _)) B H μ I (Ex.refl B) (Dq.str _) h⟩
    obtain ⟨as, rd, hm⟩ := Dq.reads3 J md d _ u (q1.mono I.bh) hd.plain r1
    have hu := hr.un
    have hdp := hd.deep
    by_cases hv : ∃ a, u = .ref a
    · obtain ⟨a, rfl⟩ := hv
      exact repr_of_reads' rd hd.shows (fun _ => hm) hg (by omega) (fun _ _ e => e) (fun h' t tk keep => fin (J.kept (t' := tk) keep)) hd.len
    · exact ca_repr hr hg ⟨hd.plain, fun z => by cases d <;> first | (exfalso; have zz := hd.plain; simp [plain] at zz; done) | (exfalso; cases q1; exact hv ⟨_, r1⟩) | (exfalso; simp [toPy, PyData.hasDict] at z; done), hd.shows, hd.len, hd.deep⟩ h B H _ I q Q kk pins s σ _ J rv
  · obtain ⟨v, rfl, q1⟩ := q.one
    obtain ⟨u, rfl, r1⟩ := vals1 rv
    have fin : ∀ {s' : Shared} {t : Tok}, Inv X pins σ H s' → EP X pins σ Q (.str (toPy d).shown t) s' := fun {s' t} J' => ⟨.str _, H, J', ⟨t, rfl⟩, kk (.str _) (.dat (.str _)) B H μ I (Ex.refl B) (Dq.str _) h⟩
    by_cases hv : ∃ a, u = .ref a
    · obtain ⟨a, rfl⟩ := hv
      obtain ⟨as, rd, _⟩ := Dq.reads J d _ _ (q1.mono I.bh) hd.plain r1
      have hu := hr.un
      have hdp := hd.deep
      exact repr_any (fun o e c => md ⟨o, e, c⟩) rd hd.shows hg (by omega) (fun h' t tk keep => fin (J.kept (t' := tk) keep)) hd.len
    · exact ca_repr hr hg ⟨hd.plain, fun z => by cases d <;> first | (exfalso; have zz := hd.plain; simp [plain] at zz; done) | (exfalso; cases q1; exact hv ⟨_, r1⟩) | (exfalso; simp [toPy, PyData.hasDict] at z; done), hd.shows, hd.len, hd.deep⟩ h B H _ I q Q kk pins s σ _ J rv
end
end Dat

set_option Elab.async false
set_option linter.all false
set_option maxRecDepth 100000
set_option maxHeartbeats 4000000
/-! Mx9: {x: e for x in texts}; tables of texts as an object keeps them. -/
namespace Dat
open PySem PySem.Spec PyProof.Rows L2 Mx
section
variable {X : Cx} {w : Wd} {ρ : List SV} {μ : Mus} {R : SV → Mus → Prop} {kx vx iter e : Expr} {scope : Scope} {pos px p apos cpos : Pos} {x : Str}
def dicT (ks : List Str) (f : Str → Dt) : Dt := .dic (ks.map Dt.str) (ks.map f)
def DcAsk (X : Cx) (scope : Scope) (kx vx : Expr) (ρ : List SV) (j : Nat) (R : SV → Mus → Prop) (items : List Dt) (μ1 : Mus) : Prop :=
  ∃ (ks : List Str) (f : Str → Dt), items = ks.map Dt.str ∧ ks.Nodup ∧ ks.length ≤ 1000 ∧ (∀ k ∈ ks, ∀ w' kb, DE (BX X scope kb) w' kx (ρ.set j (.dat (.str k))) μ1 fun r μ' => r = .dat (.str k) ∧ μ' = μ1) ∧
    (∀ k ∈ ks, ∀ w' kb, DE (BX X scope kb) w' vx (ρ.set j (.dat (.str k))) μ1 fun r μ' => r = .dat (f k) ∧ μ' = μ1) ∧ R (.dat (dicT ks f)) μ1
theorem keyD_strs (ks : List Str) : (ks.map fun k => keyD (Sum.inr k : Key)) = ks.map Dt.str := rfl
theorem dc_data {j : Nat} {σ : L2.St} {B H : Hp} {Q : VK} (h : DI X w (.Name x px) iter ρ μ (DcAsk X scope kx vx ρ j R)) (S : Sto B σ ρ) (I : SInv w B H μ) (k : Kt w B R Q) :
    tDc (tI X (.Name x px) iter) (gName j) (gQ X scope []) (gE X scope kx) (gE X scope vx) [j] σ H Q := by
  refine h σ B H S I _ fun J items B1 H1 μ1 I1 e1 W h1 D hD => ?_
  obtain ⟨ks, f, rfl, nd, hlen, hk, hv, hR⟩ := h1
  obtain ⟨bD, mD, wD⟩ := I1.free hD
  let Pv : Nat → Hp → Prop := fun i H' => ∃ B' kvs, SInv w B' H' μ1 ∧ Ex B1 B' ∧ B' D = none ∧ H' D = some (.dK kvs) ∧ kvs.map (·.1) = (ks.take i).map (Sum.inr : Str → Key) ∧ DqA B' (kvs.map (·.2)) ((ks.take i).map f)
  refine ⟨fun i m H => m = ks.length - i ∧ i ≤ ks.length ∧ Pv i H, ⟨ks.length, by simp, Nat.zero_le _, B1, [], I1.own bD wD mD _, Ex.refl _, bD, upd_same, rfl, .nil⟩, ?_⟩
  rintro i m H' ⟨rfl, hi, B2, kvs, I2, g2, b2, hx, hks, hvs⟩
  have gg : Ex B1 H' := g2.trans I2.bh
  have hil : (ks.map Dt.str).length = ks.length := List.length_map ..
  by_cases hlt : i < ks.length
  · refine .inr ⟨W.goes i H' (by rw [hil]; exact hlt) gg, Pv (i + 1), fun H2 p' => ⟨ks.length - (i + 1), by omega, rfl, hlt, p'⟩, fun v H3 y => ?_⟩
    obtain ⟨d, hd, hy⟩ := W.yields i H' v H3 (by rw [hil]; exact hlt) gg y
    rw [List.getElem?_map, List.getElem?_eq_getElem hlt] at hd
    cases hd
    obtain ⟨rfl, q⟩ : H3 = H' ∧ Dq B1 v (.str ks[i]) := by
      rcases hy with z | ⟨_, _, _, _, _, _, _, z⟩
      · exact z
      · cases z
    have hmem : ks[i] ∈ ks := List.getElem_mem hlt
    refine ⟨by simp [wipe, List.set_set], ?_⟩
    intro kb
    have J3 : SInv ⟨B2, H3, fun p => μ1 p ≠ none⟩ B2 H3 μ1 := SInv.start I2.bh fun p o z => ⟨(I2.mus p o z).1, (I2.mus p o z).2.1⟩
    have S3 : Sto B2 ((wipe σ [j]).set j (some v)) (ρ.set j (.dat (.str ks[i]))) := by
      have s1 : Sto B2 σ ρ := S.mono (e1.trans g2)
      have s2 : Sto B2 (wipe σ [j]) (ρ.set j .no) := s1.wipe [j] _ (by rw [List.length_set]) fun i r hr => by
        by_cases e : j = i
        · subst e
          by_cases hl : j < ρ.length
          · rw [List.getElem?_set_self hl] at hr; cases hr; exact .inl rfl
          · rw [List.getElem?_eq_none (by rw [List.length_set]; omega)] at hr; cases hr
        · rw [List.getElem?_set_ne e] at hr; exact .inr ⟨by simpa using fun z => e z.symm, hr⟩
      have s3 := s2.set j (r := .dat (.str ks[i])) (v := v) (q.mono g2)
      rwa [List.set_set] at s3
    have keepD : ∀ {B4 H4 μ4}, SInv ⟨B2, H3, fun p => μ1 p ≠ none⟩ B4 H4 μ4 → B4 D = none ∧ H4 D = some (.dK kvs) := fun {B4 H4 μ4} J4 => ⟨J4.out D (by show H3 D ≠ none; rw [hx]; exact nofun) b2, J4.keep D _ (fun z => z mD) hx⟩
    refine tQ_of pts_nil ?_
    unfold tYes; dsimp only; rw [if_pos rfl]
    intro kc
    refine hk _ hmem _ kc _ B2 H3 S3 J3 _ fun yv r B4 H4 μ4 J4 e4 q4 h4 => ?_
    obtain ⟨rfl, rfl⟩ := h4
    intro kc2
    refine hv _ hmem _ kc2 _ B4 H4 (S3.mono e4) J4 _ fun zv r B5 H5 μ5 J5 e5 q5 h5 => ?_
    obtain ⟨rfl, rfl⟩ := h5
    obtain ⟨k2, k3⟩ := keepD J5
    have ey : yv = .str ks[i] := by generalize ks[i] = kk at q4; cases q4; rfl
    have hkl : kvs.length = i := by have := congrArg List.length hks; rw [List.length_map, List.length_map, List.length_take] at this; omega
    have fresh : valV kvs (Sum.inr ks[i] : Key) = none := by
      cases e : valV kvs (Sum.inr ks[i] : Key) with
      | none => rfl
      | some u =>
        have m := valV_in e
        rw [hks] at m
        obtain ⟨z, hz, ez⟩ := List.mem_map.mp m
        injection ez with ez
        subst ez
        obtain ⟨a, ha, ea⟩ := List.mem_take_iff_getElem.mp hz
        have := (List.getElem_inj nd).mp ea
        omega
    refine ⟨kvs, Sum.inr ks[i], ey, k3, by rw [hkl]; exact Nat.lt_of_lt_of_le hlt (Nat.le_trans hlen (by decide)), B5, putK kvs (Sum.inr ks[i]) zv, ?_, g2.trans (e4.trans e5), k2, upd_same, ?_, ?_⟩
    · exact (I2.back J5).own k2 wD mD _
    · rw [putK_new _ fresh, List.map_append, hks, List.take_add_one, List.getElem?_eq_getElem hlt, List.map_append]; rfl
    · rw [putK_new _ fresh, List.map_append, List.take_add_one, List.getElem?_eq_getElem hlt, List.map_append]
      exact ((hvs.mono e4).mono e5).snoc q5
  · have ei : i = ks.length := by omega
    subst ei
    refine .inl ⟨by have := W.stops H' gg; rw [hil] at this; exact this, ?_⟩
    rw [List.take_length] at hks hvs
    have z := Dq.dic (H := upd B2 D (.dK kvs)) upd_same (hvs.mono (Ex.new b2))
    have ez : (kvs.map fun kv => keyD kv.1) = ks.map Dt.str := by
      have : (kvs.map fun kv => keyD kv.1) = (kvs.map (·.1)).map keyD := by rw [List.map_map]; rfl
      rw [this, hks, List.map_map]; rfl
    rw [ez] at z
    exact k (.ref D) (.dat (dicT ks f)) (upd B2 D (.dK kvs)) H' μ1 (I2.told b2 wD mD hx) (e1.trans (g2.trans (Ex.new b2))) z hR
theorem de_dc (j : Nat) (hc : X.calm = true) (hN : X.N.Nodup) (ok : BlkOk X.N X.env.scope scope [(x, j)]) (h : DI X w (.Name x px) iter ρ μ (DcAsk X scope kx vx ρ j R)) (hi : X.N[j]? = some x := by rfl)
    (hx : ∀ k, Loc (BX X scope k).env.scope x := by intro _; first | exact Or.inl rfl | exact Or.inr rfl) (hf : ∀ k, (BX X scope k).fn x = true ∨ (BX X scope k).env.scope.names.lookup x = some .local := by intro _; first | exact Or.inr rfl | exact Or.inl rfl)
    (hs : ∀ z, foldedSetIterable iter X.env z = pure z := by intro _; rfl) : DE X w (.DictComp kx vx [⟨.Name x px, iter, [], 0⟩] scope pos) ρ μ R := fun σ B H S I Q k =>
  tE_of (pe_dc (own := [(x, j)]) (g := gName j) (tt := gQ X scope []) (tk := gE X scope kx) (tv := gE X scope vx) hc hN pi_self ok (fun s H C cl fp => pg_name (X := BX X scope (s, H, C, cl, fp)) hN hi (hx (s, H, C, cl, fp)) (hf (s, H, C, cl, fp)))
    (fun s H C cl fp => ⟨fun pins s1 σ1 H1 Q1 I1 q => q (s, H, C, cl, fp) pins s1 I1⟩) (fun s H C cl fp => ⟨fun pins s1 σ1 H1 Q1 I1 q => q (s, H, C, cl, fp) pins s1 I1⟩) (fun s H C cl fp => ⟨fun pins s1 σ1 H1 Q1 I1 q => q (s, H, C, cl, fp) pins s1 I1⟩) hs) (dc_data h S I k)
end
end Dat

set_option Elab.async false
set_option linter.all false
set_option maxRecDepth 100000
set_option maxHeartbeats 4000000
/-! Mx10: what is asked of a table of texts that an object keeps. -/
namespace Dat
open PySem PySem.Spec PyProof.Rows L2 Mx
theorem dicT_get {B : Hp} {v : V} {ks : List Str} {f : Str → Dt} (q : Dq B v (dicT ks f)) : ∃ a kvs, v = .ref a ∧ B a = some (.dK kvs) ∧ kvs.map (·.1) = ks.map (Sum.inr : Str → Key) ∧ DqA B (kvs.map (·.2)) (ks.map f) := by
  unfold dicT at q
  generalize e : ks.map Dt.str = kd at q
  cases q with
  | @dic a kvs _ ha hx =>
    refine ⟨a, kvs, rfl, ha, ?_, hx⟩
    have key : ∀ {as : List Key} {ks : List Str}, ks.map Dt.str = as.map keyD → as = ks.map (Sum.inr : Str → Key) := by
      intro as
      induction as with
      | nil => intro ks h; cases ks with
        | nil => rfl
        | cons _ _ => simp at h
      | cons x xs ih =>
        intro ks h
        cases ks with
        | nil => simp at h
        | cons y ys =>
          rw [List.map_cons, List.map_cons] at h
          injection h with h1 h2
          rw [List.map_cons, ih h2]
          cases x with
          | inl i => cases h1
          | inr z => cases h1; rfl
    refine key (e.trans ?_)
    rw [List.map_map]; rfl
theorem valV_dic {B : Hp} {f : Str → Dt} : ∀ {ks : List Str} {kvs : List (Key × V)}, kvs.map (·.1) = ks.map (Sum.inr : Str → Key) → DqA B (kvs.map (·.2)) (ks.map f) → ∀ k : Str, (k ∈ ks → ∃ v, valV kvs (Sum.inr k) = some v ∧ Dq B v (f k)) ∧ (k ∉ ks → valV kvs (Sum.inr k : Key) = none)
  | [], kvs, e, q, k => by
    cases kvs with
    | nil => exact ⟨fun h => (nomatch h), fun _ => rfl⟩
    | cons _ _ => simp at e
  | x :: ks, kvs, e, q, k => by
    cases kvs with
    | nil => simp at e
    | cons p kvs =>
      rw [List.map_cons, List.map_cons] at e q
      injection e with e1 e2
      cases q with
      | cons q1 q2 =>
        obtain ⟨h1, h2⟩ := valV_dic e2 q2 k
        by_cases hk : k = x
        · subst hk
          refine ⟨fun _ => ⟨p.2, valV_pos e1, q1⟩, fun z => absurd List.mem_cons_self z⟩
        · have ne : ¬ p.1 = Sum.inr k := fun z => hk (by rw [e1] at z; injection z with z; exact z.symm)
          rw [valV_neg ne]
          exact ⟨fun z => h1 ((List.mem_cons.mp z).resolve_left hk), fun z => h2 fun y => z (List.mem_cons_of_mem _ y)⟩
section
variable {X : Cx} {w : Wd} {ρ : List SV} {μ : Mus} {R : SV → Mus → Prop} {ks ls : List Str} {f g : Str → Dt} {x : Str}
theorem ca_listDic {k : Nat} (hc : X.calm = true) (h : R (.dat (.lst (ks.map Dt.str))) μ) : CaD X w (.type "list") [.dat (dicT ks f)] μ R := fun B H vs I q Q kk => by
  obtain ⟨v, rfl, q1⟩ := q.one
  obtain ⟨a, kvs, rfl, ha, hk, hv⟩ := dicT_get q1
  refine sC_of (call_listD hc) ⟨a, kvs, rfl, .inl (I.bh _ _ ha), fun p hp => ?_⟩
  have e : (kvs.map fun kv => kV kv.1) = ks.map V.str := by
    have : (kvs.map fun kv => kV kv.1) = (kvs.map (·.1)).map kV := by rw [List.map_map]; rfl
    rw [this, hk, List.map_map]; rfl
  rw [e]
  have fr := (I.free hp).1
  exact kk (.ref p) (.dat (.lst (ks.map Dt.str))) _ _ μ (I.new hp _) (Ex.new fr) (.lst upd_same (dqa_strs _ ks)) h
theorem ca_lenDic (h : R (.dat (.int (ks.length : Int))) μ) : CaD X w (.builtin "len") [.dat (dicT ks f)] μ R := fun B H vs I q Q kk => by
  obtain ⟨v, rfl, q1⟩ := q.one
  obtain ⟨a, kvs, rfl, ha, hk, hv⟩ := dicT_get q1
  have e : kvs.length = ks.length := by have := congrArg List.length hk; rw [List.length_map, List.length_map] at this; exact this
  exact sC_of call_lenD ⟨a, kvs, rfl, I.bh _ _ ha, by rw [e]; exact kk (.int _) (.dat (.int _)) B H μ I (Ex.refl B) (Dq.int _) h⟩
/-- x in d -/
theorem op_inDic {k : Nat} (hr : Room k X.A) (h : R (.dat (.bl (decide (x ∈ ks)))) μ) : OpD X w (compareOp .In) (.dat (.str x)) (.dat (dicT ks f)) μ R := fun B H v u I q1 q2 Q kk pins s σ v' u' J rv ru => by
  obtain ⟨a, kvs, rfl, ha, hk, hv⟩ := dicT_get q2
  cases q1
  obtain rfl : u' = Value.ref a := ru
  have hu := hr.un
  refine d_in (by omega) J (DGet.k (k := (Sum.inr x : Key)) (I.bh _ _ ha)) rv fun s' J' => ⟨.bl _, H, J', rfl, ?_⟩
  obtain ⟨m1, m2⟩ := valV_dic hk hv x
  by_cases hx : x ∈ ks
  · obtain ⟨v, e, _⟩ := m1 hx
    rw [e]; rw [decide_eq_true hx] at h
    exact kk (.bl _) (.dat (.bl true)) B H μ I (Ex.refl B) (Dq.bl _) h
  · rw [m2 hx]; rw [decide_eq_false hx] at h
    exact kk (.bl _) (.dat (.bl false)) B H μ I (Ex.refl B) (Dq.bl _) h
/-- d[x] -/
theorem ix_dic {k : Nat} (hr : Room k X.A) (hx : x ∈ ks) (h : R (.dat (f x)) μ) : IxD X w (.dat (dicT ks f)) (.dat (.str x)) μ R := fun B H v u I q1 q2 Q kk value slice pins s σ v' u' J rv ru hsub => by
  obtain ⟨a, kvs, rfl, ha, hk, hv⟩ := dicT_get q1
  cases q2
  obtain rfl : v' = Value.ref a := rv
  have hu := hr.un
  obtain ⟨vv, e, qv⟩ := (valV_dic hk hv x).1 hx
  have g : DGet H a (kV (Sum.inr x : Key)) (some vv) := e ▸ DGet.k (k := (Sum.inr x : Key)) (I.bh _ _ ha)
  have hT := dict_typeIs J g
  have fin : wpAny (model X.prog X.w) X.A (getItem (.ref a) u') (EP X pins σ Q) X.xe s := d_getItem (by omega) J g ru fun w' s' J' rw' => ⟨vv, H, J', rw', kk vv (.dat (f x)) B H μ I (Ex.refl B) qv h⟩
  unfold subscriptTail
  refine wpAny_bind ?_
  rw [getitemInPython_of_ne hT.not_modules]; refine wpAny_bind (wpAny_specialOf hT PySem.F.slot_dict_getitem.lookup ?_)
  have last : wpAny (model X.prog X.w) X.A (subscripted slice false (.ref a) u') (fun r s₃ => wpAny (model X.prog X.w) X.A (letTemporaryGo value (.ref a) r >>= fun _ => pure r) (EP X pins σ Q) X.xe s₃) X.xe s := by
    rw [hsub]; exact wpAny_operating (wpAny_mono fin (fun r s₃ h₃ => wpAny_bind (wpAny_letTemporaryGo (wpAny_pure h₃))) fun _ _ x => x)
  first
    | exact wpAny_pure (wpAny_bind last)
    | exact wpAny_bind (wpAny_pure (wpAny_bind last))
    | exact wpAny_bind last
def hitB (f : Str → Dt) (ls : List Str) (g : Str → Dt) : List Str → Bool
  | [] => true
  | k :: ks => if k ∈ ls then (NestedKey.beq (nk (f k)) (nk (g k)) && hitB f ls g ks) else false
theorem hits_of {pins : List (Addr × Obj)} {σ : L2.St} {B H : Hp} {s : Shared} {A : Around} (J : Inv X pins σ H s) (e : Ex B H) (hu : A.units + 64 < cLine) {kvb : List (Key × V)} {vb : List (Key × Value)} (rb : KV kvb vb) (hb : kvb.map (·.1) = ls.map (Sum.inr : Str → Key)) (qb : DqA B (kvb.map (·.2)) (ls.map g))
    (kg : ∀ k ∈ ls, keyable (g k) = true ∧ (nk (g k)).depth ≤ 8) : ∀ {ks : List Str} {kva : List (Key × V)} {va : List (Key × Value)}, KV kva va → kva.map (·.1) = ks.map (Sum.inr : Str → Key) → DqA B (kva.map (·.2)) (ks.map f) → (∀ k ∈ ks, keyable (f k) = true ∧ (nk (f k)).depth ≤ 8) → PySem.W.KeqHits A s vb va (hitB f ls g ks)
  | [], kva, va, r, h, _, _ => by
    cases kva with
    | nil => cases r; exact .nil
    | cons _ _ => simp at h
  | k :: ks, kva, va, r, h, q, kf => by
    cases kva with
    | nil => simp at h
    | cons p kva =>
      cases r with
      | @cons _ pv _ va' r1 r2 =>
        rw [List.map_cons, List.map_cons] at h q
        injection h with h1 h2
        cases q with
        | cons q1 q2 =>
          have ih := hits_of J e hu rb hb qb kg r2 h2 q2 fun k hk => kf k (List.mem_cons_of_mem _ hk)
          obtain ⟨pk, pval⟩ := pv
          obtain rfl : pk = Sum.inr k := (show p.1 = pk from r1.1).symm.trans h1
          obtain ⟨m1, m2⟩ := valV_dic hb qb k
          unfold hitB
          by_cases hm : k ∈ ls
          · rw [if_pos hm]
            obtain ⟨vv, e1, qv⟩ := m1 hm
            have ro := rb.val (Sum.inr k : Key)
            rw [e1] at ro
            cases eu : valueAt vb (Sum.inr k : Key) with
            | none => rw [eu] at ro; exact ro.elim
            | some u =>
              rw [eu] at ro
              have d1 := (kf k List.mem_cons_self)
              have d2 := kg k hm
              exact .hit eu (eqAt_key (nk (f k)) (nk (g k)) A s pval u (Dq.key J _ _ _ (q1.mono e) d1.1 r1.2) (Dq.key J _ _ _ (qv.mono e) d2.1 ro) (by have := d1.2; omega)) ih
          · rw [if_neg hm]
            refine .miss ?_
            have ro := rb.val (Sum.inr k : Key)
            rw [m2 hm] at ro
            cases eu : valueAt vb (Sum.inr k : Key) with
            | none => rfl
            | some u => rw [eu] at ro; exact ro.elim
theorem op_eqDic {k : Nat} (hr : Room k X.A) (kf : ∀ k ∈ ks, keyable (f k) = true ∧ (nk (f k)).depth ≤ 8) (kg : ∀ k ∈ ls, keyable (g k) = true ∧ (nk (g k)).depth ≤ 8) (h : R (.dat (.bl (ks.length == ls.length && hitB f ls g ks))) μ) : OpD X w (compareOp .Eq) (.dat (dicT ks f)) (.dat (dicT ls g)) μ R := fun B H v u I q1 q2 Q kk pins s σ v' u' J rv ru => by
  obtain ⟨a, kva, rfl, ha, hka, hva⟩ := dicT_get q1
  obtain ⟨b, kvb, rfl, hb, hkb, hvb⟩ := dicT_get q2
  obtain rfl : v' = Value.ref a := rv
  obtain rfl : u' = Value.ref b := ru
  have hu := hr.un
  obtain ⟨_, sa, va, ra, da⟩ := dk_of J.hok (I.bh _ _ ha)
  obtain ⟨_, sb, vb, rb, db⟩ := dk_of J.hok (I.bh _ _ hb)
  have la : va.length = ks.length := by rw [← ra.length]; have := congrArg List.length hka; rw [List.length_map, List.length_map] at this; exact this
  have lb : vb.length = ls.length := by rw [← rb.length]; have := congrArg List.length hkb; rw [List.length_map, List.length_map] at this; exact this
  refine PySem.W.keq_eq sa sb da db (by omega) (fun _ => hits_of (A := X.A.in1) J I.bh (by show X.A.units + 1 + 64 < _; omega) rb hkb hvb kg ra hka hva kf) ⟨.bl _, H, J, rfl, ?_⟩
  rw [la, lb]
  exact kk (.bl _) (.dat (.bl _)) B H μ I (Ex.refl B) (Dq.bl _) h
end
end Dat

set_option Elab.async false
set_option linter.all false
set_option maxRecDepth 100000
set_option maxHeartbeats 4000000
/-! Mx11: own objects compared with anything, asked for their length, shown. -/
namespace Mx
open PySem PySem.W
section
variable {prog : Program} {w : World} {A : Around} {E : Value → Shared → Prop} {s : Shared} {K : Frag} {x C f L : Addr} {ox : Obj} {od : Option Obj} {h₀ : Heap} {m : Str → Option Value}
theorem inst_is {M : Model} {T : String} {b : Bool} (X : K.In s.heap) (I : InstAt s.heap x ox C od) (hn : subIn K (.ref C) (.type T) = some b) : Looks M s.heap (isInstance (.ref x) (.type T)) b := by
  unfold isInstance; exact I.type.andThen (looks_subIn X hn)
/-- T.__eq__ of another type declines -/
theorem decl_none {P : Shared → Prop} (hq : P s) : wpAny (model prog w) A (call (.builtin "NoneType.__eq__") [.none, .ref x]) (fun v s' => v = .notImplemented ∧ P s') E s := by
  refine wpAny_call_entry (T := "NoneType") F.slot_NoneType_eq rfl F.entry_NoneType_eq ?_ (F.args_NoneType_eq_2 _ _)
  exact wpAny_pure ⟨_, rfl, rfl, hq⟩
theorem decl_int {i : Int} {t : Tok} {P : Shared → Prop} (ho : s.heap.get? x = some ox) (hd : ∀ v, ox.data ≠ .prim v) (hq : P s) : wpAny (model prog w) A (call (.builtin "int.__eq__") [.int i t, .ref x]) (fun v s' => v = .notImplemented ∧ P s') E s := by
  refine wpAny_call_entry (T := "int") F.slot_int_eq rfl F.entry_int_eq ?_ (F.args_int_eq_2 _ _)
  show wpAny _ _ (asInt? (.ref x) >>= _) _ _ s
  refine wpAny_bind (wpAny_bind (wpAny_load ho ?_))
  obtain ⟨oc, odd, dt, sl⟩ := ox
  cases dt with
  | prim v => exact absurd rfl (hd v)
  | _ => exact wpAny_pure (wpAny_bind (wpAny_rule (wpAny_pure ⟨_, rfl, rfl, hq⟩)))
theorem decl_str {y : Str} {t : Tok} {P : Shared → Prop} (ho : s.heap.get? x = some ox) (hd : ∀ v, ox.data ≠ .prim v) (hq : P s) : wpAny (model prog w) A (call (.builtin "str.__eq__") [.str y t, .ref x]) (fun v s' => v = .notImplemented ∧ P s') E s := by
  refine wpAny_call_entry (T := "str") F.slot_str_eq (typeIs_str s y t) F.entry_str_eq ?_ (F.args_str_eq_2 _ _)
  show wpAny _ _ (asStr? (.ref x) >>= _) _ _ s
  refine wpAny_bind (wpAny_bind (wpAny_load ho ?_))
  obtain ⟨oc, odd, dt, sl⟩ := ox
  cases dt with
  | prim v => exact absurd rfl (hd v)
  | _ => exact wpAny_pure (wpAny_bind (wpAny_rule (wpAny_pure ⟨_, rfl, rfl, hq⟩)))
theorem decl_list {a : Addr} {P : Shared → Prop} (X : K.In s.heap) (I : InstAt s.heap x ox C od) (hn : subIn K (.ref C) (.type "list") = some false) (hT : s.TypeIs (.ref a) "list") (hq : P s) : wpAny (model prog w) A (call (.builtin "list.__eq__") [.ref a, .ref x]) (fun v s' => v = .notImplemented ∧ P s') E s := by
  refine wpAny_call_entry (T := "list") F.slot_list_eq hT F.entry_list_eq ?_ (F.args_list_eq_2 _ _)
  show wpAny _ _ (isInstance (.ref x) (.type "list") >>= _) _ _ s
  exact wpAny_bind ((inst_is X I hn).here (wpAny_bind (wpAny_pure (wpAny_pure ⟨_, rfl, rfl, hq⟩))))
theorem decl_tuple {a : Addr} {P : Shared → Prop} (X : K.In s.heap) (I : InstAt s.heap x ox C od) (hn : subIn K (.ref C) (.type "tuple") = some false) (hT : s.TypeIs (.ref a) "tuple") (hq : P s) : wpAny (model prog w) A (call (.builtin "tuple.__eq__") [.ref a, .ref x]) (fun v s' => v = .notImplemented ∧ P s') E s := by
  refine wpAny_call_entry (T := "tuple") F.slot_tuple_eq hT F.entry_tuple_eq ?_ (F.args_tuple_eq_2 _ _)
  show wpAny _ _ (isInstance (.ref x) (.type "tuple") >>= _) _ _ s
  exact wpAny_bind ((inst_is X I hn).here (wpAny_bind (wpAny_pure (wpAny_pure ⟨_, rfl, rfl, hq⟩))))
theorem decl_dict {a : Addr} {P : Shared → Prop} (X : K.In s.heap) (I : InstAt s.heap x ox C od) (hn : subIn K (.ref C) (.type "dict") = some false) (hT : s.TypeIs (.ref a) "dict") (hq : P s) : wpAny (model prog w) A (call (.builtin "dict.__eq__") [.ref a, .ref x]) (fun v s' => v = .notImplemented ∧ P s') E s := by
  refine wpAny_call_entry (T := "dict") F.slot_dict_eq hT F.entry_dict_eq ?_ (F.args_dict_eq_2 _ _)
  show wpAny _ _ (Builtin.Dict.dictSlotArgs "__eq__" ⟨[.ref a, .ref x], []⟩ >>= _) _ _ s
  refine wpAny_bind ?_
  unfold Builtin.Dict.dictSlotArgs; refine wpAny_bind (wpAny_notOrdered_dict hT ?_)
  show wpAny _ _ (pure (Value.ref a, Value.ref x)) _ _ s
  refine wpAny_pure ?_
  exact wpAny_bind ((inst_is X I hn).here (wpAny_bind (wpAny_rule (wpAny_pure ⟨_, rfl, rfl, hq⟩))))
/-- a == o, a of a built-in type that declines -/
theorem eq_refl_K {a : Value} {T id : String} {Q : Value → Shared → Prop} (hu : A.units < cLine) (X : K.In s.heap) (I : InstAt s.heap x ox C od) (hT : s.TypeIs a T) (hsub : subIn K (.ref C) (.type T) = some false) (slot : Slot T "__eq__" id)
    (dec : ∀ (P : Shared → Prop), P s → wpAny (model prog w) A (call (.builtin id) [a, .ref x]) (fun v s' => v = .notImplemented ∧ P s') E s)
    (hs : findIn K (.ref C) "__eq__" = some (some (.ref f))) (hf : isFn K (.ref f) = true) (hone : oneThing? .Eq a (.ref x) = none)
    (h : wpAny (model prog w) A (call (.ref f) [.ref x, a]) (CmpBack Q) E s) : wpAny (model prog w) A (compareOp .Eq a (.ref x)) Q E s := by
  show wpAny (model prog w) A (richCompare .Eq a (.ref x)) Q E s
  unfold richCompare
  simp only [hone]
  refine wpAny_holding (wpAny_bind (wpAny_cRoomFor hu ?_))
  refine wpAny_bind (wpAny_typeOf hT (wpAny_bind (I.type.here ?_)))
  rw [if_pos (by simp)]
  refine wpAny_bind ((looks_subIn X hsub).here ?_)
  simp only [Bool.false_eq_true, if_false]
  refine wpAny_bind (m := tryCompare a _ (.ref x)) (wpAny_tryCompare_declines hT slot (dec _ ?_))
  have two : wpAny (model prog w) A (tryCompare (.ref x) "__eq__" a) (fun r s' => ∃ v, r = some v ∧ Q v s') E s := by
    unfold tryCompare
    refine wpAny_bind (ifBound_K X I hs hf (wpAny_mono h (fun v s' hv => ?_) fun _ _ e => e))
    cases v <;> first | exact hv.elim | exact wpAny_pure ⟨_, rfl, hv⟩
  refine wpAny_bind (m := tryCompare (.ref x) _ a) (wpAny_mono two (fun r s' z => ?_) fun _ _ e => e)
  obtain ⟨v, rfl, hq⟩ := z
  exact wpAny_pure hq
/-- o != p, both of a class with its own == and no != -/
theorem ne_own_K {y : Addr} {oy : Obj} {od' : Option Obj} {Q : Value → Shared → Prop} (hu : A.units + 1 < cLine) (X : K.In s.heap) (I : InstAt s.heap x ox C od) (J : InstAt s.heap y oy C od') (hs : findIn K (.ref C) "__eq__" = some (some (.ref f))) (hf : isFn K (.ref f) = true)
    (hn : findIn K (.ref C) "__ne__" = some (some (.builtin "object.__ne__"))) (hob : subIn K (.ref C) (.type "object") = some true)
    (h : wpAny (model prog w) A.in1 (call (.ref f) [.ref x, .ref y]) (fun v s' => ∃ b, v = .bool b ∧ Q (.bool (!b)) s') E s) : wpAny (model prog w) A (compareOp .NotEq (.ref x) (.ref y)) Q E s := by
  have one : wpAny (model prog w) A (tryCompare (.ref x) "__ne__" (.ref y)) (fun r s' => ∃ v, r = some v ∧ Q v s') E s := by
    unfold tryCompare
    have body : wpAny (model prog w) A (call (.builtin "object.__ne__") [.ref x, .ref y]) (fun v s' => ∃ b, v = .bool b ∧ Q (.bool b) s') E s := by
      refine wpAny_call (codeAny_call_builtin (by decide +kernel) F.cmpEntry_ne (@PySem.W.check_slot (model prog w) _ _ _ "object.__ne__" "object" "__ne__" (.ref x) [.ref y] [] _ (by decide +kernel) (by decide +kernel) (inst_is X I hob) (F.cmpArgs_ne _ _) ?_))
      show wpAny _ _ (cRoomFor "comparison" [.ref x, .ref y] >>= _) _ _ s
      refine wpAny_bind (wpAny_cRoomFor (by show A.units + 1 < _; exact hu) ?_)
      refine wpAny_bind (m := callSpecialIfBound? (.ref x) (Str.ofString "__eq__") [.ref y]) (ifBound_K X I hs hf (wpAny_mono h (fun v s' hv => ?_) fun _ _ e => e))
      obtain ⟨b, rfl, hq⟩ := hv
      exact wpAny_bind (wpAny_truthy_bool (wpAny_pure ⟨_, rfl, hq⟩))
    have bound : wpAny (model prog w) A (callSpecialIfBound? (.ref x) (Str.ofString "__ne__") [.ref y]) (fun r s' => ∃ b, r = some (.bool b) ∧ Q (.bool b) s') E s := by
      simp only [callSpecialIfBound?, bindSpecialIfBound?]
      refine wpAny_holding (wpAny_bind (wpAny_bind (wpAny_bind (I.type.here ((looks_findIn X hn).here ?_)))))
      refine wpAny_bind (wpAny_askSetting (wpAny_ite ?_))
      have fin : wpAny (model prog w) A (call (.builtin "object.__ne__") ([.ref x] ++ [.ref y]) >>= fun v => pure (some v)) (fun r s' => ∃ b, r = some (.bool b) ∧ Q (.bool b) s') E s := wpAny_bind (wpAny_mono body (fun v s' h' => by obtain ⟨b, rfl, hq⟩ := h'; exact wpAny_pure ⟨b, rfl, hq⟩) fun _ _ h' => h')
      have bd : bindSpecial (.builtin "object.__ne__") (.ref x) = pure (.builtin "object.__ne__", [.ref x]) := F.slot_tuple_iterator_ne.bind _
      split
      · rw [bd]; exact wpAny_bind (wpAny_pure (wpAny_pure (by exact fin)))
      · rw [bd]; exact wpAny_tryCatch (wpAny_bind (wpAny_pure (wpAny_pure (by exact fin))))
    refine wpAny_bind (wpAny_mono bound (fun r s' z => ?_) fun _ _ e => e)
    obtain ⟨b, rfl, hq⟩ := z
    exact wpAny_pure ⟨_, rfl, hq⟩
  show wpAny (model prog w) A (richCompare .NotEq (.ref x) (.ref y)) Q E s
  unfold richCompare
  simp only [oneThing_ref]
  refine wpAny_holding (wpAny_bind (wpAny_cRoomFor (by omega) ?_))
  refine wpAny_bind (I.type.here (wpAny_bind (J.type.here ?_)))
  rw [if_neg (by simp)]
  refine wpAny_bind (wpAny_pure ?_)
  simp only [Bool.false_eq_true, if_false]
  refine wpAny_bind (m := tryCompare (.ref x) _ (.ref y)) (wpAny_mono one (fun r s' z => ?_) fun _ _ e => e)
  obtain ⟨v, rfl, hq⟩ := z
  exact wpAny_pure hq
end
end Mx

set_option Elab.async false
set_option linter.all false
set_option maxRecDepth 100000
set_option maxHeartbeats 4000000
/-! Mx12: own objects as data: ==, !=, len, repr. -/
namespace Dat
open PySem PySem.Spec PyProof.Rows L2 Mx
structure OwnC (K : PySem.W.Frag) (C : Addr) : Prop where
  cls : Cls K C
  nsub : ∀ T ∈ ["NoneType", "int", "bool", "str", "list", "tuple", "dict"], PySem.W.subIn K (.ref C) (.type T) = some false
  obj : PySem.W.subIn K (.ref C) (.type "object") = some true
  ne : PySem.W.findIn K (.ref C) "__ne__" = some (some (.builtin "object.__ne__"))
theorem nf_type {K : PySem.W.Frag} {C : Addr} {T : String} (h : T ∈ ["NoneType", "int", "bool", "str", "list", "tuple", "dict"]) : PySem.W.notFirst K C (.type T) = true := by
  have e : ∃ l, PySem.fastBuiltinMro T = some l ∧ l.contains (.ref C) = false := by
    simp only [List.mem_cons, List.not_mem_nil, or_false] at h
    rcases h with rfl | rfl | rfl | rfl | rfl | rfl | rfl <;> exact ⟨_, by rfl, by simp⟩
  obtain ⟨l, e1, e2⟩ := e
  unfold PySem.W.notFirst
  have : PySem.W.subIn K (.type T) (.ref C) = some false := by show (PySem.fastBuiltinMro T).map (·.contains (.ref C)) = some false; rw [e1]; simp only [Option.map_some, e2]
  rw [this]; simp
theorem typeIs_of {X : Cx} {pins : List (Addr × Obj)} {σ : L2.St} {B H : Hp} {s : Shared} {v : V} {u : Value} {d : Dt} (J : Inv X pins σ H s) (e : Ex B H) (q : Dq B v d) (r : RelV v u) (h : tyD d ∈ ["NoneType", "int", "bool", "str", "list", "tuple", "dict"]) : s.TypeIs u (tyD d) := by
  cases q with
  | non => cases r; rfl
  | bl b => cases r; rfl
  | int i => obtain ⟨t, rfl⟩ := r; rfl
  | str x => obtain ⟨t, rfl⟩ := r; exact typeIs_str s x t
  | lst ha _ =>
    obtain rfl := (show _ = Value.ref _ from r)
    obtain ⟨_, its, n, _, ho⟩ := (show ObjOk X.prog X.w H s.heap _ (.lst _) from J.hok _ _ (e _ _ ha))
    exact ⟨_, ho, rfl⟩
  | tup ha _ =>
    obtain rfl := (show _ = Value.ref _ from r)
    obtain ⟨_, its, _, o, ho, hc, _⟩ := (show ObjOk X.prog X.w H s.heap _ (.tup _) from J.hok _ _ (e _ _ ha))
    exact ⟨o, ho, hc⟩
  | dic ha _ =>
    obtain rfl := (show _ = Value.ref _ from r)
    obtain ⟨_, _, vs, _, o, es, ep, ho, hc, _⟩ := (show ObjOk X.prog X.w H s.heap _ (.dK _) from J.hok _ _ (e _ _ ha))
    exact ⟨o, ho, hc.1⟩
  | mix ha _ _ =>
    obtain rfl := (show _ = Value.ref _ from r)
    obtain ⟨m1, ⟨es, ep, m2, _⟩, _⟩ := mxo_at J.hok (e _ _ ha)
    exact ⟨_, m1, m2.1⟩
  | obj _ _ => simp [tyD] at h
  | err _ _ _ => simp [tyD] at h
  | err0 _ => simp [tyD] at h
theorem looks_of {M : Model} {h : Heap} {u : Value} {T : String} (x : ∀ s : Shared, (∀ b o, h.get? b = some o → s.heap.get? b = some o) → s.TypeIs u T) : PySem.W.Looks M h (typeOf u) (.type T) := fun A Q E s k q => wpAny_typeOf (x s k) q
theorem typeIs_up {s s' : Shared} {u : Value} {T : String} (h : s.TypeIs u T) (k : ∀ b o, s.heap.get? b = some o → s'.heap.get? b = some o) : s'.TypeIs u T := by
  cases u <;> first | exact h | (obtain ⟨o, h1, h2⟩ := h; exact ⟨o, k _ _ h1, h2⟩)
section
variable {X : Cx} {w : Wd} {ρ : List SV} {μ : Mus} {R : SV → Mus → Prop} {k : Nat} {g C : Addr} {fd : FuncData} {ps : List Str} {pre : List SV → Mus → Prop} {post : List SV → Mus → SV → Mus → Prop} {ns : List Str} {vs : List Dt} {d : Dt}
theorem own_run {A0 : Around} {E : Value → Shared → Prop} {Q : Value → Shared → Prop} {pins : List (Addr × Obj)} {σ : L2.St} {B H : Hp} {s : Shared} {vs : List V} {rs : List SV} {us : List Value} (F : FnG X.prog X.w X.K X.mg X.base k g fd ps (GSp pre post)) (hr : Room k A0) (hg : A0.guards = some []) (hfr : A0.frames = X.A.frames) (hb : Binds X.K fd ps [])
    (J : Inv X pins σ H s) (I : SInv w B H μ) (q : SvA B vs rs) (rv : Vals vs us) (hp : pre rs μ) (fin : ∀ v r B' H' μ' u s', SInv w B' H' μ' → Ex B B' → Svq B' v r → post rs μ r μ' → Inv X pins σ H' s' → RelV v u → Q u s') : wpAny (model X.prog X.w) A0 (call (.ref g) us) Q E s := by
  have hsp : GSp pre post vs H (fun v H' => ∃ r B' μ', SInv w B' H' μ' ∧ Ex B B' ∧ Svq B' v r ∧ post rs μ r μ') E0 := ⟨B, rs, μ, q, I.bh, fun p o z => ⟨(I.mus p o z).1, (I.mus p o z).2.1⟩, hp, fun v r B' H' μ' L qv hp => ⟨r, B', μ', I.back L, L.b0, qv, hp⟩⟩
  have e := J.env0
  have e0 : Env0 X.prog X.w X.K X.mg X.base A0 X.stack s H := ⟨by rw [hfr]; exact e.frames, e.mod, e.bs, e.bsz, e.funs, e.frf, e.hok, e.bare⟩
  have hl : (us ++ []).length = ps.length := by rw [List.append_nil, ← rv.length]; exact F.len _ _ _ _ hsp
  have bd := hb s us J.kIn hl
  rw [List.append_nil] at bd
  refine wpAny_call (codeAny_mono (F.run A0 X.stack s H ⟨us, []⟩ us vs _ E0 hr hg e0 bd rv hsp) fun r s' hq => ?_)
  match r, hq with
  | .ok (.ret u), hq =>
    obtain ⟨v, H', J', rv', r, B', μ', I', e', q', p'⟩ := J.after hq
    exact fin v r B' H' μ' u s' I' e' q' p' J' rv'
  | .ok .next, hq => exact hq.elim
  | .ok .brk, hq => exact hq.elim
  | .ok .cont, hq => exact hq.elim
  | .error _, hq => exact hq.elim
theorem inst_of {pins : List (Addr × Obj)} {σ : L2.St} {B H : Hp} {s : Shared} {v : V} (J : Inv X pins σ H s) (e : Ex B H) (q : Dq B v (.obj C ns vs)) : ∃ a dx od, v = .ref a ∧ PySem.W.InstAt s.heap a (PySem.W.instObj C dx) C od := by
  cases q with
  | @obj a C dx fs ds ha hx =>
    obtain ⟨mA, O, _⟩ := ins_get J.hok (e _ _ ha)
    obtain ⟨od, K, _⟩ := O.look
    exact ⟨a, dx, od, rfl, K⟩
theorem op_eqOwn (O : OwnC X.K C) (M : Meth X.K C "__eq__" g) (F : FnG X.prog X.w X.K X.mg X.base k g fd ps (GSp pre post)) (hr : Room k X.A) (hgd : X.A.guards = some []) (hb : Binds X.K fd ps [])
    (hT : (∃ ns' vs', d = .obj C ns' vs') ∨ tyD d ∈ ["NoneType", "int", "bool", "str", "list", "tuple", "dict"]) (hp : pre [.dat (.obj C ns vs), .dat d] μ) (hq : ∀ r μ2, post [.dat (.obj C ns vs), .dat d] μ r μ2 → ∃ b, r = .dat (.bl b) ∧ R r μ2) : OpD X w (compareOp .Eq) (.dat (.obj C ns vs)) (.dat d) μ R := fun B H v u I q1 q2 Q kk pins s σ v' u' J rv ru => by
  obtain ⟨a, dx, od, rfl, IA⟩ := inst_of J I.bh q1
  obtain rfl : v' = Value.ref a := rv
  obtain ⟨m, hF⟩ := J.fr
  have hu := hr.un
  have hty : ∃ tb, PySem.W.Looks (model X.prog X.w) s.heap (typeOf u') tb ∧ PySem.W.notFirst X.K C tb = true := by
    rcases hT with ⟨ns', vs', rfl⟩ | hT
    · obtain ⟨b, dy, od', rfl, IB⟩ := inst_of J I.bh q2
      obtain rfl : u' = Value.ref b := ru
      exact ⟨_, IB.type, by simp [PySem.W.notFirst]⟩
    · have t := typeIs_of J I.bh q2 ru hT
      exact ⟨_, looks_of fun s' k => typeIs_up t k, nf_type hT⟩
  obtain ⟨tb, L, nf⟩ := hty
  refine PySem.W.cmp_K (op := .Eq) (tb := tb) (by omega) hF J.ok.mod.kin IA L nf M.at_ M.fn ?_
  refine own_run F hr hgd rfl hb J I (.cons (r := .dat (.obj C ns vs)) q1 (.cons (r := .dat d) q2 .nil)) (.cons rfl (.cons ru .nil)) hp fun v r B' H' μ' u s' I' e' q' p' J' rv' => ?_
  obtain ⟨b, rfl, hR⟩ := hq r μ' p'
  cases q'; cases rv'
  exact ⟨.bl b, H', J', rfl, kk (.bl b) (.dat (.bl b)) B' H' μ' I' e' (Dq.bl b) hR⟩
theorem op_neOwn {ns' : List Str} {vs' : List Dt} (O : OwnC X.K C) (M : Meth X.K C "__eq__" g) (F : FnG X.prog X.w X.K X.mg X.base k g fd ps (GSp pre post)) (hr : Room (k + 1) X.A) (hgd : X.A.guards = some []) (hb : Binds X.K fd ps [])
    (hp : pre [.dat (.obj C ns vs), .dat (.obj C ns' vs')] μ) (hq : ∀ r μ2, post [.dat (.obj C ns vs), .dat (.obj C ns' vs')] μ r μ2 → ∃ b, r = .dat (.bl b) ∧ R (.dat (.bl (!b))) μ2) : OpD X w (compareOp .NotEq) (.dat (.obj C ns vs)) (.dat (.obj C ns' vs')) μ R := fun B H v u I q1 q2 Q kk pins s σ v' u' J rv ru => by
  obtain ⟨a, dx, od, rfl, IA⟩ := inst_of J I.bh q1
  obtain ⟨b, dy, od', rfl, IB⟩ := inst_of J I.bh q2
  obtain rfl : v' = Value.ref a := rv
  obtain rfl : u' = Value.ref b := ru
  have hu := hr.un
  refine Mx.ne_own_K (by omega) J.kIn IA IB M.at_ M.fn O.ne O.obj ?_
  refine own_run F hr.in1 hgd rfl hb J I (.cons (r := .dat (.obj C ns vs)) q1 (.cons (r := .dat (.obj C ns' vs')) q2 .nil)) (.cons rfl (.cons rfl .nil)) hp fun v r B' H' μ' u s' I' e' q' p' J' rv' => ?_
  obtain ⟨b, rfl, hR⟩ := hq r μ' p'
  cases q'; cases rv'
  exact ⟨b, rfl, .bl (!b), H', J', rfl, kk (.bl (!b)) (.dat (.bl (!b))) B' H' μ' I' e' (Dq.bl _) hR⟩
/-- a == o, a no own object -/
theorem op_eqRefl (O : OwnC X.K C) (M : Meth X.K C "__eq__" g) (F : FnG X.prog X.w X.K X.mg X.base k g fd ps (GSp pre post)) (hr : Room k X.A) (hgd : X.A.guards = some []) (hb : Binds X.K fd ps [])
    (hT : d = .non ∨ (∃ i, d = .int i) ∨ (∃ x, d = .str x) ∨ (∃ l, d = .lst l) ∨ (∃ l, d = .tup l) ∨ (∃ a b, d = .dic a b) ∨ ∃ a b c, d = .mix a b c) (hp : pre [.dat (.obj C ns vs), .dat d] μ) (hq : ∀ r μ2, post [.dat (.obj C ns vs), .dat d] μ r μ2 → ∃ b, r = .dat (.bl b) ∧ R r μ2) : OpD X w (compareOp .Eq) (.dat d) (.dat (.obj C ns vs)) μ R := fun B H v u I q2 q1 Q kk pins s σ v' u' J ru rv => by
  obtain ⟨a, dx, od, rfl, IA⟩ := inst_of J I.bh q1
  obtain rfl : u' = Value.ref a := rv
  have hu := hr.un
  have hmem : tyD d ∈ ["NoneType", "int", "bool", "str", "list", "tuple", "dict"] := by
    rcases hT with rfl | ⟨i, rfl⟩ | ⟨i, rfl⟩ | ⟨i, rfl⟩ | ⟨i, rfl⟩ | ⟨i, j, rfl⟩ | ⟨i, j, l, rfl⟩ <;> simp [tyD]
  have t := typeIs_of J I.bh q2 ru hmem
  have sub := O.nsub _ hmem
  have run : wpAny (model X.prog X.w) X.A (call (.ref g) [.ref a, v']) (PySem.W.CmpBack (EP X pins σ Q)) X.xe s := by
    refine own_run F hr hgd rfl hb J I (.cons (r := .dat (.obj C ns vs)) q1 (.cons (r := .dat d) q2 .nil)) (.cons rfl (.cons ru .nil)) hp fun v r B' H' μ' u s' I' e' q' p' J' rv' => ?_
    obtain ⟨b, rfl, hR⟩ := hq r μ' p'
    cases q'; cases rv'
    exact ⟨.bl b, H', J', rfl, kk (.bl b) (.dat (.bl b)) B' H' μ' I' e' (Dq.bl b) hR⟩
  have pr : ∀ z, (PySem.W.instObj C dx).data ≠ .prim z := fun z e => by cases e
  rcases hT with rfl | ⟨i, rfl⟩ | ⟨i, rfl⟩ | ⟨i, rfl⟩ | ⟨i, rfl⟩ | ⟨i, j, rfl⟩ | ⟨i, j, l, rfl⟩
  · cases q2; cases ru
    exact Mx.eq_refl_K (T := "NoneType") (by omega) J.kIn IA t sub PySem.F.slot_NoneType_eq (fun P hP => decl_none hP) M.at_ M.fn rfl run
  · cases q2; obtain ⟨tk, rfl⟩ := ru
    exact Mx.eq_refl_K (T := "int") (by omega) J.kIn IA t sub PySem.F.slot_int_eq (fun P hP => decl_int IA.at_ pr hP) M.at_ M.fn rfl run
  · cases q2; obtain ⟨tk, rfl⟩ := ru
    exact Mx.eq_refl_K (T := "str") (by omega) J.kIn IA t sub PySem.F.slot_str_eq (fun P hP => decl_str IA.at_ pr hP) M.at_ M.fn rfl run
  · cases q2; obtain rfl := (show v' = Value.ref _ from ru)
    exact Mx.eq_refl_K (T := "list") (by omega) J.kIn IA t sub PySem.F.slot_list_eq (fun P hP => decl_list J.kIn IA sub t hP) M.at_ M.fn (oneThing_ref ..) run
  · cases q2; obtain rfl := (show v' = Value.ref _ from ru)
    exact Mx.eq_refl_K (T := "tuple") (by omega) J.kIn IA t sub PySem.F.slot_tuple_eq (fun P hP => decl_tuple J.kIn IA sub t hP) M.at_ M.fn (oneThing_ref ..) run
  · cases q2; obtain rfl := (show v' = Value.ref _ from ru)
    exact Mx.eq_refl_K (T := "dict") (by omega) J.kIn IA t sub PySem.F.slot_dict_eq (fun P hP => decl_dict J.kIn IA sub t hP) M.at_ M.fn (oneThing_ref ..) run
  · cases q2; obtain rfl := (show v' = Value.ref _ from ru)
    exact Mx.eq_refl_K (T := "dict") (by omega) J.kIn IA t sub PySem.F.slot_dict_eq (fun P hP => decl_dict J.kIn IA sub t hP) M.at_ M.fn (oneThing_ref ..) run
theorem ca_lenOwn (M : Meth X.K C "__len__" g) (F : FnG X.prog X.w X.K X.mg X.base k g fd ps (GSp pre post)) (hr : Room (k + 1) X.A) (hgd : X.A.guards = some []) (hb : Binds X.K fd ps [])
    (hp : pre [.dat (.obj C ns vs)] μ) (hq : ∀ r μ2, post [.dat (.obj C ns vs)] μ r μ2 → ∃ n : Int, r = .dat (.int n) ∧ 0 ≤ n ∧ n < 2 ^ 63 ∧ R r μ2) : CaD X w (.builtin "len") [.dat (.obj C ns vs)] μ R := fun B H vs I q Q kk pins s σ us J r => by
  obtain ⟨v, rfl, q1⟩ := q.one
  obtain ⟨u, rfl, r1⟩ := vals1 r
  obtain ⟨a, dx, od, rfl, IA⟩ := inst_of J I.bh q1
  obtain rfl : u = Value.ref a := r1
  obtain ⟨m, hF⟩ := J.fr
  refine PySem.W.len_K hF J.ok.mod.kin IA M.at_ M.fn ?_
  refine own_run F hr.in1 hgd rfl hb J I q (.cons rfl .nil) hp fun v r B' H' μ' u s' I' e' q' p' J' rv' => ?_
  obtain ⟨n, rfl, h0, h1, hR⟩ := hq r μ' p'
  cases q'; obtain ⟨t, rfl⟩ := rv'
  exact ⟨⟨h0, h1⟩, .int n, H', J'.tok _, ⟨_, rfl⟩, kk (.int n) (.dat (.int n)) B' H' μ' I' e' (Dq.int n) hR⟩
theorem ca_reprOwn (M : Meth X.K C "__repr__" g) (F : FnG X.prog X.w X.K X.mg X.base k g fd ps (GSp pre post)) (hr : Room (k + 1) X.A) (hgd : X.A.guards = some []) (hb : Binds X.K fd ps [])
    (hp : pre [.dat (.obj C ns vs)] μ) (hq : ∀ r μ2, post [.dat (.obj C ns vs)] μ r μ2 → ∃ x : Str, r = .dat (.str x) ∧ R r μ2) : CaD X w (.builtin "repr") [.dat (.obj C ns vs)] μ R := fun B H vs I q Q kk pins s σ us J r => by
  obtain ⟨v, rfl, q1⟩ := q.one
  obtain ⟨u, rfl, r1⟩ := vals1 r
  obtain ⟨a, dx, od, rfl, IA⟩ := inst_of J I.bh q1
  obtain rfl : u = Value.ref a := r1
  obtain ⟨m, hF⟩ := J.fr
  have hu := hr.un
  refine PySem.W.repr_K (by show X.A.units + 1 < _; omega) hF J.ok.mod.kin IA M.at_ M.fn ?_
  refine own_run F hr.in1 hgd rfl hb J I q (.cons rfl .nil) hp fun v r B' H' μ' u s' I' e' q' p' J' rv' => ?_
  obtain ⟨n, rfl, hR⟩ := hq r μ' p'
  cases q'; obtain ⟨t, rfl⟩ := rv'
  exact ⟨.str n, H', J', ⟨t, rfl⟩, kk (.str n) (.dat (.str n)) B' H' μ' I' e' (Dq.str n) hR⟩
end
end Dat

set_option Elab.async false
set_option linter.all false
set_option maxRecDepth 100000
set_option maxHeartbeats 4000000
/-! Mx13: errors with fields: raised, let through, caught. -/
namespace Dat
open PySem PySem.Spec PyProof.Rows L2 Mx Er
def FSp (C : Addr) (ns : List Str) (pre : List SV → Mus → Prop) (post : List SV → Mus → SV → Mus → Prop) (exc : List SV → Mus → List Dt → Mus → Prop) : Sp := fun vs H Q E => ∃ B rs μ, SvA B vs rs ∧ Ex B H ∧ (∀ p o, μ p = some o → B p = none ∧ MoOk B H p o) ∧ pre rs μ ∧
  (∀ v r B' H' μ', SInv ⟨B, H, fun p => μ p ≠ none⟩ B' H' μ' → Svq B' v r → post rs μ r μ' → Q v H') ∧ (∀ ds μ', exc rs μ ds μ' → ∀ B' H' dx, SInv ⟨B, H, fun p => μ p ≠ none⟩ B' H' μ' → ErrAt B' dx ns ds → E (.ref C) (some dx) H')
section
variable {P : Program} {wd : World} {K : PySem.W.Frag} {mg : Str → Option Value} {base : Heap}
theorem fnf_ok {C : Addr} {ns : List Str} {x qual : Str} {st : Stmt} {f : Addr} {fd : FuncData} {N ps : List Str} {k : Nat} {pre : List SV → Mus → Prop} {post : List SV → Mus → SV → Mus → Prop} {exc : List SV → Mus → List Dt → Mus → Prop} (F : Fun K x qual st f fd) (S : FnScope N ps (defScope st))
    (len : ∀ rs μ, pre rs μ → rs.length = ps.length)
    (body : ∀ (cdv : Value) (A : Around) (outer : List Env) (s : Shared) (H : Hp) (E : XK), Room k (bxx P wd K mg base N qual st f cdv A outer s H E).A → (bxx P wd K mg base N qual st f cdv A outer s H E).A.guards = some [] → ∀ w rs μ, pre rs μ →
      (∀ ds ν, exc rs μ ds ν → ∀ B' H' μ' dx, ν.Sub μ' → SInv w B' H' μ' → ErrAt B' dx ns ds → E (.ref C) (some dx) H') →
      DSs (bxx P wd K mg base N qual st f cdv A outer s H E) w (defBody st) (rs ++ List.replicate (N.length - rs.length) .no) μ { nx := fun _ μ' => ∃ ν, ν.Sub μ' ∧ post rs μ (.dat .non) ν, rt := fun r μ' => ∃ ν, ν.Sub μ' ∧ post rs μ r ν }) :
    FnX P wd K mg base (k + 1) f fd ps (FSp C ns pre post exc) := by
  have len' : ∀ vs H Q E, FSp C ns pre post exc vs H Q E → vs.length = ps.length := fun vs H Q E h => by
    obtain ⟨B, rs, μ, h1, _, _, h2, _⟩ := h
    rw [h1.length]; exact len rs μ h2
  obtain ⟨oc, od, kV, doc, pm, an, cdv, ct, osl, rfl, lk, hcd⟩ := F.ex
  refine ⟨len', fun A outer s H args us vs Q E hr hg en hb rv hsp => ?_⟩
  have inK : K.In s.heap := en.mod.kin.keeps fun b o z => (en.bs b o z).1
  refine codeAny_call_function hr.depth (inK _ _ lk) rfl S.co S.gen rfl (PySem.W.codeRec_of inK hcd) (hb _ _ _ _ (wpAny_newFunctionEnv_cells S.kind ?_ fun env he s1 hx => ?_))
  · rintro ⟨n, v⟩ hy
    have q := S.par n (List.of_mem_zip hy).1
    exact q.imp id fun z => ⟨z, PySem.W.cellsFrom_some _ _ _ (.inl z)⟩
  · subst he
    refine ⟨(en.mod.nolimit.keeps fun b o z => (en.bs b o z).1).keeps hx.toInCall.keep, codeAny_func ?_⟩
    have I0 := inv_start (CX := L2.CX P wd) (qual := qual) (f := f) (cd := cdv) (E := E) S hr.hd en (len' _ _ _ _ hsp) rv hx
    obtain ⟨B, rs, μ, q1, q2, q3, q4, q5, q6⟩ := id hsp
    have b0 := body cdv A outer s H E (hr.deeper _) hg ⟨B, H, fun p => μ p ≠ none⟩ rs μ q4 (fun ds ν he B' H' μ' dx sb J er => q6 ds ν he B' H' dx (J.sub sb) er) (L2.start N vs) B H (start_sto q1) (SInv.start q2 q3) { nx := fun _ H' => Q .non H', rt := Q }
      ⟨fun _ B' H' _ μ' _ J _ ⟨ν, hν, h⟩ => q5 .non (.dat .non) B' H' ν (J.sub hν) Dq.non h, fun v r B' H' μ' J _ q ⟨ν, hν, h⟩ => q5 v r B' H' ν (J.sub hν) q h, fun _ _ _ _ _ _ _ _ h => h.elim, fun _ _ _ _ _ _ _ _ h => h.elim⟩
    refine wpAny_mono (b0 [] s1 I0) (fun fl s' hs => ?_) fun _ _ hs => hs
    have done : ∀ {σ' : L2.St} {H' : Hp} {v : V} {u : Value}, Inv (bxx P wd K mg base N qual st f cdv A outer s H E) [] σ' H' s' → RelV v u → Q v H' → CE outer P wd H s Q u s' := fun {σ' H' v u} J rv q => ⟨v, H', J.os, J.bare, J.base, J.hok, rv, q⟩
    cases fl with
    | ret u => obtain ⟨v, σ', H', J, rv, q⟩ := hs; exact done J rv q
    | next => obtain ⟨σ', H', J, q⟩ := hs; exact done (v := V.non) (u := Value.none) J rfl q
    | brk => obtain ⟨_, _, _, q⟩ := hs; exact q.elim
    | cont => obtain ⟨_, _, _, q⟩ := hs; exact q.elim
end
section
variable {X : Cx} {w : Wd} {ρ : List SV} {μ : Mus} {R : SV → Mus → Prop} {P : Po} {e : Expr} {es : List Expr} {x : Str} {p pos pos2 : Pos} {k : Nat} {f C g : Addr} {fd : FuncData} {ps ns : List Str} {W : WX} {pre : List SV → Mus → Prop} {post : List SV → Mus → SV → Mus → Prop} {exc : List SV → Mus → List Dt → Mus → Prop} {ok : List Dt → Prop}
/-- raise C(e, ..), C with fields -/
theorem ds_raiseF {sh : List Value → List Value → List (Str × Value) → Prop} (M : MkE X.prog X.w X.K X.mg C ns ok sh) (hsh : ∀ vs, vs.length = ns.length → sh vs vs []) (tk : Takes X W) (hc : X.calm = true) (hr : Room 2 X.A) (hgd : X.A.guards = some []) (hm : X.mg x = some (.ref C)) (hk : PySem.W.keepIn X.K (.ref C) = true) (rai : Raises X (.ref C))
    (ha : DA X w (e :: es) ρ μ fun rs μ1 => ∃ ds, undat rs = some ds ∧ ds.length = ns.length ∧ ok ds ∧ ∀ σ B H dx, Sto B σ ρ → SInv w B H μ1 → ErrAt B dx ns ds → W (.ref C) (some dx) σ H) (hg : Gl X x := by rfl) (hdb : (x == ("__debug__" : Str)) = false := by decide)
    (he : starEach (e :: es) X.env = (false, eval e X.env) :: starEach es X.env := by rfl) (hpl : (backTo pos (starEach es X.env)).any (·.1) = false := by rfl) : DS X w (.Raise (some (.Call (.Name x p) (e :: es) [] pos)) none pos2) ρ μ P := fun σ B H S I D E =>
  tS_of (ps_raise (t := fun σ' H' Q => ∀ pins s, Inv X pins σ' H' s → wpAny (model X.prog X.w) X.A (eval (.Call (.Name x p) (e :: es) [] pos) X.env) (MkP X pins σ' Q) X.xe s) hc tk (fun pins s σ' H' Q I' h => h pins s I')) (by
    intro pins s J
    refine wpAny_Call_Name_kw (ld_glob J hg hm ?_ hdb)
    refine PySem.W.callWith_K (h₀ := X.base) J.ok.mod.kin hk (thn ((pa_self (X := X) (es := e :: es)).run pos pins s σ H _ J (ha σ B H S I
      (fun vs H1 => ∀ us s1, Inv X pins σ H1 s1 → Vals vs us → wpAny (model X.prog X.w) X.A (call (.ref C) us) (MkP X pins σ fun cls d H' => W cls d σ H') X.xe s1) ?_)) fun us s1 ⟨vs, H1, J1, rv, q⟩ => ⟨J1.kIn, q us s1 J1 rv⟩) he hpl
    intro vs rs B1 H1 μ1 I1 e1 q1 h1 us s1 J1 rv
    obtain ⟨ds, eu, hl, hok, h1⟩ := h1
    have qd := undat_q q1 eu
    refine M X rfl rfl rfl rfl pins σ H1 s1 J1 hr hgd vs us ds rv (qd.mono I1.bh) hok us [] (hsh us (by rw [← rv.length, qd.length, hl])) _ fun a dx s' fs nx nd ne en qf J2 Rz => ?_
    obtain ⟨G, t1, JG, kG, ge, oe⟩ := Rz
    have fr := (I1.free nd).1
    have I2 : SInv w (upd B1 dx (.xd fs)) (upd H1 dx (.xd fs)) μ1 := I1.new nd (.xd fs)
    have er : ErrAt (upd B1 dx (.xd fs)) dx ns ds := ⟨fs, upd_same, en, by rw [qf]; exact qd.mono (Ex.new fr)⟩
    exact ⟨a, _, _, { s' with heap := G }, _, .ref C, some dx, rfl, JG, kG, ge, oe, ⟨rfl, rfl⟩, rfl, rfl, by rw [upd_ne (Ne.symm ne)]; exact nx, rfl, J2.bare, rai, h1 σ _ _ dx (S.mono (e1.trans (Ex.new fr))) I2 er⟩)
/-- f(e, ..), f may raise C -/
theorem de_callF (F : FnX X.prog X.w X.K X.mg X.base k f fd ps (FSp C ns pre post exc)) (tk : Takes X W) (hr : Room k X.A) (hgd : X.A.guards = some []) (hm : X.mg x = some (.ref f)) (hk : PySem.W.keepIn X.K (.ref f) = true) (hb : Binds X.K fd ps [])
    (ha : DA X w (e :: es) ρ μ fun rs μ1 => pre rs μ1 ∧ (∀ r μ2, post rs μ1 r μ2 → R r μ2) ∧ (∀ ds ν, exc rs μ1 ds ν → ∀ σ B H dx, Sto B σ ρ → SInv w B H ν → ErrAt B dx ns ds → W (.ref C) (some dx) σ H)) (hg : Gl X x := by rfl) (hdb : (x == ("__debug__" : Str)) = false := by decide)
    (he : starEach (e :: es) X.env = (false, eval e X.env) :: starEach es X.env := by rfl) (hpl : (backTo pos (starEach es X.env)).any (·.1) = false := by rfl) : DE X w (.Call (.Name x p) (e :: es) [] pos) ρ μ R := fun σ B H S I Q kk pins s J => by
  refine wpAny_Call_Name_kw (ld_glob J hg hm ?_ hdb)
  refine PySem.W.callWith_K (h₀ := X.base) J.ok.mod.kin hk (thn ((pa_self (X := X) (es := e :: es)).run pos pins s σ H _ J (ha σ B H S I
    (fun vs H1 => ∀ us s1, Inv X pins σ H1 s1 → Vals vs us → wpAny (model X.prog X.w) X.A (call (.ref f) us) (EP X pins σ Q) X.xe s1) ?_)) fun us s1 ⟨vs, H1, J1, rv, q⟩ => ⟨J1.kIn, q us s1 J1 rv⟩) he hpl
  intro vs rs B1 H1 μ1 I1 e1 q1 h1 us s1 J1 rv
  have hsp : FSp C ns pre post exc vs H1 Q (WE W σ) := ⟨B1, rs, μ1, q1, I1.bh, fun p o z => ⟨(I1.mus p o z).1, (I1.mus p o z).2.1⟩, h1.1, fun v r B' H' μ' L qv hp => kk v r B' H' μ' (I1.back L) (e1.trans L.b0) qv (h1.2.1 r μ' hp),
    fun ds ν he B' H' dx L er => h1.2.2 ds ν he σ B' H' dx (S.mono (e1.trans L.b0)) (I1.back L) er⟩
  have hl : (us ++ []).length = ps.length := by rw [List.append_nil, ← rv.length]; exact F.len _ _ _ _ hsp
  have bd := hb s1 us J1.kIn hl
  rw [List.append_nil] at bd
  refine wpAny_call (codeAny_mono (F.run X.A X.stack s1 H1 ⟨us, []⟩ us vs Q (WE W σ) hr hgd J1.env0 bd rv hsp) fun r s' hq => ?_)
  match r, hq with
  | .ok (.ret u), hq => exact J1.after hq
  | .ok .next, hq => exact hq.elim
  | .ok .brk, hq => exact hq.elim
  | .ok .cont, hq => exact hq.elim
  | .error u, hq => exact passAt tk σ pins H1 s1 u s' J1 hq
/-- K(e, ..), K's __init__ may raise C -/
theorem de_makeF {KC : Addr} (M : Mk X.K KC g) (F : FnX X.prog X.w X.K X.mg X.base k g fd ps (FSp C ns pre post exc)) (tk : Takes X W) (hr : Room (k + 1) X.A) (hgd : X.A.guards = some []) (hm : X.mg x = some (.ref KC)) (hb : Binds X.K fd ps [])
    (ha : DA X w (e :: es) ρ μ fun rs μ1 => ∀ q, μ1 q = none → pre (.at q :: rs) (μ1.put q (.ins KC [] [])) ∧ (∀ r μ2, post (.at q :: rs) (μ1.put q (.ins KC [] [])) r μ2 → r = .dat .non ∧ ∃ ns' vs ν, μ2 q = some (.ins KC ns' vs) ∧ ν.Sub μ2 ∧ ν q = none ∧ R (.dat (.obj KC ns' vs)) ν) ∧
      (∀ ds ν, exc (.at q :: rs) (μ1.put q (.ins KC [] [])) ds ν → ∀ σ B H dx, Sto B σ ρ → SInv w B H ν → ErrAt B dx ns ds → W (.ref C) (some dx) σ H))
    (hg : Gl X x := by rfl) (hdb : (x == ("__debug__" : Str)) = false := by decide)
    (he : starEach (e :: es) X.env = (false, eval e X.env) :: starEach es X.env := by rfl) (hpl : (backTo pos (starEach es X.env)).any (·.1) = false := by rfl) : DE X w (.Call (.Name x p) (e :: es) [] pos) ρ μ R := fun σ B H S I Q kk pins s J => by
  refine wpAny_Call_Name_kw (ld_glob J hg hm ?_ hdb)
  refine PySem.W.callWith_K (h₀ := X.base) J.ok.mod.kin M.kp (thn ((pa_self (X := X) (es := e :: es)).run pos pins s σ H _ J (ha σ B H S I
    (fun vs H1 => ∀ us s1, Inv X pins σ H1 s1 → Vals vs us → wpAny (model X.prog X.w) X.A (call (.ref KC) us) (EP X pins σ Q) X.xe s1) ?_)) fun us s1 ⟨vs, H1, J1, rv, q⟩ => ⟨J1.kIn, q us s1 J1 rv⟩) he hpl
  intro vs rs B1 H1 μ1 I1 e1 q1 h1 us s1 J1 rv
  have nx : H1 (s1.heap.objs.size + 1) = none := J1.hok.fresh (Nat.le_succ _)
  have nd : H1 s1.heap.objs.size = none := J1.hok.fresh (Nat.le_refl _)
  have ne : s1.heap.objs.size ≠ s1.heap.objs.size + 1 := Nat.ne_of_lt (Nat.lt_succ_self _)
  obtain ⟨bd, md, wd⟩ := I1.free nd
  have I2 : SInv w B1 (upd H1 s1.heap.objs.size (.own (s1.heap.objs.size + 1))) μ1 := I1.own bd wd md _
  have nx2 : (upd H1 s1.heap.objs.size (.own (s1.heap.objs.size + 1))) (s1.heap.objs.size + 1) = none := by rw [upd_ne ne.symm]; exact nx
  obtain ⟨bx, mx, wx⟩ := I2.free nx2
  have I3 : SInv w B1 (upd (upd H1 s1.heap.objs.size (.own (s1.heap.objs.size + 1))) (s1.heap.objs.size + 1) (.ins KC s1.heap.objs.size [])) (μ1.put (s1.heap.objs.size + 1) (.ins KC [] [])) := I2.newM nx2 _ ⟨_, [], upd_same, rfl, .nil⟩
  obtain ⟨hp, hq, hx⟩ := h1 _ mx
  have hsp : FSp C ns pre post exc (.ref (s1.heap.objs.size + 1) :: vs) (upd (upd H1 s1.heap.objs.size (.own (s1.heap.objs.size + 1))) (s1.heap.objs.size + 1) (.ins KC s1.heap.objs.size [])) (fun v H2 => v = .non ∧ Q (.ref (s1.heap.objs.size + 1)) H2) (WE W σ) :=
    ⟨B1, .at (s1.heap.objs.size + 1) :: rs, _, .cons (r := .at (s1.heap.objs.size + 1)) rfl q1, I3.bh, fun p o z => ⟨(I3.mus p o z).1, (I3.mus p o z).2.1⟩, hp, fun v r B' H' μ' L qv hpo => by
      obtain ⟨rfl, ns', ds, ν, h2, h3, h4, h5⟩ := hq r μ' hpo
      have I4 := I3.back L
      obtain ⟨B2, I5, e5, q5⟩ := I4.freezeI h2 wx h3 h4
      cases qv
      exact ⟨rfl, kk _ (.dat (.obj KC ns' ds)) B2 H' ν I5 ((e1.trans L.b0).trans e5) q5 h5⟩, fun ds ν he B' H' dx L er => hx ds ν he σ B' H' dx (S.mono (e1.trans L.b0)) (I3.back L) er⟩
  have r2 : Vals (V.ref (s1.heap.objs.size + 1) :: vs) (Value.ref (s1.heap.objs.size + 1) :: us) := .cons rfl rv
  have hl : (Value.ref (s1.heap.objs.size + 1) :: us ++ []).length = ps.length := by rw [List.append_nil, ← r2.length]; exact F.len _ _ _ _ hsp
  have J2 := Inv.made (C := KC) J1
  have bnd := hb _ (Value.ref (s1.heap.objs.size + 1) :: us) J2.kIn hl
  rw [List.append_nil] at bnd
  refine wpAny_call (make_map (f := g) J1.kIn M.makes M.init (beq_iff_eq.mp M.fn) (codeAny_mono (F.run _ X.stack _ _ ⟨Value.ref (s1.heap.objs.size + 1) :: us, []⟩ _ _ _ (WE W σ) (hr.make KC us []) hgd (J2.env0.make KC us []) bnd r2 hsp) fun r s' hq' => ?_))
  cases r with
  | error e => exact passAt tk σ pins _ _ e s' J2 hq'
  | ok fl =>
    cases fl with
    | ret u =>
      obtain ⟨v, H', I3', rv', ev, q3⟩ := J2.after hq'
      subst ev
      exact ⟨rv', ⟨V.ref (s1.heap.objs.size + 1), H', I3', rfl, q3⟩⟩
    | next => exact False.elim hq'
    | brk => exact False.elim hq'
    | cont => exact False.elim hq'
/-- try: body; except c as n: suite, the body raising C alone -/
theorem ds_tryF {n : Str} {np pos' : Pos} {body suite : List Stmt} {b₀ : Stmt} {cv : Value} (i : Nat) (ex1 : List Dt → Mus → Prop) (hN : X.N.Nodup) (hc : Names X x cv) (eP : PySem.W.exmOne X.K (.ref C) cv = some true)
    (hb : ∀ w2 W pn xe, Takes (X.tr pn xe) W → (∀ σ' B' H' μ' ds dx, Sto B' σ' ρ → SInv w2 B' H' μ' → ErrAt B' dx ns ds → ex1 ds μ' → W (.ref C) (some dx) σ' H') → DSs (X.tr pn xe) w2 body ρ μ P)
    (hsu : ∀ a dx oe pn ds μ', Zc (.ref C) (some dx) oe → (∃ vs, oe.data = .fields vs) → ex1 ds μ' → DSs (X.suite a ((a, oe) :: pn)) w (b₀ :: suite) (ρ.set i (.exc a dx ns ds)) μ' { nx := fun ρ' μ' => P.nx (ρ'.set i .no) μ', rt := P.rt, bk := fun ρ' μ' => P.bk (ρ'.set i .no) μ', ct := fun ρ' μ' => P.ct (ρ'.set i .no) μ' })
    (hi : X.N[i]? = some n := by rfl) (hln : X.env.kindOf n = some .local := by rfl) (hs : X.stack = X.env :: X.outer := by rfl) (hf : X.env.frame = some X.env.locals := by rfl) :
    DS X w (.Try body [.ExceptHandler (some (.Name x np)) (some n) (b₀ :: suite) pos'] [] [] pos) ρ μ P := fun σ B H S I D E => by
  refine tS_of (ps_try_as (i := i) (Wout := fun _ _ _ _ => False) (tb := fun W D σ H => ∀ pn xe, Takes (X.tr pn xe) W → PassesOwn (model X.prog X.w) X.A X.env xe → tB_ (X.tr pn xe) body D σ H)
    (ts := fun a cls d D σ H => ∀ oe pn, Zc cls d oe → (∃ vs, oe.data = .fields vs) → tB_ (X.suite a ((a, oe) :: pn)) (b₀ :: suite) D σ H) hs hf hN hi hln hc takes0
    (fun W pn xe tk po => ⟨fun pins s σ H D J q => q pn xe tk po pins s J⟩) (fun a oe cls d pn hz hf => ⟨fun pins s σ H D J q => q oe pn hz hf pins s J⟩)) ?_
  intro pn xe tk po
  have L0 : SInv ⟨B, H, fun p => μ p ≠ none⟩ B H μ := SInv.start I.bh fun p o z => ⟨(I.mus p o z).1, (I.mus p o z).2.1⟩
  refine hb _ _ pn xe tk (fun σ' B' H' μ' ds dx S' I' er hx => ⟨true, eP, fun _ a ha oe pn hz hf => ?_, nofun⟩) σ B H S L0 D ⟨?_, ?_, ?_, ?_⟩
  · have eB : Ex B B' := I'.b0
    refine hsu a dx oe pn ds μ' hz hf hx _ B' H' (S'.set i (show Svq B' (.ref a) (.exc a dx ns ds) from ⟨rfl, er⟩)) (I.back I') _ ⟨?_, ?_, ?_, ?_⟩
    · exact fun σ2 B2 H2 ρ2 μ2 S2 I2 e2 h2 => E.nx _ B2 H2 _ μ2 (S2.drop i) I2 (eB.trans e2) h2
    · exact fun v r B2 H2 μ2 I2 e2 q2 h2 => E.rt v r B2 H2 μ2 I2 (eB.trans e2) q2 h2
    · exact fun σ2 B2 H2 ρ2 μ2 S2 I2 e2 h2 => E.bk _ B2 H2 _ μ2 (S2.drop i) I2 (eB.trans e2) h2
    · exact fun σ2 B2 H2 ρ2 μ2 S2 I2 e2 h2 => E.ct _ B2 H2 _ μ2 (S2.drop i) I2 (eB.trans e2) h2
  · exact fun σ2 B2 H2 ρ2 μ2 S2 I2 e2 h2 => E.nx _ B2 H2 _ μ2 S2 (I.back I2) e2 h2
  · exact fun v r B2 H2 μ2 I2 e2 q2 h2 => E.rt v r B2 H2 μ2 (I.back I2) e2 q2 h2
  · exact fun σ2 B2 H2 ρ2 μ2 S2 I2 e2 h2 => E.bk _ B2 H2 _ μ2 S2 (I.back I2) e2 h2
  · exact fun σ2 B2 H2 ρ2 μ2 S2 I2 e2 h2 => E.ct _ B2 H2 _ μ2 S2 (I.back I2) e2 h2
/-- e.f in the suite -/
theorem de_xfld {a dx : Addr} {oe : Obj} {pn : List (Addr × Obj)} {o : Expr} {n : Str} {ds : List Dt} {d : Dt} (T : XfC X.K C) (hno : PySem.W.findIn X.K (.ref C) n = some none) (hz : Zc (.ref C) (some dx) oe) (hf : ∃ vs, oe.data = .fields vs)
    (ho : DE (X.suite a ((a, oe) :: pn)) w o ρ μ fun r μ1 => r = .exc a dx ns ds ∧ (ns.zip ds).lookup n = some d ∧ R (.dat d) μ1) (hb : attributeBase o n X.env (eval o X.env) = eval o X.env := by rfl) : DE (X.suite a ((a, oe) :: pn)) w (.Attribute o n pos) ρ μ R := fun σ B H S I Q k =>
  tE_of (pe_xf T hno hz hf pe_self hb) (ho σ B H S I _ fun v r B1 H1 μ1 I1 e1 q1 h1 => by
    obtain ⟨rfl, l, h1⟩ := h1
    obtain ⟨rfl, fs, hd, rfl, hx⟩ := q1
    obtain ⟨v2, l2, q2⟩ := fs_at hx l
    exact ⟨rfl, rfl, dx, fs, v2, rfl, I1.bh _ _ hd, l2, k v2 (.dat d) B1 H1 μ1 I1 e1 q2 h1⟩)
/-- isinstance(e, T) in the suite -/
theorem ca_isX {a dx : Addr} {oe : Obj} {pn : List (Addr × Obj)} {ds : List Dt} {cv : Value} {b : Bool} {t : SV} (T : IsC X.K C) (hz : Zc (.ref C) (some dx) oe) (hf : ∃ vs, oe.data = .fields vs) (ht : (∃ n, t = .ty n ∧ cv = .type n) ∨ (∃ c, t = .at c ∧ cv = .ref c))
    (hk : PySem.W.kitOne X.K (.ref C) cv = some b) (h : R (.dat (.bl b)) μ) : CaD (X.suite a ((a, oe) :: pn)) w (.builtin "isinstance") [.exc a dx ns ds, t] μ R := fun B H vs I q Q kk pins s σ us J r => by
  obtain ⟨v1, v2, rfl, q1, q2⟩ := q.two
  obtain ⟨u1, u2, rfl, r1, r2⟩ := vals2 r
  obtain ⟨rfl, fs, hd, rfl, hx⟩ := q1
  obtain rfl : u1 = Value.ref a := r1
  have e2 : u2 = cv := by
    rcases ht with ⟨n, rfl, rfl⟩ | ⟨c, rfl, rfl⟩
    · cases (show v2 = V.ty n from q2); exact r2
    · cases (show v2 = V.ref c from q2); exact r2
  subst e2
  obtain ⟨mA, hns, hr⟩ := (show ObjOk X.prog X.w H s.heap dx (.xd fs) from J.hok _ _ (I.bh _ _ hd))
  obtain ⟨od, hod, hl⟩ := lookIn_ns hns
  obtain ⟨ha, _⟩ := J.pin (a, oe) (List.mem_append.mpr (.inl List.mem_cons_self))
  obtain ⟨vv, hv⟩ := hf
  have IA : PySem.W.InstAt s.heap a oe C (some od) := ⟨ha, hz.1, by unfold PySem.W.notCls; rw [hv] <;> rfl, by rw [hz.2]; exact hod⟩
  exact PySem.W.kia_one (PySem.W.kitx_exc T.cl T.ga T.gt T.sub T.ac T.sp T.tk T.mo) J.kIn IA hk (fun z => nomatch z) fun tk => ⟨.bl b, H, J.tok tk, rfl, kk (.bl b) (.dat (.bl b)) B H μ I (Ex.refl B) (Dq.bl _) h⟩
/-- isinstance(e, (T, ..)) in the suite, own classes -/
theorem ca_isXT {a dx : Addr} {oe : Obj} {pn : List (Addr × Obj)} {ds : List Dt} {cs : List Addr} {b : Bool} (T : IsC X.K C) (hz : Zc (.ref C) (some dx) oe) (hf : ∃ vs, oe.data = .fields vs)
    (hk : PySem.W.kitAny X.K (.ref C) (cs.map Value.ref) = some b) (h : R (.dat (.bl b)) μ) : CaD (X.suite a ((a, oe) :: pn)) w (.builtin "isinstance") [.exc a dx ns ds, .tvs (cs.map V.ref)] μ R := fun B H vs I q Q kk pins s σ us J r => by
  obtain ⟨v1, v2, rfl, q1, q2⟩ := q.two
  obtain ⟨u1, u2, rfl, r1, r2⟩ := vals2 r
  obtain ⟨rfl, fs, hd, rfl, hx⟩ := q1
  obtain rfl : u1 = Value.ref a := r1
  obtain ⟨tp, rfl, htp⟩ := q2
  obtain rfl : u2 = Value.ref tp := r2
  obtain ⟨mA, hns, hr⟩ := (show ObjOk X.prog X.w H s.heap dx (.xd fs) from J.hok _ _ (I.bh _ _ hd))
  obtain ⟨od, hod, hl⟩ := lookIn_ns hns
  obtain ⟨ha, _⟩ := J.pin (a, oe) (List.mem_append.mpr (.inl List.mem_cons_self))
  obtain ⟨vv, hv⟩ := hf
  have IA : PySem.W.InstAt s.heap a oe C (some od) := ⟨ha, hz.1, by unfold PySem.W.notCls; rw [hv] <;> rfl, by rw [hz.2]; exact hod⟩
  obtain ⟨_, its, rv, o, h1, h2, n, h3⟩ := (show ObjOk X.prog X.w H s.heap tp (.tup _) from J.hok tp _ (I.bh _ _ htp))
  have ei := refs_at rv
  subst ei
  obtain ⟨oc, od2, dt, sl⟩ := o
  simp only at h2 h3
  subst h2 h3
  exact PySem.W.kia_tup (PySem.W.kitx_exc T.cl T.ga T.gt T.sub T.ac T.sp T.tk T.mo) J.kIn IA h1 hk (fun z => nomatch z) fun tk => ⟨.bl b, H, J.tok tk, rfl, kk (.bl b) (.dat (.bl b)) B H μ I (Ex.refl B) (Dq.bl _) h⟩
end
end Dat

set_option Elab.async false
set_option linter.all false
set_option maxRecDepth 100000
set_option maxHeartbeats 4000000
/-! Mx14: isinstance(x, own class); methods that may raise; {x!r} of data; a try with two clauses. -/
namespace Dat
open PySem PySem.Spec PyProof.Rows L2 Mx Er
structure OwnI (K : PySem.W.Frag) (C : Addr) : Prop where
  cls : Cls K C
  ha : PySem.W.findIn K (.ref C) "__class__" = some (some (.builtin "object.__class__"))
  hn : PySem.W.specialIn K (.builtin "object.__class__") "__get__" = some (some (.builtin "getset_descriptor.__get__"))
  htk : PySem.W.takesIn K (.builtin "object.__class__") = some true
  hm : PySem.W.mroIn K C (.type "object") = some true
  yes : PySem.W.kitOne K (.ref C) (.ref C) = some true
  no : ∀ T ∈ ["NoneType", "int", "bool", "str", "list", "tuple", "dict"], PySem.W.kitOne K (.type T) (.ref C) = some false
section
variable {X : Cx} {w : Wd} {ρ : List SV} {μ : Mus} {R : SV → Mus → Prop} {C : Addr} {ns : List Str} {vs : List Dt} {d : Dt}
theorem ca_isOwn (O : OwnI X.K C) (h : R (.dat (.bl true)) μ) : CaD X w (.builtin "isinstance") [.dat (.obj C ns vs), .at C] μ R := fun B H vs I q Q k => by
  obtain ⟨v, u, rfl, q1, q2⟩ := q.two
  cases (show u = V.ref C from q2)
  cases q1 with
  | obj ha _ => exact sC_of call_isi ⟨_, .ref C, _, _, true, rfl, .own C, .base (.ins (I.bh _ _ ha) O.cls O.ha O.hn O.htk O.hm), O.yes, k (.bl true) (.dat (.bl true)) B H μ I (Ex.refl B) (Dq.bl _) h⟩
theorem ca_isNot (O : OwnI X.K C) (hT : tyD d ∈ ["NoneType", "int", "bool", "str", "list", "tuple", "dict"]) (h : R (.dat (.bl false)) μ) : CaD X w (.builtin "isinstance") [.dat d, .at C] μ R := fun B H vs I q Q k => by
  obtain ⟨v, u, rfl, q1, q2⟩ := q.two
  cases (show u = V.ref C from q2)
  have fin := k (.bl false) (.dat (.bl false)) B H μ I (Ex.refl B) (Dq.bl _) h
  by_cases ho : isObj' d = false
  · exact sC_of call_isi ⟨v, .ref C, _, _, false, rfl, .own C, Dq.ty I.bh q1 ho, O.no _ hT, fin⟩
  · cases d with
    | mix hs ks ds =>
      intro pins s σ us J r
      obtain ⟨u1, u2, rfl, r1, r2⟩ := vals2 r
      have t := typeIs_of J I.bh q1 r1 hT
      cases q1 with
      | mix ha _ _ =>
        obtain rfl : u1 = Value.ref _ := r1
        obtain ⟨ob, e1, e2⟩ := t
        exact PySem.W.kia_one PySem.W.kitx_dict J.kIn ⟨ob, e1, e2⟩ (by rw [show u2 = Value.ref C from r2]; exact O.no "dict" (by simp)) (fun z => nomatch z) fun tk => ⟨.bl false, H, J.tok tk, rfl, fin⟩
    | obj _ _ _ => simp [tyD] at hT
    | err _ _ _ => simp [tyD] at hT
    | _ => exact absurd rfl ho
end
section
variable {X : Cx} {w : Wd} {ρ : List SV} {μ : Mus} {R : SV → Mus → Prop} {P : Po} {o e : Expr} {es : List Expr} {x : Str} {p pos pos2 : Pos} {k : Nat} {f C g : Addr} {fd : FuncData} {ps ns : List Str} {W : WX} {pre : List SV → Mus → Prop} {post : List SV → Mus → SV → Mus → Prop} {exc : List SV → Mus → List Dt → Mus → Prop}
/-- o.m(e, ..), m may raise D -/
theorem de_methF {pl : Sem Bool} {m : Str} {apos : Pos} {D : Addr} (c : Cls X.K C) (hm : Meth X.K C m g) (F : FnX X.prog X.w X.K X.mg X.base k g fd ps (FSp D ns pre post exc)) (tk : Takes X W) (hr : Room k X.A) (hgd : X.A.guards = some []) (hb : Binds X.K fd ps [])
    (ho : DE X w o ρ μ fun r μ1 => ∃ ns' vs, r = .dat (.obj C ns' vs) ∧ m ∉ ns' ∧ DA X w (e :: es) ρ μ1 fun rs μ2 => pre (r :: rs) μ2 ∧ (∀ r' μ3, post (r :: rs) μ2 r' μ3 → R r' μ3) ∧ ∀ ds ν, exc (r :: rs) μ2 ds ν → ∀ σ B H dx, Sto B σ ρ → SInv w B H ν → ErrAt B dx ns ds → W (.ref D) (some dx) σ H)
    (hst : starEach (e :: es) X.env = (false, eval e X.env) :: starEach es X.env := by rfl) (hpl : (backTo pos (starEach es X.env)).any (·.1) = false := by rfl)
    (ht : eval (.Call (.Attribute o m apos) (e :: es) [] pos) X.env = (do let r0 ← eval o X.env; standAt apos.atName; let (g0, l0) ← holding [r0] (getMethod r0 m pl); callWith pos g0 l0 (backTo pos (starEach (e :: es) X.env)) (backToKw pos (keywordEach [] X.env))) := by rfl) : DE X w (.Call (.Attribute o m apos) (e :: es) [] pos) ρ μ R := fun σ B H S I Q kk pins s J => by
  refine PySem.W.methodCall_KW (pl := pl) (thn ((pe_self (X := X) (e := o)).run pins s σ H (fun v H1 => ∃ a dx fs, v = .ref a ∧ H1 a = some (.ins C dx fs) ∧ fs.lookup m = none ∧ tL X (e :: es) σ H1 (fun vs H2 => ∀ us s2, Inv X pins σ H2 s2 → Vals vs us → wpAny (model X.prog X.w) X.A (call (.ref g) (.ref a :: us)) (EP X pins σ Q) X.xe s2)) J ?_) fun u s1 ⟨v, H1, I1, rx, a, dx, fs, ex, ea, l, q⟩ => ?_) ht
  · refine ho σ B H S I _ fun v r B1 H1 μ1 I1 e1 q1 h1 => ?_
    obtain ⟨ns', vs, rfl, hn, h1⟩ := h1
    cases q1 with
    | @obj a C dx fs ds ha hx =>
      refine ⟨a, dx, fs, rfl, I1.bh _ _ ha, fs_none hn, h1 σ B1 H1 (S.mono e1) I1 _ fun vs2 rs B2 H2 μ2 I2 e2 q2 h2 => ?_⟩
      intro us s2 J2 rv
      have hsp : FSp D ns pre post exc (.ref a :: vs2) H2 Q (WE W σ) := ⟨B2, _, μ2, .cons (r := .dat (.obj C _ _)) (Dq.mono e2 (.obj ha hx)) q2, I2.bh, fun p o z => ⟨(I2.mus p o z).1, (I2.mus p o z).2.1⟩, h2.1, fun v r B' H' μ' L qv hp => kk v r B' H' μ' (I2.back L) ((e1.trans e2).trans L.b0) qv (h2.2.1 r μ' hp),
        fun ds ν he B' H' dx L er => h2.2.2 ds ν he σ B' H' dx (S.mono ((e1.trans e2).trans L.b0)) (I2.back L) er⟩
      have r2 : Vals (V.ref a :: vs2) (Value.ref a :: us) := .cons rfl rv
      have hl : (Value.ref a :: us ++ []).length = ps.length := by rw [List.append_nil, ← r2.length]; exact F.len _ _ _ _ hsp
      have bd := hb s2 (Value.ref a :: us) J2.kIn hl
      rw [List.append_nil] at bd
      refine wpAny_call (codeAny_mono (F.run X.A X.stack s2 H2 ⟨Value.ref a :: us, []⟩ _ _ Q (WE W σ) hr hgd J2.env0 bd r2 hsp) fun r s' hq => ?_)
      match r, hq with
      | .ok (.ret u), hq => exact J2.after hq
      | .ok .next, hq => exact hq.elim
      | .ok .brk, hq => exact hq.elim
      | .ok .cont, hq => exact hq.elim
      | .error u, hq => exact passAt tk σ pins H2 s2 u s' J2 hq
  · subst ex
    obtain rfl : u = Value.ref a := rx
    refine getmeth_ok I1 ea c hm l ?_
    exact PySem.W.callWith_K (first := [.ref a]) (h₀ := X.base) J.ok.mod.kin hm.kp (thn ((pa_self (X := X) (es := e :: es)).run pos pins s1 σ H1 _ I1 q) fun us s2 ⟨vs, H2, I2, r, q2⟩ => ⟨I2.kIn, q2 us s2 I2 r⟩) hst hpl
/-- {x!r}, x data without lists -/
theorem de_fmtD (hr : Room k X.A) (hg : X.A.guards = some []) (h : DE X w e ρ μ fun r μ1 => ∃ ks vs, r = .dat (.dic ks vs) ∧ ShownL (.dic ks vs) ∧ hasLst (.dic ks vs) = false ∧ R (.dat (.str (toPy (.dic ks vs)).shown)) μ1) : DE X w (.FormattedValue e 114 none pos) ρ μ R := fun σ B H S I Q kk pins s J => by
  refine wpAny_FormattedValue_repr (thn ((pe_self (X := X) (e := e)).run pins s σ H (fun v H1 => ∀ u s1, Inv X pins σ H1 s1 → RelV v u → wpAny (model X.prog X.w) X.A (pyReprObj u) (fun r s2 => wpAny (model X.prog X.w) X.A (formatField r Str.empty) (EP X pins σ Q) X.xe s2) X.xe s1) J ?_) fun u s1 ⟨v, H1, I1, rx, q⟩ => q u s1 I1 rx)
  refine h σ B H S I _ fun v r B1 H1 μ1 I1 e1 q1 h1 => ?_
  obtain ⟨ks, vs, rfl, sh, nl, h1⟩ := h1
  intro u s1 J1 rx
  obtain ⟨as, rd, hm⟩ := Dq.reads J1 _ v u (Dq.mono I1.bh q1) sh.plain rx
  have hu := hr.un
  have hd := sh.deep
  cases q1 with
  | dic ha _ =>
    obtain rfl : u = Value.ref _ := rx
    refine pyReprObj_of_reads rd sh.shows (fun _ => hm nl) hg (by omega) (fun _ _ e => e) (fun h' t tk kp => ?_) sh.len
    exact wpAny_formatField_str ⟨.str _, H1, J1.kept (t' := tk) kp, ⟨_, rfl⟩, kk (.str _) (.dat (.str _)) B1 H1 μ1 I1 e1 (Dq.str _) h1⟩ ⟨.str _, H1, (J1.kept (t' := tk) kp).tok _, ⟨_, rfl⟩, kk (.str _) (.dat (.str _)) B1 H1 μ1 I1 e1 (Dq.str _) h1⟩ sh.len
end
end Dat

set_option Elab.async false
set_option linter.all false
set_option maxRecDepth 100000
set_option maxHeartbeats 4000000
/-! Mx15: try: .. except A: .. except B as n: .., where the body raises B alone. -/
namespace Dat
open PySem PySem.Spec PyProof.Rows L2 Mx Er
/-- the wish of an exception: not for the first clause, for the second -/
def wTwo (K : PySem.W.Frag) (c1 c2 : Value) (i : Nat) (ts : Addr → Value → Option Addr → TS) (D : Ends) : WX := fun cls d σ H =>
  PySem.W.exmOne K cls c1 = some false ∧ PySem.W.exmOne K cls c2 = some true ∧
    ∀ a, H a = none → ts a cls d { nx := fun σ' H' => D.nx (σ'.set i none) H', rt := D.rt, bk := fun σ' H' => D.bk (σ'.set i none) H', ct := fun σ' H' => D.ct (σ'.set i none) H' } (σ.set i (some (.ref a))) H
section
variable {X : Cx} {x1 x2 n : Str} {c1 c2 : Value} {i : Nat} {body s1 suite : List Stmt} {b₀ : Stmt} {np1 np2 pos p1 p2 : Pos} {tb : WX → TS} {ts : Addr → Value → Option Addr → TS}
theorem test_name {pins : List (Addr × Obj)} {σ : L2.St} {H : Hp} {s : Shared} {x : Str} {c : Value} {np : Pos} {a : Addr} {oe : Obj} {pn : List (Addr × Obj)} (S : Inv (X.suite a ((a, oe) :: pn)) pins σ H s) (hc : Names X x c) {Q E : Value → Shared → Prop} (q : Q c s) :
    wpAny (model X.prog X.w) (X.A.mark (some (.ref a))) (eval (.Name x np) X.env) Q E s := by
  rcases hc with ⟨g, d, m | ⟨m, b, z⟩⟩
  · exact ld_glob (X := X.suite a ((a, oe) :: pn)) S g m q d
  · exact ld_blt (X := X.suite a ((a, oe) :: pn)) S g m b q z d
theorem ps_try_two (hs : X.stack = X.env :: X.outer) (hf : X.env.frame = some X.env.locals) (hN : X.N.Nodup) (hi : X.N[i]? = some n) (hln : X.env.kindOf n = some .local) (hc1 : Names X x1 c1) (hc2 : Names X x2 c2)
    (hb : ∀ (W : WX) (pn : List (Addr × Obj)) (xe : Value → Shared → Prop), Takes (X.tr pn xe) W → PassesOwn (model X.prog X.w) X.A X.env xe → PSs (X.tr pn xe) body (tb W))
    (hsu : ∀ (a : Addr) (oe : Obj) (cls : Value) (d : Option Addr) (pn : List (Addr × Obj)), Zc cls d oe → (∃ vs, oe.data = .fields vs) → PSs (X.suite a ((a, oe) :: pn)) (b₀ :: suite) (ts a cls d)) :
    PS X (.Try body [.ExceptHandler (some (.Name x1 np1)) none s1 p1, .ExceptHandler (some (.Name x2 np2)) (some n) (b₀ :: suite) p2] [] [] pos) (fun D σ H => tb (wTwo X.K c1 c2 i ts D) D σ H) := by
  refine ⟨fun pins s σ H D I h => wpAny_Try_except ?_⟩
  have ok := I.ok
  have frm : X.A.frames = some (X.env :: X.outer) := by rw [ok.frames, hs]
  refine wpAny_mono ((hb (wTwo X.K c1 c2 i ts D) (X.pn ++ pins) (fun e t1 => wpAny (model X.prog X.w) X.A (noteFrame e X.env) (fun _ t2 => wpAny (model X.prog X.w) X.A (setFlight e none) (fun _ t3 =>
    wpAny (model X.prog X.w) X.A (handleBy e X.env [.ExceptHandler (some (.Name x1 np1)) none s1 p1, .ExceptHandler (some (.Name x2 np2)) (some n) (b₀ :: suite) p2]) (SP X pins D) X.xe t3) X.xe t2) X.xe t1) (fun u s' xx => ?_) PassesOwn.looking).run [] s σ H D (I.toTry _) h) (fun f t1 hsp => ?_) (fun e t1 he => he)
  · obtain ⟨a, B, sI, pins', σ', H', cls, d, rfl, J', nb, up, sky, na, os, ag, m1, m2, yes⟩ := xx
    have J : Inv X pins σ' H' sI := J'.ofTry ok
    show wpAny (model X.prog X.w) X.A (noteFrame (.ref a) X.env) _ _ _
    refine Sky.land Zc.steady frm hf (by rw [← hs]; exact sky) fun h3 fl3 up3 => ?_
    have J3 : Inv X pins σ' H' { s' with heap := h3 } := J.landed nb fl3.1 (up.trans up3) os ag
    obtain ⟨oe3, vs3, he3, hz3, hd3⟩ := fl3.there
    have off : a ∉ frs (X.env :: X.outer) := fun hm => by
      obtain ⟨_, o', e', hnf⟩ := fl3.2.2.1.mem hm
      rw [he3] at e'
      cases e'
      exact hnf _ hd3
    have offL : a ≠ X.env.locals := fun z => off (List.mem_filterMap.mpr ⟨X.env, List.mem_cons_self, by rw [hf, z]⟩)
    have offF : a ∉ X.fs := fun hm => by
      obtain ⟨e, he, q⟩ := List.mem_filterMap.mp hm
      exact off (List.mem_filterMap.mpr ⟨e, List.mem_cons_of_mem _ he, q⟩)
    have S3 := J3.suite he3 hd3 na offL offF
    have LT : PySem.W.Looks (model X.prog X.w) h3 (typeOf (.ref a)) cls := fun A Q E s k q => wpAny_typeOf_ref (k _ _ he3) (by rw [hz3.1]; exact q)
    refine wpAny_handleBy_cons (codeAny_handlers_test (test_name S3 hc1 ((PySem.W.exm_one J3.kIn LT m1).here ?_))) (by intro q; cases q)
    show wpAny _ X.A (handleBy (.ref a) X.env [.ExceptHandler (some (.Name x2 np2)) (some n) (b₀ :: suite) p2]) _ _ _
    refine wpAny_handleBy_cons (codeAny_handlers_test (test_name S3 hc2 ((PySem.W.exm_one J3.kIn LT m2).here ?_))) (by intro q; cases q)
    refine codeAny_handlers_suite_as (HandSPX.lands_againZ fl3 fun h4 fl4 up4 => ?_)
    obtain ⟨oe4, vs4, he4, hz4, hd4⟩ := fl4.there
    have S4 := (J.landed nb fl4.1 ((up.trans up3).trans up4) os ag : Inv X pins σ' H' { s' with heap := h4 }).suite he4 hd4 na offL offF
    refine store_ok (X := X.suite a ((a, oe4) :: (X.pn ++ pins))) (v := .ref a) S4 hN hi (.inl hln) rfl (fun s5 S5 => ?_) (.inr hln)
    refine wpAny_mono ((hsu a oe4 cls d (X.pn ++ pins) hz4 ⟨_, hd4⟩).run [] s5 _ H' _ S5 (yes a na)) (fun f s6 hsp => ?_) (fun _ _ z => False.elim z)
    match f, hsp with
    | .next, ⟨σ6, H6, S6, q6⟩ => exact gone_ok (S6.unsuite ok) hN hi hln fun s7 J7 => ⟨_, _, J7, q6⟩
    | .brk, ⟨σ6, H6, S6, q6⟩ => exact gone_ok (S6.unsuite ok) hN hi hln fun s7 J7 => ⟨_, _, J7, q6⟩
    | .cont, ⟨σ6, H6, S6, q6⟩ => exact gone_ok (S6.unsuite ok) hN hi hln fun s7 J7 => ⟨_, _, J7, q6⟩
    | .ret u, ⟨v6, σ6, H6, S6, r6, q6⟩ => exact gone_ok (S6.unsuite ok) hN hi hln fun s7 J7 => ⟨_, _, _, J7, r6, q6⟩
  · match f, hsp with
    | .next, ⟨σ', H', J', q⟩ => exact wpAny_execs_nil ⟨σ', H', J'.ofTry ok, q⟩
    | .brk, ⟨σ', H', J', q⟩ => exact ⟨σ', H', J'.ofTry ok, q⟩
    | .cont, ⟨σ', H', J', q⟩ => exact ⟨σ', H', J'.ofTry ok, q⟩
    | .ret u, ⟨v, σ', H', J', r, q⟩ => exact ⟨v, σ', H', J'.ofTry ok, r, q⟩
end
section
variable {X : Cx} {w : Wd} {ρ : List SV} {μ : Mus} {R : SV → Mus → Prop} {P : Po} {x1 x2 : Str} {pos p1 p2 np1 np2 : Pos} {C : Addr} {ns : List Str}
/-- the body raises C alone, which is none of the first clause's -/
theorem ds_tryTwo {n : Str} {body sf suite : List Stmt} {b₀ : Stmt} {c1 c2 : Value} (i : Nat) (ex1 : List Dt → Mus → Prop) (hN : X.N.Nodup) (hc1 : Names X x1 c1) (hc2 : Names X x2 c2) (m1 : PySem.W.exmOne X.K (.ref C) c1 = some false) (m2 : PySem.W.exmOne X.K (.ref C) c2 = some true)
    (hb : ∀ w2 W pn xe, Takes (X.tr pn xe) W → (∀ σ' B' H' μ' ds dx, Sto B' σ' ρ → SInv w2 B' H' μ' → ErrAt B' dx ns ds → ex1 ds μ' → W (.ref C) (some dx) σ' H') → DSs (X.tr pn xe) w2 body ρ μ P)
    (hsu : ∀ a dx oe pn ds μ', Zc (.ref C) (some dx) oe → (∃ vs, oe.data = .fields vs) → ex1 ds μ' → DSs (X.suite a ((a, oe) :: pn)) w (b₀ :: suite) (ρ.set i (.exc a dx ns ds)) μ' { nx := fun ρ' μ' => P.nx (ρ'.set i .no) μ', rt := P.rt, bk := fun ρ' μ' => P.bk (ρ'.set i .no) μ', ct := fun ρ' μ' => P.ct (ρ'.set i .no) μ' })
    (hi : X.N[i]? = some n := by rfl) (hln : X.env.kindOf n = some .local := by rfl) (hs : X.stack = X.env :: X.outer := by rfl) (hf : X.env.frame = some X.env.locals := by rfl) :
    DS X w (.Try body [.ExceptHandler (some (.Name x1 np1)) none sf p1, .ExceptHandler (some (.Name x2 np2)) (some n) (b₀ :: suite) p2] [] [] pos) ρ μ P := fun σ B H S I D E => by
  refine tS_of (ps_try_two (i := i) (tb := fun W D σ H => ∀ pn xe, Takes (X.tr pn xe) W → PassesOwn (model X.prog X.w) X.A X.env xe → tB_ (X.tr pn xe) body D σ H)
    (ts := fun a cls d D σ H => ∀ oe pn, Zc cls d oe → (∃ vs, oe.data = .fields vs) → tB_ (X.suite a ((a, oe) :: pn)) (b₀ :: suite) D σ H) hs hf hN hi hln hc1 hc2
    (fun W pn xe tk po => ⟨fun pins s σ H D J q => q pn xe tk po pins s J⟩) (fun a oe cls d pn hz hf => ⟨fun pins s σ H D J q => q oe pn hz hf pins s J⟩)) ?_
  intro pn xe tk po
  have L0 : SInv ⟨B, H, fun p => μ p ≠ none⟩ B H μ := SInv.start I.bh fun p o z => ⟨(I.mus p o z).1, (I.mus p o z).2.1⟩
  refine hb _ _ pn xe tk (fun σ' B' H' μ' ds dx S' I' er hx => ⟨m1, m2, fun a ha oe pn hz hf => ?_⟩) σ B H S L0 D ⟨fun σ2 B2 H2 ρ2 μ2 S2 I2 e2 h2 => E.nx _ B2 H2 _ μ2 S2 (I.back I2) e2 h2, fun v r B2 H2 μ2 I2 e2 q2 h2 => E.rt v r B2 H2 μ2 (I.back I2) e2 q2 h2, fun σ2 B2 H2 ρ2 μ2 S2 I2 e2 h2 => E.bk _ B2 H2 _ μ2 S2 (I.back I2) e2 h2, fun σ2 B2 H2 ρ2 μ2 S2 I2 e2 h2 => E.ct _ B2 H2 _ μ2 S2 (I.back I2) e2 h2⟩
  have eB : Ex B B' := I'.b0
  exact hsu a dx oe pn ds μ' hz hf hx _ B' H' (S'.set i (show Svq B' (.ref a) (.exc a dx ns ds) from ⟨rfl, er⟩)) (I.back I') _ ⟨fun σ2 B2 H2 ρ2 μ2 S2 I2 e2 h2 => E.nx _ B2 H2 _ μ2 (S2.drop i) I2 (eB.trans e2) h2, fun v r B2 H2 μ2 I2 e2 q2 h2 => E.rt v r B2 H2 μ2 I2 (eB.trans e2) q2 h2,
    fun σ2 B2 H2 ρ2 μ2 S2 I2 e2 h2 => E.bk _ B2 H2 _ μ2 (S2.drop i) I2 (eB.trans e2) h2, fun σ2 B2 H2 ρ2 μ2 S2 I2 e2 h2 => E.ct _ B2 H2 _ μ2 (S2.drop i) I2 (eB.trans e2) h2⟩
end
end Dat

set_option Elab.async false
set_option linter.all false
set_option maxRecDepth 100000
set_option maxHeartbeats 4000000
/-! Mx16: lists that may change: made by list(..), by a comprehension; popped, put into; told as data. -/
namespace Dat
open PySem PySem.Spec PyProof.Rows L2 Mx
/-- an own list that nobody tells may change -/
theorem SInv.ownM {w : Wd} {B H : Hp} {μ : Mus} {p : Addr} {xs : List V} {ds : List Dt} (I : SInv w B H μ) (hb : B p = none) (hw : w.H p = none) (hm : μ p = none) (hx : H p = some (.lst xs)) (q : DqA B xs ds) : SInv w B H (μ.put p (.lst ds)) := by
  refine ⟨I.b0, I.bh, I.keep, I.there, I.out, fun a o e => ?_⟩
  by_cases h : a = p
  · subst h
    rw [put_same] at e
    cases e
    exact ⟨hb, ⟨xs, hx, q⟩, .inr hw⟩
  · rw [put_ne h] at e
    exact I.mus a o e
def Mus.del (μ : Mus) (p : Addr) : Mus := fun q => if q = p then none else μ q
theorem del_same {μ : Mus} {p : Addr} : μ.del p p = none := if_pos rfl
theorem del_ne {μ : Mus} {p q : Addr} (h : q ≠ p) : μ.del p q = μ q := if_neg h
theorem del_sub {μ : Mus} {p : Addr} : (μ.del p).Sub μ := fun q o e => by
  by_cases h : q = p
  · rw [h, del_same] at e; cases e
  · rwa [del_ne h] at e
theorem del_put {μ : Mus} {p : Addr} {o : MO} (h : μ p = none) : (μ.put p o).del p = μ := by
  funext q
  by_cases e : q = p
  · rw [e, del_same, h]
  · rw [del_ne e, put_ne e]
section
variable {X : Cx} {w : Wd} {ρ : List SV} {μ : Mus} {R : SV → Mus → Prop} {xs : List Dt}
/-- a list that will change no more: data -/
theorem de_frz {e : Expr} (h : DE X w e ρ μ fun r μ' => ∃ q ds ν, r = .at q ∧ μ' q = some (.lst ds) ∧ w.H q = none ∧ ν.Sub μ' ∧ ν q = none ∧ R (.dat (.lst ds)) ν) : DE X w e ρ μ R := fun σ B H S I Q k =>
  h σ B H S I Q fun v r B1 H1 μ1 I1 e1 q1 ⟨q, ds, ν, er, hm, hw, hs, hn, h1⟩ => by
    subst er
    obtain ⟨B2, I2, e2, q2⟩ := I1.freeze hm hw hs hn
    cases (show v = V.ref q from q1)
    exact k _ (.dat (.lst ds)) B2 H1 ν I2 (e1.trans e2) q2 h1
theorem ca_listM {r : SV} (h1 : LsQ r μ xs) (h : ∀ p, μ p = none → w.H p = none → R (.at p) (μ.put p (.lst xs))) : CaD X w (.type "list") [r] μ R := fun B H vs I q Q k => by
  obtain ⟨v, rfl, q1⟩ := q.one
  obtain ⟨a, as, rfl, ha, hx⟩ := ls_get I q1 h1
  exact sC_of call_list_of ⟨a, as, rfl, .inl (.inl (.inl ha)), fun p hp => k (.ref p) (.at p) B _ _ (I.newM hp (.lst xs) ⟨as, upd_same, hx⟩) (Ex.refl B) rfl (h p (I.free hp).2.1 (I.free hp).2.2)⟩
theorem ca_listDicM {ks : List Str} {f : Str → Dt} (hc : X.calm = true) (h : ∀ p, μ p = none → w.H p = none → R (.at p) (μ.put p (.lst (ks.map Dt.str)))) : CaD X w (.type "list") [.dat (dicT ks f)] μ R := fun B H vs I q Q kk => by
  obtain ⟨v, rfl, q1⟩ := q.one
  obtain ⟨a, kvs, rfl, ha, hk, hv⟩ := dicT_get q1
  refine sC_of (call_listD hc) ⟨a, kvs, rfl, .inl (I.bh _ _ ha), fun p hp => ?_⟩
  have e : (kvs.map fun kv => kV kv.1) = ks.map V.str := by
    have : (kvs.map fun kv => kV kv.1) = (kvs.map (·.1)).map kV := by rw [List.map_map]; rfl
    rw [this, hk, List.map_map]; rfl
  rw [e]
  exact kk (.ref p) (.at p) B _ _ (I.newM hp (.lst (ks.map Dt.str)) ⟨_, upd_same, dqa_strs _ ks⟩) (Ex.refl B) rfl (h p (I.free hp).2.1 (I.free hp).2.2)
theorem ca_listTbM {r : SV} {l : Tbl} {k : Nat} (hr : Room k X.A) (h1 : TbQ X.w r μ l) (h : ∀ p, μ p = none → w.H p = none → R (.at p) (μ.put p (.lst (l.map (·.1))))) : CaD X w (.type "list") [r] μ R := fun B H vs I q Q kk pins s σ us J rv => by
  obtain ⟨v, rfl, q1⟩ := q.one
  obtain ⟨u, rfl, r1⟩ := vals1 rv
  obtain ⟨a, ob, l', rfl, ha, e1, e2, e3⟩ := tb_get I q1 h1
  obtain rfl : u = Value.ref a := r1
  obtain ⟨m1, ⟨es, ep, m2, m3, m4⟩, m5, m6⟩ := mxo_at J.hok ha
  have hz : es.size = l'.length := by rw [← Array.length_toList, Paired.length m4]
  have raw : s.heap.DictRaw a es ep := ⟨ob, m1, m2, m3⟩
  refine PySem.W.kdl_call (PySem.KdlSrc.rawDict (es := es) (ep := ep) m6) hr.hd raw (by rw [hz]; exact m5) fun h' tk acc c kp hS hI => ?_
  have rel : Vals (l'.map (·.2.1)) acc.toList := by
    have al : acc.toList.length = (es.toList.map (·.key)).length := by rw [Array.length_toList, List.length_map, Array.length_toList]; exact hI.1
    have ae : acc.toList = es.toList.map (·.key) := by
      apply List.ext_getElem?
      intro j
      by_cases hj : j < acc.toList.length
      · have hj2 : j < es.size := by rw [Array.length_toList, hI.1] at hj; exact hj
        have hj3 : j < acc.size := by rw [Array.length_toList] at hj; exact hj
        obtain ⟨_, ev⟩ := hI.2 j acc[j] (Array.getElem?_eq_getElem hj3)
        rw [Array.getElem?_toList, Array.getElem?_eq_getElem hj3, ev, List.getElem?_map, Array.getElem?_toList, Array.getElem?_eq_getElem hj2]; rfl
      · rw [List.getElem?_eq_none (by omega), List.getElem?_eq_none (by omega)]
    rw [ae]; exact (mixParts m4).1
  have fr : H s.heap.objs.size = none := J.hok.fresh (Nat.le_refl _)
  have J2 := J.laid (h' := h') (a := s.heap.objs.size) (o := .lst (l'.map (·.2.1))) (t' := tk) kp (Nat.le_refl _) ⟨by rw [List.length_map]; exact m5, acc.toList, c, rel, by rw [Array.toArray_toList]; exact hS⟩
  exact ⟨.ref s.heap.objs.size, _, J2, rfl, kk _ (.at s.heap.objs.size) B _ _ (I.newM fr (.lst (l.map (·.1))) ⟨_, upd_same, e2⟩) (Ex.refl B) rfl (h _ (I.free fr).2.1 (I.free fr).2.2)⟩
theorem mt_popM {p : Addr} {i : Int} {d : Dt} (hm : μ p = some (.lst xs)) (h0 : 0 ≤ i) (h1 : xs[i.toNat]? = some d) (hl : xs.length ≤ 100000) (h : R (.dat d) (μ.put p (.lst (xs.eraseIdx i.toNat)))) : MtD X w "list.pop" (.at p) [.dat (.int i)] μ R := fun B H v vs I q qs Q k => by
  obtain ⟨u, rfl, q1⟩ := qs.one
  cases q1
  cases (show v = V.ref p from q)
  obtain ⟨_, ⟨as, ha, hx⟩, _⟩ := I.mus p _ hm
  obtain ⟨y, hy, qy⟩ := hx.get h1
  have hn : i.toNat < xs.length := (List.getElem?_eq_some_iff.mp h1).1
  have hal := hx.length
  have er : ∀ (n : Nat) (vs : List V) (ds : List Dt), DqA B vs ds → DqA B (vs.eraseIdx n) (ds.eraseIdx n) := fun n vs ds q => by
    rw [List.eraseIdx_eq_take_drop_succ, List.eraseIdx_eq_take_drop_succ]
    exact (q.take n).append (q.drop (n + 1))
  exact sM_of mt_popAt ⟨p, as, i, i.toNat, y, rfl, rfl, ha, by omega, by omega, (ixN_seq (show ixN as.length i = some i.toNat by unfold ixN; rw [if_pos h0, if_pos (by omega)])).1, hy, k y (.dat d) B _ _ (I.set hm (.lst (xs.eraseIdx i.toNat)) ⟨as.eraseIdx i.toNat, upd_same, er _ _ _ hx⟩) (Ex.refl B) qy h⟩
theorem mt_insertM {p : Addr} {i : Int} {d : Dt} (hm : μ p = some (.lst xs)) (h0 : 0 ≤ i) (h1 : i ≤ 100000) (hl : xs.length < 100000) (h : R (.dat .non) (μ.put p (.lst (xs.take i.toNat ++ [d] ++ xs.drop i.toNat)))) : MtD X w "list.insert" (.at p) [.dat (.int i), .dat d] μ R := fun B H v vs I q qs Q k => by
  obtain ⟨u1, u2, rfl, q1, q2⟩ := qs.two
  cases q1
  cases (show v = V.ref p from q)
  obtain ⟨_, ⟨as, ha, hx⟩, _⟩ := I.mus p _ hm
  exact sM_of mt_insert ⟨p, as, i, u2, rfl, rfl, ha, Nat.lt_of_lt_of_le (by rw [hx.length]; exact hl) (by decide : 100000 ≤ sizeLine), h0, by omega,
    k .non (.dat .non) B _ _ (I.set hm (.lst (xs.take i.toNat ++ [d] ++ xs.drop i.toNat)) ⟨_, upd_same, ((hx.take _).snoc q2).append (hx.drop _)⟩) (Ex.refl B) Dq.non h⟩
theorem sl_dL {r : SV} {lo hi : Option Int} (h1 : LsQ r μ xs) (h : R (.dat (.lst (cutD xs lo hi))) μ) : SlD X w r lo hi μ R := fun B H v I q Q k => by
  obtain ⟨a, as, rfl, ha, hx⟩ := ls_get I q h1
  refine sSl_of sl_list ⟨a, as, rfl, .inl (.inl ha), fun p hp => ?_⟩
  exact k _ (.dat (.lst (cutD xs lo hi))) _ _ μ (I.new hp _) (Ex.new (I.free hp).1) (.lst upd_same ((hx.cut lo hi).mono (Ex.new (I.free hp).1))) h
theorem ca_anyB {r : SV} {bs : List Bool} (hc : X.calm = true) (h1 : LsQ r μ (bs.map Dt.bl)) (h : R (.dat (.bl (bs.any id))) μ) : CaD X w (.builtin "any") [r] μ R := fun B H vs I q Q k => by
  obtain ⟨v, rfl, q1⟩ := q.one
  obtain ⟨a, as, rfl, ha, hx⟩ := ls_get I q1 h1
  have e := DqA.bls hx
  subst e
  exact sC_of (cr_any hc) ⟨a, bs, rfl, .inl (.inl ha), k (.bl _) (.dat (.bl _)) B H μ I (Ex.refl B) (Dq.bl _) h⟩
theorem op_isnB {a b : Bool} (h : R (.dat (.bl (!decide (a = b)))) μ) : OpD X w (compareOp .IsNot) (.dat (.bl a)) (.dat (.bl b)) μ R := fun B H v u I q1 q2 Q k => by
  cases q1; cases q2
  exact sO_of op_isnot_bl ⟨a, b, rfl, rfl, k (.bl _) (.dat (.bl _)) B H μ I (Ex.refl B) (Dq.bl _) h⟩
end
section
variable {X : Cx} {w : Wd} {ρ : List SV} {μ : Mus} {R : SV → Mus → Prop} {e : Expr} {p apos cpos pos : Pos}
/-- list(d.items()) -/
theorem de_listItemsM (hc : X.calm = true) (hm : X.mg "list" = none) (h : DE X w e ρ μ fun r μ1 => ∃ l : Tbl, TbD X r l ∧ ∀ q, μ1 q = none → w.H q = none → R (.at q) (μ1.put q (.lst (l.map pairD)))) (hg : Gl X "list" := by rfl) (hbase : attributeBase e "items" X.env (eval e X.env) = eval e X.env := by rfl) (hline : (apos.endLine == cpos.line) = true := by rfl)
    (hs : starEach [.Call (.Attribute e "items" apos) [] [] cpos] X.env = (false, eval (.Call (.Attribute e "items" apos) [] [] cpos) X.env) :: starEach [] X.env := by rfl) :
    DE X w (.Call (.Name "list" p) [.Call (.Attribute e "items" apos) [] [] cpos] [] pos) ρ μ R := fun σ B H S I Q kk pins s J => by
  refine wpAny_Call_Name_kw (ld_blt J hg hm (by decide +kernel : bootBuiltins "list" = some (.type "list")) ?_)
  refine PyProof.Rows.callWith_type1 ?_ hs rfl
  rw [hs]; show wpAny _ _ (spliced ((false, eval (.Call (.Attribute e "items" apos) [] [] cpos) X.env) :: backTo pos (starEach [] X.env))) _ _ s
  refine Calls.spliced_cons (wpAny_Call_method (T := "dict") (id := "dict.items") hbase rfl hline F.plainAttrs_dict F.slot_dict_items F.type_dict_items (thn ((pe_self (X := X) (e := e)).run pins s σ H (fun v H1 => ∃ d, v = .ref d ∧ ∃ o l, H1 d = some (mxo d o l) ∧ ∀ (h' : Heap) (s1 : Shared) (tk : Nat) (as : List Addr) (acc : Array Value) (c : Nat), Inv X pins σ H1 s1 → (∀ b o, s1.heap.get? b = some o → h'.get? b = some o) → h'.get? s1.heap.objs.size = some { cls := .type "list", dict := none, data := .seq acc c, slots := #[] } → as.length = l.length → as.Nodup → (∀ a ∈ as, s1.heap.objs.size < a) →
      (∀ (j : Nat) a t, as[j]? = some a → l[j]? = some t → ∃ x y, h'.get? a = some { cls := .type "tuple", data := .seq #[x, y] } ∧ RelV t.2.1 x ∧ RelV t.2.2 y) → acc.toList = as.map Value.ref → EP X pins σ Q (.ref s1.heap.objs.size) { s1 with heap := h', toks := tk }) J ?_) fun u s1 ⟨v, H1, I1, rx, d, ex, o, l, hd, q⟩ => ?_))
  · refine h σ B H S I _ fun v r B1 H1 μ1 I1 e1 q1 h1 => ?_
    obtain ⟨lt, ⟨hh, rfl⟩, h1⟩ := h1
    obtain ⟨a, o, l', rfl, ha, hk, hv, hl⟩ := tbD_get q1
    refine ⟨a, rfl, o, l', I1.bh _ _ ha, fun h' s1 tk as acc c J1 kp hS hal nd hab hT hacc => ?_⟩
    have hSn : s1.heap.objs.size ∉ as := fun z => Nat.lt_irrefl _ (hab _ z)
    let ts : List (V × V) := l'.map (·.2)
    have htl : ts.length = l'.length := List.length_map ..
    let N : Hp := putT2 (upd (fun _ => none) s1.heap.objs.size (.lst (as.map V.ref))) as ts
    have nS : N s1.heap.objs.size = some (.lst (as.map V.ref)) := by show putT2 _ as ts _ = _; rw [putT2_off as ts _ hSn, upd_same]
    have nA : ∀ (j : Nat) a t, as[j]? = some a → ts[j]? = some t → N a = some (.tup [t.1, t.2]) := fun j a t h1 h2 => putT2_at as ts _ nd h1 h2
    have nO : ∀ b u, N b = some u → b = s1.heap.objs.size ∧ u = .lst (as.map V.ref) ∨ ∃ (j : Nat) (t : Tri), as[j]? = some b ∧ l'[j]? = some t ∧ u = .tup [t.2.1, t.2.2] := fun b u hb => by
      by_cases hm : b ∈ as
      · obtain ⟨j, hj⟩ := List.mem_iff_getElem?.mp hm
        have hj2 : j < l'.length := by rw [← hal]; exact (List.getElem?_eq_some_iff.mp hj).1
        have e2 : l'[j]? = some l'[j] := List.getElem?_eq_getElem hj2
        refine .inr ⟨j, l'[j], hj, e2, ?_⟩
        have e3 : ts[j]? = some l'[j].2 := by show (l'.map (·.2))[j]? = _; rw [List.getElem?_map, e2]; rfl
        rw [nA j b _ hj e3] at hb; exact (Option.some.inj hb).symm
      · by_cases hs : b = s1.heap.objs.size
        · subst hs; rw [nS] at hb; exact .inl ⟨rfl, (Option.some.inj hb).symm⟩
        · have : N b = none := by show putT2 _ as ts b = none; rw [putT2_off as ts _ hm, upd_ne hs]
          rw [this] at hb; cases hb
    have nHi : ∀ b, N b ≠ none → s1.heap.objs.size ≤ b := fun b hb => by
      cases e : N b with
      | none => exact absurd e hb
      | some u =>
        rcases nO b u e with ⟨z, _⟩ | ⟨j, t, hj, _⟩
        · rw [z]; exact Nat.le_refl _
        · exact Nat.le_of_lt (hab _ (List.mem_of_getElem? hj))
    have J2 : Inv X pins σ (over N H1) { s1 with heap := h', toks := tk } := inv_adopt J1 kp nHi fun b u hb => by
      rcases nO b u hb with ⟨rfl, rfl⟩ | ⟨j, t, hj, ht, rfl⟩
      · refine ⟨?_, acc.toList, c, by rw [hacc]; exact LiI.vals_refs as, by rw [Array.toArray_toList]; exact hS⟩
        obtain ⟨m1, m2, m3, m4⟩ := mxo_at J1.hok (I1.bh _ _ ha)
        rw [List.length_map, hal]; exact m3
      · obtain ⟨x, y, hg, r1, r2⟩ := hT j b t hj ht
        exact ⟨by show 2 ≤ sizeLine; decide, [x, y], .cons r1 (.cons r2 .nil), ⟨_, hg, rfl, _, rfl⟩⟩
    let N0 : Hp := putT2 (fun _ => none) as ts
    have n0 : ∀ b, N0 b ≠ none → N b = N0 b := fun b hb => by
      by_cases hm : b ∈ as
      · obtain ⟨j, hj⟩ := List.mem_iff_getElem?.mp hm
        have hj2 : j < ts.length := by rw [htl, ← hal]; exact (List.getElem?_eq_some_iff.mp hj).1
        have e2 : ts[j]? = some ts[j] := List.getElem?_eq_getElem hj2
        rw [nA j b _ hj e2]
        exact (putT2_at as ts _ nd hj e2).symm
      · exact absurd (putT2_off as ts _ hm) hb
    have n0S : N0 s1.heap.objs.size = none := putT2_off as ts _ hSn
    have nEq : over N H1 = upd (over N0 H1) s1.heap.objs.size (.lst (as.map V.ref)) := by
      funext b
      by_cases hs : b = s1.heap.objs.size
      · rw [hs, upd_same, over_new nS]
      · rw [upd_ne hs]
        have e3 : N b = N0 b := by
          by_cases hz : N0 b = none
          · rw [hz]
            by_cases hm : b ∈ as
            · obtain ⟨j, hj⟩ := List.mem_iff_getElem?.mp hm
              have hj2 : j < ts.length := by rw [htl, ← hal]; exact (List.getElem?_eq_some_iff.mp hj).1
              have e2 : ts[j]? = some ts[j] := List.getElem?_eq_getElem hj2
              rw [show N0 b = _ from putT2_at as ts _ nd hj e2] at hz
              cases hz
            · show putT2 _ as ts b = none
              rw [putT2_off as ts _ hm, upd_ne hs]
          · exact n0 b hz
        unfold over
        rw [e3]
    obtain ⟨I2, ex⟩ := I1.adopt (N := N0) fun b hb => J1.hok.fresh (nHi b (by rw [n0 b hb]; exact hb))
    have fr : over N0 H1 s1.heap.objs.size = none := by rw [over_old n0S]; exact J1.hok.fresh (Nat.le_refl _)
    have c1 : ts.map (·.1) = l'.map (·.2.1) := by show (l'.map (·.2)).map (·.1) = _; rw [List.map_map]; rfl
    have c2 : ts.map (·.2) = l'.map (·.2.2) := by show (l'.map (·.2)).map (·.2) = _; rw [List.map_map]; rfl
    have rows : DqA (over N0 B1) (as.map V.ref) (lt.map pairD) := dq_rows (ts := ts) (by rw [hal, hl]) (fun j a t h1 h2 => over_new (putT2_at as ts _ nd h1 h2)) (by rw [c1]; exact hk.mono ex) (by rw [c2]; exact hv.mono ex)
    refine ⟨.ref s1.heap.objs.size, over N H1, J2, rfl, ?_⟩
    rw [nEq]
    exact kk _ (.at s1.heap.objs.size) _ _ _ (I2.newM fr (.lst (lt.map pairD)) ⟨_, upd_same, rows⟩) (e1.trans ex) rfl (h1 _ (I2.free fr).2.1 (I2.free fr).2.2)
  · subst ex
    obtain rfl : u = Value.ref d := rx
    obtain ⟨m1, ⟨es, ep, m2, m3, m4⟩, m5, m6⟩ := mxo_at I1.hok hd
    have raw : s1.heap.DictRaw d es ep := ⟨o, m1, m2, m3⟩
    have hz : es.size = l.length := by rw [← Array.length_toList, Paired.length m4]
    refine ⟨raw.typeIs, fun b z => by cases z; exact ⟨o, m1, m2.2.1⟩, ?_⟩
    show wpAny _ _ (callWith cpos (.builtin "dict.items") [.ref d] [] []) _ X.xe s1
    have I2 : Inv X pins σ H1 { s1 with heap := s1.heap.push { cls := .type "dict_items", data := .fields #[.ref d] } } := I1.kept (t' := s1.toks) fun b ob q => Heap.get?_push_of_some _ q
    refine method_meetsIn F.slot_dict_items F.entry_dict_items rfl (PySem.evalArgs_none ⟨rfl, raw.typeIs, F.args_dict_items_1 _, _, meets_dict_items_raw d m6, ⟨⟨es, ep, raw⟩, Calls.spliced_nil ?_⟩⟩)
    refine PySem.W.dil_call (es := es) (ep := ep) (I1.ok.hd hc) ⟨_, Heap.get?_push_size _ rfl, rfl, rfl⟩ (raw.at fun o e => Heap.get?_push_of_some _ e) (by rw [hz]; exact m5) fun h' tk acc c as hk hS hl hG hacc => ?_
    refine q h' _ tk as acc c I2 hk hS (by rw [hl, hz]) (List.Pairwise.imp (fun {a b} (h : a < b) => Nat.ne_of_lt h) hG.rise) hG.above (fun j a t hj ht => ?_) hacc
    obtain ⟨hjs, hg⟩ := hG.pairs j a hj
    obtain ⟨_, t', ht', r1, r2⟩ := mx_get m4 (i := j) (by rw [← hz]; exact hjs)
    rw [ht] at ht'; cases ht'
    exact ⟨_, _, hg, r1, r2⟩
end
section
variable {X : Cx} {w : Wd} {ρ : List SV} {μ : Mus} {elt tg iter : Expr} {ifs : List Expr} {scope : Scope} {pos px : Pos} {x y : Str} {R : SV → Mus → Prop}
def LcAskM (X : Cx) (w : Wd) (scope : Scope) (elt : Expr) (ifs : List Expr) (ρ : List SV) (j : Nat) (R : SV → Mus → Prop) (items : List Dt) (μ1 : Mus) : Prop :=
  items.length ≤ 100000 ∧ ∃ J : Nat → List Dt → Mus → Prop, J 0 [] μ1 ∧ (∀ n acc d μ2, items[n]? = some d → acc.length ≤ n → J n acc μ2 → LcTurn X scope elt ifs ρ j J n acc d μ2) ∧
    ∀ acc μ', J items.length acc μ' → acc.length ≤ items.length → ∀ p, μ' p = none → w.H p = none → R (.at p) (μ'.put p (.lst acc))
theorem lc_dataM {R : SV → Mus → Prop} {j : Nat} {σ : L2.St} {B H : Hp} {Q : VK} (h : DI X w (.Name x px) iter ρ μ (LcAskM X w scope elt ifs ρ j R)) (S : Sto B σ ρ) (I : SInv w B H μ) (k : Kt w B R Q) :
    tLc (tI X (.Name x px) iter) (gName j) (gQ X scope ifs) (gE X scope elt) [j] σ H Q := by
  refine h σ B H S I _ fun J items B1 H1 μ1 I1 e1 W h1 D hD => ?_
  obtain ⟨hlen, V, v0, turn, fin⟩ := h1
  obtain ⟨bD, mD, wD⟩ := I1.free hD
  let Y : Nat → Hp → L2.V → Hp → Prop := fun i H x H' => ∃ d, items[i]? = some d ∧ ((H' = H ∧ Dq B1 x d) ∨ ∃ T xs ds, x = .ref T ∧ H T = none ∧ H' = upd H T (.tup xs) ∧ DqA B1 xs ds ∧ d = .tup ds)
  have wk : Walk J items.length (fun H => Ex B1 H) Y := ⟨fun i H hi g => W.goes i H hi g, W.stops, W.yields⟩
  let Pv : Nat → Hp → Prop := fun i H' => ∃ B' μ' acc xs, SInv w B' H' μ' ∧ Ex B1 B' ∧ μ' D = none ∧ B' D = none ∧ H' D = some (.lst xs) ∧ DqA B' xs acc ∧ acc.length ≤ i ∧ V i acc μ'
  refine lc_it wk Pv ⟨B1, μ1, [], [], I1.own bD wD mD _, Ex.refl _, mD, bD, upd_same, .nil, Nat.le_refl _, v0⟩ (fun i H' _ ⟨B', _, _, _, I', g, _⟩ => g.trans I'.bh) ?_ ?_
  · rintro i v H2 H3 hi ⟨B2, μ2, acc, xs, I2, g2, m2, b2, hx, qx, hl, v2⟩ ⟨d, hd, hy⟩
    refine ⟨by simp [wipe, List.set_set], ?_⟩
    have core : ∀ B3, SInv w B3 H3 μ2 → Ex B2 B3 → B3 D = none → H3 D = some (.lst xs) → Dq B3 v d →
        gQ X scope ifs ((wipe σ [j]).set j (some v)) H3 fun b H4 => if b = true then gE X scope elt ((wipe σ [j]).set j (some v)) H4 fun y H5 => ∃ acc, H5 D = some (.lst acc) ∧ acc.length < sizeLine ∧ Pv (i + 1) (upd H5 D (.lst (acc ++ [y]))) else Pv (i + 1) H4 := by
      intro B3 I3 e3 b3 h3 q3 kb
      have J3 : SInv ⟨B3, H3, fun p => μ2 p ≠ none⟩ B3 H3 μ2 := SInv.start I3.bh fun p o z => ⟨(I3.mus p o z).1, (I3.mus p o z).2.1⟩
      have S3 : Sto B3 ((wipe σ [j]).set j (some v)) (ρ.set j (.dat d)) := by
        have s1 : Sto B3 σ ρ := S.mono (e1.trans (g2.trans e3))
        have s2 : Sto B3 (wipe σ [j]) (ρ.set j .no) := s1.wipe [j] _ (by rw [List.length_set]) fun i r hr => by
          by_cases e : j = i
          · subst e
            by_cases hl : j < ρ.length
            · rw [List.getElem?_set_self hl] at hr; cases hr; exact .inl rfl
            · rw [List.getElem?_eq_none (by rw [List.length_set]; omega)] at hr; cases hr
          · rw [List.getElem?_set_ne e] at hr
            exact .inr ⟨by simpa using fun z => e z.symm, hr⟩
        have s3 := s2.set j (r := .dat d) (v := v) q3
        rwa [List.set_set] at s3
      -- what holds of D behind a piece of the turn
      have keepD : ∀ {B4 H4 μ4}, SInv ⟨B3, H3, fun p => μ2 p ≠ none⟩ B4 H4 μ4 → μ4 D = none ∧ B4 D = none ∧ H4 D = some (.lst xs) := fun {B4 H4 μ4} J4 => by
        refine ⟨?_, J4.out D (by show H3 D ≠ none; rw [h3]; exact nofun) b3, J4.keep D _ (fun z => z m2) h3⟩
        cases z : μ4 D with
        | none => rfl
        | some o =>
          rcases (J4.mus D o z).2.2 with c | c
          · exact absurd m2 c
          · rw [show H3 D = none from c] at h3; cases h3
      have hacc : xs.length < sizeLine := by
        rw [qx.length]
        have : i < items.length := hi
        exact Nat.lt_of_le_of_lt (Nat.le_trans hl (Nat.le_of_lt this)) (Nat.lt_of_le_of_lt hlen (by decide))
      have t := turn i acc d μ2 hd hl v2
      refine (t _ kb) _ B3 H3 S3 J3 _ fun b B4 H4 μ4 J4 e4 h4 => ?_
      cases b with
      | false =>
        rw [if_neg Bool.false_ne_true]
        obtain ⟨k1, k2, k3⟩ := keepD J4
        exact ⟨B4, μ4, acc, xs, I3.back J4, g2.trans (e3.trans e4), k1, k2, k3, (qx.mono e3).mono e4, Nat.le_succ_of_le hl, h4.2 rfl⟩
      | true =>
        rw [if_pos rfl]
        intro kc
        refine h4.1 rfl kc _ B4 H4 (S3.mono e4) J4 _ fun y r B5 H5 μ5 J5 e5 q5 h5 => ?_
        · obtain ⟨d', rfl, h5⟩ := h5
          obtain ⟨k1, k2, k3⟩ := keepD J5
          refine ⟨xs, k3, hacc, B5, μ5, acc ++ [d'], xs ++ [y], (I3.back J5).own k2 wD k1 _, g2.trans (e3.trans (e4.trans e5)), k1, k2, upd_same, (((qx.mono e3).mono e4).mono e5).snoc q5, by rw [List.length_append]; exact Nat.succ_le_succ hl, h5⟩
    rcases hy with ⟨rfl, q⟩ | ⟨T, ys, ds, rfl, hT, rfl, q, rfl⟩
    · exact core B2 I2 (Ex.refl _) b2 hx (q.mono g2)
    · have hb := (I2.free hT).1
      have ne : D ≠ T := fun z => by rw [z, hT] at hx; cases hx
      exact core (upd B2 T (.tup ys)) (I2.new hT _) (Ex.new hb) (by rw [upd_ne ne]; exact b2) (by rw [upd_ne ne]; exact hx) (.tup upd_same ((q.mono g2).mono (Ex.new hb)))
  · rintro H' ⟨B', μ', acc, xs, I', g', m', b', hx, qx, hl, v'⟩
    exact k (.ref D) (.at D) B' H' _ (I'.ownM b' wD m' hx qx) (e1.trans g') rfl (fin acc μ' v' hl D m' wD)
theorem de_lcM (j : Nat) (hc : X.calm = true) (hN : X.N.Nodup) (ok : BlkOk X.N X.env.scope scope [(x, j)]) (h : DI X w (.Name x px) iter ρ μ (LcAskM X w scope elt ifs ρ j R)) (hi : X.N[j]? = some x := by rfl)
    (hx : ∀ k, Loc (BX X scope k).env.scope x := by intro _; first | exact Or.inl rfl | exact Or.inr rfl) (hf : ∀ k, (BX X scope k).fn x = true ∨ (BX X scope k).env.scope.names.lookup x = some .local := by intro _; first | exact Or.inr rfl | exact Or.inl rfl)
    (hs : ∀ z, foldedSetIterable iter X.env z = pure z := by intro _; rfl) : DE X w (.ListComp elt [⟨.Name x px, iter, ifs, 0⟩] scope pos) ρ μ R := fun σ B H S I Q k =>
  tE_of (pe_lc (own := [(x, j)]) (g := gName j) (tt := gQ X scope ifs) (te := gE X scope elt) hc hN pi_self ok (fun s H C cl fp => pg_name (X := BX X scope (s, H, C, cl, fp)) hN hi (hx (s, H, C, cl, fp)) (hf (s, H, C, cl, fp)))
    (fun s H C cl fp => ⟨fun pins s1 σ1 H1 Q1 I1 q => q (s, H, C, cl, fp) pins s1 I1⟩) (fun s H C cl fp => ⟨fun pins s1 σ1 H1 Q1 I1 q => q (s, H, C, cl, fp) pins s1 I1⟩) hs) (lc_dataM h S I k)
end
end Dat

set_option Elab.async false
set_option linter.all false
set_option maxRecDepth 100000
set_option maxHeartbeats 4000000
/-! Mx17: xs != []; anything not in a list of texts; xs[i] = v. -/
namespace Mx
open PySem PySem.Spec PyProof.Rows L2 PySem.SeqAt
section
variable {prog : Program} {wd : World} {A : Around} {E : Value → Shared → Prop} {s : Shared}
theorem decl_dict_str {a : Addr} {y : Str} {t : Tok} {P : Shared → Prop} (hT : s.TypeIs (.ref a) "dict") (hq : P s) : wpAny (model prog wd) A (call (.builtin "dict.__eq__") [.ref a, .str y t]) (fun v s' => v = .notImplemented ∧ P s') E s := by
  refine wpAny_call_entry (T := "dict") PySem.F.slot_dict_eq hT PySem.F.entry_dict_eq ?_ (PySem.F.args_dict_eq_2 _ _)
  show wpAny _ _ (Builtin.Dict.dictSlotArgs "__eq__" ⟨[.ref a, .str y t], []⟩ >>= _) _ _ s
  refine wpAny_bind ?_
  unfold Builtin.Dict.dictSlotArgs; refine wpAny_bind (wpAny_notOrdered_dict hT (wpAny_pure ?_))
  have L : PySem.W.Looks (model prog wd) s.heap (isInstance (.str y t) (.type "dict")) false := PySem.W.Looks.of_pure (by show (typeOf (.str y t) >>= fun c => isSubtype c (.type "dict")) = _; exact PySem.F.sub_str_dict)
  exact wpAny_bind (L.here (wpAny_bind (wpAny_rule (wpAny_pure ⟨_, rfl, rfl, hq⟩))))
theorem eqAt_str_dict {a : Addr} {o : Obj} {y : Str} {t : Tok} (ho : s.heap.get? a = some o) (hc : o.cls = .type "dict") (hd : ∀ v, o.data ≠ .prim v) (hu : A.units < cLine) : EqAt A s (.str y t) (.ref a) false := fun prog w E Q h => by
  have hT : s.TypeIs (.ref a) "dict" := ⟨o, ho, hc⟩
  unfold eqBool
  refine wpAny_holding ?_
  refine wpAny_ite_split (fun hab => absurd (eq_of_beq hab) nofun) (fun _ => ?_)
  refine wpAny_bind ?_
  refine rc_eq_decline_or (k := false) (typeIs_str s y t) hT (by decide) PySem.F.sub_dict_str PySem.F.slot_str_eq PySem.F.slot_dict_eq_refl (fun Q' hq => ?_) (fun Q' hq => ?_) (fun _ hq => wpAny_of_eq (rfl : isSame (.str y t) (.ref a) = pure false) hq) (.inr hu) (wpAny_truthy_bool h)
  · exact wpAny_mono (decl_str (P := fun z => z = s) ho hd rfl) (fun v s' z => by obtain ⟨rfl, rfl⟩ := z; exact hq) fun _ _ e => e
  · exact wpAny_mono (decl_dict_str (P := fun z => z = s) hT rfl) (fun v s' z => by obtain ⟨rfl, rfl⟩ := z; exact hq) fun _ _ e => e
end
end Mx
namespace Dat
open PySem PySem.Spec PyProof.Rows L2 Mx PySem.SeqAt
section
variable {X : Cx} {w : Wd} {ρ : List SV} {μ : Mus} {R : SV → Mus → Prop} {xs : List Dt} {zs : List Str}
theorem eqv_odd (d : Dt) (hn : isStr d = false) : ∀ zs : List Str, ((toPyA (zs.map Dt.str)).any fun y => PyData.eqv y (toPy d)) = false
  | [] => rfl
  | z :: zs => by
    rw [List.map_cons, toPyA, List.any_cons, eqv_odd d hn zs, Bool.or_false, toPy]
    cases d with
    | str _ => simp [isStr] at hn
    | _ => simp [toPy, PyData.eqv]
theorem plain_strs : ∀ zs : List Str, plainA (zs.map Dt.str) = true ∧ PyData.plainAll (toPyA (zs.map Dt.str)) = true ∧ PyData.depthAll (toPyA (zs.map Dt.str)) = 0
  | [] => ⟨rfl, rfl, rfl⟩
  | z :: zs => by
    obtain ⟨h1, h2, h3⟩ := plain_strs zs
    refine ⟨?_, ?_, ?_⟩
    · simp [plainA, Dat.plain, h1]
    · rw [List.map_cons, toPyA, PyData.plainAll, h2, toPy]; rfl
    · rw [List.map_cons, toPyA, PyData.depthAll, h3, toPy, PyData.depth]; rfl
mutual
theorem plain_py : ∀ d : Dt, noDic d = true → Dat.plain d = true → PyData.plain (toPy d) = true
  | .non, _, _ => by rw [toPy]; rfl
  | .bl _, _, _ => by rw [toPy]; rfl
  | .int _, _, _ => by rw [toPy]; rfl
  | .str _, _, _ => by rw [toPy]; rfl
  | .lst xs, h, g => by rw [toPy, PyData.plain]; exact plain_pyA xs (by simpa [noDic] using h) (by simpa [Dat.plain] using g)
  | .tup xs, h, g => by rw [toPy, PyData.plain]; exact plain_pyA xs (by simpa [noDic] using h) (by simpa [Dat.plain] using g)
  | .dic _ _, h, _ => by simp [noDic] at h
  | .obj _ _ _, h, _ => by simp [noDic] at h
  | .mix _ _ _, h, _ => by simp [noDic] at h
  | .err _ _ _, h, _ => by simp [noDic] at h
theorem plain_pyA : ∀ ds : List Dt, noDicA ds = true → plainA ds = true → PyData.plainAll (toPyA ds) = true
  | [], _, _ => by rw [toPyA]; rfl
  | d :: ds, h, g => by
    rw [noDicA, Bool.and_eq_true] at h
    rw [plainA, Bool.and_eq_true] at g
    rw [toPyA, PyData.plainAll, plain_py d h.1 g.1, plain_pyA ds h.2 g.2]
    rfl
end
/-- x not in texts, x no text -/
theorem op_notInOdd {r : SV} {d : Dt} {k : Nat} (hr : Room k X.A) (h1 : LsQ r μ (zs.map Dt.str)) (hn : isStr d = false) (hp : Dat.plain d = true) (hd : noDic d = true ∨ (∃ a b, d = .dic a b)) (hdp : (toPy d).depth ≤ 60) (h : R (.dat (.bl true)) μ) : OpD X w (compareOp .NotIn) (.dat d) r μ R := fun B H v u I q1 q2 Q k pins s σ v' u' J rv ru => by
  obtain ⟨a, as, rfl, ha, hx⟩ := ls_get I q2 h1
  have e := DqA.strs hx
  subst e
  obtain rfl : u' = Value.ref a := ru
  have hu := hr.un
  have fin : EP X pins σ Q (.bool true) s := ⟨.bl true, H, J, rfl, k (.bl true) (.dat (.bl true)) B H μ I (Ex.refl B) (Dq.bl _) h⟩
  obtain ⟨_, its, n, rvs, ho⟩ := (show ObjOk X.prog X.w H s.heap a (.lst _) from J.hok a _ ha)
  have allS : ∀ u ∈ its, ∃ (y : Str) (t : Tok), u = .str y t := by
    have gen : ∀ (zs : List Str) (its : List Value), Vals (zs.map V.str) its → ∀ u ∈ its, ∃ (y : Str) (t : Tok), u = .str y t := fun zs => by
      induction zs with
      | nil => intro its rv u hu; cases rv; cases hu
      | cons z zs ih =>
        intro its rv u hu
        cases rv with
        | cons r1 r2 =>
          rcases List.mem_cons.mp hu with e | e
          · obtain ⟨t, et⟩ := r1
            exact ⟨z, t, by rw [e, et]⟩
          · exact ih _ r2 u e
    exact gen zs its rvs
  have l1 : s.heap.IsList a its.toArray := ⟨_, ho, rfl, n, rfl⟩
  rcases hd with hd | ⟨ks, vs, rfl⟩
  · obtain ⟨asd, rd, _⟩ := Dq.reads J d _ _ (q1.mono I.bh) hp rv
    obtain ⟨bsd, rl, _⟩ := Dq.readsA J (zs.map Dt.str) (zs.map V.str) its (dqa_strs _ zs) (plain_strs zs).1 rvs
    exact notIn_list_data (.list ho rfl rfl rl) rd (plain_strs zs).2.1 (plain_py d hd hp) (by rw [(plain_strs zs).2.2, Nat.zero_min]; omega) (by rw [eqv_odd d hn]; exact fin)
  · cases q1 with
    | @dic b kvs ds hb hv =>
      obtain rfl : v' = Value.ref b := rv
      obtain ⟨_, _, vs, _, o, es, ep, ho2, hx2, hd2, _⟩ := (show ObjOk X.prog X.w H s.heap b (.dK kvs) from J.hok b _ (I.bh _ _ hb))
      refine notIn_listAt (fun _ => false) l1 (fun u hu => ?_) (by rw [show its.toArray.any (fun _ => false) = false by simp]; exact fin)
      obtain ⟨y, t, rfl⟩ := allS u (by simpa using hu)
      exact eqAt_str_dict ho2 hx2.1 (fun v e => by rw [hd2] at e; cases e) (by show X.A.units + 1 < _; omega)
/-- xs != [] -/
theorem op_neNil {r : SV} {k : Nat} (hr : Room k X.A) (h1 : LsQ r μ xs) (h : R (.dat (.bl (!xs.isEmpty))) μ) : OpD X w (compareOp .NotEq) r (.dat (.lst [])) μ R := fun B H v u I q1 q2 Q k pins s σ v' u' J rv ru => by
  obtain ⟨a, as, rfl, ha, hx⟩ := ls_get I q1 h1
  obtain rfl : v' = Value.ref a := rv
  cases q2 with
  | @lst b bs _ hb hy =>
    cases hy
    obtain rfl : u' = Value.ref b := ru
    have hu := hr.un
    obtain ⟨_, its, n, rvs, ho⟩ := (show ObjOk X.prog X.w H s.heap a (.lst _) from J.hok a _ ha)
    obtain ⟨_, its2, n2, rvs2, ho2⟩ := (show ObjOk X.prog X.w H s.heap b (.lst _) from J.hok b _ (I.bh _ _ hb))
    cases rvs2
    have l1 : s.heap.IsList a its.toArray := ⟨_, ho, rfl, n, rfl⟩
    have l2 : s.heap.IsList b (([] : List Value)).toArray := ⟨_, ho2, rfl, n2, rfl⟩
    have fin : EP X pins σ Q (.bool (!xs.isEmpty)) s := ⟨.bl _, H, J, rfl, k (.bl _) (.dat (.bl _)) B H μ I (Ex.refl B) (Dq.bl _) h⟩
    show wpAny _ _ (richCompare .NotEq (.ref a) (.ref b)) _ _ s
    have hlen : its.length = xs.length := by rw [← rvs.length, hx.length]
    cases xs with
    | nil =>
      have : its = [] := List.length_eq_zero_iff.mp hlen
      subst this
      exact RcNeAt.lists (e := fun _ => true) l1 l2 rfl (by omega) (fun j h1 _ => absurd h1 (Nat.not_lt_zero j)) _ _ _ _ fin
    | cons x xs =>
      exact RcNeAt.lists_lengths l1 l2 (by rw [bne_iff_ne]; intro z; rw [List.size_toArray, hlen] at z; cases z) (by omega) _ _ _ _ fin
/-- xs[i] = v -/
theorem dg_setL {o i : Expr} {pos : Pos} {d : Dt} {T : List SV → Mus → Prop} (h : DE X w o ρ μ fun r μ1 => ∃ q, r = .at q ∧ DE X w i ρ μ1 fun r2 μ2 => ∃ xs k, r2 = .dat (.int k) ∧ μ2 q = some (.lst xs) ∧ 0 ≤ k ∧ k.toNat < xs.length ∧ T ρ (μ2.put q (.lst (xs.set k.toNat d))))
    (ha : ∀ v, assign (.Subscript o i pos) X.env v = (do let ov ← holding [v] (eval o X.env); let iv ← holding [v, ov] (eval i X.env); standAt pos; holding [v, ov, iv] (setItem ov iv v); release [v, ov, iv] []) := by intro _; rfl) : DG X w (.Subscript o i pos) (.dat d) ρ μ T := fun σ B H v S I q Q k => by
  refine tG_of (pg_sub pe_self pe_self set_list ha) (h σ B H S I _ fun v1 r1 B1 H1 μ1 I1 e1 q1 h1 => ?_)
  obtain ⟨p, rfl, h1⟩ := h1
  cases (show v1 = V.ref p from q1)
  refine h1 σ B1 H1 (S.mono e1) I1 _ fun v2 r2 B2 H2 μ2 I2 e2 q2 h2 => ?_
  obtain ⟨xs, n, rfl, hm, h0, hn, hT⟩ := h2
  cases q2
  obtain ⟨_, ⟨as, hH, hx⟩, _⟩ := I2.mus p _ hm
  have hl := hx.length
  have q3 : Dq B2 v d := (Dq.mono e1 q).mono e2
  refine ⟨p, as, n, n.toNat, rfl, rfl, hH, by unfold ixN; rw [if_pos h0, if_pos (by omega)], k σ B2 _ ρ (μ2.put p (.lst (xs.set n.toNat d))) (S.mono (e1.trans e2)) (I2.set hm _ ⟨as.set n.toNat v, upd_same, ?_⟩) (e1.trans e2) hT⟩
  rw [List.set_eq_take_append_cons_drop, List.set_eq_take_append_cons_drop, if_pos (by omega), if_pos hn]
  exact (hx.take _).append (.cons q3 (hx.drop _))
end
end Dat

set_option Elab.async false
set_option linter.all false
namespace Dat
open PySem PySem.Spec PyProof.Rows L2
section
variable {X : Cx} {w : Wd} {ρ : List SV} {μ : Mus} {elt tg iter : Expr} {ifs : List Expr} {scope : Scope} {pos px spos py : Pos} {x y : Str} {P : Po}
/-- name = [..], a list that changes later -/
theorem ds_setLcM (i j : Nat) (hc : X.calm = true) (hN : X.N.Nodup) (ok : BlkOk X.N X.env.scope scope [(x, j)]) (h : DI X w (.Name x px) iter ρ μ (LcAskM X w scope elt ifs ρ j fun r μ' => P.nx (ρ.set i r) μ')) (hi : X.N[j]? = some x := by rfl) (hy : X.N[i]? = some y := by rfl)
    (hyl : X.env.scope.names.lookup y = some .local := by rfl) (hsw : swapsWith (.ListComp elt [⟨.Name x px, iter, ifs, 0⟩] scope pos) (some (.Name y py)) spos.line X.env = pure true := by exact sw_true rfl rfl rfl (by decide +kernel))
    (hx : ∀ k, Loc (BX X scope k).env.scope x := by intro _; first | exact Or.inl rfl | exact Or.inr rfl) (hf : ∀ k, (BX X scope k).fn x = true ∨ (BX X scope k).env.scope.names.lookup x = some .local := by intro _; first | exact Or.inr rfl | exact Or.inl rfl)
    (hs : ∀ z, foldedSetIterable iter X.env z = pure z := by intro _; rfl) : DS X w (.Assign [.Name y py] (.ListComp elt [⟨.Name x px, iter, ifs, 0⟩] scope pos) spos) ρ μ P := fun σ B H S I D E =>
  tS_of (ps_setLc (own := [(x, j)]) (g := gName j) (tt := gQ X scope ifs) (te := gE X scope elt) hc hN hy hyl hsw pi_self ok (fun s H C cl fp => pg_name (X := BX X scope (s, H, C, cl, fp)) hN hi (hx (s, H, C, cl, fp)) (hf (s, H, C, cl, fp)))
    (fun s H C cl fp => ⟨fun pins s1 σ1 H1 Q1 I1 q => q (s, H, C, cl, fp) pins s1 I1⟩) (fun s H C cl fp => ⟨fun pins s1 σ1 H1 Q1 I1 q => q (s, H, C, cl, fp) pins s1 I1⟩) hs)
    (lc_dataM (Q := fun v H1 => D.nx (σ.set i (some v)) H1) h S I fun v r B1 H1 μ1 I1 e1 q1 h1 => E.nx _ B1 H1 _ μ1 ((S.mono e1).set i q1) I1 e1 h1)
end
theorem ats_vs {B : Hp} : ∀ {vs : List V} {cs : List Addr}, SvA B vs (cs.map SV.at) → vs = cs.map V.ref
  | _, [], .nil => rfl
  | _, _ :: _, .cons q h => by rw [ats_vs h, List.map_cons]; exact congrArg (· :: _) q
section
variable {X : Cx} {w : Wd} {ρ : List SV} {μ : Mus} {R : SV → Mus → Prop} {es : List Expr} {pos : Pos}
/-- a tuple of own classes, to be asked of -/
theorem de_tvs {x1 : _} (h : DA X w es ρ μ fun rs μ1 => ∃ cs : List Addr, rs = cs.map SV.at ∧ cs.length ≤ 1000 ∧ R (.tvs (cs.map V.ref)) μ1) : DE X w (.Tuple es x1 pos) ρ μ R := fun σ B H S I Q k =>
  tE_of (pe_tup pa_self) (h σ B H S I _ fun vs rs B1 H1 μ1 I1 e1 q1 h1 => by
    obtain ⟨cs, rfl, hl, h1⟩ := h1
    have e := ats_vs q1
    subst e
    exact ⟨small_ok (by rw [List.length_map]; exact hl), fun p hp => k (.ref p) (.tvs (cs.map V.ref)) _ _ μ1 (I1.new hp _) (e1.trans (Ex.new (I1.free hp).1)) ⟨p, rfl, upd_same⟩ h1⟩)
end
end Dat
namespace Dat
open PySem PySem.Spec PyProof.Rows L2
section
variable {X : Cx} {w : Wd} {μ : Mus} {R : SV → Mus → Prop} {ds es : List Dt} {r r' : SV} {k : Nat}
theorem op_eqLs (hr : Room k X.A) (h1 : LsQ r μ ds) (h2 : LsQ r' μ es) (hd : noDic (.lst ds) = true) (he : noDic (.lst es) = true) (s1 : SeqAt.shaped (toPy (.lst ds)) = true) (s2 : SeqAt.shaped (toPy (.lst es)) = true) (h : R (.dat (.bl (PyData.eqv (toPy (.lst ds)) (toPy (.lst es))))) μ) : OpD X w (compareOp .Eq) r r' μ R := fun B H v u I q1 q2 Q k => by
  obtain ⟨a, as, rfl, ha, hx⟩ := ls_get I q1 h1
  obtain ⟨b, bs, rfl, hb, hy⟩ := ls_get I q2 h2
  exact sO_of (op_eqD hr.units) ⟨_, _, Dq.toDp (Ex.refl H) (Dq.lst ha (hx.mono I.bh)) hd, Dq.toDp (Ex.refl H) (Dq.lst hb (hy.mono I.bh)) he, s1, s2, k (.bl _) (.dat (.bl _)) B H μ I (Ex.refl B) (Dq.bl _) h⟩
theorem op_neLs (hr : Room k X.A) (h1 : LsQ r μ ds) (h2 : LsQ r' μ es) (hd : noDic (.lst ds) = true) (he : noDic (.lst es) = true) (s1 : SeqAt.shaped (toPy (.lst ds)) = true) (s2 : SeqAt.shaped (toPy (.lst es)) = true) (h : R (.dat (.bl (!PyData.eqv (toPy (.lst ds)) (toPy (.lst es))))) μ) : OpD X w (compareOp .NotEq) r r' μ R := fun B H v u I q1 q2 Q k => by
  obtain ⟨a, as, rfl, ha, hx⟩ := ls_get I q1 h1
  obtain ⟨b, bs, rfl, hb, hy⟩ := ls_get I q2 h2
  exact sO_of (op_neD hr.units) ⟨_, _, Dq.toDp (Ex.refl H) (Dq.lst ha (hx.mono I.bh)) hd, Dq.toDp (Ex.refl H) (Dq.lst hb (hy.mono I.bh)) he, s1, s2, k (.bl _) (.dat (.bl _)) B H μ I (Ex.refl B) (Dq.bl _) h⟩
end
end Dat
namespace Dat
open PySem PySem.Spec PyProof.Rows L2
section
variable {X : Cx} {w : Wd} {ρ : List SV} {μ : Mus} {elt c : Expr} {scope : Scope} {j : Nat} {R : SV → Mus → Prop} {items : List Dt}
theorem lc_filterM (f : Dt → Dt) (p : Dt → Bool) (hl : items.length ≤ 100000) (hc : ∀ d, d ∈ items → ∀ w' k, DT (BX X scope k) w' c (ρ.set j (.dat d)) μ fun b μ' => b = p d ∧ μ' = μ)
    (h : ∀ d, d ∈ items → p d = true → ∀ w' k, DE (BX X scope k) w' elt (ρ.set j (.dat d)) μ fun r μ' => r = .dat (f d) ∧ μ' = μ) (hR : ∀ q, μ q = none → w.H q = none → R (.at q) (μ.put q (.lst ((items.filter p).map f)))) : LcAskM X w scope elt [c] ρ j R items μ := by
  refine ⟨hl, fun n acc μ' => μ' = μ ∧ acc = ((items.take n).filter p).map f, ⟨rfl, by simp⟩, ?_, ?_⟩
  · rintro n acc d μ2 hd _ ⟨rfl, rfl⟩ w' k
    have hm := List.mem_of_getElem? hd
    have tk : items.take (n + 1) = items.take n ++ [d] := by rw [List.take_add_one, hd]; rfl
    refine dq_one ((hc d hm w' k).imp fun b μ3 ⟨hb, e⟩ => ?_)
    subst e
    refine ⟨fun ht kc => (h d hm (by rw [← hb]; exact ht) w' kc).imp fun r μ' ⟨h1, h2⟩ => ⟨f d, h1, h2, ?_⟩, fun hf => ⟨rfl, ?_⟩⟩
    · rw [tk, List.filter_append, List.map_append]
      simp [← hb, ht]
    · rw [tk, List.filter_append]
      simp [← hb, hf]
  · rintro acc μ' ⟨rfl, rfl⟩ _ q h1 h2
    rw [List.take_length]
    exact hR q h1 h2
end
end Dat
namespace Dat
open PySem PySem.Spec PyProof.Rows L2 SeqAt
section
variable {X : Cx} {w : Wd} {μ : Mus} {R : SV → Mus → Prop} {ds : List Dt} {r r' : SV} {k : Nat}
def flatD : Dt → Bool
  | .non => true | .bl _ => true | .int _ => true | .str _ => true | _ => false
theorem eqAt_flat {A : Around} {s : Shared} {B B' : Hp} {d : Dt} {v v' : V} {u u' : Value} (hf : flatD d = true) (q : Dq B v d) (q' : Dq B' v' d) (r : RelV v u) (r' : RelV v' u') : EqAt A s u u' true := by
  cases d with
  | non => cases q; cases q'; cases r; cases r'; exact .same _
  | bl b => cases q; cases q'; cases r; cases r'; exact .same _
  | int i =>
    cases q; cases q'
    obtain ⟨t, rfl⟩ := r
    obtain ⟨t', rfl⟩ := r'
    have := EqAt.int_int (A := A) (s := s) i t i t'
    rwa [beq_self_eq_true] at this
  | str x =>
    cases q; cases q'
    obtain ⟨t, rfl⟩ := r
    obtain ⟨t', rfl⟩ := r'
    have := EqAt.str_str (A := A) (s := s) x t x t'
    rwa [beq_self_eq_true] at this
  | _ => cases hf
theorem eqAts_flat {A : Around} {s : Shared} {B B' : Hp} : ∀ {ds : List Dt} {xs xs' : List V} {us us' : List Value}, (∀ d ∈ ds, flatD d = true) → DqA B xs ds → DqA B' xs' ds → Vals xs us → Vals xs' us' → us.length = us'.length ∧ ∀ j (h1 : j < us.toArray.size) (h2 : j < us'.toArray.size), EqAt A s us.toArray[j] us'.toArray[j] true
  | [], _, _, _, _, _, .nil, .nil, .nil, .nil => ⟨rfl, fun j h1 _ => absurd h1 (Nat.not_lt_zero j)⟩
  | d :: ds, _, _, _, _, hf, .cons q qs, .cons q' qs', .cons r rs, .cons r' rs' => by
    obtain ⟨hl, h⟩ := eqAts_flat (A := A) (s := s) (fun e he => hf e (List.mem_cons_of_mem _ he)) qs qs' rs rs'
    refine ⟨by rw [List.length_cons, List.length_cons, hl], fun j h1 h2 => ?_⟩
    cases j with
    | zero => exact eqAt_flat (hf d List.mem_cons_self) q q' r r'
    | succ j => exact h j (by simpa using h1) (by simpa using h2)
/-- xs == ys, both the same, of flat things -/
theorem op_eqFlat (hr : Room k X.A) (h1 : LsQ r μ ds) (h2 : LsQ r' μ ds) (hf : ∀ d ∈ ds, flatD d = true) (h : R (.dat (.bl true)) μ) : OpD X w (compareOp .Eq) r r' μ R := fun B H v u I q1 q2 Q k pins s σ v' u' J rv ru => by
  obtain ⟨a, as, rfl, ha, hx⟩ := ls_get I q1 h1
  obtain ⟨b, bs, rfl, hb, hy⟩ := ls_get I q2 h2
  obtain rfl : v' = Value.ref a := rv
  obtain rfl : u' = Value.ref b := ru
  have hu := hr.un
  obtain ⟨_, its, n, rvs, ho⟩ := (show ObjOk X.prog X.w H s.heap a (.lst _) from J.hok a _ ha)
  obtain ⟨_, its2, n2, rvs2, ho2⟩ := (show ObjOk X.prog X.w H s.heap b (.lst _) from J.hok b _ hb)
  have l1 : s.heap.IsList a its.toArray := ⟨_, ho, rfl, n, rfl⟩
  have l2 : s.heap.IsList b its2.toArray := ⟨_, ho2, rfl, n2, rfl⟩
  have fin : EP X pins σ Q (.bool true) s := ⟨.bl _, H, J, rfl, k (.bl _) (.dat (.bl _)) B H μ I (Ex.refl B) (Dq.bl _) h⟩
  obtain ⟨hl, he⟩ := eqAts_flat (A := X.A.in1) (s := s) hf hx hy rvs rvs2
  show wpAny _ _ (richCompare .Eq (.ref a) (.ref b)) _ _ s
  have all : ((List.range its.toArray.size).all fun _ => true) = true := by simp
  refine RcAt.lists (e := fun _ => true) l1 l2 (by simpa using hl) (by omega) he _ _ _ _ ?_
  rw [all]
  exact fin
end
end Dat

set_option Elab.async false
set_option linter.all false
set_option maxRecDepth 100000
set_option maxHeartbeats 4000000
namespace Dat
open PySem PySem.Spec PyProof.Rows L2 Mx
section
variable {X : Cx}
/-! repr where a fault is being handled -/
theorem ca_reprU0 {w : Wd} {μ : Mus} {R : SV → Mus → Prop} {d : Dt} (hu : X.A.units + 200 < cLine) (hg : X.A.guards = some []) (hd : Shown d) (h : R (.dat (.str (toPy d).shown)) μ) : CaD X w (.builtin "repr") [.dat d] μ R := fun B H vs I q Q kk pins s σ us J rv => by
  cases q with
  | cons q1 q2 =>
    cases q2
    obtain ⟨u, rfl, r1⟩ := vals1 rv
    have fin : ∀ {s' : Shared} {t : Tok}, Inv X pins σ H s' → EP X pins σ Q (.str (toPy d).shown t) s' := fun {s' t} J' => ⟨.str _, H, J', ⟨t, rfl⟩, kk (.str _) (.dat (.str _)) B H μ I (Ex.refl B) (Dq.str _) h⟩
    have obj : ∀ a, u = .ref a → wpAny (model X.prog X.w) X.A (call (.builtin "repr") [u]) (EP X pins σ Q) X.xe s := fun a e => by
      obtain ⟨as, rd, hm⟩ := Dq.reads J d _ u (q1.mono I.bh) hd.plain r1
      subst e
      have hdp := hd.deep
      exact repr_of_reads' rd hd.shows (fun z => hm (hd.one z)) hg (by omega) (fun _ _ e => e) (fun h' t tk keep => fin (J.kept (t' := tk) keep)) hd.len
    clear h kk
    cases d with
    | non =>
      cases q1; cases r1
      simp only [toPy, PyData.shown] at fin
      exact P.repr_of_none (fin (J.tok _))
    | bl b =>
      cases q1; cases r1
      simp only [toPy, PyData.shown] at fin
      refine P.repr_of_bool ?_
      cases b
      · exact fin (J.tok _)
      · exact fin (J.tok _)
    | int i =>
      cases q1; obtain ⟨t, rfl⟩ := r1
      have hs := hd.shows
      simp only [toPy, PyData.shown, PyData.showable, decide_eq_true_eq] at fin hs
      exact P.repr_of_int hs (fin (J.tok _))
    | str x =>
      cases q1; obtain ⟨t, rfl⟩ := r1
      have hl := hd.len
      simp only [toPy, PyData.shown] at fin hl
      exact P.repr_of_str (fin (J.tok _)) hl
    | lst _ => cases q1; exact obj _ r1
    | tup _ => cases q1; exact obj _ r1
    | dic _ _ => cases q1; exact obj _ r1
    | mix _ _ _ => cases q1; exact obj _ r1
    | obj _ _ _ => cases q1; exact obj _ r1
    | err _ _ _ => cases q1 <;> exact obj _ r1
end
section
variable {X : Cx} {w : Wd} {ρ : List SV} {μ : Mus} {R : SV → Mus → Prop}
theorem ca_reprU {d : Dt} (hu : X.A.units + 200 < cLine) (hg : X.A.guards = some []) (hd : ShownL d) (h : R (.dat (.str (toPy d).shown)) μ) : CaD X w (.builtin "repr") [.dat d] μ R := fun B H vs I q Q kk pins s σ us J rv => by
  by_cases md : ∃ o, s.heap.get? sysModules = some o ∧ o.cls = .type "dict"
  · -- sys.modules is a dict: no list stands there
    obtain ⟨v, rfl, q1⟩ := q.one
    obtain ⟨u, rfl, r1⟩ := vals1 rv
    have fin : ∀ {s' : Shared} {t : Tok}, Inv X pins σ H s' → EP X pins σ Q (.str (toPy d).shown t) s' := fun {s' t} J' => ⟨.str _, H, J', ⟨t, rfl⟩, kk (.str _) (.dat (.str _)) B H μ I (Ex.refl B) (Dq.str _) h⟩
    obtain ⟨as, rd, hm⟩ := Dq.reads3 J md d _ u (q1.mono I.bh) hd.plain r1
    have hdp := hd.deep
    by_cases hv : ∃ a, u = .ref a
    · obtain ⟨a, rfl⟩ := hv
      exact repr_of_reads' rd hd.shows (fun _ => hm) hg (by omega) (fun _ _ e => e) (fun h' t tk keep => fin (J.kept (t' := tk) keep)) hd.len
    · exact ca_reprU0 hu hg ⟨hd.plain, fun z => by cases d <;> first | (exfalso; have zz := hd.plain; simp [plain] at zz; done) | (exfalso; cases q1; exact hv ⟨_, r1⟩) | (exfalso; simp [toPy, PyData.hasDict] at z; done), hd.shows, hd.len, hd.deep⟩ h B H _ I q Q kk pins s σ _ J rv
  · obtain ⟨v, rfl, q1⟩ := q.one
    obtain ⟨u, rfl, r1⟩ := vals1 rv
    have fin : ∀ {s' : Shared} {t : Tok}, Inv X pins σ H s' → EP X pins σ Q (.str (toPy d).shown t) s' := fun {s' t} J' => ⟨.str _, H, J', ⟨t, rfl⟩, kk (.str _) (.dat (.str _)) B H μ I (Ex.refl B) (Dq.str _) h⟩
    by_cases hv : ∃ a, u = .ref a
    · obtain ⟨a, rfl⟩ := hv
      obtain ⟨as, rd, _⟩ := Dq.reads J d _ _ (q1.mono I.bh) hd.plain r1
      have hdp := hd.deep
      exact repr_any (fun o e c => md ⟨o, e, c⟩) rd hd.shows hg (by omega) (fun h' t tk keep => fin (J.kept (t' := tk) keep)) hd.len
    · exact ca_reprU0 hu hg ⟨hd.plain, fun z => by cases d <;> first | (exfalso; have zz := hd.plain; simp [plain] at zz; done) | (exfalso; cases q1; exact hv ⟨_, r1⟩) | (exfalso; simp [toPy, PyData.hasDict] at z; done), hd.shows, hd.len, hd.deep⟩ h B H _ I q Q kk pins s σ _ J rv
end
end Dat

set_option Elab.async false
set_option linter.all false
set_option maxRecDepth 100000
set_option maxHeartbeats 4000000
/-! Mx20: an own table, lent as data for the time of one expression. -/
namespace Dat
open PySem PySem.Spec PyProof.Rows L2 Mx
mutual
def noMx : Dt → Bool
  | .lst xs => noMxA xs | .tup xs => noMxA xs | .dic _ vs => noMxA vs | .obj _ _ vs => noMxA vs | .mix _ _ _ => false | .err _ _ _ => false | _ => true
def noMxA : List Dt → Bool
  | [] => true
  | d :: ds => noMx d && noMxA ds
end
def Hp.off (B : Hp) (q : Addr) : Hp := fun a => if a = q then none else B a
theorem off_same {B : Hp} {q : Addr} : Hp.off B q q = none := if_pos rfl
theorem off_ne {B : Hp} {q a : Addr} (h : a ≠ q) : Hp.off B q a = B a := if_neg h
theorem off_at {B : Hp} {q a : Addr} {p : Heap → Prop} {o : HO} (hq : B q = some (.ext p)) (h : B a = some o) (hn : ∀ p, o ≠ .ext p) : Hp.off B q a = some o := by
  rw [off_ne (fun e => by rw [e, hq] at h; cases h; exact hn _ rfl)]; exact h
mutual
theorem Dq.off {B : Hp} {q : Addr} {p : Heap → Prop} (hq : B q = some (.ext p)) : ∀ {v : V} {d : Dt}, Dq B v d → noMx d = true → Dq (Hp.off B q) v d
  | _, _, .non, _ => .non
  | _, _, .bl b, _ => .bl b
  | _, _, .int i, _ => .int i
  | _, _, .str x, _ => .str x
  | _, _, .lst h k, hn => .lst (off_at hq h nofun) (DqA.off hq k (by rw [noMx] at hn; exact hn))
  | _, _, .tup h k, hn => .tup (off_at hq h nofun) (DqA.off hq k (by rw [noMx] at hn; exact hn))
  | _, _, .dic h k, hn => .dic (off_at hq h nofun) (DqA.off hq k (by rw [noMx] at hn; exact hn))
  | _, _, .obj h k, hn => .obj (off_at hq h nofun) (DqA.off hq k (by rw [noMx] at hn; exact hn))
  | _, _, .err _ _ _, hn => by rw [noMx] at hn; cases hn
  | _, _, .mix _ _ _, hn => by rw [noMx] at hn; cases hn
  | _, _, .err0 _, hn => by rw [noMx] at hn; cases hn
theorem DqA.off {B : Hp} {q : Addr} {p : Heap → Prop} (hq : B q = some (.ext p)) : ∀ {vs : List V} {ds : List Dt}, DqA B vs ds → noMxA ds = true → DqA (Hp.off B q) vs ds
  | _, _, .nil, _ => .nil
  | _, _, .cons h k, hn => by
    rw [noMxA, Bool.and_eq_true] at hn
    exact .cons (Dq.off hq h hn.1) (DqA.off hq k hn.2)
end
section
variable {X : Cx} {w : Wd} {ρ : List SV} {μ : Mus} {R : SV → Mus → Prop}
theorem de_borrow {e : Expr} (i : Nat) {q : Addr} {hs : List Int} {ks vs : List Dt} (hq : ρ[i]? = some (.at q)) (hm : μ q = some (.mix hs ks vs)) (hp : ∀ a o, a ≠ q → μ a = some o → o = .pot)
    (h : ∀ w1, DE X w1 e (ρ.set i (.dat (.mix hs ks vs))) (μ.del q) fun r ν => ν = μ.del q ∧ ∃ d, r = .dat d ∧ noMx d = true ∧ R (.dat d) μ) : DE X w e ρ μ R := fun σ B H S I Q k => by
  obtain ⟨hb, ⟨o, l, h1, rfl, h2, h3⟩, _⟩ := I.mus q _ hm
  have eb : Ex B (upd B q (mxo q o l)) := Ex.new hb
  have bh : Ex (upd B q (mxo q o l)) H := fun a u ha => by
    by_cases e : a = q
    · subst e; rw [upd_same] at ha; cases ha; exact h1
    · rw [upd_ne e] at ha; exact I.bh a u ha
  have J0 : SInv ⟨upd B q (mxo q o l), H, fun p => (μ.del q) p ≠ none⟩ (upd B q (mxo q o l)) H (μ.del q) := SInv.start bh fun p u hu => by
    have e : p ≠ q := fun z => by rw [z, del_same] at hu; cases hu
    rw [del_ne e] at hu
    obtain ⟨g1, g2, _⟩ := I.mus p u hu
    exact ⟨by rw [upd_ne e]; exact g1, g2.mono eb rfl⟩
  have dq : Dq (upd B q (mxo q o l)) (.ref q) (.mix (l.map (·.1)) ks vs) := .mix upd_same (h2.mono eb) (h3.mono eb)
  have S1 : Sto (upd B q (mxo q o l)) σ (ρ.set i (.dat (.mix (l.map (·.1)) ks vs))) := by
    have s := (S.mono eb).set i (show Svq _ (.ref q) (.dat (.mix (l.map (·.1)) ks vs)) from dq)
    have e : σ.set i (some (.ref q)) = σ := by
      rcases S.get i _ hq with z | ⟨v, z1, z2⟩
      · cases z
      · cases (show v = V.ref q from z2)
        obtain ⟨hi, hz⟩ := List.getElem?_eq_some_iff.mp z1
        rw [← hz]
        exact List.set_getElem_self hi
    rwa [e] at s
  refine h _ σ _ H S1 J0 Q fun v r B' H' ν J e q1 ⟨hν, d, er, hd, hR⟩ => ?_
  subst hν er
  have hq' : B' q = some (mxo q o l) := e _ _ upd_same
  have e2 : Ex B (Hp.off B' q) := fun a u ha => by
    have ne : a ≠ q := fun z => by rw [z, hb] at ha; cases ha
    rw [off_ne ne]
    exact e a u (by rw [upd_ne ne]; exact ha)
  refine k v (.dat d) (Hp.off B' q) H' μ ⟨I.b0.trans e2, fun a u ha => ?_, fun a u hM ha => ?_, fun a ha => J.there a (I.there a ha), fun a ha hB => ?_, fun a u hu => ?_⟩ e2 (Dq.off hq' q1 hd) hR
  · have ne : a ≠ q := fun z => by rw [z, off_same] at ha; cases ha
    rw [off_ne ne] at ha
    exact J.bh a u ha
  · have hH := I.keep a u hM ha
    refine J.keep a u (fun z => ?_) hH
    have ne : a ≠ q := fun y => z (by rw [y, del_same])
    cases g : μ a with
    | none => exact z (by rw [del_ne ne]; exact g)
    | some m =>
      rcases (I.mus a m g).2.2 with y | y
      · exact hM y
      · rw [ha] at y; cases y
  · by_cases ne : a = q
    · rw [ne]; exact off_same
    · rw [off_ne ne]
      exact J.out a (I.there a ha) (by show upd B q _ a = none; rw [upd_ne ne]; exact I.out a ha hB)
  · by_cases ne : a = q
    · subst ne
      rw [hm] at hu
      cases hu
      exact ⟨off_same, ⟨o, l, J.bh _ _ hq', rfl, h2.mono e2, h3.mono e2⟩, (I.mus a _ hm).2.2⟩
    · have hu2 : (μ.del q) a = some u := by rw [del_ne ne]; exact hu
      obtain ⟨g1, g2, _⟩ := J.mus a u hu2
      have eu := hp a u ne hu
      subst eu
      exact ⟨by rw [off_ne ne]; exact g1, g2, (I.mus a _ hu).2.2⟩
end
end Dat

set_option Elab.async false
set_option linter.all false
set_option maxRecDepth 100000
set_option maxHeartbeats 4000000
namespace K12
open PySem PySem.Spec PyProof.Rows L2 Dat
def top (i : Nat) : Stmt := PySem.Challenge.pw_onefacers_k12_kinds_told_or_refused.main.body.getD i (.Pass ⟨0, 0, 0, 0⟩)
def ok1 (p : Dt → Prop) : List Dt → Prop := fun ds => ∃ d, ds = [d] ∧ p d
def re1 (f : Dt → Dt) : List Dt → Dt → Prop := fun ds r => ∃ d, ds = [d] ∧ r = f d
def Fi (d : Dt) : Prop := ∃ n, fine 64 30 n d
theorem Fi.notObj {d : Dt} (h : Fi d) : isObj' d = false := by
  obtain ⟨n, h⟩ := h
  cases d with
  | obj _ _ _ => cases n <;> exact h.elim
  | mix _ _ _ => cases n <;> exact h.elim
  | err _ _ _ => cases n <;> exact h.elim
  | _ => rfl
theorem Fi.str {x : Str} (h : Fi (.str x)) : x.length ≤ 64 ∧ ∀ c ∈ x.cps.toList, c < 256 := by
  obtain ⟨n, h⟩ := h
  cases n <;> exact h
theorem Fi.tup {xs : List Dt} (h : Fi (.tup xs)) : xs.length ≤ 30 ∧ ∀ d, d ∈ xs → Fi d := by
  obtain ⟨n, h⟩ := h
  cases n with
  | zero => exact h.elim
  | succ n => exact ⟨h.1, fun d hd => ⟨n, h.2 d hd⟩⟩
section
variable {X : Cx} {w : Wd} {ρ : List SV} {μ : Mus} {R : SV → Mus → Prop} {e e2 e3 : Expr} {es : List Expr} {x : Str} {p pos : Pos} {j k : Nat}
theorem de_p1 {q : Dt → Prop} {f : Dt → Dt} (O : Own X.prog X.w X.K X.mg X.base x k (PSp (ok1 q) (re1 f))) (hr : Room j X.A) (hkj : k ≤ j) (hgd : X.A.guards = some [])
    (ha : DE X w e ρ μ fun r μ1 => ∃ d, r = .dat d ∧ q d ∧ R (.dat (f d)) μ1) (hg : Gl X x := by rfl) (hdb : (x == ("__debug__" : Str)) = false := by decide)
    (he : starEach [e] X.env = (false, eval e X.env) :: starEach [] X.env := by rfl) (hpl : (backTo pos (starEach [] X.env)).any (·.1) = false := by rfl) : DE X w (.Call (.Name x p) [e] [] pos) ρ μ R :=
  de_pure O hr hkj hgd (da_cons (hs := he) (ha.imp fun r μ1 ⟨d, e1, h1, h2⟩ => da_nil (by subst e1; exact ⟨_, rfl, ⟨_, rfl, h1⟩, fun d' ⟨_, e3, e4⟩ => by cases e3; subst e4; exact h2⟩))) hg hdb he hpl
end
section
variable (P : Program) (w : World) (K : PySem.W.Frag) (mg : Str → Option Value) (base : Heap)
structure Txt : Prop where
  isi : mg "isinstance" = none
  int : mg "int" = none
  bool : mg "bool" = none
  str : mg "str" = none
  tup : mg "tuple" = none
  list : mg "list" = none
  len : mg "len" = none
  all : mg "all" = none
  max : mg "max" = none
  min : mg "min" = none
  repr : mg "repr" = none
  range : mg "range" = none
  divmod : mg "divmod" = none
  any : mg "any" = none
  sorted : mg "sorted" = none
  dict : mg "dict" = none
  ve : mg "ValueError" = none
  ke : mg "KeyError" = none
  letters : ∃ t, mg "MOST_LETTERS" = some (.int 8 t)
  hands : ∃ t, mg "MOST_HANDS" = some (.int 6 t)
  kinds : ∃ t, mg "MOST_KINDS" = some (.int 12 t)
end
/-! what the looks say -/
def wholeD (d : Dt) : Bool := isInt d && !isBl d
def low (c : Nat) : Bool := decide (97 ≤ c) && decide (c ≤ 122)
def nameD : Dt → Bool
  | .str x => decide (1 ≤ x.length) && decide (x.length ≤ 8) && x.cps.toList.all low
  | _ => false
def lotsGo : Int → List Dt → Bool
  | _, [] => true
  | f, .int n :: ds => decide (0 ≤ n) && decide (n ≤ f) && lotsGo (max f (n + 1)) ds
  | _, _ :: _ => false
def lotsD : Dt → Bool
  | .tup xs => decide (xs.length ≤ 6) && lotsGo 0 xs
  | _ => false
def inD (lo hi : Int) : Dt → Bool
  | .int n => decide (lo ≤ n) && decide (n ≤ hi)
  | _ => false
def whoD : Dt → Bool
  | .tup (d :: ds) => nameD d && ds.all (inD 0 11)
  | _ => false
def spWhole : Sp := PSp (ok1 Fi) (re1 fun d => .bl (wholeD d))
def spName : Sp := PSp (ok1 Fi) (re1 fun d => .bl (nameD d))
def spLots : Sp := PSp (ok1 Fi) (re1 fun d => .bl (lotsD d))
def spPlace : Sp := PSp (ok1 Fi) (re1 fun d => .bl (inD 0 11 d))
def spWho : Sp := PSp (ok1 Fi) (re1 fun d => .bl (whoD d))
def signD : Dt → Bool
  | .str z => z.cps.toList.all low
  | _ => false
theorem signs_all (x : Str) : ((Dat.signs x).map signD).all id = x.cps.toList.all low := by
  unfold Dat.signs
  rw [List.map_map, List.all_map]
  congr 1
  funext c
  simp [signD]
theorem atI_nat (ds : List Dt) (n : Nat) (d : Dt) (h : ds[n]? = some d) : atI ds (n : Int) = some d := by
  have hn : n < ds.length := (List.getElem?_eq_some_iff.mp h).1
  unfold atI ixN
  rw [if_pos (by omega), if_pos (by omega)]
  exact h
theorem atI_head (d : Dt) (ds : List Dt) : atI (d :: ds) 0 = some d := atI_nat _ 0 _ rfl
theorem atI_last (ds : List Dt) (n : Int) (d : Dt) (h0 : 0 ≤ n) (h : ds[n.toNat]? = some d) : atI ds n = some d := by
  have := atI_nat ds n.toNat d h
  rwa [Int.toNat_of_nonneg h0] at this
theorem cut_tail (d : Dt) (ds : List Dt) : Dat.cutD (d :: ds) (some 1) none = ds := by
  have e : min (Int.toNat 1) (ds.length + 1) = 1 := by
    show min 1 (ds.length + 1) = 1
    omega
  simp [Dat.cutD, HT.sIx, e]
theorem six_nat (N d n : Nat) (h : n ≤ N) : HT.sIx N d (some (n : Int)) = n := by
  show (if (n : Int) < 0 then ((n : Int) + N).toNat else min (n : Int).toNat N) = n
  rw [if_neg (by omega), Int.toNat_natCast, Nat.min_eq_left h]
theorem cut_to (ds : List Dt) (n : Nat) (h : n ≤ ds.length) : Dat.cutD ds none (some (n : Int)) = ds.take n := by
  unfold Dat.cutD
  rw [six_nat _ _ _ h]
  rfl
theorem cut_from (ds : List Dt) (n : Nat) (h : n ≤ ds.length) : Dat.cutD ds (some (n : Int)) none = ds.drop n := by
  unfold Dat.cutD
  rw [six_nat _ _ _ h]
  exact List.take_of_length_le (by rw [List.length_drop]; exact Nat.le_refl _)
end K12

set_option Elab.async false
set_option linter.all false
set_option maxRecDepth 100000
set_option maxHeartbeats 4000000
namespace K12
open PySem PySem.Spec PyProof.Rows L2 Dat
local macro_rules
  | `(tactic| walk_at "down") => `(tactic| fail "none")
local macro_rules
  | `(tactic| walk_at "dset") => `(tactic| fail "none")
local macro_rules
  | `(tactic| walk_at "dhook") => `(tactic| fail "none")
local macro_rules
  | `(tactic| walk_at "dca") => `(tactic| fail "none")
local macro_rules
  | `(tactic| walk_at "dlst") => `(tactic| refine de_lst ?_)
local macro_rules
  | `(tactic| walk_at "dtup") => `(tactic| refine de_tup ?_)
local macro_rules
  | `(tactic| walk_at "dstep") => `(tactic| first
    | ((with_reducible show DE _ _ _ _ _ _); first | ((with_reducible show DE _ _ (Expr.Name _ _) _ _ _); first | ((with_reducible show DE _ _ (Expr.Name "int" _) _ _ _); refine de_ty_int (by assumption) ?_) | ((with_reducible show DE _ _ (Expr.Name "str" _) _ _ _); refine de_ty_str (by assumption) ?_) | ((with_reducible show DE _ _ (Expr.Name "bool" _) _ _ _); refine de_ty_bool (by assumption) ?_) | ((with_reducible show DE _ _ (Expr.Name "tuple" _) _ _ _); refine de_ty_tuple (by assumption) ?_) | ((with_reducible show DE _ _ (Expr.Name "list" _) _ _ _); refine de_ty_list (by assumption) ?_) | ((with_reducible show DE _ _ (Expr.Name "dict" _) _ _ _); refine de_ty_dict (by assumption) ?_) | refine de_nm rfl ?_ | refine de_globI (by assumption) ?_) | ((with_reducible show DE _ _ (Expr.Constant _ _ _) _ _ _); first | refine de_int ?_ | refine de_str ?_ | refine de_bl ?_ | refine de_non ?_) | ((with_reducible show DE _ _ (Expr.Call (Expr.Name _ _) _ _ _) _ _ _); first | ((with_reducible show DE _ _ (Expr.Call (Expr.Name "isinstance" _) _ _ _) _ _ _); refine de_isinstance ?_ (by assumption)) | ((with_reducible show DE _ _ (Expr.Call (Expr.Name "len" _) _ _ _) _ _ _); refine de_len ?_ (by assumption)) | ((with_reducible show DE _ _ (Expr.Call (Expr.Name "max" _) _ _ _) _ _ _); refine de_max ?_ (by assumption)) | ((with_reducible show DE _ _ (Expr.Call (Expr.Name "min" _) _ _ _) _ _ _); refine de_min ?_ (by assumption)) | ((with_reducible show DE _ _ (Expr.Call (Expr.Name "all" _) _ _ _) _ _ _); refine de_all ?_ (by assumption)) | ((with_reducible show DE _ _ (Expr.Call (Expr.Name "repr" _) _ _ _) _ _ _); refine de_repr ?_ (by assumption)) | ((with_reducible show DE _ _ (Expr.Call (Expr.Name "divmod" _) _ _ _) _ _ _); refine de_divmod ?_ (by assumption)) | ((with_reducible show DE _ _ (Expr.Call (Expr.Name "list" _) _ _ _) _ _ _); refine de_clist ?_ (by assumption)) | ((with_reducible show DE _ _ (Expr.Call (Expr.Name "tuple" _) _ _ _) _ _ _); refine de_ctuple ?_ (by assumption)) | ((with_reducible show DE _ _ (Expr.Call (Expr.Name "int" _) _ _ _) _ _ _); refine de_cint ?_ (by assumption)) | ((with_reducible show DE _ _ (Expr.Call (Expr.Name "str" _) _ _ _) _ _ _); refine de_cstr ?_ (by assumption)) | walk_at "down") | ((with_reducible show DE _ _ (Expr.BinOp _ _ _ _) _ _ _); refine de_op ?_) | ((with_reducible show DE _ _ (Expr.Compare _ [_] _ _) _ _ _); refine de_cmp ?_) | ((with_reducible show DE _ _ (Expr.Compare _ [_, _] _ _) _ _ _); refine de_chain ?_) | ((with_reducible show DE _ _ (Expr.Subscript _ (Expr.Slice _ _ _ _) _) _ _ _); refine de_slice ?_) | ((with_reducible show DE _ _ (Expr.Subscript _ _ _) _ _ _); refine de_ix ?_) | ((with_reducible show DE _ _ (Expr.BoolOp _ [_] _) _ _ _); refine de_one ?_) | ((with_reducible show DE _ _ (Expr.BoolOp BoolOp.And _ _) _ _ _); refine de_and ?_) | ((with_reducible show DE _ _ (Expr.BoolOp BoolOp.Or _ _) _ _ _); refine de_or ?_) | ((with_reducible show DE _ _ (Expr.UnaryOp UnaryOp.Not _ _) _ _ _); refine de_not ?_) | ((with_reducible show DE _ _ (Expr.UnaryOp _ _ _) _ _ _); refine de_un ?_) | ((with_reducible show DE _ _ (Expr.IfExp _ _ _ _) _ _ _); refine de_ifx ?_) | ((with_reducible show DE _ _ (Expr.Tuple _ _ _) _ _ _); walk_at "dtup") | ((with_reducible show DE _ _ (Expr.List _ _) _ _ _); walk_at "dlst") | ((with_reducible show DE _ _ (Expr.Dict [] [] _) _ _ _); refine de_dict0 ?_) | walk_at "dhook")
    | ((with_reducible show DA _ _ _ _ _ _); first | ((with_reducible show DA _ _ [] _ _ _); refine da_nil ?_) | ((with_reducible show DA _ _ (_ :: _) _ _ _); refine da_cons ?_))
    | ((with_reducible show BoolR _ _); refine ⟨_, rfl, ?_⟩)
    | ((with_reducible show (_ = true → _) ∧ (_ = false → _)); (refine ⟨fun h => ?_, fun h => ?_⟩ <;> try (exact Bool.noConfusion h)))
    | ((with_reducible show OpD _ _ _ _ _ _ _); first | ((with_reducible show OpD _ _ (binaryOp Operator.Add) _ _ _ _); first | refine op_addI ?_ | refine op_addT ?_) | ((with_reducible show OpD _ _ (binaryOp Operator.Sub) _ _ _ _); refine op_subI ?_) | ((with_reducible show OpD _ _ (binaryOp Operator.Mod) _ _ _ _); refine op_modI (by first | decide | assumption) ?_) | ((with_reducible show OpD _ _ (binaryOp Operator.Mult) _ _ _ _); refine op_mulI (by first | exact .inr (by decide) | exact .inl (by decide) | (exact .inl (by omega))) ?_) | ((with_reducible show OpD _ _ (binaryOp Operator.Pow) _ _ _ _); refine op_powI (by decide) (by decide) (by decide) ?_) | ((with_reducible show OpD _ _ (binaryOp Operator.FloorDiv) _ _ _ _); refine op_fdivI (by decide) (by decide) ?_) | ((with_reducible show OpD _ _ (compareOp CmpOp.Lt) _ _ _ _); refine op_ltI ?_) | ((with_reducible show OpD _ _ (compareOp CmpOp.LtE) _ _ _ _); first | refine op_leI ?_ | refine op_leS ?_) | ((with_reducible show OpD _ _ (compareOp CmpOp.Gt) _ _ _ _); refine op_gtI ?_) | ((with_reducible show OpD _ _ (compareOp CmpOp.GtE) _ _ _ _); refine op_geI ?_) | ((with_reducible show OpD _ _ (compareOp CmpOp.Eq) _ _ _ _); first | refine op_eqI ?_ | refine op_eqS ?_) | ((with_reducible show OpD _ _ (compareOp CmpOp.NotEq) _ _ _ _); first | refine op_neI ?_ | refine op_neS ?_))
    | ((with_reducible show CaD _ _ _ _ _ _); first | ((with_reducible show CaD _ _ (Value.builtin "isinstance") [_, SV.ty "int"] _ _); refine ca_isi (by assumption) (kit_int _ (by assumption)) ?_) | ((with_reducible show CaD _ _ (Value.builtin "isinstance") [_, SV.ty "bool"] _ _); refine ca_isi (by assumption) (kit_bool _ (by assumption)) ?_) | ((with_reducible show CaD _ _ (Value.builtin "isinstance") [_, SV.ty "str"] _ _); refine ca_isi (by assumption) (kit_str _ (by assumption)) ?_) | ((with_reducible show CaD _ _ (Value.builtin "isinstance") [_, SV.ty "tuple"] _ _); refine ca_isi (by assumption) (kit_tuple _ (by assumption)) ?_) | ((with_reducible show CaD _ _ (Value.builtin "isinstance") [_, SV.ty "list"] _ _); refine ca_isi (by assumption) (kit_list _ (by assumption)) ?_) | ((with_reducible show CaD _ _ (Value.builtin "isinstance") [_, SV.ty "dict"] _ _); refine ca_isi (by assumption) (kit_dict _ (by assumption)) ?_) | ((with_reducible show CaD _ _ (Value.builtin "max") _ _ _); refine ca_max2 rfl ?_) | ((with_reducible show CaD _ _ (Value.builtin "min") _ _ _); refine ca_min2 rfl ?_) | ((with_reducible show CaD _ _ (Value.builtin "len") _ _ _); first | refine ca_lenT ?_ | refine ca_lenS (by assumption) ?_ | refine ca_lenSc ?_ | refine ca_lenL (.inl rfl) ?_) | ((with_reducible show CaD _ _ (Value.type "list") _ _ _); refine ca_listT ?_) | ((with_reducible show CaD _ _ (Value.builtin "divmod") _ _ _); refine ca_divmod (by assumption) (by omega) ?_) | walk_at "dca")
    | ((with_reducible show DT _ _ _ _ _ _); first | ((with_reducible show DT _ _ (Expr.BoolOp _ _ _) _ _ _); refine dt_w ?_) | ((with_reducible show DT _ _ (Expr.UnaryOp UnaryOp.Not _ _) _ _ _); refine dt_not ?_) | ((with_reducible show DT _ _ (Expr.Compare _ [_] _ _) _ _ _); refine dt_cmp ?_) | ((with_reducible show DT _ _ (Expr.Compare _ [_, _] _ _) _ _ _); refine dt_chain ?_) | refine dt_val ?_)
    | ((with_reducible show DW _ _ _ _ _ _); first | ((with_reducible show DW _ _ (Expr.BoolOp BoolOp.And [_] _) _ _ _); refine dw_and1 ?_) | ((with_reducible show DW _ _ (Expr.BoolOp BoolOp.Or [_] _) _ _ _); refine dw_or1 ?_) | ((with_reducible show DW _ _ (Expr.BoolOp BoolOp.And _ _) _ _ _); refine dw_and ?_) | ((with_reducible show DW _ _ (Expr.BoolOp BoolOp.Or _ _) _ _ _); refine dw_or ?_))
    | ((with_reducible show DSs _ _ _ _ _ _); first | ((with_reducible show DSs _ _ [] _ _ _); refine dss_nil ?_) | ((with_reducible show DSs _ _ [_] _ _ _); refine dss_one ?_) | ((with_reducible show DSs _ _ (_ :: _) _ _ _); refine dss_cons ?_))
    | ((with_reducible show DS _ _ _ _ _ _); first | ((with_reducible show DS _ _ (Stmt.Return (some _) _) _ _ _); refine ds_ret ?_) | ((with_reducible show DS _ _ (Stmt.If _ _ _ _) _ _ _); refine ds_if ?_) | ((with_reducible show DS _ _ (Stmt.Expr _ _) _ _ _); refine ds_expr ?_) | ((with_reducible show DS _ _ (Stmt.Assign [Expr.Name _ _] _ _) _ _ _); walk_at "dset"))
    | ((with_reducible show DP _ _ none _ _ _); refine dp_none ?_)
    | ((with_reducible show DP _ _ (some _) _ _ _); refine dp_some ?_)
    | ((with_reducible show ∃ d, SV.dat _ = SV.dat d ∧ Fi d ∧ _); refine ⟨_, rfl, by assumption, ?_⟩)
    | ((with_reducible show ∃ i, SV.dat (Dt.int _) = SV.dat (Dt.int i) ∧ _); refine ⟨_, rfl, ?_⟩)
    | ((with_reducible show SlD _ _ (SV.dat (Dt.tup _)) _ _ _ _); refine sl_dT ?_)
    | ((with_reducible show ∃ ds, undat _ = some ds ∧ ds.length ≤ 1000 ∧ _); refine ⟨_, rfl, Nat.le_of_ble_eq_true rfl, ?_⟩)
    | ((with_reducible show ∃ q, SV.at _ = SV.at q ∧ _); refine ⟨_, rfl, ?_⟩)
    | ((with_reducible show ∃ z, SV.dat (Dt.str _) = SV.dat (Dt.str z) ∧ _); refine ⟨_, rfl, ?_⟩)
    | ((with_reducible show IxD _ _ (SV.at _) (SV.dat (Dt.int 0)) _ _); refine ix_pot0 (by assumption) (fun _ _ => ?_))
    | ((with_reducible show IxD _ _ (SV.at _) (SV.dat (Dt.int 1)) _ _); refine ix_pot1 (by assumption) (fun _ _ _ => ?_))
    | ((with_reducible show UnD _ _ (unaryOp UnaryOp.USub) _ _ _); refine un_negI ?_)
    | ((with_reducible show Po.nx _ _ _); dsimp only)
    | ((with_reducible show Po.rt _ _ _); dsimp only))
local macro_rules
  | `(tactic| walk_at "drun") => `(tactic| repeat' (walk_at "dstep"))

section
variable {P : Program} {w : World} {K : PySem.W.Frag} {mg : Str → Option Value} {base : Heap}
/-! ### is_whole -/
abbrev sWhole : Stmt := top 15
theorem scWhole : FnScope ["thing"] ["thing"] (defScope sWhole) := ⟨rfl, rfl, rfl, by decide +kernel, rfl, by decide +kernel, by decide +kernel⟩
theorem ok_whole {f : Addr} {fd : FuncData} (F : Fun K "is_whole" "is_whole" sWhole f fd) (T : Txt mg) : FnG P w K mg base 1 f fd ["thing"] spWhole := by
  refine fn_pure F scWhole (fun ds ⟨d, e, _⟩ => by rw [e]; rfl) fun cdv A outer s H hr hg w' ds μ ⟨d, e, hd⟩ => ?_
  subst e
  have ho := hd.notObj
  obtain ⟨t1, t2, t3, t4, t5, t6, t7, t8, t9, t10, t11, t12, t13, t14, t15, t16, t17, t18, t19, t20, t21⟩ := T
  refine dss_one (ds_ret (de_and ?_))
  walk_at "drun"
  · refine ⟨_, rfl, ⟨d, rfl, ?_⟩, Mus.Sub.refl _⟩
    simp [wholeD, *]
  · refine ⟨_, rfl, ⟨d, rfl, ?_⟩, Mus.Sub.refl _⟩
    simp [wholeD, *]
/-! ### is_name -/
abbrev sName : Stmt := top 16
theorem scName : FnScope ["thing", "sign"] ["thing"] (defScope sName) := ⟨rfl, rfl, rfl, by decide +kernel, rfl, by decide +kernel, by decide +kernel⟩
theorem ok_name {f : Addr} {fd : FuncData} (F : Fun K "is_name" "is_name" sName f fd) (T : Txt mg) : FnG P w K mg base 1 f fd ["thing"] spName := by
  refine fn_pure F scName (fun ds ⟨d, e, _⟩ => by rw [e]; rfl) fun cdv A outer s H hr hg w' ds μ ⟨d, e, hd⟩ => ?_
  subst e
  have ho := hd.notObj
  obtain ⟨t1, t2, t3, t4, t5, t6, t7, t8, t9, t10, t11, t12, t13, t14, t15, t16, t17, t18, t19, t20, t21⟩ := T
  refine dss_cons ?_
  by_cases hs : isStr d = true
  · cases d with
    | str x =>
      have hx := hd.str
      have hz : x.length ≤ sizeLine := small_ok (by omega)
      walk_at "drun"
      · rename_i h1 h2 h3
        refine ⟨_, rfl, ⟨_, rfl, ?_⟩, Mus.Sub.refl _⟩
        have : ¬ x.length ≤ 8 := by have := of_decide_eq_false (Bool.not_eq_true' _ ▸ h3); omega
        simp [nameD, this]
      · rename_i h1 h2 h3
        refine de_lc 1 rfl (by show List.Nodup (["thing", "sign"] : List Str); decide +kernel) (blkOk_by (N := ["thing", "sign"]) (sc := defScope sName) (by decide +kernel)) ?_
        refine di_str (de_nm rfl ⟨_, rfl, ?_⟩)
        refine lc_map (fun d => .bl (signD d)) (by rw [signs_len]; omega) ?_ ?_
        · intro d hd w' k
          obtain ⟨c, hc, rfl⟩ := signs_mem hd
          have e1 : (⟨#[c]⟩ : Str).cps.toList = [c] := rfl
          have e2 : ("a" : Str).cps.toList = [97] := rfl
          have e3 : ("z" : Str).cps.toList = [122] := rfl
          walk_at "drun"
          · refine ⟨?_, rfl⟩
            rename_i g1
            rw [e1, e2, lt_sign] at g1
            rw [e1, e3, lt_sign]
            have g2 : 97 ≤ c := by simpa using g1
            have g3 : (!decide (122 < c)) = decide (c ≤ 122) := by
              rw [Bool.eq_iff_iff]; simp
            simp [signD, low, g2, g3]
          · refine ⟨?_, rfl⟩
            rename_i g1
            rw [e1, e2, lt_sign] at g1
            have g2 : ¬ 97 ≤ c := by simpa using g1
            simp [signD, low, g2]
        · refine da_nil (ca_all rfl (bs := (Dat.signs x).map signD) (.inl (by rw [List.map_map]; rfl)) ?_)
          refine ⟨_, rfl, ⟨_, rfl, ?_⟩, Mus.Sub.refl _⟩
          rw [signs_all]
          have g1 : 1 ≤ x.length := by have := of_decide_eq_true h2; omega
          have g2 : x.length ≤ 8 := by have := of_decide_eq_true (Bool.not_eq_false' _ ▸ h3); omega
          simp [nameD, g1, g2]
      · rename_i h1 h2 h3
        refine ⟨_, rfl, ⟨_, rfl, ?_⟩, Mus.Sub.refl _⟩
        have : ¬ 1 ≤ x.length := by have := of_decide_eq_false h2; omega
        simp [nameD, this]
    | _ => simp [isStr] at hs
  · have hs' : (!isStr d) = true := by simpa using hs
    walk_at "drun"
    · refine ⟨_, rfl, ⟨_, rfl, ?_⟩, Mus.Sub.refl _⟩
      cases d with
      | str x => simp [isStr] at hs
      | _ => rfl
    all_goals exact absurd hs' (by simp_all)
set_option hygiene false in
local macro_rules
  | `(tactic| walk_at "down") => `(tactic| first | ((with_reducible show DE _ _ (Expr.Call (Expr.Name "is_whole" _) _ _ _) _ _ _); refine de_p1 oWhole hr (by decide) hg ?_))
/-! ### is_lots -/
abbrev sLots : Stmt := top 17
theorem scLots : FnScope ["thing", "fresh", "lot"] ["thing"] (defScope sLots) := ⟨rfl, rfl, rfl, by decide +kernel, rfl, by decide +kernel, by decide +kernel⟩
set_option hygiene false in
local macro_rules
  | `(tactic| walk_at "dset") => `(tactic| refine ds_set 1 hN ?_)
theorem ok_lots {f : Addr} {fd : FuncData} (F : Fun K "is_lots" "is_lots" sLots f fd) (T : Txt mg) (oWhole : Own P w K mg base "is_whole" 1 spWhole) : FnG P w K mg base 2 f fd ["thing"] spLots := by
  refine fn_pure F scLots (fun ds ⟨d, e, _⟩ => by rw [e]; rfl) fun cdv A outer s H hr hg w' ds μ ⟨d, e, hd⟩ => ?_
  subst e
  have ho := hd.notObj
  obtain ⟨t1, t2, t3, t4, t5, t6, t7, t8, t9, t10, t11, t12, t13, t14, t15, t16, t17, t18, t19, t20, t21⟩ := T
  have hN : (["thing", "fresh", "lot"] : List Str).Nodup := by decide +kernel
  refine dss_cons ?_
  cases d with
  | tup xs =>
    have hx := hd.tup
    walk_at "drun"
    · rename_i h1 h2
      refine ⟨_, rfl, ⟨_, rfl, ?_⟩, Mus.Sub.refl _⟩
      have : ¬ xs.length ≤ 6 := by have := of_decide_eq_true h2; omega
      simp [lotsD, this]
    · rename_i h1 h2
      have h6 : xs.length ≤ 6 := by have := of_decide_eq_false h2; omega
      refine ds_for (di_tup (de_nm rfl ⟨_, rfl, fun n ρ' μ' => μ' = μ ∧ ∃ (fr : Int) (a : SV), 0 ≤ fr ∧ ρ' = [.dat (.tup xs), .dat (.int fr), a] ∧ lotsGo 0 xs = lotsGo fr (xs.drop n), ⟨rfl, 0, .no, by omega, rfl, rfl⟩, ?_, ?_⟩)) PassesOwn.never rfl
      · rintro n d ρ' μ' hi ⟨rfl, fr, a, hf0, rfl, he⟩
        have hfd := hx.2 d (List.mem_of_getElem? hi)
        have hd2 : xs.drop n = d :: xs.drop (n + 1) := List.drop_eq_getElem?_toList_append.trans (by rw [hi]; rfl)
        refine dg_name 2 hN ?_
        refine dss_cons ?_
        have ho' := hfd.notObj
        cases d with
        | int m =>
          walk_at "drun"
          · rename_i g1 g2 g3
            have g2' := of_decide_eq_true g2
            have g3' : ¬ m ≤ fr := of_decide_eq_false (Bool.not_eq_true' _ ▸ g3)
            refine ⟨_, rfl, ⟨_, rfl, ?_⟩, Mus.Sub.refl _⟩
            simp [lotsD, h6, he, hd2, lotsGo, g2', g3']
          · rename_i g1 g2 g3
            have g2' := of_decide_eq_true g2
            have g3' : m ≤ fr := of_decide_eq_true (Bool.not_eq_false' _ ▸ g3)
            refine ⟨rfl, _, _, ?_, rfl, ?_⟩
            · omega
            · simp [he, hd2, lotsGo, g2', g3']
          · rename_i g1 g2 g3
            have g2' := of_decide_eq_false g2
            refine ⟨_, rfl, ⟨_, rfl, ?_⟩, Mus.Sub.refl _⟩
            simp [lotsD, h6, he, hd2, lotsGo, g2']
        | obj _ _ _ => exact Bool.noConfusion ho'
        | mix _ _ _ => exact Bool.noConfusion ho'
        | err _ _ _ => exact Bool.noConfusion ho'
        | _ =>
          walk_at "drun"
          all_goals refine ⟨_, rfl, ⟨_, rfl, ?_⟩, Mus.Sub.refl _⟩
          all_goals simp [lotsD, h6, he, hd2, lotsGo]
      · rintro ρ' μ' ⟨rfl, fr, a, hf0, rfl, he⟩
        walk_at "drun"
        refine ⟨_, rfl, ⟨_, rfl, ?_⟩, Mus.Sub.refl _⟩
        rw [List.drop_length] at he
        simp [lotsD, h6, he, lotsGo]
  | obj _ _ _ => exact Bool.noConfusion ho
  | mix _ _ _ => exact Bool.noConfusion ho
  | err _ _ _ => exact Bool.noConfusion ho
  | _ =>
    walk_at "drun"
    all_goals exact ⟨_, rfl, ⟨_, rfl, rfl⟩, Mus.Sub.refl _⟩
end
end K12

set_option Elab.async false
set_option linter.all false
set_option maxRecDepth 100000
set_option maxHeartbeats 4000000
namespace K12
open PySem PySem.Spec PyProof.Rows L2 Dat
local macro_rules
  | `(tactic| walk_at "down") => `(tactic| fail "none")
local macro_rules
  | `(tactic| walk_at "dset") => `(tactic| fail "none")
local macro_rules
  | `(tactic| walk_at "dhook") => `(tactic| fail "none")
local macro_rules
  | `(tactic| walk_at "dca") => `(tactic| fail "none")
local macro_rules
  | `(tactic| walk_at "dlst") => `(tactic| refine de_lst ?_)
local macro_rules
  | `(tactic| walk_at "dtup") => `(tactic| refine de_tup ?_)
local macro_rules
  | `(tactic| walk_at "dstep") => `(tactic| first
    | ((with_reducible show DE _ _ _ _ _ _); first | ((with_reducible show DE _ _ (Expr.Name _ _) _ _ _); first | ((with_reducible show DE _ _ (Expr.Name "int" _) _ _ _); refine de_ty_int (by assumption) ?_) | ((with_reducible show DE _ _ (Expr.Name "str" _) _ _ _); refine de_ty_str (by assumption) ?_) | ((with_reducible show DE _ _ (Expr.Name "bool" _) _ _ _); refine de_ty_bool (by assumption) ?_) | ((with_reducible show DE _ _ (Expr.Name "tuple" _) _ _ _); refine de_ty_tuple (by assumption) ?_) | ((with_reducible show DE _ _ (Expr.Name "list" _) _ _ _); refine de_ty_list (by assumption) ?_) | ((with_reducible show DE _ _ (Expr.Name "dict" _) _ _ _); refine de_ty_dict (by assumption) ?_) | refine de_nm rfl ?_ | refine de_globI (by assumption) ?_) | ((with_reducible show DE _ _ (Expr.Constant _ _ _) _ _ _); first | refine de_int ?_ | refine de_str ?_ | refine de_bl ?_ | refine de_non ?_) | ((with_reducible show DE _ _ (Expr.Call (Expr.Name _ _) _ _ _) _ _ _); first | ((with_reducible show DE _ _ (Expr.Call (Expr.Name "isinstance" _) _ _ _) _ _ _); refine de_isinstance ?_ (by assumption)) | ((with_reducible show DE _ _ (Expr.Call (Expr.Name "len" _) _ _ _) _ _ _); refine de_len ?_ (by assumption)) | ((with_reducible show DE _ _ (Expr.Call (Expr.Name "max" _) _ _ _) _ _ _); refine de_max ?_ (by assumption)) | ((with_reducible show DE _ _ (Expr.Call (Expr.Name "min" _) _ _ _) _ _ _); refine de_min ?_ (by assumption)) | ((with_reducible show DE _ _ (Expr.Call (Expr.Name "all" _) _ _ _) _ _ _); refine de_all ?_ (by assumption)) | ((with_reducible show DE _ _ (Expr.Call (Expr.Name "repr" _) _ _ _) _ _ _); refine de_repr ?_ (by assumption)) | ((with_reducible show DE _ _ (Expr.Call (Expr.Name "divmod" _) _ _ _) _ _ _); refine de_divmod ?_ (by assumption)) | ((with_reducible show DE _ _ (Expr.Call (Expr.Name "list" _) _ _ _) _ _ _); refine de_clist ?_ (by assumption)) | ((with_reducible show DE _ _ (Expr.Call (Expr.Name "tuple" _) _ _ _) _ _ _); refine de_ctuple ?_ (by assumption)) | ((with_reducible show DE _ _ (Expr.Call (Expr.Name "int" _) _ _ _) _ _ _); refine de_cint ?_ (by assumption)) | ((with_reducible show DE _ _ (Expr.Call (Expr.Name "str" _) _ _ _) _ _ _); refine de_cstr ?_ (by assumption)) | walk_at "down") | ((with_reducible show DE _ _ (Expr.BinOp _ _ _ _) _ _ _); refine de_op ?_) | ((with_reducible show DE _ _ (Expr.Compare _ [_] _ _) _ _ _); refine de_cmp ?_) | ((with_reducible show DE _ _ (Expr.Compare _ [_, _] _ _) _ _ _); refine de_chain ?_) | ((with_reducible show DE _ _ (Expr.Subscript _ (Expr.Slice _ _ _ _) _) _ _ _); refine de_slice ?_) | ((with_reducible show DE _ _ (Expr.Subscript _ _ _) _ _ _); refine de_ix ?_) | ((with_reducible show DE _ _ (Expr.BoolOp _ [_] _) _ _ _); refine de_one ?_) | ((with_reducible show DE _ _ (Expr.BoolOp BoolOp.And _ _) _ _ _); refine de_and ?_) | ((with_reducible show DE _ _ (Expr.BoolOp BoolOp.Or _ _) _ _ _); refine de_or ?_) | ((with_reducible show DE _ _ (Expr.UnaryOp UnaryOp.Not _ _) _ _ _); refine de_not ?_) | ((with_reducible show DE _ _ (Expr.UnaryOp _ _ _) _ _ _); refine de_un ?_) | ((with_reducible show DE _ _ (Expr.IfExp _ _ _ _) _ _ _); refine de_ifx ?_) | ((with_reducible show DE _ _ (Expr.Tuple _ _ _) _ _ _); walk_at "dtup") | ((with_reducible show DE _ _ (Expr.List _ _) _ _ _); walk_at "dlst") | ((with_reducible show DE _ _ (Expr.Dict [] [] _) _ _ _); refine de_dict0 ?_) | walk_at "dhook")
    | ((with_reducible show DA _ _ _ _ _ _); first | ((with_reducible show DA _ _ [] _ _ _); refine da_nil ?_) | ((with_reducible show DA _ _ (_ :: _) _ _ _); refine da_cons ?_))
    | ((with_reducible show BoolR _ _); refine ⟨_, rfl, ?_⟩)
    | ((with_reducible show (_ = true → _) ∧ (_ = false → _)); (refine ⟨fun h => ?_, fun h => ?_⟩ <;> try (exact Bool.noConfusion h)))
    | ((with_reducible show OpD _ _ _ _ _ _ _); first | ((with_reducible show OpD _ _ (binaryOp Operator.Add) _ _ _ _); first | refine op_addI ?_ | refine op_addT ?_) | ((with_reducible show OpD _ _ (binaryOp Operator.Sub) _ _ _ _); refine op_subI ?_) | ((with_reducible show OpD _ _ (binaryOp Operator.Mod) _ _ _ _); refine op_modI (by first | decide | assumption) ?_) | ((with_reducible show OpD _ _ (binaryOp Operator.Mult) _ _ _ _); refine op_mulI (by first | exact .inr (by decide) | exact .inl (by decide) | (exact .inl (by omega))) ?_) | ((with_reducible show OpD _ _ (binaryOp Operator.Pow) _ _ _ _); refine op_powI (by decide) (by decide) (by decide) ?_) | ((with_reducible show OpD _ _ (binaryOp Operator.FloorDiv) _ _ _ _); refine op_fdivI (by decide) (by decide) ?_) | ((with_reducible show OpD _ _ (compareOp CmpOp.Lt) _ _ _ _); refine op_ltI ?_) | ((with_reducible show OpD _ _ (compareOp CmpOp.LtE) _ _ _ _); first | refine op_leI ?_ | refine op_leS ?_) | ((with_reducible show OpD _ _ (compareOp CmpOp.Gt) _ _ _ _); refine op_gtI ?_) | ((with_reducible show OpD _ _ (compareOp CmpOp.GtE) _ _ _ _); refine op_geI ?_) | ((with_reducible show OpD _ _ (compareOp CmpOp.Eq) _ _ _ _); first | refine op_eqI ?_ | refine op_eqS ?_) | ((with_reducible show OpD _ _ (compareOp CmpOp.NotEq) _ _ _ _); first | refine op_neI ?_ | refine op_neS ?_))
    | ((with_reducible show CaD _ _ _ _ _ _); first | ((with_reducible show CaD _ _ (Value.builtin "isinstance") [_, SV.ty "int"] _ _); refine ca_isi (by assumption) (kit_int _ (by assumption)) ?_) | ((with_reducible show CaD _ _ (Value.builtin "isinstance") [_, SV.ty "bool"] _ _); refine ca_isi (by assumption) (kit_bool _ (by assumption)) ?_) | ((with_reducible show CaD _ _ (Value.builtin "isinstance") [_, SV.ty "str"] _ _); refine ca_isi (by assumption) (kit_str _ (by assumption)) ?_) | ((with_reducible show CaD _ _ (Value.builtin "isinstance") [_, SV.ty "tuple"] _ _); refine ca_isi (by assumption) (kit_tuple _ (by assumption)) ?_) | ((with_reducible show CaD _ _ (Value.builtin "isinstance") [_, SV.ty "list"] _ _); refine ca_isi (by assumption) (kit_list _ (by assumption)) ?_) | ((with_reducible show CaD _ _ (Value.builtin "isinstance") [_, SV.ty "dict"] _ _); refine ca_isi (by assumption) (kit_dict _ (by assumption)) ?_) | ((with_reducible show CaD _ _ (Value.builtin "max") _ _ _); refine ca_max2 rfl ?_) | ((with_reducible show CaD _ _ (Value.builtin "min") _ _ _); refine ca_min2 rfl ?_) | ((with_reducible show CaD _ _ (Value.builtin "len") _ _ _); first | refine ca_lenT ?_ | refine ca_lenS (by assumption) ?_ | refine ca_lenSc ?_ | refine ca_lenL (.inl rfl) ?_) | ((with_reducible show CaD _ _ (Value.type "list") _ _ _); refine ca_listT ?_) | ((with_reducible show CaD _ _ (Value.builtin "divmod") _ _ _); refine ca_divmod (by assumption) (by omega) ?_) | walk_at "dca")
    | ((with_reducible show DT _ _ _ _ _ _); first | ((with_reducible show DT _ _ (Expr.BoolOp _ _ _) _ _ _); refine dt_w ?_) | ((with_reducible show DT _ _ (Expr.UnaryOp UnaryOp.Not _ _) _ _ _); refine dt_not ?_) | ((with_reducible show DT _ _ (Expr.Compare _ [_] _ _) _ _ _); refine dt_cmp ?_) | ((with_reducible show DT _ _ (Expr.Compare _ [_, _] _ _) _ _ _); refine dt_chain ?_) | refine dt_val ?_)
    | ((with_reducible show DW _ _ _ _ _ _); first | ((with_reducible show DW _ _ (Expr.BoolOp BoolOp.And [_] _) _ _ _); refine dw_and1 ?_) | ((with_reducible show DW _ _ (Expr.BoolOp BoolOp.Or [_] _) _ _ _); refine dw_or1 ?_) | ((with_reducible show DW _ _ (Expr.BoolOp BoolOp.And _ _) _ _ _); refine dw_and ?_) | ((with_reducible show DW _ _ (Expr.BoolOp BoolOp.Or _ _) _ _ _); refine dw_or ?_))
    | ((with_reducible show DSs _ _ _ _ _ _); first | ((with_reducible show DSs _ _ [] _ _ _); refine dss_nil ?_) | ((with_reducible show DSs _ _ [_] _ _ _); refine dss_one ?_) | ((with_reducible show DSs _ _ (_ :: _) _ _ _); refine dss_cons ?_))
    | ((with_reducible show DS _ _ _ _ _ _); first | ((with_reducible show DS _ _ (Stmt.Return (some _) _) _ _ _); refine ds_ret ?_) | ((with_reducible show DS _ _ (Stmt.If _ _ _ _) _ _ _); refine ds_if ?_) | ((with_reducible show DS _ _ (Stmt.Expr _ _) _ _ _); refine ds_expr ?_) | ((with_reducible show DS _ _ (Stmt.Assign [Expr.Name _ _] _ _) _ _ _); walk_at "dset"))
    | ((with_reducible show DP _ _ none _ _ _); refine dp_none ?_)
    | ((with_reducible show DP _ _ (some _) _ _ _); refine dp_some ?_)
    | ((with_reducible show ∃ d, SV.dat _ = SV.dat d ∧ Fi d ∧ _); refine ⟨_, rfl, by assumption, ?_⟩)
    | ((with_reducible show ∃ i, SV.dat (Dt.int _) = SV.dat (Dt.int i) ∧ _); refine ⟨_, rfl, ?_⟩)
    | ((with_reducible show SlD _ _ (SV.dat (Dt.tup _)) _ _ _ _); refine sl_dT ?_)
    | ((with_reducible show ∃ ds, undat _ = some ds ∧ ds.length ≤ 1000 ∧ _); refine ⟨_, rfl, Nat.le_of_ble_eq_true rfl, ?_⟩)
    | ((with_reducible show ∃ q, SV.at _ = SV.at q ∧ _); refine ⟨_, rfl, ?_⟩)
    | ((with_reducible show ∃ z, SV.dat (Dt.str _) = SV.dat (Dt.str z) ∧ _); refine ⟨_, rfl, ?_⟩)
    | ((with_reducible show IxD _ _ (SV.at _) (SV.dat (Dt.int 0)) _ _); refine ix_pot0 (by assumption) (fun _ _ => ?_))
    | ((with_reducible show IxD _ _ (SV.at _) (SV.dat (Dt.int 1)) _ _); refine ix_pot1 (by assumption) (fun _ _ _ => ?_))
    | ((with_reducible show UnD _ _ (unaryOp UnaryOp.USub) _ _ _); refine un_negI ?_)
    | ((with_reducible show Po.nx _ _ _); dsimp only)
    | ((with_reducible show Po.rt _ _ _); dsimp only))
local macro_rules
  | `(tactic| walk_at "drun") => `(tactic| repeat' (walk_at "dstep"))

theorem strs_facts : ∀ zs : List Str, (∀ z ∈ zs, PyData.strOk z = true) → noDicA (zs.map Dt.str) = true ∧ PyData.canLayAll0 (toPyA (zs.map Dt.str)) = true ∧ PyData.depthAll (toPyA (zs.map Dt.str)) = 0
  | [], _ => by simp [noDicA, toPyA, PyData.canLayAll0, PyData.depthAll]
  | z :: zs, h => by
    obtain ⟨h1, h2, h3⟩ := strs_facts zs fun y hy => h y (List.mem_cons_of_mem _ hy)
    have h0 := h z List.mem_cons_self
    simp [noDicA, noDic, toPyA, toPy, PyData.canLayAll0, PyData.canLay0, PyData.depthAll, PyData.depth, h0, h1, h2, h3]
theorem eqv_nil (zs : List Str) : PyData.eqv (toPy (.lst (zs.map Dt.str))) (toPy (.lst [])) = zs.isEmpty := by
  cases zs <;> simp [toPy, toPyA, PyData.eqv, PyData.eqvAll]
theorem shaped_strs (zs : List Str) (h : ∀ z ∈ zs, PyData.strOk z = true) : SeqAt.shaped (toPy (.lst (zs.map Dt.str))) = true := by
  obtain ⟨h1, h2, h3⟩ := strs_facts zs h
  simp [SeqAt.shaped, toPy, PyData.canLay0, PyData.depth, h2, h3]
theorem noDic_strs (zs : List Str) (h : ∀ z ∈ zs, PyData.strOk z = true) : noDic (.lst (zs.map Dt.str)) = true := by
  simp [noDic, (strs_facts zs h).1]

theorem low_iff (c : Nat) : decide (c ∈ (("abcdefghijklmnopqrstuvwxyz" : Str)).cps.toList) = low c := by
  have e : ("abcdefghijklmnopqrstuvwxyz" : Str).cps.toList = (List.range 26).map (97 + ·) := by decide +kernel
  rw [e, Bool.eq_iff_iff, decide_eq_true_eq, List.mem_map]
  unfold low
  rw [Bool.and_eq_true, decide_eq_true_eq, decide_eq_true_eq]
  constructor
  · rintro ⟨k, hk, rfl⟩
    rw [List.mem_range] at hk
    omega
  · rintro ⟨h1, h2⟩
    exact ⟨c - 97, by rw [List.mem_range]; omega, by omega⟩
theorem filt_none (x : Str) : ((Dat.signs x).filter fun d => !signD d).isEmpty = x.cps.toList.all low := by
  rw [← signs_all]
  induction Dat.signs x with
  | nil => rfl
  | cons d ds ih =>
    rw [List.filter_cons, List.map_cons, List.all_cons]
    cases signD d
    · rfl
    · simpa using ih
def signZ (x : Str) : List Str := x.cps.toList.map fun c => ⟨#[c]⟩
theorem signs_Z (x : Str) : Dat.signs x = (signZ x).map Dt.str := by
  unfold Dat.signs signZ
  rw [List.map_map]
  rfl
def okInl : List Dt → Prop := fun ds => ∃ d lo hi, ds = [d, .int lo, .int hi] ∧ Fi d
def reInl : List Dt → Dt → Prop := fun ds r => ∃ d lo hi, ds = [d, .int lo, .int hi] ∧ r = .bl (inD lo hi d)
def spInl : Sp := PSp okInl reInl
set_option hygiene false in
local macro_rules
  | `(tactic| walk_at "down") => `(tactic| first | ((with_reducible show DE _ _ (Expr.Call (Expr.Name "_law_is_label" _) _ _ _) _ _ _); refine de_p1 oLabel hr (by decide) hg ?_) | ((with_reducible show DE _ _ (Expr.Call (Expr.Name "_law_is_whole" _) _ _ _) _ _ _); refine de_pure oInl hr (by decide) hg ?_) | ((with_reducible show DE _ _ (Expr.Call (Expr.Name "_law_are_lots" _) _ _ _) _ _ _); refine de_p1 oLots hr (by decide) hg ?_)  | ((with_reducible show DE _ _ (Expr.Call (Expr.Name "_law_is_path" _) _ _ _) _ _ _); refine de_p1 oPath hr (by decide) hg ?_))
section
variable {P : Program} {w : World} {K : PySem.W.Frag} {mg : Str → Option Value} {base : Heap}
/-! ### the law's look at a label -/
abbrev sLabel : Stmt := top 27
theorem scLabel : FnScope ["_law_thing", "_law_sign"] ["_law_thing"] (defScope sLabel) := ⟨rfl, rfl, rfl, by decide +kernel, rfl, by decide +kernel, by decide +kernel⟩
theorem ok_label {f : Addr} {fd : FuncData} (F : Fun K "_law_is_label" "_law_is_label" sLabel f fd) (T : Txt mg) : FnG P w K mg base 1 f fd ["_law_thing"] spName := by
  refine fn_pure F scLabel (fun ds ⟨d, e, _⟩ => by rw [e]; rfl) fun cdv A outer s H hr hg w' ds μ ⟨d, e, hd⟩ => ?_
  subst e
  have ho := hd.notObj
  obtain ⟨t1, t2, t3, t4, t5, t6, t7, t8, t9, t10, t11, t12, t13, t14, t15, t16, t17, t18, t19, t20, t21⟩ := T
  have hN : (["_law_thing", "_law_sign"] : List Str).Nodup := by decide +kernel
  refine dss_cons ?_
  cases d with
  | str x =>
    have hx := hd.str
    have hz : x.length ≤ sizeLine := small_ok (by omega)
    walk_at "drun"
    · rename_i h1 h2 h3
      refine ⟨_, rfl, ⟨_, rfl, ?_⟩, Mus.Sub.refl _⟩
      have : ¬ x.length ≤ 8 := by have := of_decide_eq_false (Bool.not_eq_true' _ ▸ h3); omega
      simp [nameD, this]
    · rename_i h1 h2 h3
      refine de_lc 1 rfl hN (blkOk_by (N := ["_law_thing", "_law_sign"]) (sc := defScope sLabel) (by decide +kernel)) ?_
      refine di_str (de_nm rfl ⟨_, rfl, ?_⟩)
      refine lc_filter id (fun d => !signD d) (by rw [signs_len]; omega) ?_ ?_ ?_
      · intro d hd w' k
        obtain ⟨c, hc, rfl⟩ := signs_mem hd
        walk_at "drun"
        refine op_signNotIn ?_
        walk_at "drun"
        refine ⟨?_, rfl⟩
        rw [low_iff]
        simp [signD]
      · intro d hd hp w' k
        obtain ⟨c, hc, rfl⟩ := signs_mem hd
        walk_at "drun"
        exact ⟨rfl, rfl⟩
      · walk_at "drun"
        have ok : ∀ z ∈ (signZ x).filter (fun z => !signD (.str z)), PyData.strOk z = true := by
          intro z hz'
          obtain ⟨c, hc, rfl⟩ := List.mem_map.mp (List.mem_filter.mp hz').1
          have := hx.2 c hc
          simp [PyData.strOk]
          omega
        have e : List.map id (List.filter (fun d => !signD d) (Dat.signs x)) = ((signZ x).filter (fun z => !signD (.str z))).map Dt.str := by
          rw [List.map_id, signs_Z, List.filter_map]
          rfl
        rw [e]
        refine op_eqDt hr (noDic_strs _ ok) rfl (shaped_strs _ ok) (shaped_strs [] nofun) ?_
        rw [eqv_nil]
        have e2 : ((signZ x).filter (fun z => !signD (.str z))).isEmpty = x.cps.toList.all low := by
          rw [← filt_none, signs_Z, List.filter_map, List.isEmpty_map]
          rfl
        rw [e2]
        refine ⟨_, rfl, ⟨_, rfl, ?_⟩, Mus.Sub.refl _⟩
        have g1 : 1 ≤ x.length := by have := of_decide_eq_true h2; omega
        have g2 : x.length ≤ 8 := by have := of_decide_eq_true (Bool.not_eq_false' _ ▸ h3); omega
        simp [nameD, g1, g2]
    · rename_i h1 h2 h3
      refine ⟨_, rfl, ⟨_, rfl, ?_⟩, Mus.Sub.refl _⟩
      have : ¬ 1 ≤ x.length := by have := of_decide_eq_false h2; omega
      simp [nameD, this]
  | obj _ _ _ => exact Bool.noConfusion ho
  | mix _ _ _ => exact Bool.noConfusion ho
  | err _ _ _ => exact Bool.noConfusion ho
  | _ =>
    walk_at "drun"
    all_goals exact ⟨_, rfl, ⟨_, rfl, rfl⟩, Mus.Sub.refl _⟩
/-! ### the law's look at a number -/
abbrev sInl : Stmt := top 28
theorem scInl : FnScope ["_law_thing", "_law_low", "_law_high"] ["_law_thing", "_law_low", "_law_high"] (defScope sInl) := ⟨rfl, rfl, rfl, by decide +kernel, rfl, by decide +kernel, by decide +kernel⟩
theorem ok_inl {f : Addr} {fd : FuncData} (F : Fun K "_law_is_whole" "_law_is_whole" sInl f fd) (T : Txt mg) : FnG P w K mg base 1 f fd ["_law_thing", "_law_low", "_law_high"] spInl := by
  refine fn_pure F scInl (fun ds ⟨d, lo, hi, e, _⟩ => by rw [e]; rfl) fun cdv A outer s H hr hg w' ds μ ⟨d, lo, hi, e, hd⟩ => ?_
  subst e
  have ho := hd.notObj
  obtain ⟨t1, t2, t3, t4, t5, t6, t7, t8, t9, t10, t11, t12, t13, t14, t15, t16, t17, t18, t19, t20, t21⟩ := T
  refine dss_one ?_
  cases d with
  | int n =>
    walk_at "drun"
    · refine ⟨_, rfl, ⟨_, _, _, rfl, ?_⟩, Mus.Sub.refl _⟩
      rename_i h1 h2
      simp [inD, of_decide_eq_true h2]
    · refine ⟨_, rfl, ⟨_, _, _, rfl, ?_⟩, Mus.Sub.refl _⟩
      rename_i h1 h2
      simp [inD, of_decide_eq_false h2]
  | obj _ _ _ => exact Bool.noConfusion ho
  | mix _ _ _ => exact Bool.noConfusion ho
  | err _ _ _ => exact Bool.noConfusion ho
  | _ => walk_at "drun" <;> exact ⟨_, rfl, ⟨_, _, _, rfl, rfl⟩, Mus.Sub.refl _⟩
/-! ### the law's look at lots -/
def pm : List Int → Int
  | [] => -1
  | a :: as => max a (pm as)
theorem pm_app : ∀ (as : List Int) (b : Int), pm (as ++ [b]) = max (pm as) (max b (-1))
  | [], b => by simp [pm]; omega
  | a :: as, b => by
    rw [List.cons_append, pm, pm, pm_app as b]
    omega
theorem pm_ge : ∀ (as : List Int) (y : Int), y ∈ -1 :: as → y ≤ pm as
  | [], y, h => by simp at h; simp [pm, h]
  | a :: as, y, h => by
    have h1 := pm_ge as (-1) List.mem_cons_self
    rw [pm]
    rcases List.mem_cons.mp h with rfl | h
    · omega
    · rcases List.mem_cons.mp h with rfl | h
      · omega
      · have := pm_ge as y (List.mem_cons_of_mem _ h)
        omega
theorem pm_mem : ∀ as : List Int, pm as ∈ -1 :: as
  | [] => by simp [pm]
  | a :: as => by
    have h := pm_mem as
    rw [pm]
    rcases Int.le_total a (pm as) with g | g
    · rw [Int.max_eq_right g]
      rcases List.mem_cons.mp h with e | e
      · rw [e]; exact List.mem_cons_self
      · exact List.mem_cons_of_mem _ (List.mem_cons_of_mem _ e)
    · rw [Int.max_eq_left g]
      exact List.mem_cons_of_mem _ List.mem_cons_self
theorem pm_uniq {as : List Int} {m : Int} (h1 : m ∈ -1 :: as) (h2 : ∀ y, y ∈ -1 :: as → y ≤ m) : m = pm as :=
  Int.le_antisymm (pm_ge as m h1) (h2 _ (pm_mem as))
theorem go_iff : ∀ (l pre : List Int), (∀ y, y ∈ pre → 0 ≤ y) → (lotsGo (pm pre + 1) (l.map Dt.int) = true ↔ ∀ k a, l[k]? = some a → 0 ≤ a ∧ a ≤ pm (pre ++ l.take k) + 1)
  | [], pre, _ => by simp [lotsGo]
  | a :: l, pre, hp => by
    rw [List.map_cons, lotsGo, Bool.and_eq_true, Bool.and_eq_true, decide_eq_true_eq, decide_eq_true_eq]
    have step : ∀ (h : 0 ≤ a), max (pm pre + 1) (a + 1) = pm (pre ++ [a]) + 1 := by
      intro h
      rw [pm_app]
      omega
    constructor
    · rintro ⟨⟨h1, h2⟩, h3⟩ k b hb
      cases k with
      | zero =>
        cases hb
        simpa using ⟨h1, h2⟩
      | succ k =>
        rw [step h1] at h3
        have := (go_iff l (pre ++ [a]) (by
          intro y hy
          rcases List.mem_append.mp hy with e | e
          · exact hp y e
          · rw [List.mem_singleton.mp e]; exact h1)).mp h3 k b hb
        rw [List.take_succ_cons]
        simpa using this
    · intro h
      have h0 := h 0 a rfl
      have h1 : 0 ≤ a := h0.1
      refine ⟨⟨h1, by simpa using h0.2⟩, ?_⟩
      rw [step h1]
      refine (go_iff l (pre ++ [a]) (by
          intro y hy
          rcases List.mem_append.mp hy with e | e
          · exact hp y e
          · rw [List.mem_singleton.mp e]; exact h1)).mpr fun k b hb => ?_
      have := h (k + 1) b hb
      rw [List.take_succ_cons] at this
      simpa using this
theorem go_in : ∀ (xs : List Dt) (f : Int), lotsGo f xs = true → ∃ l : List Int, xs = l.map Dt.int ∧ ∀ (k : Nat) (a : Int), l[k]? = some a → 0 ≤ a ∧ a ≤ f + (k : Int)
  | [], f, _ => ⟨[], rfl, nofun⟩
  | d :: xs, f, h => by
    cases d with
    | int n =>
      rw [lotsGo, Bool.and_eq_true, Bool.and_eq_true, decide_eq_true_eq, decide_eq_true_eq] at h
      obtain ⟨⟨h1, h2⟩, h3⟩ := h
      obtain ⟨l, rfl, h4⟩ := go_in xs _ h3
      refine ⟨n :: l, rfl, fun k a hk => ?_⟩
      cases k with
      | zero => cases hk; simpa using ⟨h1, h2⟩
      | succ k =>
        have := h4 k a hk
        omega
    | _ => simp [lotsGo] at h
theorem in_ints : ∀ xs : List Dt, xs.all (inD 0 5) = true → ∃ l : List Int, xs = l.map Dt.int ∧ ∀ a ∈ l, 0 ≤ a
  | [], _ => ⟨[], rfl, nofun⟩
  | d :: xs, h => by
    rw [List.all_cons, Bool.and_eq_true] at h
    obtain ⟨l, rfl, h2⟩ := in_ints xs h.2
    cases d with
    | int n =>
      refine ⟨n :: l, rfl, ?_⟩
      have := h.1
      simp [inD] at this
      intro a ha
      rcases List.mem_cons.mp ha with rfl | e
      · exact this.1
      · exact h2 a e
    | _ => simp [inD] at h
theorem lots_in {xs : List Dt} (h6 : xs.length ≤ 6) (h : lotsGo 0 xs = true) : xs.all (inD 0 5) = true := by
  obtain ⟨l, rfl, h2⟩ := go_in xs 0 h
  rw [List.all_map, List.all_eq_true]
  intro a ha
  obtain ⟨k, hk, rfl⟩ := List.getElem_of_mem ha
  have := h2 k _ (List.getElem?_eq_getElem hk)
  rw [List.length_map] at h6
  simp [inD]
  omega
def lotG (l : List Int) : Dt → Bool
  | .int k => decide (l.getD k.toNat 0 ≤ pm (l.take k.toNat) + 1)
  | _ => false
theorem lots_all (l : List Int) (h0 : ∀ a ∈ l, 0 ≤ a) : ((upto 0 l.length).map (lotG l)).all id = lotsGo 0 (l.map Dt.int) := by
  have e := go_iff l [] nofun
  rw [Bool.eq_iff_iff]
  refine Iff.trans ?_ e.symm
  unfold upto
  rw [List.map_map, List.all_map, List.all_eq_true]
  constructor
  · intro h k a hk
    have hl : k < l.length := (List.getElem?_eq_some_iff.mp hk).1
    have := h k (List.mem_range.mpr hl)
    simp only [Function.comp, lotG, id, decide_eq_true_eq] at this
    have e2 : (0 + (k : Int)).toNat = k := by omega
    rw [e2, List.getD_eq_getElem?_getD, hk] at this
    exact ⟨h0 a (List.mem_of_getElem? hk), this⟩
  · intro h k hk
    have hl := List.mem_range.mp hk
    have := (h k _ (List.getElem?_eq_getElem hl)).2
    simp only [Function.comp, lotG, id, decide_eq_true_eq]
    have e2 : (0 + (k : Int)).toNat = k := by omega
    rw [e2, List.getD_eq_getElem?_getD, List.getElem?_eq_getElem hl]
    exact this
abbrev sLLots : Stmt := top 29
theorem scLLots : FnScope ["_law_thing", "_law_one", "_law_k"] ["_law_thing"] (defScope sLLots) := ⟨rfl, rfl, rfl, by decide +kernel, rfl, by decide +kernel, by decide +kernel⟩
theorem ok_llots {f : Addr} {fd : FuncData} (F : Fun K "_law_are_lots" "_law_are_lots" sLLots f fd) (T : Txt mg) (oInl : Own P w K mg base "_law_is_whole" 1 spInl) : FnG P w K mg base 2 f fd ["_law_thing"] spLots := by
  refine fn_pure F scLLots (fun ds ⟨d, e, _⟩ => by rw [e]; rfl) fun cdv A outer s H hr hg w' ds μ ⟨d, e, hd⟩ => ?_
  subst e
  have ho := hd.notObj
  obtain ⟨t1, t2, t3, t4, t5, t6, t7, t8, t9, t10, t11, t12, t13, t14, t15, t16, t17, t18, t19, t20, t21⟩ := T
  have hN : (["_law_thing", "_law_one", "_law_k"] : List Str).Nodup := by decide +kernel
  refine dss_cons ?_
  cases d with
  | tup xs =>
    have hx := hd.tup
    walk_at "drun"
    · rename_i h1 h2 h3
      refine ⟨_, rfl, ⟨_, rfl, ?_⟩, Mus.Sub.refl _⟩
      have : ¬ xs.length ≤ 6 := by have := of_decide_eq_true h2; omega
      simp [lotsD, this]
    · rename_i h1 h2
      have h6 : xs.length ≤ 6 := by have := of_decide_eq_false h2; omega
      refine de_lc 1 rfl hN (blkOk_by (N := ["_law_thing", "_law_one", "_law_k"]) (sc := defScope sLLots) (by decide +kernel)) ?_
      refine di_tup ?_
      walk_at "drun"
      refine ⟨_, rfl, lc_map (fun d => .bl (inD 0 5 d)) (by omega) ?_ ?_⟩
      · intro d' hd' w' k
        have hf' := hx.2 d' hd'
        walk_at "drun"
        refine ⟨_, rfl, ⟨_, _, _, rfl, hf'⟩, ?_⟩
        rintro _ ⟨_, _, _, e, rfl⟩
        cases e
        exact ⟨rfl, rfl⟩
      · walk_at "drun"
        refine ca_all rfl (bs := xs.map (inD 0 5)) (.inl (by rw [List.map_map]; rfl)) ?_
        rw [List.all_map]
        walk_at "drun"
        · rename_i h3
          refine ⟨_, rfl, ⟨_, rfl, ?_⟩, Mus.Sub.refl _⟩
          have h4 : ¬ lotsGo 0 xs = true := fun g => by
            have := lots_in h6 g
            simp at h3 this
            obtain ⟨x, hx1, hx2⟩ := h3
            rw [this x hx1] at hx2
            cases hx2
          simp [lotsD, h4]
        · rename_i h3
          have h3' : xs.all (inD 0 5) = true := by simpa using h3
          obtain ⟨l, rfl, h0⟩ := in_ints xs h3'
          rw [List.length_map] at h6
          refine de_lc 2 rfl hN (blkOk_by (N := ["_law_thing", "_law_one", "_law_k"]) (sc := defScope sLLots) (by decide +kernel)) ?_
          refine di_range1 ?_ t12
          walk_at "drun"
          have el : (List.map Dt.int l).length = l.length := List.length_map _
          refine ⟨_, rfl, by omega, by omega, ?_⟩
          rw [Int.toNat_natCast, el]
          have hu : (upto 0 l.length).length = l.length := by simp [upto]
          refine lc_map (fun d => .bl (lotG l d)) (by omega) ?_ ?_
          · intro d' hd' w' k
            obtain ⟨m, hm, rfl⟩ := List.mem_map.mp hd'
            have hm' := List.mem_range.mp hm
            have em : (0 : Int) + (m : Int) = m := by omega
            rw [em]
            walk_at "drun"
            refine ix_dT (atI_nat _ m (.int l[m]) (by rw [List.getElem?_map, List.getElem?_eq_getElem hm']; rfl)) ?_
            walk_at "drun"
            rw [cut_to _ _ (by rw [List.length_map]; omega), ← List.map_take]
            refine op_addL (.inl rfl) (.inl rfl) (small_ok (by simp; omega)) ?_
            walk_at "drun"
            refine ca_maxL rfl (ns := -1 :: l.take m) (.inl rfl) (by simp) ?_
            intro z hz1 hz2
            rw [pm_uniq hz1 hz2]
            walk_at "drun"
            refine ⟨?_, rfl⟩
            simp [lotG, List.getElem?_eq_getElem hm']
          · walk_at "drun"
            refine ca_all rfl (bs := (upto 0 l.length).map (lotG l)) (.inl (by rw [List.map_map]; rfl)) ?_
            rw [lots_all l h0]
            refine ⟨_, rfl, ⟨_, rfl, ?_⟩, Mus.Sub.refl _⟩
            simp [lotsD, h6]
  | obj _ _ _ => exact Bool.noConfusion ho
  | mix _ _ _ => exact Bool.noConfusion ho
  | err _ _ _ => exact Bool.noConfusion ho
  | _ =>
    walk_at "drun"
    all_goals exact ⟨_, rfl, ⟨_, rfl, rfl⟩, Mus.Sub.refl _⟩
end
end K12

set_option Elab.async false
set_option linter.all false
set_option maxRecDepth 100000
set_option maxHeartbeats 4000000
namespace K12
open PySem PySem.Spec PyProof.Rows L2 Dat
local macro_rules
  | `(tactic| walk_at "down") => `(tactic| fail "none")
local macro_rules
  | `(tactic| walk_at "dset") => `(tactic| fail "none")
local macro_rules
  | `(tactic| walk_at "dhook") => `(tactic| fail "none")
local macro_rules
  | `(tactic| walk_at "dca") => `(tactic| fail "none")
local macro_rules
  | `(tactic| walk_at "dlst") => `(tactic| refine de_lst ?_)
local macro_rules
  | `(tactic| walk_at "dtup") => `(tactic| refine de_tup ?_)
local macro_rules
  | `(tactic| walk_at "dstep") => `(tactic| first
    | ((with_reducible show DE _ _ _ _ _ _); first | ((with_reducible show DE _ _ (Expr.Name _ _) _ _ _); first | ((with_reducible show DE _ _ (Expr.Name "int" _) _ _ _); refine de_ty_int (by assumption) ?_) | ((with_reducible show DE _ _ (Expr.Name "str" _) _ _ _); refine de_ty_str (by assumption) ?_) | ((with_reducible show DE _ _ (Expr.Name "bool" _) _ _ _); refine de_ty_bool (by assumption) ?_) | ((with_reducible show DE _ _ (Expr.Name "tuple" _) _ _ _); refine de_ty_tuple (by assumption) ?_) | ((with_reducible show DE _ _ (Expr.Name "list" _) _ _ _); refine de_ty_list (by assumption) ?_) | ((with_reducible show DE _ _ (Expr.Name "dict" _) _ _ _); refine de_ty_dict (by assumption) ?_) | refine de_nm rfl ?_ | refine de_globI (by assumption) ?_) | ((with_reducible show DE _ _ (Expr.Constant _ _ _) _ _ _); first | refine de_int ?_ | refine de_str ?_ | refine de_bl ?_ | refine de_non ?_) | ((with_reducible show DE _ _ (Expr.Call (Expr.Name _ _) _ _ _) _ _ _); first | ((with_reducible show DE _ _ (Expr.Call (Expr.Name "isinstance" _) _ _ _) _ _ _); refine de_isinstance ?_ (by assumption)) | ((with_reducible show DE _ _ (Expr.Call (Expr.Name "len" _) _ _ _) _ _ _); refine de_len ?_ (by assumption)) | ((with_reducible show DE _ _ (Expr.Call (Expr.Name "max" _) _ _ _) _ _ _); refine de_max ?_ (by assumption)) | ((with_reducible show DE _ _ (Expr.Call (Expr.Name "min" _) _ _ _) _ _ _); refine de_min ?_ (by assumption)) | ((with_reducible show DE _ _ (Expr.Call (Expr.Name "all" _) _ _ _) _ _ _); refine de_all ?_ (by assumption)) | ((with_reducible show DE _ _ (Expr.Call (Expr.Name "repr" _) _ _ _) _ _ _); refine de_repr ?_ (by assumption)) | ((with_reducible show DE _ _ (Expr.Call (Expr.Name "divmod" _) _ _ _) _ _ _); refine de_divmod ?_ (by assumption)) | ((with_reducible show DE _ _ (Expr.Call (Expr.Name "list" _) _ _ _) _ _ _); refine de_clist ?_ (by assumption)) | ((with_reducible show DE _ _ (Expr.Call (Expr.Name "tuple" _) _ _ _) _ _ _); refine de_ctuple ?_ (by assumption)) | ((with_reducible show DE _ _ (Expr.Call (Expr.Name "int" _) _ _ _) _ _ _); refine de_cint ?_ (by assumption)) | ((with_reducible show DE _ _ (Expr.Call (Expr.Name "str" _) _ _ _) _ _ _); refine de_cstr ?_ (by assumption)) | walk_at "down") | ((with_reducible show DE _ _ (Expr.BinOp _ _ _ _) _ _ _); refine de_op ?_) | ((with_reducible show DE _ _ (Expr.Compare _ [_] _ _) _ _ _); refine de_cmp ?_) | ((with_reducible show DE _ _ (Expr.Compare _ [_, _] _ _) _ _ _); refine de_chain ?_) | ((with_reducible show DE _ _ (Expr.Subscript _ (Expr.Slice _ _ _ _) _) _ _ _); refine de_slice ?_) | ((with_reducible show DE _ _ (Expr.Subscript _ _ _) _ _ _); refine de_ix ?_) | ((with_reducible show DE _ _ (Expr.BoolOp _ [_] _) _ _ _); refine de_one ?_) | ((with_reducible show DE _ _ (Expr.BoolOp BoolOp.And _ _) _ _ _); refine de_and ?_) | ((with_reducible show DE _ _ (Expr.BoolOp BoolOp.Or _ _) _ _ _); refine de_or ?_) | ((with_reducible show DE _ _ (Expr.UnaryOp UnaryOp.Not _ _) _ _ _); refine de_not ?_) | ((with_reducible show DE _ _ (Expr.UnaryOp _ _ _) _ _ _); refine de_un ?_) | ((with_reducible show DE _ _ (Expr.IfExp _ _ _ _) _ _ _); refine de_ifx ?_) | ((with_reducible show DE _ _ (Expr.Tuple _ _ _) _ _ _); walk_at "dtup") | ((with_reducible show DE _ _ (Expr.List _ _) _ _ _); walk_at "dlst") | ((with_reducible show DE _ _ (Expr.Dict [] [] _) _ _ _); refine de_dict0 ?_) | walk_at "dhook")
    | ((with_reducible show DA _ _ _ _ _ _); first | ((with_reducible show DA _ _ [] _ _ _); refine da_nil ?_) | ((with_reducible show DA _ _ (_ :: _) _ _ _); refine da_cons ?_))
    | ((with_reducible show BoolR _ _); refine ⟨_, rfl, ?_⟩)
    | ((with_reducible show (_ = true → _) ∧ (_ = false → _)); (refine ⟨fun h => ?_, fun h => ?_⟩ <;> try (exact Bool.noConfusion h)))
    | ((with_reducible show OpD _ _ _ _ _ _ _); first | ((with_reducible show OpD _ _ (binaryOp Operator.Add) _ _ _ _); first | refine op_addI ?_ | refine op_addT ?_) | ((with_reducible show OpD _ _ (binaryOp Operator.Sub) _ _ _ _); refine op_subI ?_) | ((with_reducible show OpD _ _ (binaryOp Operator.Mod) _ _ _ _); refine op_modI (by first | decide | assumption) ?_) | ((with_reducible show OpD _ _ (binaryOp Operator.Mult) _ _ _ _); refine op_mulI (by first | exact .inr (by decide) | exact .inl (by decide) | (exact .inl (by omega))) ?_) | ((with_reducible show OpD _ _ (binaryOp Operator.Pow) _ _ _ _); refine op_powI (by decide) (by decide) (by decide) ?_) | ((with_reducible show OpD _ _ (binaryOp Operator.FloorDiv) _ _ _ _); refine op_fdivI (by decide) (by decide) ?_) | ((with_reducible show OpD _ _ (compareOp CmpOp.Lt) _ _ _ _); refine op_ltI ?_) | ((with_reducible show OpD _ _ (compareOp CmpOp.LtE) _ _ _ _); first | refine op_leI ?_ | refine op_leS ?_) | ((with_reducible show OpD _ _ (compareOp CmpOp.Gt) _ _ _ _); refine op_gtI ?_) | ((with_reducible show OpD _ _ (compareOp CmpOp.GtE) _ _ _ _); refine op_geI ?_) | ((with_reducible show OpD _ _ (compareOp CmpOp.Eq) _ _ _ _); first | refine op_eqI ?_ | refine op_eqS ?_) | ((with_reducible show OpD _ _ (compareOp CmpOp.NotEq) _ _ _ _); first | refine op_neI ?_ | refine op_neS ?_))
    | ((with_reducible show CaD _ _ _ _ _ _); first | ((with_reducible show CaD _ _ (Value.builtin "isinstance") [_, SV.ty "int"] _ _); refine ca_isi (by assumption) (kit_int _ (by assumption)) ?_) | ((with_reducible show CaD _ _ (Value.builtin "isinstance") [_, SV.ty "bool"] _ _); refine ca_isi (by assumption) (kit_bool _ (by assumption)) ?_) | ((with_reducible show CaD _ _ (Value.builtin "isinstance") [_, SV.ty "str"] _ _); refine ca_isi (by assumption) (kit_str _ (by assumption)) ?_) | ((with_reducible show CaD _ _ (Value.builtin "isinstance") [_, SV.ty "tuple"] _ _); refine ca_isi (by assumption) (kit_tuple _ (by assumption)) ?_) | ((with_reducible show CaD _ _ (Value.builtin "isinstance") [_, SV.ty "list"] _ _); refine ca_isi (by assumption) (kit_list _ (by assumption)) ?_) | ((with_reducible show CaD _ _ (Value.builtin "isinstance") [_, SV.ty "dict"] _ _); refine ca_isi (by assumption) (kit_dict _ (by assumption)) ?_) | ((with_reducible show CaD _ _ (Value.builtin "max") _ _ _); refine ca_max2 rfl ?_) | ((with_reducible show CaD _ _ (Value.builtin "min") _ _ _); refine ca_min2 rfl ?_) | ((with_reducible show CaD _ _ (Value.builtin "len") _ _ _); first | refine ca_lenT ?_ | refine ca_lenS (by assumption) ?_ | refine ca_lenSc ?_ | refine ca_lenL (.inl rfl) ?_) | ((with_reducible show CaD _ _ (Value.type "list") _ _ _); refine ca_listT ?_) | ((with_reducible show CaD _ _ (Value.builtin "divmod") _ _ _); refine ca_divmod (by assumption) (by omega) ?_) | walk_at "dca")
    | ((with_reducible show DT _ _ _ _ _ _); first | ((with_reducible show DT _ _ (Expr.BoolOp _ _ _) _ _ _); refine dt_w ?_) | ((with_reducible show DT _ _ (Expr.UnaryOp UnaryOp.Not _ _) _ _ _); refine dt_not ?_) | ((with_reducible show DT _ _ (Expr.Compare _ [_] _ _) _ _ _); refine dt_cmp ?_) | ((with_reducible show DT _ _ (Expr.Compare _ [_, _] _ _) _ _ _); refine dt_chain ?_) | refine dt_val ?_)
    | ((with_reducible show DW _ _ _ _ _ _); first | ((with_reducible show DW _ _ (Expr.BoolOp BoolOp.And [_] _) _ _ _); refine dw_and1 ?_) | ((with_reducible show DW _ _ (Expr.BoolOp BoolOp.Or [_] _) _ _ _); refine dw_or1 ?_) | ((with_reducible show DW _ _ (Expr.BoolOp BoolOp.And _ _) _ _ _); refine dw_and ?_) | ((with_reducible show DW _ _ (Expr.BoolOp BoolOp.Or _ _) _ _ _); refine dw_or ?_))
    | ((with_reducible show DSs _ _ _ _ _ _); first | ((with_reducible show DSs _ _ [] _ _ _); refine dss_nil ?_) | ((with_reducible show DSs _ _ [_] _ _ _); refine dss_one ?_) | ((with_reducible show DSs _ _ (_ :: _) _ _ _); refine dss_cons ?_))
    | ((with_reducible show DS _ _ _ _ _ _); first | ((with_reducible show DS _ _ (Stmt.Return (some _) _) _ _ _); refine ds_ret ?_) | ((with_reducible show DS _ _ (Stmt.If _ _ _ _) _ _ _); refine ds_if ?_) | ((with_reducible show DS _ _ (Stmt.Expr _ _) _ _ _); refine ds_expr ?_) | ((with_reducible show DS _ _ (Stmt.Assign [Expr.Name _ _] _ _) _ _ _); walk_at "dset"))
    | ((with_reducible show DP _ _ none _ _ _); refine dp_none ?_)
    | ((with_reducible show DP _ _ (some _) _ _ _); refine dp_some ?_)
    | ((with_reducible show ∃ d, SV.dat _ = SV.dat d ∧ Fi d ∧ _); refine ⟨_, rfl, by assumption, ?_⟩)
    | ((with_reducible show ∃ i, SV.dat (Dt.int _) = SV.dat (Dt.int i) ∧ _); refine ⟨_, rfl, ?_⟩)
    | ((with_reducible show SlD _ _ (SV.dat (Dt.tup _)) _ _ _ _); refine sl_dT ?_)
    | ((with_reducible show ∃ ds, undat _ = some ds ∧ ds.length ≤ 1000 ∧ _); refine ⟨_, rfl, Nat.le_of_ble_eq_true rfl, ?_⟩)
    | ((with_reducible show ∃ q, SV.at _ = SV.at q ∧ _); refine ⟨_, rfl, ?_⟩)
    | ((with_reducible show ∃ z, SV.dat (Dt.str _) = SV.dat (Dt.str z) ∧ _); refine ⟨_, rfl, ?_⟩)
    | ((with_reducible show IxD _ _ (SV.at _) (SV.dat (Dt.int 0)) _ _); refine ix_pot0 (by assumption) (fun _ _ => ?_))
    | ((with_reducible show IxD _ _ (SV.at _) (SV.dat (Dt.int 1)) _ _); refine ix_pot1 (by assumption) (fun _ _ _ => ?_))
    | ((with_reducible show UnD _ _ (unaryOp UnaryOp.USub) _ _ _); refine un_negI ?_)
    | ((with_reducible show Po.nx _ _ _); dsimp only)
    | ((with_reducible show Po.rt _ _ _); dsimp only))
local macro_rules
  | `(tactic| walk_at "drun") => `(tactic| repeat' (walk_at "dstep"))

/-! ### the pot -/
def spPot (K : PySem.W.Frag) : Sp := GSp (fun rs _ => ∃ a ns k, rs = [.sc K a ns, .dat (.int k)] ∧ 0 ≤ k ∧ k ≤ 100 ∧ ns.length ≤ 1000) fun rs μ r μ' => ∃ p, r = .at p ∧ μ p = none ∧ μ' = μ.put p .pot
def okM (m : Int) : Prop := 0 < m ∧ m < 1000000
def spTake : Sp := QSp (fun ds => ∃ m, ds = [.int m] ∧ okM m) fun ds r => ∃ m v, ds = [.int m] ∧ r = .int v ∧ 0 ≤ v ∧ v < m
section
variable {X : Cx} {w : Wd} {ρ : List SV} {μ : Mus} {R : SV → Mus → Prop} {e e2 e3 : Expr} {es : List Expr} {x : Str} {p pos : Pos} {j k : Nat}
theorem de_take {x : Str} (O : Own X.prog X.w X.K X.mg X.base x k spTake) (hr : Room j X.A) (hkj : k ≤ j) (hgd : X.A.guards = some [])
    (ha : DE X w e ρ μ fun r μ1 => ∃ q, r = .at q ∧ DE X w e2 ρ μ1 fun r2 μ2 => ∃ m, r2 = .dat (.int m) ∧ μ2 q = some .pot ∧ okM m ∧ ∀ v, 0 ≤ v → v < m → R (.dat (.int v)) μ2) (hg : Gl X x := by rfl) (hdb : (x == ("__debug__" : Str)) = false := by decide)
    (he : starEach [e, e2] X.env = (false, eval e X.env) :: starEach [e2] X.env := by rfl) (he2 : starEach [e2] X.env = (false, eval e2 X.env) :: starEach [] X.env := by rfl) (hpl : (backTo pos (starEach [e2] X.env)).any (·.1) = false := by rfl) : DE X w (.Call (.Name x p) [e, e2] [] pos) ρ μ R :=
  de_pot O hr hkj hgd (da_cons (hs := he) (ha.imp fun r μ1 ⟨q, e1, h1⟩ => by
    subst e1
    exact da_cons (hs := he2) (h1.imp fun r2 μ2 ⟨m, e3, h2, h3, h4⟩ => by
      subst e3
      refine da_nil ⟨q, [.dat (.int m)], [.int m], rfl, rfl, h2, ⟨m, rfl, h3⟩, fun d ⟨m', v, e4, e5, h5, h6⟩ => ?_⟩
      cases e4
      subst e5
      exact h4 v h5 h6))) hg hdb he hpl
end
set_option hygiene false in
local macro_rules
  | `(tactic| walk_at "down") => `(tactic| first | ((with_reducible show DE _ _ (Expr.Call (Expr.Name "_law_take" _) _ _ _) _ _ _); refine de_take oTake hr (by decide) hg ?_))
section
variable {P : Program} {w : World} {K : PySem.W.Frag} {mg : Str → Option Value} {base : Heap}
abbrev sPot : Stmt := top 21
theorem scPot : FnScope ["_law_script", "_law_k", "_law_cell"] ["_law_script", "_law_k"] (defScope sPot) := ⟨rfl, rfl, rfl, by decide +kernel, rfl, by decide +kernel, by decide +kernel⟩
set_option hygiene false in
local macro_rules
  | `(tactic| walk_at "dset") => `(tactic| refine ds_set 2 hN ?_)
local macro_rules
  | `(tactic| walk_at "dlst") => `(tactic| refine de_lstPot ?_)
theorem ok_pot {f : Addr} {fd : FuncData} (F : Fun K "_law_pot" "_law_pot" sPot f fd) (T : Txt mg) : FnG P w K mg base 1 f fd ["_law_script", "_law_k"] (spPot K) := by
  refine fn_ok F scPot (fun rs μ ⟨a, ns, k, e, _⟩ => by rw [e]; rfl) fun cdv A outer s H hr hg w' rs μ ⟨a, ns, k, e, hk0, hk1, hns⟩ => ?_
  subst e
  obtain ⟨t1, t2, t3, t4, t5, t6, t7, t8, t9, t10, t11, t12, t13, t14, t15, t16, t17, t18, t19, t20, t21⟩ := T
  have hN : (["_law_script", "_law_k", "_law_cell"] : List Str).Nodup := by decide +kernel
  have fin : ∀ c : Int, DSs (bx P w K mg base ["_law_script", "_law_k", "_law_cell"] "_law_pot" sPot f cdv A outer s H) w' ((defBody sPot).drop 1) [.sc K a ns, .dat (.int k), .dat (.int c)] μ
      { nx := fun x μ' => ∃ ν, ν.Sub μ' ∧ ∃ p, SV.dat Dt.non = SV.at p ∧ μ p = none ∧ ν = μ.put p .pot, rt := fun r μ' => ∃ ν, ν.Sub μ' ∧ ∃ p, r = SV.at p ∧ μ p = none ∧ ν = μ.put p .pot } := by
    intro c
    refine dss_one ?_
    walk_at "drun"
    refine ⟨_, _, rfl, ?_, ?_, ?_, fun p h1 _ => ⟨_, Mus.Sub.refl _, p, rfl, h1, rfl⟩⟩
    · omega
    · omega
    · omega
  refine dss_cons ?_
  walk_at "drun"
  · rename_i h
    have hk2 := of_decide_eq_true h
    refine ix_sc (n := ns[k.toNat]'(by omega)) ?_ ?_
    · unfold atI ixN
      rw [if_pos hk0, if_pos (by omega)]
      exact List.getElem?_eq_getElem _
    · exact fin _
  · refine ⟨_, _, rfl, ?_, ?_, ?_, fun p h1 _ => ⟨_, Mus.Sub.refl _, p, rfl, h1, rfl⟩⟩
    · omega
    · omega
    · omega
abbrev sTake : Stmt := top 22
theorem scTake : FnScope ["_law_pot_here", "_law_much", "_law_digit"] ["_law_pot_here", "_law_much"] (defScope sTake) := ⟨rfl, rfl, rfl, by decide +kernel, rfl, by decide +kernel, by decide +kernel⟩
theorem ok_take {f : Addr} {fd : FuncData} (F : Fun K "_law_take" "_law_take" sTake f fd) (T : Txt mg) : FnG P w K mg base 1 f fd ["_law_pot_here", "_law_much"] spTake := by
  refine fn_pot F scTake (fun ds ⟨m, e, _⟩ => by rw [e]; rfl) fun cdv A outer s H hr hg w' p ds μ hp ⟨m, e, hm0, hm1⟩ => ?_
  subst e
  obtain ⟨t1, t2, t3, t4, t5, t6, t7, t8, t9, t10, t11, t12, t13, t14, t15, t16, t17, t18, t19, t20, t21⟩ := T
  have hN : (["_law_pot_here", "_law_much", "_law_digit"] : List Str).Nodup := by decide +kernel
  refine dss_cons ?_
  walk_at "drun"
  · rename_i a ha h
    refine ds_asg ?_
    walk_at "drun"
    rename_i a' ha'
    refine dg_tup rfl (dgs_cons (dg_pot ?_) rfl) rfl
    walk_at "drun"
    refine ⟨hp, .inl ⟨rfl, ?_⟩, ?_⟩
    · exact Int.ediv_nonneg ha' (Int.le_of_lt hm0)
    refine dgs_cons (dg_name 2 hN (dgs_nil ?_)) rfl
    walk_at "drun"
    exact ⟨_, rfl, ⟨m, _, rfl, rfl, Int.emod_nonneg _ (by omega), Int.emod_lt_of_pos _ hm0⟩, Mus.Sub.refl _⟩
  · rename_i a ha h
    refine ds_asg ?_
    walk_at "drun"
    refine dg_pot ?_
    walk_at "drun"
    refine ⟨hp, .inr ⟨rfl, ?_, ?_⟩, ?_⟩
    · omega
    · omega
    walk_at "drun"
    exact ⟨_, rfl, ⟨m, _, rfl, rfl, Int.emod_nonneg _ (by omega), Int.emod_lt_of_pos _ hm0⟩, Mus.Sub.refl _⟩
end
theorem put_twice {μ : Mus} {q : Addr} {a b : MO} : (μ.put q a).put q b = μ.put q b := by
  funext c
  unfold Mus.put
  by_cases h : c = q
  · rw [if_pos h, if_pos h]
  · rw [if_neg h, if_neg h, if_neg h]
theorem sub_put {μ : Mus} {q : Addr} {a : MO} (h : μ q = none) : μ.Sub (μ.put q a) := fun c o hc => by
  have : c ≠ q := fun e => by rw [e, h] at hc; cases hc
  rw [put_ne this]; exact hc
theorem pot_ne {μ : Mus} {p q : Addr} {a : MO} (hp : μ p = some .pot) (h : μ q = none) : (μ.put q a) p = some .pot := sub_put h p _ hp
theorem atI_some (ds : List Dt) (v : Int) (h0 : 0 ≤ v) (h1 : v < ds.length) : ∃ d, d ∈ ds ∧ atI ds v = some d := by
  have hl : v.toNat < ds.length := by omega
  exact ⟨ds[v.toNat], List.getElem_mem hl, atI_last ds v _ h0 (List.getElem?_eq_getElem hl)⟩
/-! ### lots that are drawn -/
def spDraw : Sp := QSp (fun ds => ∃ m : Int, ds = [.int m] ∧ 0 ≤ m ∧ m ≤ 6) fun ds r => ∃ ns : List Int, r = .tup (ns.map .int) ∧ ns.length ≤ 6 ∧ ∀ y, y ∈ ns → 0 ≤ y ∧ y ≤ 6
set_option hygiene false in
local macro_rules
  | `(tactic| walk_at "down") => `(tactic| first | ((with_reducible show DE _ _ (Expr.Call (Expr.Name "_law_take" _) _ _ _) _ _ _); refine de_take oTake hr (by decide) hg ?_))
section
variable {P : Program} {w : World} {K : PySem.W.Frag} {mg : Str → Option Value} {base : Heap}
abbrev sDraw : Stmt := top 24
theorem scDraw : FnScope ["_law_pot_here", "_law_many", "_law_found", "_law_k"] ["_law_pot_here", "_law_many"] (defScope sDraw) := ⟨rfl, rfl, rfl, by decide +kernel, rfl, by decide +kernel, by decide +kernel⟩
theorem ok_draw {f : Addr} {fd : FuncData} (F : Fun K "_law_lots" "_law_lots" sDraw f fd) (T : Txt mg) (oTake : Own P w K mg base "_law_take" 1 spTake) : FnG P w K mg base 2 f fd ["_law_pot_here", "_law_many"] spDraw := by
  refine fn_pot F scDraw (fun ds ⟨m, e, _⟩ => by rw [e]; rfl) fun cdv A outer s H hr hg w' p ds μ hp ⟨m, e, hm0, hm1⟩ => ?_
  subst e
  obtain ⟨t1, t2, t3, t4, t5, t6, t7, t8, t9, t10, t11, t12, t13, t14, t15, t16, t17, t18, t19, t20, t21⟩ := T
  have hN : (["_law_pot_here", "_law_many", "_law_found", "_law_k"] : List Str).Nodup := by decide +kernel
  refine dss_cons (ds_set 2 hN (de_lstM (da_nil ⟨[], rfl, by decide, fun q hq0 hw0 => ?_⟩)))
  have hpq : ∀ a, (μ.put q a) p = some .pot := fun a => pot_ne hp hq0
  walk_at "drun"
  refine ds_for (di_range1 ?_ t12) PassesOwn.never rfl
  walk_at "drun"
  refine ⟨m, rfl, by omega, by omega, fun n ρ' μ' => ∃ (a : SV) (ns : List Int), ρ' = [.at p, .dat (.int m), .at q, a] ∧ μ' = μ.put q (.lst (ns.map .int)) ∧ ns.length = n ∧ ∀ y, y ∈ ns → 0 ≤ y ∧ y ≤ n, ⟨.no, [], rfl, rfl, rfl, nofun⟩, ?_, ?_⟩
  · rintro n d' ρ' μ' hi ⟨a, ns, rfl, rfl, hl, hns⟩
    have hn : n < m.toNat := by
      have := (List.getElem?_eq_some_iff.mp hi).1
      simpa [upto] using this
    refine dg_name 3 hN ?_
    refine dss_one ?_
    refine ds_expr (de_bm (T := "list") (id := "list.append") (de_nm rfl ⟨ty_lst (.inr ⟨q, rfl, put_same⟩), ?_⟩) PySem.F.plainAttrs_list PySem.F.slot_list_append PySem.F.type_list_append)
    have hpq' := hpq (.lst (ns.map .int))
    walk_at "drun"
    refine op_addL (ys := [.int (-1)]) (.inr ⟨q, rfl, put_same⟩) (.inl rfl) (small_ok (by simp; omega)) ?_
    walk_at "drun"
    refine ca_maxL rfl (ns := ns ++ [-1]) (.inl (by simp)) (by simp) fun z hz1 hz2 => ?_
    have hz0 : -1 ≤ z := hz2 _ (by simp)
    have hz3 : z ≤ n := by
      rcases List.mem_append.mp hz1 with h | h
      · exact (hns z h).2
      · simp at h; omega
    walk_at "drun"
    refine ⟨hpq', ⟨by omega, by omega⟩, fun v hv0 hv1 => ?_⟩
    walk_at "drun"
    refine mt_appendM put_same (by rw [List.length_map]; omega) ?_
    walk_at "drun"
    refine ⟨_, ns ++ [v], rfl, by rw [put_twice, List.map_append]; rfl, by simp [hl], fun y hy => ?_⟩
    rcases List.mem_append.mp hy with h | h
    · have := hns y h; omega
    · simp at h; omega
  · rintro ρ' μ' ⟨a, ns, rfl, rfl, hl, hns⟩
    walk_at "drun"
    refine ca_tupL (.inr ⟨q, rfl, put_same⟩) ?_
    refine ⟨_, rfl, ⟨ns, rfl, ?_, fun y hy => ?_⟩, sub_put hq0⟩
    · rw [hl]; simp [upto]; omega
    · have := hns y hy
      simp [upto] at this
      omega
end
def ok0 : List Dt → Prop := fun ds => ds = []
section
variable {X : Cx} {w : Wd} {ρ : List SV} {μ : Mus} {R : SV → Mus → Prop} {e e2 e3 : Expr} {es : List Expr} {x : Str} {p pos : Pos} {j k : Nat}
theorem de_q0 {x : Str} {res : List Dt → Dt → Prop} (O : Own X.prog X.w X.K X.mg X.base x k (QSp ok0 res)) (hr : Room j X.A) (hkj : k ≤ j) (hgd : X.A.guards = some [])
    (ha : DE X w e ρ μ fun r μ1 => ∃ q, r = .at q ∧ μ1 q = some .pot ∧ ∀ d, res [] d → R (.dat d) μ1) (hg : Gl X x := by rfl) (hdb : (x == ("__debug__" : Str)) = false := by decide)
    (he : starEach [e] X.env = (false, eval e X.env) :: starEach [] X.env := by rfl) (hpl : (backTo pos (starEach [] X.env)).any (·.1) = false := by rfl) : DE X w (.Call (.Name x p) [e] [] pos) ρ μ R :=
  de_pot O hr hkj hgd (da_cons (hs := he) (ha.imp fun r μ1 ⟨q, e1, h1, h2⟩ => by
    subst e1
    exact da_nil ⟨q, [], [], rfl, rfl, h1, rfl, h2⟩)) hg hdb he hpl
end
section
variable {P : Program} {w : World} {K : PySem.W.Frag} {mg : Str → Option Value} {base : Heap}
/-! ### odd things -/
def chD (s : String) : Dt := .str s
def odds1 : List Dt := [.non, .int 0, .bl false, .bl true, .int 1, .int (-1), .int 7, chD "", chD "A", chD "a b", chD "a1", chD "abcdefghi", chD "a", .tup [], .lst [], .dic [] [], .tup [.int 0], .lst [.int 0], .tup [chD "a"]]
def odds2 : List Dt := [.lst [chD "a"], .tup [.tup []], .tup [.non], .tup [chD "a", .int 1], .tup [chD "a", .int 12], .tup [chD "a", .int (-1)], .tup [chD "A"], .tup [chD "a", .bl true], .dic [chD "a"] [.tup []]]
def tl : Dt → Nat
  | .tup xs => xs.length
  | _ => 0
def Odd (d : Dt) : Prop := fine 64 30 2 d ∧ (hasDic d = true → hasLst d = false) ∧ (noDic d || isDic d) = true ∧ tl d ≤ 2
def spOdd : Sp := QSp ok0 fun _ r => Odd r
def fineB : Nat → Dt → Bool
  | _, .non => true
  | _, .bl _ => true
  | _, .int i => decide (i.natAbs < 10 ^ 30)
  | _, .str x => decide (x.length ≤ 64) && x.cps.toList.all fun c => decide (c < 256)
  | n + 1, .lst xs => decide (xs.length ≤ 30) && xs.all (fineB n)
  | n + 1, .tup xs => decide (xs.length ≤ 30) && xs.all (fineB n)
  | n + 1, .dic ks vs => decide (ks.length ≤ 4) && ks.all (fineB n) && vs.all (fineB n)
  | _, _ => false
theorem fine_of : ∀ (n : Nat) (d : Dt), fineB n d = true → fine 64 30 n d
  | 0, d, h => by
    cases d with
    | str x =>
      simp only [fineB, Bool.and_eq_true, decide_eq_true_eq, List.all_eq_true] at h
      exact h
    | _ => simp_all [fineB, fine]
  | n + 1, d, h => by
    cases d with
    | str x =>
      simp only [fineB, Bool.and_eq_true, decide_eq_true_eq, List.all_eq_true] at h
      exact h
    | lst xs =>
      simp only [fineB, Bool.and_eq_true, decide_eq_true_eq, List.all_eq_true] at h
      exact ⟨h.1, fun d hd => fine_of n d (h.2 d hd)⟩
    | tup xs =>
      simp only [fineB, Bool.and_eq_true, decide_eq_true_eq, List.all_eq_true] at h
      exact ⟨h.1, fun d hd => fine_of n d (h.2 d hd)⟩
    | dic ks vs =>
      simp only [fineB, Bool.and_eq_true, decide_eq_true_eq, List.all_eq_true] at h
      exact ⟨h.1.1, fun d hd => fine_of n d (h.1.2 d hd), fun d hd => fine_of n d (h.2 d hd)⟩
    | _ => simp_all [fineB, fine]
theorem odds_odd : ∀ d, d ∈ odds1 ++ odds2 → Odd d := by
  have h : (odds1 ++ odds2).all (fun d => (fineB 2 d && (!hasDic d || !hasLst d)) && ((noDic d || isDic d) && decide (tl d ≤ 2))) = true := by decide +kernel
  intro d hd
  have := List.all_eq_true.mp h d hd
  rw [Bool.and_eq_true, Bool.and_eq_true, Bool.and_eq_true, decide_eq_true_eq] at this
  refine ⟨fine_of 2 d this.1.1, fun g => ?_, this.2.1, this.2.2⟩
  have h2 := this.1.2
  rw [g] at h2
  simpa using h2
abbrev sOdd : Stmt := top 26
theorem scOdd : FnScope ["_law_pot_here", "_law_some"] ["_law_pot_here"] (defScope sOdd) := ⟨rfl, rfl, rfl, by decide +kernel, rfl, by decide +kernel, by decide +kernel⟩
theorem ok_odd {f : Addr} {fd : FuncData} (F : Fun K "_law_odd" "_law_odd" sOdd f fd) (T : Txt mg) (oTake : Own P w K mg base "_law_take" 1 spTake) : FnG P w K mg base 2 f fd ["_law_pot_here"] spOdd := by
  refine fn_pot F scOdd (fun ds e => by rw [e]; rfl) fun cdv A outer s H hr hg w' p ds μ hp e => ?_
  subst e
  obtain ⟨t1, t2, t3, t4, t5, t6, t7, t8, t9, t10, t11, t12, t13, t14, t15, t16, t17, t18, t19, t20, t21⟩ := T
  have hN : (["_law_pot_here", "_law_some"] : List Str).Nodup := by decide +kernel
  refine dss_cons (ds_set 1 hN ?_)
  walk_at "drun"
  refine ds_set 1 hN ?_
  walk_at "drun"
  refine de_dict1 fun _ => ?_
  walk_at "drun"
  refine ⟨_, rfl, ?_⟩
  walk_at "drun"
  refine op_addL (.inl rfl) (.inl rfl) (small_ok (by decide)) ?_
  walk_at "drun"
  refine ⟨hp, ⟨by decide, by decide⟩, fun v hv0 hv1 => ?_⟩
  obtain ⟨d, hd, hat⟩ := atI_some (odds1 ++ odds2) v hv0 (by simpa [odds1, odds2] using hv1)
  exact ix_dL (.inl rfl) hat ⟨_, rfl, odds_odd d hd, Mus.Sub.refl _⟩
end
end K12

set_option Elab.async false
set_option linter.all false
set_option maxRecDepth 100000
set_option maxHeartbeats 4000000
namespace K12
open PySem PySem.Spec PyProof.Rows L2 Dat Er Mx
local macro_rules
  | `(tactic| walk_at "down") => `(tactic| fail "none")
local macro_rules
  | `(tactic| walk_at "dset") => `(tactic| fail "none")
local macro_rules
  | `(tactic| walk_at "dhook") => `(tactic| fail "none")
local macro_rules
  | `(tactic| walk_at "dca") => `(tactic| fail "none")
local macro_rules
  | `(tactic| walk_at "dlst") => `(tactic| refine de_lst ?_)
local macro_rules
  | `(tactic| walk_at "dtup") => `(tactic| refine de_tup ?_)
local macro_rules
  | `(tactic| walk_at "dstep") => `(tactic| first
    | ((with_reducible show DE _ _ _ _ _ _); first | ((with_reducible show DE _ _ (Expr.Name _ _) _ _ _); first | ((with_reducible show DE _ _ (Expr.Name "int" _) _ _ _); refine de_ty_int (by assumption) ?_) | ((with_reducible show DE _ _ (Expr.Name "str" _) _ _ _); refine de_ty_str (by assumption) ?_) | ((with_reducible show DE _ _ (Expr.Name "bool" _) _ _ _); refine de_ty_bool (by assumption) ?_) | ((with_reducible show DE _ _ (Expr.Name "tuple" _) _ _ _); refine de_ty_tuple (by assumption) ?_) | ((with_reducible show DE _ _ (Expr.Name "list" _) _ _ _); refine de_ty_list (by assumption) ?_) | ((with_reducible show DE _ _ (Expr.Name "dict" _) _ _ _); refine de_ty_dict (by assumption) ?_) | refine de_nm rfl ?_ | refine de_globI (by assumption) ?_) | ((with_reducible show DE _ _ (Expr.Constant _ _ _) _ _ _); first | refine de_int ?_ | refine de_str ?_ | refine de_bl ?_ | refine de_non ?_) | ((with_reducible show DE _ _ (Expr.Call (Expr.Name _ _) _ _ _) _ _ _); first | ((with_reducible show DE _ _ (Expr.Call (Expr.Name "isinstance" _) _ _ _) _ _ _); refine de_isinstance ?_ (by assumption)) | ((with_reducible show DE _ _ (Expr.Call (Expr.Name "len" _) _ _ _) _ _ _); refine de_len ?_ (by assumption)) | ((with_reducible show DE _ _ (Expr.Call (Expr.Name "max" _) _ _ _) _ _ _); refine de_max ?_ (by assumption)) | ((with_reducible show DE _ _ (Expr.Call (Expr.Name "min" _) _ _ _) _ _ _); refine de_min ?_ (by assumption)) | ((with_reducible show DE _ _ (Expr.Call (Expr.Name "all" _) _ _ _) _ _ _); refine de_all ?_ (by assumption)) | ((with_reducible show DE _ _ (Expr.Call (Expr.Name "repr" _) _ _ _) _ _ _); refine de_repr ?_ (by assumption)) | ((with_reducible show DE _ _ (Expr.Call (Expr.Name "divmod" _) _ _ _) _ _ _); refine de_divmod ?_ (by assumption)) | ((with_reducible show DE _ _ (Expr.Call (Expr.Name "list" _) _ _ _) _ _ _); refine de_clist ?_ (by assumption)) | ((with_reducible show DE _ _ (Expr.Call (Expr.Name "tuple" _) _ _ _) _ _ _); refine de_ctuple ?_ (by assumption)) | ((with_reducible show DE _ _ (Expr.Call (Expr.Name "int" _) _ _ _) _ _ _); refine de_cint ?_ (by assumption)) | ((with_reducible show DE _ _ (Expr.Call (Expr.Name "str" _) _ _ _) _ _ _); refine de_cstr ?_ (by assumption)) | walk_at "down") | ((with_reducible show DE _ _ (Expr.BinOp _ _ _ _) _ _ _); refine de_op ?_) | ((with_reducible show DE _ _ (Expr.Compare _ [_] _ _) _ _ _); refine de_cmp ?_) | ((with_reducible show DE _ _ (Expr.Compare _ [_, _] _ _) _ _ _); refine de_chain ?_) | ((with_reducible show DE _ _ (Expr.Subscript _ (Expr.Slice _ _ _ _) _) _ _ _); refine de_slice ?_) | ((with_reducible show DE _ _ (Expr.Subscript _ _ _) _ _ _); refine de_ix ?_) | ((with_reducible show DE _ _ (Expr.BoolOp _ [_] _) _ _ _); refine de_one ?_) | ((with_reducible show DE _ _ (Expr.BoolOp BoolOp.And _ _) _ _ _); refine de_and ?_) | ((with_reducible show DE _ _ (Expr.BoolOp BoolOp.Or _ _) _ _ _); refine de_or ?_) | ((with_reducible show DE _ _ (Expr.UnaryOp UnaryOp.Not _ _) _ _ _); refine de_not ?_) | ((with_reducible show DE _ _ (Expr.UnaryOp _ _ _) _ _ _); refine de_un ?_) | ((with_reducible show DE _ _ (Expr.IfExp _ _ _ _) _ _ _); refine de_ifx ?_) | ((with_reducible show DE _ _ (Expr.Tuple _ _ _) _ _ _); walk_at "dtup") | ((with_reducible show DE _ _ (Expr.List _ _) _ _ _); walk_at "dlst") | ((with_reducible show DE _ _ (Expr.Dict [] [] _) _ _ _); refine de_dict0 ?_) | walk_at "dhook")
    | ((with_reducible show DA _ _ _ _ _ _); first | ((with_reducible show DA _ _ [] _ _ _); refine da_nil ?_) | ((with_reducible show DA _ _ (_ :: _) _ _ _); refine da_cons ?_))
    | ((with_reducible show BoolR _ _); refine ⟨_, rfl, ?_⟩)
    | ((with_reducible show (_ = true → _) ∧ (_ = false → _)); (refine ⟨fun h => ?_, fun h => ?_⟩ <;> try (exact Bool.noConfusion h)))
    | ((with_reducible show OpD _ _ _ _ _ _ _); first | ((with_reducible show OpD _ _ (binaryOp Operator.Add) _ _ _ _); first | refine op_addI ?_ | refine op_addT ?_) | ((with_reducible show OpD _ _ (binaryOp Operator.Sub) _ _ _ _); refine op_subI ?_) | ((with_reducible show OpD _ _ (binaryOp Operator.Mod) _ _ _ _); refine op_modI (by first | decide | assumption) ?_) | ((with_reducible show OpD _ _ (binaryOp Operator.Mult) _ _ _ _); refine op_mulI (by first | exact .inr (by decide) | exact .inl (by decide) | (exact .inl (by omega))) ?_) | ((with_reducible show OpD _ _ (binaryOp Operator.Pow) _ _ _ _); refine op_powI (by decide) (by decide) (by decide) ?_) | ((with_reducible show OpD _ _ (binaryOp Operator.FloorDiv) _ _ _ _); refine op_fdivI (by decide) (by decide) ?_) | ((with_reducible show OpD _ _ (compareOp CmpOp.Lt) _ _ _ _); refine op_ltI ?_) | ((with_reducible show OpD _ _ (compareOp CmpOp.LtE) _ _ _ _); first | refine op_leI ?_ | refine op_leS ?_) | ((with_reducible show OpD _ _ (compareOp CmpOp.Gt) _ _ _ _); refine op_gtI ?_) | ((with_reducible show OpD _ _ (compareOp CmpOp.GtE) _ _ _ _); refine op_geI ?_) | ((with_reducible show OpD _ _ (compareOp CmpOp.Eq) _ _ _ _); first | refine op_eqI ?_ | refine op_eqS ?_) | ((with_reducible show OpD _ _ (compareOp CmpOp.NotEq) _ _ _ _); first | refine op_neI ?_ | refine op_neS ?_))
    | ((with_reducible show CaD _ _ _ _ _ _); first | ((with_reducible show CaD _ _ (Value.builtin "isinstance") [_, SV.ty "int"] _ _); refine ca_isi (by assumption) (kit_int _ (by assumption)) ?_) | ((with_reducible show CaD _ _ (Value.builtin "isinstance") [_, SV.ty "bool"] _ _); refine ca_isi (by assumption) (kit_bool _ (by assumption)) ?_) | ((with_reducible show CaD _ _ (Value.builtin "isinstance") [_, SV.ty "str"] _ _); refine ca_isi (by assumption) (kit_str _ (by assumption)) ?_) | ((with_reducible show CaD _ _ (Value.builtin "isinstance") [_, SV.ty "tuple"] _ _); refine ca_isi (by assumption) (kit_tuple _ (by assumption)) ?_) | ((with_reducible show CaD _ _ (Value.builtin "isinstance") [_, SV.ty "list"] _ _); refine ca_isi (by assumption) (kit_list _ (by assumption)) ?_) | ((with_reducible show CaD _ _ (Value.builtin "isinstance") [_, SV.ty "dict"] _ _); refine ca_isi (by assumption) (kit_dict _ (by assumption)) ?_) | ((with_reducible show CaD _ _ (Value.builtin "max") _ _ _); refine ca_max2 rfl ?_) | ((with_reducible show CaD _ _ (Value.builtin "min") _ _ _); refine ca_min2 rfl ?_) | ((with_reducible show CaD _ _ (Value.builtin "len") _ _ _); first | refine ca_lenT ?_ | refine ca_lenS (by assumption) ?_ | refine ca_lenSc ?_ | refine ca_lenL (.inl rfl) ?_) | ((with_reducible show CaD _ _ (Value.type "list") _ _ _); refine ca_listT ?_) | ((with_reducible show CaD _ _ (Value.builtin "divmod") _ _ _); refine ca_divmod (by assumption) (by omega) ?_) | walk_at "dca")
    | ((with_reducible show DT _ _ _ _ _ _); first | ((with_reducible show DT _ _ (Expr.BoolOp _ _ _) _ _ _); refine dt_w ?_) | ((with_reducible show DT _ _ (Expr.UnaryOp UnaryOp.Not _ _) _ _ _); refine dt_not ?_) | ((with_reducible show DT _ _ (Expr.Compare _ [_] _ _) _ _ _); refine dt_cmp ?_) | ((with_reducible show DT _ _ (Expr.Compare _ [_, _] _ _) _ _ _); refine dt_chain ?_) | refine dt_val ?_)
    | ((with_reducible show DW _ _ _ _ _ _); first | ((with_reducible show DW _ _ (Expr.BoolOp BoolOp.And [_] _) _ _ _); refine dw_and1 ?_) | ((with_reducible show DW _ _ (Expr.BoolOp BoolOp.Or [_] _) _ _ _); refine dw_or1 ?_) | ((with_reducible show DW _ _ (Expr.BoolOp BoolOp.And _ _) _ _ _); refine dw_and ?_) | ((with_reducible show DW _ _ (Expr.BoolOp BoolOp.Or _ _) _ _ _); refine dw_or ?_))
    | ((with_reducible show DSs _ _ _ _ _ _); first | ((with_reducible show DSs _ _ [] _ _ _); refine dss_nil ?_) | ((with_reducible show DSs _ _ [_] _ _ _); refine dss_one ?_) | ((with_reducible show DSs _ _ (_ :: _) _ _ _); refine dss_cons ?_))
    | ((with_reducible show DS _ _ _ _ _ _); first | ((with_reducible show DS _ _ (Stmt.Return (some _) _) _ _ _); refine ds_ret ?_) | ((with_reducible show DS _ _ (Stmt.If _ _ _ _) _ _ _); refine ds_if ?_) | ((with_reducible show DS _ _ (Stmt.Expr _ _) _ _ _); refine ds_expr ?_) | ((with_reducible show DS _ _ (Stmt.Assign [Expr.Name _ _] _ _) _ _ _); walk_at "dset"))
    | ((with_reducible show DP _ _ none _ _ _); refine dp_none ?_)
    | ((with_reducible show DP _ _ (some _) _ _ _); refine dp_some ?_)
    | ((with_reducible show ∃ d, SV.dat _ = SV.dat d ∧ Fi d ∧ _); refine ⟨_, rfl, by assumption, ?_⟩)
    | ((with_reducible show ∃ i, SV.dat (Dt.int _) = SV.dat (Dt.int i) ∧ _); refine ⟨_, rfl, ?_⟩)
    | ((with_reducible show SlD _ _ (SV.dat (Dt.tup _)) _ _ _ _); refine sl_dT ?_)
    | ((with_reducible show ∃ ds, undat _ = some ds ∧ ds.length ≤ 1000 ∧ _); refine ⟨_, rfl, Nat.le_of_ble_eq_true rfl, ?_⟩)
    | ((with_reducible show ∃ q, SV.at _ = SV.at q ∧ _); refine ⟨_, rfl, ?_⟩)
    | ((with_reducible show ∃ z, SV.dat (Dt.str _) = SV.dat (Dt.str z) ∧ _); refine ⟨_, rfl, ?_⟩)
    | ((with_reducible show IxD _ _ (SV.at _) (SV.dat (Dt.int 0)) _ _); refine ix_pot0 (by assumption) (fun _ _ => ?_))
    | ((with_reducible show IxD _ _ (SV.at _) (SV.dat (Dt.int 1)) _ _); refine ix_pot1 (by assumption) (fun _ _ _ => ?_))
    | ((with_reducible show UnD _ _ (unaryOp UnaryOp.USub) _ _ _); refine un_negI ?_)
    | ((with_reducible show Po.nx _ _ _); dsimp only)
    | ((with_reducible show Po.rt _ _ _); dsimp only))
local macro_rules
  | `(tactic| walk_at "drun") => `(tactic| repeat' (walk_at "dstep"))

/-! ### what is handed in for a table; the classes -/
structure Cl where
  fe : Addr
  nk : Addr
  ki : Addr
  kc : Addr
  nb : Addr
  nc : Addr
  nh : Addr
  nr : Addr
  nt : Addr
  nw : Addr
  nx : Addr
def okTwo : List Dt → Prop := fun ds => ∀ d, ds[0]? = some d → FmtOk d
structure Ern (P : Program) (w : World) (K : PySem.W.Frag) (mg : Str → Option Value) (E : Cl) : Prop where
  nkg : mg "NoKinds" = some (.ref E.nk)
  nkk : PySem.W.keepIn K (.ref E.nk) = true
  nkM : MkE P w K mg E.nk ["what", "who"] okTwo (sh2 "what" "who")
  nkS : PySem.W.subIn K (.ref E.nk) (.type "BaseException") = some true
  nkT : PySem.W.typeIn K (.ref E.nk) = some (.type "type")
  kig : mg "NoKind" = some (.ref E.ki)
  kik : PySem.W.keepIn K (.ref E.ki) = true
  kiM : MkE P w K mg E.ki ["word"] (fun _ => True) (sh1 "word")
  kiS : PySem.W.subIn K (.ref E.ki) (.type "BaseException") = some true
  kiT : PySem.W.typeIn K (.ref E.ki) = some (.type "type")
theorem sh2_all {f f2 : Str} : ∀ vs : List Value, vs.length = 2 → sh2 f f2 vs vs []
  | [v, v2], _ => ⟨v, v2, rfl, .inl ⟨rfl, rfl⟩⟩
theorem sh1_all {f : Str} : ∀ vs : List Value, vs.length = 1 → sh1 f vs vs []
  | [v], _ => ⟨v, rfl, .inl ⟨rfl, rfl⟩⟩
def dueL : Tbl → Option (Dt × Dt)
  | [] => none
  | x :: l => if nameD x.1 then (if lotsD x.2 then dueL l else some (chD "lots", x.1)) else some (chD "name", x.1)
def dueT (l : Tbl) : Option (Dt × Dt) := if 12 < l.length then some (chD "many", .non) else dueL l
def dueD : Dt → Option (Dt × Dt)
  | .mix _ ks vs => dueT (ks.zip vs)
  | _ => some (chD "table", .non)
theorem zip_tbl : ∀ l : Tbl, (l.map (·.1)).zip (l.map (·.2)) = l
  | [] => rfl
  | x :: l => by rw [List.map_cons, List.map_cons, List.zip_cons_cons, zip_tbl l]
theorem due_mix (w : World) (l : Tbl) : dueD (mixD w l) = dueT l := by
  show dueT _ = _
  rw [zip_tbl]
/-- a table as it is handed in: a dict of any keys, or another thing -/
structure TbOk (l : Tbl) : Prop where
  gk : GoodK l
  len : l.length ≤ 16
  fk : ∀ x ∈ l, fine 64 30 2 x.1
  fv : ∀ x ∈ l, fine 64 30 2 x.2
def InOk (w : World) (d : Dt) : Prop := (∃ l, d = mixD w l ∧ TbOk l) ∨ (isObj' d = false ∧ isDic d = false)
def spCheck (w : World) (E : Cl) : Sp := FSp E.nk ["what", "who"] (fun rs _ => ∃ d, rs = [.dat d] ∧ InOk w d) (fun rs μ r μ' => ∃ d, rs = [.dat d] ∧ dueD d = none ∧ r = .dat .non ∧ μ' = μ) (fun rs μ ds μ' => ∃ d x y, rs = [.dat d] ∧ dueD d = some (x, y) ∧ ds = [x, y] ∧ μ' = μ)
theorem fmt_ok {x : Str} (h : x.length ≤ 64 ∧ ∀ c ∈ x.cps.toList, c < 256 := by decide +kernel) : FmtOk (.str x) := by
  have f : fine 64 30 1 (.str x) := fine_str 1 h
  have le : fineL 64 30 1 ≤ 16000000 := by decide
  have len := fine_len 1 _ f
  exact ⟨fine_shown f (Nat.le_trans le (by decide)) (by decide) (fun z => by simp [hasDic] at z), fun z e => by cases e; exact Nat.le_trans h.1 (by decide), nofun, Nat.le_trans len le⟩
set_option hygiene false in
local macro_rules
  | `(tactic| walk_at "down") => `(tactic| first | ((with_reducible show DE _ _ (Expr.Call (Expr.Name "is_name" _) _ _ _) _ _ _); refine de_p1 oName hr (by decide) hg ?_) | ((with_reducible show DE _ _ (Expr.Call (Expr.Name "is_lots" _) _ _ _) _ _ _); refine de_p1 oLots hr (by decide) hg ?_))
section
variable {P : Program} {w : World} {K : PySem.W.Frag} {mg : Str → Option Value} {base : Heap}
abbrev sCheck : Stmt := top 18
abbrev nCheck : List Str := ["table", "word", "lots"]
theorem scCheck : FnScope nCheck ["table"] (defScope sCheck) := ⟨rfl, rfl, rfl, by decide +kernel, rfl, by decide +kernel, by decide +kernel⟩
theorem ok_check {E : Cl} {f : Addr} {fd : FuncData} (F : Fun K "_check_table" "_check_table" sCheck f fd) (T : Txt mg) (R : Ern P w K mg E) (oName : Own P w K mg base "is_name" 1 spName) (oLots : Own P w K mg base "is_lots" 2 spLots) : FnX P w K mg base 3 f fd ["table"] (spCheck w E) := by
  refine fnf_ok F scCheck (fun rs μ ⟨d, e, _⟩ => by rw [e]; rfl) fun cdv A outer s H XE hr hg w' rs μ ⟨d, e, hd⟩ hE => ?_
  subst e
  obtain ⟨t1, t2, t3, t4, t5, t6, t7, t8, t9, t10, t11, t12, t13, t14, t15, t16, t17, t18, t19, t20, t21⟩ := T
  have hN : nCheck.Nodup := by decide +kernel
  have rai : Raises (bxx P w K mg base nCheck "_check_table" sCheck f cdv A outer s H XE) (.ref E.nk) := raises_own R.nkS R.nkT
  have err : ∀ {x y : Dt} {μ2 : Mus}, dueD d = some (x, y) → μ2 = μ → ∀ (σ : L2.St) (B H' : Hp) (dx : Addr) (ρ : List SV), Sto B σ ρ → SInv w' B H' μ2 → ErrAt B dx ["what", "who"] [x, y] → XE (.ref E.nk) (some dx) H' := fun {x y μ2} hx e σ B H' dx ρ _ I er => hE [x, y] μ2 ⟨d, x, y, rfl, hx, rfl, e⟩ B H' μ2 dx (Mus.Sub.refl _) I er
  refine dss_cons ?_
  rcases hd with ⟨l, rfl, ok⟩ | ⟨ho, hn⟩
  · have hdue := due_mix w l
    refine ds_if (dt_not (dt_val (de_isinstance ?_ t1)))
    walk_at "drun"
    refine ca_isTb (.inl rfl) (by decide +kernel : kitB "dict" "dict" = some true) ?_
    walk_at "drun"
    refine ca_lenTb (.inl rfl) ?_
    walk_at "drun"
    · rename_i h1
      have h1' : 12 < l.length := by have := of_decide_eq_true h1; omega
      refine ds_raiseF R.nkM sh2_all (takes_of rfl rfl rfl rfl) rfl (hr.mono (by decide)) hg R.nkg R.nkk rai ?_
      walk_at "drun"
      refine ⟨_, rfl, rfl, ?_, ?_⟩
      · intro d hd; cases hd; exact fmt_ok
      · exact fun σ B H dx S I er => err (by rw [hdue]; unfold dueT; rw [if_pos h1']; rfl) rfl σ B H dx _ S I er
    · rename_i h1
      have h1' : ¬ 12 < l.length := by have := of_decide_eq_false h1; omega
      have hdl : dueD (mixD w l) = dueL l := by rw [hdue]; unfold dueT; rw [if_neg h1']
      refine ds_for (di_itemsT (de_nm rfl ⟨l, ⟨_, rfl⟩, fun n ρ' μ' => μ' = μ ∧ ∃ a b : SV, ρ' = [.dat (mixD w l), a, b] ∧ dueL l = dueL (l.drop n), ⟨rfl, .no, .no, rfl, rfl⟩, ?_, ?_⟩)) (passes_of rfl) rfl
      · rintro n d ρ' μ' hi ⟨rfl, a, b, rfl, he⟩
        obtain ⟨x, hx, rfl⟩ : ∃ x, l[n]? = some x ∧ d = pairD x := by
          rw [List.getElem?_map] at hi
          cases e : l[n]? with
          | none => rw [e] at hi; cases hi
          | some x => rw [e] at hi; cases hi; exact ⟨x, rfl, rfl⟩
        have hm : x ∈ l := List.mem_of_getElem? hx
        have f1 : Fi x.1 := ⟨2, ok.fk x hm⟩
        have f2 : Fi x.2 := ⟨2, ok.fv x hm⟩
        have hd2 : l.drop n = x :: l.drop (n + 1) := List.drop_eq_getElem?_toList_append.trans (by rw [hx]; rfl)
        refine dg_tup rfl (dgs_cons (dg_name 1 hN (dgs_cons (dg_name 2 hN (dgs_nil ?_)) rfl)) rfl) rfl
        refine dss_cons ?_
        walk_at "drun"
        · rename_i g1
          have g1' : nameD x.1 = false := by simpa using g1
          refine ds_raiseF R.nkM sh2_all (takes_of rfl rfl rfl rfl) rfl (hr.mono (by decide)) hg R.nkg R.nkk rai ?_
          walk_at "drun"
          refine ⟨_, rfl, rfl, ?_, ?_⟩
          · intro d hd; cases hd; exact fmt_ok
          · exact fun σ B H dx S I er => err (by rw [hdl, he, hd2]; unfold dueL; rw [g1']; rfl) rfl σ B H dx _ S I er
        · rename_i g1 g2
          have g1' : nameD x.1 = true := by simpa using g1
          have g2' : lotsD x.2 = false := by simpa using g2
          refine ds_raiseF R.nkM sh2_all (takes_of rfl rfl rfl rfl) rfl (hr.mono (by decide)) hg R.nkg R.nkk rai ?_
          walk_at "drun"
          refine ⟨_, rfl, rfl, ?_, ?_⟩
          · intro d hd; cases hd; exact fmt_ok
          · exact fun σ B H dx S I er => err (by rw [hdl, he, hd2]; unfold dueL; rw [g1', g2']; rfl) rfl σ B H dx _ S I er
        · rename_i g1 g2
          have g1' : nameD x.1 = true := by simpa using g1
          have g2' : lotsD x.2 = true := by simpa using g2
          refine ⟨rfl, _, _, rfl, ?_⟩
          rw [he, hd2]
          conv => lhs; unfold dueL
          rw [g1', g2']
          rfl
      · rintro ρ' μ' ⟨rfl, a, b, rfl, he⟩
        rw [List.length_map, List.drop_length] at he
        exact ⟨_, Mus.Sub.refl _, _, rfl, by rw [hdl, he]; rfl, rfl, rfl⟩
  · walk_at "drun"
    · refine ds_raiseF R.nkM sh2_all (takes_of rfl rfl rfl rfl) rfl (hr.mono (by decide)) hg R.nkg R.nkk rai ?_
      walk_at "drun"
      refine ⟨_, rfl, rfl, ?_, ?_⟩
      · intro d hd; cases hd; exact fmt_ok
      · exact fun σ B H dx S I er => err (by cases d <;> first | rfl | (simp [isObj'] at ho)) rfl σ B H dx _ S I er
    all_goals exact absurd hn (by simp_all)
end
end K12

set_option Elab.async false
set_option linter.all false
set_option maxRecDepth 100000
set_option maxHeartbeats 4000000
namespace K12
open PySem PySem.Spec PyProof.Rows L2 Dat Er Mx
local macro_rules
  | `(tactic| walk_at "down") => `(tactic| fail "none")
local macro_rules
  | `(tactic| walk_at "dset") => `(tactic| fail "none")
local macro_rules
  | `(tactic| walk_at "dhook") => `(tactic| fail "none")
local macro_rules
  | `(tactic| walk_at "dca") => `(tactic| fail "none")
local macro_rules
  | `(tactic| walk_at "dlst") => `(tactic| refine de_lst ?_)
local macro_rules
  | `(tactic| walk_at "dtup") => `(tactic| refine de_tup ?_)
local macro_rules
  | `(tactic| walk_at "dstep") => `(tactic| first
    | ((with_reducible show DE _ _ _ _ _ _); first | ((with_reducible show DE _ _ (Expr.Name _ _) _ _ _); first | ((with_reducible show DE _ _ (Expr.Name "int" _) _ _ _); refine de_ty_int (by assumption) ?_) | ((with_reducible show DE _ _ (Expr.Name "str" _) _ _ _); refine de_ty_str (by assumption) ?_) | ((with_reducible show DE _ _ (Expr.Name "bool" _) _ _ _); refine de_ty_bool (by assumption) ?_) | ((with_reducible show DE _ _ (Expr.Name "tuple" _) _ _ _); refine de_ty_tuple (by assumption) ?_) | ((with_reducible show DE _ _ (Expr.Name "list" _) _ _ _); refine de_ty_list (by assumption) ?_) | ((with_reducible show DE _ _ (Expr.Name "dict" _) _ _ _); refine de_ty_dict (by assumption) ?_) | refine de_nm rfl ?_ | refine de_globI (by assumption) ?_) | ((with_reducible show DE _ _ (Expr.Constant _ _ _) _ _ _); first | refine de_int ?_ | refine de_str ?_ | refine de_bl ?_ | refine de_non ?_) | ((with_reducible show DE _ _ (Expr.Call (Expr.Name _ _) _ _ _) _ _ _); first | ((with_reducible show DE _ _ (Expr.Call (Expr.Name "isinstance" _) _ _ _) _ _ _); refine de_isinstance ?_ (by assumption)) | ((with_reducible show DE _ _ (Expr.Call (Expr.Name "len" _) _ _ _) _ _ _); refine de_len ?_ (by assumption)) | ((with_reducible show DE _ _ (Expr.Call (Expr.Name "max" _) _ _ _) _ _ _); refine de_max ?_ (by assumption)) | ((with_reducible show DE _ _ (Expr.Call (Expr.Name "min" _) _ _ _) _ _ _); refine de_min ?_ (by assumption)) | ((with_reducible show DE _ _ (Expr.Call (Expr.Name "all" _) _ _ _) _ _ _); refine de_all ?_ (by assumption)) | ((with_reducible show DE _ _ (Expr.Call (Expr.Name "repr" _) _ _ _) _ _ _); refine de_repr ?_ (by assumption)) | ((with_reducible show DE _ _ (Expr.Call (Expr.Name "divmod" _) _ _ _) _ _ _); refine de_divmod ?_ (by assumption)) | ((with_reducible show DE _ _ (Expr.Call (Expr.Name "list" _) _ _ _) _ _ _); refine de_clist ?_ (by assumption)) | ((with_reducible show DE _ _ (Expr.Call (Expr.Name "tuple" _) _ _ _) _ _ _); refine de_ctuple ?_ (by assumption)) | ((with_reducible show DE _ _ (Expr.Call (Expr.Name "int" _) _ _ _) _ _ _); refine de_cint ?_ (by assumption)) | ((with_reducible show DE _ _ (Expr.Call (Expr.Name "str" _) _ _ _) _ _ _); refine de_cstr ?_ (by assumption)) | walk_at "down") | ((with_reducible show DE _ _ (Expr.BinOp _ _ _ _) _ _ _); refine de_op ?_) | ((with_reducible show DE _ _ (Expr.Compare _ [_] _ _) _ _ _); refine de_cmp ?_) | ((with_reducible show DE _ _ (Expr.Compare _ [_, _] _ _) _ _ _); refine de_chain ?_) | ((with_reducible show DE _ _ (Expr.Subscript _ (Expr.Slice _ _ _ _) _) _ _ _); refine de_slice ?_) | ((with_reducible show DE _ _ (Expr.Subscript _ _ _) _ _ _); refine de_ix ?_) | ((with_reducible show DE _ _ (Expr.BoolOp _ [_] _) _ _ _); refine de_one ?_) | ((with_reducible show DE _ _ (Expr.BoolOp BoolOp.And _ _) _ _ _); refine de_and ?_) | ((with_reducible show DE _ _ (Expr.BoolOp BoolOp.Or _ _) _ _ _); refine de_or ?_) | ((with_reducible show DE _ _ (Expr.UnaryOp UnaryOp.Not _ _) _ _ _); refine de_not ?_) | ((with_reducible show DE _ _ (Expr.UnaryOp _ _ _) _ _ _); refine de_un ?_) | ((with_reducible show DE _ _ (Expr.IfExp _ _ _ _) _ _ _); refine de_ifx ?_) | ((with_reducible show DE _ _ (Expr.Tuple _ _ _) _ _ _); walk_at "dtup") | ((with_reducible show DE _ _ (Expr.List _ _) _ _ _); walk_at "dlst") | ((with_reducible show DE _ _ (Expr.Dict [] [] _) _ _ _); refine de_dict0 ?_) | walk_at "dhook")
    | ((with_reducible show DA _ _ _ _ _ _); first | ((with_reducible show DA _ _ [] _ _ _); refine da_nil ?_) | ((with_reducible show DA _ _ (_ :: _) _ _ _); refine da_cons ?_))
    | ((with_reducible show BoolR _ _); refine ⟨_, rfl, ?_⟩)
    | ((with_reducible show (_ = true → _) ∧ (_ = false → _)); (refine ⟨fun h => ?_, fun h => ?_⟩ <;> try (exact Bool.noConfusion h)))
    | ((with_reducible show OpD _ _ _ _ _ _ _); first | ((with_reducible show OpD _ _ (binaryOp Operator.Add) _ _ _ _); first | refine op_addI ?_ | refine op_addT ?_) | ((with_reducible show OpD _ _ (binaryOp Operator.Sub) _ _ _ _); refine op_subI ?_) | ((with_reducible show OpD _ _ (binaryOp Operator.Mod) _ _ _ _); refine op_modI (by first | decide | assumption) ?_) | ((with_reducible show OpD _ _ (binaryOp Operator.Mult) _ _ _ _); refine op_mulI (by first | exact .inr (by decide) | exact .inl (by decide) | (exact .inl (by omega))) ?_) | ((with_reducible show OpD _ _ (binaryOp Operator.Pow) _ _ _ _); refine op_powI (by decide) (by decide) (by decide) ?_) | ((with_reducible show OpD _ _ (binaryOp Operator.FloorDiv) _ _ _ _); refine op_fdivI (by decide) (by decide) ?_) | ((with_reducible show OpD _ _ (compareOp CmpOp.Lt) _ _ _ _); refine op_ltI ?_) | ((with_reducible show OpD _ _ (compareOp CmpOp.LtE) _ _ _ _); first | refine op_leI ?_ | refine op_leS ?_) | ((with_reducible show OpD _ _ (compareOp CmpOp.Gt) _ _ _ _); refine op_gtI ?_) | ((with_reducible show OpD _ _ (compareOp CmpOp.GtE) _ _ _ _); refine op_geI ?_) | ((with_reducible show OpD _ _ (compareOp CmpOp.Eq) _ _ _ _); first | refine op_eqI ?_ | refine op_eqS ?_) | ((with_reducible show OpD _ _ (compareOp CmpOp.NotEq) _ _ _ _); first | refine op_neI ?_ | refine op_neS ?_))
    | ((with_reducible show CaD _ _ _ _ _ _); first | ((with_reducible show CaD _ _ (Value.builtin "isinstance") [_, SV.ty "int"] _ _); refine ca_isi (by assumption) (kit_int _ (by assumption)) ?_) | ((with_reducible show CaD _ _ (Value.builtin "isinstance") [_, SV.ty "bool"] _ _); refine ca_isi (by assumption) (kit_bool _ (by assumption)) ?_) | ((with_reducible show CaD _ _ (Value.builtin "isinstance") [_, SV.ty "str"] _ _); refine ca_isi (by assumption) (kit_str _ (by assumption)) ?_) | ((with_reducible show CaD _ _ (Value.builtin "isinstance") [_, SV.ty "tuple"] _ _); refine ca_isi (by assumption) (kit_tuple _ (by assumption)) ?_) | ((with_reducible show CaD _ _ (Value.builtin "isinstance") [_, SV.ty "list"] _ _); refine ca_isi (by assumption) (kit_list _ (by assumption)) ?_) | ((with_reducible show CaD _ _ (Value.builtin "isinstance") [_, SV.ty "dict"] _ _); refine ca_isi (by assumption) (kit_dict _ (by assumption)) ?_) | ((with_reducible show CaD _ _ (Value.builtin "max") _ _ _); refine ca_max2 rfl ?_) | ((with_reducible show CaD _ _ (Value.builtin "min") _ _ _); refine ca_min2 rfl ?_) | ((with_reducible show CaD _ _ (Value.builtin "len") _ _ _); first | refine ca_lenT ?_ | refine ca_lenS (by assumption) ?_ | refine ca_lenSc ?_ | refine ca_lenL (.inl rfl) ?_) | ((with_reducible show CaD _ _ (Value.type "list") _ _ _); refine ca_listT ?_) | ((with_reducible show CaD _ _ (Value.builtin "divmod") _ _ _); refine ca_divmod (by assumption) (by omega) ?_) | walk_at "dca")
    | ((with_reducible show DT _ _ _ _ _ _); first | ((with_reducible show DT _ _ (Expr.BoolOp _ _ _) _ _ _); refine dt_w ?_) | ((with_reducible show DT _ _ (Expr.UnaryOp UnaryOp.Not _ _) _ _ _); refine dt_not ?_) | ((with_reducible show DT _ _ (Expr.Compare _ [_] _ _) _ _ _); refine dt_cmp ?_) | ((with_reducible show DT _ _ (Expr.Compare _ [_, _] _ _) _ _ _); refine dt_chain ?_) | refine dt_val ?_)
    | ((with_reducible show DW _ _ _ _ _ _); first | ((with_reducible show DW _ _ (Expr.BoolOp BoolOp.And [_] _) _ _ _); refine dw_and1 ?_) | ((with_reducible show DW _ _ (Expr.BoolOp BoolOp.Or [_] _) _ _ _); refine dw_or1 ?_) | ((with_reducible show DW _ _ (Expr.BoolOp BoolOp.And _ _) _ _ _); refine dw_and ?_) | ((with_reducible show DW _ _ (Expr.BoolOp BoolOp.Or _ _) _ _ _); refine dw_or ?_))
    | ((with_reducible show DSs _ _ _ _ _ _); first | ((with_reducible show DSs _ _ [] _ _ _); refine dss_nil ?_) | ((with_reducible show DSs _ _ [_] _ _ _); refine dss_one ?_) | ((with_reducible show DSs _ _ (_ :: _) _ _ _); refine dss_cons ?_))
    | ((with_reducible show DS _ _ _ _ _ _); first | ((with_reducible show DS _ _ (Stmt.Return (some _) _) _ _ _); refine ds_ret ?_) | ((with_reducible show DS _ _ (Stmt.If _ _ _ _) _ _ _); refine ds_if ?_) | ((with_reducible show DS _ _ (Stmt.Expr _ _) _ _ _); refine ds_expr ?_) | ((with_reducible show DS _ _ (Stmt.Assign [Expr.Name _ _] _ _) _ _ _); walk_at "dset"))
    | ((with_reducible show DP _ _ none _ _ _); refine dp_none ?_)
    | ((with_reducible show DP _ _ (some _) _ _ _); refine dp_some ?_)
    | ((with_reducible show ∃ d, SV.dat _ = SV.dat d ∧ Fi d ∧ _); refine ⟨_, rfl, by assumption, ?_⟩)
    | ((with_reducible show ∃ i, SV.dat (Dt.int _) = SV.dat (Dt.int i) ∧ _); refine ⟨_, rfl, ?_⟩)
    | ((with_reducible show SlD _ _ (SV.dat (Dt.tup _)) _ _ _ _); refine sl_dT ?_)
    | ((with_reducible show ∃ ds, undat _ = some ds ∧ ds.length ≤ 1000 ∧ _); refine ⟨_, rfl, Nat.le_of_ble_eq_true rfl, ?_⟩)
    | ((with_reducible show ∃ q, SV.at _ = SV.at q ∧ _); refine ⟨_, rfl, ?_⟩)
    | ((with_reducible show ∃ z, SV.dat (Dt.str _) = SV.dat (Dt.str z) ∧ _); refine ⟨_, rfl, ?_⟩)
    | ((with_reducible show IxD _ _ (SV.at _) (SV.dat (Dt.int 0)) _ _); refine ix_pot0 (by assumption) (fun _ _ => ?_))
    | ((with_reducible show IxD _ _ (SV.at _) (SV.dat (Dt.int 1)) _ _); refine ix_pot1 (by assumption) (fun _ _ _ => ?_))
    | ((with_reducible show UnD _ _ (unaryOp UnaryOp.USub) _ _ _); refine un_negI ?_)
    | ((with_reducible show Po.nx _ _ _); dsimp only)
    | ((with_reducible show Po.rt _ _ _); dsimp only))
local macro_rules
  | `(tactic| walk_at "drun") => `(tactic| repeat' (walk_at "dstep"))

theorem shown_kv {S M n N : Nat} {ks vs : List Dt} (hN : ks.length ≤ N) (hk : ∀ d ∈ ks, fine S M n d) (hv : ∀ d ∈ vs, fine S M n d) :
    (PyData.dict ((toPyA ks).zip (toPyA vs))).showable = true ∧ (PyData.dict ((toPyA ks).zip (toPyA vs))).depth ≤ n + 1 ∧ (PyData.dict ((toPyA ks).zip (toPyA vs))).shown.length ≤ N * (2 * fineL S M n + 4) + 2 ∧ plainA ks = true ∧ plainA vs = true := by
  refine ⟨?_, ?_, ?_, plainAll_of ks fun d hd => (fine_rest n d (hk d hd)).2.2, plainAll_of vs fun d hd => (fine_rest n d (hv d hd)).2.2⟩
  · rw [PyData.showable]
    exact showsKv_of ks vs (fun d hd => (fine_rest n d (hk d hd)).1) fun d hd => (fine_rest n d (hv d hd)).1
  · rw [PyData.depth]
    exact Nat.succ_le_succ (deepKv_of ks vs (fun d hd => (fine_rest n d (hk d hd)).2.1) fun d hd => (fine_rest n d (hv d hd)).2.1)
  · simp only [PyData.shown, toPyA_map, zip_kv]
    have q := piled_le (L := 2 * fineL S M n + 2) (((ks.map toPy).zip (vs.map toPy)).map fun kv => kv.1.shown ++ ": " ++ kv.2.shown) fun t ht => by
      obtain ⟨⟨a, b⟩, hd, rfl⟩ := List.mem_map.mp ht
      obtain ⟨h1, h2⟩ := List.of_mem_zip hd
      obtain ⟨x, hx, rfl⟩ := List.mem_map.mp h1
      obtain ⟨y, hy, rfl⟩ := List.mem_map.mp h2
      have q1 := fine_len n x (hk x hx)
      have q2 := fine_len n y (hv y hy)
      show ((toPy x).shown ++ ": " ++ (toPy y).shown).length ≤ _
      rw [strLen_append, strLen_append]
      have e : ((": " : String) : Str).length = 2 := rfl
      rw [e]; omega
    have z := dictText_le (((ks.map toPy).zip (vs.map toPy)).map fun kv => kv.1.shown ++ ": " ++ kv.2.shown)
    rw [List.length_map, List.length_zip, List.length_map, List.length_map] at q
    have m := Nat.mul_le_mul_right (2 * fineL S M n + 2 + 2) (Nat.le_trans (Nat.min_le_left ks.length vs.length) hN)
    show _ ≤ N * (2 * fineL S M n + 2 + 2) + 2
    omega
theorem ints_fine : ∀ l : List Int, (∀ a ∈ l, 0 ≤ a ∧ a ≤ 20) → (∀ d ∈ l.map Dt.int, fine 64 30 0 d) ∧ keyableA (l.map Dt.int) = true ∧ NestedKey.depthAll (nkA (l.map Dt.int)) ≤ 2 ∧ hasLstA (l.map Dt.int) = false
  | [], _ => ⟨nofun, rfl, by simp [nkA, NestedKey.depthAll], rfl⟩
  | a :: l, h => by
    obtain ⟨h1, h2, h3, h4⟩ := ints_fine l fun b hb => h b (List.mem_cons_of_mem _ hb)
    have ha := h a List.mem_cons_self
    refine ⟨fun d hd => ?_, by simp [keyableA, keyable, h2], ?_, by simp [hasLstA, hasLst, h4]⟩
    · rcases List.mem_cons.mp hd with e | e
      · rw [e]
        have : a.natAbs ≤ 20 := by omega
        exact Nat.lt_of_le_of_lt this (by decide)
      · exact h1 d e
    · rw [List.map_cons, nkA, nk, NestedKey.depthAll, NestedKey.depth]
      exact Nat.max_le.mpr ⟨by decide, h3⟩
theorem lots_fine {d : Dt} (h : lotsD d = true) : fine 64 30 1 d ∧ keyable d = true ∧ (nk d).depth ≤ 8 ∧ hasLst d = false := by
  cases d with
  | tup xs =>
    unfold lotsD at h
    rw [Bool.and_eq_true, decide_eq_true_eq] at h
    obtain ⟨l, rfl, hl⟩ := go_in xs 0 h.2
    have h6 := h.1
    rw [List.length_map] at h6
    obtain ⟨h1, h2, h3, h4⟩ := ints_fine l fun a ha => by
      obtain ⟨k, hk, rfl⟩ := List.getElem_of_mem ha
      have := hl k _ (List.getElem?_eq_getElem hk)
      omega
    refine ⟨⟨by rw [List.length_map]; omega, h1⟩, by rw [keyable]; exact h2, ?_, by rw [hasLst]; exact h4⟩
    rw [nk, NestedKey.depth]
    omega
  | _ => simp [lotsD] at h
theorem name_fine {y : Str} (h : nameD (.str y) = true) : ∀ n, fine 64 30 n (.str y) := fun n => by
  unfold nameD at h
  rw [Bool.and_eq_true, Bool.and_eq_true, decide_eq_true_eq, decide_eq_true_eq, List.all_eq_true] at h
  obtain ⟨⟨h1, h2⟩, h3⟩ := h
  refine fine_str n ⟨by omega, fun c hc => ?_⟩
  have := h3 c hc
  unfold low at this
  rw [Bool.and_eq_true, decide_eq_true_eq, decide_eq_true_eq] at this
  omega
/-! ### Kinds: what they keep -/
structure Kx where
  ys : List Str
  f : Str → Dt
def kD (E : Cl) (k : Kx) : Dt := .obj E.kc ["_table"] [dicT k.ys k.f]
structure KOk (k : Kx) : Prop where
  nd : k.ys.Nodup
  len : k.ys.length ≤ 12
  nm : ∀ y ∈ k.ys, nameD (.str y) = true
  lo : ∀ y ∈ k.ys, lotsD (k.f y) = true
def Kof (k : Kx) (l : Tbl) : Prop := KOk k ∧ k.ys.Perm (l.map fun x => txt x.1) ∧ sortedS k.ys = true ∧ ∀ x ∈ l, k.f (txt x.1) = x.2
def IsK (E : Cl) (d : Dt) : Prop := ∃ k, d = kD E k ∧ KOk k
def kTab : Dt → Dt
  | .obj _ _ (t :: _) => t
  | _ => .non
def dKs : Dt → List Dt
  | .dic ks _ => ks
  | _ => []
def dVs : Dt → List Dt
  | .dic _ vs => vs
  | _ => []
def kS (d : Dt) : List Str := (dKs (kTab d)).map txt
def kV (d : Dt) (y : Str) : Dt := (((kS d).zip (dVs (kTab d))).lookup y).getD .non
theorem kS_k (E : Cl) (k : Kx) : kS (kD E k) = k.ys := by
  show (k.ys.map Dt.str).map txt = _
  rw [List.map_map]
  exact List.map_id k.ys
theorem look_map (f : Str → Dt) : ∀ (ys : List Str) (y : Str), y ∈ ys → (ys.zip (ys.map f)).lookup y = some (f y)
  | [], y, h => by cases h
  | z :: ys, y, h => by
    rw [List.map_cons, List.zip_cons_cons, List.lookup_cons]
    by_cases e : y = z
    · subst e; rw [beq_self_eq_true]
    · rw [beq_eq_false_iff_ne.mpr e]
      exact look_map f ys y ((List.mem_cons.mp h).resolve_left e)
theorem kV_k (E : Cl) (k : Kx) {y : Str} (h : y ∈ k.ys) : kV (kD E k) y = k.f y := by
  unfold kV
  rw [kS_k]
  show ((k.ys.zip (k.ys.map k.f)).lookup y).getD .non = _
  rw [look_map k.f k.ys y h]
  rfl
def hasD (d t : Dt) : Bool := nameD t && decide (txt t ∈ kS d)
def lenD : Dt → Int
  | .tup xs => xs.length
  | _ => 0
def tyL : List String := ["NoneType", "int", "bool", "str", "list", "tuple", "dict"]
def eqD (d : Dt) : Dt → Bool
  | .obj C ns vs => (kS d).length == (kS (.obj C ns vs)).length && hitB (kV d) (kS (.obj C ns vs)) (kV (.obj C ns vs)) (kS d)
  | _ => false
theorem hit_congr {f f' g g' : Str → Dt} {ls : List Str} : ∀ (ks : List Str), (∀ k ∈ ks, f k = f' k) → (∀ k ∈ ls, g k = g' k) → hitB f ls g ks = hitB f' ls g' ks
  | [], _, _ => rfl
  | k :: ks, h1, h2 => by
    unfold hitB
    by_cases hm : k ∈ ls
    · rw [if_pos hm, if_pos hm, h1 k List.mem_cons_self, h2 k hm, hit_congr ks (fun z hz => h1 z (List.mem_cons_of_mem _ hz)) h2]
    · rw [if_neg hm, if_neg hm]
theorem eqD_k (E : Cl) (k k' : Kx) : eqD (kD E k) (kD E k') = (k.ys.length == k'.ys.length && hitB k.f k'.ys k'.f k.ys) := by
  show ((kS (kD E k)).length == (kS (kD E k')).length && hitB (kV (kD E k)) (kS (kD E k')) (kV (kD E k')) (kS (kD E k))) = _
  rw [kS_k, kS_k]
  congr 1
  exact hit_congr _ (fun y hy => kV_k E k hy) fun y hy => kV_k E k' hy
structure Kcx (K : PySem.W.Frag) (mg : Str → Option Value) (E : Cl) : Prop where
  g : mg "Kinds" = some (.ref E.kc)
  na : NoAttr K E.kc "_table"
  own : OwnC K E.kc
  isi : OwnI K E.kc
structure OwnM (P : Program) (w : World) (K : PySem.W.Frag) (mg : Str → Option Value) (base : Heap) (C : Addr) (m : Str) (k : Nat) (sp : Sp) : Prop where
  ex : ∃ g fd ps, Meth K C m g ∧ FnG P w K mg base k g fd ps sp ∧ Binds K fd ps []
structure OwnMX (P : Program) (w : World) (K : PySem.W.Frag) (mg : Str → Option Value) (base : Heap) (C : Addr) (m : Str) (k : Nat) (sp : Sp) : Prop where
  ex : ∃ g fd ps, Meth K C m g ∧ FnX P w K mg base k g fd ps sp ∧ Binds K fd ps []
/-! the promises -/
def spWords (E : Cl) : Sp := PSp (ok1 (IsK E)) (re1 fun d => .lst ((kS d).map .str))
def spHas (E : Cl) : Sp := PSp (fun ds => ∃ d t, ds = [d, t] ∧ IsK E d ∧ Fi t) fun ds r => ∃ d t, ds = [d, t] ∧ r = .bl (hasD d t)
def spLotM (E : Cl) : Sp := FSp E.ki ["word"] (fun rs _ => ∃ d t, rs = [.dat d, .dat t] ∧ IsK E d ∧ Fi t) (fun rs μ r μ' => ∃ d t, rs = [.dat d, .dat t] ∧ hasD d t = true ∧ r = .dat (kV d (txt t)) ∧ μ' = μ) fun rs μ ds μ' => ∃ d t, rs = [.dat d, .dat t] ∧ hasD d t = false ∧ ds = [t] ∧ μ' = μ
def spHanM (E : Cl) : Sp := FSp E.ki ["word"] (fun rs _ => ∃ d t, rs = [.dat d, .dat t] ∧ IsK E d ∧ Fi t) (fun rs μ r μ' => ∃ d t, rs = [.dat d, .dat t] ∧ hasD d t = true ∧ r = .dat (.int (lenD (kV d (txt t)))) ∧ μ' = μ) fun rs μ ds μ' => ∃ d t, rs = [.dat d, .dat t] ∧ hasD d t = false ∧ ds = [t] ∧ μ' = μ
def spEqM (E : Cl) : Sp := PSp (fun ds => ∃ d o, ds = [d, o] ∧ IsK E d ∧ (IsK E o ∨ tyD o ∈ tyL)) fun ds r => ∃ d o, ds = [d, o] ∧ r = .bl (eqD d o)
def spLenM (E : Cl) : Sp := PSp (ok1 (IsK E)) (re1 fun d => .int (kS d).length)
def reprD (d : Dt) : Str := Str.empty ++ "Kinds(" ++ (toPy (kTab d)).shown ++ ")"
def spReprM (E : Cl) : Sp := PSp (ok1 (IsK E)) (re1 fun d => .str (reprD d))
theorem lots_tup {d : Dt} (h : lotsD d = true) : ∃ xs, d = .tup xs ∧ xs.length ≤ 6 := by
  cases d with
  | tup xs =>
    unfold lotsD at h
    rw [Bool.and_eq_true, decide_eq_true_eq] at h
    exact ⟨xs, rfl, h.1⟩
  | _ => simp [lotsD] at h
def cbody (s : Stmt) : List Stmt := match s with
  | .ClassDef _ _ _ b .. => b
  | _ => []
def kst (i : Nat) : Stmt := (cbody (top 19)).getD i (.Pass ⟨0, 0, 0, 0⟩)
section
variable {P : Program} {w : World} {K : PySem.W.Frag} {mg : Str → Option Value} {base : Heap}
abbrev sWords : Stmt := kst 1
theorem scWords : FnScope ["self"] ["self"] (defScope sWords) := ⟨rfl, rfl, rfl, by decide +kernel, rfl, by decide +kernel, by decide +kernel⟩
theorem ok_words {E : Cl} {f : Addr} {fd : FuncData} (F : Fun K "words" "Kinds.words" sWords f fd) (T : Txt mg) (Z : Kcx K mg E) : FnG P w K mg base 1 f fd ["self"] (spWords E) := by
  refine fn_pure F scWords (fun ds ⟨d, e, _⟩ => by rw [e]; rfl) fun cdv A outer s H hr hg w' ds μ ⟨d, e, k, ek, ok⟩ => ?_
  subst e ek
  obtain ⟨t1, t2, t3, t4, t5, t6, t7, t8, t9, t10, t11, t12, t13, t14, t15, t16, t17, t18, t19, t20, t21⟩ := T
  refine dss_one ?_
  walk_at "drun"
  refine de_fld (de_nm rfl ⟨_, _, _, _, rfl, Z.isi.cls, Z.na, rfl, ?_⟩)
  walk_at "drun"
  refine ca_listDic (k := 0) rfl ?_
  exact ⟨_, rfl, ⟨_, rfl, by dsimp only; rw [kS_k]⟩, Mus.Sub.refl _⟩
abbrev sHas : Stmt := kst 2
theorem scHas : FnScope ["self", "thing"] ["self", "thing"] (defScope sHas) := ⟨rfl, rfl, rfl, by decide +kernel, rfl, by decide +kernel, by decide +kernel⟩
set_option hygiene false in
local macro_rules
  | `(tactic| walk_at "down") => `(tactic| first | ((with_reducible show DE _ _ (Expr.Call (Expr.Name "is_name" _) _ _ _) _ _ _); refine de_p1 oName hr (by decide) hg ?_) | ((with_reducible show DE _ _ (Expr.Call (Expr.Name "is_lots" _) _ _ _) _ _ _); refine de_p1 oLots hr (by decide) hg ?_))
theorem ok_has {E : Cl} {f : Addr} {fd : FuncData} (F : Fun K "has" "Kinds.has" sHas f fd) (T : Txt mg) (Z : Kcx K mg E) (oName : Own P w K mg base "is_name" 1 spName) : FnG P w K mg base 2 f fd ["self", "thing"] (spHas E) := by
  refine fn_pure F scHas (fun ds ⟨d, t, e, _⟩ => by rw [e]; rfl) fun cdv A outer s H hr hg w' ds μ ⟨d, t, e, ⟨k, ek, ok⟩, ht⟩ => ?_
  subst e ek
  obtain ⟨t1, t2, t3, t4, t5, t6, t7, t8, t9, t10, t11, t12, t13, t14, t15, t16, t17, t18, t19, t20, t21⟩ := T
  refine dss_one ?_
  walk_at "drun"
  · rename_i h1
    obtain ⟨x, rfl⟩ : ∃ x, t = .str x := by cases t <;> first | exact ⟨_, rfl⟩ | simp [nameD] at h1
    refine de_fld (de_nm rfl ⟨_, _, _, _, rfl, Z.isi.cls, Z.na, rfl, ?_⟩)
    refine op_inDic hr ?_
    refine ⟨_, rfl, ⟨_, _, rfl, ?_⟩, Mus.Sub.refl _⟩
    unfold hasD
    rw [kS_k, h1]
    rfl
  · rename_i h1
    refine ⟨_, rfl, ⟨_, _, rfl, ?_⟩, Mus.Sub.refl _⟩
    unfold hasD
    rw [h1]
    rfl
abbrev sLenM : Stmt := kst 6
theorem scLenM : FnScope ["self"] ["self"] (defScope sLenM) := ⟨rfl, rfl, rfl, by decide +kernel, rfl, by decide +kernel, by decide +kernel⟩
theorem ok_lenM {E : Cl} {f : Addr} {fd : FuncData} (F : Fun K "__len__" "Kinds.__len__" sLenM f fd) (T : Txt mg) (Z : Kcx K mg E) : FnG P w K mg base 1 f fd ["self"] (spLenM E) := by
  refine fn_pure F scLenM (fun ds ⟨d, e, _⟩ => by rw [e]; rfl) fun cdv A outer s H hr hg w' ds μ ⟨d, e, k, ek, ok⟩ => ?_
  subst e ek
  obtain ⟨t1, t2, t3, t4, t5, t6, t7, t8, t9, t10, t11, t12, t13, t14, t15, t16, t17, t18, t19, t20, t21⟩ := T
  refine dss_one ?_
  walk_at "drun"
  refine de_fld (de_nm rfl ⟨_, _, _, _, rfl, Z.isi.cls, Z.na, rfl, ?_⟩)
  walk_at "drun"
  refine ca_lenDic ?_
  exact ⟨_, rfl, ⟨_, rfl, by dsimp only; rw [kS_k]⟩, Mus.Sub.refl _⟩
abbrev sEqM : Stmt := kst 5
theorem scEqM : FnScope ["self", "other"] ["self", "other"] (defScope sEqM) := ⟨rfl, rfl, rfl, by decide +kernel, rfl, by decide +kernel, by decide +kernel⟩
theorem ok_eqM {E : Cl} {f : Addr} {fd : FuncData} (F : Fun K "__eq__" "Kinds.__eq__" sEqM f fd) (T : Txt mg) (Z : Kcx K mg E) : FnG P w K mg base 1 f fd ["self", "other"] (spEqM E) := by
  refine fn_pure F scEqM (fun ds ⟨d, o, e, _⟩ => by rw [e]; rfl) fun cdv A outer s H hr hg w' ds μ ⟨d, o, e, ⟨k, ek, ok⟩, ho⟩ => ?_
  subst e ek
  obtain ⟨t1, t2, t3, t4, t5, t6, t7, t8, t9, t10, t11, t12, t13, t14, t15, t16, t17, t18, t19, t20, t21⟩ := T
  have kf : ∀ {k : Kx}, KOk k → ∀ y ∈ k.ys, keyable (k.f y) = true ∧ (nk (k.f y)).depth ≤ 8 := fun ok y hy => ⟨(lots_fine (ok.lo y hy)).2.1, (lots_fine (ok.lo y hy)).2.2.1⟩
  refine dss_one ?_
  walk_at "drun"
  refine de_globC Z.g ?_
  walk_at "drun"
  rcases ho with ⟨k', rfl, ok'⟩ | hT
  · refine ca_isOwn Z.isi ?_
    walk_at "drun"
    refine de_fld (de_nm rfl ⟨_, _, _, _, rfl, Z.isi.cls, Z.na, rfl, ?_⟩)
    refine de_fld (de_nm rfl ⟨_, _, _, _, rfl, Z.isi.cls, Z.na, rfl, ?_⟩)
    refine op_eqDic hr (kf ok) (kf ok') ?_
    exact ⟨_, rfl, ⟨_, _, rfl, by rw [eqD_k]⟩, Mus.Sub.refl _⟩
  · refine ca_isNot Z.isi hT ?_
    walk_at "drun"
    refine ⟨_, rfl, ⟨_, _, rfl, ?_⟩, Mus.Sub.refl _⟩
    cases o with
    | obj _ _ _ => simp [tyD, tyL] at hT
    | _ => rfl
theorem kept_shown {k : Kx} (ok : KOk k) : ShownL (dicT k.ys k.f) ∧ hasLst (dicT k.ys k.f) = false ∧ (toPy (dicT k.ys k.f)).shown.length ≤ 16000000 := by
  have hv : ∀ d ∈ k.ys.map k.f, fine 64 30 1 d := fun d hd => by
    obtain ⟨y, hy, rfl⟩ := List.mem_map.mp hd
    exact (lots_fine (ok.lo y hy)).1
  have hk : ∀ d ∈ k.ys.map Dt.str, fine 64 30 1 d := fun d hd => by
    obtain ⟨y, hy, rfl⟩ := List.mem_map.mp hd
    exact name_fine (ok.nm y hy) 1
  obtain ⟨h1, h2, h3, h4, h5⟩ := shown_kv (N := 12) (by rw [List.length_map]; exact ok.len) hk hv
  have nl : ∀ ys : List Str, (∀ y ∈ ys, lotsD (k.f y) = true) → hasLstA (ys.map k.f) = false := fun ys => by
    induction ys with
    | nil => exact fun _ => rfl
    | cons y ys ih =>
      intro h
      rw [List.map_cons, hasLstA, (lots_fine (h y List.mem_cons_self)).2.2.2, ih fun z hz => h z (List.mem_cons_of_mem _ hz)]
      rfl
  have le : (toPy (dicT k.ys k.f)).shown.length ≤ 16000000 := by
    unfold dicT
    rw [toPy]
    exact Nat.le_trans h3 (by decide)
  refine ⟨⟨by unfold dicT; rw [Dat.plain]; exact h5, by unfold dicT; rw [toPy]; exact h1, by rw [sizeLine_eq]; omega, by unfold dicT; rw [toPy]; exact Nat.le_trans h2 (by decide)⟩, by unfold dicT; rw [hasLst]; exact nl k.ys ok.lo, le⟩
abbrev sReprM : Stmt := kst 7
theorem scReprM : FnScope ["self"] ["self"] (defScope sReprM) := ⟨rfl, rfl, rfl, by decide +kernel, rfl, by decide +kernel, by decide +kernel⟩
theorem ok_reprM {E : Cl} {f : Addr} {fd : FuncData} (F : Fun K "__repr__" "Kinds.__repr__" sReprM f fd) (T : Txt mg) (Z : Kcx K mg E) : FnG P w K mg base 1 f fd ["self"] (spReprM E) := by
  refine fn_pure F scReprM (fun ds ⟨d, e, _⟩ => by rw [e]; rfl) fun cdv A outer s H hr hg w' ds μ ⟨d, e, k, ek, ok⟩ => ?_
  subst e ek
  obtain ⟨t1, t2, t3, t4, t5, t6, t7, t8, t9, t10, t11, t12, t13, t14, t15, t16, t17, t18, t19, t20, t21⟩ := T
  obtain ⟨sh, nl, hl⟩ := kept_shown ok
  have hl' : (toPy (.dic (k.ys.map Dt.str) (k.ys.map k.f))).shown.length ≤ 16000000 := hl
  have l1 : (Str.empty ++ "Kinds(" : Str).length = 6 := rfl
  have l2 : ((")" : String) : Str).length = 1 := rfl
  refine dss_one ?_
  walk_at "drun"
  refine de_joined (dj_cons (de_str ⟨_, rfl, by decide, dj_cons (de_fmtD hr hg (de_fld (de_nm rfl ⟨_, _, _, _, rfl, Z.isi.cls, Z.na, rfl, ⟨_, _, rfl, sh, nl, _, rfl, ?_, dj_cons (de_str ⟨_, rfl, ?_, dj_nil ?_⟩)⟩⟩)))⟩))
  · rw [strLen_append, l1, sizeLine_eq]; omega
  · rw [strLen_append, strLen_append, l1, l2, sizeLine_eq]; omega
  · exact ⟨_, rfl, ⟨_, rfl, rfl⟩, Mus.Sub.refl _⟩
end
end K12

set_option Elab.async false
set_option linter.all false
set_option maxRecDepth 100000
set_option maxHeartbeats 4000000
namespace K12
open PySem PySem.Spec PyProof.Rows L2 Dat Er Mx
local macro_rules
  | `(tactic| walk_at "down") => `(tactic| fail "none")
local macro_rules
  | `(tactic| walk_at "dset") => `(tactic| fail "none")
local macro_rules
  | `(tactic| walk_at "dhook") => `(tactic| fail "none")
local macro_rules
  | `(tactic| walk_at "dca") => `(tactic| fail "none")
local macro_rules
  | `(tactic| walk_at "dlst") => `(tactic| refine de_lst ?_)
local macro_rules
  | `(tactic| walk_at "dtup") => `(tactic| refine de_tup ?_)
local macro_rules
  | `(tactic| walk_at "dstep") => `(tactic| first
    | ((with_reducible show DE _ _ _ _ _ _); first | ((with_reducible show DE _ _ (Expr.Name _ _) _ _ _); first | ((with_reducible show DE _ _ (Expr.Name "int" _) _ _ _); refine de_ty_int (by assumption) ?_) | ((with_reducible show DE _ _ (Expr.Name "str" _) _ _ _); refine de_ty_str (by assumption) ?_) | ((with_reducible show DE _ _ (Expr.Name "bool" _) _ _ _); refine de_ty_bool (by assumption) ?_) | ((with_reducible show DE _ _ (Expr.Name "tuple" _) _ _ _); refine de_ty_tuple (by assumption) ?_) | ((with_reducible show DE _ _ (Expr.Name "list" _) _ _ _); refine de_ty_list (by assumption) ?_) | ((with_reducible show DE _ _ (Expr.Name "dict" _) _ _ _); refine de_ty_dict (by assumption) ?_) | refine de_nm rfl ?_ | refine de_globI (by assumption) ?_) | ((with_reducible show DE _ _ (Expr.Constant _ _ _) _ _ _); first | refine de_int ?_ | refine de_str ?_ | refine de_bl ?_ | refine de_non ?_) | ((with_reducible show DE _ _ (Expr.Call (Expr.Name _ _) _ _ _) _ _ _); first | ((with_reducible show DE _ _ (Expr.Call (Expr.Name "isinstance" _) _ _ _) _ _ _); refine de_isinstance ?_ (by assumption)) | ((with_reducible show DE _ _ (Expr.Call (Expr.Name "len" _) _ _ _) _ _ _); refine de_len ?_ (by assumption)) | ((with_reducible show DE _ _ (Expr.Call (Expr.Name "max" _) _ _ _) _ _ _); refine de_max ?_ (by assumption)) | ((with_reducible show DE _ _ (Expr.Call (Expr.Name "min" _) _ _ _) _ _ _); refine de_min ?_ (by assumption)) | ((with_reducible show DE _ _ (Expr.Call (Expr.Name "all" _) _ _ _) _ _ _); refine de_all ?_ (by assumption)) | ((with_reducible show DE _ _ (Expr.Call (Expr.Name "repr" _) _ _ _) _ _ _); refine de_repr ?_ (by assumption)) | ((with_reducible show DE _ _ (Expr.Call (Expr.Name "divmod" _) _ _ _) _ _ _); refine de_divmod ?_ (by assumption)) | ((with_reducible show DE _ _ (Expr.Call (Expr.Name "list" _) _ _ _) _ _ _); refine de_clist ?_ (by assumption)) | ((with_reducible show DE _ _ (Expr.Call (Expr.Name "tuple" _) _ _ _) _ _ _); refine de_ctuple ?_ (by assumption)) | ((with_reducible show DE _ _ (Expr.Call (Expr.Name "int" _) _ _ _) _ _ _); refine de_cint ?_ (by assumption)) | ((with_reducible show DE _ _ (Expr.Call (Expr.Name "str" _) _ _ _) _ _ _); refine de_cstr ?_ (by assumption)) | walk_at "down") | ((with_reducible show DE _ _ (Expr.BinOp _ _ _ _) _ _ _); refine de_op ?_) | ((with_reducible show DE _ _ (Expr.Compare _ [_] _ _) _ _ _); refine de_cmp ?_) | ((with_reducible show DE _ _ (Expr.Compare _ [_, _] _ _) _ _ _); refine de_chain ?_) | ((with_reducible show DE _ _ (Expr.Subscript _ (Expr.Slice _ _ _ _) _) _ _ _); refine de_slice ?_) | ((with_reducible show DE _ _ (Expr.Subscript _ _ _) _ _ _); refine de_ix ?_) | ((with_reducible show DE _ _ (Expr.BoolOp _ [_] _) _ _ _); refine de_one ?_) | ((with_reducible show DE _ _ (Expr.BoolOp BoolOp.And _ _) _ _ _); refine de_and ?_) | ((with_reducible show DE _ _ (Expr.BoolOp BoolOp.Or _ _) _ _ _); refine de_or ?_) | ((with_reducible show DE _ _ (Expr.UnaryOp UnaryOp.Not _ _) _ _ _); refine de_not ?_) | ((with_reducible show DE _ _ (Expr.UnaryOp _ _ _) _ _ _); refine de_un ?_) | ((with_reducible show DE _ _ (Expr.IfExp _ _ _ _) _ _ _); refine de_ifx ?_) | ((with_reducible show DE _ _ (Expr.Tuple _ _ _) _ _ _); walk_at "dtup") | ((with_reducible show DE _ _ (Expr.List _ _) _ _ _); walk_at "dlst") | ((with_reducible show DE _ _ (Expr.Dict [] [] _) _ _ _); refine de_dict0 ?_) | walk_at "dhook")
    | ((with_reducible show DA _ _ _ _ _ _); first | ((with_reducible show DA _ _ [] _ _ _); refine da_nil ?_) | ((with_reducible show DA _ _ (_ :: _) _ _ _); refine da_cons ?_))
    | ((with_reducible show BoolR _ _); refine ⟨_, rfl, ?_⟩)
    | ((with_reducible show (_ = true → _) ∧ (_ = false → _)); (refine ⟨fun h => ?_, fun h => ?_⟩ <;> try (exact Bool.noConfusion h)))
    | ((with_reducible show OpD _ _ _ _ _ _ _); first | ((with_reducible show OpD _ _ (binaryOp Operator.Add) _ _ _ _); first | refine op_addI ?_ | refine op_addT ?_) | ((with_reducible show OpD _ _ (binaryOp Operator.Sub) _ _ _ _); refine op_subI ?_) | ((with_reducible show OpD _ _ (binaryOp Operator.Mod) _ _ _ _); refine op_modI (by first | decide | assumption) ?_) | ((with_reducible show OpD _ _ (binaryOp Operator.Mult) _ _ _ _); refine op_mulI (by first | exact .inr (by decide) | exact .inl (by decide) | (exact .inl (by omega))) ?_) | ((with_reducible show OpD _ _ (binaryOp Operator.Pow) _ _ _ _); refine op_powI (by decide) (by decide) (by decide) ?_) | ((with_reducible show OpD _ _ (binaryOp Operator.FloorDiv) _ _ _ _); refine op_fdivI (by decide) (by decide) ?_) | ((with_reducible show OpD _ _ (compareOp CmpOp.Lt) _ _ _ _); refine op_ltI ?_) | ((with_reducible show OpD _ _ (compareOp CmpOp.LtE) _ _ _ _); first | refine op_leI ?_ | refine op_leS ?_) | ((with_reducible show OpD _ _ (compareOp CmpOp.Gt) _ _ _ _); refine op_gtI ?_) | ((with_reducible show OpD _ _ (compareOp CmpOp.GtE) _ _ _ _); refine op_geI ?_) | ((with_reducible show OpD _ _ (compareOp CmpOp.Eq) _ _ _ _); first | refine op_eqI ?_ | refine op_eqS ?_) | ((with_reducible show OpD _ _ (compareOp CmpOp.NotEq) _ _ _ _); first | refine op_neI ?_ | refine op_neS ?_))
    | ((with_reducible show CaD _ _ _ _ _ _); first | ((with_reducible show CaD _ _ (Value.builtin "isinstance") [_, SV.ty "int"] _ _); refine ca_isi (by assumption) (kit_int _ (by assumption)) ?_) | ((with_reducible show CaD _ _ (Value.builtin "isinstance") [_, SV.ty "bool"] _ _); refine ca_isi (by assumption) (kit_bool _ (by assumption)) ?_) | ((with_reducible show CaD _ _ (Value.builtin "isinstance") [_, SV.ty "str"] _ _); refine ca_isi (by assumption) (kit_str _ (by assumption)) ?_) | ((with_reducible show CaD _ _ (Value.builtin "isinstance") [_, SV.ty "tuple"] _ _); refine ca_isi (by assumption) (kit_tuple _ (by assumption)) ?_) | ((with_reducible show CaD _ _ (Value.builtin "isinstance") [_, SV.ty "list"] _ _); refine ca_isi (by assumption) (kit_list _ (by assumption)) ?_) | ((with_reducible show CaD _ _ (Value.builtin "isinstance") [_, SV.ty "dict"] _ _); refine ca_isi (by assumption) (kit_dict _ (by assumption)) ?_) | ((with_reducible show CaD _ _ (Value.builtin "max") _ _ _); refine ca_max2 rfl ?_) | ((with_reducible show CaD _ _ (Value.builtin "min") _ _ _); refine ca_min2 rfl ?_) | ((with_reducible show CaD _ _ (Value.builtin "len") _ _ _); first | refine ca_lenT ?_ | refine ca_lenS (by assumption) ?_ | refine ca_lenSc ?_ | refine ca_lenL (.inl rfl) ?_) | ((with_reducible show CaD _ _ (Value.type "list") _ _ _); refine ca_listT ?_) | ((with_reducible show CaD _ _ (Value.builtin "divmod") _ _ _); refine ca_divmod (by assumption) (by omega) ?_) | walk_at "dca")
    | ((with_reducible show DT _ _ _ _ _ _); first | ((with_reducible show DT _ _ (Expr.BoolOp _ _ _) _ _ _); refine dt_w ?_) | ((with_reducible show DT _ _ (Expr.UnaryOp UnaryOp.Not _ _) _ _ _); refine dt_not ?_) | ((with_reducible show DT _ _ (Expr.Compare _ [_] _ _) _ _ _); refine dt_cmp ?_) | ((with_reducible show DT _ _ (Expr.Compare _ [_, _] _ _) _ _ _); refine dt_chain ?_) | refine dt_val ?_)
    | ((with_reducible show DW _ _ _ _ _ _); first | ((with_reducible show DW _ _ (Expr.BoolOp BoolOp.And [_] _) _ _ _); refine dw_and1 ?_) | ((with_reducible show DW _ _ (Expr.BoolOp BoolOp.Or [_] _) _ _ _); refine dw_or1 ?_) | ((with_reducible show DW _ _ (Expr.BoolOp BoolOp.And _ _) _ _ _); refine dw_and ?_) | ((with_reducible show DW _ _ (Expr.BoolOp BoolOp.Or _ _) _ _ _); refine dw_or ?_))
    | ((with_reducible show DSs _ _ _ _ _ _); first | ((with_reducible show DSs _ _ [] _ _ _); refine dss_nil ?_) | ((with_reducible show DSs _ _ [_] _ _ _); refine dss_one ?_) | ((with_reducible show DSs _ _ (_ :: _) _ _ _); refine dss_cons ?_))
    | ((with_reducible show DS _ _ _ _ _ _); first | ((with_reducible show DS _ _ (Stmt.Return (some _) _) _ _ _); refine ds_ret ?_) | ((with_reducible show DS _ _ (Stmt.If _ _ _ _) _ _ _); refine ds_if ?_) | ((with_reducible show DS _ _ (Stmt.Expr _ _) _ _ _); refine ds_expr ?_) | ((with_reducible show DS _ _ (Stmt.Assign [Expr.Name _ _] _ _) _ _ _); walk_at "dset"))
    | ((with_reducible show DP _ _ none _ _ _); refine dp_none ?_)
    | ((with_reducible show DP _ _ (some _) _ _ _); refine dp_some ?_)
    | ((with_reducible show ∃ d, SV.dat _ = SV.dat d ∧ Fi d ∧ _); refine ⟨_, rfl, by assumption, ?_⟩)
    | ((with_reducible show ∃ i, SV.dat (Dt.int _) = SV.dat (Dt.int i) ∧ _); refine ⟨_, rfl, ?_⟩)
    | ((with_reducible show SlD _ _ (SV.dat (Dt.tup _)) _ _ _ _); refine sl_dT ?_)
    | ((with_reducible show ∃ ds, undat _ = some ds ∧ ds.length ≤ 1000 ∧ _); refine ⟨_, rfl, Nat.le_of_ble_eq_true rfl, ?_⟩)
    | ((with_reducible show ∃ q, SV.at _ = SV.at q ∧ _); refine ⟨_, rfl, ?_⟩)
    | ((with_reducible show ∃ z, SV.dat (Dt.str _) = SV.dat (Dt.str z) ∧ _); refine ⟨_, rfl, ?_⟩)
    | ((with_reducible show IxD _ _ (SV.at _) (SV.dat (Dt.int 0)) _ _); refine ix_pot0 (by assumption) (fun _ _ => ?_))
    | ((with_reducible show IxD _ _ (SV.at _) (SV.dat (Dt.int 1)) _ _); refine ix_pot1 (by assumption) (fun _ _ _ => ?_))
    | ((with_reducible show UnD _ _ (unaryOp UnaryOp.USub) _ _ _); refine un_negI ?_)
    | ((with_reducible show Po.nx _ _ _); dsimp only)
    | ((with_reducible show Po.rt _ _ _); dsimp only))
local macro_rules
  | `(tactic| walk_at "drun") => `(tactic| repeat' (walk_at "dstep"))

section
variable {P : Program} {w : World} {K : PySem.W.Frag} {mg : Str → Option Value} {base : Heap}
abbrev sLotM : Stmt := kst 4
theorem scLotM : FnScope ["self", "word"] ["self", "word"] (defScope sLotM) := ⟨rfl, rfl, rfl, by decide +kernel, rfl, by decide +kernel, by decide +kernel⟩
theorem ok_lotM {E : Cl} {f : Addr} {fd : FuncData} (F : Fun K "lots" "Kinds.lots" sLotM f fd) (T : Txt mg) (Z : Kcx K mg E) (R : Ern P w K mg E) (oHas : OwnM P w K mg base E.kc "has" 2 (spHas E)) : FnX P w K mg base 3 f fd ["self", "word"] (spLotM E) := by
  refine fnf_ok F scLotM (fun rs μ ⟨d, t, e, _⟩ => by rw [e]; rfl) fun cdv A outer s H XE hr hg w' rs μ ⟨d, t, e, ⟨k, ek, ok⟩, ht⟩ hE => ?_
  subst e ek
  obtain ⟨t1, t2, t3, t4, t5, t6, t7, t8, t9, t10, t11, t12, t13, t14, t15, t16, t17, t18, t19, t20, t21⟩ := T
  obtain ⟨gh, fdh, psh, mh, fh, bh⟩ := oHas.ex
  have rai : Raises (bxx P w K mg base ["self", "word"] "Kinds.lots" sLotM f cdv A outer s H XE) (.ref E.ki) := raises_own R.kiS R.kiT
  refine dss_cons ?_
  refine ds_if (dt_not (dt_val (de_meth Z.isi.cls mh fh (hr.mono (by decide)) hg bh (de_nm rfl ⟨_, _, rfl, by decide, da_cons (de_nm rfl (da_nil ⟨⟨_, rfl, _, _, rfl, ⟨k, rfl, ok⟩, ht⟩, fun r μ2 h => ?_⟩))⟩))))
  obtain ⟨r', rfl, ⟨d', t', e1, rfl⟩, rfl⟩ := h _ rfl
  cases e1
  walk_at "drun"
  · rename_i h1
    have h1' : hasD (kD E k) t = false := by simpa using h1
    refine ds_raiseF R.kiM sh1_all (takes_of rfl rfl rfl rfl) rfl (hr.mono (by decide)) hg R.kig R.kik rai ?_
    walk_at "drun"
    exact ⟨_, rfl, rfl, trivial, fun σ B H dx S I er => hE [t] _ ⟨_, t, rfl, h1', rfl, rfl⟩ B H _ dx (Mus.Sub.refl _) I er⟩
  · rename_i h1
    have h1' : hasD (kD E k) t = true := by simpa using h1
    obtain ⟨x, rfl⟩ : ∃ x, t = .str x := by
      cases t <;> first | exact ⟨_, rfl⟩ | (exfalso; simp [hasD, nameD] at h1')
    have hx : x ∈ k.ys := by
      unfold hasD at h1'
      rw [kS_k, Bool.and_eq_true, decide_eq_true_eq] at h1'
      exact h1'.2
    refine de_fld (de_nm rfl ⟨_, _, _, _, rfl, Z.isi.cls, Z.na, rfl, ?_⟩)
    walk_at "drun"
    refine ix_dic hr hx ?_
    exact ⟨_, Mus.Sub.refl _, _, _, rfl, h1', by show _ = SV.dat (kV (kD E k) x); rw [kV_k E k hx], rfl⟩
abbrev sHanM : Stmt := kst 3
theorem scHanM : FnScope ["self", "word"] ["self", "word"] (defScope sHanM) := ⟨rfl, rfl, rfl, by decide +kernel, rfl, by decide +kernel, by decide +kernel⟩
theorem ok_hanM {E : Cl} {f : Addr} {fd : FuncData} (F : Fun K "hands" "Kinds.hands" sHanM f fd) (T : Txt mg) (Z : Kcx K mg E) (R : Ern P w K mg E) (oLotM : OwnMX P w K mg base E.kc "lots" 3 (spLotM E)) : FnX P w K mg base 4 f fd ["self", "word"] (spHanM E) := by
  refine fnf_ok F scHanM (fun rs μ ⟨d, t, e, _⟩ => by rw [e]; rfl) fun cdv A outer s H XE hr hg w' rs μ ⟨d, t, e, ⟨k, ek, ok⟩, ht⟩ hE => ?_
  subst e ek
  obtain ⟨t1, t2, t3, t4, t5, t6, t7, t8, t9, t10, t11, t12, t13, t14, t15, t16, t17, t18, t19, t20, t21⟩ := T
  obtain ⟨gh, fdh, psh, mh, fh, bh⟩ := oLotM.ex
  refine dss_one ?_
  walk_at "drun"
  refine de_methF Z.isi.cls mh fh (takes_of rfl rfl rfl rfl) (hr.mono (by decide)) hg bh (de_nm rfl ⟨_, _, rfl, by decide, da_cons (de_nm rfl (da_nil ⟨⟨_, _, rfl, ⟨k, rfl, ok⟩, ht⟩, fun r μ2 h => ?_, fun ds ν h σ B H dx S I er => ?_⟩))⟩)
  · obtain ⟨d', t', e1, h1, rfl, rfl⟩ := h
    cases e1
    have hm : txt t ∈ k.ys := by
      have := h1
      unfold hasD at this
      rw [kS_k, Bool.and_eq_true, decide_eq_true_eq] at this
      exact this.2
    obtain ⟨xs, ex, hl⟩ := lots_tup (ok.lo _ hm)
    rw [kV_k E k hm, ex]
    walk_at "drun"
    refine ⟨_, Mus.Sub.refl _, _, _, rfl, h1, ?_, rfl⟩
    rw [kV_k E k hm, ex]
    rfl
  · obtain ⟨d', t', e1, h1, rfl, rfl⟩ := h
    cases e1
    exact hE [t] _ ⟨_, t, rfl, h1, rfl, rfl⟩ B H _ dx (Mus.Sub.refl _) I er
def spInit (w : World) (E : Cl) : Sp := FSp E.nk ["what", "who"] (fun rs μ => ∃ q d, rs = [.at q, .dat d] ∧ μ q = some (.ins E.kc [] []) ∧ InOk w d) (fun rs μ r μ' => ∃ q l k, rs = [.at q, .dat (mixD w l)] ∧ dueT l = none ∧ TbOk l ∧ Kof k l ∧ r = .dat .non ∧ μ' = μ.put q (.ins E.kc ["_table"] [dicT k.ys k.f])) fun rs μ ds μ' => ∃ q d x y, rs = [.at q, .dat d] ∧ dueD d = some (x, y) ∧ ds = [x, y] ∧ μ' = μ
structure OwnX (P : Program) (w : World) (K : PySem.W.Frag) (mg : Str → Option Value) (base : Heap) (x : Str) (k : Nat) (sp : Sp) : Prop where
  ex : ∃ f fd ps, FnX P w K mg base k f fd ps sp ∧ mg x = some (.ref f) ∧ PySem.W.keepIn K (.ref f) = true ∧ Binds K fd ps []
theorem due_all : ∀ l : Tbl, dueL l = none → ∀ x ∈ l, nameD x.1 = true ∧ lotsD x.2 = true
  | [], _, x, h => by cases h
  | z :: l, h, x, hx => by
    unfold dueL at h
    cases e1 : nameD z.1 with
    | false => rw [e1] at h; cases h
    | true =>
      cases e2 : lotsD z.2 with
      | false => rw [e1, e2] at h; cases h
      | true =>
        rw [e1, e2] at h
        rcases List.mem_cons.mp hx with e | e
        · rw [e]; exact ⟨e1, e2⟩
        · exact due_all l h x e
theorem name_text {d : Dt} (h : nameD d = true) : isText d = true := by
  cases d <;> first | rfl | (simp [nameD] at h)
theorem nk_txt {l : Tbl} (tx : TxK l) : l.map (fun x => nk x.1) = (l.map fun x => txt x.1).map NestedKey.text := by
  rw [List.map_map]
  refine List.map_congr_left fun x hx => ?_
  show nk x.1 = .text (txt x.1)
  have e := text_of (tx x hx)
  rw [e, nk_str]
  rfl
theorem txt_nd {l : Tbl} (g : GoodK l) (tx : TxK l) : (l.map fun x => txt x.1).Nodup := by
  have := g.nd
  rw [nk_txt tx] at this
  exact (List.pairwise_map.mp this).imp fun h e => h (by rw [e])
/-- what stands at a key -/
def valT (l : Tbl) (y : Str) : Dt := (getT l (.str y)).getD .non
theorem find_nd : ∀ (l : Tbl), (l.map fun x => nk x.1).Nodup → ∀ x ∈ l, (l.find? fun z => decide (nk z.1 = nk x.1)) = some x
  | [], _, x, h => by cases h
  | z :: l, nd, x, h => by
    rw [List.map_cons, List.nodup_cons] at nd
    rw [List.find?_cons]
    by_cases e : nk z.1 = nk x.1
    · rw [decide_eq_true e]
      rcases List.mem_cons.mp h with q | q
      · rw [q]
      · exact absurd (List.mem_map.mpr ⟨x, q, e.symm⟩) nd.1
    · rw [decide_eq_false e]
      refine find_nd l nd.2 x ((List.mem_cons.mp h).resolve_left fun q => e (by rw [q]))
theorem get_nd {l : Tbl} (g : GoodK l) {x : Dt × Dt} (h : x ∈ l) : getT l x.1 = some x.2 := by
  unfold getT
  rw [find_nd l g.nd x h]
  rfl
theorem val_get {l : Tbl} (g : GoodK l) (tx : TxK l) : ∀ x ∈ l, getT l (.str (txt x.1)) = some x.2 := fun x hx => by
  rw [← text_of (tx x hx)]
  exact get_nd g hx
abbrev sInit : Stmt := kst 0
abbrev nInit : List Str := ["self", "table", "word"]
theorem scInit : FnScope nInit ["self", "table"] (defScope sInit) := ⟨rfl, rfl, rfl, by decide +kernel, rfl, by decide +kernel, by decide +kernel⟩
theorem ok_init {E : Cl} {f : Addr} {fd : FuncData} (F : Fun K "__init__" "Kinds.__init__" sInit f fd) (T : Txt mg) (Z : Kcx K mg E) (oCheck : OwnX P w K mg base "_check_table" 3 (spCheck w E)) : FnX P w K mg base 4 f fd ["self", "table"] (spInit w E) := by
  refine fnf_ok F scInit (fun rs μ ⟨q, d, e, _⟩ => by rw [e]; rfl) fun cdv A outer s H XE hr hg w' rs μ ⟨q, d, e, hq, hd⟩ hE => ?_
  subst e
  obtain ⟨t1, t2, t3, t4, t5, t6, t7, t8, t9, t10, t11, t12, t13, t14, t15, t16, t17, t18, t19, t20, t21⟩ := T
  have hN : nInit.Nodup := by decide +kernel
  obtain ⟨gc, fdc, psc, fc, mc, kc, bc⟩ := oCheck.ex
  refine dss_cons (ds_expr (de_callF fc (takes_of rfl rfl rfl rfl) (hr.mono (by decide)) hg mc kc bc (da_cons (de_nm rfl (da_nil ⟨⟨_, rfl, hd⟩, fun r μ2 h => ?_, fun ds ν h σ B H dx S I er => ?_⟩)))))
  · obtain ⟨d', e1, hdue, rfl, rfl⟩ := h
    cases e1
    rcases hd with ⟨l, rfl, ok⟩ | ⟨ho, hn⟩
    · rw [due_mix] at hdue
      have h12 : l.length ≤ 12 := by
        unfold dueT at hdue
        split at hdue
        · cases hdue
        · omega
      have hdl : dueL l = none := by
        unfold dueT at hdue
        rwa [if_neg (by omega)] at hdue
      have al := due_all l hdl
      have tx : TxK l := fun x hx => name_text (al x hx).1
      refine dss_one (ds_fld ?_)
      refine de_dc 2 rfl hN (blkOk_by (N := nInit) (sc := defScope sInit) (by decide +kernel)) ?_
      refine di_lst (de_sorted (da_cons (de_nm rfl (da_nil (ca_sortedTb hr (.inl rfl) ok.gk tx (by omega) fun ys hp hs => ⟨_, rfl, ys, valT l, rfl, ?_⟩)))) t15)
      have nd : ys.Nodup := hp.nodup_iff.mpr (txt_nd ok.gk tx)
      have len : ys.length = l.length := by rw [hp.length_eq, List.length_map]
      have mem : ∀ y ∈ ys, ∃ x ∈ l, txt x.1 = y := fun y hy => List.mem_map.mp (hp.mem_iff.mp hy)
      have vv : ∀ x ∈ l, valT l (txt x.1) = x.2 := fun x hx => by unfold valT; rw [val_get ok.gk tx x hx]; rfl
      refine ⟨nd, by omega, fun y hy w2 kb => de_nm rfl ⟨rfl, rfl⟩, fun y hy w2 kb => ?_, ?_⟩
      · obtain ⟨x, hx, rfl⟩ := mem y hy
        refine de_ix (de_nm rfl (de_nm rfl (ix_tb hr (.inl rfl) ok.gk rfl (by rw [nk_str, NestedKey.depth]; exact Nat.zero_le _) (val_get ok.gk tx x hx) ⟨?_, rfl⟩)))
        rw [vv x hx]
      · refine ⟨_, rfl, de_nm rfl ⟨q, E.kc, [], [], rfl, hq, Z.isi.cls, Z.na, by decide, by decide, ?_⟩⟩
        refine ⟨_, Mus.Sub.refl _, q, l, ⟨ys, valT l⟩, rfl, hdue, ok, ⟨⟨nd, by show ys.length ≤ 12; omega, fun y hy => ?_, fun y hy => ?_⟩, hp, hs, vv⟩, rfl, rfl⟩
        · obtain ⟨x, hx, rfl⟩ := mem y hy
          rw [← text_of (tx x hx)]
          exact (al x hx).1
        · obtain ⟨x, hx, rfl⟩ := mem y hy
          show lotsD (valT l _) = true
          rw [vv x hx]
          exact (al x hx).2
    · exfalso
      cases d with
      | mix _ _ _ => simp [isObj'] at ho
      | _ => simp [dueD] at hdue
  · obtain ⟨d', x, y, e1, hdue, rfl, rfl⟩ := h
    cases e1
    exact hE [x, y] _ ⟨q, d, x, y, rfl, hdue, rfl, rfl⟩ B H _ dx (Mus.Sub.refl _) I er
end
end K12

set_option Elab.async false
set_option linter.all false
set_option maxRecDepth 100000
set_option maxHeartbeats 4000000
namespace K12
open PySem PySem.Spec PyProof.Rows L2 Dat
local macro_rules
  | `(tactic| walk_at "down") => `(tactic| fail "none")
local macro_rules
  | `(tactic| walk_at "dset") => `(tactic| fail "none")
local macro_rules
  | `(tactic| walk_at "dhook") => `(tactic| fail "none")
local macro_rules
  | `(tactic| walk_at "dca") => `(tactic| fail "none")
local macro_rules
  | `(tactic| walk_at "dlst") => `(tactic| refine de_lst ?_)
local macro_rules
  | `(tactic| walk_at "dtup") => `(tactic| refine de_tup ?_)
local macro_rules
  | `(tactic| walk_at "dstep") => `(tactic| first
    | ((with_reducible show DE _ _ _ _ _ _); first | ((with_reducible show DE _ _ (Expr.Name _ _) _ _ _); first | ((with_reducible show DE _ _ (Expr.Name "int" _) _ _ _); refine de_ty_int (by assumption) ?_) | ((with_reducible show DE _ _ (Expr.Name "str" _) _ _ _); refine de_ty_str (by assumption) ?_) | ((with_reducible show DE _ _ (Expr.Name "bool" _) _ _ _); refine de_ty_bool (by assumption) ?_) | ((with_reducible show DE _ _ (Expr.Name "tuple" _) _ _ _); refine de_ty_tuple (by assumption) ?_) | ((with_reducible show DE _ _ (Expr.Name "list" _) _ _ _); refine de_ty_list (by assumption) ?_) | ((with_reducible show DE _ _ (Expr.Name "dict" _) _ _ _); refine de_ty_dict (by assumption) ?_) | refine de_nm rfl ?_ | refine de_globI (by assumption) ?_) | ((with_reducible show DE _ _ (Expr.Constant _ _ _) _ _ _); first | refine de_int ?_ | refine de_str ?_ | refine de_bl ?_ | refine de_non ?_) | ((with_reducible show DE _ _ (Expr.Call (Expr.Name _ _) _ _ _) _ _ _); first | ((with_reducible show DE _ _ (Expr.Call (Expr.Name "isinstance" _) _ _ _) _ _ _); refine de_isinstance ?_ (by assumption)) | ((with_reducible show DE _ _ (Expr.Call (Expr.Name "len" _) _ _ _) _ _ _); refine de_len ?_ (by assumption)) | ((with_reducible show DE _ _ (Expr.Call (Expr.Name "max" _) _ _ _) _ _ _); refine de_max ?_ (by assumption)) | ((with_reducible show DE _ _ (Expr.Call (Expr.Name "min" _) _ _ _) _ _ _); refine de_min ?_ (by assumption)) | ((with_reducible show DE _ _ (Expr.Call (Expr.Name "all" _) _ _ _) _ _ _); refine de_all ?_ (by assumption)) | ((with_reducible show DE _ _ (Expr.Call (Expr.Name "repr" _) _ _ _) _ _ _); refine de_repr ?_ (by assumption)) | ((with_reducible show DE _ _ (Expr.Call (Expr.Name "divmod" _) _ _ _) _ _ _); refine de_divmod ?_ (by assumption)) | ((with_reducible show DE _ _ (Expr.Call (Expr.Name "list" _) _ _ _) _ _ _); refine de_clist ?_ (by assumption)) | ((with_reducible show DE _ _ (Expr.Call (Expr.Name "tuple" _) _ _ _) _ _ _); refine de_ctuple ?_ (by assumption)) | ((with_reducible show DE _ _ (Expr.Call (Expr.Name "int" _) _ _ _) _ _ _); refine de_cint ?_ (by assumption)) | ((with_reducible show DE _ _ (Expr.Call (Expr.Name "str" _) _ _ _) _ _ _); refine de_cstr ?_ (by assumption)) | walk_at "down") | ((with_reducible show DE _ _ (Expr.BinOp _ _ _ _) _ _ _); refine de_op ?_) | ((with_reducible show DE _ _ (Expr.Compare _ [_] _ _) _ _ _); refine de_cmp ?_) | ((with_reducible show DE _ _ (Expr.Compare _ [_, _] _ _) _ _ _); refine de_chain ?_) | ((with_reducible show DE _ _ (Expr.Subscript _ (Expr.Slice _ _ _ _) _) _ _ _); refine de_slice ?_) | ((with_reducible show DE _ _ (Expr.Subscript _ _ _) _ _ _); refine de_ix ?_) | ((with_reducible show DE _ _ (Expr.BoolOp _ [_] _) _ _ _); refine de_one ?_) | ((with_reducible show DE _ _ (Expr.BoolOp BoolOp.And _ _) _ _ _); refine de_and ?_) | ((with_reducible show DE _ _ (Expr.BoolOp BoolOp.Or _ _) _ _ _); refine de_or ?_) | ((with_reducible show DE _ _ (Expr.UnaryOp UnaryOp.Not _ _) _ _ _); refine de_not ?_) | ((with_reducible show DE _ _ (Expr.UnaryOp _ _ _) _ _ _); refine de_un ?_) | ((with_reducible show DE _ _ (Expr.IfExp _ _ _ _) _ _ _); refine de_ifx ?_) | ((with_reducible show DE _ _ (Expr.Tuple _ _ _) _ _ _); walk_at "dtup") | ((with_reducible show DE _ _ (Expr.List _ _) _ _ _); walk_at "dlst") | ((with_reducible show DE _ _ (Expr.Dict [] [] _) _ _ _); refine de_dict0 ?_) | walk_at "dhook")
    | ((with_reducible show DA _ _ _ _ _ _); first | ((with_reducible show DA _ _ [] _ _ _); refine da_nil ?_) | ((with_reducible show DA _ _ (_ :: _) _ _ _); refine da_cons ?_))
    | ((with_reducible show BoolR _ _); refine ⟨_, rfl, ?_⟩)
    | ((with_reducible show (_ = true → _) ∧ (_ = false → _)); (refine ⟨fun h => ?_, fun h => ?_⟩ <;> try (exact Bool.noConfusion h)))
    | ((with_reducible show OpD _ _ _ _ _ _ _); first | ((with_reducible show OpD _ _ (binaryOp Operator.Add) _ _ _ _); first | refine op_addI ?_ | refine op_addT ?_) | ((with_reducible show OpD _ _ (binaryOp Operator.Sub) _ _ _ _); refine op_subI ?_) | ((with_reducible show OpD _ _ (binaryOp Operator.Mod) _ _ _ _); refine op_modI (by first | decide | assumption) ?_) | ((with_reducible show OpD _ _ (binaryOp Operator.Mult) _ _ _ _); refine op_mulI (by first | exact .inr (by decide) | exact .inl (by decide) | (exact .inl (by omega))) ?_) | ((with_reducible show OpD _ _ (binaryOp Operator.Pow) _ _ _ _); refine op_powI (by decide) (by decide) (by decide) ?_) | ((with_reducible show OpD _ _ (binaryOp Operator.FloorDiv) _ _ _ _); refine op_fdivI (by decide) (by decide) ?_) | ((with_reducible show OpD _ _ (compareOp CmpOp.Lt) _ _ _ _); refine op_ltI ?_) | ((with_reducible show OpD _ _ (compareOp CmpOp.LtE) _ _ _ _); first | refine op_leI ?_ | refine op_leS ?_) | ((with_reducible show OpD _ _ (compareOp CmpOp.Gt) _ _ _ _); refine op_gtI ?_) | ((with_reducible show OpD _ _ (compareOp CmpOp.GtE) _ _ _ _); refine op_geI ?_) | ((with_reducible show OpD _ _ (compareOp CmpOp.Eq) _ _ _ _); first | refine op_eqI ?_ | refine op_eqS ?_) | ((with_reducible show OpD _ _ (compareOp CmpOp.NotEq) _ _ _ _); first | refine op_neI ?_ | refine op_neS ?_))
    | ((with_reducible show CaD _ _ _ _ _ _); first | ((with_reducible show CaD _ _ (Value.builtin "isinstance") [_, SV.ty "int"] _ _); refine ca_isi (by assumption) (kit_int _ (by assumption)) ?_) | ((with_reducible show CaD _ _ (Value.builtin "isinstance") [_, SV.ty "bool"] _ _); refine ca_isi (by assumption) (kit_bool _ (by assumption)) ?_) | ((with_reducible show CaD _ _ (Value.builtin "isinstance") [_, SV.ty "str"] _ _); refine ca_isi (by assumption) (kit_str _ (by assumption)) ?_) | ((with_reducible show CaD _ _ (Value.builtin "isinstance") [_, SV.ty "tuple"] _ _); refine ca_isi (by assumption) (kit_tuple _ (by assumption)) ?_) | ((with_reducible show CaD _ _ (Value.builtin "isinstance") [_, SV.ty "list"] _ _); refine ca_isi (by assumption) (kit_list _ (by assumption)) ?_) | ((with_reducible show CaD _ _ (Value.builtin "isinstance") [_, SV.ty "dict"] _ _); refine ca_isi (by assumption) (kit_dict _ (by assumption)) ?_) | ((with_reducible show CaD _ _ (Value.builtin "max") _ _ _); refine ca_max2 rfl ?_) | ((with_reducible show CaD _ _ (Value.builtin "min") _ _ _); refine ca_min2 rfl ?_) | ((with_reducible show CaD _ _ (Value.builtin "len") _ _ _); first | refine ca_lenT ?_ | refine ca_lenS (by assumption) ?_ | refine ca_lenSc ?_ | refine ca_lenL (.inl rfl) ?_) | ((with_reducible show CaD _ _ (Value.type "list") _ _ _); refine ca_listT ?_) | ((with_reducible show CaD _ _ (Value.builtin "divmod") _ _ _); refine ca_divmod (by assumption) (by omega) ?_) | walk_at "dca")
    | ((with_reducible show DT _ _ _ _ _ _); first | ((with_reducible show DT _ _ (Expr.BoolOp _ _ _) _ _ _); refine dt_w ?_) | ((with_reducible show DT _ _ (Expr.UnaryOp UnaryOp.Not _ _) _ _ _); refine dt_not ?_) | ((with_reducible show DT _ _ (Expr.Compare _ [_] _ _) _ _ _); refine dt_cmp ?_) | ((with_reducible show DT _ _ (Expr.Compare _ [_, _] _ _) _ _ _); refine dt_chain ?_) | refine dt_val ?_)
    | ((with_reducible show DW _ _ _ _ _ _); first | ((with_reducible show DW _ _ (Expr.BoolOp BoolOp.And [_] _) _ _ _); refine dw_and1 ?_) | ((with_reducible show DW _ _ (Expr.BoolOp BoolOp.Or [_] _) _ _ _); refine dw_or1 ?_) | ((with_reducible show DW _ _ (Expr.BoolOp BoolOp.And _ _) _ _ _); refine dw_and ?_) | ((with_reducible show DW _ _ (Expr.BoolOp BoolOp.Or _ _) _ _ _); refine dw_or ?_))
    | ((with_reducible show DSs _ _ _ _ _ _); first | ((with_reducible show DSs _ _ [] _ _ _); refine dss_nil ?_) | ((with_reducible show DSs _ _ [_] _ _ _); refine dss_one ?_) | ((with_reducible show DSs _ _ (_ :: _) _ _ _); refine dss_cons ?_))
    | ((with_reducible show DS _ _ _ _ _ _); first | ((with_reducible show DS _ _ (Stmt.Return (some _) _) _ _ _); refine ds_ret ?_) | ((with_reducible show DS _ _ (Stmt.If _ _ _ _) _ _ _); refine ds_if ?_) | ((with_reducible show DS _ _ (Stmt.Expr _ _) _ _ _); refine ds_expr ?_) | ((with_reducible show DS _ _ (Stmt.Assign [Expr.Name _ _] _ _) _ _ _); walk_at "dset"))
    | ((with_reducible show DP _ _ none _ _ _); refine dp_none ?_)
    | ((with_reducible show DP _ _ (some _) _ _ _); refine dp_some ?_)
    | ((with_reducible show ∃ d, SV.dat _ = SV.dat d ∧ Fi d ∧ _); refine ⟨_, rfl, by assumption, ?_⟩)
    | ((with_reducible show ∃ i, SV.dat (Dt.int _) = SV.dat (Dt.int i) ∧ _); refine ⟨_, rfl, ?_⟩)
    | ((with_reducible show SlD _ _ (SV.dat (Dt.tup _)) _ _ _ _); refine sl_dT ?_)
    | ((with_reducible show ∃ ds, undat _ = some ds ∧ ds.length ≤ 1000 ∧ _); refine ⟨_, rfl, Nat.le_of_ble_eq_true rfl, ?_⟩)
    | ((with_reducible show ∃ q, SV.at _ = SV.at q ∧ _); refine ⟨_, rfl, ?_⟩)
    | ((with_reducible show ∃ z, SV.dat (Dt.str _) = SV.dat (Dt.str z) ∧ _); refine ⟨_, rfl, ?_⟩)
    | ((with_reducible show IxD _ _ (SV.at _) (SV.dat (Dt.int 0)) _ _); refine ix_pot0 (by assumption) (fun _ _ => ?_))
    | ((with_reducible show IxD _ _ (SV.at _) (SV.dat (Dt.int 1)) _ _); refine ix_pot1 (by assumption) (fun _ _ _ => ?_))
    | ((with_reducible show UnD _ _ (unaryOp UnaryOp.USub) _ _ _); refine un_negI ?_)
    | ((with_reducible show Po.nx _ _ _); dsimp only)
    | ((with_reducible show Po.rt _ _ _); dsimp only))
local macro_rules
  | `(tactic| walk_at "drun") => `(tactic| repeat' (walk_at "dstep"))

def Nm (l : List Nat) : Prop := 1 ≤ l.length ∧ l.length ≤ 8 ∧ ∀ c, c ∈ l → 97 ≤ c ∧ c ≤ 122
def spNew : Sp := GSp (fun rs μ => ∃ (p q : Addr) (us : List Str), rs = [.at p, .at q] ∧ μ p = some .pot ∧ μ q = some (.lst (us.map .str)) ∧ us.length < 26) fun rs μ r μ' => ∀ (p q : Addr) (us : List Str), rs = [.at p, .at q] → μ q = some (.lst (us.map .str)) → ∃ l, Nm l ∧ SX.S l ∉ us ∧ r = .dat (.str (SX.S l)) ∧ μ' = μ.put q (.lst ((us ++ [SX.S l]).map .str))
theorem str_inj : ∀ {us vs : List Str}, us.map Dt.str = vs.map Dt.str → us = vs
  | [], [], _ => rfl
  | [], _ :: _, h => by cases h
  | _ :: _, [], h => by cases h
  | u :: us, v :: vs, h => by
    rw [List.map_cons, List.map_cons] at h
    injection h with h1 h2
    injection h1 with h1
    rw [h1, str_inj h2]
theorem pigeon {α : Type} [DecidableEq α] : ∀ (zs us : List α), zs.Nodup → (∀ z ∈ zs, z ∈ us) → zs.length ≤ us.length
  | [], _, _, _ => Nat.zero_le _
  | z :: zs, us, nd, h => by
    rw [List.nodup_cons] at nd
    have hz := h z List.mem_cons_self
    have ih := pigeon zs (us.erase z) nd.2 fun y hy => (List.mem_erase_of_ne fun e => nd.1 (by rw [← e]; exact hy)).mpr (h y (List.mem_cons_of_mem _ hy))
    rw [List.length_erase_of_mem hz] at ih
    have : 0 < us.length := List.length_pos_of_mem hz
    rw [List.length_cons]
    omega
def abc : List Nat := (List.range 26).map (97 + ·)
theorem abc_eq : ("abcdefghijklmnopqrstuvwxyz" : Str).cps.toList = abc := by decide +kernel
theorem cut_S (l : List Nat) (n : Nat) : cutS (SX.S l) none (some (n : Int)) = SX.S (l.take n) := by
  have e : HT.sIx (SX.S l).length (SX.S l).length (some (n : Int)) = min n l.length := by
    rw [SX.S_len]
    show (if (n : Int) < 0 then ((n : Int) + l.length).toNat else min (n : Int).toNat l.length) = _
    rw [if_neg (by omega), Int.toNat_natCast]
  have e0 : HT.sIx (SX.S l).length 0 none = 0 := rfl
  unfold cutS
  rw [e, e0]
  show Str.mk _ = Str.mk _
  have : (SX.S l).cps.toList = l := by simp [SX.S]
  rw [this, List.drop_zero, Nat.sub_zero]
  congr 2
  rw [List.take_eq_take_iff]
  omega
theorem sign_S (c : Nat) (l : List Nat) : ((⟨#[c]⟩ : Str) ++ SX.S l) = SX.S (c :: l) := by
  show Str.mk (#[c] ++ l.toArray) = Str.mk (c :: l).toArray
  exact congrArg Str.mk (by simp)
def oneD (t : Str) : Dt → Dt
  | .str z => .str (z ++ t)
  | _ => .non
def twoD (t : Str) : Dt → Dt
  | .str z => .str (z ++ z ++ t)
  | _ => .non
theorem signs_abc : Dat.signs "abcdefghijklmnopqrstuvwxyz" = abc.map fun c => .str ⟨#[c]⟩ := by
  unfold Dat.signs
  rw [abc_eq]
theorem ones_abc (l : List Nat) : (Dat.signs "abcdefghijklmnopqrstuvwxyz").map (oneD (SX.S l)) = (abc.map fun c => SX.S (c :: l)).map Dt.str := by
  rw [signs_abc, List.map_map, List.map_map]
  refine List.map_congr_left fun c _ => ?_
  show Dt.str _ = Dt.str _
  rw [sign_S]
theorem twos_abc (l : List Nat) : (Dat.signs "abcdefghijklmnopqrstuvwxyz").map (twoD (SX.S l)) = (abc.map fun c => SX.S (c :: c :: l)).map Dt.str := by
  rw [signs_abc, List.map_map, List.map_map]
  refine List.map_congr_left fun c _ => ?_
  show Dt.str ((⟨#[c]⟩ : Str) ++ (⟨#[c]⟩ : Str) ++ SX.S l) = Dt.str _
  have : ((⟨#[c]⟩ : Str) ++ (⟨#[c]⟩ : Str)) = SX.S [c, c] := rfl
  rw [this]
  show Dt.str (Str.mk (#[c, c] ++ l.toArray)) = Dt.str (Str.mk (c :: c :: l).toArray)
  exact congrArg (fun z => Dt.str (Str.mk z)) (by simp)
theorem letters_at (v : Int) (h0 : 0 ≤ v) (h1 : v < 26) : ∃ c, atI (("abcdefghijklmnopqrstuvwxyz" : Str)).cps.toList v = some c ∧ 97 ≤ c ∧ c ≤ 122 := by
  have e : ("abcdefghijklmnopqrstuvwxyz" : Str).cps.toList = (List.range 26).map (97 + ·) := by decide +kernel
  rw [e]
  refine ⟨97 + v.toNat, ?_, by omega, by omega⟩
  unfold atI ixN
  rw [if_pos h0, if_pos (by simp; omega)]
  show ((List.range 26).map (97 + ·))[v.toNat]? = _
  rw [List.getElem?_map, List.getElem?_range (by omega)]
  rfl
theorem signs_of : ∀ acc : List Dt, (∀ d, d ∈ acc → ∃ c, 97 ≤ c ∧ c ≤ 122 ∧ d = .str (SX.S [c])) → ∃ l : List Nat, acc = (l.map fun c => SX.S [c]).map Dt.str ∧ ∀ c, c ∈ l → 97 ≤ c ∧ c ≤ 122
  | [], _ => ⟨[], rfl, nofun⟩
  | d :: acc, h => by
    obtain ⟨l, e, hl⟩ := signs_of acc fun d hd => h d (List.mem_cons_of_mem _ hd)
    obtain ⟨c, h1, h2, h3⟩ := h d List.mem_cons_self
    refine ⟨c :: l, by rw [List.map_cons, List.map_cons, ← e, h3], fun y hy => ?_⟩
    rcases List.mem_cons.mp hy with rfl | g
    · exact ⟨h1, h2⟩
    · exact hl y g
theorem joinL_ones : ∀ l : List Nat, TL.joinL [] (l.map fun c => [c]) = l
  | [] => rfl
  | [c] => rfl
  | c :: d :: l => by
    show [c] ++ ([] ++ TL.joinL [] ((d :: l).map fun c => [c])) = _
    rw [joinL_ones (d :: l)]
    rfl
theorem join_ones (l : List Nat) : Txt.join "" (l.map fun c => SX.S [c]) = SX.S l := by
  have e : (l.map fun c => SX.S [c]) = (l.map fun c => [c]).map SX.S := by rw [List.map_map]; rfl
  rw [e]
  exact (SX.join_S [] _).trans (by rw [joinL_ones])
theorem abc_in {c : Nat} (h : c ∈ abc) : 97 ≤ c ∧ c ≤ 122 := by
  obtain ⟨k, hk, rfl⟩ := List.mem_map.mp h
  have := List.mem_range.mp hk
  omega
theorem S_inj {l m : List Nat} (h : SX.S l = SX.S m) : l = m := by
  have : (SX.S l).cps.toList = (SX.S m).cps.toList := by rw [h]
  simpa [SX.S] using this
theorem fresh {us : List Str} (h : us.length < 26) (l : List Nat) : ∃ c ∈ abc, SX.S (c :: l) ∉ us := by
  refine Classical.byContradiction fun hn => ?_
  have al : ∀ z ∈ abc.map (fun c => SX.S (c :: l)), z ∈ us := fun z hz => by
    obtain ⟨c, hc, rfl⟩ := List.mem_map.mp hz
    exact Classical.byContradiction fun q => hn ⟨c, hc, q⟩
  have nd : (abc.map fun c => SX.S (c :: l)).Nodup := by
    have n0 : abc.Nodup := by decide +kernel
    exact List.pairwise_map.mpr (n0.imp fun hne e => hne (by have := S_inj e; injection this))
  have := pigeon _ us nd al
  rw [List.length_map] at this
  have e : abc.length = 26 := rfl
  omega
theorem nm_take {l : List Nat} (h : Nm l) (n c : Nat) (hn : n ≤ 7) (hc : c ∈ abc) : Nm (c :: l.take n) := by
  refine ⟨by rw [List.length_cons]; omega, by rw [List.length_cons, List.length_take]; omega, fun y hy => ?_⟩
  rcases List.mem_cons.mp hy with e | e
  · rw [e]; exact abc_in hc
  · exact h.2.2 y (List.mem_of_mem_take e)
theorem nm_take2 {l : List Nat} (h : Nm l) (c : Nat) (hc : c ∈ abc) : Nm (c :: c :: l.take 6) := by
  refine ⟨by rw [List.length_cons]; omega, by rw [List.length_cons, List.length_cons, List.length_take]; omega, fun y hy => ?_⟩
  rcases List.mem_cons.mp hy with e | e
  · rw [e]; exact abc_in hc
  · rcases List.mem_cons.mp e with e | e
    · rw [e]; exact abc_in hc
    · exact h.2.2 y (List.mem_of_mem_take e)
set_option hygiene false in
local macro_rules
  | `(tactic| walk_at "down") => `(tactic| first | ((with_reducible show DE _ _ (Expr.Call (Expr.Name "_law_take" _) _ _ _) _ _ _); refine de_take oTake hr (by decide) hg ?_))
section
variable {P : Program} {w : World} {K : PySem.W.Frag} {mg : Str → Option Value} {base : Heap}
abbrev sNew : Stmt := top 23
abbrev nNew : List Str := ["_law_pot_here", "_law_used", "_law_letters", "_law_size", "_law_name", "_law_some", "_law_k", "_law_one"]
theorem scNew : FnScope nNew ["_law_pot_here", "_law_used"] (defScope sNew) := ⟨rfl, rfl, rfl, by decide +kernel, rfl, by decide +kernel, by decide +kernel⟩
theorem ok_new {f : Addr} {fd : FuncData} (F : Fun K "_law_label" "_law_label" sNew f fd) (T : Txt mg) (oTake : Own P w K mg base "_law_take" 1 spTake) : FnG P w K mg base 2 f fd ["_law_pot_here", "_law_used"] spNew := by
  refine fn_ok F scNew (fun rs μ ⟨p, q, us, e, _⟩ => by rw [e]; rfl) fun cdv A outer s H hr hg w' rs μ ⟨p, q, us, e, hp, hq, hus⟩ => ?_
  subst e
  obtain ⟨t1, t2, t3, t4, t5, t6, t7, t8, t9, t10, t11, t12, t13, t14, t15, t16, t17, t18, t19, t20, t21⟩ := T
  have hN : nNew.Nodup := by decide +kernel
  refine dss_cons (ds_set 2 hN ?_)
  walk_at "drun"
  refine ds_set 3 hN ?_
  walk_at "drun"
  refine ⟨hp, ⟨by decide, by decide⟩, fun v hv0 hv1 => ?_⟩
  walk_at "drun"
  refine ⟨hp, ⟨by decide, by decide⟩, fun u hu0 hu1 => ?_⟩
  obtain ⟨d, hd, hat⟩ := atI_some [.int 1, .int 1, .int 2, .int 8, .int (1 + v)] u hu0 (by simpa using hu1)
  have hsz : ∃ n : Nat, d = .int n ∧ 1 ≤ n ∧ n ≤ 8 := by
    simp only [List.mem_cons, List.not_mem_nil, or_false] at hd
    rcases hd with rfl | rfl | rfl | rfl | rfl
    · exact ⟨1, rfl, by omega, by omega⟩
    · exact ⟨1, rfl, by omega, by omega⟩
    · exact ⟨2, rfl, by omega, by omega⟩
    · exact ⟨8, rfl, by omega, by omega⟩
    · exact ⟨(1 + v).toNat, by rw [Int.toNat_of_nonneg (by omega)], by omega, by omega⟩
  obtain ⟨n, rfl, hn1, hn8⟩ := hsz
  refine ix_dL (.inl rfl) hat ?_
  walk_at "drun"
  refine ds_set 4 hN ?_
  refine de_join ?_
  walk_at "drun"
  refine de_lc 6 rfl hN (blkOk_by (N := nNew) (sc := defScope sNew) (by decide +kernel)) ?_
  refine di_range1 ?_ t12
  walk_at "drun"
  refine ⟨_, rfl, by omega, by omega, ?_⟩
  refine lc_some (fun d => ∃ c, 97 ≤ c ∧ c ≤ 122 ∧ d = .str (SX.S [c])) (by simp [upto]; omega) ?_ ?_
  · intro d hd w2 k
    walk_at "drun"
    refine ⟨hp, ⟨by decide, by decide⟩, fun y hy0 hy1 => ?_⟩
    obtain ⟨c, hc, hc1, hc2⟩ := letters_at y hy0 hy1
    refine ix_dS (small_ok (by decide)) hc ?_
    exact ⟨_, rfl, ⟨c, hc1, hc2, rfl⟩, rfl⟩
  intro acc hacc hT
  obtain ⟨l, rfl, hl⟩ := signs_of acc hT
  have hln : l.length = n := by simpa [upto] using hacc
  refine ⟨l.map fun c => SX.S [c], .inl rfl, ?_, ?_⟩
  · have : ∀ l : List Nat, ((l.map fun c => SX.S [c]).map (·.length)).sum = l.length := by
      intro l
      induction l with
      | nil => rfl
      | cons c l ih => rw [List.map_cons, List.map_cons, List.sum_cons, ih, List.length_cons]; show 1 + _ = _; omega
    rw [this, List.length_map]
    have e0 : ("" : Str).length = 0 := rfl
    rw [e0]
    omega
  rw [join_ones]
  walk_at "drun"
  show DS (bx P w K mg base nNew "_law_label" sNew f cdv A outer s H) w' _ [.at p, .at q, .dat (.str "abcdefghijklmnopqrstuvwxyz"), .dat (.int n), .dat (.str (SX.S l)), .no, .no, .no] μ _
  have hlen : (SX.S l).length ≤ 8 := by rw [SX.S_len]; omega
  refine ds_set 5 hN ?_
  walk_at "drun"
  refine de_lc 7 rfl hN (blkOk_by (N := nNew) (sc := defScope sNew) (by decide +kernel)) ?_
  refine di_str ?_
  walk_at "drun"
  have s7 : (SX.S (l.take 7)).length ≤ 7 := by rw [SX.S_len, List.length_take]; omega
  have s6 : (SX.S (l.take 6)).length ≤ 6 := by rw [SX.S_len, List.length_take]; omega
  refine lc_map (oneD (SX.S (l.take 7))) (by decide) ?_ ?_
  · intro d hd w2 k
    obtain ⟨c, hc, rfl⟩ := signs_mem hd
    walk_at "drun"
    refine sl_dS (small_ok (by omega)) ?_
    rw [show cutS (SX.S l) none (some 7) = SX.S (l.take 7) from cut_S l 7]
    refine op_addS (small_ok (by have h1 : (⟨#[c]⟩ : Str).length = 1 := rfl; omega)) ?_
    exact ⟨rfl, rfl⟩
  rw [ones_abc]
  refine op_addL (.inl rfl) (.inl rfl) (small_ok (by simp [abc])) ?_
  refine de_lc 7 rfl hN (blkOk_by (N := nNew) (sc := defScope sNew) (by decide +kernel)) ?_
  refine di_str ?_
  walk_at "drun"
  refine lc_map (twoD (SX.S (l.take 6))) (by decide) ?_ ?_
  · intro d hd w2 k
    obtain ⟨c, hc, rfl⟩ := signs_mem hd
    have h1 : (⟨#[c]⟩ : Str).length = 1 := rfl
    walk_at "drun"
    refine op_addS (small_ok (by omega)) ?_
    walk_at "drun"
    refine sl_dS (small_ok (by omega)) ?_
    rw [show cutS (SX.S l) none (some 6) = SX.S (l.take 6) from cut_S l 6]
    have h2 : ((⟨#[c]⟩ : Str) ++ (⟨#[c]⟩ : Str)).length = 2 := rfl
    refine op_addS (small_ok (by omega)) ?_
    exact ⟨rfl, rfl⟩
  rw [twos_abc]
  refine op_addL (.inl rfl) (.inl rfl) (small_ok (by simp [abc])) ?_
  have ez : ([.str (SX.S l)] ++ (abc.map fun c => SX.S (c :: l.take 7)).map Dt.str ++ (abc.map fun c => SX.S (c :: c :: l.take 6)).map Dt.str : List Dt) = ([SX.S l] ++ (abc.map fun c => SX.S (c :: l.take 7)) ++ (abc.map fun c => SX.S (c :: c :: l.take 6))).map Dt.str := by
    rw [List.map_append, List.map_append]; rfl
  rw [ez]
  generalize hcs : [SX.S l] ++ (abc.map fun c => SX.S (c :: l.take 7)) ++ (abc.map fun c => SX.S (c :: c :: l.take 6)) = cs
  have hl : Nm l := ⟨by omega, by omega, hl⟩
  have good : ∀ z ∈ cs, ∃ m, Nm m ∧ z = SX.S m := fun z hz => by
    rw [← hcs] at hz
    simp only [List.mem_append, List.mem_singleton] at hz
    rcases hz with (rfl | h) | h
    · exact ⟨l, hl, rfl⟩
    · obtain ⟨c, hc, rfl⟩ := List.mem_map.mp h
      exact ⟨_, nm_take hl 7 c (by omega) hc, rfl⟩
    · obtain ⟨c, hc, rfl⟩ := List.mem_map.mp h
      exact ⟨_, nm_take2 hl c hc, rfl⟩
  have hlen : cs.length ≤ 53 := by rw [← hcs]; simp [abc]
  obtain ⟨c0, hc0, hn0⟩ := fresh hus (l.take 7)
  have m0 : SX.S (c0 :: l.take 7) ∈ cs := by
    rw [← hcs]
    exact List.mem_append_left _ (List.mem_append_right _ (List.mem_map.mpr ⟨c0, hc0, rfl⟩))
  walk_at "drun"
  show DS (bx P w K mg base nNew "_law_label" sNew f cdv A outer s H) w' _ [.at p, .at q, .dat (.str "abcdefghijklmnopqrstuvwxyz"), .dat (.int n), .dat (.str (SX.S l)), .dat (.lst (cs.map Dt.str)), .no, .no] μ _
  refine ds_set 4 hN ?_
  walk_at "drun"
  refine de_lc 7 rfl hN (blkOk_by (N := nNew) (sc := defScope sNew) (by decide +kernel)) ?_
  refine di_lst ?_
  walk_at "drun"
  refine ⟨_, rfl, lc_filter id (fun d => !decide (txt d ∈ us)) (by rw [List.length_map]; omega) ?_ ?_ ?_⟩
  · intro d hd w2 k
    obtain ⟨z, hz, rfl⟩ := List.mem_map.mp hd
    walk_at "drun"
    refine op_notInL (zs := us) (.inr ⟨q, rfl, hq⟩) ?_
    walk_at "drun"
    exact ⟨rfl, rfl⟩
  · intro d hd _ w2 k
    obtain ⟨z, hz, rfl⟩ := List.mem_map.mp hd
    walk_at "drun"
    exact ⟨rfl, rfl⟩
  walk_at "drun"
  obtain ⟨d0, ds0, e0⟩ : ∃ d0 ds0, (cs.map Dt.str).filter (fun d => !decide (txt d ∈ us)) = d0 :: ds0 := by
    cases e : (cs.map Dt.str).filter (fun d => !decide (txt d ∈ us)) with
    | cons d ds => exact ⟨d, ds, rfl⟩
    | nil =>
      have := List.filter_eq_nil_iff.mp e _ (List.mem_map.mpr ⟨_, m0, rfl⟩)
      simp [txt, hn0] at this
  have md : d0 ∈ (cs.map Dt.str).filter (fun d => !decide (txt d ∈ us)) := by rw [e0]; exact List.mem_cons_self
  obtain ⟨md1, md2⟩ := List.mem_filter.mp md
  obtain ⟨z, hz, rfl⟩ := List.mem_map.mp md1
  obtain ⟨m, hm, rfl⟩ := good z hz
  have hnu : SX.S m ∉ us := fun hz => by
    have h9 : (!decide (SX.S m ∈ us)) = true := md2
    rw [decide_eq_true hz] at h9
    cases h9
  refine ix_dL (.inl rfl) (d := .str (SX.S m)) (by rw [e0, List.map_id]; exact atI_head _ _) ?_
  walk_at "drun"
  refine de_bm (T := "list") (id := "list.append") (de_nm rfl ⟨ty_lst (.inr ⟨q, rfl, hq⟩), ?_⟩) PySem.F.plainAttrs_list PySem.F.slot_list_append PySem.F.type_list_append
  walk_at "drun"
  refine mt_appendM hq (by rw [List.length_map]; omega) ?_
  walk_at "drun"
  refine ⟨_, Mus.Sub.refl _, fun p' q' us' e hq' => ?_⟩
  cases e
  rw [hq] at hq'
  injection hq' with hq'
  injection hq' with hq'
  have eu := str_inj hq'
  subst eu
  exact ⟨m, hm, hnu, rfl, by rw [List.map_append]; rfl⟩
end
end K12

set_option Elab.async false
set_option linter.all false
set_option maxRecDepth 100000
set_option maxHeartbeats 4000000
namespace K12
open PySem PySem.Spec PyProof.Rows L2 Dat Er Mx
local macro_rules
  | `(tactic| walk_at "down") => `(tactic| fail "none")
local macro_rules
  | `(tactic| walk_at "dset") => `(tactic| fail "none")
local macro_rules
  | `(tactic| walk_at "dhook") => `(tactic| fail "none")
local macro_rules
  | `(tactic| walk_at "dca") => `(tactic| fail "none")
local macro_rules
  | `(tactic| walk_at "dlst") => `(tactic| refine de_lst ?_)
local macro_rules
  | `(tactic| walk_at "dtup") => `(tactic| refine de_tup ?_)
local macro_rules
  | `(tactic| walk_at "dstep") => `(tactic| first
    | ((with_reducible show DE _ _ _ _ _ _); first | ((with_reducible show DE _ _ (Expr.Name _ _) _ _ _); first | ((with_reducible show DE _ _ (Expr.Name "int" _) _ _ _); refine de_ty_int (by assumption) ?_) | ((with_reducible show DE _ _ (Expr.Name "str" _) _ _ _); refine de_ty_str (by assumption) ?_) | ((with_reducible show DE _ _ (Expr.Name "bool" _) _ _ _); refine de_ty_bool (by assumption) ?_) | ((with_reducible show DE _ _ (Expr.Name "tuple" _) _ _ _); refine de_ty_tuple (by assumption) ?_) | ((with_reducible show DE _ _ (Expr.Name "list" _) _ _ _); refine de_ty_list (by assumption) ?_) | ((with_reducible show DE _ _ (Expr.Name "dict" _) _ _ _); refine de_ty_dict (by assumption) ?_) | refine de_nm rfl ?_ | refine de_globI (by assumption) ?_) | ((with_reducible show DE _ _ (Expr.Constant _ _ _) _ _ _); first | refine de_int ?_ | refine de_str ?_ | refine de_bl ?_ | refine de_non ?_) | ((with_reducible show DE _ _ (Expr.Call (Expr.Name _ _) _ _ _) _ _ _); first | ((with_reducible show DE _ _ (Expr.Call (Expr.Name "isinstance" _) _ _ _) _ _ _); refine de_isinstance ?_ (by assumption)) | ((with_reducible show DE _ _ (Expr.Call (Expr.Name "len" _) _ _ _) _ _ _); refine de_len ?_ (by assumption)) | ((with_reducible show DE _ _ (Expr.Call (Expr.Name "max" _) _ _ _) _ _ _); refine de_max ?_ (by assumption)) | ((with_reducible show DE _ _ (Expr.Call (Expr.Name "min" _) _ _ _) _ _ _); refine de_min ?_ (by assumption)) | ((with_reducible show DE _ _ (Expr.Call (Expr.Name "all" _) _ _ _) _ _ _); refine de_all ?_ (by assumption)) | ((with_reducible show DE _ _ (Expr.Call (Expr.Name "repr" _) _ _ _) _ _ _); refine de_repr ?_ (by assumption)) | ((with_reducible show DE _ _ (Expr.Call (Expr.Name "divmod" _) _ _ _) _ _ _); refine de_divmod ?_ (by assumption)) | ((with_reducible show DE _ _ (Expr.Call (Expr.Name "list" _) _ _ _) _ _ _); refine de_clist ?_ (by assumption)) | ((with_reducible show DE _ _ (Expr.Call (Expr.Name "tuple" _) _ _ _) _ _ _); refine de_ctuple ?_ (by assumption)) | ((with_reducible show DE _ _ (Expr.Call (Expr.Name "int" _) _ _ _) _ _ _); refine de_cint ?_ (by assumption)) | ((with_reducible show DE _ _ (Expr.Call (Expr.Name "str" _) _ _ _) _ _ _); refine de_cstr ?_ (by assumption)) | walk_at "down") | ((with_reducible show DE _ _ (Expr.BinOp _ _ _ _) _ _ _); refine de_op ?_) | ((with_reducible show DE _ _ (Expr.Compare _ [_] _ _) _ _ _); refine de_cmp ?_) | ((with_reducible show DE _ _ (Expr.Compare _ [_, _] _ _) _ _ _); refine de_chain ?_) | ((with_reducible show DE _ _ (Expr.Subscript _ (Expr.Slice _ _ _ _) _) _ _ _); refine de_slice ?_) | ((with_reducible show DE _ _ (Expr.Subscript _ _ _) _ _ _); refine de_ix ?_) | ((with_reducible show DE _ _ (Expr.BoolOp _ [_] _) _ _ _); refine de_one ?_) | ((with_reducible show DE _ _ (Expr.BoolOp BoolOp.And _ _) _ _ _); refine de_and ?_) | ((with_reducible show DE _ _ (Expr.BoolOp BoolOp.Or _ _) _ _ _); refine de_or ?_) | ((with_reducible show DE _ _ (Expr.UnaryOp UnaryOp.Not _ _) _ _ _); refine de_not ?_) | ((with_reducible show DE _ _ (Expr.UnaryOp _ _ _) _ _ _); refine de_un ?_) | ((with_reducible show DE _ _ (Expr.IfExp _ _ _ _) _ _ _); refine de_ifx ?_) | ((with_reducible show DE _ _ (Expr.Tuple _ _ _) _ _ _); walk_at "dtup") | ((with_reducible show DE _ _ (Expr.List _ _) _ _ _); walk_at "dlst") | ((with_reducible show DE _ _ (Expr.Dict [] [] _) _ _ _); refine de_dict0 ?_) | walk_at "dhook")
    | ((with_reducible show DA _ _ _ _ _ _); first | ((with_reducible show DA _ _ [] _ _ _); refine da_nil ?_) | ((with_reducible show DA _ _ (_ :: _) _ _ _); refine da_cons ?_))
    | ((with_reducible show BoolR _ _); refine ⟨_, rfl, ?_⟩)
    | ((with_reducible show (_ = true → _) ∧ (_ = false → _)); (refine ⟨fun h => ?_, fun h => ?_⟩ <;> try (exact Bool.noConfusion h)))
    | ((with_reducible show OpD _ _ _ _ _ _ _); first | ((with_reducible show OpD _ _ (binaryOp Operator.Add) _ _ _ _); first | refine op_addI ?_ | refine op_addT ?_) | ((with_reducible show OpD _ _ (binaryOp Operator.Sub) _ _ _ _); refine op_subI ?_) | ((with_reducible show OpD _ _ (binaryOp Operator.Mod) _ _ _ _); refine op_modI (by first | decide | assumption) ?_) | ((with_reducible show OpD _ _ (binaryOp Operator.Mult) _ _ _ _); refine op_mulI (by first | exact .inr (by decide) | exact .inl (by decide) | (exact .inl (by omega))) ?_) | ((with_reducible show OpD _ _ (binaryOp Operator.Pow) _ _ _ _); refine op_powI (by decide) (by decide) (by decide) ?_) | ((with_reducible show OpD _ _ (binaryOp Operator.FloorDiv) _ _ _ _); refine op_fdivI (by decide) (by decide) ?_) | ((with_reducible show OpD _ _ (compareOp CmpOp.Lt) _ _ _ _); refine op_ltI ?_) | ((with_reducible show OpD _ _ (compareOp CmpOp.LtE) _ _ _ _); first | refine op_leI ?_ | refine op_leS ?_) | ((with_reducible show OpD _ _ (compareOp CmpOp.Gt) _ _ _ _); refine op_gtI ?_) | ((with_reducible show OpD _ _ (compareOp CmpOp.GtE) _ _ _ _); refine op_geI ?_) | ((with_reducible show OpD _ _ (compareOp CmpOp.Eq) _ _ _ _); first | refine op_eqI ?_ | refine op_eqS ?_) | ((with_reducible show OpD _ _ (compareOp CmpOp.NotEq) _ _ _ _); first | refine op_neI ?_ | refine op_neS ?_))
    | ((with_reducible show CaD _ _ _ _ _ _); first | ((with_reducible show CaD _ _ (Value.builtin "isinstance") [_, SV.ty "int"] _ _); refine ca_isi (by assumption) (kit_int _ (by assumption)) ?_) | ((with_reducible show CaD _ _ (Value.builtin "isinstance") [_, SV.ty "bool"] _ _); refine ca_isi (by assumption) (kit_bool _ (by assumption)) ?_) | ((with_reducible show CaD _ _ (Value.builtin "isinstance") [_, SV.ty "str"] _ _); refine ca_isi (by assumption) (kit_str _ (by assumption)) ?_) | ((with_reducible show CaD _ _ (Value.builtin "isinstance") [_, SV.ty "tuple"] _ _); refine ca_isi (by assumption) (kit_tuple _ (by assumption)) ?_) | ((with_reducible show CaD _ _ (Value.builtin "isinstance") [_, SV.ty "list"] _ _); refine ca_isi (by assumption) (kit_list _ (by assumption)) ?_) | ((with_reducible show CaD _ _ (Value.builtin "isinstance") [_, SV.ty "dict"] _ _); refine ca_isi (by assumption) (kit_dict _ (by assumption)) ?_) | ((with_reducible show CaD _ _ (Value.builtin "max") _ _ _); refine ca_max2 rfl ?_) | ((with_reducible show CaD _ _ (Value.builtin "min") _ _ _); refine ca_min2 rfl ?_) | ((with_reducible show CaD _ _ (Value.builtin "len") _ _ _); first | refine ca_lenT ?_ | refine ca_lenS (by assumption) ?_ | refine ca_lenSc ?_ | refine ca_lenL (.inl rfl) ?_) | ((with_reducible show CaD _ _ (Value.type "list") _ _ _); refine ca_listT ?_) | ((with_reducible show CaD _ _ (Value.builtin "divmod") _ _ _); refine ca_divmod (by assumption) (by omega) ?_) | walk_at "dca")
    | ((with_reducible show DT _ _ _ _ _ _); first | ((with_reducible show DT _ _ (Expr.BoolOp _ _ _) _ _ _); refine dt_w ?_) | ((with_reducible show DT _ _ (Expr.UnaryOp UnaryOp.Not _ _) _ _ _); refine dt_not ?_) | ((with_reducible show DT _ _ (Expr.Compare _ [_] _ _) _ _ _); refine dt_cmp ?_) | ((with_reducible show DT _ _ (Expr.Compare _ [_, _] _ _) _ _ _); refine dt_chain ?_) | refine dt_val ?_)
    | ((with_reducible show DW _ _ _ _ _ _); first | ((with_reducible show DW _ _ (Expr.BoolOp BoolOp.And [_] _) _ _ _); refine dw_and1 ?_) | ((with_reducible show DW _ _ (Expr.BoolOp BoolOp.Or [_] _) _ _ _); refine dw_or1 ?_) | ((with_reducible show DW _ _ (Expr.BoolOp BoolOp.And _ _) _ _ _); refine dw_and ?_) | ((with_reducible show DW _ _ (Expr.BoolOp BoolOp.Or _ _) _ _ _); refine dw_or ?_))
    | ((with_reducible show DSs _ _ _ _ _ _); first | ((with_reducible show DSs _ _ [] _ _ _); refine dss_nil ?_) | ((with_reducible show DSs _ _ [_] _ _ _); refine dss_one ?_) | ((with_reducible show DSs _ _ (_ :: _) _ _ _); refine dss_cons ?_))
    | ((with_reducible show DS _ _ _ _ _ _); first | ((with_reducible show DS _ _ (Stmt.Return (some _) _) _ _ _); refine ds_ret ?_) | ((with_reducible show DS _ _ (Stmt.If _ _ _ _) _ _ _); refine ds_if ?_) | ((with_reducible show DS _ _ (Stmt.Expr _ _) _ _ _); refine ds_expr ?_) | ((with_reducible show DS _ _ (Stmt.Assign [Expr.Name _ _] _ _) _ _ _); walk_at "dset"))
    | ((with_reducible show DP _ _ none _ _ _); refine dp_none ?_)
    | ((with_reducible show DP _ _ (some _) _ _ _); refine dp_some ?_)
    | ((with_reducible show ∃ d, SV.dat _ = SV.dat d ∧ Fi d ∧ _); refine ⟨_, rfl, by assumption, ?_⟩)
    | ((with_reducible show ∃ i, SV.dat (Dt.int _) = SV.dat (Dt.int i) ∧ _); refine ⟨_, rfl, ?_⟩)
    | ((with_reducible show SlD _ _ (SV.dat (Dt.tup _)) _ _ _ _); refine sl_dT ?_)
    | ((with_reducible show ∃ ds, undat _ = some ds ∧ ds.length ≤ 1000 ∧ _); refine ⟨_, rfl, Nat.le_of_ble_eq_true rfl, ?_⟩)
    | ((with_reducible show ∃ q, SV.at _ = SV.at q ∧ _); refine ⟨_, rfl, ?_⟩)
    | ((with_reducible show ∃ z, SV.dat (Dt.str _) = SV.dat (Dt.str z) ∧ _); refine ⟨_, rfl, ?_⟩)
    | ((with_reducible show IxD _ _ (SV.at _) (SV.dat (Dt.int 0)) _ _); refine ix_pot0 (by assumption) (fun _ _ => ?_))
    | ((with_reducible show IxD _ _ (SV.at _) (SV.dat (Dt.int 1)) _ _); refine ix_pot1 (by assumption) (fun _ _ _ => ?_))
    | ((with_reducible show UnD _ _ (unaryOp UnaryOp.USub) _ _ _); refine un_negI ?_)
    | ((with_reducible show Po.nx _ _ _); dsimp only)
    | ((with_reducible show Po.rt _ _ _); dsimp only))
local macro_rules
  | `(tactic| walk_at "drun") => `(tactic| repeat' (walk_at "dstep"))

section
variable {X : Cx} {w : Wd} {ρ : List SV} {μ : Mus} {R : SV → Mus → Prop} {e e2 : Expr} {p pos : Pos} {j k : Nat} {x : Str}
theorem de_newU (O : Own X.prog X.w X.K X.mg X.base x k spNew) (hr : Room j X.A) (hkj : k ≤ j) (hgd : X.A.guards = some [])
    (ha : DE X w e ρ μ fun r μ1 => ∃ p, r = .at p ∧ DE X w e2 ρ μ1 fun r2 μ2 => ∃ (q : Addr) (us : List Str), r2 = .at q ∧ μ2 p = some .pot ∧ μ2 q = some (.lst (us.map .str)) ∧ us.length < 26 ∧ ∀ l, Nm l → SX.S l ∉ us → R (.dat (.str (SX.S l))) (μ2.put q (.lst ((us ++ [SX.S l]).map .str)))) (hg : Gl X x := by rfl) (hdb : (x == ("__debug__" : Str)) = false := by decide)
    (he : starEach [e, e2] X.env = (false, eval e X.env) :: starEach [e2] X.env := by rfl) (he2 : starEach [e2] X.env = (false, eval e2 X.env) :: starEach [] X.env := by rfl) (hpl : (backTo pos (starEach [e2] X.env)).any (·.1) = false := by rfl) : DE X w (.Call (.Name x p) [e, e2] [] pos) ρ μ R :=
  de_own O hr hkj hgd (da_cons (hs := he) (ha.imp fun r μ1 ⟨p, e1, h1⟩ => by
    subst e1
    exact da_cons (hs := he2) (h1.imp fun r2 μ2 ⟨q, us, e3, h2, h3, h4, h5⟩ => by
      subst e3
      refine da_nil ⟨⟨p, q, us, rfl, h2, h3, h4⟩, fun r μ3 h6 => ?_⟩
      obtain ⟨l, h7, h8, rfl, rfl⟩ := h6 p q us rfl h3
      exact h5 l h7 h8))) hg hdb he hpl
end
/-! ### a list turned -/
theorem perm_erase {α : Type} : ∀ (xs : List α) (k : Nat) (d : α), xs[k]? = some d → (d :: xs.eraseIdx k).Perm xs
  | [], _, _, h => by simp at h
  | x :: xs, 0, d, h => by simp at h; subst h; exact List.Perm.refl _
  | x :: xs, k + 1, d, h => by
    have ih := perm_erase xs k d (by simpa using h)
    rw [List.eraseIdx_cons_succ]
    exact (List.Perm.swap x d _).trans (ih.cons x)
def spTurn : Sp := QSp (fun ds => ∃ xs, ds = [.lst xs] ∧ xs.length ≤ 100) fun ds r => ∃ xs ys, ds = [.lst xs] ∧ r = .lst ys ∧ ys.Perm xs
set_option hygiene false in
local macro_rules
  | `(tactic| walk_at "down") => `(tactic| first | ((with_reducible show DE _ _ (Expr.Call (Expr.Name "_law_take" _) _ _ _) _ _ _); refine de_take oTake hr (by decide) hg ?_))
section
variable {P : Program} {w : World} {K : PySem.W.Frag} {mg : Str → Option Value} {base : Heap}
abbrev sTurn : Stmt := top 25
abbrev nTurn : List Str := ["_law_pot_here", "_law_some", "_law_left", "_law_found"]
theorem scTurn : FnScope nTurn ["_law_pot_here", "_law_some"] (defScope sTurn) := ⟨rfl, rfl, rfl, by decide +kernel, rfl, by decide +kernel, by decide +kernel⟩
theorem ok_turn {f : Addr} {fd : FuncData} (F : Fun K "_law_turned" "_law_turned" sTurn f fd) (T : Txt mg) (oTake : Own P w K mg base "_law_take" 1 spTake) : FnG P w K mg base 2 f fd ["_law_pot_here", "_law_some"] spTurn := by
  refine fn_pot F scTurn (fun ds ⟨xs, e, _⟩ => by rw [e]; rfl) fun cdv A outer s H hr hg w' p ds μ hp ⟨xs, e, hx⟩ => ?_
  subst e
  obtain ⟨t1, t2, t3, t4, t5, t6, t7, t8, t9, t10, t11, t12, t13, t14, t15, t16, t17, t18, t19, t20, t21⟩ := T
  have hN : nTurn.Nodup := by decide +kernel
  refine dss_cons (ds_par 2 3 rfl hN ?_)
  walk_at "drun"
  refine ca_listM (.inl rfl) fun q hq0 hw0 => ?_
  refine da_cons (de_lstM (da_nil ⟨[], rfl, by decide, fun q2 hq2 hw2 => ?_⟩))
  have ne : q2 ≠ q := fun e => by rw [e, put_same] at hq2; cases hq2
  have hq2' : μ q2 = none := by rwa [put_ne ne] at hq2
  have np : p ≠ q := fun e => by rw [e, hq0] at hp; cases hp
  have np2 : p ≠ q2 := fun e => by rw [e, hq2'] at hp; cases hp
  walk_at "drun"
  refine ⟨_, _, rfl, ?_⟩
  refine dss_cons (ds_while (fun n ρ' μ' => ∃ ls fs, ls.length = n ∧ ρ' = [.at p, .dat (.lst xs), .at q, .at q2] ∧ μ' = (μ.put q (.lst ls)).put q2 (.lst fs) ∧ (fs ++ ls).Perm xs) xs.length ⟨xs, [], rfl, rfl, rfl, List.Perm.refl _⟩ PassesOwn.never fun n ρ1 μ1 ⟨ls, fs, hl, e1, e2, hp1⟩ => ?_)
  subst e1 e2
  have len := hp1.length_eq
  rw [List.length_append] at len
  have mq : ((μ.put q (.lst ls)).put q2 (.lst fs)) q = some (.lst ls) := by rw [put_ne ne.symm, put_same]
  have mp : ((μ.put q (.lst ls)).put q2 (.lst fs)) p = some .pot := by rw [put_ne np2, put_ne np]; exact hp
  walk_at "drun"
  refine op_neNil hr (.inr ⟨q, rfl, mq⟩) ?_
  refine ⟨_, rfl, fun h1 => ?_, fun h1 => ?_⟩
  · walk_at "drun"
    refine de_bm (T := "list") (id := "list.append") (de_nm rfl ⟨ty_lst (.inr ⟨q2, rfl, put_same⟩), ?_⟩) PySem.F.plainAttrs_list PySem.F.slot_list_append PySem.F.type_list_append
    refine da_cons (de_bm (T := "list") (id := "list.pop") (de_nm rfl ⟨ty_lst (.inr ⟨q, rfl, mq⟩), ?_⟩) PySem.F.plainAttrs_list PySem.F.slot_list_pop PySem.F.type_list_pop)
    walk_at "drun"
    refine ca_lenL (.inr ⟨q, rfl, mq⟩) ?_
    have pos : 0 < ls.length := by
      cases ls with
      | nil => simp at h1
      | cons _ _ => simp
    walk_at "drun"
    refine ⟨mp, ⟨by omega, by omega⟩, fun v hv0 hv1 => ?_⟩
    walk_at "drun"
    have hv : v.toNat < ls.length := by omega
    refine mt_popM mq hv0 (List.getElem?_eq_getElem hv) (by omega) ?_
    have e3 : ((μ.put q (.lst ls)).put q2 (.lst fs)).put q (.lst (ls.eraseIdx v.toNat)) = (μ.put q (.lst (ls.eraseIdx v.toNat))).put q2 (.lst fs) := by
      funext c
      unfold Mus.put
      by_cases c1 : c = q
      · rw [if_pos c1, if_neg (fun z => ne (by rw [← z, c1])), if_pos c1]
      · rw [if_neg c1, if_neg c1, if_neg c1]
    rw [e3]
    refine da_nil (mt_appendM put_same (by omega) ?_)
    rw [put_put]
    refine ⟨n - 1, by omega, ls.eraseIdx v.toNat, fs ++ [ls[v.toNat]], by rw [List.length_eraseIdx_of_lt hv]; omega, rfl, rfl, ?_⟩
    rw [List.append_assoc]
    exact ((perm_erase ls v.toNat _ (List.getElem?_eq_getElem hv)).append_left fs).trans hp1
  · have e0 : ls = [] := by
      cases ls with
      | nil => rfl
      | cons _ _ => simp at h1
    subst e0
    refine dss_one (ds_retL (de_nm rfl ⟨q2, fs, μ.put q (.lst []), rfl, put_same, hw2, sub_put (by rw [put_ne ne]; exact hq2'), by rw [put_ne ne]; exact hq2', ?_⟩))
    rw [List.append_nil] at hp1
    exact ⟨_, rfl, ⟨_, _, rfl, rfl, hp1⟩, sub_put hq0⟩
end
end K12

set_option Elab.async false
set_option linter.all false
set_option maxRecDepth 100000
set_option maxHeartbeats 4000000
namespace K12
open PySem PySem.Spec PyProof.Rows L2 Dat Er Mx
local macro_rules
  | `(tactic| walk_at "down") => `(tactic| fail "none")
local macro_rules
  | `(tactic| walk_at "dset") => `(tactic| fail "none")
local macro_rules
  | `(tactic| walk_at "dhook") => `(tactic| fail "none")
local macro_rules
  | `(tactic| walk_at "dca") => `(tactic| fail "none")
local macro_rules
  | `(tactic| walk_at "dlst") => `(tactic| refine de_lst ?_)
local macro_rules
  | `(tactic| walk_at "dtup") => `(tactic| refine de_tup ?_)
local macro_rules
  | `(tactic| walk_at "dstep") => `(tactic| first
    | ((with_reducible show DE _ _ _ _ _ _); first | ((with_reducible show DE _ _ (Expr.Name _ _) _ _ _); first | ((with_reducible show DE _ _ (Expr.Name "int" _) _ _ _); refine de_ty_int (by assumption) ?_) | ((with_reducible show DE _ _ (Expr.Name "str" _) _ _ _); refine de_ty_str (by assumption) ?_) | ((with_reducible show DE _ _ (Expr.Name "bool" _) _ _ _); refine de_ty_bool (by assumption) ?_) | ((with_reducible show DE _ _ (Expr.Name "tuple" _) _ _ _); refine de_ty_tuple (by assumption) ?_) | ((with_reducible show DE _ _ (Expr.Name "list" _) _ _ _); refine de_ty_list (by assumption) ?_) | ((with_reducible show DE _ _ (Expr.Name "dict" _) _ _ _); refine de_ty_dict (by assumption) ?_) | refine de_nm rfl ?_ | refine de_globI (by assumption) ?_) | ((with_reducible show DE _ _ (Expr.Constant _ _ _) _ _ _); first | refine de_int ?_ | refine de_str ?_ | refine de_bl ?_ | refine de_non ?_) | ((with_reducible show DE _ _ (Expr.Call (Expr.Name _ _) _ _ _) _ _ _); first | ((with_reducible show DE _ _ (Expr.Call (Expr.Name "isinstance" _) _ _ _) _ _ _); refine de_isinstance ?_ (by assumption)) | ((with_reducible show DE _ _ (Expr.Call (Expr.Name "len" _) _ _ _) _ _ _); refine de_len ?_ (by assumption)) | ((with_reducible show DE _ _ (Expr.Call (Expr.Name "max" _) _ _ _) _ _ _); refine de_max ?_ (by assumption)) | ((with_reducible show DE _ _ (Expr.Call (Expr.Name "min" _) _ _ _) _ _ _); refine de_min ?_ (by assumption)) | ((with_reducible show DE _ _ (Expr.Call (Expr.Name "all" _) _ _ _) _ _ _); refine de_all ?_ (by assumption)) | ((with_reducible show DE _ _ (Expr.Call (Expr.Name "repr" _) _ _ _) _ _ _); refine de_repr ?_ (by assumption)) | ((with_reducible show DE _ _ (Expr.Call (Expr.Name "divmod" _) _ _ _) _ _ _); refine de_divmod ?_ (by assumption)) | ((with_reducible show DE _ _ (Expr.Call (Expr.Name "list" _) _ _ _) _ _ _); refine de_clist ?_ (by assumption)) | ((with_reducible show DE _ _ (Expr.Call (Expr.Name "tuple" _) _ _ _) _ _ _); refine de_ctuple ?_ (by assumption)) | ((with_reducible show DE _ _ (Expr.Call (Expr.Name "int" _) _ _ _) _ _ _); refine de_cint ?_ (by assumption)) | ((with_reducible show DE _ _ (Expr.Call (Expr.Name "str" _) _ _ _) _ _ _); refine de_cstr ?_ (by assumption)) | walk_at "down") | ((with_reducible show DE _ _ (Expr.BinOp _ _ _ _) _ _ _); refine de_op ?_) | ((with_reducible show DE _ _ (Expr.Compare _ [_] _ _) _ _ _); refine de_cmp ?_) | ((with_reducible show DE _ _ (Expr.Compare _ [_, _] _ _) _ _ _); refine de_chain ?_) | ((with_reducible show DE _ _ (Expr.Subscript _ (Expr.Slice _ _ _ _) _) _ _ _); refine de_slice ?_) | ((with_reducible show DE _ _ (Expr.Subscript _ _ _) _ _ _); refine de_ix ?_) | ((with_reducible show DE _ _ (Expr.BoolOp _ [_] _) _ _ _); refine de_one ?_) | ((with_reducible show DE _ _ (Expr.BoolOp BoolOp.And _ _) _ _ _); refine de_and ?_) | ((with_reducible show DE _ _ (Expr.BoolOp BoolOp.Or _ _) _ _ _); refine de_or ?_) | ((with_reducible show DE _ _ (Expr.UnaryOp UnaryOp.Not _ _) _ _ _); refine de_not ?_) | ((with_reducible show DE _ _ (Expr.UnaryOp _ _ _) _ _ _); refine de_un ?_) | ((with_reducible show DE _ _ (Expr.IfExp _ _ _ _) _ _ _); refine de_ifx ?_) | ((with_reducible show DE _ _ (Expr.Tuple _ _ _) _ _ _); walk_at "dtup") | ((with_reducible show DE _ _ (Expr.List _ _) _ _ _); walk_at "dlst") | ((with_reducible show DE _ _ (Expr.Dict [] [] _) _ _ _); refine de_dict0 ?_) | walk_at "dhook")
    | ((with_reducible show DA _ _ _ _ _ _); first | ((with_reducible show DA _ _ [] _ _ _); refine da_nil ?_) | ((with_reducible show DA _ _ (_ :: _) _ _ _); refine da_cons ?_))
    | ((with_reducible show BoolR _ _); refine ⟨_, rfl, ?_⟩)
    | ((with_reducible show (_ = true → _) ∧ (_ = false → _)); (refine ⟨fun h => ?_, fun h => ?_⟩ <;> try (exact Bool.noConfusion h)))
    | ((with_reducible show OpD _ _ _ _ _ _ _); first | ((with_reducible show OpD _ _ (binaryOp Operator.Add) _ _ _ _); first | refine op_addI ?_ | refine op_addT ?_) | ((with_reducible show OpD _ _ (binaryOp Operator.Sub) _ _ _ _); refine op_subI ?_) | ((with_reducible show OpD _ _ (binaryOp Operator.Mod) _ _ _ _); refine op_modI (by first | decide | assumption) ?_) | ((with_reducible show OpD _ _ (binaryOp Operator.Mult) _ _ _ _); refine op_mulI (by first | exact .inr (by decide) | exact .inl (by decide) | (exact .inl (by omega))) ?_) | ((with_reducible show OpD _ _ (binaryOp Operator.Pow) _ _ _ _); refine op_powI (by decide) (by decide) (by decide) ?_) | ((with_reducible show OpD _ _ (binaryOp Operator.FloorDiv) _ _ _ _); refine op_fdivI (by decide) (by decide) ?_) | ((with_reducible show OpD _ _ (compareOp CmpOp.Lt) _ _ _ _); refine op_ltI ?_) | ((with_reducible show OpD _ _ (compareOp CmpOp.LtE) _ _ _ _); first | refine op_leI ?_ | refine op_leS ?_) | ((with_reducible show OpD _ _ (compareOp CmpOp.Gt) _ _ _ _); refine op_gtI ?_) | ((with_reducible show OpD _ _ (compareOp CmpOp.GtE) _ _ _ _); refine op_geI ?_) | ((with_reducible show OpD _ _ (compareOp CmpOp.Eq) _ _ _ _); first | refine op_eqI ?_ | refine op_eqS ?_) | ((with_reducible show OpD _ _ (compareOp CmpOp.NotEq) _ _ _ _); first | refine op_neI ?_ | refine op_neS ?_))
    | ((with_reducible show CaD _ _ _ _ _ _); first | ((with_reducible show CaD _ _ (Value.builtin "isinstance") [_, SV.ty "int"] _ _); refine ca_isi (by assumption) (kit_int _ (by assumption)) ?_) | ((with_reducible show CaD _ _ (Value.builtin "isinstance") [_, SV.ty "bool"] _ _); refine ca_isi (by assumption) (kit_bool _ (by assumption)) ?_) | ((with_reducible show CaD _ _ (Value.builtin "isinstance") [_, SV.ty "str"] _ _); refine ca_isi (by assumption) (kit_str _ (by assumption)) ?_) | ((with_reducible show CaD _ _ (Value.builtin "isinstance") [_, SV.ty "tuple"] _ _); refine ca_isi (by assumption) (kit_tuple _ (by assumption)) ?_) | ((with_reducible show CaD _ _ (Value.builtin "isinstance") [_, SV.ty "list"] _ _); refine ca_isi (by assumption) (kit_list _ (by assumption)) ?_) | ((with_reducible show CaD _ _ (Value.builtin "isinstance") [_, SV.ty "dict"] _ _); refine ca_isi (by assumption) (kit_dict _ (by assumption)) ?_) | ((with_reducible show CaD _ _ (Value.builtin "max") _ _ _); refine ca_max2 rfl ?_) | ((with_reducible show CaD _ _ (Value.builtin "min") _ _ _); refine ca_min2 rfl ?_) | ((with_reducible show CaD _ _ (Value.builtin "len") _ _ _); first | refine ca_lenT ?_ | refine ca_lenS (by assumption) ?_ | refine ca_lenSc ?_ | refine ca_lenL (.inl rfl) ?_) | ((with_reducible show CaD _ _ (Value.type "list") _ _ _); refine ca_listT ?_) | ((with_reducible show CaD _ _ (Value.builtin "divmod") _ _ _); refine ca_divmod (by assumption) (by omega) ?_) | walk_at "dca")
    | ((with_reducible show DT _ _ _ _ _ _); first | ((with_reducible show DT _ _ (Expr.BoolOp _ _ _) _ _ _); refine dt_w ?_) | ((with_reducible show DT _ _ (Expr.UnaryOp UnaryOp.Not _ _) _ _ _); refine dt_not ?_) | ((with_reducible show DT _ _ (Expr.Compare _ [_] _ _) _ _ _); refine dt_cmp ?_) | ((with_reducible show DT _ _ (Expr.Compare _ [_, _] _ _) _ _ _); refine dt_chain ?_) | refine dt_val ?_)
    | ((with_reducible show DW _ _ _ _ _ _); first | ((with_reducible show DW _ _ (Expr.BoolOp BoolOp.And [_] _) _ _ _); refine dw_and1 ?_) | ((with_reducible show DW _ _ (Expr.BoolOp BoolOp.Or [_] _) _ _ _); refine dw_or1 ?_) | ((with_reducible show DW _ _ (Expr.BoolOp BoolOp.And _ _) _ _ _); refine dw_and ?_) | ((with_reducible show DW _ _ (Expr.BoolOp BoolOp.Or _ _) _ _ _); refine dw_or ?_))
    | ((with_reducible show DSs _ _ _ _ _ _); first | ((with_reducible show DSs _ _ [] _ _ _); refine dss_nil ?_) | ((with_reducible show DSs _ _ [_] _ _ _); refine dss_one ?_) | ((with_reducible show DSs _ _ (_ :: _) _ _ _); refine dss_cons ?_))
    | ((with_reducible show DS _ _ _ _ _ _); first | ((with_reducible show DS _ _ (Stmt.Return (some _) _) _ _ _); refine ds_ret ?_) | ((with_reducible show DS _ _ (Stmt.If _ _ _ _) _ _ _); refine ds_if ?_) | ((with_reducible show DS _ _ (Stmt.Expr _ _) _ _ _); refine ds_expr ?_) | ((with_reducible show DS _ _ (Stmt.Assign [Expr.Name _ _] _ _) _ _ _); walk_at "dset"))
    | ((with_reducible show DP _ _ none _ _ _); refine dp_none ?_)
    | ((with_reducible show DP _ _ (some _) _ _ _); refine dp_some ?_)
    | ((with_reducible show ∃ d, SV.dat _ = SV.dat d ∧ Fi d ∧ _); refine ⟨_, rfl, by assumption, ?_⟩)
    | ((with_reducible show ∃ i, SV.dat (Dt.int _) = SV.dat (Dt.int i) ∧ _); refine ⟨_, rfl, ?_⟩)
    | ((with_reducible show SlD _ _ (SV.dat (Dt.tup _)) _ _ _ _); refine sl_dT ?_)
    | ((with_reducible show ∃ ds, undat _ = some ds ∧ ds.length ≤ 1000 ∧ _); refine ⟨_, rfl, Nat.le_of_ble_eq_true rfl, ?_⟩)
    | ((with_reducible show ∃ q, SV.at _ = SV.at q ∧ _); refine ⟨_, rfl, ?_⟩)
    | ((with_reducible show ∃ z, SV.dat (Dt.str _) = SV.dat (Dt.str z) ∧ _); refine ⟨_, rfl, ?_⟩)
    | ((with_reducible show IxD _ _ (SV.at _) (SV.dat (Dt.int 0)) _ _); refine ix_pot0 (by assumption) (fun _ _ => ?_))
    | ((with_reducible show IxD _ _ (SV.at _) (SV.dat (Dt.int 1)) _ _); refine ix_pot1 (by assumption) (fun _ _ _ => ?_))
    | ((with_reducible show UnD _ _ (unaryOp UnaryOp.USub) _ _ _); refine un_negI ?_)
    | ((with_reducible show Po.nx _ _ _); dsimp only)
    | ((with_reducible show Po.rt _ _ _); dsimp only))
local macro_rules
  | `(tactic| walk_at "drun") => `(tactic| repeat' (walk_at "dstep"))

/-! ### lots that are lots -/
def Vl (ns : List Int) : Prop := ∀ (k : Nat) (a : Int), ns[k]? = some a → 0 ≤ a ∧ a ≤ pm (ns.take k) + 1
theorem vl_go {ns : List Int} (h : Vl ns) : lotsGo 0 (ns.map Dt.int) = true := (go_iff ns [] nofun).mpr h
theorem vl_snoc {ns : List Int} {v : Int} (h : Vl ns) (h0 : 0 ≤ v) (h1 : v ≤ pm ns + 1) : Vl (ns ++ [v]) := fun k a hk => by
  by_cases c : k < ns.length
  · rw [List.getElem?_append_left c] at hk
    rw [List.take_append_of_le_length (Nat.le_of_lt c)]
    exact h k a hk
  · rw [List.getElem?_append_right (Nat.le_of_not_lt c)] at hk
    have e : k = ns.length := by
      have := (List.getElem?_eq_some_iff.mp hk).1
      simp at this
      omega
    subst e
    simp at hk
    subst hk
    rw [List.take_left]
    exact ⟨h0, h1⟩
def spDrawL : Sp := QSp (fun ds => ∃ m : Int, ds = [.int m] ∧ 0 ≤ m ∧ m ≤ 6) fun ds r => lotsD r = true
def LbT (l : Tbl) : Prop := GoodK l ∧ (∀ x ∈ l, ∃ m, Nm m ∧ x.1 = .str (SX.S m)) ∧ (∀ x ∈ l, lotsD x.2 = true)
theorem nm_name {m : List Nat} (h : Nm m) : nameD (.str (SX.S m)) = true := by
  show (decide (1 ≤ (SX.S m).length) && decide ((SX.S m).length ≤ 8) && (SX.S m).cps.toList.all low) = true
  rw [SX.S_len, Bool.and_eq_true, Bool.and_eq_true, decide_eq_true_eq, decide_eq_true_eq, List.all_eq_true]
  refine ⟨⟨h.1, h.2.1⟩, fun c hc => ?_⟩
  have := h.2.2 c (by simpa [SX.S] using hc)
  unfold low
  rw [Bool.and_eq_true, decide_eq_true_eq, decide_eq_true_eq]
  exact this
theorem put_new {l : Tbl} {k v : Dt} (h : nk k ∉ l.map fun x => nk x.1) : putP l k v = l ++ [(k, v)] := if_neg h
theorem keys_text {l : Tbl} {us : List Str} (h : l.map (·.1) = us.map Dt.str) : l.map (fun x => nk x.1) = us.map NestedKey.text := by
  have : l.map (fun x => nk x.1) = (l.map (·.1)).map nk := by rw [List.map_map]; rfl
  rw [this, h, List.map_map]
  exact List.map_congr_left fun u _ => nk_str u
set_option hygiene false in
local macro_rules
  | `(tactic| walk_at "down") => `(tactic| first | ((with_reducible show DE _ _ (Expr.Call (Expr.Name "_law_take" _) _ _ _) _ _ _); refine de_take oTake hr (by decide) hg ?_) | ((with_reducible show DE _ _ (Expr.Call (Expr.Name "_law_label" _) _ _ _) _ _ _); refine de_newU oNew hr (by decide) hg ?_) | ((with_reducible show DE _ _ (Expr.Call (Expr.Name "_law_odd" _) _ _ _) _ _ _); refine de_q0 oOdd hr (by decide) hg ?_))
section
variable {P : Program} {w : World} {K : PySem.W.Frag} {mg : Str → Option Value} {base : Heap}
theorem ok_drawL {f : Addr} {fd : FuncData} (F : Fun K "_law_lots" "_law_lots" sDraw f fd) (T : Txt mg) (oTake : Own P w K mg base "_law_take" 1 spTake) : FnG P w K mg base 2 f fd ["_law_pot_here", "_law_many"] spDrawL := by
  refine fn_pot F scDraw (fun ds ⟨m, e, _⟩ => by rw [e]; rfl) fun cdv A outer s H hr hg w' p ds μ hp ⟨m, e, hm0, hm1⟩ => ?_
  subst e
  obtain ⟨t1, t2, t3, t4, t5, t6, t7, t8, t9, t10, t11, t12, t13, t14, t15, t16, t17, t18, t19, t20, t21⟩ := T
  have hN : (["_law_pot_here", "_law_many", "_law_found", "_law_k"] : List Str).Nodup := by decide +kernel
  refine dss_cons (ds_set 2 hN (de_lstM (da_nil ⟨[], rfl, by decide, fun q hq0 hw0 => ?_⟩)))
  have hpq : ∀ a, (μ.put q a) p = some .pot := fun a => pot_ne hp hq0
  walk_at "drun"
  refine ds_for (di_range1 ?_ t12) PassesOwn.never rfl
  walk_at "drun"
  refine ⟨m, rfl, by omega, by omega, fun n ρ' μ' => ∃ (a : SV) (ns : List Int), ρ' = [.at p, .dat (.int m), .at q, a] ∧ μ' = μ.put q (.lst (ns.map .int)) ∧ ns.length = n ∧ (∀ y, y ∈ ns → 0 ≤ y ∧ y ≤ n) ∧ Vl ns, ⟨.no, [], rfl, rfl, rfl, nofun, nofun⟩, ?_, ?_⟩
  · rintro n d' ρ' μ' hi ⟨a, ns, rfl, rfl, hl, hns, hv⟩
    have hn : n < m.toNat := by
      have := (List.getElem?_eq_some_iff.mp hi).1
      simpa [upto] using this
    refine dg_name 3 hN ?_
    refine dss_one ?_
    refine ds_expr (de_bm (T := "list") (id := "list.append") (de_nm rfl ⟨ty_lst (.inr ⟨q, rfl, put_same⟩), ?_⟩) PySem.F.plainAttrs_list PySem.F.slot_list_append PySem.F.type_list_append)
    have hpq' := hpq (.lst (ns.map .int))
    walk_at "drun"
    refine op_addL (ys := [.int (-1)]) (.inr ⟨q, rfl, put_same⟩) (.inl rfl) (small_ok (by simp; omega)) ?_
    walk_at "drun"
    refine ca_maxL rfl (ns := ns ++ [-1]) (.inl (by simp)) (by simp) fun z hz1 hz2 => ?_
    have hz0 : -1 ≤ z := hz2 _ (by simp)
    have hz3 : z ≤ n := by
      rcases List.mem_append.mp hz1 with h | h
      · exact (hns z h).2
      · simp at h; omega
    have hzp : z = pm ns := pm_uniq (by rcases List.mem_append.mp hz1 with h | h; exact List.mem_cons_of_mem _ h; simp at h; rw [h]; exact List.mem_cons_self) fun y hy => by
      rcases List.mem_cons.mp hy with h | h
      · exact hz2 y (by rw [h]; simp)
      · exact hz2 y (List.mem_append_left _ h)
    walk_at "drun"
    refine ⟨hpq', ⟨by omega, by omega⟩, fun v hv0 hv1 => ?_⟩
    walk_at "drun"
    refine mt_appendM put_same (by rw [List.length_map]; omega) ?_
    walk_at "drun"
    refine ⟨_, ns ++ [v], rfl, by rw [put_twice, List.map_append]; rfl, by simp [hl], fun y hy => ?_, vl_snoc hv hv0 (by omega)⟩
    rcases List.mem_append.mp hy with h | h
    · have := hns y h; omega
    · simp at h; omega
  · rintro ρ' μ' ⟨a, ns, rfl, rfl, hl, hns, hv⟩
    walk_at "drun"
    refine ca_tupL (.inr ⟨q, rfl, put_same⟩) ?_
    refine ⟨_, rfl, ?_, sub_put hq0⟩
    show (decide ((ns.map Dt.int).length ≤ 6) && lotsGo 0 (ns.map Dt.int)) = true
    rw [vl_go hv, List.length_map, hl, Bool.and_true, decide_eq_true_eq]
    simp [upto]
    omega
/-! ### a table that is drawn -/
def spTable (w : World) : Sp := QSp (fun ds => ds = [.int 12]) fun _ r => ∃ l, r = mixD w l ∧ LbT l ∧ l.length ≤ 12
abbrev sTable : Stmt := top 30
abbrev nTable : List Str := ["_law_pot_here", "_law_most", "_law_found", "_law_used", "_law_k", "_law_many"]
theorem scTable : FnScope nTable ["_law_pot_here", "_law_most"] (defScope sTable) := ⟨rfl, rfl, rfl, by decide +kernel, rfl, by decide +kernel, by decide +kernel⟩
theorem ok_table {f : Addr} {fd : FuncData} (F : Fun K "_law_table" "_law_table" sTable f fd) (T : Txt mg) (oTake : Own P w K mg base "_law_take" 1 spTake) (oNew : Own P w K mg base "_law_label" 2 spNew) (oDraw : Own P w K mg base "_law_lots" 2 spDrawL) : FnG P w K mg base 3 f fd ["_law_pot_here", "_law_most"] (spTable w) := by
  refine fn_pot F scTable (fun ds e => by rw [e]; rfl) fun cdv A outer s H hr hg w' p ds μ hp e => ?_
  subst e
  obtain ⟨t1, t2, t3, t4, t5, t6, t7, t8, t9, t10, t11, t12, t13, t14, t15, t16, t17, t18, t19, t20, t21⟩ := T
  have hN : nTable.Nodup := by decide +kernel
  refine dss_cons (ds_par 2 3 rfl hN (da_cons (de_tbNew fun q hq hw => da_cons (de_lstM (da_nil ⟨[], rfl, by decide, fun q2 hq2 hw2 => da_nil ⟨_, _, rfl, ?_⟩⟩)))))
  have ne : q2 ≠ q := fun e => by rw [e, put_same] at hq2; cases hq2
  have hq2' : μ q2 = none := by rwa [put_ne ne] at hq2
  have np : p ≠ q := fun e => by rw [e, hq] at hp; cases hp
  have np2 : p ≠ q2 := fun e => by rw [e, hq2'] at hp; cases hp
  refine dss_cons (ds_for (di_range1 ?_ t12) PassesOwn.never rfl)
  have mp : ∀ a b, ((μ.put q a).put q2 b) p = some .pot := fun a b => by rw [put_ne np2, put_ne np]; exact hp
  walk_at "drun"
  refine ⟨mp _ _, ⟨by decide, by decide⟩, fun m hm0 hm1 => ?_⟩
  walk_at "drun"
  refine ⟨m, rfl, by omega, by omega, fun n ρ' μ' => ∃ (a b : SV) (l : Tbl) (us : List Str), ρ' = [.at p, .dat (.int 12), .at q, .at q2, a, b] ∧ μ' = (μ.put q (mixM w l)).put q2 (.lst (us.map .str)) ∧ l.map (·.1) = us.map Dt.str ∧ us.length = n ∧ LbT l, ⟨.no, .no, [], [], rfl, rfl, rfl, rfl, GoodK.nil, nofun, nofun⟩, ?_, ?_⟩
  · rintro n d' ρ' μ' hi ⟨a, b, l, us, rfl, rfl, hk, hl, hL⟩
    have hn : n < m.toNat := by
      have := (List.getElem?_eq_some_iff.mp hi).1
      simpa [upto] using this
    have ll : l.length = us.length := by have := congrArg List.length hk; simpa using this
    refine dg_name 4 hN ?_
    refine dss_cons (ds_set 5 hN ?_)
    have mp' := mp (mixM w l) (.lst (us.map .str))
    walk_at "drun"
    refine ⟨mp', ⟨by decide, by decide⟩, fun v hv0 hv1 => ?_⟩
    walk_at "drun"
    refine ⟨mp', ⟨by decide, by decide⟩, fun u hu0 hu1 => ?_⟩
    obtain ⟨d, hd, hat⟩ := atI_some [.int v, .int 0, .int 1, .int 6] u hu0 (by simpa using hu1)
    have hsz : ∃ n : Int, d = .int n ∧ 0 ≤ n ∧ n ≤ 6 := by
      simp only [List.mem_cons, List.not_mem_nil, or_false] at hd
      rcases hd with rfl | rfl | rfl | rfl
      · exact ⟨v, rfl, by omega, by omega⟩
      · exact ⟨0, rfl, by omega, by omega⟩
      · exact ⟨1, rfl, by omega, by omega⟩
      · exact ⟨6, rfl, by omega, by omega⟩
    obtain ⟨c, rfl, hc0, hc6⟩ := hsz
    refine ix_dL (.inl rfl) hat ?_
    refine dss_one (ds_putTb hr ?_)
    refine de_pot oDraw hr (by decide) hg (da_cons (de_nm rfl (da_cons (de_nm rfl (da_nil ⟨p, [.dat (.int c)], [.int c], rfl, rfl, mp', ⟨c, rfl, hc0, hc6⟩, fun vd hvd => ⟨vd, rfl, ?_⟩⟩)))))
    refine de_nm rfl ?_
    walk_at "drun"
    refine ⟨q2, us, rfl, mp', put_same, by omega, fun ml hml hnu => ?_⟩
    have hnk : nk (.str (SX.S ml)) ∉ l.map fun x => nk x.1 := by
      rw [keys_text hk, nk_str]
      intro z
      obtain ⟨u, hu, e⟩ := List.mem_map.mp z
      injection e with e
      exact hnu (by rw [← e]; exact hu)
    have mq : (((μ.put q (mixM w l)).put q2 (.lst (us.map .str))).put q2 (.lst ((us ++ [SX.S ml]).map .str))) q = some (mixM w l) := by rw [put_ne ne.symm, put_ne ne.symm, put_same]
    refine ⟨q, l, _, rfl, mq, hL.1, by omega, rfl, rfl, by rw [nk_str, NestedKey.depth]; exact Nat.zero_le _, ?_⟩
    refine ⟨_, _, putP l (.str (SX.S ml)) vd, us ++ [SX.S ml], rfl, ?_, ?_, by simp [hl], hL.1.put _ rfl (by rw [nk_str, NestedKey.depth]; exact Nat.zero_le _), ?_, ?_⟩
    · funext c
      unfold Mus.put
      by_cases c1 : c = q
      · rw [if_pos c1, if_neg (fun z => ne (by rw [← z, c1])), if_pos c1]; rfl
      · rw [if_neg c1, if_neg c1]
        by_cases c2 : c = q2
        · rw [if_pos c2, if_pos c2]
        · rw [if_neg c2, if_neg c2, if_neg c2, if_neg c1]
    · rw [put_new hnk, List.map_append, hk, List.map_append]; rfl
    · rw [put_new hnk]
      intro x hx
      rcases List.mem_append.mp hx with h | h
      · exact hL.2.1 x h
      · simp at h; rw [h]; exact ⟨ml, hml, rfl⟩
    · rw [put_new hnk]
      intro x hx
      rcases List.mem_append.mp hx with h | h
      · exact hL.2.2 x h
      · simp at h; rw [h]; exact hvd
  · rintro ρ' μ' ⟨a, b, l, us, rfl, rfl, hk, hl, hL⟩
    have ll : l.length = us.length := by have := congrArg List.length hk; simpa using this
    refine dss_one (ds_retT (de_nm rfl ⟨q, l, μ.put q2 (.lst (us.map .str)), rfl, by rw [put_ne ne.symm, put_same]; rfl, hw, ?_, by rw [put_ne ne.symm]; exact hq, ?_⟩))
    · intro c o hc
      by_cases c2 : c = q2
      · rw [c2, put_same] at hc ⊢; exact hc
      · rw [put_ne c2] at hc ⊢
        rw [put_ne (fun z => by rw [z, hq] at hc; cases hc)]
        exact hc
    · refine ⟨_, rfl, ⟨l, rfl, hL, ?_⟩, sub_put hq2'⟩
      rw [ll, hl]
      simp [upto]
      omega
end
end K12

set_option Elab.async false
set_option linter.all false
set_option maxRecDepth 100000
set_option maxHeartbeats 4000000
namespace K12
open PySem PySem.Spec PyProof.Rows L2 Dat Er Mx
local macro_rules
  | `(tactic| walk_at "down") => `(tactic| fail "none")
local macro_rules
  | `(tactic| walk_at "dset") => `(tactic| fail "none")
local macro_rules
  | `(tactic| walk_at "dhook") => `(tactic| fail "none")
local macro_rules
  | `(tactic| walk_at "dca") => `(tactic| fail "none")
local macro_rules
  | `(tactic| walk_at "dlst") => `(tactic| refine de_lst ?_)
local macro_rules
  | `(tactic| walk_at "dtup") => `(tactic| refine de_tup ?_)
local macro_rules
  | `(tactic| walk_at "dstep") => `(tactic| first
    | ((with_reducible show DE _ _ _ _ _ _); first | ((with_reducible show DE _ _ (Expr.Name _ _) _ _ _); first | ((with_reducible show DE _ _ (Expr.Name "int" _) _ _ _); refine de_ty_int (by assumption) ?_) | ((with_reducible show DE _ _ (Expr.Name "str" _) _ _ _); refine de_ty_str (by assumption) ?_) | ((with_reducible show DE _ _ (Expr.Name "bool" _) _ _ _); refine de_ty_bool (by assumption) ?_) | ((with_reducible show DE _ _ (Expr.Name "tuple" _) _ _ _); refine de_ty_tuple (by assumption) ?_) | ((with_reducible show DE _ _ (Expr.Name "list" _) _ _ _); refine de_ty_list (by assumption) ?_) | ((with_reducible show DE _ _ (Expr.Name "dict" _) _ _ _); refine de_ty_dict (by assumption) ?_) | refine de_nm rfl ?_ | refine de_globI (by assumption) ?_) | ((with_reducible show DE _ _ (Expr.Constant _ _ _) _ _ _); first | refine de_int ?_ | refine de_str ?_ | refine de_bl ?_ | refine de_non ?_) | ((with_reducible show DE _ _ (Expr.Call (Expr.Name _ _) _ _ _) _ _ _); first | ((with_reducible show DE _ _ (Expr.Call (Expr.Name "isinstance" _) _ _ _) _ _ _); refine de_isinstance ?_ (by assumption)) | ((with_reducible show DE _ _ (Expr.Call (Expr.Name "len" _) _ _ _) _ _ _); refine de_len ?_ (by assumption)) | ((with_reducible show DE _ _ (Expr.Call (Expr.Name "max" _) _ _ _) _ _ _); refine de_max ?_ (by assumption)) | ((with_reducible show DE _ _ (Expr.Call (Expr.Name "min" _) _ _ _) _ _ _); refine de_min ?_ (by assumption)) | ((with_reducible show DE _ _ (Expr.Call (Expr.Name "all" _) _ _ _) _ _ _); refine de_all ?_ (by assumption)) | ((with_reducible show DE _ _ (Expr.Call (Expr.Name "repr" _) _ _ _) _ _ _); refine de_repr ?_ (by assumption)) | ((with_reducible show DE _ _ (Expr.Call (Expr.Name "divmod" _) _ _ _) _ _ _); refine de_divmod ?_ (by assumption)) | ((with_reducible show DE _ _ (Expr.Call (Expr.Name "list" _) _ _ _) _ _ _); refine de_clist ?_ (by assumption)) | ((with_reducible show DE _ _ (Expr.Call (Expr.Name "tuple" _) _ _ _) _ _ _); refine de_ctuple ?_ (by assumption)) | ((with_reducible show DE _ _ (Expr.Call (Expr.Name "int" _) _ _ _) _ _ _); refine de_cint ?_ (by assumption)) | ((with_reducible show DE _ _ (Expr.Call (Expr.Name "str" _) _ _ _) _ _ _); refine de_cstr ?_ (by assumption)) | walk_at "down") | ((with_reducible show DE _ _ (Expr.BinOp _ _ _ _) _ _ _); refine de_op ?_) | ((with_reducible show DE _ _ (Expr.Compare _ [_] _ _) _ _ _); refine de_cmp ?_) | ((with_reducible show DE _ _ (Expr.Compare _ [_, _] _ _) _ _ _); refine de_chain ?_) | ((with_reducible show DE _ _ (Expr.Subscript _ (Expr.Slice _ _ _ _) _) _ _ _); refine de_slice ?_) | ((with_reducible show DE _ _ (Expr.Subscript _ _ _) _ _ _); refine de_ix ?_) | ((with_reducible show DE _ _ (Expr.BoolOp _ [_] _) _ _ _); refine de_one ?_) | ((with_reducible show DE _ _ (Expr.BoolOp BoolOp.And _ _) _ _ _); refine de_and ?_) | ((with_reducible show DE _ _ (Expr.BoolOp BoolOp.Or _ _) _ _ _); refine de_or ?_) | ((with_reducible show DE _ _ (Expr.UnaryOp UnaryOp.Not _ _) _ _ _); refine de_not ?_) | ((with_reducible show DE _ _ (Expr.UnaryOp _ _ _) _ _ _); refine de_un ?_) | ((with_reducible show DE _ _ (Expr.IfExp _ _ _ _) _ _ _); refine de_ifx ?_) | ((with_reducible show DE _ _ (Expr.Tuple _ _ _) _ _ _); walk_at "dtup") | ((with_reducible show DE _ _ (Expr.List _ _) _ _ _); walk_at "dlst") | ((with_reducible show DE _ _ (Expr.Dict [] [] _) _ _ _); refine de_dict0 ?_) | walk_at "dhook")
    | ((with_reducible show DA _ _ _ _ _ _); first | ((with_reducible show DA _ _ [] _ _ _); refine da_nil ?_) | ((with_reducible show DA _ _ (_ :: _) _ _ _); refine da_cons ?_))
    | ((with_reducible show BoolR _ _); refine ⟨_, rfl, ?_⟩)
    | ((with_reducible show (_ = true → _) ∧ (_ = false → _)); (refine ⟨fun h => ?_, fun h => ?_⟩ <;> try (exact Bool.noConfusion h)))
    | ((with_reducible show OpD _ _ _ _ _ _ _); first | ((with_reducible show OpD _ _ (binaryOp Operator.Add) _ _ _ _); first | refine op_addI ?_ | refine op_addT ?_) | ((with_reducible show OpD _ _ (binaryOp Operator.Sub) _ _ _ _); refine op_subI ?_) | ((with_reducible show OpD _ _ (binaryOp Operator.Mod) _ _ _ _); refine op_modI (by first | decide | assumption) ?_) | ((with_reducible show OpD _ _ (binaryOp Operator.Mult) _ _ _ _); refine op_mulI (by first | exact .inr (by decide) | exact .inl (by decide) | (exact .inl (by omega))) ?_) | ((with_reducible show OpD _ _ (binaryOp Operator.Pow) _ _ _ _); refine op_powI (by decide) (by decide) (by decide) ?_) | ((with_reducible show OpD _ _ (binaryOp Operator.FloorDiv) _ _ _ _); refine op_fdivI (by decide) (by decide) ?_) | ((with_reducible show OpD _ _ (compareOp CmpOp.Lt) _ _ _ _); refine op_ltI ?_) | ((with_reducible show OpD _ _ (compareOp CmpOp.LtE) _ _ _ _); first | refine op_leI ?_ | refine op_leS ?_) | ((with_reducible show OpD _ _ (compareOp CmpOp.Gt) _ _ _ _); refine op_gtI ?_) | ((with_reducible show OpD _ _ (compareOp CmpOp.GtE) _ _ _ _); refine op_geI ?_) | ((with_reducible show OpD _ _ (compareOp CmpOp.Eq) _ _ _ _); first | refine op_eqI ?_ | refine op_eqS ?_) | ((with_reducible show OpD _ _ (compareOp CmpOp.NotEq) _ _ _ _); first | refine op_neI ?_ | refine op_neS ?_))
    | ((with_reducible show CaD _ _ _ _ _ _); first | ((with_reducible show CaD _ _ (Value.builtin "isinstance") [_, SV.ty "int"] _ _); refine ca_isi (by assumption) (kit_int _ (by assumption)) ?_) | ((with_reducible show CaD _ _ (Value.builtin "isinstance") [_, SV.ty "bool"] _ _); refine ca_isi (by assumption) (kit_bool _ (by assumption)) ?_) | ((with_reducible show CaD _ _ (Value.builtin "isinstance") [_, SV.ty "str"] _ _); refine ca_isi (by assumption) (kit_str _ (by assumption)) ?_) | ((with_reducible show CaD _ _ (Value.builtin "isinstance") [_, SV.ty "tuple"] _ _); refine ca_isi (by assumption) (kit_tuple _ (by assumption)) ?_) | ((with_reducible show CaD _ _ (Value.builtin "isinstance") [_, SV.ty "list"] _ _); refine ca_isi (by assumption) (kit_list _ (by assumption)) ?_) | ((with_reducible show CaD _ _ (Value.builtin "isinstance") [_, SV.ty "dict"] _ _); refine ca_isi (by assumption) (kit_dict _ (by assumption)) ?_) | ((with_reducible show CaD _ _ (Value.builtin "max") _ _ _); refine ca_max2 rfl ?_) | ((with_reducible show CaD _ _ (Value.builtin "min") _ _ _); refine ca_min2 rfl ?_) | ((with_reducible show CaD _ _ (Value.builtin "len") _ _ _); first | refine ca_lenT ?_ | refine ca_lenS (by assumption) ?_ | refine ca_lenSc ?_ | refine ca_lenL (.inl rfl) ?_) | ((with_reducible show CaD _ _ (Value.type "list") _ _ _); refine ca_listT ?_) | ((with_reducible show CaD _ _ (Value.builtin "divmod") _ _ _); refine ca_divmod (by assumption) (by omega) ?_) | walk_at "dca")
    | ((with_reducible show DT _ _ _ _ _ _); first | ((with_reducible show DT _ _ (Expr.BoolOp _ _ _) _ _ _); refine dt_w ?_) | ((with_reducible show DT _ _ (Expr.UnaryOp UnaryOp.Not _ _) _ _ _); refine dt_not ?_) | ((with_reducible show DT _ _ (Expr.Compare _ [_] _ _) _ _ _); refine dt_cmp ?_) | ((with_reducible show DT _ _ (Expr.Compare _ [_, _] _ _) _ _ _); refine dt_chain ?_) | refine dt_val ?_)
    | ((with_reducible show DW _ _ _ _ _ _); first | ((with_reducible show DW _ _ (Expr.BoolOp BoolOp.And [_] _) _ _ _); refine dw_and1 ?_) | ((with_reducible show DW _ _ (Expr.BoolOp BoolOp.Or [_] _) _ _ _); refine dw_or1 ?_) | ((with_reducible show DW _ _ (Expr.BoolOp BoolOp.And _ _) _ _ _); refine dw_and ?_) | ((with_reducible show DW _ _ (Expr.BoolOp BoolOp.Or _ _) _ _ _); refine dw_or ?_))
    | ((with_reducible show DSs _ _ _ _ _ _); first | ((with_reducible show DSs _ _ [] _ _ _); refine dss_nil ?_) | ((with_reducible show DSs _ _ [_] _ _ _); refine dss_one ?_) | ((with_reducible show DSs _ _ (_ :: _) _ _ _); refine dss_cons ?_))
    | ((with_reducible show DS _ _ _ _ _ _); first | ((with_reducible show DS _ _ (Stmt.Return (some _) _) _ _ _); refine ds_ret ?_) | ((with_reducible show DS _ _ (Stmt.If _ _ _ _) _ _ _); refine ds_if ?_) | ((with_reducible show DS _ _ (Stmt.Expr _ _) _ _ _); refine ds_expr ?_) | ((with_reducible show DS _ _ (Stmt.Assign [Expr.Name _ _] _ _) _ _ _); walk_at "dset"))
    | ((with_reducible show DP _ _ none _ _ _); refine dp_none ?_)
    | ((with_reducible show DP _ _ (some _) _ _ _); refine dp_some ?_)
    | ((with_reducible show ∃ d, SV.dat _ = SV.dat d ∧ Fi d ∧ _); refine ⟨_, rfl, by assumption, ?_⟩)
    | ((with_reducible show ∃ i, SV.dat (Dt.int _) = SV.dat (Dt.int i) ∧ _); refine ⟨_, rfl, ?_⟩)
    | ((with_reducible show SlD _ _ (SV.dat (Dt.tup _)) _ _ _ _); refine sl_dT ?_)
    | ((with_reducible show ∃ ds, undat _ = some ds ∧ ds.length ≤ 1000 ∧ _); refine ⟨_, rfl, Nat.le_of_ble_eq_true rfl, ?_⟩)
    | ((with_reducible show ∃ q, SV.at _ = SV.at q ∧ _); refine ⟨_, rfl, ?_⟩)
    | ((with_reducible show ∃ z, SV.dat (Dt.str _) = SV.dat (Dt.str z) ∧ _); refine ⟨_, rfl, ?_⟩)
    | ((with_reducible show IxD _ _ (SV.at _) (SV.dat (Dt.int 0)) _ _); refine ix_pot0 (by assumption) (fun _ _ => ?_))
    | ((with_reducible show IxD _ _ (SV.at _) (SV.dat (Dt.int 1)) _ _); refine ix_pot1 (by assumption) (fun _ _ _ => ?_))
    | ((with_reducible show UnD _ _ (unaryOp UnaryOp.USub) _ _ _); refine un_negI ?_)
    | ((with_reducible show Po.nx _ _ _); dsimp only)
    | ((with_reducible show Po.rt _ _ _); dsimp only))
local macro_rules
  | `(tactic| walk_at "drun") => `(tactic| repeat' (walk_at "dstep"))

def dueR (d : Dt) : Dt := match dueD d with
  | none => .non
  | some (x, y) => .tup [x, y]
def spDue (w : World) : Sp := PSp (ok1 (InOk w)) (re1 dueR)
def KeyOk (d : Dt) : Prop := keyable d = true ∧ (nk d).depth ≤ 8 ∧ fine 64 30 2 d
def spKey : Sp := QSp ok0 fun _ r => KeyOk r
def spNoLots : Sp := QSp (fun ds => ∃ d, ds = [d] ∧ fine 64 30 2 d ∧ tl d ≤ 20) fun ds r => ∃ d, ds = [d] ∧ fine 64 30 2 r ∧ tl r ≤ tl d + 7
set_option hygiene false in
local macro_rules
  | `(tactic| walk_at "down") => `(tactic| first | ((with_reducible show DE _ _ (Expr.Call (Expr.Name "_law_take" _) _ _ _) _ _ _); refine de_take oTake hr (by decide) hg ?_) | ((with_reducible show DE _ _ (Expr.Call (Expr.Name "_law_odd" _) _ _ _) _ _ _); refine de_q0 oOdd hr (by decide) hg ?_) | ((with_reducible show DE _ _ (Expr.Call (Expr.Name "_law_is_label" _) _ _ _) _ _ _); refine de_p1 oLabel hr (by decide) hg ?_) | ((with_reducible show DE _ _ (Expr.Call (Expr.Name "_law_are_lots" _) _ _ _) _ _ _); refine de_p1 oLLots hr (by decide) hg ?_))
section
variable {X : Cx} {w : Wd} {μ : Mus} {R : SV → Mus → Prop} {xs : List Dt}
theorem op_mulT {n : Nat} (h0 : xs ≠ []) (hn : 2 ≤ n) (hn2 : n ≤ 1000) (hl : xs.length ≤ 1000) (h : R (.dat (.tup (List.replicate n xs).flatten)) μ) : OpD X w (binaryOp .Mult) (.dat (.tup xs)) (.dat (.int (n : Int))) μ R := fun B H v u I q1 q2 Q k => by
  cases q2
  cases q1 with
  | @tup a as _ ha hx =>
    refine sO_of op_repT ⟨a, (n : Int), as, rfl, rfl, .inl (.inl (I.bh _ _ ha)), ?_, by omega, by omega, by rw [hx.length]; exact hl, fun p hp => ?_⟩
    · intro e
      have := hx.length
      rw [e] at this
      exact h0 (List.length_eq_zero_iff.mp this.symm)
    · rw [Int.toNat_natCast]
      have q : ∀ n : Nat, DqA B (List.replicate n as).flatten (List.replicate n xs).flatten := fun n => by
        induction n with
        | zero => exact .nil
        | succ n ih => rw [List.replicate_succ, List.replicate_succ, List.flatten_cons, List.flatten_cons]; exact hx.append ih
      exact k _ (.dat (.tup _)) _ _ μ (I.new hp _) (Ex.new (I.free hp).1) (.tup upd_same ((q n).mono (Ex.new (I.free hp).1))) h
end
section
variable {P : Program} {w : World} {K : PySem.W.Frag} {mg : Str → Option Value} {base : Heap}
abbrev sDue : Stmt := top 31
abbrev nDue : List Str := ["_law_table_here", "_law_word"]
theorem scDue : FnScope nDue ["_law_table_here"] (defScope sDue) := ⟨rfl, rfl, rfl, by decide +kernel, rfl, by decide +kernel, by decide +kernel⟩
theorem ok_due {f : Addr} {fd : FuncData} (F : Fun K "_law_due" "_law_due" sDue f fd) (T : Txt mg) (oLabel : Own P w K mg base "_law_is_label" 1 spName) (oLLots : Own P w K mg base "_law_are_lots" 2 spLots) : FnG P w K mg base 3 f fd ["_law_table_here"] (spDue w) := by
  refine fn_pure F scDue (fun ds ⟨d, e, _⟩ => by rw [e]; rfl) fun cdv A outer s H hr hg w' ds μ ⟨d, e, hd⟩ => ?_
  subst e
  obtain ⟨t1, t2, t3, t4, t5, t6, t7, t8, t9, t10, t11, t12, t13, t14, t15, t16, t17, t18, t19, t20, t21⟩ := T
  have hN : nDue.Nodup := by decide +kernel
  refine dss_cons ?_
  rcases hd with ⟨l, rfl, ok⟩ | ⟨ho, hn⟩
  · have hdue := due_mix w l
    refine ds_if (dt_not (dt_val (de_isinstance ?_ t1)))
    walk_at "drun"
    refine ca_isTb (.inl rfl) (by decide +kernel : kitB "dict" "dict" = some true) ?_
    walk_at "drun"
    refine ca_lenTb (.inl rfl) ?_
    walk_at "drun"
    · rename_i h1
      have h1' : 12 < l.length := by have := of_decide_eq_true h1; omega
      refine ⟨_, rfl, ⟨_, rfl, ?_⟩, Mus.Sub.refl _⟩
      show _ = dueR _
      unfold dueR
      rw [hdue]
      unfold dueT
      rw [if_pos h1']
      rfl
    · rename_i h1
      have h1' : ¬ 12 < l.length := by have := of_decide_eq_false h1; omega
      have hdl : dueD (mixD w l) = dueL l := by rw [hdue]; unfold dueT; rw [if_neg h1']
      refine ds_for (di_keysT (de_nm rfl ⟨l, ⟨_, rfl⟩, fun n ρ' μ' => μ' = μ ∧ ∃ a : SV, ρ' = [.dat (mixD w l), a] ∧ dueL l = dueL (l.drop n), ⟨rfl, .no, rfl, rfl⟩, ?_, ?_⟩)) PassesOwn.never rfl
      · rintro n d ρ' μ' hi ⟨rfl, a, rfl, he⟩
        obtain ⟨x, hx, rfl⟩ : ∃ x, l[n]? = some x ∧ d = x.1 := by
          rw [List.getElem?_map] at hi
          cases e : l[n]? with
          | none => rw [e] at hi; cases hi
          | some x => rw [e] at hi; cases hi; exact ⟨x, rfl, rfl⟩
        have hm : x ∈ l := List.mem_of_getElem? hx
        have f1 : Fi x.1 := ⟨2, ok.fk x hm⟩
        have f2 : Fi x.2 := ⟨2, ok.fv x hm⟩
        have hd2 : l.drop n = x :: l.drop (n + 1) := List.drop_eq_getElem?_toList_append.trans (by rw [hx]; rfl)
        refine dg_name 1 hN ?_
        refine dss_cons ?_
        walk_at "drun"
        · rename_i g1
          have g1' : nameD x.1 = false := by simpa using g1
          refine ⟨_, rfl, ⟨_, rfl, ?_⟩, Mus.Sub.refl _⟩
          show _ = dueR _
          unfold dueR
          rw [hdl, he, hd2]
          unfold dueL
          rw [g1']
          rfl
        · rename_i g1
          have g1' : nameD x.1 = true := by simpa using g1
          refine ix_tb hr (.inl rfl) ok.gk (ok.gk.ka x hm).1 (ok.gk.ka x hm).2 (get_nd ok.gk hm) ?_
          walk_at "drun"
          · rename_i g2
            have g2' : lotsD x.2 = false := by simpa using g2
            refine ⟨_, rfl, ⟨_, rfl, ?_⟩, Mus.Sub.refl _⟩
            show _ = dueR _
            unfold dueR
            rw [hdl, he, hd2]
            unfold dueL
            rw [g1', g2']
            rfl
          · rename_i g2
            have g2' : lotsD x.2 = true := by simpa using g2
            refine ⟨rfl, _, rfl, ?_⟩
            rw [he, hd2]
            conv => lhs; unfold dueL
            rw [g1', g2']
            rfl
      · rintro ρ' μ' ⟨rfl, a, rfl, he⟩
        rw [List.length_map, List.drop_length] at he
        walk_at "drun"
        refine ⟨_, rfl, ⟨_, rfl, ?_⟩, Mus.Sub.refl _⟩
        show _ = dueR _
        unfold dueR
        rw [hdl, he]
        rfl
  · walk_at "drun"
    · refine ⟨_, rfl, ⟨_, rfl, ?_⟩, Mus.Sub.refl _⟩
      cases d <;> first | rfl | (simp [isObj'] at ho)
    all_goals exact absurd hn (by simp_all)
abbrev sKey : Stmt := top 32
theorem scKey : FnScope ["_law_pot_here"] ["_law_pot_here"] (defScope sKey) := ⟨rfl, rfl, rfl, by decide +kernel, rfl, by decide +kernel, by decide +kernel⟩
def keyL : List Dt := [chD "", chD "A", chD "a b", chD "abcdefghi", chD "a1", .int 0, .non, .bl true, .tup [], .tup [chD "a"], .int (-1), .bl false]
theorem keys_ok : ∀ d ∈ keyL, KeyOk d := by
  have h : keyL.all (fun d => fineB 2 d && keyable d) = true := by decide +kernel
  intro d hd
  have := List.all_eq_true.mp h d hd
  rw [Bool.and_eq_true] at this
  refine ⟨this.2, ?_, fine_of 2 d this.1⟩
  simp only [keyL, List.mem_cons, List.not_mem_nil, or_false] at hd
  rcases hd with rfl | rfl | rfl | rfl | rfl | rfl | rfl | rfl | rfl | rfl | rfl | rfl <;> simp [nk, nkA, chD, NestedKey.depth, NestedKey.depthAll]
theorem ok_key {f : Addr} {fd : FuncData} (F : Fun K "_law_key" "_law_key" sKey f fd) (T : Txt mg) (oTake : Own P w K mg base "_law_take" 1 spTake) : FnG P w K mg base 2 f fd ["_law_pot_here"] spKey := by
  refine fn_pot F scKey (fun ds e => by rw [e]; rfl) fun cdv A outer s H hr hg w' p ds μ hp e => ?_
  subst e
  obtain ⟨t1, t2, t3, t4, t5, t6, t7, t8, t9, t10, t11, t12, t13, t14, t15, t16, t17, t18, t19, t20, t21⟩ := T
  refine dss_one ?_
  walk_at "drun"
  refine ⟨hp, ⟨by decide, by decide⟩, fun v hv0 hv1 => ?_⟩
  obtain ⟨d, hd, hat⟩ := atI_some keyL v hv0 (by simpa [keyL] using hv1)
  refine ix_dL (.inl rfl) (xs := keyL) hat ?_
  exact ⟨_, rfl, keys_ok d hd, Mus.Sub.refl _⟩
abbrev sNoL : Stmt := top 33
abbrev nNoL : List Str := ["_law_pot_here", "_law_lots_here", "_law_own", "_law_some"]
theorem scNoL : FnScope nNoL ["_law_pot_here", "_law_lots_here"] (defScope sNoL) := ⟨rfl, rfl, rfl, by decide +kernel, rfl, by decide +kernel, by decide +kernel⟩
set_option hygiene false in
local macro_rules
  | `(tactic| walk_at "dset") => `(tactic| first | refine ds_set 2 hN ?_ | refine ds_set 3 hN ?_)
theorem ok_noL {f : Addr} {fd : FuncData} (F : Fun K "_law_no_lots" "_law_no_lots" sNoL f fd) (T : Txt mg) (oTake : Own P w K mg base "_law_take" 1 spTake) (oOdd : Own P w K mg base "_law_odd" 2 spOdd) : FnG P w K mg base 3 f fd ["_law_pot_here", "_law_lots_here"] spNoLots := by
  refine fn_pot F scNoL (fun ds ⟨d, e, _⟩ => by rw [e]; rfl) fun cdv A outer s H hr hg w' p ds μ hp ⟨d, e, hf, ht⟩ => ?_
  subst e
  obtain ⟨t1, t2, t3, t4, t5, t6, t7, t8, t9, t10, t11, t12, t13, t14, t15, t16, t17, t18, t19, t20, t21⟩ := T
  have hN : nNoL.Nodup := by decide +kernel
  have ho : isObj' d = false := Fi.notObj ⟨2, hf⟩
  have fin : ∀ xs : List Dt, xs.length ≤ tl d → (∀ x ∈ xs, fine 64 30 1 x) → DSs (bx P w K mg base nNoL "_law_no_lots" sNoL f cdv A outer s H) w' ((defBody sNoL).drop 1) [.at p, .dat d, .dat (.tup xs), .no] μ { nx := fun _ _ => False, rt := fun r μ' => ∃ d_1, r = SV.dat d_1 ∧ (∃ d_2, [d] = [d_2] ∧ fine 64 30 2 d_1 ∧ tl d_1 ≤ tl d_2 + 7) ∧ μ.Sub μ' } := by
    intro xs hx hfx
    refine dss_cons (ds_set 3 hN ?_)
    walk_at "drun"
    refine op_addT (small_ok (by simp; omega)) ?_
    walk_at "drun"
    refine op_mulT (n := 7) (by simp) (by decide) (by decide) (by decide) ?_
    walk_at "drun"
    refine op_addT (small_ok (by simp; omega)) ?_
    walk_at "drun"
    refine ⟨hp, fun o ho => ?_⟩
    walk_at "drun"
    refine ⟨hp, ⟨by decide, by decide⟩, fun v hv0 hv1 => ?_⟩
    obtain ⟨r, hr1, hat⟩ := atI_some [Dt.lst xs, Dt.tup (xs ++ [Dt.int 7]), Dt.tup [Dt.int 1], Dt.tup [Dt.int 0, Dt.int 2], Dt.tup [Dt.int 0, Dt.int (-1)], Dt.tup [Dt.int (-1)], Dt.tup (List.replicate 7 [Dt.int 0]).flatten, Dt.tup (xs ++ [Dt.bl true]), Dt.dic [] [], Dt.str (Str.ofString ""), o] v hv0 (by simpa using hv1)
    refine ix_dL (.inl rfl) hat ?_
    refine ⟨_, rfl, ⟨d, rfl, ?_⟩, Mus.Sub.refl _⟩
    have sn : ∀ z : Dt, fine 64 30 1 z → fine 64 30 2 (.tup (xs ++ [z])) ∧ tl (.tup (xs ++ [z])) ≤ tl d + 7 := fun z hz => by
      refine ⟨⟨by rw [List.length_append]; simp; omega, fun y hy => ?_⟩, by show (xs ++ [z]).length ≤ _; rw [List.length_append]; simp; omega⟩
      rcases List.mem_append.mp hy with e | e
      · exact hfx y e
      · simp at e; rw [e]; exact hz
    have cl : ∀ z : Dt, fineB 2 z = true → tl z ≤ 7 → fine 64 30 2 z ∧ tl z ≤ tl d + 7 := fun z h1 h2 => ⟨fine_of 2 z h1, by omega⟩
    simp only [List.mem_cons, List.not_mem_nil, or_false] at hr1
    rcases hr1 with rfl | rfl | rfl | rfl | rfl | rfl | rfl | rfl | rfl | rfl | rfl
    · exact ⟨⟨by omega, hfx⟩, by show 0 ≤ _; omega⟩
    · exact sn _ (fine_of 1 _ (by decide +kernel))
    · exact cl _ (by decide +kernel) (by decide)
    · exact cl _ (by decide +kernel) (by decide)
    · exact cl _ (by decide +kernel) (by decide)
    · exact cl _ (by decide +kernel) (by decide)
    · exact cl _ (by decide +kernel) (by decide)
    · exact sn _ (fine_of 1 _ (by decide +kernel))
    · exact cl _ (by decide +kernel) (by decide)
    · exact cl _ (by decide +kernel) (by decide)
    · exact ⟨ho.1, by have := ho.2.2.2; omega⟩
  refine dss_cons ?_
  cases d with
  | tup xs =>
    refine ds_set 2 hN (de_ifx (dt_val (de_isinstance (da_cons (de_nm rfl (da_cons (de_ty_tuple t5 (da_nil (ca_isi rfl (kit_tuple _ rfl) ⟨_, rfl, fun h => ?_, fun h => Bool.noConfusion h⟩)))))) t1)))
    exact de_nm rfl (fin xs (Nat.le_refl _) hf.2)
  | mix _ _ _ => simp [isObj'] at ho
  | obj _ _ _ => simp [isObj'] at ho
  | err _ _ _ => simp [isObj'] at ho
  | _ =>
    refine ds_set 2 hN (de_ifx (dt_val (de_isinstance (da_cons (de_nm rfl (da_cons (de_ty_tuple t5 (da_nil (ca_isi rfl (kit_tuple _ rfl) ⟨_, rfl, fun h => Bool.noConfusion h, fun h => ?_⟩)))))) t1)))
    exact de_tup (da_nil ⟨[], rfl, by decide, fin [] (Nat.zero_le _) nofun⟩)
end
end K12

set_option Elab.async false
set_option linter.all false
set_option maxRecDepth 100000
set_option maxHeartbeats 4000000
namespace K12
open PySem PySem.Spec PyProof.Rows L2 Dat Er Mx
local macro_rules
  | `(tactic| walk_at "down") => `(tactic| fail "none")
local macro_rules
  | `(tactic| walk_at "dset") => `(tactic| fail "none")
local macro_rules
  | `(tactic| walk_at "dhook") => `(tactic| fail "none")
local macro_rules
  | `(tactic| walk_at "dca") => `(tactic| fail "none")
local macro_rules
  | `(tactic| walk_at "dlst") => `(tactic| refine de_lst ?_)
local macro_rules
  | `(tactic| walk_at "dtup") => `(tactic| refine de_tup ?_)
local macro_rules
  | `(tactic| walk_at "dstep") => `(tactic| first
    | ((with_reducible show DE _ _ _ _ _ _); first | ((with_reducible show DE _ _ (Expr.Name _ _) _ _ _); first | ((with_reducible show DE _ _ (Expr.Name "int" _) _ _ _); refine de_ty_int (by assumption) ?_) | ((with_reducible show DE _ _ (Expr.Name "str" _) _ _ _); refine de_ty_str (by assumption) ?_) | ((with_reducible show DE _ _ (Expr.Name "bool" _) _ _ _); refine de_ty_bool (by assumption) ?_) | ((with_reducible show DE _ _ (Expr.Name "tuple" _) _ _ _); refine de_ty_tuple (by assumption) ?_) | ((with_reducible show DE _ _ (Expr.Name "list" _) _ _ _); refine de_ty_list (by assumption) ?_) | ((with_reducible show DE _ _ (Expr.Name "dict" _) _ _ _); refine de_ty_dict (by assumption) ?_) | refine de_nm rfl ?_ | refine de_globI (by assumption) ?_) | ((with_reducible show DE _ _ (Expr.Constant _ _ _) _ _ _); first | refine de_int ?_ | refine de_str ?_ | refine de_bl ?_ | refine de_non ?_) | ((with_reducible show DE _ _ (Expr.Call (Expr.Name _ _) _ _ _) _ _ _); first | ((with_reducible show DE _ _ (Expr.Call (Expr.Name "isinstance" _) _ _ _) _ _ _); refine de_isinstance ?_ (by assumption)) | ((with_reducible show DE _ _ (Expr.Call (Expr.Name "len" _) _ _ _) _ _ _); refine de_len ?_ (by assumption)) | ((with_reducible show DE _ _ (Expr.Call (Expr.Name "max" _) _ _ _) _ _ _); refine de_max ?_ (by assumption)) | ((with_reducible show DE _ _ (Expr.Call (Expr.Name "min" _) _ _ _) _ _ _); refine de_min ?_ (by assumption)) | ((with_reducible show DE _ _ (Expr.Call (Expr.Name "all" _) _ _ _) _ _ _); refine de_all ?_ (by assumption)) | ((with_reducible show DE _ _ (Expr.Call (Expr.Name "repr" _) _ _ _) _ _ _); refine de_repr ?_ (by assumption)) | ((with_reducible show DE _ _ (Expr.Call (Expr.Name "divmod" _) _ _ _) _ _ _); refine de_divmod ?_ (by assumption)) | ((with_reducible show DE _ _ (Expr.Call (Expr.Name "list" _) _ _ _) _ _ _); refine de_clist ?_ (by assumption)) | ((with_reducible show DE _ _ (Expr.Call (Expr.Name "tuple" _) _ _ _) _ _ _); refine de_ctuple ?_ (by assumption)) | ((with_reducible show DE _ _ (Expr.Call (Expr.Name "int" _) _ _ _) _ _ _); refine de_cint ?_ (by assumption)) | ((with_reducible show DE _ _ (Expr.Call (Expr.Name "str" _) _ _ _) _ _ _); refine de_cstr ?_ (by assumption)) | walk_at "down") | ((with_reducible show DE _ _ (Expr.BinOp _ _ _ _) _ _ _); refine de_op ?_) | ((with_reducible show DE _ _ (Expr.Compare _ [_] _ _) _ _ _); refine de_cmp ?_) | ((with_reducible show DE _ _ (Expr.Compare _ [_, _] _ _) _ _ _); refine de_chain ?_) | ((with_reducible show DE _ _ (Expr.Subscript _ (Expr.Slice _ _ _ _) _) _ _ _); refine de_slice ?_) | ((with_reducible show DE _ _ (Expr.Subscript _ _ _) _ _ _); refine de_ix ?_) | ((with_reducible show DE _ _ (Expr.BoolOp _ [_] _) _ _ _); refine de_one ?_) | ((with_reducible show DE _ _ (Expr.BoolOp BoolOp.And _ _) _ _ _); refine de_and ?_) | ((with_reducible show DE _ _ (Expr.BoolOp BoolOp.Or _ _) _ _ _); refine de_or ?_) | ((with_reducible show DE _ _ (Expr.UnaryOp UnaryOp.Not _ _) _ _ _); refine de_not ?_) | ((with_reducible show DE _ _ (Expr.UnaryOp _ _ _) _ _ _); refine de_un ?_) | ((with_reducible show DE _ _ (Expr.IfExp _ _ _ _) _ _ _); refine de_ifx ?_) | ((with_reducible show DE _ _ (Expr.Tuple _ _ _) _ _ _); walk_at "dtup") | ((with_reducible show DE _ _ (Expr.List _ _) _ _ _); walk_at "dlst") | ((with_reducible show DE _ _ (Expr.Dict [] [] _) _ _ _); refine de_dict0 ?_) | walk_at "dhook")
    | ((with_reducible show DA _ _ _ _ _ _); first | ((with_reducible show DA _ _ [] _ _ _); refine da_nil ?_) | ((with_reducible show DA _ _ (_ :: _) _ _ _); refine da_cons ?_))
    | ((with_reducible show BoolR _ _); refine ⟨_, rfl, ?_⟩)
    | ((with_reducible show (_ = true → _) ∧ (_ = false → _)); (refine ⟨fun h => ?_, fun h => ?_⟩ <;> try (exact Bool.noConfusion h)))
    | ((with_reducible show OpD _ _ _ _ _ _ _); first | ((with_reducible show OpD _ _ (binaryOp Operator.Add) _ _ _ _); first | refine op_addI ?_ | refine op_addT ?_) | ((with_reducible show OpD _ _ (binaryOp Operator.Sub) _ _ _ _); refine op_subI ?_) | ((with_reducible show OpD _ _ (binaryOp Operator.Mod) _ _ _ _); refine op_modI (by first | decide | assumption) ?_) | ((with_reducible show OpD _ _ (binaryOp Operator.Mult) _ _ _ _); refine op_mulI (by first | exact .inr (by decide) | exact .inl (by decide) | (exact .inl (by omega))) ?_) | ((with_reducible show OpD _ _ (binaryOp Operator.Pow) _ _ _ _); refine op_powI (by decide) (by decide) (by decide) ?_) | ((with_reducible show OpD _ _ (binaryOp Operator.FloorDiv) _ _ _ _); refine op_fdivI (by decide) (by decide) ?_) | ((with_reducible show OpD _ _ (compareOp CmpOp.Lt) _ _ _ _); refine op_ltI ?_) | ((with_reducible show OpD _ _ (compareOp CmpOp.LtE) _ _ _ _); first | refine op_leI ?_ | refine op_leS ?_) | ((with_reducible show OpD _ _ (compareOp CmpOp.Gt) _ _ _ _); refine op_gtI ?_) | ((with_reducible show OpD _ _ (compareOp CmpOp.GtE) _ _ _ _); refine op_geI ?_) | ((with_reducible show OpD _ _ (compareOp CmpOp.Eq) _ _ _ _); first | refine op_eqI ?_ | refine op_eqS ?_) | ((with_reducible show OpD _ _ (compareOp CmpOp.NotEq) _ _ _ _); first | refine op_neI ?_ | refine op_neS ?_))
    | ((with_reducible show CaD _ _ _ _ _ _); first | ((with_reducible show CaD _ _ (Value.builtin "isinstance") [_, SV.ty "int"] _ _); refine ca_isi (by assumption) (kit_int _ (by assumption)) ?_) | ((with_reducible show CaD _ _ (Value.builtin "isinstance") [_, SV.ty "bool"] _ _); refine ca_isi (by assumption) (kit_bool _ (by assumption)) ?_) | ((with_reducible show CaD _ _ (Value.builtin "isinstance") [_, SV.ty "str"] _ _); refine ca_isi (by assumption) (kit_str _ (by assumption)) ?_) | ((with_reducible show CaD _ _ (Value.builtin "isinstance") [_, SV.ty "tuple"] _ _); refine ca_isi (by assumption) (kit_tuple _ (by assumption)) ?_) | ((with_reducible show CaD _ _ (Value.builtin "isinstance") [_, SV.ty "list"] _ _); refine ca_isi (by assumption) (kit_list _ (by assumption)) ?_) | ((with_reducible show CaD _ _ (Value.builtin "isinstance") [_, SV.ty "dict"] _ _); refine ca_isi (by assumption) (kit_dict _ (by assumption)) ?_) | ((with_reducible show CaD _ _ (Value.builtin "max") _ _ _); refine ca_max2 rfl ?_) | ((with_reducible show CaD _ _ (Value.builtin "min") _ _ _); refine ca_min2 rfl ?_) | ((with_reducible show CaD _ _ (Value.builtin "len") _ _ _); first | refine ca_lenT ?_ | refine ca_lenS (by assumption) ?_ | refine ca_lenSc ?_ | refine ca_lenL (.inl rfl) ?_) | ((with_reducible show CaD _ _ (Value.type "list") _ _ _); refine ca_listT ?_) | ((with_reducible show CaD _ _ (Value.builtin "divmod") _ _ _); refine ca_divmod (by assumption) (by omega) ?_) | walk_at "dca")
    | ((with_reducible show DT _ _ _ _ _ _); first | ((with_reducible show DT _ _ (Expr.BoolOp _ _ _) _ _ _); refine dt_w ?_) | ((with_reducible show DT _ _ (Expr.UnaryOp UnaryOp.Not _ _) _ _ _); refine dt_not ?_) | ((with_reducible show DT _ _ (Expr.Compare _ [_] _ _) _ _ _); refine dt_cmp ?_) | ((with_reducible show DT _ _ (Expr.Compare _ [_, _] _ _) _ _ _); refine dt_chain ?_) | refine dt_val ?_)
    | ((with_reducible show DW _ _ _ _ _ _); first | ((with_reducible show DW _ _ (Expr.BoolOp BoolOp.And [_] _) _ _ _); refine dw_and1 ?_) | ((with_reducible show DW _ _ (Expr.BoolOp BoolOp.Or [_] _) _ _ _); refine dw_or1 ?_) | ((with_reducible show DW _ _ (Expr.BoolOp BoolOp.And _ _) _ _ _); refine dw_and ?_) | ((with_reducible show DW _ _ (Expr.BoolOp BoolOp.Or _ _) _ _ _); refine dw_or ?_))
    | ((with_reducible show DSs _ _ _ _ _ _); first | ((with_reducible show DSs _ _ [] _ _ _); refine dss_nil ?_) | ((with_reducible show DSs _ _ [_] _ _ _); refine dss_one ?_) | ((with_reducible show DSs _ _ (_ :: _) _ _ _); refine dss_cons ?_))
    | ((with_reducible show DS _ _ _ _ _ _); first | ((with_reducible show DS _ _ (Stmt.Return (some _) _) _ _ _); refine ds_ret ?_) | ((with_reducible show DS _ _ (Stmt.If _ _ _ _) _ _ _); refine ds_if ?_) | ((with_reducible show DS _ _ (Stmt.Expr _ _) _ _ _); refine ds_expr ?_) | ((with_reducible show DS _ _ (Stmt.Assign [Expr.Name _ _] _ _) _ _ _); walk_at "dset"))
    | ((with_reducible show DP _ _ none _ _ _); refine dp_none ?_)
    | ((with_reducible show DP _ _ (some _) _ _ _); refine dp_some ?_)
    | ((with_reducible show ∃ d, SV.dat _ = SV.dat d ∧ Fi d ∧ _); refine ⟨_, rfl, by assumption, ?_⟩)
    | ((with_reducible show ∃ i, SV.dat (Dt.int _) = SV.dat (Dt.int i) ∧ _); refine ⟨_, rfl, ?_⟩)
    | ((with_reducible show SlD _ _ (SV.dat (Dt.tup _)) _ _ _ _); refine sl_dT ?_)
    | ((with_reducible show ∃ ds, undat _ = some ds ∧ ds.length ≤ 1000 ∧ _); refine ⟨_, rfl, Nat.le_of_ble_eq_true rfl, ?_⟩)
    | ((with_reducible show ∃ q, SV.at _ = SV.at q ∧ _); refine ⟨_, rfl, ?_⟩)
    | ((with_reducible show ∃ z, SV.dat (Dt.str _) = SV.dat (Dt.str z) ∧ _); refine ⟨_, rfl, ?_⟩)
    | ((with_reducible show IxD _ _ (SV.at _) (SV.dat (Dt.int 0)) _ _); refine ix_pot0 (by assumption) (fun _ _ => ?_))
    | ((with_reducible show IxD _ _ (SV.at _) (SV.dat (Dt.int 1)) _ _); refine ix_pot1 (by assumption) (fun _ _ _ => ?_))
    | ((with_reducible show UnD _ _ (unaryOp UnaryOp.USub) _ _ _); refine un_negI ?_)
    | ((with_reducible show Po.nx _ _ _); dsimp only)
    | ((with_reducible show Po.rt _ _ _); dsimp only))
local macro_rules
  | `(tactic| walk_at "drun") => `(tactic| repeat' (walk_at "dstep"))

/-! ### tables that are spoilt -/
structure SpOk (n m : Nat) (l : Tbl) : Prop where
  gk : GoodK l
  len : l.length ≤ n
  fk : ∀ x ∈ l, fine 64 30 2 x.1
  fv : ∀ x ∈ l, fine 64 30 2 x.2 ∧ tl x.2 ≤ m
structure NotTb (r : Dt) : Prop where
  no : isObj' r = false
  nd : isDic r = false
  sh : ShownL r
def spSpoilt (w : World) (n m : Nat) : Sp := QSp (fun ds => ∃ l, ds = [mixD w l] ∧ SpOk n m l) fun _ r => (∃ l, r = mixD w l ∧ SpOk (max n 13 + 1) (m + 7) l) ∨ NotTb r
theorem putP_len (l : Tbl) (k v : Dt) : (putP l k v).length ≤ l.length + 1 := by
  unfold putP
  split
  · rw [List.length_map]; omega
  · rw [List.length_append]; exact Nat.le_refl _
theorem putP_all {A B : Dt → Prop} {l : Tbl} {k v : Dt} (h : ∀ x ∈ l, A x.1 ∧ B x.2) (ha : A k) (hb : B v) : ∀ x ∈ putP l k v, A x.1 ∧ B x.2 := fun x hx => by
  unfold putP at hx
  split at hx
  · obtain ⟨y, hy, rfl⟩ := List.mem_map.mp hx
    by_cases c : nk y.1 = nk k
    · rw [if_pos c]; exact ⟨(h y hy).1, hb⟩
    · rw [if_neg c]; exact h y hy
  · rcases List.mem_append.mp hx with q | q
    · exact h x q
    · rw [List.mem_singleton] at q; rw [q]; exact ⟨ha, hb⟩
theorem mergeP_all {A B : Dt → Prop} : ∀ (ps l : Tbl), (∀ x ∈ l, A x.1 ∧ B x.2) → (∀ x ∈ ps, A x.1 ∧ B x.2) → (mergeP l ps).length ≤ l.length + ps.length ∧ ∀ x ∈ mergeP l ps, A x.1 ∧ B x.2
  | [], l, h, _ => ⟨Nat.le_refl _, h⟩
  | p :: ps, l, h, hp => by
    have h1 := hp p List.mem_cons_self
    obtain ⟨a, b⟩ := mergeP_all ps (putP l p.1 p.2) (putP_all h h1.1 h1.2) fun x hx => hp x (List.mem_cons_of_mem _ hx)
    have := putP_len l p.1 p.2
    refine ⟨?_, b⟩
    show (mergeP (putP l p.1 p.2) ps).length ≤ _
    rw [List.length_cons]; omega
def PrOk (m : Nat) (x : Dt × Dt) : Prop := KeyOk x.1 ∧ fine 64 30 2 x.2 ∧ tl x.2 ≤ m
theorem merged {n m : Nat} {ps : Tbl} (hl : ps.length ≤ n) (h : ∀ x ∈ ps, PrOk m x) : SpOk n m (mergeP [] ps) := by
  obtain ⟨a, b⟩ := mergeP_all (A := fun d => fine 64 30 2 d) (B := fun d => fine 64 30 2 d ∧ tl d ≤ m) ps [] nofun fun x hx => ⟨(h x hx).1.2.2, (h x hx).2⟩
  rw [List.length_nil, Nat.zero_add] at a
  exact ⟨GoodK.merge GoodK.nil fun x hx => ⟨(h x hx).1.1, (h x hx).1.2.1⟩, Nat.le_trans a hl, fun x hx => (b x hx).1, fun x hx => (b x hx).2⟩
theorem SpOk.pr {n m : Nat} {l : Tbl} (h : SpOk n m l) : ∀ x ∈ l, PrOk m x := fun x hx => ⟨⟨(h.gk.ka x hx).1, (h.gk.ka x hx).2, h.fk x hx⟩, h.fv x hx⟩
theorem PrOk.up {m : Nat} {x : Dt × Dt} (h : PrOk m x) : PrOk (m + 7) x := ⟨h.1, h.2.1, Nat.le_trans h.2.2 (by omega)⟩
theorem shown_fine {n : Nat} {d : Dt} (hn : n ≤ 3) (h : fine 64 30 n d) : ShownL d := by
  obtain ⟨a, b, c⟩ := fine_rest n d h
  refine ⟨c, a, Nat.le_trans (fine_len n d h) ?_, by omega⟩
  rw [sizeLine_eq]
  have : n = 0 ∨ n = 1 ∨ n = 2 ∨ n = 3 := by omega
  rcases this with rfl | rfl | rfl | rfl <;> decide
theorem pair_facts {x : Dt × Dt} (h1 : fine 64 30 2 x.1) (h2 : fine 64 30 2 x.2) : (toPy (Dat.pairD x)).showable = true ∧ (toPy (Dat.pairD x)).depth ≤ 3 ∧ Dat.plain (Dat.pairD x) = true ∧ (toPy (Dat.pairD x)).shown.length ≤ 866945 := by
  have al : ∀ d ∈ [x.1, x.2], fine 64 30 2 d := fun d hd => by
    simp only [List.mem_cons, List.not_mem_nil, or_false] at hd
    rcases hd with e | e <;> rw [e] <;> assumption
  refine ⟨?_, ?_, ?_, ?_⟩
  · simp only [Dat.pairD, toPy, PyData.showable]
    exact showsAll_of [x.1, x.2] fun d hd => (fine_rest 2 d (al d hd)).1
  · simp only [Dat.pairD, toPy, PyData.depth]
    exact Nat.succ_le_succ (deepAll_of [x.1, x.2] fun d hd => (fine_rest 2 d (al d hd)).2.1)
  · simp only [Dat.pairD, Dat.plain]
    exact plainAll_of [x.1, x.2] fun d hd => (fine_rest 2 d (al d hd)).2.2
  · simp only [Dat.pairD, toPy, PyData.shown, toPyA_map, shownAll_map, List.map_map]
    have q := piled_le (L := fineL 64 30 2) ([x.1, x.2].map (PyData.shown ∘ toPy)) fun t ht => by
      obtain ⟨d, hd, rfl⟩ := List.mem_map.mp ht
      exact fine_len 2 d (al d hd)
    have z := tupleText_le ([x.1, x.2].map (PyData.shown ∘ toPy))
    have e : fineL 64 30 2 = 433469 := by decide
    rw [List.length_map, e] at q
    have e2 : [x.1, x.2].length = 2 := rfl
    rw [e2] at q
    omega
theorem shown_pairs {ps : Tbl} (hl : ps.length ≤ 15) (h : ∀ x ∈ ps, fine 64 30 2 x.1 ∧ fine 64 30 2 x.2) : ShownL (.lst (ps.map Dat.pairD)) ∧ ShownL (.tup (ps.map Dat.pairD)) := by
  have al : ∀ d ∈ ps.map Dat.pairD, (toPy d).showable = true ∧ (toPy d).depth ≤ 3 ∧ Dat.plain d = true ∧ (toPy d).shown.length ≤ 866945 := fun d hd => by
    obtain ⟨x, hx, rfl⟩ := List.mem_map.mp hd
    exact pair_facts (h x hx).1 (h x hx).2
  have s := showsAll_of (ps.map Dat.pairD) fun d hd => (al d hd).1
  have dp := deepAll_of (ps.map Dat.pairD) fun d hd => (al d hd).2.1
  have pl := plainAll_of (ps.map Dat.pairD) fun d hd => (al d hd).2.2.1
  have q := piled_le (L := 866945) ((ps.map Dat.pairD).map (PyData.shown ∘ toPy)) fun t ht => by
    obtain ⟨d, hd, rfl⟩ := List.mem_map.mp ht
    exact (al d hd).2.2.2
  rw [List.length_map, List.length_map] at q
  have m := Nat.mul_le_mul_right (866945 + 2) hl
  have z1 := listText_le ((ps.map Dat.pairD).map (PyData.shown ∘ toPy))
  have z2 := tupleText_le ((ps.map Dat.pairD).map (PyData.shown ∘ toPy))
  refine ⟨⟨by rw [Dat.plain]; exact pl, by rw [toPy, PyData.showable]; exact s, ?_, by rw [toPy, PyData.depth]; omega⟩, ⟨by rw [Dat.plain]; exact pl, by rw [toPy, PyData.showable]; exact s, ?_, by rw [toPy, PyData.depth]; omega⟩⟩
  · rw [toPy, PyData.shown, toPyA_map, shownAll_map, List.map_map, sizeLine_eq]
    omega
  · rw [toPy, PyData.shown, toPyA_map, shownAll_map, List.map_map, sizeLine_eq]
    omega
theorem shown_tb {w : World} {l : Tbl} (hl : l.length ≤ 16) (h : ∀ x ∈ l, fine 64 30 2 x.1 ∧ fine 64 30 2 x.2) : ShownL (mixD w l) := by
  have hk : ∀ d ∈ l.map (·.1), fine 64 30 2 d := fun d hd => by
    obtain ⟨x, hx, rfl⟩ := List.mem_map.mp hd
    exact (h x hx).1
  have hv : ∀ d ∈ l.map (·.2), fine 64 30 2 d := fun d hd => by
    obtain ⟨x, hx, rfl⟩ := List.mem_map.mp hd
    exact (h x hx).2
  obtain ⟨h1, h2, h3, h4, h5⟩ := shown_kv (N := 16) (by rw [List.length_map]; exact hl) hk hv
  have e : fineL 64 30 2 = 433469 := by decide
  rw [e] at h3
  unfold mixD
  refine ⟨by rw [Dat.plain, h4, h5]; rfl, by rw [toPy]; exact h1, by rw [toPy, sizeLine_eq]; omega, by rw [toPy]; omega⟩
theorem lst_keys {l : Tbl} (hl : l.length ≤ 16) (h : ∀ x ∈ l, fine 64 30 2 x.1) : ShownL (.lst (l.map (·.1))) := shown_fine (n := 3) (by decide) ⟨by rw [List.length_map]; omega, fun d hd => by
  obtain ⟨x, hx, rfl⟩ := List.mem_map.mp hd
  exact h x hx⟩
theorem NotTb.of {d : Dt} (h : fineB 2 d = true) (h2 : isDic d = false) : NotTb d := ⟨Fi.notObj ⟨2, fine_of 2 d h⟩, h2, shown_fine (by decide) (fine_of 2 d h)⟩
set_option hygiene false in
local macro_rules
  | `(tactic| walk_at "down") => `(tactic| first | ((with_reducible show DE _ _ (Expr.Call (Expr.Name "_law_take" _) _ _ _) _ _ _); refine de_take oTake hr (by decide) hg ?_) | ((with_reducible show DE _ _ (Expr.Call (Expr.Name "_law_key" _) _ _ _) _ _ _); refine de_q0 oKey hr (by decide) hg ?_) | ((with_reducible show DE _ _ (Expr.Call (Expr.Name "_law_label" _) _ _ _) _ _ _); refine de_newU oNew hr (by decide) hg ?_))
section
variable {P : Program} {w : World} {K : PySem.W.Frag} {mg : Str → Option Value} {base : Heap}
abbrev sSpo : Stmt := top 34
abbrev nSpo : List Str := ["_law_pot_here", "_law_table_here", "_law_way", "_law_pairs", "_law_at", "_law_word", "_law_lots_here", "_law_used", "_law_k"]
theorem scSpo : FnScope nSpo ["_law_pot_here", "_law_table_here"] (defScope sSpo) := ⟨rfl, rfl, rfl, by decide +kernel, rfl, by decide +kernel, by decide +kernel⟩
theorem ok_spo {n m : Nat} (hn : n ≤ 14) (hm : m ≤ 13) {f : Addr} {fd : FuncData} (F : Fun K "_law_spoilt" "_law_spoilt" sSpo f fd) (T : Txt mg) (oTake : Own P w K mg base "_law_take" 1 spTake) (oNew : Own P w K mg base "_law_label" 2 spNew) (oKey : Own P w K mg base "_law_key" 2 spKey) (oNoL : Own P w K mg base "_law_no_lots" 3 spNoLots) : FnG P w K mg base 4 f fd ["_law_pot_here", "_law_table_here"] (spSpoilt w n m) := by
  refine fn_pot F scSpo (fun ds ⟨l, e, _⟩ => by rw [e]; rfl) fun cdv A outer s H hr hg w' p ds μ hp ⟨l, e, hl⟩ => ?_
  subst e
  obtain ⟨t1, t2, t3, t4, t5, t6, t7, t8, t9, t10, t11, t12, t13, t14, t15, t16, t17, t18, t19, t20, t21⟩ := T
  have hN : nSpo.Nodup := by decide +kernel
  have hlen := hl.len
  refine dss_cons (ds_par 2 3 rfl hN ?_)
  walk_at "drun"
  refine ⟨hp, ⟨by decide, by decide⟩, fun way hw0 hw5 => ?_⟩
  refine da_cons (de_listItemsM rfl t6 (de_nm rfl ⟨l, ⟨_, rfl⟩, fun q hq0 hwq => da_nil ⟨_, _, rfl, ?_⟩⟩))
  have mp : ∀ a, (μ.put q a) p = some .pot := fun a => pot_ne hp hq0
  have np : p ≠ q := fun e => by rw [e, hq0] at hp; cases hp
  have ll : (l.map Dat.pairD).length = l.length := List.length_map ..
  refine dss_cons (ds_set 4 hN ?_)
  walk_at "drun"
  refine ca_lenL (.inr ⟨q, rfl, put_same⟩) ?_
  rw [ll]
  walk_at "drun"
  refine ⟨mp _, ⟨by omega, by omega⟩, fun at' ha0 ha1 => ?_⟩
  have fin : ∀ (a2 a3 a4 a5 a6 a7 a8 : SV) (μ' : Mus) (ps : Tbl), a3 ≠ .no → LsQ a3 μ' (ps.map Dat.pairD) → ps.length ≤ max n 13 + 1 → (∀ x ∈ ps, PrOk (m + 7) x) → μ.Sub μ' → DSs (bx P w K mg base nSpo "_law_spoilt" sSpo f cdv A outer s H) w' ((defBody sSpo).drop 3) [.at p, .dat (mixD w l), a2, a3, a4, a5, a6, a7, a8] μ' { nx := fun _ _ => False, rt := fun r μ' => ∃ d, r = SV.dat d ∧ ((∃ l, d = mixD w l ∧ SpOk (max n 13 + 1) (m + 7) l) ∨ NotTb d) ∧ μ.Sub μ' } := by
    intro a2 a3 a4 a5 a6 a7 a8 μ' ps hne h1 hl1 hpr hs
    refine dss_one (ds_ret (de_cdict (da_cons (de_nm rfl (da_nil (ca_dictL hr h1 (fun x hx => ⟨(hpr x hx).1.1, (hpr x hx).1.2.1⟩) (by omega) ?_)) hne)) t16))
    exact ⟨_, rfl, .inl ⟨_, rfl, merged hl1 hpr⟩, hs⟩
  have pr : ∀ x ∈ l, PrOk (m + 7) x := fun x hx => (hl.pr x hx).up
  refine dss_cons ?_
  show DS (bx P w K mg base nSpo "_law_spoilt" sSpo f cdv A outer s H) w' _ [.at p, .dat (mixD w l), .dat (.int way), .at q, .dat (.int at'), .no, .no, .no, .no] (μ.put q (.lst (l.map Dat.pairD))) _
  walk_at "drun"
  · refine de_bm (T := "list") (id := "list.insert") (de_nm rfl ⟨ty_lst (.inr ⟨q, rfl, put_same⟩), ?_⟩) PySem.F.plainAttrs_list PySem.F.slot_list_insert PySem.F.type_list_insert
    walk_at "drun"
    refine ⟨mp _, fun k0 hk0 => ?_⟩
    walk_at "drun"
    refine ⟨mp _, ⟨by decide, by decide⟩, fun v hv0 hv1 => ?_⟩
    obtain ⟨d, hd, hat⟩ := atI_some [.tup [], .tup [.int 0], .non] v hv0 (by simpa using hv1)
    refine ix_dL (.inl rfl) hat ?_
    have hd2 : fine 64 30 2 d ∧ tl d ≤ m + 7 := by
      simp only [List.mem_cons, List.not_mem_nil, or_false] at hd
      rcases hd with rfl | rfl | rfl
      · exact ⟨fine_of 2 _ (by decide +kernel), by show 0 ≤ _; omega⟩
      · exact ⟨fine_of 2 _ (by decide +kernel), by show 1 ≤ _; omega⟩
      · exact ⟨trivial, by show 0 ≤ _; omega⟩
    walk_at "drun"
    refine mt_insertM put_same ha0 (by omega) (by rw [ll]; omega) ?_
    rw [put_twice]
    refine fin _ _ _ _ _ _ _ _ (l.take at'.toNat ++ [(k0, d)] ++ l.drop at'.toNat) nofun (.inr ⟨q, rfl, ?_⟩) ?_ ?_ (sub_put hq0)
    · rw [put_same, List.map_append, List.map_append, List.map_take, List.map_drop]; rfl
    · rw [List.length_append, List.length_append, List.length_take, List.length_drop, List.length_singleton]; omega
    · intro x hx
      rcases List.mem_append.mp hx with h | h
      · rcases List.mem_append.mp h with h | h
        · exact pr x (List.mem_of_mem_take h)
        · rw [List.mem_singleton] at h; rw [h]; exact ⟨hk0, hd2⟩
      · exact pr x (List.mem_of_mem_drop h)
  · refine op_neNil hr (.inr ⟨q, rfl, put_same⟩) ?_
    refine ⟨_, rfl, fun h1 => ?_, fun h1 => ?_⟩
    · have pos : 0 < l.length := by
        cases l with
        | nil => simp at h1
        | cons _ _ => simp
      refine dss_cons (ds_asg ?_)
      walk_at "drun"
      refine ca_lenL (.inr ⟨q, rfl, put_same⟩) ?_
      rw [ll]
      walk_at "drun"
      generalize hi : min at' ((l.length : Int) - 1) = i
      have hi0 : 0 ≤ i := by omega
      have hi1 : i < l.length := by omega
      have hil : i.toNat < l.length := by omega
      refine ix_dL (.inr ⟨q, rfl, put_same⟩) (d := Dat.pairD l[i.toNat]) (atI_last _ i _ hi0 (by rw [List.getElem?_map, List.getElem?_eq_getElem hil]; rfl)) ?_
      have hx := pr _ (List.getElem_mem hil)
      have hx0 := hl.pr _ (List.getElem_mem hil)
      generalize l[i.toNat] = x at hx hx0
      refine dg_tup rfl (dgs_cons (dg_name 5 hN (dgs_cons (dg_name 6 hN (dgs_nil ?_)) rfl)) rfl) rfl
      refine dss_one (ds_asg ?_)
      walk_at "drun"
      refine de_pot oNoL hr (by decide) hg (da_cons (de_nm rfl (da_cons (de_nm rfl (da_nil ⟨p, [.dat x.2], [x.2], rfl, rfl, mp _, ⟨x.2, rfl, hx0.2.1, by have := hx0.2.2; omega⟩, fun vd ⟨d', e', hvf, hvt⟩ => ?_⟩)))))
      cases e'
      refine da_nil ⟨_, rfl, Nat.le_of_ble_eq_true rfl, ?_⟩
      refine dg_setL (de_nm rfl ⟨q, rfl, ?_⟩)
      walk_at "drun"
      refine ca_lenL (.inr ⟨q, rfl, put_same⟩) ?_
      rw [ll]
      walk_at "drun"
      rw [hi]
      refine ⟨_, i, rfl, put_same, hi0, by rw [ll]; exact hil, ?_⟩
      rw [put_twice]
      refine fin _ _ _ _ _ _ _ _ (l.set i.toNat (x.1, vd)) nofun (.inr ⟨q, rfl, ?_⟩) ?_ ?_ (sub_put hq0)
      · rw [put_same, List.map_set]; rfl
      · rw [List.length_set]; omega
      · intro y hy
        rcases List.mem_or_eq_of_mem_set hy with h | h
        · exact pr y h
        · rw [h]; exact ⟨hx.1, hvf, by show tl vd ≤ _; have := hx0.2.2; omega⟩
    · rename_i hw1
      have w1 := of_decide_eq_true hw1
      walk_at "drun"
      · rename_i z; have := of_decide_eq_true z; omega
      · rename_i z; have := of_decide_eq_true z; omega
      · exact de_cdict (da_cons (de_nm rfl (da_nil (ca_dictL hr (.inr ⟨q, rfl, put_same⟩) (fun x hx => ⟨(pr x hx).1.1, (pr x hx).1.2.1⟩) (by omega) ⟨_, rfl, .inl ⟨_, rfl, merged (by omega) pr⟩, sub_put hq0⟩)))) t16
  · refine ds_set 7 hN (de_lcM 5 rfl hN (blkOk_by (N := nSpo) (sc := defScope sSpo) (by decide +kernel)) ?_)
    refine di_keysT (de_nm rfl ⟨l, ⟨_, rfl⟩, ?_⟩)
    refine lc_filterM id isStr (by rw [List.length_map]; omega) ?_ ?_ ?_
    · intro d hd w2 k
      obtain ⟨x, hx, rfl⟩ := List.mem_map.mp hd
      have f1 : Fi x.1 := ⟨2, hl.fk x hx⟩
      have ho := f1.notObj
      walk_at "drun"
      exact ⟨rfl, rfl⟩
    · intro d hd _ w2 k
      walk_at "drun"
      exact ⟨rfl, rfl⟩
    intro q2 hq2 hwq2
    obtain ⟨us, hus, hul⟩ : ∃ us : List Str, ((l.map (·.1)).filter isStr).map id = us.map Dt.str ∧ us.length ≤ l.length := by
      refine ⟨((l.map (·.1)).filter isStr).map txt, ?_, ?_⟩
      · rw [List.map_map]
        refine List.map_congr_left fun d hd => ?_
        have := (List.mem_filter.mp hd).2
        cases d <;> first | rfl | (simp [isStr] at this)
      · rw [List.length_map]
        exact Nat.le_trans (List.length_filter_le _ _) (by rw [List.length_map]; exact Nat.le_refl _)
    rw [hus]
    have ne : q2 ≠ q := fun e => by rw [e, put_same] at hq2; cases hq2
    have hq2' : μ q2 = none := by rwa [put_ne ne] at hq2
    have np2 : p ≠ q2 := fun e => by rw [e, hq2'] at hp; cases hp
    have mq : ∀ b, ((μ.put q (.lst (l.map Dat.pairD))).put q2 b) q = some (.lst (l.map Dat.pairD)) := fun b => by rw [put_ne ne.symm, put_same]
    have mp2 : ∀ b, ((μ.put q (.lst (l.map Dat.pairD))).put q2 b) p = some .pot := fun b => by rw [put_ne np2]; exact mp _
    have sb : ∀ b, μ.Sub ((μ.put q (.lst (l.map Dat.pairD))).put q2 b) := fun b c o hc => by
      rw [put_ne (fun e => by rw [e, hq2'] at hc; cases hc), put_ne (fun e => by rw [e, hq0] at hc; cases hc)]; exact hc
    refine dss_one (ds_set 3 hN (de_op (de_nm rfl ?_)))
    refine de_lc 8 rfl hN (blkOk_by (N := nSpo) (sc := defScope sSpo) (by decide +kernel)) ?_
    refine di_range1 ?_ t12
    walk_at "drun"
    refine ca_lenL (.inr ⟨q, rfl, mq _⟩) ?_
    rw [ll]
    walk_at "drun"
    refine ⟨mp2 _, ⟨by decide, by decide⟩, fun c hc0 hc1 => ?_⟩
    walk_at "drun"
    refine ⟨_, rfl, by omega, by omega, ?_⟩
    generalize hmm : (13 - min 13 (l.length : Int) + c).toNat = mm
    have hm14 : l.length + mm ≤ max n 13 + 1 := by omega
    have hmu : mm ≤ 14 := by omega
    refine ⟨by simp [upto]; omega, fun k acc μ' => ∃ ns us' : List Str, acc = ns.map (fun u => Dat.pairD (.str u, .tup [.int 0, .int 0])) ∧ ns.length = k ∧ us'.length = us.length + k ∧ (∀ u ∈ ns, ∃ m, Nm m ∧ u = SX.S m) ∧ μ' = (μ.put q (.lst (l.map Dat.pairD))).put q2 (.lst (us'.map .str)), ⟨[], us, rfl, rfl, rfl, nofun, rfl⟩, ?_, ?_⟩
    · rintro k acc d μ' hi hlk ⟨ns, us', rfl, rfl, hl', hns, rfl⟩ w2 kb
      have hk : ns.length < mm := by
        have := (List.getElem?_eq_some_iff.mp hi).1
        simpa [upto] using this
      refine dq_nil ⟨fun _ kc => ?_, nofun⟩
      walk_at "drun"
      refine ⟨q2, us', rfl, mp2 _, put_same, by omega, fun ml hml hnu => ?_⟩
      walk_at "drun"
      refine ⟨_, rfl, ns ++ [SX.S ml], us' ++ [SX.S ml], by rw [List.map_append]; rfl, by simp, by simp; omega, fun u hu => ?_, by rw [put_twice]⟩
      rcases List.mem_append.mp hu with h | h
      · exact hns u h
      · rw [List.mem_singleton] at h; exact ⟨ml, hml, h⟩
    · rintro acc μ' ⟨ns, us', rfl, hnl, hl', hns, rfl⟩ _
      have hnl' : ns.length = mm := by simpa [upto] using hnl
      refine op_addL (.inr ⟨q, rfl, mq _⟩) (.inl rfl) (small_ok (by rw [List.length_map, List.length_map]; omega)) ?_
      refine fin _ _ _ _ _ _ _ _ (l ++ ns.map fun u => (.str u, .tup [.int 0, .int 0])) ?_ (.inl ?_) ?_ ?_ (sb _)
      · nofun
      · rw [List.map_append, List.map_map]; rfl
      · rw [List.length_append, List.length_map]; omega
      · intro x hx
        rcases List.mem_append.mp hx with h | h
        · exact pr x h
        · obtain ⟨u, hu, rfl⟩ := List.mem_map.mp h
          obtain ⟨ml, hml, rfl⟩ := hns u hu
          refine ⟨⟨rfl, by rw [nk_str, NestedKey.depth]; exact Nat.zero_le _, name_fine (nm_name hml) 2⟩, fine_of 2 (.tup [.int 0, .int 0]) (by decide +kernel), by show 2 ≤ _; omega⟩
  · refine ca_listTb hr (.inl rfl) ?_
    walk_at "drun"
    refine ca_tupL (.inr ⟨q, rfl, put_same⟩) ?_
    refine da_cons (de_frz (de_nm rfl ⟨q, _, μ, rfl, put_same, hwq, sub_put hq0, hq0, ?_⟩))
    walk_at "drun"
    refine ⟨hp, ⟨by decide, by decide⟩, fun v hv0 hv1 => ?_⟩
    obtain ⟨d, hd, hat⟩ := atI_some [.non, .int 0, .bl false, chD "", .tup [], .lst [], .lst (l.map (·.1)), .tup (l.map Dat.pairD), .lst (l.map Dat.pairD), .bl true, chD "ab"] v hv0 (by simpa using hv1)
    refine ix_dL (.inl rfl) hat ⟨_, rfl, .inr ?_, Mus.Sub.refl _⟩
    have fk : ∀ x ∈ l, fine 64 30 2 x.1 ∧ fine 64 30 2 x.2 := fun x hx => ⟨hl.fk x hx, (hl.fv x hx).1⟩
    obtain ⟨sp1, sp2⟩ := shown_pairs (by omega) fk
    simp only [List.mem_cons, List.not_mem_nil, or_false] at hd
    rcases hd with rfl | rfl | rfl | rfl | rfl | rfl | rfl | rfl | rfl | rfl | rfl
    · exact .of (by decide +kernel) rfl
    · exact .of (by decide +kernel) rfl
    · exact .of (by decide +kernel) rfl
    · exact .of (by decide +kernel) rfl
    · exact .of (by decide +kernel) rfl
    · exact .of (by decide +kernel) rfl
    · exact ⟨rfl, rfl, lst_keys (by omega) hl.fk⟩
    · exact ⟨rfl, rfl, sp2⟩
    · exact ⟨rfl, rfl, sp1⟩
    · exact .of (by decide +kernel) rfl
    · exact .of (by decide +kernel) rfl
  · exact de_cdict (da_cons (de_nm rfl (da_nil (ca_dictL hr (.inr ⟨q, rfl, put_same⟩) (fun x hx => ⟨(pr x hx).1.1, (pr x hx).1.2.1⟩) (by omega) ⟨_, rfl, .inl ⟨_, rfl, merged (by omega) pr⟩, sub_put hq0⟩)))) t16
end
end K12

set_option Elab.async false
set_option linter.all false
set_option maxRecDepth 100000
set_option maxHeartbeats 4000000
namespace K12
open PySem PySem.Spec PyProof.Rows L2 Dat Er Mx
local macro_rules
  | `(tactic| walk_at "down") => `(tactic| fail "none")
local macro_rules
  | `(tactic| walk_at "dset") => `(tactic| fail "none")
local macro_rules
  | `(tactic| walk_at "dhook") => `(tactic| fail "none")
local macro_rules
  | `(tactic| walk_at "dca") => `(tactic| fail "none")
local macro_rules
  | `(tactic| walk_at "dlst") => `(tactic| refine de_lst ?_)
local macro_rules
  | `(tactic| walk_at "dtup") => `(tactic| refine de_tup ?_)
local macro_rules
  | `(tactic| walk_at "dstep") => `(tactic| first
    | ((with_reducible show DE _ _ _ _ _ _); first | ((with_reducible show DE _ _ (Expr.Name _ _) _ _ _); first | ((with_reducible show DE _ _ (Expr.Name "int" _) _ _ _); refine de_ty_int (by assumption) ?_) | ((with_reducible show DE _ _ (Expr.Name "str" _) _ _ _); refine de_ty_str (by assumption) ?_) | ((with_reducible show DE _ _ (Expr.Name "bool" _) _ _ _); refine de_ty_bool (by assumption) ?_) | ((with_reducible show DE _ _ (Expr.Name "tuple" _) _ _ _); refine de_ty_tuple (by assumption) ?_) | ((with_reducible show DE _ _ (Expr.Name "list" _) _ _ _); refine de_ty_list (by assumption) ?_) | ((with_reducible show DE _ _ (Expr.Name "dict" _) _ _ _); refine de_ty_dict (by assumption) ?_) | refine de_nm rfl ?_ | refine de_globI (by assumption) ?_) | ((with_reducible show DE _ _ (Expr.Constant _ _ _) _ _ _); first | refine de_int ?_ | refine de_str ?_ | refine de_bl ?_ | refine de_non ?_) | ((with_reducible show DE _ _ (Expr.Call (Expr.Name _ _) _ _ _) _ _ _); first | ((with_reducible show DE _ _ (Expr.Call (Expr.Name "isinstance" _) _ _ _) _ _ _); refine de_isinstance ?_ (by assumption)) | ((with_reducible show DE _ _ (Expr.Call (Expr.Name "len" _) _ _ _) _ _ _); refine de_len ?_ (by assumption)) | ((with_reducible show DE _ _ (Expr.Call (Expr.Name "max" _) _ _ _) _ _ _); refine de_max ?_ (by assumption)) | ((with_reducible show DE _ _ (Expr.Call (Expr.Name "min" _) _ _ _) _ _ _); refine de_min ?_ (by assumption)) | ((with_reducible show DE _ _ (Expr.Call (Expr.Name "all" _) _ _ _) _ _ _); refine de_all ?_ (by assumption)) | ((with_reducible show DE _ _ (Expr.Call (Expr.Name "repr" _) _ _ _) _ _ _); refine de_repr ?_ (by assumption)) | ((with_reducible show DE _ _ (Expr.Call (Expr.Name "divmod" _) _ _ _) _ _ _); refine de_divmod ?_ (by assumption)) | ((with_reducible show DE _ _ (Expr.Call (Expr.Name "list" _) _ _ _) _ _ _); refine de_clist ?_ (by assumption)) | ((with_reducible show DE _ _ (Expr.Call (Expr.Name "tuple" _) _ _ _) _ _ _); refine de_ctuple ?_ (by assumption)) | ((with_reducible show DE _ _ (Expr.Call (Expr.Name "int" _) _ _ _) _ _ _); refine de_cint ?_ (by assumption)) | ((with_reducible show DE _ _ (Expr.Call (Expr.Name "str" _) _ _ _) _ _ _); refine de_cstr ?_ (by assumption)) | walk_at "down") | ((with_reducible show DE _ _ (Expr.BinOp _ _ _ _) _ _ _); refine de_op ?_) | ((with_reducible show DE _ _ (Expr.Compare _ [_] _ _) _ _ _); refine de_cmp ?_) | ((with_reducible show DE _ _ (Expr.Compare _ [_, _] _ _) _ _ _); refine de_chain ?_) | ((with_reducible show DE _ _ (Expr.Subscript _ (Expr.Slice _ _ _ _) _) _ _ _); refine de_slice ?_) | ((with_reducible show DE _ _ (Expr.Subscript _ _ _) _ _ _); refine de_ix ?_) | ((with_reducible show DE _ _ (Expr.BoolOp _ [_] _) _ _ _); refine de_one ?_) | ((with_reducible show DE _ _ (Expr.BoolOp BoolOp.And _ _) _ _ _); refine de_and ?_) | ((with_reducible show DE _ _ (Expr.BoolOp BoolOp.Or _ _) _ _ _); refine de_or ?_) | ((with_reducible show DE _ _ (Expr.UnaryOp UnaryOp.Not _ _) _ _ _); refine de_not ?_) | ((with_reducible show DE _ _ (Expr.UnaryOp _ _ _) _ _ _); refine de_un ?_) | ((with_reducible show DE _ _ (Expr.IfExp _ _ _ _) _ _ _); refine de_ifx ?_) | ((with_reducible show DE _ _ (Expr.Tuple _ _ _) _ _ _); walk_at "dtup") | ((with_reducible show DE _ _ (Expr.List _ _) _ _ _); walk_at "dlst") | ((with_reducible show DE _ _ (Expr.Dict [] [] _) _ _ _); refine de_dict0 ?_) | walk_at "dhook")
    | ((with_reducible show DA _ _ _ _ _ _); first | ((with_reducible show DA _ _ [] _ _ _); refine da_nil ?_) | ((with_reducible show DA _ _ (_ :: _) _ _ _); refine da_cons ?_))
    | ((with_reducible show BoolR _ _); refine ⟨_, rfl, ?_⟩)
    | ((with_reducible show (_ = true → _) ∧ (_ = false → _)); (refine ⟨fun h => ?_, fun h => ?_⟩ <;> try (exact Bool.noConfusion h)))
    | ((with_reducible show OpD _ _ _ _ _ _ _); first | ((with_reducible show OpD _ _ (binaryOp Operator.Add) _ _ _ _); first | refine op_addI ?_ | refine op_addT ?_) | ((with_reducible show OpD _ _ (binaryOp Operator.Sub) _ _ _ _); refine op_subI ?_) | ((with_reducible show OpD _ _ (binaryOp Operator.Mod) _ _ _ _); refine op_modI (by first | decide | assumption) ?_) | ((with_reducible show OpD _ _ (binaryOp Operator.Mult) _ _ _ _); refine op_mulI (by first | exact .inr (by decide) | exact .inl (by decide) | (exact .inl (by omega))) ?_) | ((with_reducible show OpD _ _ (binaryOp Operator.Pow) _ _ _ _); refine op_powI (by decide) (by decide) (by decide) ?_) | ((with_reducible show OpD _ _ (binaryOp Operator.FloorDiv) _ _ _ _); refine op_fdivI (by decide) (by decide) ?_) | ((with_reducible show OpD _ _ (compareOp CmpOp.Lt) _ _ _ _); refine op_ltI ?_) | ((with_reducible show OpD _ _ (compareOp CmpOp.LtE) _ _ _ _); first | refine op_leI ?_ | refine op_leS ?_) | ((with_reducible show OpD _ _ (compareOp CmpOp.Gt) _ _ _ _); refine op_gtI ?_) | ((with_reducible show OpD _ _ (compareOp CmpOp.GtE) _ _ _ _); refine op_geI ?_) | ((with_reducible show OpD _ _ (compareOp CmpOp.Eq) _ _ _ _); first | refine op_eqI ?_ | refine op_eqS ?_) | ((with_reducible show OpD _ _ (compareOp CmpOp.NotEq) _ _ _ _); first | refine op_neI ?_ | refine op_neS ?_))
    | ((with_reducible show CaD _ _ _ _ _ _); first | ((with_reducible show CaD _ _ (Value.builtin "isinstance") [_, SV.ty "int"] _ _); refine ca_isi (by assumption) (kit_int _ (by assumption)) ?_) | ((with_reducible show CaD _ _ (Value.builtin "isinstance") [_, SV.ty "bool"] _ _); refine ca_isi (by assumption) (kit_bool _ (by assumption)) ?_) | ((with_reducible show CaD _ _ (Value.builtin "isinstance") [_, SV.ty "str"] _ _); refine ca_isi (by assumption) (kit_str _ (by assumption)) ?_) | ((with_reducible show CaD _ _ (Value.builtin "isinstance") [_, SV.ty "tuple"] _ _); refine ca_isi (by assumption) (kit_tuple _ (by assumption)) ?_) | ((with_reducible show CaD _ _ (Value.builtin "isinstance") [_, SV.ty "list"] _ _); refine ca_isi (by assumption) (kit_list _ (by assumption)) ?_) | ((with_reducible show CaD _ _ (Value.builtin "isinstance") [_, SV.ty "dict"] _ _); refine ca_isi (by assumption) (kit_dict _ (by assumption)) ?_) | ((with_reducible show CaD _ _ (Value.builtin "max") _ _ _); refine ca_max2 rfl ?_) | ((with_reducible show CaD _ _ (Value.builtin "min") _ _ _); refine ca_min2 rfl ?_) | ((with_reducible show CaD _ _ (Value.builtin "len") _ _ _); first | refine ca_lenT ?_ | refine ca_lenS (by assumption) ?_ | refine ca_lenSc ?_ | refine ca_lenL (.inl rfl) ?_) | ((with_reducible show CaD _ _ (Value.type "list") _ _ _); refine ca_listT ?_) | ((with_reducible show CaD _ _ (Value.builtin "divmod") _ _ _); refine ca_divmod (by assumption) (by omega) ?_) | walk_at "dca")
    | ((with_reducible show DT _ _ _ _ _ _); first | ((with_reducible show DT _ _ (Expr.BoolOp _ _ _) _ _ _); refine dt_w ?_) | ((with_reducible show DT _ _ (Expr.UnaryOp UnaryOp.Not _ _) _ _ _); refine dt_not ?_) | ((with_reducible show DT _ _ (Expr.Compare _ [_] _ _) _ _ _); refine dt_cmp ?_) | ((with_reducible show DT _ _ (Expr.Compare _ [_, _] _ _) _ _ _); refine dt_chain ?_) | refine dt_val ?_)
    | ((with_reducible show DW _ _ _ _ _ _); first | ((with_reducible show DW _ _ (Expr.BoolOp BoolOp.And [_] _) _ _ _); refine dw_and1 ?_) | ((with_reducible show DW _ _ (Expr.BoolOp BoolOp.Or [_] _) _ _ _); refine dw_or1 ?_) | ((with_reducible show DW _ _ (Expr.BoolOp BoolOp.And _ _) _ _ _); refine dw_and ?_) | ((with_reducible show DW _ _ (Expr.BoolOp BoolOp.Or _ _) _ _ _); refine dw_or ?_))
    | ((with_reducible show DSs _ _ _ _ _ _); first | ((with_reducible show DSs _ _ [] _ _ _); refine dss_nil ?_) | ((with_reducible show DSs _ _ [_] _ _ _); refine dss_one ?_) | ((with_reducible show DSs _ _ (_ :: _) _ _ _); refine dss_cons ?_))
    | ((with_reducible show DS _ _ _ _ _ _); first | ((with_reducible show DS _ _ (Stmt.Return (some _) _) _ _ _); refine ds_ret ?_) | ((with_reducible show DS _ _ (Stmt.If _ _ _ _) _ _ _); refine ds_if ?_) | ((with_reducible show DS _ _ (Stmt.Expr _ _) _ _ _); refine ds_expr ?_) | ((with_reducible show DS _ _ (Stmt.Assign [Expr.Name _ _] _ _) _ _ _); walk_at "dset"))
    | ((with_reducible show DP _ _ none _ _ _); refine dp_none ?_)
    | ((with_reducible show DP _ _ (some _) _ _ _); refine dp_some ?_)
    | ((with_reducible show ∃ d, SV.dat _ = SV.dat d ∧ Fi d ∧ _); refine ⟨_, rfl, by assumption, ?_⟩)
    | ((with_reducible show ∃ i, SV.dat (Dt.int _) = SV.dat (Dt.int i) ∧ _); refine ⟨_, rfl, ?_⟩)
    | ((with_reducible show SlD _ _ (SV.dat (Dt.tup _)) _ _ _ _); refine sl_dT ?_)
    | ((with_reducible show ∃ ds, undat _ = some ds ∧ ds.length ≤ 1000 ∧ _); refine ⟨_, rfl, Nat.le_of_ble_eq_true rfl, ?_⟩)
    | ((with_reducible show ∃ q, SV.at _ = SV.at q ∧ _); refine ⟨_, rfl, ?_⟩)
    | ((with_reducible show ∃ z, SV.dat (Dt.str _) = SV.dat (Dt.str z) ∧ _); refine ⟨_, rfl, ?_⟩)
    | ((with_reducible show IxD _ _ (SV.at _) (SV.dat (Dt.int 0)) _ _); refine ix_pot0 (by assumption) (fun _ _ => ?_))
    | ((with_reducible show IxD _ _ (SV.at _) (SV.dat (Dt.int 1)) _ _); refine ix_pot1 (by assumption) (fun _ _ _ => ?_))
    | ((with_reducible show UnD _ _ (unaryOp UnaryOp.USub) _ _ _); refine un_negI ?_)
    | ((with_reducible show Po.nx _ _ _); dsimp only)
    | ((with_reducible show Po.rt _ _ _); dsimp only))
local macro_rules
  | `(tactic| walk_at "drun") => `(tactic| repeat' (walk_at "dstep"))

/-! ### what is caught -/
structure Ern2 (K : PySem.W.Frag) (mg : Str → Option Value) (E : Cl) : Prop where
  gF : mg "FacerError" = some (.ref E.fe)
  gB : mg "NoBook" = some (.ref E.nb)
  gC : mg "NoCount" = some (.ref E.nc)
  gH : mg "NoHeap" = some (.ref E.nh)
  gR : mg "NoRow" = some (.ref E.nr)
  gT : mg "NoText" = some (.ref E.nt)
  gW : mg "NoWeb" = some (.ref E.nw)
  gX : mg "NoWish" = some (.ref E.nx)
  kF : PySem.W.exmOne K (.ref E.nk) (.ref E.fe) = some true
  kI : IsC K E.nk
  kX : XfC K E.nk
  k0 : PySem.W.findIn K (.ref E.nk) "what" = some none
  k1 : PySem.W.findIn K (.ref E.nk) "who" = some none
  kk : PySem.W.kitOne K (.ref E.nk) (.ref E.nk) = some true
  kV : PySem.W.kitOne K (.ref E.nk) (.type "ValueError") = some true
  kN : PySem.W.kitAny K (.ref E.nk) (([E.nb, E.nc, E.nh, E.nr, E.nt, E.nw, E.nx] : List Addr).map Value.ref) = some false
  wF : PySem.W.exmOne K (.ref E.ki) (.ref E.fe) = some false
  wK : PySem.W.exmOne K (.ref E.ki) (.ref E.ki) = some true
  wI : IsC K E.ki
  wX : XfC K E.ki
  w0 : PySem.W.findIn K (.ref E.ki) "word" = some none
  wT : PySem.W.kitOne K (.ref E.ki) (.type "KeyError") = some true
def triedR (w : World) (E : Cl) (d r : Dt) : Prop := match dueD d with
  | some (x, y) => r = .tup [chD "no", .tup [x, y]]
  | none => ∃ l k, d = mixD w l ∧ TbOk l ∧ Kof k l ∧ r = .tup [chD "told", kD E k]
def spTried (w : World) (E : Cl) : Sp := PSp (ok1 (InOk w)) fun ds r => ∃ d, ds = [d] ∧ triedR w E d r
structure OwnK (P : Program) (w : World) (K : PySem.W.Frag) (mg : Str → Option Value) (base : Heap) (E : Cl) : Prop where
  ex : ∃ g fd ps, Mk K E.kc g ∧ FnX P w K mg base 4 g fd ps (spInit w E) ∧ Binds K fd ps []
section
variable {X : Cx} {w : Wd} {ρ : List SV} {μ : Mus} {R : SV → Mus → Prop} {pos : Pos}
theorem de_tVE (hm : X.mg "ValueError" = none) (h : R (.ty "ValueError") μ) (hg : Gl X "ValueError" := by rfl) : DE X w (.Name "ValueError" pos) ρ μ R := de_tyv hm (by decide +kernel) h hg
theorem de_tKE (hm : X.mg "KeyError" = none) (h : R (.ty "KeyError") μ) (hg : Gl X "KeyError" := by rfl) : DE X w (.Name "KeyError" pos) ρ μ R := de_tyv hm (by decide +kernel) h hg
end
section
variable {P : Program} {w : World} {K : PySem.W.Frag} {mg : Str → Option Value} {base : Heap}
abbrev sTried : Stmt := top 35
abbrev nTried : List Str := ["_law_table_here", "_law_told", "e", "_law_others"]
theorem scTried : FnScope nTried ["_law_table_here"] (defScope sTried) := ⟨rfl, rfl, rfl, by decide +kernel, rfl, by decide +kernel, by decide +kernel⟩
set_option hygiene false in
local macro_rules
  | `(tactic| walk_at "dset") => `(tactic| first | refine ds_set 1 hN ?_ | refine ds_set 3 hN ?_)
theorem ok_tried {E : Cl} {f : Addr} {fd : FuncData} (F : Fun K "_law_tried" "_law_tried" sTried f fd) (T : Txt mg) (Z : Kcx K mg E) (R : Ern P w K mg E) (R2 : Ern2 K mg E) (oK : OwnK P w K mg base E) : FnG P w K mg base 6 f fd ["_law_table_here"] (spTried w E) := by
  refine fn_pure F scTried (fun ds ⟨d, e, _⟩ => by rw [e]; rfl) fun cdv A outer s H hr hg w' ds μ ⟨d, e, hd⟩ => ?_
  subst e
  obtain ⟨t1, t2, t3, t4, t5, t6, t7, t8, t9, t10, t11, t12, t13, t14, t15, t16, t17, t18, t19, t20, t21⟩ := T
  have hN : nTried.Nodup := by decide +kernel
  obtain ⟨g, fdk, psk, mk, fk, bk⟩ := oK.ex
  refine dss_cons (ds_set 1 hN ?_)
  walk_at "drun"
  refine (ds_tryF (C := E.nk) (ns := ["what", "who"]) 2 (fun ds μ' => ∃ x y, ds = [x, y] ∧ dueD d = some (x, y) ∧ μ.Sub μ') hN ⟨rfl, by decide, .inl R2.gF⟩ R2.kF (fun w2 WW pn xe tk hW => ?_) (fun a dx oe pn ds μ' hz hf ⟨x, y, e, hx, hμ⟩ => ?_))
  · refine dss_one (ds_set 1 hN ?_)
    refine de_tup (da_cons (de_str (da_cons (de_makeF mk fk tk (hr.mono (by decide)) hg Z.g bk (da_cons (de_nm rfl (da_nil fun q hq => ⟨⟨q, d, rfl, put_same, hd⟩, fun r μ2 h => ?_, fun ds ν h σ B H dx S I er => ?_⟩)))))))
    · obtain ⟨q', l, k, e1, hdue, hok, hkof, rfl, rfl⟩ := h
      injection e1 with e1 e2
      injection e1 with e1
      subst e1
      injection e2 with e2
      injection e2 with e2
      subst e2
      refine ⟨rfl, _, _, μ, put_same, ?_, hq, ?_⟩
      · rw [put_twice]; exact sub_put hq
      · refine da_nil ⟨_, rfl, Nat.le_of_ble_eq_true rfl, ?_⟩
        walk_at "drun"
        refine ⟨_, rfl, ⟨_, rfl, ?_⟩, Mus.Sub.refl _⟩
        unfold triedR
        rw [due_mix, hdue]
        exact ⟨l, k, rfl, hok, hkof, rfl⟩
    · obtain ⟨q', d', x, y, e1, hdue, rfl, rfl⟩ := h
      injection e1 with e1 e2
      injection e2 with e2
      injection e2 with e2
      subst e2
      exact hW σ B H _ _ dx S I er ⟨x, y, rfl, hdue, sub_put hq⟩
  · subst e
    refine dss_cons (ds_set 3 hN (de_isinstance (da_cons (de_nm rfl (da_cons (de_tvs (da_cons (de_globC R2.gB (da_cons (de_globC R2.gC (da_cons (de_globC R2.gH (da_cons (de_globC R2.gR (da_cons (de_globC R2.gT (da_cons (de_globC R2.gW (da_cons (de_globC R2.gX (da_nil ⟨[E.nb, E.nc, E.nh, E.nr, E.nt, E.nw, E.nx], rfl, by simp, da_nil (ca_isXT R2.kI hz hf R2.kN ?_)⟩))))))))))))))))))) t1))
    walk_at "drun"
    refine de_globC R.nkg ?_
    walk_at "drun"
    refine ca_isX R2.kI hz hf (.inr ⟨_, rfl, rfl⟩) R2.kk ?_
    walk_at "drun"
    refine de_tVE t17 ?_
    walk_at "drun"
    refine ca_isX (cv := .type "ValueError") (b := true) R2.kI hz hf (.inl ⟨_, rfl, rfl⟩) R2.kV ?_
    walk_at "drun"
    refine de_xfld R2.kX R2.k0 hz hf (de_nm rfl ⟨rfl, rfl, ?_⟩)
    walk_at "drun"
    refine de_xfld R2.kX R2.k1 hz hf (de_nm rfl ⟨rfl, rfl, ?_⟩)
    walk_at "drun"
    refine ⟨_, rfl, ⟨_, rfl, ?_⟩, hμ⟩
    unfold triedR
    rw [hx]
    rfl
end
end K12

set_option Elab.async false
set_option linter.all false
set_option maxRecDepth 100000
set_option maxHeartbeats 4000000
namespace K12
open PySem PySem.Spec PyProof.Rows L2 Dat Er Mx
local macro_rules
  | `(tactic| walk_at "down") => `(tactic| fail "none")
local macro_rules
  | `(tactic| walk_at "dset") => `(tactic| fail "none")
local macro_rules
  | `(tactic| walk_at "dhook") => `(tactic| fail "none")
local macro_rules
  | `(tactic| walk_at "dca") => `(tactic| fail "none")
local macro_rules
  | `(tactic| walk_at "dlst") => `(tactic| refine de_lst ?_)
local macro_rules
  | `(tactic| walk_at "dtup") => `(tactic| refine de_tup ?_)
local macro_rules
  | `(tactic| walk_at "dstep") => `(tactic| first
    | ((with_reducible show DE _ _ _ _ _ _); first | ((with_reducible show DE _ _ (Expr.Name _ _) _ _ _); first | ((with_reducible show DE _ _ (Expr.Name "int" _) _ _ _); refine de_ty_int (by assumption) ?_) | ((with_reducible show DE _ _ (Expr.Name "str" _) _ _ _); refine de_ty_str (by assumption) ?_) | ((with_reducible show DE _ _ (Expr.Name "bool" _) _ _ _); refine de_ty_bool (by assumption) ?_) | ((with_reducible show DE _ _ (Expr.Name "tuple" _) _ _ _); refine de_ty_tuple (by assumption) ?_) | ((with_reducible show DE _ _ (Expr.Name "list" _) _ _ _); refine de_ty_list (by assumption) ?_) | ((with_reducible show DE _ _ (Expr.Name "dict" _) _ _ _); refine de_ty_dict (by assumption) ?_) | refine de_nm rfl ?_ | refine de_globI (by assumption) ?_) | ((with_reducible show DE _ _ (Expr.Constant _ _ _) _ _ _); first | refine de_int ?_ | refine de_str ?_ | refine de_bl ?_ | refine de_non ?_) | ((with_reducible show DE _ _ (Expr.Call (Expr.Name _ _) _ _ _) _ _ _); first | ((with_reducible show DE _ _ (Expr.Call (Expr.Name "isinstance" _) _ _ _) _ _ _); refine de_isinstance ?_ (by assumption)) | ((with_reducible show DE _ _ (Expr.Call (Expr.Name "len" _) _ _ _) _ _ _); refine de_len ?_ (by assumption)) | ((with_reducible show DE _ _ (Expr.Call (Expr.Name "max" _) _ _ _) _ _ _); refine de_max ?_ (by assumption)) | ((with_reducible show DE _ _ (Expr.Call (Expr.Name "min" _) _ _ _) _ _ _); refine de_min ?_ (by assumption)) | ((with_reducible show DE _ _ (Expr.Call (Expr.Name "all" _) _ _ _) _ _ _); refine de_all ?_ (by assumption)) | ((with_reducible show DE _ _ (Expr.Call (Expr.Name "repr" _) _ _ _) _ _ _); refine de_repr ?_ (by assumption)) | ((with_reducible show DE _ _ (Expr.Call (Expr.Name "divmod" _) _ _ _) _ _ _); refine de_divmod ?_ (by assumption)) | ((with_reducible show DE _ _ (Expr.Call (Expr.Name "list" _) _ _ _) _ _ _); refine de_clist ?_ (by assumption)) | ((with_reducible show DE _ _ (Expr.Call (Expr.Name "tuple" _) _ _ _) _ _ _); refine de_ctuple ?_ (by assumption)) | ((with_reducible show DE _ _ (Expr.Call (Expr.Name "int" _) _ _ _) _ _ _); refine de_cint ?_ (by assumption)) | ((with_reducible show DE _ _ (Expr.Call (Expr.Name "str" _) _ _ _) _ _ _); refine de_cstr ?_ (by assumption)) | walk_at "down") | ((with_reducible show DE _ _ (Expr.BinOp _ _ _ _) _ _ _); refine de_op ?_) | ((with_reducible show DE _ _ (Expr.Compare _ [_] _ _) _ _ _); refine de_cmp ?_) | ((with_reducible show DE _ _ (Expr.Compare _ [_, _] _ _) _ _ _); refine de_chain ?_) | ((with_reducible show DE _ _ (Expr.Subscript _ (Expr.Slice _ _ _ _) _) _ _ _); refine de_slice ?_) | ((with_reducible show DE _ _ (Expr.Subscript _ _ _) _ _ _); refine de_ix ?_) | ((with_reducible show DE _ _ (Expr.BoolOp _ [_] _) _ _ _); refine de_one ?_) | ((with_reducible show DE _ _ (Expr.BoolOp BoolOp.And _ _) _ _ _); refine de_and ?_) | ((with_reducible show DE _ _ (Expr.BoolOp BoolOp.Or _ _) _ _ _); refine de_or ?_) | ((with_reducible show DE _ _ (Expr.UnaryOp UnaryOp.Not _ _) _ _ _); refine de_not ?_) | ((with_reducible show DE _ _ (Expr.UnaryOp _ _ _) _ _ _); refine de_un ?_) | ((with_reducible show DE _ _ (Expr.IfExp _ _ _ _) _ _ _); refine de_ifx ?_) | ((with_reducible show DE _ _ (Expr.Tuple _ _ _) _ _ _); walk_at "dtup") | ((with_reducible show DE _ _ (Expr.List _ _) _ _ _); walk_at "dlst") | ((with_reducible show DE _ _ (Expr.Dict [] [] _) _ _ _); refine de_dict0 ?_) | walk_at "dhook")
    | ((with_reducible show DA _ _ _ _ _ _); first | ((with_reducible show DA _ _ [] _ _ _); refine da_nil ?_) | ((with_reducible show DA _ _ (_ :: _) _ _ _); refine da_cons ?_))
    | ((with_reducible show BoolR _ _); refine ⟨_, rfl, ?_⟩)
    | ((with_reducible show (_ = true → _) ∧ (_ = false → _)); (refine ⟨fun h => ?_, fun h => ?_⟩ <;> try (exact Bool.noConfusion h)))
    | ((with_reducible show OpD _ _ _ _ _ _ _); first | ((with_reducible show OpD _ _ (binaryOp Operator.Add) _ _ _ _); first | refine op_addI ?_ | refine op_addT ?_) | ((with_reducible show OpD _ _ (binaryOp Operator.Sub) _ _ _ _); refine op_subI ?_) | ((with_reducible show OpD _ _ (binaryOp Operator.Mod) _ _ _ _); refine op_modI (by first | decide | assumption) ?_) | ((with_reducible show OpD _ _ (binaryOp Operator.Mult) _ _ _ _); refine op_mulI (by first | exact .inr (by decide) | exact .inl (by decide) | (exact .inl (by omega))) ?_) | ((with_reducible show OpD _ _ (binaryOp Operator.Pow) _ _ _ _); refine op_powI (by decide) (by decide) (by decide) ?_) | ((with_reducible show OpD _ _ (binaryOp Operator.FloorDiv) _ _ _ _); refine op_fdivI (by decide) (by decide) ?_) | ((with_reducible show OpD _ _ (compareOp CmpOp.Lt) _ _ _ _); refine op_ltI ?_) | ((with_reducible show OpD _ _ (compareOp CmpOp.LtE) _ _ _ _); first | refine op_leI ?_ | refine op_leS ?_) | ((with_reducible show OpD _ _ (compareOp CmpOp.Gt) _ _ _ _); refine op_gtI ?_) | ((with_reducible show OpD _ _ (compareOp CmpOp.GtE) _ _ _ _); refine op_geI ?_) | ((with_reducible show OpD _ _ (compareOp CmpOp.Eq) _ _ _ _); first | refine op_eqI ?_ | refine op_eqS ?_) | ((with_reducible show OpD _ _ (compareOp CmpOp.NotEq) _ _ _ _); first | refine op_neI ?_ | refine op_neS ?_))
    | ((with_reducible show CaD _ _ _ _ _ _); first | ((with_reducible show CaD _ _ (Value.builtin "isinstance") [_, SV.ty "int"] _ _); refine ca_isi (by assumption) (kit_int _ (by assumption)) ?_) | ((with_reducible show CaD _ _ (Value.builtin "isinstance") [_, SV.ty "bool"] _ _); refine ca_isi (by assumption) (kit_bool _ (by assumption)) ?_) | ((with_reducible show CaD _ _ (Value.builtin "isinstance") [_, SV.ty "str"] _ _); refine ca_isi (by assumption) (kit_str _ (by assumption)) ?_) | ((with_reducible show CaD _ _ (Value.builtin "isinstance") [_, SV.ty "tuple"] _ _); refine ca_isi (by assumption) (kit_tuple _ (by assumption)) ?_) | ((with_reducible show CaD _ _ (Value.builtin "isinstance") [_, SV.ty "list"] _ _); refine ca_isi (by assumption) (kit_list _ (by assumption)) ?_) | ((with_reducible show CaD _ _ (Value.builtin "isinstance") [_, SV.ty "dict"] _ _); refine ca_isi (by assumption) (kit_dict _ (by assumption)) ?_) | ((with_reducible show CaD _ _ (Value.builtin "max") _ _ _); refine ca_max2 rfl ?_) | ((with_reducible show CaD _ _ (Value.builtin "min") _ _ _); refine ca_min2 rfl ?_) | ((with_reducible show CaD _ _ (Value.builtin "len") _ _ _); first | refine ca_lenT ?_ | refine ca_lenS (by assumption) ?_ | refine ca_lenSc ?_ | refine ca_lenL (.inl rfl) ?_) | ((with_reducible show CaD _ _ (Value.type "list") _ _ _); refine ca_listT ?_) | ((with_reducible show CaD _ _ (Value.builtin "divmod") _ _ _); refine ca_divmod (by assumption) (by omega) ?_) | walk_at "dca")
    | ((with_reducible show DT _ _ _ _ _ _); first | ((with_reducible show DT _ _ (Expr.BoolOp _ _ _) _ _ _); refine dt_w ?_) | ((with_reducible show DT _ _ (Expr.UnaryOp UnaryOp.Not _ _) _ _ _); refine dt_not ?_) | ((with_reducible show DT _ _ (Expr.Compare _ [_] _ _) _ _ _); refine dt_cmp ?_) | ((with_reducible show DT _ _ (Expr.Compare _ [_, _] _ _) _ _ _); refine dt_chain ?_) | refine dt_val ?_)
    | ((with_reducible show DW _ _ _ _ _ _); first | ((with_reducible show DW _ _ (Expr.BoolOp BoolOp.And [_] _) _ _ _); refine dw_and1 ?_) | ((with_reducible show DW _ _ (Expr.BoolOp BoolOp.Or [_] _) _ _ _); refine dw_or1 ?_) | ((with_reducible show DW _ _ (Expr.BoolOp BoolOp.And _ _) _ _ _); refine dw_and ?_) | ((with_reducible show DW _ _ (Expr.BoolOp BoolOp.Or _ _) _ _ _); refine dw_or ?_))
    | ((with_reducible show DSs _ _ _ _ _ _); first | ((with_reducible show DSs _ _ [] _ _ _); refine dss_nil ?_) | ((with_reducible show DSs _ _ [_] _ _ _); refine dss_one ?_) | ((with_reducible show DSs _ _ (_ :: _) _ _ _); refine dss_cons ?_))
    | ((with_reducible show DS _ _ _ _ _ _); first | ((with_reducible show DS _ _ (Stmt.Return (some _) _) _ _ _); refine ds_ret ?_) | ((with_reducible show DS _ _ (Stmt.If _ _ _ _) _ _ _); refine ds_if ?_) | ((with_reducible show DS _ _ (Stmt.Expr _ _) _ _ _); refine ds_expr ?_) | ((with_reducible show DS _ _ (Stmt.Assign [Expr.Name _ _] _ _) _ _ _); walk_at "dset"))
    | ((with_reducible show DP _ _ none _ _ _); refine dp_none ?_)
    | ((with_reducible show DP _ _ (some _) _ _ _); refine dp_some ?_)
    | ((with_reducible show ∃ d, SV.dat _ = SV.dat d ∧ Fi d ∧ _); refine ⟨_, rfl, by assumption, ?_⟩)
    | ((with_reducible show ∃ i, SV.dat (Dt.int _) = SV.dat (Dt.int i) ∧ _); refine ⟨_, rfl, ?_⟩)
    | ((with_reducible show SlD _ _ (SV.dat (Dt.tup _)) _ _ _ _); refine sl_dT ?_)
    | ((with_reducible show ∃ ds, undat _ = some ds ∧ ds.length ≤ 1000 ∧ _); refine ⟨_, rfl, Nat.le_of_ble_eq_true rfl, ?_⟩)
    | ((with_reducible show ∃ q, SV.at _ = SV.at q ∧ _); refine ⟨_, rfl, ?_⟩)
    | ((with_reducible show ∃ z, SV.dat (Dt.str _) = SV.dat (Dt.str z) ∧ _); refine ⟨_, rfl, ?_⟩)
    | ((with_reducible show IxD _ _ (SV.at _) (SV.dat (Dt.int 0)) _ _); refine ix_pot0 (by assumption) (fun _ _ => ?_))
    | ((with_reducible show IxD _ _ (SV.at _) (SV.dat (Dt.int 1)) _ _); refine ix_pot1 (by assumption) (fun _ _ _ => ?_))
    | ((with_reducible show UnD _ _ (unaryOp UnaryOp.USub) _ _ _); refine un_negI ?_)
    | ((with_reducible show Po.nx _ _ _); dsimp only)
    | ((with_reducible show Po.rt _ _ _); dsimp only))
local macro_rules
  | `(tactic| walk_at "drun") => `(tactic| repeat' (walk_at "dstep"))

/-! ### what is missing -/
def spMiss (E : Cl) : Sp := PSp (fun ds => ∃ k way t, ds = [kD E k, .int way, t] ∧ KOk k ∧ hasD (kD E k) t = false ∧ Fi t ∧ ShownL t) fun _ r => r = .bl true
section
variable {P : Program} {w : World} {K : PySem.W.Frag} {mg : Str → Option Value} {base : Heap}
abbrev sMiss : Stmt := top 36
abbrev nMiss : List Str := ["_law_kinds", "_law_way", "_law_thing", "_law_told", "e"]
theorem scMiss : FnScope nMiss ["_law_kinds", "_law_way", "_law_thing"] (defScope sMiss) := ⟨rfl, rfl, rfl, by decide +kernel, rfl, by decide +kernel, by decide +kernel⟩
set_option hygiene false in
local macro_rules
  | `(tactic| walk_at "dset") => `(tactic| refine ds_set 3 hN ?_)
theorem ok_miss {E : Cl} {f : Addr} {fd : FuncData} (F : Fun K "_law_missing" "_law_missing" sMiss f fd) (T : Txt mg) (Z : Kcx K mg E) (R : Ern P w K mg E) (R2 : Ern2 K mg E) (oLotM : OwnMX P w K mg base E.kc "lots" 3 (spLotM E)) (oHanM : OwnMX P w K mg base E.kc "hands" 4 (spHanM E)) : FnG P w K mg base 5 f fd ["_law_kinds", "_law_way", "_law_thing"] (spMiss E) := by
  refine fn_pure F scMiss (fun ds ⟨_, _, _, e, _⟩ => by rw [e]; rfl) fun cdv A outer s H hr hg w' ds μ ⟨k, way, t, e, ok, hh, ht, hs⟩ => ?_
  subst e
  obtain ⟨t1, t2, t3, t4, t5, t6, t7, t8, t9, t10, t11, t12, t13, t14, t15, t16, t17, t18, t19, t20, t21⟩ := T
  have hN : nMiss.Nodup := by decide +kernel
  obtain ⟨gl, fdl, psl, ml, fl, bl⟩ := oLotM.ex
  obtain ⟨gh, fdh, psh, mh, fh, bh⟩ := oHanM.ex
  refine dss_cons (ds_set 3 hN ?_)
  walk_at "drun"
  refine (ds_tryTwo (C := E.ki) (ns := ["word"]) 4 (fun ds μ' => ds = [t] ∧ μ' = μ) hN ⟨rfl, by decide, .inl R2.gF⟩ ⟨rfl, by decide, .inl R.kig⟩ R2.wF R2.wK (fun w2 WW pn xe tk hW => ?_) (fun a dx oe pn ds μ' hz hf ⟨e, hμ⟩ => ?_))
  · refine dss_one (ds_set 3 hN (de_ifx ?_))
    walk_at "drun"
    · refine de_methF Z.isi.cls mh fh tk (hr.mono (by decide)) hg bh (de_nm rfl ⟨_, _, rfl, by decide, da_cons (de_nm rfl (da_nil ⟨⟨_, _, rfl, ⟨k, rfl, ok⟩, ht⟩, fun r μ2 h => ?_, fun ds ν h σ B H dx S I er => ?_⟩))⟩)
      · obtain ⟨d', t', e1, h1, rfl, rfl⟩ := h
        cases e1
        rw [hh] at h1; cases h1
      · obtain ⟨d', t', e1, h1, rfl, rfl⟩ := h
        cases e1
        exact hW σ B H _ _ dx S I er ⟨rfl, rfl⟩
    · refine de_methF Z.isi.cls ml fl tk (hr.mono (by decide)) hg bl (de_nm rfl ⟨_, _, rfl, by decide, da_cons (de_nm rfl (da_nil ⟨⟨_, _, rfl, ⟨k, rfl, ok⟩, ht⟩, fun r μ2 h => ?_, fun ds ν h σ B H dx S I er => ?_⟩))⟩)
      · obtain ⟨d', t', e1, h1, rfl, rfl⟩ := h
        cases e1
        rw [hh] at h1; cases h1
      · obtain ⟨d', t', e1, h1, rfl, rfl⟩ := h
        cases e1
        exact hW σ B H _ _ dx S I er ⟨rfl, rfl⟩
  · subst e hμ
    refine dss_one (ds_set 3 hN ?_)
    walk_at "drun"
    refine de_tKE t18 ?_
    walk_at "drun"
    refine ca_isX (cv := .type "KeyError") (b := true) R2.wI hz hf (.inl ⟨_, rfl, rfl⟩) R2.wT ?_
    walk_at "drun"
    refine de_xfld R2.wX R2.w0 hz hf (de_nm rfl ⟨rfl, rfl, ?_⟩)
    walk_at "drun"
    refine ca_reprU (Nat.lt_of_le_of_lt (Nat.add_le_add_right (Nat.le_add_right _ _) _) hr.un) hg hs ?_
    walk_at "drun"
    refine ca_reprG hr hg hs ?_
    walk_at "drun"
    refine op_eqFlat hr (.inl rfl) (.inl rfl) (fun d hd => ?_) ⟨_, rfl, rfl, Mus.Sub.refl _⟩
    simp only [List.mem_cons, List.not_mem_nil, or_false] at hd
    rcases hd with rfl | rfl <;> rfl
end
end K12

set_option Elab.async false
set_option linter.all false
set_option maxRecDepth 100000
set_option maxHeartbeats 4000000
namespace K12
open PySem PySem.Spec PyProof.Rows L2 Dat Er Mx
local macro_rules
  | `(tactic| walk_at "down") => `(tactic| fail "none")
local macro_rules
  | `(tactic| walk_at "dset") => `(tactic| fail "none")
local macro_rules
  | `(tactic| walk_at "dhook") => `(tactic| fail "none")
local macro_rules
  | `(tactic| walk_at "dca") => `(tactic| fail "none")
local macro_rules
  | `(tactic| walk_at "dlst") => `(tactic| refine de_lst ?_)
local macro_rules
  | `(tactic| walk_at "dtup") => `(tactic| refine de_tup ?_)
local macro_rules
  | `(tactic| walk_at "dstep") => `(tactic| first
    | ((with_reducible show DE _ _ _ _ _ _); first | ((with_reducible show DE _ _ (Expr.Name _ _) _ _ _); first | ((with_reducible show DE _ _ (Expr.Name "int" _) _ _ _); refine de_ty_int (by assumption) ?_) | ((with_reducible show DE _ _ (Expr.Name "str" _) _ _ _); refine de_ty_str (by assumption) ?_) | ((with_reducible show DE _ _ (Expr.Name "bool" _) _ _ _); refine de_ty_bool (by assumption) ?_) | ((with_reducible show DE _ _ (Expr.Name "tuple" _) _ _ _); refine de_ty_tuple (by assumption) ?_) | ((with_reducible show DE _ _ (Expr.Name "list" _) _ _ _); refine de_ty_list (by assumption) ?_) | ((with_reducible show DE _ _ (Expr.Name "dict" _) _ _ _); refine de_ty_dict (by assumption) ?_) | refine de_nm rfl ?_ | refine de_globI (by assumption) ?_) | ((with_reducible show DE _ _ (Expr.Constant _ _ _) _ _ _); first | refine de_int ?_ | refine de_str ?_ | refine de_bl ?_ | refine de_non ?_) | ((with_reducible show DE _ _ (Expr.Call (Expr.Name _ _) _ _ _) _ _ _); first | ((with_reducible show DE _ _ (Expr.Call (Expr.Name "isinstance" _) _ _ _) _ _ _); refine de_isinstance ?_ (by assumption)) | ((with_reducible show DE _ _ (Expr.Call (Expr.Name "len" _) _ _ _) _ _ _); refine de_len ?_ (by assumption)) | ((with_reducible show DE _ _ (Expr.Call (Expr.Name "max" _) _ _ _) _ _ _); refine de_max ?_ (by assumption)) | ((with_reducible show DE _ _ (Expr.Call (Expr.Name "min" _) _ _ _) _ _ _); refine de_min ?_ (by assumption)) | ((with_reducible show DE _ _ (Expr.Call (Expr.Name "all" _) _ _ _) _ _ _); refine de_all ?_ (by assumption)) | ((with_reducible show DE _ _ (Expr.Call (Expr.Name "repr" _) _ _ _) _ _ _); refine de_repr ?_ (by assumption)) | ((with_reducible show DE _ _ (Expr.Call (Expr.Name "divmod" _) _ _ _) _ _ _); refine de_divmod ?_ (by assumption)) | ((with_reducible show DE _ _ (Expr.Call (Expr.Name "list" _) _ _ _) _ _ _); refine de_clist ?_ (by assumption)) | ((with_reducible show DE _ _ (Expr.Call (Expr.Name "tuple" _) _ _ _) _ _ _); refine de_ctuple ?_ (by assumption)) | ((with_reducible show DE _ _ (Expr.Call (Expr.Name "int" _) _ _ _) _ _ _); refine de_cint ?_ (by assumption)) | ((with_reducible show DE _ _ (Expr.Call (Expr.Name "str" _) _ _ _) _ _ _); refine de_cstr ?_ (by assumption)) | walk_at "down") | ((with_reducible show DE _ _ (Expr.BinOp _ _ _ _) _ _ _); refine de_op ?_) | ((with_reducible show DE _ _ (Expr.Compare _ [_] _ _) _ _ _); refine de_cmp ?_) | ((with_reducible show DE _ _ (Expr.Compare _ [_, _] _ _) _ _ _); refine de_chain ?_) | ((with_reducible show DE _ _ (Expr.Subscript _ (Expr.Slice _ _ _ _) _) _ _ _); refine de_slice ?_) | ((with_reducible show DE _ _ (Expr.Subscript _ _ _) _ _ _); refine de_ix ?_) | ((with_reducible show DE _ _ (Expr.BoolOp _ [_] _) _ _ _); refine de_one ?_) | ((with_reducible show DE _ _ (Expr.BoolOp BoolOp.And _ _) _ _ _); refine de_and ?_) | ((with_reducible show DE _ _ (Expr.BoolOp BoolOp.Or _ _) _ _ _); refine de_or ?_) | ((with_reducible show DE _ _ (Expr.UnaryOp UnaryOp.Not _ _) _ _ _); refine de_not ?_) | ((with_reducible show DE _ _ (Expr.UnaryOp _ _ _) _ _ _); refine de_un ?_) | ((with_reducible show DE _ _ (Expr.IfExp _ _ _ _) _ _ _); refine de_ifx ?_) | ((with_reducible show DE _ _ (Expr.Tuple _ _ _) _ _ _); walk_at "dtup") | ((with_reducible show DE _ _ (Expr.List _ _) _ _ _); walk_at "dlst") | ((with_reducible show DE _ _ (Expr.Dict [] [] _) _ _ _); refine de_dict0 ?_) | walk_at "dhook")
    | ((with_reducible show DA _ _ _ _ _ _); first | ((with_reducible show DA _ _ [] _ _ _); refine da_nil ?_) | ((with_reducible show DA _ _ (_ :: _) _ _ _); refine da_cons ?_))
    | ((with_reducible show BoolR _ _); refine ⟨_, rfl, ?_⟩)
    | ((with_reducible show (_ = true → _) ∧ (_ = false → _)); (refine ⟨fun h => ?_, fun h => ?_⟩ <;> try (exact Bool.noConfusion h)))
    | ((with_reducible show OpD _ _ _ _ _ _ _); first | ((with_reducible show OpD _ _ (binaryOp Operator.Add) _ _ _ _); first | refine op_addI ?_ | refine op_addT ?_) | ((with_reducible show OpD _ _ (binaryOp Operator.Sub) _ _ _ _); refine op_subI ?_) | ((with_reducible show OpD _ _ (binaryOp Operator.Mod) _ _ _ _); refine op_modI (by first | decide | assumption) ?_) | ((with_reducible show OpD _ _ (binaryOp Operator.Mult) _ _ _ _); refine op_mulI (by first | exact .inr (by decide) | exact .inl (by decide) | (exact .inl (by omega))) ?_) | ((with_reducible show OpD _ _ (binaryOp Operator.Pow) _ _ _ _); refine op_powI (by decide) (by decide) (by decide) ?_) | ((with_reducible show OpD _ _ (binaryOp Operator.FloorDiv) _ _ _ _); refine op_fdivI (by decide) (by decide) ?_) | ((with_reducible show OpD _ _ (compareOp CmpOp.Lt) _ _ _ _); refine op_ltI ?_) | ((with_reducible show OpD _ _ (compareOp CmpOp.LtE) _ _ _ _); first | refine op_leI ?_ | refine op_leS ?_) | ((with_reducible show OpD _ _ (compareOp CmpOp.Gt) _ _ _ _); refine op_gtI ?_) | ((with_reducible show OpD _ _ (compareOp CmpOp.GtE) _ _ _ _); refine op_geI ?_) | ((with_reducible show OpD _ _ (compareOp CmpOp.Eq) _ _ _ _); first | refine op_eqI ?_ | refine op_eqS ?_) | ((with_reducible show OpD _ _ (compareOp CmpOp.NotEq) _ _ _ _); first | refine op_neI ?_ | refine op_neS ?_))
    | ((with_reducible show CaD _ _ _ _ _ _); first | ((with_reducible show CaD _ _ (Value.builtin "isinstance") [_, SV.ty "int"] _ _); refine ca_isi (by assumption) (kit_int _ (by assumption)) ?_) | ((with_reducible show CaD _ _ (Value.builtin "isinstance") [_, SV.ty "bool"] _ _); refine ca_isi (by assumption) (kit_bool _ (by assumption)) ?_) | ((with_reducible show CaD _ _ (Value.builtin "isinstance") [_, SV.ty "str"] _ _); refine ca_isi (by assumption) (kit_str _ (by assumption)) ?_) | ((with_reducible show CaD _ _ (Value.builtin "isinstance") [_, SV.ty "tuple"] _ _); refine ca_isi (by assumption) (kit_tuple _ (by assumption)) ?_) | ((with_reducible show CaD _ _ (Value.builtin "isinstance") [_, SV.ty "list"] _ _); refine ca_isi (by assumption) (kit_list _ (by assumption)) ?_) | ((with_reducible show CaD _ _ (Value.builtin "isinstance") [_, SV.ty "dict"] _ _); refine ca_isi (by assumption) (kit_dict _ (by assumption)) ?_) | ((with_reducible show CaD _ _ (Value.builtin "max") _ _ _); refine ca_max2 rfl ?_) | ((with_reducible show CaD _ _ (Value.builtin "min") _ _ _); refine ca_min2 rfl ?_) | ((with_reducible show CaD _ _ (Value.builtin "len") _ _ _); first | refine ca_lenT ?_ | refine ca_lenS (by assumption) ?_ | refine ca_lenSc ?_ | refine ca_lenL (.inl rfl) ?_) | ((with_reducible show CaD _ _ (Value.type "list") _ _ _); refine ca_listT ?_) | ((with_reducible show CaD _ _ (Value.builtin "divmod") _ _ _); refine ca_divmod (by assumption) (by omega) ?_) | walk_at "dca")
    | ((with_reducible show DT _ _ _ _ _ _); first | ((with_reducible show DT _ _ (Expr.BoolOp _ _ _) _ _ _); refine dt_w ?_) | ((with_reducible show DT _ _ (Expr.UnaryOp UnaryOp.Not _ _) _ _ _); refine dt_not ?_) | ((with_reducible show DT _ _ (Expr.Compare _ [_] _ _) _ _ _); refine dt_cmp ?_) | ((with_reducible show DT _ _ (Expr.Compare _ [_, _] _ _) _ _ _); refine dt_chain ?_) | refine dt_val ?_)
    | ((with_reducible show DW _ _ _ _ _ _); first | ((with_reducible show DW _ _ (Expr.BoolOp BoolOp.And [_] _) _ _ _); refine dw_and1 ?_) | ((with_reducible show DW _ _ (Expr.BoolOp BoolOp.Or [_] _) _ _ _); refine dw_or1 ?_) | ((with_reducible show DW _ _ (Expr.BoolOp BoolOp.And _ _) _ _ _); refine dw_and ?_) | ((with_reducible show DW _ _ (Expr.BoolOp BoolOp.Or _ _) _ _ _); refine dw_or ?_))
    | ((with_reducible show DSs _ _ _ _ _ _); first | ((with_reducible show DSs _ _ [] _ _ _); refine dss_nil ?_) | ((with_reducible show DSs _ _ [_] _ _ _); refine dss_one ?_) | ((with_reducible show DSs _ _ (_ :: _) _ _ _); refine dss_cons ?_))
    | ((with_reducible show DS _ _ _ _ _ _); first | ((with_reducible show DS _ _ (Stmt.Return (some _) _) _ _ _); refine ds_ret ?_) | ((with_reducible show DS _ _ (Stmt.If _ _ _ _) _ _ _); refine ds_if ?_) | ((with_reducible show DS _ _ (Stmt.Expr _ _) _ _ _); refine ds_expr ?_) | ((with_reducible show DS _ _ (Stmt.Assign [Expr.Name _ _] _ _) _ _ _); walk_at "dset"))
    | ((with_reducible show DP _ _ none _ _ _); refine dp_none ?_)
    | ((with_reducible show DP _ _ (some _) _ _ _); refine dp_some ?_)
    | ((with_reducible show ∃ d, SV.dat _ = SV.dat d ∧ Fi d ∧ _); refine ⟨_, rfl, by assumption, ?_⟩)
    | ((with_reducible show ∃ i, SV.dat (Dt.int _) = SV.dat (Dt.int i) ∧ _); refine ⟨_, rfl, ?_⟩)
    | ((with_reducible show SlD _ _ (SV.dat (Dt.tup _)) _ _ _ _); refine sl_dT ?_)
    | ((with_reducible show ∃ ds, undat _ = some ds ∧ ds.length ≤ 1000 ∧ _); refine ⟨_, rfl, Nat.le_of_ble_eq_true rfl, ?_⟩)
    | ((with_reducible show ∃ q, SV.at _ = SV.at q ∧ _); refine ⟨_, rfl, ?_⟩)
    | ((with_reducible show ∃ z, SV.dat (Dt.str _) = SV.dat (Dt.str z) ∧ _); refine ⟨_, rfl, ?_⟩)
    | ((with_reducible show IxD _ _ (SV.at _) (SV.dat (Dt.int 0)) _ _); refine ix_pot0 (by assumption) (fun _ _ => ?_))
    | ((with_reducible show IxD _ _ (SV.at _) (SV.dat (Dt.int 1)) _ _); refine ix_pot1 (by assumption) (fun _ _ _ => ?_))
    | ((with_reducible show UnD _ _ (unaryOp UnaryOp.USub) _ _ _); refine un_negI ?_)
    | ((with_reducible show Po.nx _ _ _); dsimp only)
    | ((with_reducible show Po.rt _ _ _); dsimp only))
local macro_rules
  | `(tactic| walk_at "drun") => `(tactic| repeat' (walk_at "dstep"))

/-! ### words that rise -/
def leS (a b : Str) : Prop := a.cps.toList ≤ b.cps.toList
theorem leS_anti {a b : Str} (h1 : leS a b) (h2 : leS b a) : a = b := by
  have e : a.cps.toList = b.cps.toList := List.le_antisymm h1 h2
  have e2 : a.cps = b.cps := Array.toList_inj.mp e
  cases a; cases b
  cases e2
  rfl
theorem rising_pw : ∀ (l : List Str) (p : Str), risingS p l = true → (p :: l).Pairwise leS
  | [], p, _ => List.pairwise_cons.mpr ⟨nofun, .nil⟩
  | x :: r, p, h => by
    unfold risingS at h
    rw [Bool.and_eq_true] at h
    have ih := rising_pw r x h.2
    have px : leS p x := by
      have h1 := h.1
      rw [ltCps_eq] at h1
      have : ¬ x.cps.toList < p.cps.toList := by simpa using h1
      exact List.not_lt.mp this
    refine List.pairwise_cons.mpr ⟨fun y hy => ?_, ih⟩
    rcases List.mem_cons.mp hy with e | e
    · rw [e]; exact px
    · exact List.le_trans px ((List.pairwise_cons.mp ih).1 y e)
theorem sorted_pw : ∀ {l : List Str}, sortedS l = true → l.Pairwise leS
  | [], _ => .nil
  | x :: r, h => rising_pw r x h
theorem sorted_uniq {l m : List Str} (p : l.Perm m) (h1 : sortedS l = true) (h2 : sortedS m = true) : l = m :=
  List.Perm.eq_of_pairwise (fun _ _ _ _ a b => leS_anti a b) (sorted_pw h1) (sorted_pw h2) p
theorem join_eq (sep : Str) (l : List Str) : Txt.join sep l = Str.join sep l := eq_of_beq (join_plain_closes sep l)
/-! ### the text that is due -/
def rowK (k : Kx) (y : Str) : Str := reprText y ++ ": " ++ (toPy (k.f y)).shown
theorem repr_due (E : Cl) (k : Kx) : reprD (kD E k) = ("Kinds({" : Str) ++ Txt.join ", " (k.ys.map (rowK k)) ++ "})" := by
  unfold reprD kD kTab dicT
  rw [toPy, PyData.shown, toPyA_map, toPyA_map, zip_kv, join_eq]
  have e : (((k.ys.map Dt.str).map toPy).zip ((k.ys.map k.f).map toPy)).map (fun kv => (kv.1.shown ++ ((": " : String) : Str) ++ kv.2.shown : Str)) = k.ys.map (rowK k) := by
    induction k.ys with
    | nil => rfl
    | cons y ys ih =>
      rw [List.map_cons, List.map_cons, List.map_cons, List.map_cons, List.zip_cons_cons, List.map_cons, ih, List.map_cons]
      congr 1
  rw [e]
  unfold dictText
  have a1 : (Str.empty ++ "Kinds(" : Str) ++ ("{" : Str) = ("Kinds({" : Str) := by decide +kernel
  have a2 : ("}" : Str) ++ (")" : Str) = ("})" : Str) := by decide +kernel
  rw [← a1, ← a2]
  simp only [Str.append_assoc]
/-! ### words told, to be changed -/
def spWordsM (E : Cl) : Sp := GSp (fun rs _ => ∃ k, rs = [.dat (kD E k)] ∧ KOk k) fun rs μ r μ' => ∀ k, rs = [.dat (kD E k)] → ∃ q, μ q = none ∧ r = .at q ∧ μ' = μ.put q (.lst (k.ys.map .str))
section
variable {P : Program} {w : World} {K : PySem.W.Frag} {mg : Str → Option Value} {base : Heap}
theorem ok_wordsM {E : Cl} {f : Addr} {fd : FuncData} (F : Fun K "words" "Kinds.words" sWords f fd) (T : Txt mg) (Z : Kcx K mg E) : FnG P w K mg base 1 f fd ["self"] (spWordsM E) := by
  refine fn_ok F scWords (fun rs μ ⟨k, e, _⟩ => by rw [e]; rfl) fun cdv A outer s H hr hg w' rs μ ⟨k, e, ok⟩ => ?_
  subst e
  obtain ⟨t1, t2, t3, t4, t5, t6, t7, t8, t9, t10, t11, t12, t13, t14, t15, t16, t17, t18, t19, t20, t21⟩ := T
  refine dss_one ?_
  walk_at "drun"
  refine de_fld (de_nm rfl ⟨_, _, _, _, rfl, Z.isi.cls, Z.na, rfl, ?_⟩)
  walk_at "drun"
  refine ca_listDicM rfl fun q h1 h2 => ?_
  refine ⟨_, Mus.Sub.refl _, fun k' e => ⟨q, h1, rfl, ?_⟩⟩
  have e2 : k.ys.map Dt.str = k'.ys.map Dt.str := by
    have h3 : kD E k = kD E k' := by injection e with e1; injection e1
    have := congrArg kS h3
    rw [kS_k, kS_k] at this
    rw [this]
  rw [← e2]
end
end K12

set_option Elab.async false
set_option linter.all false
set_option maxRecDepth 100000
set_option maxHeartbeats 4000000
namespace K12
open PySem PySem.Spec PyProof.Rows L2 Dat Er Mx
local macro_rules
  | `(tactic| walk_at "down") => `(tactic| fail "none")
local macro_rules
  | `(tactic| walk_at "dset") => `(tactic| fail "none")
local macro_rules
  | `(tactic| walk_at "dhook") => `(tactic| fail "none")
local macro_rules
  | `(tactic| walk_at "dca") => `(tactic| fail "none")
local macro_rules
  | `(tactic| walk_at "dlst") => `(tactic| refine de_lst ?_)
local macro_rules
  | `(tactic| walk_at "dtup") => `(tactic| refine de_tup ?_)
local macro_rules
  | `(tactic| walk_at "dstep") => `(tactic| first
    | ((with_reducible show DE _ _ _ _ _ _); first | ((with_reducible show DE _ _ (Expr.Name _ _) _ _ _); first | ((with_reducible show DE _ _ (Expr.Name "int" _) _ _ _); refine de_ty_int (by assumption) ?_) | ((with_reducible show DE _ _ (Expr.Name "str" _) _ _ _); refine de_ty_str (by assumption) ?_) | ((with_reducible show DE _ _ (Expr.Name "bool" _) _ _ _); refine de_ty_bool (by assumption) ?_) | ((with_reducible show DE _ _ (Expr.Name "tuple" _) _ _ _); refine de_ty_tuple (by assumption) ?_) | ((with_reducible show DE _ _ (Expr.Name "list" _) _ _ _); refine de_ty_list (by assumption) ?_) | ((with_reducible show DE _ _ (Expr.Name "dict" _) _ _ _); refine de_ty_dict (by assumption) ?_) | refine de_nm rfl ?_ | refine de_globI (by assumption) ?_) | ((with_reducible show DE _ _ (Expr.Constant _ _ _) _ _ _); first | refine de_int ?_ | refine de_str ?_ | refine de_bl ?_ | refine de_non ?_) | ((with_reducible show DE _ _ (Expr.Call (Expr.Name _ _) _ _ _) _ _ _); first | ((with_reducible show DE _ _ (Expr.Call (Expr.Name "isinstance" _) _ _ _) _ _ _); refine de_isinstance ?_ (by assumption)) | ((with_reducible show DE _ _ (Expr.Call (Expr.Name "len" _) _ _ _) _ _ _); refine de_len ?_ (by assumption)) | ((with_reducible show DE _ _ (Expr.Call (Expr.Name "max" _) _ _ _) _ _ _); refine de_max ?_ (by assumption)) | ((with_reducible show DE _ _ (Expr.Call (Expr.Name "min" _) _ _ _) _ _ _); refine de_min ?_ (by assumption)) | ((with_reducible show DE _ _ (Expr.Call (Expr.Name "all" _) _ _ _) _ _ _); refine de_all ?_ (by assumption)) | ((with_reducible show DE _ _ (Expr.Call (Expr.Name "repr" _) _ _ _) _ _ _); refine de_repr ?_ (by assumption)) | ((with_reducible show DE _ _ (Expr.Call (Expr.Name "divmod" _) _ _ _) _ _ _); refine de_divmod ?_ (by assumption)) | ((with_reducible show DE _ _ (Expr.Call (Expr.Name "list" _) _ _ _) _ _ _); refine de_clist ?_ (by assumption)) | ((with_reducible show DE _ _ (Expr.Call (Expr.Name "tuple" _) _ _ _) _ _ _); refine de_ctuple ?_ (by assumption)) | ((with_reducible show DE _ _ (Expr.Call (Expr.Name "int" _) _ _ _) _ _ _); refine de_cint ?_ (by assumption)) | ((with_reducible show DE _ _ (Expr.Call (Expr.Name "str" _) _ _ _) _ _ _); refine de_cstr ?_ (by assumption)) | walk_at "down") | ((with_reducible show DE _ _ (Expr.BinOp _ _ _ _) _ _ _); refine de_op ?_) | ((with_reducible show DE _ _ (Expr.Compare _ [_] _ _) _ _ _); refine de_cmp ?_) | ((with_reducible show DE _ _ (Expr.Compare _ [_, _] _ _) _ _ _); refine de_chain ?_) | ((with_reducible show DE _ _ (Expr.Subscript _ (Expr.Slice _ _ _ _) _) _ _ _); refine de_slice ?_) | ((with_reducible show DE _ _ (Expr.Subscript _ _ _) _ _ _); refine de_ix ?_) | ((with_reducible show DE _ _ (Expr.BoolOp _ [_] _) _ _ _); refine de_one ?_) | ((with_reducible show DE _ _ (Expr.BoolOp BoolOp.And _ _) _ _ _); refine de_and ?_) | ((with_reducible show DE _ _ (Expr.BoolOp BoolOp.Or _ _) _ _ _); refine de_or ?_) | ((with_reducible show DE _ _ (Expr.UnaryOp UnaryOp.Not _ _) _ _ _); refine de_not ?_) | ((with_reducible show DE _ _ (Expr.UnaryOp _ _ _) _ _ _); refine de_un ?_) | ((with_reducible show DE _ _ (Expr.IfExp _ _ _ _) _ _ _); refine de_ifx ?_) | ((with_reducible show DE _ _ (Expr.Tuple _ _ _) _ _ _); walk_at "dtup") | ((with_reducible show DE _ _ (Expr.List _ _) _ _ _); walk_at "dlst") | ((with_reducible show DE _ _ (Expr.Dict [] [] _) _ _ _); refine de_dict0 ?_) | walk_at "dhook")
    | ((with_reducible show DA _ _ _ _ _ _); first | ((with_reducible show DA _ _ [] _ _ _); refine da_nil ?_) | ((with_reducible show DA _ _ (_ :: _) _ _ _); refine da_cons ?_))
    | ((with_reducible show BoolR _ _); refine ⟨_, rfl, ?_⟩)
    | ((with_reducible show (_ = true → _) ∧ (_ = false → _)); (refine ⟨fun h => ?_, fun h => ?_⟩ <;> try (exact Bool.noConfusion h)))
    | ((with_reducible show OpD _ _ _ _ _ _ _); first | ((with_reducible show OpD _ _ (binaryOp Operator.Add) _ _ _ _); first | refine op_addI ?_ | refine op_addT ?_) | ((with_reducible show OpD _ _ (binaryOp Operator.Sub) _ _ _ _); refine op_subI ?_) | ((with_reducible show OpD _ _ (binaryOp Operator.Mod) _ _ _ _); refine op_modI (by first | decide | assumption) ?_) | ((with_reducible show OpD _ _ (binaryOp Operator.Mult) _ _ _ _); refine op_mulI (by first | exact .inr (by decide) | exact .inl (by decide) | (exact .inl (by omega))) ?_) | ((with_reducible show OpD _ _ (binaryOp Operator.Pow) _ _ _ _); refine op_powI (by decide) (by decide) (by decide) ?_) | ((with_reducible show OpD _ _ (binaryOp Operator.FloorDiv) _ _ _ _); refine op_fdivI (by decide) (by decide) ?_) | ((with_reducible show OpD _ _ (compareOp CmpOp.Lt) _ _ _ _); refine op_ltI ?_) | ((with_reducible show OpD _ _ (compareOp CmpOp.LtE) _ _ _ _); first | refine op_leI ?_ | refine op_leS ?_) | ((with_reducible show OpD _ _ (compareOp CmpOp.Gt) _ _ _ _); refine op_gtI ?_) | ((with_reducible show OpD _ _ (compareOp CmpOp.GtE) _ _ _ _); refine op_geI ?_) | ((with_reducible show OpD _ _ (compareOp CmpOp.Eq) _ _ _ _); first | refine op_eqI ?_ | refine op_eqS ?_) | ((with_reducible show OpD _ _ (compareOp CmpOp.NotEq) _ _ _ _); first | refine op_neI ?_ | refine op_neS ?_))
    | ((with_reducible show CaD _ _ _ _ _ _); first | ((with_reducible show CaD _ _ (Value.builtin "isinstance") [_, SV.ty "int"] _ _); refine ca_isi (by assumption) (kit_int _ (by assumption)) ?_) | ((with_reducible show CaD _ _ (Value.builtin "isinstance") [_, SV.ty "bool"] _ _); refine ca_isi (by assumption) (kit_bool _ (by assumption)) ?_) | ((with_reducible show CaD _ _ (Value.builtin "isinstance") [_, SV.ty "str"] _ _); refine ca_isi (by assumption) (kit_str _ (by assumption)) ?_) | ((with_reducible show CaD _ _ (Value.builtin "isinstance") [_, SV.ty "tuple"] _ _); refine ca_isi (by assumption) (kit_tuple _ (by assumption)) ?_) | ((with_reducible show CaD _ _ (Value.builtin "isinstance") [_, SV.ty "list"] _ _); refine ca_isi (by assumption) (kit_list _ (by assumption)) ?_) | ((with_reducible show CaD _ _ (Value.builtin "isinstance") [_, SV.ty "dict"] _ _); refine ca_isi (by assumption) (kit_dict _ (by assumption)) ?_) | ((with_reducible show CaD _ _ (Value.builtin "max") _ _ _); refine ca_max2 rfl ?_) | ((with_reducible show CaD _ _ (Value.builtin "min") _ _ _); refine ca_min2 rfl ?_) | ((with_reducible show CaD _ _ (Value.builtin "len") _ _ _); first | refine ca_lenT ?_ | refine ca_lenS (by assumption) ?_ | refine ca_lenSc ?_ | refine ca_lenL (.inl rfl) ?_) | ((with_reducible show CaD _ _ (Value.type "list") _ _ _); refine ca_listT ?_) | ((with_reducible show CaD _ _ (Value.builtin "divmod") _ _ _); refine ca_divmod (by assumption) (by omega) ?_) | walk_at "dca")
    | ((with_reducible show DT _ _ _ _ _ _); first | ((with_reducible show DT _ _ (Expr.BoolOp _ _ _) _ _ _); refine dt_w ?_) | ((with_reducible show DT _ _ (Expr.UnaryOp UnaryOp.Not _ _) _ _ _); refine dt_not ?_) | ((with_reducible show DT _ _ (Expr.Compare _ [_] _ _) _ _ _); refine dt_cmp ?_) | ((with_reducible show DT _ _ (Expr.Compare _ [_, _] _ _) _ _ _); refine dt_chain ?_) | refine dt_val ?_)
    | ((with_reducible show DW _ _ _ _ _ _); first | ((with_reducible show DW _ _ (Expr.BoolOp BoolOp.And [_] _) _ _ _); refine dw_and1 ?_) | ((with_reducible show DW _ _ (Expr.BoolOp BoolOp.Or [_] _) _ _ _); refine dw_or1 ?_) | ((with_reducible show DW _ _ (Expr.BoolOp BoolOp.And _ _) _ _ _); refine dw_and ?_) | ((with_reducible show DW _ _ (Expr.BoolOp BoolOp.Or _ _) _ _ _); refine dw_or ?_))
    | ((with_reducible show DSs _ _ _ _ _ _); first | ((with_reducible show DSs _ _ [] _ _ _); refine dss_nil ?_) | ((with_reducible show DSs _ _ [_] _ _ _); refine dss_one ?_) | ((with_reducible show DSs _ _ (_ :: _) _ _ _); refine dss_cons ?_))
    | ((with_reducible show DS _ _ _ _ _ _); first | ((with_reducible show DS _ _ (Stmt.Return (some _) _) _ _ _); refine ds_ret ?_) | ((with_reducible show DS _ _ (Stmt.If _ _ _ _) _ _ _); refine ds_if ?_) | ((with_reducible show DS _ _ (Stmt.Expr _ _) _ _ _); refine ds_expr ?_) | ((with_reducible show DS _ _ (Stmt.Assign [Expr.Name _ _] _ _) _ _ _); walk_at "dset"))
    | ((with_reducible show DP _ _ none _ _ _); refine dp_none ?_)
    | ((with_reducible show DP _ _ (some _) _ _ _); refine dp_some ?_)
    | ((with_reducible show ∃ d, SV.dat _ = SV.dat d ∧ Fi d ∧ _); refine ⟨_, rfl, by assumption, ?_⟩)
    | ((with_reducible show ∃ i, SV.dat (Dt.int _) = SV.dat (Dt.int i) ∧ _); refine ⟨_, rfl, ?_⟩)
    | ((with_reducible show SlD _ _ (SV.dat (Dt.tup _)) _ _ _ _); refine sl_dT ?_)
    | ((with_reducible show ∃ ds, undat _ = some ds ∧ ds.length ≤ 1000 ∧ _); refine ⟨_, rfl, Nat.le_of_ble_eq_true rfl, ?_⟩)
    | ((with_reducible show ∃ q, SV.at _ = SV.at q ∧ _); refine ⟨_, rfl, ?_⟩)
    | ((with_reducible show ∃ z, SV.dat (Dt.str _) = SV.dat (Dt.str z) ∧ _); refine ⟨_, rfl, ?_⟩)
    | ((with_reducible show IxD _ _ (SV.at _) (SV.dat (Dt.int 0)) _ _); refine ix_pot0 (by assumption) (fun _ _ => ?_))
    | ((with_reducible show IxD _ _ (SV.at _) (SV.dat (Dt.int 1)) _ _); refine ix_pot1 (by assumption) (fun _ _ _ => ?_))
    | ((with_reducible show UnD _ _ (unaryOp UnaryOp.USub) _ _ _); refine un_negI ?_)
    | ((with_reducible show Po.nx _ _ _); dsimp only)
    | ((with_reducible show Po.rt _ _ _); dsimp only))
local macro_rules
  | `(tactic| walk_at "drun") => `(tactic| repeat' (walk_at "dstep"))

/-! ### what Kinds tell -/
def spTells (w : World) (E : Cl) : Sp := QSp (fun ds => ∃ k l, ds = [kD E k, mixD w l] ∧ dueT l = none ∧ TbOk l ∧ Kof k l) fun _ r => r = .bl true
structure Thg (d : Dt) : Prop where
  fi : Fi d
  sh : ShownL d
  dp : (toPy d).depth ≤ 60
  nd : noDic d = true ∨ ∃ a b, d = .dic a b
theorem Thg.of {d : Dt} (h : fine 64 30 2 d) (h2 : noDic d = true ∨ ∃ a b, d = .dic a b) : Thg d := ⟨⟨2, h⟩, shown_fine (by decide) h, Nat.le_trans (fine_rest 2 d h).2.1 (by decide), h2⟩
theorem Thg.odd {d : Dt} (h : Odd d) : Thg d := by
  refine .of h.1 ?_
  have := h.2.2.1
  rw [Bool.or_eq_true] at this
  rcases this with h | h
  · exact .inl h
  · refine .inr ?_
    cases d <;> first | exact ⟨_, _, rfl⟩ | (simp [isDic] at h)
theorem op_notInT {X : Cx} {w : Wd} {μ : Mus} {R : SV → Mus → Prop} {r : SV} {d : Dt} {zs : List Str} {k : Nat} (hr : Room k X.A) (h1 : LsQ r μ (zs.map Dt.str)) (ht : Thg d) (h : R (.dat (.bl (!(isStr d && decide (txt d ∈ zs))))) μ) : OpD X w (compareOp .NotIn) (.dat d) r μ R := by
  cases e : isStr d with
  | false => exact op_notInOdd hr h1 e ht.sh.plain ht.nd ht.dp (by rw [e] at h; exact h)
  | true =>
    obtain ⟨x, rfl⟩ : ∃ x, d = .str x := by cases d <;> first | exact ⟨_, rfl⟩ | (simp [isStr] at e)
    exact op_notInL h1 (by rw [e] at h; exact h)
theorem has_no (E : Cl) (k : Kx) {d : Dt} (h : (!(isStr d && decide (txt d ∈ k.ys))) = true) : hasD (kD E k) d = false := by
  unfold hasD
  rw [kS_k]
  cases d <;> first | rfl | skip
  rename_i x
  have h' : (!decide (x ∈ k.ys)) = true := h
  have h2 : decide (x ∈ k.ys) = false := by simpa using h'
  show (nameD (.str x) && decide (x ∈ k.ys)) = false
  rw [h2, Bool.and_false]
theorem sum_le {α : Type} (f : α → Nat) (B : Nat) : ∀ l : List α, (∀ a ∈ l, f a ≤ B) → (l.map f).sum ≤ l.length * B
  | [], _ => by simp
  | a :: l, h => by
    have ih := sum_le f B l fun b hb => h b (List.mem_cons_of_mem _ hb)
    have := h a List.mem_cons_self
    rw [List.map_cons, List.sum_cons, List.length_cons, Nat.add_mul]
    omega
theorem name_le {y : Str} (h : nameD (.str y) = true) : (toPy (.str y)).shown.length ≤ 296 ∧ ShownL (.str y) := by
  have f := name_fine h 0
  exact ⟨Nat.le_trans (fine_len 0 _ f) (by decide), shown_fine (by decide) f⟩
theorem lots_le {d : Dt} (h : lotsD d = true) : (toPy d).shown.length ≤ 11403 ∧ ShownL d := by
  have f := (lots_fine h).1
  exact ⟨Nat.le_trans (fine_len 1 _ f) (by decide), shown_fine (by decide) f⟩
theorem row_le {k : Kx} (ok : KOk k) : ∀ y ∈ k.ys, (rowK k y).length ≤ 12000 := fun y hy => by
  have a := (name_le (ok.nm y hy)).1
  have b := (lots_le (ok.lo y hy)).1
  unfold rowK
  rw [strLen_append, strLen_append]
  have e : ((": " : String) : Str).length = 2 := rfl
  have e2 : (toPy (.str y)).shown = reprText y := rfl
  rw [e2] at a
  omega
theorem strs_same {zs : List Str} (h : ∀ z ∈ zs, PyData.strOk z = true) : noDic (.lst (zs.map Dt.str)) = true ∧ SeqAt.shaped (toPy (.lst (zs.map Dt.str))) = true ∧ PyData.eqv (toPy (.lst (zs.map Dt.str))) (toPy (.lst (zs.map Dt.str))) = true := by
  refine ⟨noDic_strs zs h, shaped_strs zs h, SeqAt.eqv_refl_plain _ ?_⟩
  rw [toPy]
  exact (plain_strs zs).2.1
theorem name_ok {y : Str} (h : nameD (.str y) = true) : PyData.strOk y = true := by
  unfold nameD at h
  rw [Bool.and_eq_true, Bool.and_eq_true, List.all_eq_true] at h
  unfold PyData.strOk
  rw [← Array.all_toList, List.all_eq_true]
  intro c hc
  have := h.2 c hc
  unfold low at this
  rw [Bool.and_eq_true, decide_eq_true_eq, decide_eq_true_eq] at this
  exact decide_eq_true (by omega)
set_option hygiene false in
local macro_rules
  | `(tactic| walk_at "down") => `(tactic| first | ((with_reducible show DE _ _ (Expr.Call (Expr.Name "_law_odd" _) _ _ _) _ _ _); refine de_q0 oOdd hr (by decide) hg ?_))
section
variable {P : Program} {w : World} {K : PySem.W.Frag} {mg : Str → Option Value} {base : Heap}
abbrev sTells : Stmt := top 37
abbrev nTells : List Str := ["_law_pot_here", "_law_kinds", "_law_table_here", "_law_words", "_law_due_text", "_law_word", "_law_thing", "_law_held", "_law_way"]
theorem scTells : FnScope nTells ["_law_pot_here", "_law_kinds", "_law_table_here"] (defScope sTells) := ⟨rfl, rfl, rfl, by decide +kernel, rfl, by decide +kernel, by decide +kernel⟩
theorem tells_rest {E : Cl} {f : Addr} {cdv : Value} {A : Around} {outer : List Env} {s : Shared} {H : Hp} {w' : Wd} {p : Addr} {k : Kx} {l : Tbl} {μ : Mus} (oOdd : Own P w K mg base "_law_odd" 2 spOdd) (hr : Room 5 (bx P w K mg base nTells "_law_tells" sTells f cdv A outer s H).A) (hg : (bx P w K mg base nTells "_law_tells" sTells f cdv A outer s H).A.guards = some []) (T : Txt mg) (hp : μ p = some .pot) (ok : KOk k) (Z : Kcx K mg E) (oMiss : Own P w K mg base "_law_missing" 5 (spMiss E)) (oHas : OwnM P w K mg base E.kc "has" 2 (spHas E)) (oWord : OwnM P w K mg base E.kc "words" 1 (spWords E)) (oWordM : OwnM P w K mg base E.kc "words" 1 (spWordsM E)) (a : SV) :
    DSs (bx P w K mg base nTells "_law_tells" sTells f cdv A outer s H) w' ((defBody sTells).drop 4) [.at p, .dat (kD E k), .dat (mixD w l), .dat (.lst (k.ys.map .str)), .dat (.str (reprD (kD E k))), a, .no, .no, .no] μ { nx := fun _ _ => False, rt := fun r μ' => ∃ d, r = SV.dat d ∧ d = .bl true ∧ μ.Sub μ' } := by
  obtain ⟨t1, t2, t3, t4, t5, t6, t7, t8, t9, t10, t11, t12, t13, t14, t15, t16, t17, t18, t19, t20, t21⟩ := T
  have hN : nTells.Nodup := by decide +kernel
  obtain ⟨gw, fdw, psw, mw, fw, bw⟩ := oWord.ex
  obtain ⟨gwm, fdwm, pswm, mwm, fwm, bwm⟩ := oWordM.ex
  obtain ⟨gh, fdh, psh, mh, fh, bh⟩ := oHas.ex
  obtain ⟨nd1, sh1, ev1⟩ := strs_same (zs := k.ys) fun y hy => name_ok (ok.nm y hy)
  have isk : IsK E (kD E k) := ⟨k, rfl, ok⟩
  have klen := ok.len
  refine dss_cons (ds_for (di_lst ?_) PassesOwn.never rfl)
  walk_at "drun"
  refine ⟨hp, fun o ho => ?_⟩
  walk_at "drun"
  have thg : ∀ d ∈ [o, .str "", .str "X", .lst [.str "a"], .dic [] [], .non], Thg d := fun d hd => by
    simp only [List.mem_cons, List.not_mem_nil, or_false] at hd
    rcases hd with rfl | rfl | rfl | rfl | rfl | rfl
    · exact .odd ho
    · exact .of (fine_of 2 _ (by decide +kernel)) (.inl rfl)
    · exact .of (fine_of 2 _ (by decide +kernel)) (.inl rfl)
    · exact .of (fine_of 2 _ (by decide +kernel)) (.inl rfl)
    · exact .of (fine_of 2 _ (by decide +kernel)) (.inr ⟨_, _, rfl⟩)
    · exact .of (fine_of 2 _ (by decide +kernel)) (.inl rfl)
  refine ⟨_, rfl, fun n ρ' μ' => μ = μ' ∧ ∃ b, ρ' = [.at p, .dat (kD E k), .dat (mixD w l), .dat (.lst (k.ys.map .str)), .dat (.str (reprD (kD E k))), a, b, .no, .no], ⟨rfl, _, rfl⟩, ?_, ?_⟩
  · rintro n d ρ' μ' hi ⟨rfl, b, rfl⟩
    have td := thg d (List.mem_of_getElem? hi)
    refine dg_name 6 hN (dss_one ?_)
    walk_at "drun"
    refine op_notInT hr (.inl rfl) td ?_
    walk_at "drun"
    · rename_i z
      have hn := has_no E k z
      refine de_meth Z.isi.cls mh fh (hr.mono (by decide)) hg bh (de_nm rfl ⟨_, _, rfl, by decide, da_cons (de_nm rfl (da_nil ⟨⟨[kD E k, d], rfl, _, _, rfl, isk, td.fi⟩, fun r μ3 h => ?_⟩))⟩)
      obtain ⟨d2, rfl, ⟨d', t', e1, rfl⟩, hμ⟩ := h [kD E k, d] rfl
      cases e1
      have hμ := hμ.symm
      subst hμ
      rw [hn]
      walk_at "drun"
      refine op_isnB ?_
      walk_at "drun"
      refine de_lc 8 rfl hN (blkOk_by (N := nTells) (sc := defScope sTells) (by decide +kernel)) ?_
      refine di_range1 ?_ t12
      walk_at "drun"
      refine ⟨_, rfl, by decide, by decide, ?_⟩
      refine lc_map (fun _ => .bl true) (by decide) ?_ ?_
      · intro c hc w2 kb
        obtain ⟨i, hi', rfl⟩ : ∃ i : Int, c = .int i := by
          unfold upto at hc
          obtain ⟨i, _, e⟩ := List.mem_map.mp hc
          exact ⟨_, e.symm⟩
        refine de_pure oMiss hr (by decide) hg (da_cons (de_nm rfl (da_cons (de_nm rfl (da_cons (de_nm rfl (da_nil ⟨[kD E k, .int i, d], rfl, ⟨k, i, d, rfl, ok, hn, td.fi, td.sh⟩, fun d2 e => ⟨by rw [e], rfl⟩⟩)))))))
      walk_at "drun"
      refine ca_all rfl (bs := [true, true]) (.inl rfl) ?_
      walk_at "drun"
      exact ⟨rfl, _, rfl⟩
    · exact ⟨rfl, _, rfl⟩
  · rintro ρ' μ' ⟨rfl, b, rfl⟩
    refine dss_cons (ds_set 7 hN (de_meth0 Z.isi.cls mwm fwm (hr.mono (by decide)) hg bwm (de_nm rfl ⟨_, _, rfl, by decide, ⟨k, rfl, ok⟩, fun r μ3 h => ?_⟩)))
    obtain ⟨q, hq, rfl, rfl⟩ := h k rfl
    walk_at "drun"
    refine de_bm (T := "list") (id := "list.append") (de_nm rfl ⟨ty_lst (.inr ⟨q, rfl, put_same⟩), ?_⟩) PySem.F.plainAttrs_list PySem.F.slot_list_append PySem.F.type_list_append
    walk_at "drun"
    refine mt_appendM put_same (by rw [List.length_map]; omega) ?_
    rw [put_twice]
    walk_at "drun"
    refine de_meth0 Z.isi.cls mw fw (hr.mono (by decide)) hg bw (de_nm rfl ⟨_, _, rfl, by decide, ⟨[kD E k], rfl, _, rfl, isk⟩, fun r μ3 h => ?_⟩)
    obtain ⟨d, rfl, ⟨d', e1, rfl⟩, rfl⟩ := h [kD E k] rfl
    cases e1
    dsimp only
    rw [kS_k]
    walk_at "drun"
    refine op_eqLs hr (.inl rfl) (.inl rfl) nd1 nd1 sh1 sh1 ?_
    rw [ev1]
    walk_at "drun"
    have e3 : k.ys.map Dt.str ++ [.str "X"] = (k.ys ++ [("X" : Str)]).map Dt.str := by rw [List.map_append]; rfl
    refine op_addL (.inl rfl) (.inl rfl) (small_ok (by rw [List.length_map]; simp; omega)) ?_
    rw [e3]
    obtain ⟨nd2, sh2, ev2⟩ := strs_same (zs := k.ys ++ [("X" : Str)]) fun y hy => by
      rcases List.mem_append.mp hy with h | h
      · exact name_ok (ok.nm y h)
      · rw [List.mem_singleton] at h; rw [h]; decide +kernel
    refine op_eqLs hr (.inr ⟨q, rfl, put_same⟩) (.inl rfl) nd2 nd2 sh2 sh2 ?_
    rw [ev2]
    exact ⟨_, rfl, rfl, sub_put hq⟩
end
end K12

set_option Elab.async false
set_option linter.all false
set_option maxRecDepth 100000
set_option maxHeartbeats 4000000
namespace K12
open PySem PySem.Spec PyProof.Rows L2 Dat Er Mx
local macro_rules
  | `(tactic| walk_at "down") => `(tactic| fail "none")
local macro_rules
  | `(tactic| walk_at "dset") => `(tactic| fail "none")
local macro_rules
  | `(tactic| walk_at "dhook") => `(tactic| fail "none")
local macro_rules
  | `(tactic| walk_at "dca") => `(tactic| fail "none")
local macro_rules
  | `(tactic| walk_at "dlst") => `(tactic| refine de_lst ?_)
local macro_rules
  | `(tactic| walk_at "dtup") => `(tactic| refine de_tup ?_)
local macro_rules
  | `(tactic| walk_at "dstep") => `(tactic| first
    | ((with_reducible show DE _ _ _ _ _ _); first | ((with_reducible show DE _ _ (Expr.Name _ _) _ _ _); first | ((with_reducible show DE _ _ (Expr.Name "int" _) _ _ _); refine de_ty_int (by assumption) ?_) | ((with_reducible show DE _ _ (Expr.Name "str" _) _ _ _); refine de_ty_str (by assumption) ?_) | ((with_reducible show DE _ _ (Expr.Name "bool" _) _ _ _); refine de_ty_bool (by assumption) ?_) | ((with_reducible show DE _ _ (Expr.Name "tuple" _) _ _ _); refine de_ty_tuple (by assumption) ?_) | ((with_reducible show DE _ _ (Expr.Name "list" _) _ _ _); refine de_ty_list (by assumption) ?_) | ((with_reducible show DE _ _ (Expr.Name "dict" _) _ _ _); refine de_ty_dict (by assumption) ?_) | refine de_nm rfl ?_ | refine de_globI (by assumption) ?_) | ((with_reducible show DE _ _ (Expr.Constant _ _ _) _ _ _); first | refine de_int ?_ | refine de_str ?_ | refine de_bl ?_ | refine de_non ?_) | ((with_reducible show DE _ _ (Expr.Call (Expr.Name _ _) _ _ _) _ _ _); first | ((with_reducible show DE _ _ (Expr.Call (Expr.Name "isinstance" _) _ _ _) _ _ _); refine de_isinstance ?_ (by assumption)) | ((with_reducible show DE _ _ (Expr.Call (Expr.Name "len" _) _ _ _) _ _ _); refine de_len ?_ (by assumption)) | ((with_reducible show DE _ _ (Expr.Call (Expr.Name "max" _) _ _ _) _ _ _); refine de_max ?_ (by assumption)) | ((with_reducible show DE _ _ (Expr.Call (Expr.Name "min" _) _ _ _) _ _ _); refine de_min ?_ (by assumption)) | ((with_reducible show DE _ _ (Expr.Call (Expr.Name "all" _) _ _ _) _ _ _); refine de_all ?_ (by assumption)) | ((with_reducible show DE _ _ (Expr.Call (Expr.Name "repr" _) _ _ _) _ _ _); refine de_repr ?_ (by assumption)) | ((with_reducible show DE _ _ (Expr.Call (Expr.Name "divmod" _) _ _ _) _ _ _); refine de_divmod ?_ (by assumption)) | ((with_reducible show DE _ _ (Expr.Call (Expr.Name "list" _) _ _ _) _ _ _); refine de_clist ?_ (by assumption)) | ((with_reducible show DE _ _ (Expr.Call (Expr.Name "tuple" _) _ _ _) _ _ _); refine de_ctuple ?_ (by assumption)) | ((with_reducible show DE _ _ (Expr.Call (Expr.Name "int" _) _ _ _) _ _ _); refine de_cint ?_ (by assumption)) | ((with_reducible show DE _ _ (Expr.Call (Expr.Name "str" _) _ _ _) _ _ _); refine de_cstr ?_ (by assumption)) | walk_at "down") | ((with_reducible show DE _ _ (Expr.BinOp _ _ _ _) _ _ _); refine de_op ?_) | ((with_reducible show DE _ _ (Expr.Compare _ [_] _ _) _ _ _); refine de_cmp ?_) | ((with_reducible show DE _ _ (Expr.Compare _ [_, _] _ _) _ _ _); refine de_chain ?_) | ((with_reducible show DE _ _ (Expr.Subscript _ (Expr.Slice _ _ _ _) _) _ _ _); refine de_slice ?_) | ((with_reducible show DE _ _ (Expr.Subscript _ _ _) _ _ _); refine de_ix ?_) | ((with_reducible show DE _ _ (Expr.BoolOp _ [_] _) _ _ _); refine de_one ?_) | ((with_reducible show DE _ _ (Expr.BoolOp BoolOp.And _ _) _ _ _); refine de_and ?_) | ((with_reducible show DE _ _ (Expr.BoolOp BoolOp.Or _ _) _ _ _); refine de_or ?_) | ((with_reducible show DE _ _ (Expr.UnaryOp UnaryOp.Not _ _) _ _ _); refine de_not ?_) | ((with_reducible show DE _ _ (Expr.UnaryOp _ _ _) _ _ _); refine de_un ?_) | ((with_reducible show DE _ _ (Expr.IfExp _ _ _ _) _ _ _); refine de_ifx ?_) | ((with_reducible show DE _ _ (Expr.Tuple _ _ _) _ _ _); walk_at "dtup") | ((with_reducible show DE _ _ (Expr.List _ _) _ _ _); walk_at "dlst") | ((with_reducible show DE _ _ (Expr.Dict [] [] _) _ _ _); refine de_dict0 ?_) | walk_at "dhook")
    | ((with_reducible show DA _ _ _ _ _ _); first | ((with_reducible show DA _ _ [] _ _ _); refine da_nil ?_) | ((with_reducible show DA _ _ (_ :: _) _ _ _); refine da_cons ?_))
    | ((with_reducible show BoolR _ _); refine ⟨_, rfl, ?_⟩)
    | ((with_reducible show (_ = true → _) ∧ (_ = false → _)); (refine ⟨fun h => ?_, fun h => ?_⟩ <;> try (exact Bool.noConfusion h)))
    | ((with_reducible show OpD _ _ _ _ _ _ _); first | ((with_reducible show OpD _ _ (binaryOp Operator.Add) _ _ _ _); first | refine op_addI ?_ | refine op_addT ?_) | ((with_reducible show OpD _ _ (binaryOp Operator.Sub) _ _ _ _); refine op_subI ?_) | ((with_reducible show OpD _ _ (binaryOp Operator.Mod) _ _ _ _); refine op_modI (by first | decide | assumption) ?_) | ((with_reducible show OpD _ _ (binaryOp Operator.Mult) _ _ _ _); refine op_mulI (by first | exact .inr (by decide) | exact .inl (by decide) | (exact .inl (by omega))) ?_) | ((with_reducible show OpD _ _ (binaryOp Operator.Pow) _ _ _ _); refine op_powI (by decide) (by decide) (by decide) ?_) | ((with_reducible show OpD _ _ (binaryOp Operator.FloorDiv) _ _ _ _); refine op_fdivI (by decide) (by decide) ?_) | ((with_reducible show OpD _ _ (compareOp CmpOp.Lt) _ _ _ _); refine op_ltI ?_) | ((with_reducible show OpD _ _ (compareOp CmpOp.LtE) _ _ _ _); first | refine op_leI ?_ | refine op_leS ?_) | ((with_reducible show OpD _ _ (compareOp CmpOp.Gt) _ _ _ _); refine op_gtI ?_) | ((with_reducible show OpD _ _ (compareOp CmpOp.GtE) _ _ _ _); refine op_geI ?_) | ((with_reducible show OpD _ _ (compareOp CmpOp.Eq) _ _ _ _); first | refine op_eqI ?_ | refine op_eqS ?_) | ((with_reducible show OpD _ _ (compareOp CmpOp.NotEq) _ _ _ _); first | refine op_neI ?_ | refine op_neS ?_))
    | ((with_reducible show CaD _ _ _ _ _ _); first | ((with_reducible show CaD _ _ (Value.builtin "isinstance") [_, SV.ty "int"] _ _); refine ca_isi (by assumption) (kit_int _ (by assumption)) ?_) | ((with_reducible show CaD _ _ (Value.builtin "isinstance") [_, SV.ty "bool"] _ _); refine ca_isi (by assumption) (kit_bool _ (by assumption)) ?_) | ((with_reducible show CaD _ _ (Value.builtin "isinstance") [_, SV.ty "str"] _ _); refine ca_isi (by assumption) (kit_str _ (by assumption)) ?_) | ((with_reducible show CaD _ _ (Value.builtin "isinstance") [_, SV.ty "tuple"] _ _); refine ca_isi (by assumption) (kit_tuple _ (by assumption)) ?_) | ((with_reducible show CaD _ _ (Value.builtin "isinstance") [_, SV.ty "list"] _ _); refine ca_isi (by assumption) (kit_list _ (by assumption)) ?_) | ((with_reducible show CaD _ _ (Value.builtin "isinstance") [_, SV.ty "dict"] _ _); refine ca_isi (by assumption) (kit_dict _ (by assumption)) ?_) | ((with_reducible show CaD _ _ (Value.builtin "max") _ _ _); refine ca_max2 rfl ?_) | ((with_reducible show CaD _ _ (Value.builtin "min") _ _ _); refine ca_min2 rfl ?_) | ((with_reducible show CaD _ _ (Value.builtin "len") _ _ _); first | refine ca_lenT ?_ | refine ca_lenS (by assumption) ?_ | refine ca_lenSc ?_ | refine ca_lenL (.inl rfl) ?_) | ((with_reducible show CaD _ _ (Value.type "list") _ _ _); refine ca_listT ?_) | ((with_reducible show CaD _ _ (Value.builtin "divmod") _ _ _); refine ca_divmod (by assumption) (by omega) ?_) | walk_at "dca")
    | ((with_reducible show DT _ _ _ _ _ _); first | ((with_reducible show DT _ _ (Expr.BoolOp _ _ _) _ _ _); refine dt_w ?_) | ((with_reducible show DT _ _ (Expr.UnaryOp UnaryOp.Not _ _) _ _ _); refine dt_not ?_) | ((with_reducible show DT _ _ (Expr.Compare _ [_] _ _) _ _ _); refine dt_cmp ?_) | ((with_reducible show DT _ _ (Expr.Compare _ [_, _] _ _) _ _ _); refine dt_chain ?_) | refine dt_val ?_)
    | ((with_reducible show DW _ _ _ _ _ _); first | ((with_reducible show DW _ _ (Expr.BoolOp BoolOp.And [_] _) _ _ _); refine dw_and1 ?_) | ((with_reducible show DW _ _ (Expr.BoolOp BoolOp.Or [_] _) _ _ _); refine dw_or1 ?_) | ((with_reducible show DW _ _ (Expr.BoolOp BoolOp.And _ _) _ _ _); refine dw_and ?_) | ((with_reducible show DW _ _ (Expr.BoolOp BoolOp.Or _ _) _ _ _); refine dw_or ?_))
    | ((with_reducible show DSs _ _ _ _ _ _); first | ((with_reducible show DSs _ _ [] _ _ _); refine dss_nil ?_) | ((with_reducible show DSs _ _ [_] _ _ _); refine dss_one ?_) | ((with_reducible show DSs _ _ (_ :: _) _ _ _); refine dss_cons ?_))
    | ((with_reducible show DS _ _ _ _ _ _); first | ((with_reducible show DS _ _ (Stmt.Return (some _) _) _ _ _); refine ds_ret ?_) | ((with_reducible show DS _ _ (Stmt.If _ _ _ _) _ _ _); refine ds_if ?_) | ((with_reducible show DS _ _ (Stmt.Expr _ _) _ _ _); refine ds_expr ?_) | ((with_reducible show DS _ _ (Stmt.Assign [Expr.Name _ _] _ _) _ _ _); walk_at "dset"))
    | ((with_reducible show DP _ _ none _ _ _); refine dp_none ?_)
    | ((with_reducible show DP _ _ (some _) _ _ _); refine dp_some ?_)
    | ((with_reducible show ∃ d, SV.dat _ = SV.dat d ∧ Fi d ∧ _); refine ⟨_, rfl, by assumption, ?_⟩)
    | ((with_reducible show ∃ i, SV.dat (Dt.int _) = SV.dat (Dt.int i) ∧ _); refine ⟨_, rfl, ?_⟩)
    | ((with_reducible show SlD _ _ (SV.dat (Dt.tup _)) _ _ _ _); refine sl_dT ?_)
    | ((with_reducible show ∃ ds, undat _ = some ds ∧ ds.length ≤ 1000 ∧ _); refine ⟨_, rfl, Nat.le_of_ble_eq_true rfl, ?_⟩)
    | ((with_reducible show ∃ q, SV.at _ = SV.at q ∧ _); refine ⟨_, rfl, ?_⟩)
    | ((with_reducible show ∃ z, SV.dat (Dt.str _) = SV.dat (Dt.str z) ∧ _); refine ⟨_, rfl, ?_⟩)
    | ((with_reducible show IxD _ _ (SV.at _) (SV.dat (Dt.int 0)) _ _); refine ix_pot0 (by assumption) (fun _ _ => ?_))
    | ((with_reducible show IxD _ _ (SV.at _) (SV.dat (Dt.int 1)) _ _); refine ix_pot1 (by assumption) (fun _ _ _ => ?_))
    | ((with_reducible show UnD _ _ (unaryOp UnaryOp.USub) _ _ _); refine un_negI ?_)
    | ((with_reducible show Po.nx _ _ _); dsimp only)
    | ((with_reducible show Po.rt _ _ _); dsimp only))
local macro_rules
  | `(tactic| walk_at "drun") => `(tactic| repeat' (walk_at "dstep"))

section
variable {P : Program} {w : World} {K : PySem.W.Frag} {mg : Str → Option Value} {base : Heap}
theorem ok_tells {E : Cl} {f : Addr} {fd : FuncData} (F : Fun K "_law_tells" "_law_tells" sTells f fd) (T : Txt mg) (Z : Kcx K mg E) (oOdd : Own P w K mg base "_law_odd" 2 spOdd) (oMiss : Own P w K mg base "_law_missing" 5 (spMiss E)) (oWord : OwnM P w K mg base E.kc "words" 1 (spWords E)) (oWordM : OwnM P w K mg base E.kc "words" 1 (spWordsM E)) (oHas : OwnM P w K mg base E.kc "has" 2 (spHas E)) (oLotM : OwnMX P w K mg base E.kc "lots" 3 (spLotM E)) (oHanM : OwnMX P w K mg base E.kc "hands" 4 (spHanM E)) (oLen : OwnM P w K mg base E.kc "__len__" 1 (spLenM E)) (oRepr : OwnM P w K mg base E.kc "__repr__" 1 (spReprM E)) : FnG P w K mg base 6 f fd ["_law_pot_here", "_law_kinds", "_law_table_here"] (spTells w E) := by
  refine fn_pot F scTells (fun ds ⟨_, _, e, _⟩ => by rw [e]; rfl) fun cdv A outer s H hr hg w' p ds μ hp ⟨k, l, e, hdue, tok, kof⟩ => ?_
  subst e
  have T0 := T
  obtain ⟨t1, t2, t3, t4, t5, t6, t7, t8, t9, t10, t11, t12, t13, t14, t15, t16, t17, t18, t19, t20, t21⟩ := T
  have hN : nTells.Nodup := by decide +kernel
  have h12 : l.length ≤ 12 := by
    unfold dueT at hdue
    split at hdue
    · cases hdue
    · omega
  have hdl : dueL l = none := by
    unfold dueT at hdue
    rwa [if_neg (by omega)] at hdue
  have al := due_all l hdl
  have tx : TxK l := fun x hx => name_text (al x hx).1
  obtain ⟨ok, kp, ks, kv⟩ := kof
  have mem : ∀ y ∈ k.ys, ∃ x ∈ l, txt x.1 = y := fun y hy => List.mem_map.mp (kp.mem_iff.mp hy)
  have getK : ∀ y ∈ k.ys, getT l (.str y) = some (k.f y) := fun y hy => by
    obtain ⟨x, hx, rfl⟩ := mem y hy
    rw [val_get tok.gk tx x hx, kv x hx]
  have hT : ∀ y ∈ k.ys, hasD (kD E k) (.str y) = true := fun y hy => by
    unfold hasD
    rw [kS_k, ok.nm y hy]
    exact decide_eq_true hy
  refine dss_cons (ds_set 3 hN (de_sorted (da_cons (de_nm rfl (da_nil (ca_sortedTb hr (.inl rfl) tok.gk tx (by omega) fun ys' hp' hs => ?_)))) t15))
  have ey : ys' = k.ys := sorted_uniq (hp'.trans kp.symm) hs ks
  subst ey
  refine dss_cons (ds_set 4 hN ?_)
  walk_at "drun"
  refine de_join ?_
  walk_at "drun"
  refine de_lc 5 rfl hN (blkOk_by (N := nTells) (sc := defScope sTells) (by decide +kernel)) ?_
  refine di_lst (de_nm rfl ⟨_, rfl, ?_⟩)
  have klen := ok.len
  refine lc_map (fun d => .str (rowK k (txt d))) (by rw [List.length_map]; omega) ?_ ?_
  · intro d hd w2 kb
    obtain ⟨y, hy, rfl⟩ := List.mem_map.mp hd
    have a := name_le (ok.nm y hy)
    have b := lots_le (ok.lo y hy)
    walk_at "drun"
    refine ca_reprG hr hg a.2 ?_
    walk_at "drun"
    have e1 : ((": " : String) : Str).length = 2 := rfl
    refine op_addS (by rw [e1, sizeLine_eq]; omega) ?_
    walk_at "drun"
    refine ix_tb hr (.inl rfl) tok.gk rfl (by rw [nk_str, NestedKey.depth]; exact Nat.zero_le _) (getK y hy) ?_
    walk_at "drun"
    refine ca_reprG hr hg b.2 ?_
    walk_at "drun"
    refine op_addS (by rw [strLen_append, e1, sizeLine_eq]; omega) ?_
    exact ⟨rfl, rfl⟩
  have eR : (k.ys.map Dt.str).map (fun d => .str (rowK k (txt d))) = (k.ys.map (rowK k)).map Dt.str := by
    rw [List.map_map, List.map_map]; rfl
  have jl : (Txt.join ", " (k.ys.map (rowK k))).length ≤ 16000000 := by
    have q1 := (kept_shown ok).2.2
    have q2 := repr_due E k
    have q3 := congrArg Str.length q2
    unfold reprD at q3
    simp only [strLen_append] at q3
    have q4 : (toPy (kTab (kD E k))).shown.length ≤ 16000000 := q1
    have l1 : (Str.empty ++ "Kinds(" : Str).length = 6 := rfl
    have l2 : ((")" : String) : Str).length = 1 := rfl
    have l3 : (("Kinds({" : String) : Str).length = 7 := rfl
    have l4 : (("})" : String) : Str).length = 2 := rfl
    have l5 : Str.empty.length = 0 := rfl
    have l6 : (("Kinds(" : String) : Str).length = 6 := rfl
    omega
  rw [eR]
  refine ⟨k.ys.map (rowK k), .inl rfl, ?_, ?_⟩
  · have q := sum_le Str.length 12000 (k.ys.map (rowK k)) fun a ha => by
      obtain ⟨y, hy, rfl⟩ := List.mem_map.mp ha
      exact row_le ok y hy
    rw [List.length_map] at q ⊢
    have e1 : ((", " : String) : Str).length = 2 := rfl
    rw [e1]
    have := Nat.mul_le_mul_right 12000 klen
    exact Nat.le_trans (Nat.add_le_add q (Nat.mul_le_mul_right 2 klen)) (by omega)
  have l3 : (("Kinds({" : String) : Str).length = 7 := rfl
  have l4 : (("})" : String) : Str).length = 2 := rfl
  refine op_addS (by rw [l3, sizeLine_eq]; omega) ?_
  walk_at "drun"
  refine op_addS (by rw [strLen_append, l3, l4, sizeLine_eq]; omega) ?_
  rw [← repr_due E k]
  refine dss_cons ?_
  show DS (bx P w K mg base nTells "_law_tells" sTells f cdv A outer s H) w' _ [.at p, .dat (kD E k), .dat (mixD w l), .dat (.lst (k.ys.map .str)), .dat (.str (reprD (kD E k))), .no, .no, .no, .no] μ _
  obtain ⟨gr, fdr, psr, mr, fr, br⟩ := oRepr.ex
  obtain ⟨gw, fdw, psw, mw, fw, bw⟩ := oWord.ex
  obtain ⟨gwm, fdwm, pswm, mwm, fwm, bwm⟩ := oWordM.ex
  obtain ⟨gn, fdn, psn, mn, fn, bn⟩ := oLen.ex
  obtain ⟨gh, fdh, psh, mh, fh, bh⟩ := oHas.ex
  obtain ⟨gl, fdl, psl, ml, fl, bl⟩ := oLotM.ex
  obtain ⟨ga, fda, psa, ma, fa, ba⟩ := oHanM.ex
  obtain ⟨nd1, sh1, ev1⟩ := strs_same (zs := k.ys) fun y hy => name_ok (ok.nm y hy)
  have isk : IsK E (kD E k) := ⟨k, rfl, ok⟩
  walk_at "drun"
  refine ca_reprOwn mr fr (hr.mono (by decide)) hg br ⟨[kD E k], rfl, _, rfl, isk⟩ fun r μ2 h => ?_
  obtain ⟨d, rfl, ⟨d', e1, rfl⟩, hμ⟩ := h [kD E k] rfl
  cases e1
  have hμ := hμ.symm
  subst hμ
  refine ⟨_, rfl, ?_⟩
  walk_at "drun"
  · rename_i z _
    exact absurd z (by simp)
  refine de_meth0 Z.isi.cls mw fw (hr.mono (by decide)) hg bw (de_nm rfl ⟨_, _, rfl, by decide, ⟨[kD E k], rfl, _, rfl, isk⟩, fun r μ3 h => ?_⟩)
  obtain ⟨d, rfl, ⟨d', e1, rfl⟩, hμ⟩ := h [kD E k] rfl
  cases e1
  have hμ := hμ.symm
  subst hμ
  dsimp only
  rw [kS_k]
  walk_at "drun"
  refine op_neLs hr (.inl rfl) (.inl rfl) nd1 nd1 sh1 sh1 ?_
  rw [ev1]
  walk_at "drun"
  refine ca_lenOwn mn fn (hr.mono (by decide)) hg bn ⟨[kD E k], rfl, _, rfl, isk⟩ fun r μ4 h => ?_
  obtain ⟨d, rfl, ⟨d', e1, rfl⟩, hμ⟩ := h [kD E k] rfl
  cases e1
  have hμ := hμ.symm
  subst hμ
  refine ⟨(k.ys.length : Int), ?_, by omega, by omega, ?_⟩
  · show SV.dat (.int ((kS (kD E k)).length : Int)) = _
    rw [kS_k]
  walk_at "drun"
  · rename_i z
    rw [kS_k, List.length_map] at z
    simp at z
  refine ds_for (di_lst (de_nm rfl ⟨_, rfl, fun n ρ' μ' => μ = μ' ∧ ∃ a, ρ' = [.at p, .dat (kD E k), .dat (mixD w l), .dat (.lst (k.ys.map .str)), .dat (.str (reprD (kD E k))), a, .no, .no, .no], ⟨rfl, _, rfl⟩, ?_, ?_⟩)) PassesOwn.never rfl
  · rintro n d ρ' μ' hi ⟨rfl, a, rfl⟩
    have hd := List.mem_of_getElem? hi
    obtain ⟨y, hy, rfl⟩ := List.mem_map.mp hd
    obtain ⟨xs, ex, hxl⟩ := lots_tup (ok.lo y hy)
    refine dg_name 5 hN (dss_one ?_)
    walk_at "drun"
    refine de_meth Z.isi.cls mh fh (hr.mono (by decide)) hg bh (de_nm rfl ⟨_, _, rfl, by decide, da_cons (de_nm rfl (da_nil ⟨⟨[kD E k, .str y], rfl, _, _, rfl, isk, ⟨0, name_fine (ok.nm y hy) 0⟩⟩, fun r μ3 h => ?_⟩))⟩)
    obtain ⟨d, rfl, ⟨d', t', e1, rfl⟩, hμ⟩ := h [kD E k, .str y] rfl
    cases e1
    have hμ := hμ.symm
    subst hμ
    rw [hT y hy]
    walk_at "drun"
    refine de_methF Z.isi.cls ma fa takes0 (hr.mono (by decide)) hg ba (de_nm rfl ⟨_, _, rfl, by decide, da_cons (de_nm rfl (da_nil ⟨⟨_, _, rfl, isk, ⟨0, name_fine (ok.nm y hy) 0⟩⟩, fun r μ2 h => ?_, fun ds ν h σ B H dx S I er => ?_⟩))⟩)
    rotate_left
    · obtain ⟨d', t', e1, h1, _, _⟩ := h
      cases e1
      rw [hT y hy] at h1; cases h1
    obtain ⟨d', t', e1, h1, rfl, hμ⟩ := h
    cases e1
    have hμ := hμ.symm
    subst hμ
    have ekv : kV (kD E k) (txt (.str y)) = .tup xs := by rw [← ex]; exact kV_k E k hy
    rw [ekv]
    walk_at "drun"
    refine de_methF Z.isi.cls ml fl takes0 (hr.mono (by decide)) hg bl (de_nm rfl ⟨_, _, rfl, by decide, da_cons (de_nm rfl (da_nil ⟨⟨_, _, rfl, isk, ⟨0, name_fine (ok.nm y hy) 0⟩⟩, fun r μ2 h => ?_, fun ds ν h σ B H dx S I er => ?_⟩))⟩)
    rotate_left
    · obtain ⟨d', t', e1, h1, _, _⟩ := h
      cases e1
      rw [hT y hy] at h1; cases h1
    obtain ⟨d', t', e1, h1, rfl, hμ⟩ := h
    cases e1
    have hμ := hμ.symm
    subst hμ
    rw [ekv]
    walk_at "drun"
    have fx : fine 64 30 1 (.tup xs) := by rw [← ex]; exact (lots_fine (ok.lo y hy)).1
    have shL : ShownL (.lst [.bl true, .int (xs.length : Int), .tup xs]) := shown_fine (n := 2) (by decide) ⟨by simp, fun d hd => by
      simp only [List.mem_cons, List.not_mem_nil, or_false] at hd
      rcases hd with rfl | rfl | rfl
      · trivial
      · exact fine_int 1 (Nat.lt_of_le_of_lt (by omega) (by decide : 6 < 10 ^ 30))
      · exact fx⟩
    refine ca_reprG hr hg shL ?_
    have gy := getK y hy
    rw [ex] at gy
    have dk : (nk (.str y)).depth ≤ 8 := by rw [nk_str, NestedKey.depth]; exact Nat.zero_le _
    walk_at "drun"
    refine ix_tb hr (.inl rfl) tok.gk rfl dk gy ?_
    walk_at "drun"
    refine ix_tb hr (.inl rfl) tok.gk rfl dk gy ?_
    walk_at "drun"
    refine ca_reprG hr hg shL ?_
    walk_at "drun"
    · rename_i z
      have z2 := (Bool.not_eq_true' _).mp z
      exact absurd rfl (of_decide_eq_false z2)
    · exact ⟨rfl, _, rfl⟩
  · rintro ρ' μ' ⟨rfl, a, rfl⟩
    exact tells_rest oOdd hr hg T0 hp ok Z oMiss oHas oWord oWordM a
end
end K12

set_option Elab.async false
set_option linter.all false
set_option maxRecDepth 100000
set_option maxHeartbeats 4000000
namespace K12
open PySem PySem.Spec PyProof.Rows L2 Dat Er Mx
local macro_rules
  | `(tactic| walk_at "down") => `(tactic| fail "none")
local macro_rules
  | `(tactic| walk_at "dset") => `(tactic| fail "none")
local macro_rules
  | `(tactic| walk_at "dhook") => `(tactic| fail "none")
local macro_rules
  | `(tactic| walk_at "dca") => `(tactic| fail "none")
local macro_rules
  | `(tactic| walk_at "dlst") => `(tactic| refine de_lst ?_)
local macro_rules
  | `(tactic| walk_at "dtup") => `(tactic| refine de_tup ?_)
local macro_rules
  | `(tactic| walk_at "dstep") => `(tactic| first
    | ((with_reducible show DE _ _ _ _ _ _); first | ((with_reducible show DE _ _ (Expr.Name _ _) _ _ _); first | ((with_reducible show DE _ _ (Expr.Name "int" _) _ _ _); refine de_ty_int (by assumption) ?_) | ((with_reducible show DE _ _ (Expr.Name "str" _) _ _ _); refine de_ty_str (by assumption) ?_) | ((with_reducible show DE _ _ (Expr.Name "bool" _) _ _ _); refine de_ty_bool (by assumption) ?_) | ((with_reducible show DE _ _ (Expr.Name "tuple" _) _ _ _); refine de_ty_tuple (by assumption) ?_) | ((with_reducible show DE _ _ (Expr.Name "list" _) _ _ _); refine de_ty_list (by assumption) ?_) | ((with_reducible show DE _ _ (Expr.Name "dict" _) _ _ _); refine de_ty_dict (by assumption) ?_) | refine de_nm rfl ?_ | refine de_globI (by assumption) ?_) | ((with_reducible show DE _ _ (Expr.Constant _ _ _) _ _ _); first | refine de_int ?_ | refine de_str ?_ | refine de_bl ?_ | refine de_non ?_) | ((with_reducible show DE _ _ (Expr.Call (Expr.Name _ _) _ _ _) _ _ _); first | ((with_reducible show DE _ _ (Expr.Call (Expr.Name "isinstance" _) _ _ _) _ _ _); refine de_isinstance ?_ (by assumption)) | ((with_reducible show DE _ _ (Expr.Call (Expr.Name "len" _) _ _ _) _ _ _); refine de_len ?_ (by assumption)) | ((with_reducible show DE _ _ (Expr.Call (Expr.Name "max" _) _ _ _) _ _ _); refine de_max ?_ (by assumption)) | ((with_reducible show DE _ _ (Expr.Call (Expr.Name "min" _) _ _ _) _ _ _); refine de_min ?_ (by assumption)) | ((with_reducible show DE _ _ (Expr.Call (Expr.Name "all" _) _ _ _) _ _ _); refine de_all ?_ (by assumption)) | ((with_reducible show DE _ _ (Expr.Call (Expr.Name "repr" _) _ _ _) _ _ _); refine de_repr ?_ (by assumption)) | ((with_reducible show DE _ _ (Expr.Call (Expr.Name "divmod" _) _ _ _) _ _ _); refine de_divmod ?_ (by assumption)) | ((with_reducible show DE _ _ (Expr.Call (Expr.Name "list" _) _ _ _) _ _ _); refine de_clist ?_ (by assumption)) | ((with_reducible show DE _ _ (Expr.Call (Expr.Name "tuple" _) _ _ _) _ _ _); refine de_ctuple ?_ (by assumption)) | ((with_reducible show DE _ _ (Expr.Call (Expr.Name "int" _) _ _ _) _ _ _); refine de_cint ?_ (by assumption)) | ((with_reducible show DE _ _ (Expr.Call (Expr.Name "str" _) _ _ _) _ _ _); refine de_cstr ?_ (by assumption)) | walk_at "down") | ((with_reducible show DE _ _ (Expr.BinOp _ _ _ _) _ _ _); refine de_op ?_) | ((with_reducible show DE _ _ (Expr.Compare _ [_] _ _) _ _ _); refine de_cmp ?_) | ((with_reducible show DE _ _ (Expr.Compare _ [_, _] _ _) _ _ _); refine de_chain ?_) | ((with_reducible show DE _ _ (Expr.Subscript _ (Expr.Slice _ _ _ _) _) _ _ _); refine de_slice ?_) | ((with_reducible show DE _ _ (Expr.Subscript _ _ _) _ _ _); refine de_ix ?_) | ((with_reducible show DE _ _ (Expr.BoolOp _ [_] _) _ _ _); refine de_one ?_) | ((with_reducible show DE _ _ (Expr.BoolOp BoolOp.And _ _) _ _ _); refine de_and ?_) | ((with_reducible show DE _ _ (Expr.BoolOp BoolOp.Or _ _) _ _ _); refine de_or ?_) | ((with_reducible show DE _ _ (Expr.UnaryOp UnaryOp.Not _ _) _ _ _); refine de_not ?_) | ((with_reducible show DE _ _ (Expr.UnaryOp _ _ _) _ _ _); refine de_un ?_) | ((with_reducible show DE _ _ (Expr.IfExp _ _ _ _) _ _ _); refine de_ifx ?_) | ((with_reducible show DE _ _ (Expr.Tuple _ _ _) _ _ _); walk_at "dtup") | ((with_reducible show DE _ _ (Expr.List _ _) _ _ _); walk_at "dlst") | ((with_reducible show DE _ _ (Expr.Dict [] [] _) _ _ _); refine de_dict0 ?_) | walk_at "dhook")
    | ((with_reducible show DA _ _ _ _ _ _); first | ((with_reducible show DA _ _ [] _ _ _); refine da_nil ?_) | ((with_reducible show DA _ _ (_ :: _) _ _ _); refine da_cons ?_))
    | ((with_reducible show BoolR _ _); refine ⟨_, rfl, ?_⟩)
    | ((with_reducible show (_ = true → _) ∧ (_ = false → _)); (refine ⟨fun h => ?_, fun h => ?_⟩ <;> try (exact Bool.noConfusion h)))
    | ((with_reducible show OpD _ _ _ _ _ _ _); first | ((with_reducible show OpD _ _ (binaryOp Operator.Add) _ _ _ _); first | refine op_addI ?_ | refine op_addT ?_) | ((with_reducible show OpD _ _ (binaryOp Operator.Sub) _ _ _ _); refine op_subI ?_) | ((with_reducible show OpD _ _ (binaryOp Operator.Mod) _ _ _ _); refine op_modI (by first | decide | assumption) ?_) | ((with_reducible show OpD _ _ (binaryOp Operator.Mult) _ _ _ _); refine op_mulI (by first | exact .inr (by decide) | exact .inl (by decide) | (exact .inl (by omega))) ?_) | ((with_reducible show OpD _ _ (binaryOp Operator.Pow) _ _ _ _); refine op_powI (by decide) (by decide) (by decide) ?_) | ((with_reducible show OpD _ _ (binaryOp Operator.FloorDiv) _ _ _ _); refine op_fdivI (by decide) (by decide) ?_) | ((with_reducible show OpD _ _ (compareOp CmpOp.Lt) _ _ _ _); refine op_ltI ?_) | ((with_reducible show OpD _ _ (compareOp CmpOp.LtE) _ _ _ _); first | refine op_leI ?_ | refine op_leS ?_) | ((with_reducible show OpD _ _ (compareOp CmpOp.Gt) _ _ _ _); refine op_gtI ?_) | ((with_reducible show OpD _ _ (compareOp CmpOp.GtE) _ _ _ _); refine op_geI ?_) | ((with_reducible show OpD _ _ (compareOp CmpOp.Eq) _ _ _ _); first | refine op_eqI ?_ | refine op_eqS ?_) | ((with_reducible show OpD _ _ (compareOp CmpOp.NotEq) _ _ _ _); first | refine op_neI ?_ | refine op_neS ?_))
    | ((with_reducible show CaD _ _ _ _ _ _); first | ((with_reducible show CaD _ _ (Value.builtin "isinstance") [_, SV.ty "int"] _ _); refine ca_isi (by assumption) (kit_int _ (by assumption)) ?_) | ((with_reducible show CaD _ _ (Value.builtin "isinstance") [_, SV.ty "bool"] _ _); refine ca_isi (by assumption) (kit_bool _ (by assumption)) ?_) | ((with_reducible show CaD _ _ (Value.builtin "isinstance") [_, SV.ty "str"] _ _); refine ca_isi (by assumption) (kit_str _ (by assumption)) ?_) | ((with_reducible show CaD _ _ (Value.builtin "isinstance") [_, SV.ty "tuple"] _ _); refine ca_isi (by assumption) (kit_tuple _ (by assumption)) ?_) | ((with_reducible show CaD _ _ (Value.builtin "isinstance") [_, SV.ty "list"] _ _); refine ca_isi (by assumption) (kit_list _ (by assumption)) ?_) | ((with_reducible show CaD _ _ (Value.builtin "isinstance") [_, SV.ty "dict"] _ _); refine ca_isi (by assumption) (kit_dict _ (by assumption)) ?_) | ((with_reducible show CaD _ _ (Value.builtin "max") _ _ _); refine ca_max2 rfl ?_) | ((with_reducible show CaD _ _ (Value.builtin "min") _ _ _); refine ca_min2 rfl ?_) | ((with_reducible show CaD _ _ (Value.builtin "len") _ _ _); first | refine ca_lenT ?_ | refine ca_lenS (by assumption) ?_ | refine ca_lenSc ?_ | refine ca_lenL (.inl rfl) ?_) | ((with_reducible show CaD _ _ (Value.type "list") _ _ _); refine ca_listT ?_) | ((with_reducible show CaD _ _ (Value.builtin "divmod") _ _ _); refine ca_divmod (by assumption) (by omega) ?_) | walk_at "dca")
    | ((with_reducible show DT _ _ _ _ _ _); first | ((with_reducible show DT _ _ (Expr.BoolOp _ _ _) _ _ _); refine dt_w ?_) | ((with_reducible show DT _ _ (Expr.UnaryOp UnaryOp.Not _ _) _ _ _); refine dt_not ?_) | ((with_reducible show DT _ _ (Expr.Compare _ [_] _ _) _ _ _); refine dt_cmp ?_) | ((with_reducible show DT _ _ (Expr.Compare _ [_, _] _ _) _ _ _); refine dt_chain ?_) | refine dt_val ?_)
    | ((with_reducible show DW _ _ _ _ _ _); first | ((with_reducible show DW _ _ (Expr.BoolOp BoolOp.And [_] _) _ _ _); refine dw_and1 ?_) | ((with_reducible show DW _ _ (Expr.BoolOp BoolOp.Or [_] _) _ _ _); refine dw_or1 ?_) | ((with_reducible show DW _ _ (Expr.BoolOp BoolOp.And _ _) _ _ _); refine dw_and ?_) | ((with_reducible show DW _ _ (Expr.BoolOp BoolOp.Or _ _) _ _ _); refine dw_or ?_))
    | ((with_reducible show DSs _ _ _ _ _ _); first | ((with_reducible show DSs _ _ [] _ _ _); refine dss_nil ?_) | ((with_reducible show DSs _ _ [_] _ _ _); refine dss_one ?_) | ((with_reducible show DSs _ _ (_ :: _) _ _ _); refine dss_cons ?_))
    | ((with_reducible show DS _ _ _ _ _ _); first | ((with_reducible show DS _ _ (Stmt.Return (some _) _) _ _ _); refine ds_ret ?_) | ((with_reducible show DS _ _ (Stmt.If _ _ _ _) _ _ _); refine ds_if ?_) | ((with_reducible show DS _ _ (Stmt.Expr _ _) _ _ _); refine ds_expr ?_) | ((with_reducible show DS _ _ (Stmt.Assign [Expr.Name _ _] _ _) _ _ _); walk_at "dset"))
    | ((with_reducible show DP _ _ none _ _ _); refine dp_none ?_)
    | ((with_reducible show DP _ _ (some _) _ _ _); refine dp_some ?_)
    | ((with_reducible show ∃ d, SV.dat _ = SV.dat d ∧ Fi d ∧ _); refine ⟨_, rfl, by assumption, ?_⟩)
    | ((with_reducible show ∃ i, SV.dat (Dt.int _) = SV.dat (Dt.int i) ∧ _); refine ⟨_, rfl, ?_⟩)
    | ((with_reducible show SlD _ _ (SV.dat (Dt.tup _)) _ _ _ _); refine sl_dT ?_)
    | ((with_reducible show ∃ ds, undat _ = some ds ∧ ds.length ≤ 1000 ∧ _); refine ⟨_, rfl, Nat.le_of_ble_eq_true rfl, ?_⟩)
    | ((with_reducible show ∃ q, SV.at _ = SV.at q ∧ _); refine ⟨_, rfl, ?_⟩)
    | ((with_reducible show ∃ z, SV.dat (Dt.str _) = SV.dat (Dt.str z) ∧ _); refine ⟨_, rfl, ?_⟩)
    | ((with_reducible show IxD _ _ (SV.at _) (SV.dat (Dt.int 0)) _ _); refine ix_pot0 (by assumption) (fun _ _ => ?_))
    | ((with_reducible show IxD _ _ (SV.at _) (SV.dat (Dt.int 1)) _ _); refine ix_pot1 (by assumption) (fun _ _ _ => ?_))
    | ((with_reducible show UnD _ _ (unaryOp UnaryOp.USub) _ _ _); refine un_negI ?_)
    | ((with_reducible show Po.nx _ _ _); dsimp only)
    | ((with_reducible show Po.rt _ _ _); dsimp only))
local macro_rules
  | `(tactic| walk_at "drun") => `(tactic| repeat' (walk_at "dstep"))

/-! ### Kinds that are equal, or not -/
def unpair : Dt → Dt × Dt
  | .tup [a, b] => (a, b)
  | _ => (.non, .non)
theorem unpair_pair (x : Dt × Dt) : unpair (Dat.pairD x) = x := rfl
theorem perm_pairs {ys : List Dt} {l : Tbl} (h : ys.Perm (l.map Dat.pairD)) : ∃ m : Tbl, ys = m.map Dat.pairD ∧ m.Perm l := by
  refine ⟨ys.map unpair, ?_, ?_⟩
  · rw [List.map_map]
    refine (List.map_id ys).symm.trans (List.map_congr_left fun d hd => ?_)
    obtain ⟨x, _, rfl⟩ := List.mem_map.mp (h.mem_iff.mp hd)
    rfl
  · have := h.map unpair
    rw [List.map_map] at this
    have e : l.map (unpair ∘ Dat.pairD) = l := (List.map_congr_left fun x _ => rfl).trans (List.map_id l)
    rwa [e] at this
theorem merge_new : ∀ (ps l : Tbl), ((l ++ ps).map fun x => nk x.1).Nodup → mergeP l ps = l ++ ps
  | [], l, _ => (List.append_nil l).symm
  | p :: ps, l, h => by
    have h1 : nk p.1 ∉ l.map fun x => nk x.1 := by
      rw [List.map_append, List.map_cons] at h
      exact fun z => (List.nodup_append.mp h).2.2 _ z _ List.mem_cons_self rfl
    show mergeP (putP l p.1 p.2) ps = _
    rw [put_new h1, merge_new ps (l ++ [(p.1, p.2)]) (by rw [List.append_assoc]; exact h), List.append_assoc]
    rfl
theorem merge_good {l : Tbl} (g : GoodK l) : mergeP [] l = l := merge_new l [] g.nd
theorem goodPerm {l m : Tbl} (g : GoodK l) (p : m.Perm l) : GoodK m := ⟨fun x hx => g.ka x (p.mem_iff.mp hx), ((p.map fun x => nk x.1).nodup_iff).mpr g.nd⟩
theorem all_due : ∀ l : Tbl, (∀ x ∈ l, nameD x.1 = true ∧ lotsD x.2 = true) → dueL l = none
  | [], _ => rfl
  | z :: l, h => by
    obtain ⟨h1, h2⟩ := h z List.mem_cons_self
    unfold dueL
    rw [h1, h2]
    exact all_due l fun x hx => h x (List.mem_cons_of_mem _ hx)
/-- a table that is right -/
structure RtT (l : Tbl) : Prop where
  gk : GoodK l
  len : l.length ≤ 12
  al : ∀ x ∈ l, nameD x.1 = true ∧ lotsD x.2 = true
theorem RtT.due {l : Tbl} (h : RtT l) : dueT l = none := by
  unfold dueT
  rw [if_neg (by have := h.len; omega)]
  exact all_due l h.al
theorem RtT.ok {l : Tbl} (h : RtT l) : TbOk l := ⟨h.gk, by have := h.len; omega, fun x hx => by
  have e := text_of (name_text (h.al x hx).1)
  rw [e]
  refine name_fine ?_ 2
  rw [← e]; exact (h.al x hx).1, fun x hx => fine_up 1 _ (lots_fine (h.al x hx).2).1⟩
theorem RtT.of {l : Tbl} (h : TbOk l) (hd : dueT l = none) : RtT l := by
  have h12 : l.length ≤ 12 := by
    unfold dueT at hd
    split at hd
    · cases hd
    · omega
  have hdl : dueL l = none := by
    unfold dueT at hd
    rwa [if_neg (by omega)] at hd
  exact ⟨h.gk, h12, due_all l hdl⟩
theorem RtT.perm {l m : Tbl} (h : RtT l) (p : m.Perm l) : RtT m := ⟨goodPerm h.gk p, by rw [p.length_eq]; exact h.len, fun x hx => h.al x (p.mem_iff.mp hx)⟩
theorem RtT.tx {l : Tbl} (h : RtT l) : TxK l := fun x hx => name_text (h.al x hx).1
theorem RtT.more {l : Tbl} (h : RtT l) {m : List Nat} (hm : Nm m) (hn : SX.S m ∉ l.map fun x => txt x.1) : RtT (l.drop 1 ++ [(.str (SX.S m), .tup [.int 0])]) := by
  have sub : (l.drop 1).Sublist l := List.drop_sublist 1 l
  have hk : nk (.str (SX.S m)) ∉ l.map fun x => nk x.1 := by
    rw [nk_txt h.tx, nk_str]
    intro z
    obtain ⟨u, hu, e⟩ := List.mem_map.mp z
    injection e with e
    exact hn (by rw [← e]; exact hu)
  refine ⟨⟨fun x hx => ?_, ?_⟩, ?_, fun x hx => ?_⟩
  · rcases List.mem_append.mp hx with q | q
    · exact h.gk.ka x (sub.subset q)
    · rw [List.mem_singleton] at q; rw [q]; exact ⟨rfl, by rw [nk_str, NestedKey.depth]; exact Nat.zero_le _⟩
  · rw [List.map_append, List.nodup_append]
    refine ⟨(sub.map fun x => nk x.1).nodup h.gk.nd, List.pairwise_singleton .., fun a ha b hb e => ?_⟩
    rw [List.map_singleton, List.mem_singleton] at hb
    rw [e, hb] at ha
    exact hk ((sub.map fun x => nk x.1).subset ha)
  · rw [List.length_append, List.length_drop]
    have := h.len
    simp
    omega
  · rcases List.mem_append.mp hx with q | q
    · exact h.al x (sub.subset q)
    · rw [List.mem_singleton] at q; rw [q]; exact ⟨nm_name hm, by show lotsD (.tup [.int 0]) = true; decide +kernel⟩
theorem hit_same (f : Str → Dt) (ls : List Str) : ∀ ks : List Str, (∀ k ∈ ks, k ∈ ls) → hitB f ls f ks = true
  | [], _ => rfl
  | k :: ks, h => by
    unfold hitB
    rw [if_pos (h k List.mem_cons_self), hit_same f ls ks fun z hz => h z (List.mem_cons_of_mem _ hz), NestedKey.beq_self]
    rfl
theorem hit_in {f g : Str → Dt} {ls : List Str} : ∀ {ks : List Str}, hitB f ls g ks = true → ∀ k ∈ ks, k ∈ ls
  | [], _, k, h => by cases h
  | z :: ks, h, k, hk => by
    unfold hitB at h
    by_cases e : z ∈ ls
    · rw [if_pos e] at h
      rw [Bool.and_eq_true] at h
      rcases List.mem_cons.mp hk with q | q
      · rw [q]; exact e
      · exact hit_in h.2 k q
    · rw [if_neg e] at h
      cases h
theorem eq_yes (E : Cl) {k k2 : Kx} {l m : Tbl} (h1 : Kof k l) (h2 : Kof k2 m) (p : m.Perm l) : eqD (kD E k) (kD E k2) = true ∧ eqD (kD E k2) (kD E k) = true := by
  have e : k2.ys = k.ys := sorted_uniq (h2.2.1.trans ((p.map fun x => txt x.1).trans h1.2.1.symm)) h2.2.2.1 h1.2.2.1
  have ev : ∀ y ∈ k.ys, k2.f y = k.f y := fun y hy => by
    obtain ⟨x, hx, rfl⟩ := List.mem_map.mp (h1.2.1.mem_iff.mp hy)
    rw [h1.2.2.2 x hx, h2.2.2.2 x (p.mem_iff.mpr hx)]
  rw [eqD_k, eqD_k, e]
  constructor
  · rw [beq_self_eq_true, Bool.true_and, hit_congr (f' := k.f) (g' := k.f) k.ys (fun _ _ => rfl) ev]
    exact hit_same _ _ _ fun _ h => h
  · rw [beq_self_eq_true, Bool.true_and, hit_congr (f' := k.f) (g' := k.f) k.ys ev fun _ _ => rfl]
    exact hit_same _ _ _ fun _ h => h
theorem eq_no (E : Cl) {k k3 : Kx} (h1 : KOk k) {y : Str} (hy : y ∈ k3.ys) (hn : y ∉ k.ys) : eqD (kD E k) (kD E k3) = false ∧ eqD (kD E k3) (kD E k) = false := by
  rw [eqD_k, eqD_k]
  constructor
  · cases e : (k.ys.length == k3.ys.length && hitB k.f k3.ys k3.f k.ys) with
    | false => rfl
    | true =>
      exfalso
      rw [Bool.and_eq_true, beq_iff_eq] at e
      have := pigeon (y :: k.ys) k3.ys (List.nodup_cons.mpr ⟨hn, h1.nd⟩) fun z hz => by
        rcases List.mem_cons.mp hz with q | q
        · rw [q]; exact hy
        · exact hit_in e.2 z q
      rw [List.length_cons] at this
      omega
  · cases e : (k3.ys.length == k.ys.length && hitB k3.f k.ys k.f k3.ys) with
    | false => rfl
    | true =>
      exfalso
      rw [Bool.and_eq_true] at e
      exact hn (hit_in e.2 y hy)
section
variable {X : Cx} {w : Wd} {μ : Mus} {R : SV → Mus → Prop} {E : Cl} {g : Addr} {fd : FuncData} {ps : List Str} {d o : Dt}
theorem op_eqK (O : OwnC X.K E.kc) (M : Meth X.K E.kc "__eq__" g) (F : FnG X.prog X.w X.K X.mg X.base 1 g fd ps (spEqM E)) (hr : Room 5 X.A) (hg : X.A.guards = some []) (hb : Binds X.K fd ps []) (h1 : IsK E d) (h2 : IsK E o ∨ tyD o ∈ tyL) (h : R (.dat (.bl (eqD d o))) μ) : OpD X w (compareOp .Eq) (.dat d) (.dat o) μ R := by
  obtain ⟨k, rfl, ok⟩ := h1
  refine op_eqOwn O M F (hr.mono (by decide)) hg hb ?_ ⟨[kD E k, o], rfl, _, _, rfl, ⟨k, rfl, ok⟩, h2⟩ fun r μ2 q => ?_
  · rcases h2 with ⟨k', rfl, _⟩ | h2
    · exact .inl ⟨_, _, rfl⟩
    · exact .inr h2
  · obtain ⟨d, rfl, ⟨d', o', e1, rfl⟩, hμ⟩ := q [kD E k, o] rfl
    cases e1
    have hμ := hμ.symm
    subst hμ
    exact ⟨_, rfl, h⟩
theorem op_eqKr (O : OwnC X.K E.kc) (M : Meth X.K E.kc "__eq__" g) (F : FnG X.prog X.w X.K X.mg X.base 1 g fd ps (spEqM E)) (hr : Room 5 X.A) (hg : X.A.guards = some []) (hb : Binds X.K fd ps []) (h1 : IsK E d) (h2 : tyD o ∈ tyL) (ho : o = .non ∨ (∃ i, o = .int i) ∨ (∃ x, o = .str x) ∨ (∃ l, o = .lst l) ∨ (∃ l, o = .tup l) ∨ (∃ a b, o = .dic a b) ∨ ∃ a b c, o = .mix a b c) (h : R (.dat (.bl (eqD d o))) μ) : OpD X w (compareOp .Eq) (.dat o) (.dat d) μ R := by
  obtain ⟨k, rfl, ok⟩ := h1
  refine op_eqRefl O M F (hr.mono (by decide)) hg hb ho ⟨[kD E k, o], rfl, _, _, rfl, ⟨k, rfl, ok⟩, .inr h2⟩ fun r μ2 q => ?_
  obtain ⟨d, rfl, ⟨d', o', e1, rfl⟩, hμ⟩ := q [kD E k, o] rfl
  cases e1
  have hμ := hμ.symm
  subst hμ
  exact ⟨_, rfl, h⟩
theorem op_neK (O : OwnC X.K E.kc) (M : Meth X.K E.kc "__eq__" g) (F : FnG X.prog X.w X.K X.mg X.base 1 g fd ps (spEqM E)) (hr : Room 5 X.A) (hg : X.A.guards = some []) (hb : Binds X.K fd ps []) (h1 : IsK E d) (h2 : IsK E o) (h : R (.dat (.bl (!eqD d o))) μ) : OpD X w (compareOp .NotEq) (.dat d) (.dat o) μ R := by
  obtain ⟨k, rfl, ok⟩ := h1
  obtain ⟨k', rfl, ok'⟩ := h2
  refine op_neOwn O M F (hr.mono (by decide)) hg hb ⟨[kD E k, kD E k'], rfl, _, _, rfl, ⟨k, rfl, ok⟩, .inl ⟨k', rfl, ok'⟩⟩ fun r μ2 q => ?_
  obtain ⟨d, rfl, ⟨d', o', e1, rfl⟩, hμ⟩ := q [kD E k, kD E k'] rfl
  cases e1
  have hμ := hμ.symm
  subst hμ
  exact ⟨_, rfl, h⟩
end
section
variable {X : Cx} {w : Wd} {ρ : List SV} {μ : Mus} {R : SV → Mus → Prop} {pos p : Pos} {x : Str} {e : Expr} {E : Cl} {g : Addr} {fd : FuncData} {ps : List Str}
/-- Kinds(e), of a table that is right -/
theorem de_kinds (mk : Mk X.K E.kc g) (fk : FnX X.prog X.w X.K X.mg X.base 4 g fd ps (spInit X.w E)) (bk : Binds X.K fd ps []) (hr : Room 5 X.A) (hgd : X.A.guards = some []) (hm : X.mg x = some (.ref E.kc))
    (ha : DE X w e ρ μ fun r μ1 => ∃ m, r = .dat (mixD X.w m) ∧ RtT m ∧ ∀ k, Kof k m → R (.dat (kD E k)) μ1) (hg : Gl X x := by rfl) (hdb : (x == ("__debug__" : Str)) = false := by decide)
    (he : starEach [e] X.env = (false, eval e X.env) :: starEach [] X.env := by rfl) (hpl : (backTo pos (starEach [] X.env)).any (·.1) = false := by rfl) : DE X w (.Call (.Name x p) [e] [] pos) ρ μ R := by
  refine de_makeF mk fk takes0 hr hgd hm bk (da_cons (hs := he) (ha.imp fun r μ1 ⟨m, e1, rm, h1⟩ => ?_)) hg hdb he hpl
  subst e1
  refine da_nil fun q hq => ⟨⟨q, _, rfl, put_same, .inl ⟨m, rfl, rm.ok⟩⟩, fun r μ2 h => ?_, fun ds ν h σ B H dx S I er => ?_⟩
  · obtain ⟨q', m', k, e1, hdue, _, hkof, rfl, rfl⟩ := h
    injection e1 with e1 e2
    injection e1 with e1
    subst e1
    injection e2 with e2
    injection e2 with e2
    have em : m' = m := by
      have := congrArg (fun d => match d with | Dt.mix _ ks vs => ks.zip vs | _ => []) e2
      simp only [mixD, zip_tbl] at this
      exact this.symm
    subst em
    refine ⟨rfl, _, _, μ1, put_same, ?_, hq, h1 k hkof⟩
    rw [put_twice]; exact sub_put hq
  · obtain ⟨q', d', x, y, e1, hdue, _, _⟩ := h
    injection e1 with e1 e2
    injection e2 with e2
    injection e2 with e2
    subst e2
    rw [due_mix, rm.due] at hdue
    cases hdue
end
def spEqual (w : World) (E : Cl) : Sp := QSp (fun ds => ∃ k l, ds = [kD E k, mixD w l] ∧ RtT l ∧ Kof k l) fun _ r => r = .bl true
set_option hygiene false in
local macro_rules
  | `(tactic| walk_at "down") => `(tactic| first | ((with_reducible show DE _ _ (Expr.Call (Expr.Name "_law_label" _) _ _ _) _ _ _); refine de_newU oNew hr (by decide) hg ?_))
section
variable {P : Program} {w : World} {K : PySem.W.Frag} {mg : Str → Option Value} {base : Heap}
abbrev sEqual : Stmt := top 38
abbrev nEqual : List Str := ["_law_pot_here", "_law_kinds", "_law_table_here", "_law_twin", "_law_used", "_law_more", "_law_other", "_law_things", "_law_thing"]
theorem scEqual : FnScope nEqual ["_law_pot_here", "_law_kinds", "_law_table_here"] (defScope sEqual) := ⟨rfl, rfl, rfl, by decide +kernel, rfl, by decide +kernel, by decide +kernel⟩
theorem ok_equal {E : Cl} {f : Addr} {fd : FuncData} (F : Fun K "_law_equal" "_law_equal" sEqual f fd) (T : Txt mg) (Z : Kcx K mg E) (oK : OwnK P w K mg base E) (oTurn : Own P w K mg base "_law_turned" 2 spTurn) (oNew : Own P w K mg base "_law_label" 2 spNew) (oEq : OwnM P w K mg base E.kc "__eq__" 1 (spEqM E)) (oRepr : OwnM P w K mg base E.kc "__repr__" 1 (spReprM E)) : FnG P w K mg base 6 f fd ["_law_pot_here", "_law_kinds", "_law_table_here"] (spEqual w E) := by
  refine fn_pot F scEqual (fun ds ⟨_, _, e, _⟩ => by rw [e]; rfl) fun cdv A outer s H hr hg w' p ds μ hp ⟨k, l, e, rt, kof⟩ => ?_
  subst e
  obtain ⟨t1, t2, t3, t4, t5, t6, t7, t8, t9, t10, t11, t12, t13, t14, t15, t16, t17, t18, t19, t20, t21⟩ := T
  have hN : nEqual.Nodup := by decide +kernel
  have h12 := rt.len
  obtain ⟨gk, fdk, psk, mk, fk, bk⟩ := oK.ex
  obtain ⟨ge, fde, pse, me, fe, be⟩ := oEq.ex
  obtain ⟨gr, fdr, psr, mr, fr, br⟩ := oRepr.ex
  have isk : IsK E (kD E k) := ⟨k, rfl, kof.1⟩
  refine dss_cons (ds_set 3 hN (de_kinds mk fk bk (hr.mono (by decide)) hg Z.g (de_cdict (da_cons (de_pot oTurn hr (by decide) hg (da_cons (de_nm rfl (da_cons (de_listItems rfl t6 (de_nm rfl ⟨l, ⟨_, rfl⟩, da_nil ⟨p, _, [.lst (l.map Dat.pairD)], rfl, rfl, hp, ⟨_, rfl, by rw [List.length_map]; omega⟩, fun tv ht => ?_⟩⟩))))))) t16)))
  obtain ⟨xs, ys, e1, rfl, hpm⟩ := ht
  cases e1
  obtain ⟨m, rfl, pm⟩ := perm_pairs hpm
  have rm := rt.perm pm
  refine da_nil (ca_dictL hr (.inl rfl) (fun x hx => ⟨(rm.gk.ka x hx).1, (rm.gk.ka x hx).2⟩) (by have := rm.len; omega) ⟨m, by rw [merge_good rm.gk], rm, fun k2 kof2 => ?_⟩)
  obtain ⟨ey1, ey2⟩ := eq_yes E kof kof2 pm
  have isk2 : IsK E (kD E k2) := ⟨k2, rfl, kof2.1⟩
  refine dss_cons (ds_set 4 hN (de_clist (da_cons (de_nm rfl (da_nil (ca_listTbM hr (.inl rfl) fun q hq hwq => ?_)))) t6))
  have ek : l.map (·.1) = (l.map fun x => txt x.1).map Dt.str := by
    rw [List.map_map]
    exact List.map_congr_left fun x hx => text_of (rt.tx x hx)
  rw [ek]
  have mp : ∀ b, (μ.put q b) p = some .pot := fun b => pot_ne hp hq
  refine dss_cons (ds_set 5 hN (de_cdict (da_cons (de_op (de_slice (de_listItems rfl t6 (de_nm rfl ⟨l, ⟨_, rfl⟩, ?_⟩))))) t16))
  walk_at "drun"
  refine sl_dL (.inl rfl) ?_
  have ec : cutD (l.map Dat.pairD) (some 1) none = (l.drop 1).map Dat.pairD := by
    rw [List.map_drop]
    cases l with
    | nil => rfl
    | cons z l => exact cut_tail _ _
  rw [ec]
  walk_at "drun"
  refine ⟨q, _, rfl, mp _, put_same, by rw [List.length_map]; omega, fun ml hml hnu => ?_⟩
  walk_at "drun"
  have r3 := rt.more hml hnu
  refine op_addL (.inl rfl) (.inl rfl) (small_ok (by rw [List.length_map, List.length_drop]; simp; omega)) ?_
  refine da_nil (ca_dictL (l := l.drop 1 ++ [(.str (SX.S ml), .tup [.int 0])]) hr (.inl (by rw [List.map_append]; rfl)) (fun x hx => ⟨(r3.gk.ka x hx).1, (r3.gk.ka x hx).2⟩) (by have := r3.len; omega) ?_)
  rw [merge_good r3.gk]
  refine dss_cons (ds_set 6 hN (de_kinds mk fk bk (hr.mono (by decide)) hg Z.g (de_nm rfl ⟨_, rfl, r3, fun k3 kof3 => ?_⟩)))
  have isk3 : IsK E (kD E k3) := ⟨k3, rfl, kof3.1⟩
  obtain ⟨en1, en2⟩ := eq_no E (k := k) (k3 := k3) (y := SX.S ml) kof.1 (kof3.2.1.mem_iff.mpr (List.mem_map.mpr ⟨_, List.mem_append_right _ List.mem_cons_self, rfl⟩)) fun z => hnu (kof.2.1.mem_iff.mp z)
  refine dss_cons ?_
  show DS (bx P w K mg base nEqual "_law_equal" sEqual f cdv A outer s H) w' _ [.at p, .dat (kD E k), .dat (mixD w l), .dat (kD E k2), .at q, .dat (mixD w (l.drop 1 ++ [(.str (SX.S ml), .tup [.int 0])])), .dat (kD E k3), .no, .no] _ _
  walk_at "drun"
  refine op_eqK Z.own me fe hr hg be isk (.inl isk2) ?_
  rw [ey1]
  walk_at "drun"
  refine op_eqK Z.own me fe hr hg be isk2 (.inl isk) ?_
  rw [ey2]
  walk_at "drun"
  refine op_neK Z.own me fe hr hg be isk isk2 ?_
  rw [ey1]
  walk_at "drun"
  refine op_eqK Z.own me fe hr hg be isk (.inl isk3) ?_
  rw [en1]
  walk_at "drun"
  refine op_eqK Z.own me fe hr hg be isk3 (.inl isk) ?_
  rw [en2]
  walk_at "drun"
  refine ds_set 7 hN ?_
  walk_at "drun"
  refine ca_reprOwn mr fr (hr.mono (by decide)) hg br ⟨[kD E k], rfl, _, rfl, isk⟩ fun r μ2 h => ?_
  obtain ⟨d, rfl, ⟨d', e1, rfl⟩, hμ⟩ := h [kD E k] rfl
  cases e1
  have hμ := hμ.symm
  subst hμ
  refine ⟨_, rfl, ?_⟩
  walk_at "drun"
  refine ca_listTb hr (.inl rfl) ?_
  walk_at "drun"
  refine de_any ?_ t14
  walk_at "drun"
  refine de_lc 8 rfl hN (blkOk_by (N := nEqual) (sc := defScope sEqual) (by decide +kernel)) ?_
  refine di_lst (de_nm rfl ⟨_, rfl, ?_⟩)
  refine lc_map (fun _ => .bl false) (by simp) ?_ ?_
  · intro d hd w2 kb
    have dT : tyD d ∈ tyL ∧ (d = .non ∨ (∃ i, d = .int i) ∨ (∃ x, d = .str x) ∨ (∃ l, d = .lst l) ∨ (∃ l, d = .tup l) ∨ (∃ a b, d = .dic a b) ∨ ∃ a b c, d = .mix a b c) ∧ eqD (kD E k) d = false := by
      simp only [List.mem_cons, List.not_mem_nil, or_false] at hd
      rcases hd with rfl | rfl | rfl | rfl | rfl | rfl | rfl | rfl
      · exact ⟨by decide, .inl rfl, rfl⟩
      · exact ⟨by decide, .inr (.inl ⟨_, rfl⟩), rfl⟩
      · exact ⟨by show ("dict" : String) ∈ tyL; decide, .inr (.inr (.inr (.inr (.inr (.inr ⟨_, _, _, rfl⟩))))), rfl⟩
      · exact ⟨by show ("str" : String) ∈ tyL; decide, .inr (.inr (.inl ⟨_, rfl⟩)), rfl⟩
      · exact ⟨by show ("list" : String) ∈ tyL; decide, .inr (.inr (.inr (.inl ⟨_, rfl⟩))), rfl⟩
      · exact ⟨by show ("str" : String) ∈ tyL; decide, .inr (.inr (.inl ⟨_, rfl⟩)), rfl⟩
      · exact ⟨by show ("tuple" : String) ∈ tyL; decide, .inr (.inr (.inr (.inr (.inl ⟨_, rfl⟩)))), rfl⟩
      · exact ⟨by show ("dict" : String) ∈ tyL; decide, .inr (.inr (.inr (.inr (.inr (.inl ⟨_, _, rfl⟩))))), rfl⟩
    obtain ⟨g1, g2, g3⟩ := dT
    walk_at "drun"
    refine op_eqK Z.own me fe hr hg be isk (.inr g1) ?_
    rw [g3]
    walk_at "drun"
    refine op_eqKr Z.own me fe hr hg be isk g1 g2 ?_
    rw [g3]
    exact ⟨rfl, rfl⟩
  walk_at "drun"
  refine ca_anyB rfl (bs := List.replicate 8 false) (.inl rfl) ?_
  walk_at "drun"
  exact ⟨_, rfl, rfl, by rw [put_twice]; exact sub_put hq⟩
end
end K12

set_option Elab.async false
set_option linter.all false
set_option maxRecDepth 100000
set_option maxHeartbeats 4000000
namespace K12
open PySem PySem.Spec PyProof.Rows L2 Dat Er Mx
local macro_rules
  | `(tactic| walk_at "down") => `(tactic| fail "none")
local macro_rules
  | `(tactic| walk_at "dset") => `(tactic| fail "none")
local macro_rules
  | `(tactic| walk_at "dhook") => `(tactic| fail "none")
local macro_rules
  | `(tactic| walk_at "dca") => `(tactic| fail "none")
local macro_rules
  | `(tactic| walk_at "dlst") => `(tactic| refine de_lst ?_)
local macro_rules
  | `(tactic| walk_at "dtup") => `(tactic| refine de_tup ?_)
local macro_rules
  | `(tactic| walk_at "dstep") => `(tactic| first
    | ((with_reducible show DE _ _ _ _ _ _); first | ((with_reducible show DE _ _ (Expr.Name _ _) _ _ _); first | ((with_reducible show DE _ _ (Expr.Name "int" _) _ _ _); refine de_ty_int (by assumption) ?_) | ((with_reducible show DE _ _ (Expr.Name "str" _) _ _ _); refine de_ty_str (by assumption) ?_) | ((with_reducible show DE _ _ (Expr.Name "bool" _) _ _ _); refine de_ty_bool (by assumption) ?_) | ((with_reducible show DE _ _ (Expr.Name "tuple" _) _ _ _); refine de_ty_tuple (by assumption) ?_) | ((with_reducible show DE _ _ (Expr.Name "list" _) _ _ _); refine de_ty_list (by assumption) ?_) | ((with_reducible show DE _ _ (Expr.Name "dict" _) _ _ _); refine de_ty_dict (by assumption) ?_) | refine de_nm rfl ?_ | refine de_globI (by assumption) ?_) | ((with_reducible show DE _ _ (Expr.Constant _ _ _) _ _ _); first | refine de_int ?_ | refine de_str ?_ | refine de_bl ?_ | refine de_non ?_) | ((with_reducible show DE _ _ (Expr.Call (Expr.Name _ _) _ _ _) _ _ _); first | ((with_reducible show DE _ _ (Expr.Call (Expr.Name "isinstance" _) _ _ _) _ _ _); refine de_isinstance ?_ (by assumption)) | ((with_reducible show DE _ _ (Expr.Call (Expr.Name "len" _) _ _ _) _ _ _); refine de_len ?_ (by assumption)) | ((with_reducible show DE _ _ (Expr.Call (Expr.Name "max" _) _ _ _) _ _ _); refine de_max ?_ (by assumption)) | ((with_reducible show DE _ _ (Expr.Call (Expr.Name "min" _) _ _ _) _ _ _); refine de_min ?_ (by assumption)) | ((with_reducible show DE _ _ (Expr.Call (Expr.Name "all" _) _ _ _) _ _ _); refine de_all ?_ (by assumption)) | ((with_reducible show DE _ _ (Expr.Call (Expr.Name "repr" _) _ _ _) _ _ _); refine de_repr ?_ (by assumption)) | ((with_reducible show DE _ _ (Expr.Call (Expr.Name "divmod" _) _ _ _) _ _ _); refine de_divmod ?_ (by assumption)) | ((with_reducible show DE _ _ (Expr.Call (Expr.Name "list" _) _ _ _) _ _ _); refine de_clist ?_ (by assumption)) | ((with_reducible show DE _ _ (Expr.Call (Expr.Name "tuple" _) _ _ _) _ _ _); refine de_ctuple ?_ (by assumption)) | ((with_reducible show DE _ _ (Expr.Call (Expr.Name "int" _) _ _ _) _ _ _); refine de_cint ?_ (by assumption)) | ((with_reducible show DE _ _ (Expr.Call (Expr.Name "str" _) _ _ _) _ _ _); refine de_cstr ?_ (by assumption)) | walk_at "down") | ((with_reducible show DE _ _ (Expr.BinOp _ _ _ _) _ _ _); refine de_op ?_) | ((with_reducible show DE _ _ (Expr.Compare _ [_] _ _) _ _ _); refine de_cmp ?_) | ((with_reducible show DE _ _ (Expr.Compare _ [_, _] _ _) _ _ _); refine de_chain ?_) | ((with_reducible show DE _ _ (Expr.Subscript _ (Expr.Slice _ _ _ _) _) _ _ _); refine de_slice ?_) | ((with_reducible show DE _ _ (Expr.Subscript _ _ _) _ _ _); refine de_ix ?_) | ((with_reducible show DE _ _ (Expr.BoolOp _ [_] _) _ _ _); refine de_one ?_) | ((with_reducible show DE _ _ (Expr.BoolOp BoolOp.And _ _) _ _ _); refine de_and ?_) | ((with_reducible show DE _ _ (Expr.BoolOp BoolOp.Or _ _) _ _ _); refine de_or ?_) | ((with_reducible show DE _ _ (Expr.UnaryOp UnaryOp.Not _ _) _ _ _); refine de_not ?_) | ((with_reducible show DE _ _ (Expr.UnaryOp _ _ _) _ _ _); refine de_un ?_) | ((with_reducible show DE _ _ (Expr.IfExp _ _ _ _) _ _ _); refine de_ifx ?_) | ((with_reducible show DE _ _ (Expr.Tuple _ _ _) _ _ _); walk_at "dtup") | ((with_reducible show DE _ _ (Expr.List _ _) _ _ _); walk_at "dlst") | ((with_reducible show DE _ _ (Expr.Dict [] [] _) _ _ _); refine de_dict0 ?_) | walk_at "dhook")
    | ((with_reducible show DA _ _ _ _ _ _); first | ((with_reducible show DA _ _ [] _ _ _); refine da_nil ?_) | ((with_reducible show DA _ _ (_ :: _) _ _ _); refine da_cons ?_))
    | ((with_reducible show BoolR _ _); refine ⟨_, rfl, ?_⟩)
    | ((with_reducible show (_ = true → _) ∧ (_ = false → _)); (refine ⟨fun h => ?_, fun h => ?_⟩ <;> try (exact Bool.noConfusion h)))
    | ((with_reducible show OpD _ _ _ _ _ _ _); first | ((with_reducible show OpD _ _ (binaryOp Operator.Add) _ _ _ _); first | refine op_addI ?_ | refine op_addT ?_) | ((with_reducible show OpD _ _ (binaryOp Operator.Sub) _ _ _ _); refine op_subI ?_) | ((with_reducible show OpD _ _ (binaryOp Operator.Mod) _ _ _ _); refine op_modI (by first | decide | assumption) ?_) | ((with_reducible show OpD _ _ (binaryOp Operator.Mult) _ _ _ _); refine op_mulI (by first | exact .inr (by decide) | exact .inl (by decide) | (exact .inl (by omega))) ?_) | ((with_reducible show OpD _ _ (binaryOp Operator.Pow) _ _ _ _); refine op_powI (by decide) (by decide) (by decide) ?_) | ((with_reducible show OpD _ _ (binaryOp Operator.FloorDiv) _ _ _ _); refine op_fdivI (by decide) (by decide) ?_) | ((with_reducible show OpD _ _ (compareOp CmpOp.Lt) _ _ _ _); refine op_ltI ?_) | ((with_reducible show OpD _ _ (compareOp CmpOp.LtE) _ _ _ _); first | refine op_leI ?_ | refine op_leS ?_) | ((with_reducible show OpD _ _ (compareOp CmpOp.Gt) _ _ _ _); refine op_gtI ?_) | ((with_reducible show OpD _ _ (compareOp CmpOp.GtE) _ _ _ _); refine op_geI ?_) | ((with_reducible show OpD _ _ (compareOp CmpOp.Eq) _ _ _ _); first | refine op_eqI ?_ | refine op_eqS ?_) | ((with_reducible show OpD _ _ (compareOp CmpOp.NotEq) _ _ _ _); first | refine op_neI ?_ | refine op_neS ?_))
    | ((with_reducible show CaD _ _ _ _ _ _); first | ((with_reducible show CaD _ _ (Value.builtin "isinstance") [_, SV.ty "int"] _ _); refine ca_isi (by assumption) (kit_int _ (by assumption)) ?_) | ((with_reducible show CaD _ _ (Value.builtin "isinstance") [_, SV.ty "bool"] _ _); refine ca_isi (by assumption) (kit_bool _ (by assumption)) ?_) | ((with_reducible show CaD _ _ (Value.builtin "isinstance") [_, SV.ty "str"] _ _); refine ca_isi (by assumption) (kit_str _ (by assumption)) ?_) | ((with_reducible show CaD _ _ (Value.builtin "isinstance") [_, SV.ty "tuple"] _ _); refine ca_isi (by assumption) (kit_tuple _ (by assumption)) ?_) | ((with_reducible show CaD _ _ (Value.builtin "isinstance") [_, SV.ty "list"] _ _); refine ca_isi (by assumption) (kit_list _ (by assumption)) ?_) | ((with_reducible show CaD _ _ (Value.builtin "isinstance") [_, SV.ty "dict"] _ _); refine ca_isi (by assumption) (kit_dict _ (by assumption)) ?_) | ((with_reducible show CaD _ _ (Value.builtin "max") _ _ _); refine ca_max2 rfl ?_) | ((with_reducible show CaD _ _ (Value.builtin "min") _ _ _); refine ca_min2 rfl ?_) | ((with_reducible show CaD _ _ (Value.builtin "len") _ _ _); first | refine ca_lenT ?_ | refine ca_lenS (by assumption) ?_ | refine ca_lenSc ?_ | refine ca_lenL (.inl rfl) ?_) | ((with_reducible show CaD _ _ (Value.type "list") _ _ _); refine ca_listT ?_) | ((with_reducible show CaD _ _ (Value.builtin "divmod") _ _ _); refine ca_divmod (by assumption) (by omega) ?_) | walk_at "dca")
    | ((with_reducible show DT _ _ _ _ _ _); first | ((with_reducible show DT _ _ (Expr.BoolOp _ _ _) _ _ _); refine dt_w ?_) | ((with_reducible show DT _ _ (Expr.UnaryOp UnaryOp.Not _ _) _ _ _); refine dt_not ?_) | ((with_reducible show DT _ _ (Expr.Compare _ [_] _ _) _ _ _); refine dt_cmp ?_) | ((with_reducible show DT _ _ (Expr.Compare _ [_, _] _ _) _ _ _); refine dt_chain ?_) | refine dt_val ?_)
    | ((with_reducible show DW _ _ _ _ _ _); first | ((with_reducible show DW _ _ (Expr.BoolOp BoolOp.And [_] _) _ _ _); refine dw_and1 ?_) | ((with_reducible show DW _ _ (Expr.BoolOp BoolOp.Or [_] _) _ _ _); refine dw_or1 ?_) | ((with_reducible show DW _ _ (Expr.BoolOp BoolOp.And _ _) _ _ _); refine dw_and ?_) | ((with_reducible show DW _ _ (Expr.BoolOp BoolOp.Or _ _) _ _ _); refine dw_or ?_))
    | ((with_reducible show DSs _ _ _ _ _ _); first | ((with_reducible show DSs _ _ [] _ _ _); refine dss_nil ?_) | ((with_reducible show DSs _ _ [_] _ _ _); refine dss_one ?_) | ((with_reducible show DSs _ _ (_ :: _) _ _ _); refine dss_cons ?_))
    | ((with_reducible show DS _ _ _ _ _ _); first | ((with_reducible show DS _ _ (Stmt.Return (some _) _) _ _ _); refine ds_ret ?_) | ((with_reducible show DS _ _ (Stmt.If _ _ _ _) _ _ _); refine ds_if ?_) | ((with_reducible show DS _ _ (Stmt.Expr _ _) _ _ _); refine ds_expr ?_) | ((with_reducible show DS _ _ (Stmt.Assign [Expr.Name _ _] _ _) _ _ _); walk_at "dset"))
    | ((with_reducible show DP _ _ none _ _ _); refine dp_none ?_)
    | ((with_reducible show DP _ _ (some _) _ _ _); refine dp_some ?_)
    | ((with_reducible show ∃ d, SV.dat _ = SV.dat d ∧ Fi d ∧ _); refine ⟨_, rfl, by assumption, ?_⟩)
    | ((with_reducible show ∃ i, SV.dat (Dt.int _) = SV.dat (Dt.int i) ∧ _); refine ⟨_, rfl, ?_⟩)
    | ((with_reducible show SlD _ _ (SV.dat (Dt.tup _)) _ _ _ _); refine sl_dT ?_)
    | ((with_reducible show ∃ ds, undat _ = some ds ∧ ds.length ≤ 1000 ∧ _); refine ⟨_, rfl, Nat.le_of_ble_eq_true rfl, ?_⟩)
    | ((with_reducible show ∃ q, SV.at _ = SV.at q ∧ _); refine ⟨_, rfl, ?_⟩)
    | ((with_reducible show ∃ z, SV.dat (Dt.str _) = SV.dat (Dt.str z) ∧ _); refine ⟨_, rfl, ?_⟩)
    | ((with_reducible show IxD _ _ (SV.at _) (SV.dat (Dt.int 0)) _ _); refine ix_pot0 (by assumption) (fun _ _ => ?_))
    | ((with_reducible show IxD _ _ (SV.at _) (SV.dat (Dt.int 1)) _ _); refine ix_pot1 (by assumption) (fun _ _ _ => ?_))
    | ((with_reducible show UnD _ _ (unaryOp UnaryOp.USub) _ _ _); refine un_negI ?_)
    | ((with_reducible show Po.nx _ _ _); dsimp only)
    | ((with_reducible show Po.rt _ _ _); dsimp only))
local macro_rules
  | `(tactic| walk_at "drun") => `(tactic| repeat' (walk_at "dstep"))

/-! ### one cell -/
def isNon : Dt → Bool
  | .non => true
  | _ => false
theorem op_isD {X : Cx} {w : Wd} {μ : Mus} {R : SV → Mus → Prop} {d : Dt} (h : R (.dat (.bl (isNon d))) μ) : OpD X w (compareOp .Is) (.dat d) (.dat .non) μ R := fun B H v u I q1 q2 Q k => by
  cases q2
  have e : decide (v = V.non) = isNon d := by cases q1 <;> simp [isNon]
  exact sO_of op_isN ⟨rfl, by rw [e]; exact k (.bl _) (.dat (.bl _)) B H μ I (Ex.refl B) (Dq.bl _) h⟩
theorem op_isnD {X : Cx} {w : Wd} {μ : Mus} {R : SV → Mus → Prop} {d : Dt} (h : R (.dat (.bl (!isNon d))) μ) : OpD X w (compareOp .IsNot) (.dat d) (.dat .non) μ R := fun B H v u I q1 q2 Q k => by
  cases q2
  have e : decide (v = V.non) = isNon d := by cases q1 <;> simp [isNon]
  exact sO_of op_notN ⟨rfl, by rw [e]; exact k (.bl _) (.dat (.bl _)) B H μ I (Ex.refl B) (Dq.bl _) h⟩
theorem op_neSame {X : Cx} {w : Wd} {μ : Mus} {R : SV → Mus → Prop} {x : Str} (h : R (.dat (.bl false)) μ) : OpD X w (compareOp .NotEq) (.dat (.str x)) (.dat (.str x)) μ R := op_neS (by rw [decide_eq_true rfl]; exact h)
theorem rt_lb {l : Tbl} (h : LbT l) (h2 : l.length ≤ 12) : RtT l := ⟨h.1, h2, fun x hx => by
  obtain ⟨m, hm, e⟩ := h.2.1 x hx
  rw [e]
  exact ⟨nm_name hm, h.2.2 x hx⟩⟩
theorem noMx_lots {d : Dt} (h : lotsD d = true) : noMx d = true := by
  cases d with
  | tup xs =>
    unfold lotsD at h
    rw [Bool.and_eq_true] at h
    obtain ⟨l, rfl, hl⟩ := go_in xs 0 h.2
    rw [noMx]
    clear h hl
    induction l with
    | nil => rfl
    | cons a l ih => rw [List.map_cons, noMxA, ih]; rfl
  | _ => simp [lotsD] at h
theorem noMx_k (E : Cl) {k : Kx} (ok : KOk k) : noMx (kD E k) = true := by
  have g : ∀ ys : List Str, (∀ y ∈ ys, lotsD (k.f y) = true) → noMxA (ys.map k.f) = true := fun ys => by
    induction ys with
    | nil => exact fun _ => rfl
    | cons y ys ih =>
      intro h
      rw [List.map_cons, noMxA, noMx_lots (h y List.mem_cons_self), ih fun z hz => h z (List.mem_cons_of_mem _ hz)]
      rfl
  unfold kD dicT
  rw [noMx, noMxA, noMx, noMxA, g k.ys ok.lo]
  rfl
theorem tl_lots {d : Dt} (h : lotsD d = true) : tl d ≤ 6 := by
  obtain ⟨xs, rfl, h6⟩ := lots_tup h
  exact h6
theorem RtT.sp {l : Tbl} (h : RtT l) : SpOk 12 6 l := ⟨h.gk, h.len, h.ok.fk, fun x hx => ⟨h.ok.fv x hx, tl_lots (h.al x hx).2⟩⟩
/-- what is spoilt -/
def Bad (w : World) (d : Dt) : Prop := (∃ l, d = mixD w l ∧ SpOk 15 20 l) ∨ NotTb d
theorem Bad.inOk {w : World} {d : Dt} (h : Bad w d) : InOk w d := by
  rcases h with ⟨l, rfl, h⟩ | h
  · exact .inl ⟨l, rfl, h.gk, by have := h.len; omega, h.fk, fun x hx => (h.fv x hx).1⟩
  · exact .inr ⟨h.no, h.nd⟩
theorem Bad.shown {w : World} {d : Dt} (h : Bad w d) : ShownL d := by
  rcases h with ⟨l, rfl, h⟩ | h
  · exact shown_tb (by have := h.len; omega) fun x hx => ⟨h.fk x hx, (h.fv x hx).1⟩
  · exact h.sh
theorem dueL_fine : ∀ (l : Tbl) {x y : Dt}, (∀ z ∈ l, fine 64 30 2 z.1) → dueL l = some (x, y) → fine 64 30 2 x ∧ fine 64 30 2 y
  | [], _, _, _, h => by cases h
  | z :: l, x, y, hl, h => by
    have hz := hl z List.mem_cons_self
    unfold dueL at h
    cases e1 : nameD z.1 with
    | false =>
      rw [e1] at h
      cases h
      exact ⟨fine_of 2 _ (by decide +kernel), hz⟩
    | true =>
      cases e2 : lotsD z.2 with
      | false =>
        rw [e1, e2] at h
        cases h
        exact ⟨fine_of 2 _ (by decide +kernel), hz⟩
      | true =>
        rw [e1, e2] at h
        exact dueL_fine l (fun u hu => hl u (List.mem_cons_of_mem _ hu)) h
theorem Bad.due {w : World} {d x y : Dt} (h : Bad w d) (hd : dueD d = some (x, y)) : ShownL (.tup [x, y]) := by
  have f : fine 64 30 2 x ∧ fine 64 30 2 y := by
    rcases h with ⟨l, rfl, h⟩ | h
    · rw [due_mix] at hd
      unfold dueT at hd
      split at hd
      · cases hd
        exact ⟨fine_of 2 _ (by decide +kernel), fine_of 2 _ (by decide +kernel)⟩
      · exact dueL_fine l h.fk hd
    · have ho := h.no
      cases d with
      | mix _ _ _ => simp [isObj'] at ho
      | _ =>
        cases hd
        exact ⟨fine_of 2 _ (by decide +kernel), fine_of 2 _ (by decide +kernel)⟩
  exact shown_fine (n := 3) (by decide) ⟨by simp, fun d hd => by
    simp only [List.mem_cons, List.not_mem_nil, or_false] at hd
    rcases hd with rfl | rfl
    · exact f.1
    · exact f.2⟩
def Pots (μ : Mus) : Prop := ∀ a o, μ a = some o → o = .pot
def spRight : Sp := GSp (fun rs μ => ∃ p, rs = [.at p] ∧ μ p = some .pot ∧ Pots μ) fun _ μ r μ' => r = .dat (.bl true) ∧ μ' = μ
set_option hygiene false in
local macro_rules
  | `(tactic| walk_at "down") => `(tactic| first | ((with_reducible show DE _ _ (Expr.Call (Expr.Name "_law_take" _) _ _ _) _ _ _); refine de_take oTake hr (by decide) hg ?_))
section
variable {P : Program} {w : World} {K : PySem.W.Frag} {mg : Str → Option Value} {base : Heap}
abbrev sRight : Stmt := top 39
abbrev nRight : List Str := ["_law_pot_here", "_law_table_here", "_law_handed", "_law_kinds", "_law_bad", "_law_due_here", "_law_kept", "_law_turn", "_law_word", "_law_told"]
theorem scRight : FnScope nRight ["_law_pot_here"] (defScope sRight) := ⟨rfl, rfl, rfl, by decide +kernel, rfl, by decide +kernel, by decide +kernel⟩
theorem right_restS {E : Cl} {f : Addr} {cdv : Value} {A : Around} {outer : List Env} {s : Shared} {H : Hp} {w' : Wd} {p : Addr} {k : Kx} {l : Tbl} {μ : Mus} (hr : Room 6 (bx P w K mg base nRight "_law_right" sRight f cdv A outer s H).A) (hg : (bx P w K mg base nRight "_law_right" sRight f cdv A outer s H).A.guards = some []) (T : Txt mg) (hp : μ p = some .pot) (rt : RtT l) (kof : Kof k l) (oTells : Own P w K mg base "_law_tells" 6 (spTells w E)) (oTried : Own P w K mg base "_law_tried" 6 (spTried w E)) (oDue : Own P w K mg base "_law_due" 3 (spDue w)) {bad : Dt} (hb : Bad w bad) (a2 : SV) {Pq : Po} (hP : Pq.rt (.dat (.bl true)) μ) :
    DS (bx P w K mg base nRight "_law_right" sRight f cdv A outer s H) w' ((defBody sRight).getD 7 (.Pass ⟨0, 0, 0, 0⟩)) [.at p, .dat (mixD w l), a2, .dat (kD E k), .dat bad, .no, .no, .no, .no, .no] μ { Pq with nx := fun ρ' μ' => DSs (bx P w K mg base nRight "_law_right" sRight f cdv A outer s H) w' ((defBody sRight).drop 8) ρ' μ' Pq } := by
  obtain ⟨t1, t2, t3, t4, t5, t6, t7, t8, t9, t10, t11, t12, t13, t14, t15, t16, t17, t18, t19, t20, t21⟩ := T
  have hN : nRight.Nodup := by decide +kernel
  refine (ds_par 5 6 rfl hN (da_cons (de_p1 oDue hr (by decide) hg (de_nm rfl ⟨_, rfl, hb.inOk, da_cons (de_repr (da_cons (de_nm rfl (da_nil (ca_reprG hr hg hb.shown (da_nil ⟨_, _, rfl, ?_⟩))))) t11)⟩))))
  refine dss_cons (ds_for (di_range1 ?_ t12) PassesOwn.never rfl)
  walk_at "drun"
  refine ⟨2, rfl, by decide, by decide, fun n ρ' μ' => μ = μ' ∧ ∃ a b c, ρ' = [.at p, .dat (mixD w l), a2, .dat (kD E k), .dat bad, .dat (dueR bad), .dat (.str (toPy bad).shown), a, b, c], ⟨rfl, _, _, _, rfl⟩, ?_, ?_⟩
  · rintro n d ρ' μ' hi ⟨rfl, a, b, c, rfl⟩
    refine dg_name 7 hN ?_
    refine dss_cons (ds_asg (de_pure oTried hr (by decide) hg (da_cons (de_nm rfl (da_nil ⟨[bad], rfl, ⟨_, rfl, hb.inOk⟩, fun dt htr => ?_⟩)))))
    obtain ⟨d', e1, htr⟩ := htr
    cases e1
    unfold triedR at htr
    cases hdu : dueD bad with
    | some xy =>
      obtain ⟨x, y⟩ := xy
      rw [hdu] at htr
      have htr : dt = .tup [chD "no", .tup [x, y]] := htr
      subst htr
      have edr : dueR bad = .tup [x, y] := by unfold dueR; rw [hdu]
      rw [edr]
      refine dg_tup rfl (dgs_cons (dg_name 8 hN (dgs_cons (dg_name 9 hN (dgs_nil ?_)) rfl)) rfl) rfl
      refine dss_cons ?_
      walk_at "drun"
      refine ca_reprG hr hg hb.shown ?_
      walk_at "drun"
      · rename_i z _
        exact absurd z (by simp)
      refine op_isnD ?_
      walk_at "drun"
      refine ca_reprG hr hg (hb.due hdu) ?_
      walk_at "drun"
      refine ca_reprG hr hg (hb.due hdu) ?_
      walk_at "drun"
      · rename_i z
        exact absurd rfl (of_decide_eq_false ((Bool.not_eq_true' _).mp z))
      refine op_isD ?_
      walk_at "drun"
      exact ⟨rfl, _, _, _, rfl⟩
    | none =>
      rw [hdu] at htr
      obtain ⟨l', k', rfl, tok, kof', rfl⟩ := htr
      have hdue' : dueT l' = none := by rw [← due_mix w]; exact hdu
      have edr : dueR (mixD w l') = .non := by unfold dueR; rw [hdu]
      rw [edr]
      refine dg_tup rfl (dgs_cons (dg_name 8 hN (dgs_cons (dg_name 9 hN (dgs_nil ?_)) rfl)) rfl) rfl
      refine dss_cons ?_
      walk_at "drun"
      refine ca_reprG hr hg hb.shown ?_
      walk_at "drun"
      · rename_i z _
        exact absurd z (by simp)
      refine op_isnD ?_
      walk_at "drun"
      refine op_isD ?_
      walk_at "drun"
      refine de_pot oTells hr (by decide) hg (da_cons (de_nm rfl (da_cons (de_nm rfl (da_cons (de_nm rfl (da_nil ⟨p, [.dat (kD E k'), .dat (mixD w l')], [kD E k', mixD w l'], rfl, rfl, hp, ⟨k', l', rfl, hdue', tok, kof'⟩, fun vd hv => ?_⟩)))))))
      subst hv
      walk_at "drun"
      exact ⟨rfl, _, _, _, rfl⟩
  · rintro ρ' μ' ⟨rfl, a, b, c, rfl⟩
    refine dss_one (ds_ret ?_)
    refine de_pot oTells hr (by decide) hg (da_cons (de_nm rfl (da_cons (de_nm rfl (da_cons (de_nm rfl (da_nil ⟨p, [.dat (kD E k), .dat (mixD w l)], [kD E k, mixD w l], rfl, rfl, hp, ⟨k, l, rfl, rt.due, rt.ok, kof⟩, fun vd hv => ?_⟩)))))))
    subst hv
    exact hP
theorem ok_right {E : Cl} {f : Addr} {fd : FuncData} (F : Fun K "_law_right" "_law_right" sRight f fd) (T : Txt mg) (Z : Kcx K mg E) (oK : OwnK P w K mg base E) (oTake : Own P w K mg base "_law_take" 1 spTake) (oTable : Own P w K mg base "_law_table" 3 (spTable w)) (oTurn : Own P w K mg base "_law_turned" 2 spTurn) (oSpo1 : Own P w K mg base "_law_spoilt" 4 (spSpoilt w 12 6)) (oSpo2 : Own P w K mg base "_law_spoilt" 4 (spSpoilt w 14 13)) (oTells : Own P w K mg base "_law_tells" 6 (spTells w E)) (oEqual : Own P w K mg base "_law_equal" 6 (spEqual w E)) (oTried : Own P w K mg base "_law_tried" 6 (spTried w E)) (oDue : Own P w K mg base "_law_due" 3 (spDue w)) : FnG P w K mg base 7 f fd ["_law_pot_here"] spRight := by
  refine fn_ok F scRight (fun rs μ ⟨p, e, _⟩ => by rw [e]; rfl) fun cdv A outer s H hr hg w' rs μ ⟨p, e, hp, pots⟩ => ?_
  subst e
  have T0 := T
  obtain ⟨t1, t2, t3, t4, t5, t6, t7, t8, t9, t10, t11, t12, t13, t14, t15, t16, t17, t18, t19, t20, t21⟩ := T
  have hN : nRight.Nodup := by decide +kernel
  obtain ⟨gk, fdk, psk, mk, fk, bk⟩ := oK.ex
  refine dss_cons (ds_set 1 hN (de_cdict (da_cons (de_pot oTurn hr (by decide) hg (da_cons (de_nm rfl (da_cons (de_listItems rfl t6 (de_pot oTable hr (by decide) hg (da_cons (de_nm rfl (da_cons (de_int (da_nil ⟨p, [.dat (.int 12)], [.int 12], rfl, rfl, hp, rfl, fun v0 hv0 => ?_⟩)))))))))))) t16))
  obtain ⟨l0, rfl, hlb, hl12⟩ := hv0
  have rt0 := rt_lb hlb hl12
  refine ⟨l0, ⟨_, rfl⟩, da_nil ⟨p, _, [.lst (l0.map Dat.pairD)], rfl, rfl, hp, ⟨_, rfl, by rw [List.length_map]; omega⟩, fun tv ht => ?_⟩⟩
  obtain ⟨xs, ys, e1, rfl, hpm⟩ := ht
  cases e1
  obtain ⟨l, rfl, pm⟩ := perm_pairs hpm
  have rt := rt0.perm pm
  have h12 := rt.len
  refine da_nil (ca_dictL hr (.inl rfl) (fun x hx => ⟨(rt.gk.ka x hx).1, (rt.gk.ka x hx).2⟩) (by omega) ?_)
  rw [merge_good rt.gk]
  refine dss_cons (ds_set 2 hN (de_cdict (da_cons (de_nm rfl (da_nil (ca_dictCopy (.inl rfl) rt.gk rt.tx fun q hq => ?_)))) t16))
  have np : p ≠ q := fun e => by rw [e, hq] at hp; cases hp
  refine dss_cons (ds_set 3 hN (de_borrow 2 rfl put_same (fun a o ne ho => ?_) fun w1 => de_kinds mk fk bk (hr.mono (by decide)) hg Z.g (de_nm rfl ⟨l, rfl, rt, fun k kof => ⟨rfl, _, rfl, noMx_k E kof.1, ?_⟩⟩)))
  · rw [put_ne ne] at ho
    exact pots a o ho
  refine dss_cons (ds_putTb hr (de_non ⟨_, rfl, de_nm rfl (de_str ⟨q, l, _, rfl, put_same, rt.gk, by omega, rfl, rfl, by rw [nk_str, NestedKey.depth]; exact Nat.zero_le _, ?_⟩)⟩))
  rw [put_twice]
  have mp : ∀ b, (μ.put q b) p = some .pot := fun b => pot_ne hp hq
  have sb : ∀ b, μ.Sub (μ.put q b) := fun b => sub_put hq
  refine dss_cons ?_
  show DS (bx P w K mg base nRight "_law_right" sRight f cdv A outer s H) w' _ [.at p, .dat (mixD w l), .at q, .dat (kD E k), .no, .no, .no, .no, .no, .no] (μ.put q (mixM w (putP l (.str "x") .non))) _
  generalize mixM w (putP l (.str "x") .non) = b
  walk_at "drun"
  refine de_pot oTells hr (by decide) hg (da_cons (de_nm rfl (da_cons (de_nm rfl (da_cons (de_nm rfl (da_nil ⟨p, [.dat (kD E k), .dat (mixD w l)], [kD E k, mixD w l], rfl, rfl, mp _, ⟨k, l, rfl, rt.due, rt.ok, kof⟩, fun vd hv => ?_⟩)))))))
  subst hv
  walk_at "drun"
  refine de_pot oEqual hr (by decide) hg (da_cons (de_nm rfl (da_cons (de_nm rfl (da_cons (de_nm rfl (da_nil ⟨p, [.dat (kD E k), .dat (mixD w l)], [kD E k, mixD w l], rfl, rfl, mp _, ⟨k, l, rfl, rt, kof⟩, fun vd hv => ?_⟩)))))))
  subst hv
  walk_at "drun"
  refine de_pot oTells hr (by decide) hg (da_cons (de_nm rfl (da_cons (de_nm rfl (da_cons (de_nm rfl (da_nil ⟨p, [.dat (kD E k), .dat (mixD w l)], [kD E k, mixD w l], rfl, rfl, mp _, ⟨k, l, rfl, rt.due, rt.ok, kof⟩, fun vd hv => ?_⟩)))))))
  subst hv
  walk_at "drun"
  have hP : ∃ ν, ν.Sub (μ.put q b) ∧ (.dat (.bl true) : SV) = .dat (.bl true) ∧ ν = μ := ⟨μ, sb b, rfl, rfl⟩
  refine ds_set 4 hN (de_pot oSpo1 hr (by decide) hg (da_cons (de_nm rfl (da_cons (de_nm rfl (da_nil ⟨p, [.dat (mixD w l)], [mixD w l], rfl, rfl, mp _, ⟨l, rfl, rt.sp⟩, fun d1 hd1 => ?_⟩))))))
  refine dss_cons (ds_if ?_)
  rcases hd1 with ⟨l1, rfl, h1⟩ | h1
  · have b1 : Bad w (mixD w l1) := .inl ⟨l1, rfl, h1.gk, by have := h1.len; omega, h1.fk, fun x hx => ⟨(h1.fv x hx).1, by have := (h1.fv x hx).2; omega⟩⟩
    walk_at "drun"
    refine ca_isTb (.inl rfl) (by decide +kernel : kitB "dict" "dict" = some true) ?_
    walk_at "drun"
    refine ⟨mp _, ⟨by decide, by decide⟩, fun v hv0 hv1 => ?_⟩
    walk_at "drun"
    · refine ds_set 4 hN (de_pot oSpo2 hr (by decide) hg (da_cons (de_nm rfl (da_cons (de_nm rfl (da_nil ⟨p, [.dat (mixD w l1)], [mixD w l1], rfl, rfl, mp _, ⟨l1, rfl, h1⟩, fun d2 hd2 => ?_⟩))))))
      have b2 : Bad w d2 := by
        rcases hd2 with ⟨l2, rfl, h2⟩ | h2
        · exact .inl ⟨l2, rfl, h2.gk, h2.len, h2.fk, h2.fv⟩
        · exact .inr h2
      refine dss_cons (right_restS hr hg T0 (mp b) rt kof oTells oTried oDue b2 (.at q) ?_)
      exact hP
    · refine right_restS hr hg T0 (mp b) rt kof oTells oTried oDue b1 (.at q) ?_
      exact hP
  · have b1 : Bad w d1 := .inr h1
    have ho := h1.no
    have hd := h1.nd
    walk_at "drun"
    · rename_i z
      rw [hd] at z; cases z
    · refine right_restS hr hg T0 (mp b) rt kof oTells oTried oDue b1 (.at q) ?_
      exact hP
end
end K12

set_option Elab.async false
set_option linter.all false
set_option maxRecDepth 100000
set_option maxHeartbeats 4000000
namespace K12
open PySem PySem.Spec PyProof.Rows L2 Dat Er Mx
local macro_rules
  | `(tactic| walk_at "down") => `(tactic| fail "none")
local macro_rules
  | `(tactic| walk_at "dset") => `(tactic| fail "none")
local macro_rules
  | `(tactic| walk_at "dhook") => `(tactic| fail "none")
local macro_rules
  | `(tactic| walk_at "dca") => `(tactic| fail "none")
local macro_rules
  | `(tactic| walk_at "dlst") => `(tactic| refine de_lst ?_)
local macro_rules
  | `(tactic| walk_at "dtup") => `(tactic| refine de_tup ?_)
local macro_rules
  | `(tactic| walk_at "dstep") => `(tactic| first
    | ((with_reducible show DE _ _ _ _ _ _); first | ((with_reducible show DE _ _ (Expr.Name _ _) _ _ _); first | ((with_reducible show DE _ _ (Expr.Name "int" _) _ _ _); refine de_ty_int (by assumption) ?_) | ((with_reducible show DE _ _ (Expr.Name "str" _) _ _ _); refine de_ty_str (by assumption) ?_) | ((with_reducible show DE _ _ (Expr.Name "bool" _) _ _ _); refine de_ty_bool (by assumption) ?_) | ((with_reducible show DE _ _ (Expr.Name "tuple" _) _ _ _); refine de_ty_tuple (by assumption) ?_) | ((with_reducible show DE _ _ (Expr.Name "list" _) _ _ _); refine de_ty_list (by assumption) ?_) | ((with_reducible show DE _ _ (Expr.Name "dict" _) _ _ _); refine de_ty_dict (by assumption) ?_) | refine de_nm rfl ?_ | refine de_globI (by assumption) ?_) | ((with_reducible show DE _ _ (Expr.Constant _ _ _) _ _ _); first | refine de_int ?_ | refine de_str ?_ | refine de_bl ?_ | refine de_non ?_) | ((with_reducible show DE _ _ (Expr.Call (Expr.Name _ _) _ _ _) _ _ _); first | ((with_reducible show DE _ _ (Expr.Call (Expr.Name "isinstance" _) _ _ _) _ _ _); refine de_isinstance ?_ (by assumption)) | ((with_reducible show DE _ _ (Expr.Call (Expr.Name "len" _) _ _ _) _ _ _); refine de_len ?_ (by assumption)) | ((with_reducible show DE _ _ (Expr.Call (Expr.Name "max" _) _ _ _) _ _ _); refine de_max ?_ (by assumption)) | ((with_reducible show DE _ _ (Expr.Call (Expr.Name "min" _) _ _ _) _ _ _); refine de_min ?_ (by assumption)) | ((with_reducible show DE _ _ (Expr.Call (Expr.Name "all" _) _ _ _) _ _ _); refine de_all ?_ (by assumption)) | ((with_reducible show DE _ _ (Expr.Call (Expr.Name "repr" _) _ _ _) _ _ _); refine de_repr ?_ (by assumption)) | ((with_reducible show DE _ _ (Expr.Call (Expr.Name "divmod" _) _ _ _) _ _ _); refine de_divmod ?_ (by assumption)) | ((with_reducible show DE _ _ (Expr.Call (Expr.Name "list" _) _ _ _) _ _ _); refine de_clist ?_ (by assumption)) | ((with_reducible show DE _ _ (Expr.Call (Expr.Name "tuple" _) _ _ _) _ _ _); refine de_ctuple ?_ (by assumption)) | ((with_reducible show DE _ _ (Expr.Call (Expr.Name "int" _) _ _ _) _ _ _); refine de_cint ?_ (by assumption)) | ((with_reducible show DE _ _ (Expr.Call (Expr.Name "str" _) _ _ _) _ _ _); refine de_cstr ?_ (by assumption)) | walk_at "down") | ((with_reducible show DE _ _ (Expr.BinOp _ _ _ _) _ _ _); refine de_op ?_) | ((with_reducible show DE _ _ (Expr.Compare _ [_] _ _) _ _ _); refine de_cmp ?_) | ((with_reducible show DE _ _ (Expr.Compare _ [_, _] _ _) _ _ _); refine de_chain ?_) | ((with_reducible show DE _ _ (Expr.Subscript _ (Expr.Slice _ _ _ _) _) _ _ _); refine de_slice ?_) | ((with_reducible show DE _ _ (Expr.Subscript _ _ _) _ _ _); refine de_ix ?_) | ((with_reducible show DE _ _ (Expr.BoolOp _ [_] _) _ _ _); refine de_one ?_) | ((with_reducible show DE _ _ (Expr.BoolOp BoolOp.And _ _) _ _ _); refine de_and ?_) | ((with_reducible show DE _ _ (Expr.BoolOp BoolOp.Or _ _) _ _ _); refine de_or ?_) | ((with_reducible show DE _ _ (Expr.UnaryOp UnaryOp.Not _ _) _ _ _); refine de_not ?_) | ((with_reducible show DE _ _ (Expr.UnaryOp _ _ _) _ _ _); refine de_un ?_) | ((with_reducible show DE _ _ (Expr.IfExp _ _ _ _) _ _ _); refine de_ifx ?_) | ((with_reducible show DE _ _ (Expr.Tuple _ _ _) _ _ _); walk_at "dtup") | ((with_reducible show DE _ _ (Expr.List _ _) _ _ _); walk_at "dlst") | ((with_reducible show DE _ _ (Expr.Dict [] [] _) _ _ _); refine de_dict0 ?_) | walk_at "dhook")
    | ((with_reducible show DA _ _ _ _ _ _); first | ((with_reducible show DA _ _ [] _ _ _); refine da_nil ?_) | ((with_reducible show DA _ _ (_ :: _) _ _ _); refine da_cons ?_))
    | ((with_reducible show BoolR _ _); refine ⟨_, rfl, ?_⟩)
    | ((with_reducible show (_ = true → _) ∧ (_ = false → _)); (refine ⟨fun h => ?_, fun h => ?_⟩ <;> try (exact Bool.noConfusion h)))
    | ((with_reducible show OpD _ _ _ _ _ _ _); first | ((with_reducible show OpD _ _ (binaryOp Operator.Add) _ _ _ _); first | refine op_addI ?_ | refine op_addT ?_) | ((with_reducible show OpD _ _ (binaryOp Operator.Sub) _ _ _ _); refine op_subI ?_) | ((with_reducible show OpD _ _ (binaryOp Operator.Mod) _ _ _ _); refine op_modI (by first | decide | assumption) ?_) | ((with_reducible show OpD _ _ (binaryOp Operator.Mult) _ _ _ _); refine op_mulI (by first | exact .inr (by decide) | exact .inl (by decide) | (exact .inl (by omega))) ?_) | ((with_reducible show OpD _ _ (binaryOp Operator.Pow) _ _ _ _); refine op_powI (by decide) (by decide) (by decide) ?_) | ((with_reducible show OpD _ _ (binaryOp Operator.FloorDiv) _ _ _ _); refine op_fdivI (by decide) (by decide) ?_) | ((with_reducible show OpD _ _ (compareOp CmpOp.Lt) _ _ _ _); refine op_ltI ?_) | ((with_reducible show OpD _ _ (compareOp CmpOp.LtE) _ _ _ _); first | refine op_leI ?_ | refine op_leS ?_) | ((with_reducible show OpD _ _ (compareOp CmpOp.Gt) _ _ _ _); refine op_gtI ?_) | ((with_reducible show OpD _ _ (compareOp CmpOp.GtE) _ _ _ _); refine op_geI ?_) | ((with_reducible show OpD _ _ (compareOp CmpOp.Eq) _ _ _ _); first | refine op_eqI ?_ | refine op_eqS ?_) | ((with_reducible show OpD _ _ (compareOp CmpOp.NotEq) _ _ _ _); first | refine op_neI ?_ | refine op_neS ?_))
    | ((with_reducible show CaD _ _ _ _ _ _); first | ((with_reducible show CaD _ _ (Value.builtin "isinstance") [_, SV.ty "int"] _ _); refine ca_isi (by assumption) (kit_int _ (by assumption)) ?_) | ((with_reducible show CaD _ _ (Value.builtin "isinstance") [_, SV.ty "bool"] _ _); refine ca_isi (by assumption) (kit_bool _ (by assumption)) ?_) | ((with_reducible show CaD _ _ (Value.builtin "isinstance") [_, SV.ty "str"] _ _); refine ca_isi (by assumption) (kit_str _ (by assumption)) ?_) | ((with_reducible show CaD _ _ (Value.builtin "isinstance") [_, SV.ty "tuple"] _ _); refine ca_isi (by assumption) (kit_tuple _ (by assumption)) ?_) | ((with_reducible show CaD _ _ (Value.builtin "isinstance") [_, SV.ty "list"] _ _); refine ca_isi (by assumption) (kit_list _ (by assumption)) ?_) | ((with_reducible show CaD _ _ (Value.builtin "isinstance") [_, SV.ty "dict"] _ _); refine ca_isi (by assumption) (kit_dict _ (by assumption)) ?_) | ((with_reducible show CaD _ _ (Value.builtin "max") _ _ _); refine ca_max2 rfl ?_) | ((with_reducible show CaD _ _ (Value.builtin "min") _ _ _); refine ca_min2 rfl ?_) | ((with_reducible show CaD _ _ (Value.builtin "len") _ _ _); first | refine ca_lenT ?_ | refine ca_lenS (by assumption) ?_ | refine ca_lenSc ?_ | refine ca_lenL (.inl rfl) ?_) | ((with_reducible show CaD _ _ (Value.type "list") _ _ _); refine ca_listT ?_) | ((with_reducible show CaD _ _ (Value.builtin "divmod") _ _ _); refine ca_divmod (by assumption) (by omega) ?_) | walk_at "dca")
    | ((with_reducible show DT _ _ _ _ _ _); first | ((with_reducible show DT _ _ (Expr.BoolOp _ _ _) _ _ _); refine dt_w ?_) | ((with_reducible show DT _ _ (Expr.UnaryOp UnaryOp.Not _ _) _ _ _); refine dt_not ?_) | ((with_reducible show DT _ _ (Expr.Compare _ [_] _ _) _ _ _); refine dt_cmp ?_) | ((with_reducible show DT _ _ (Expr.Compare _ [_, _] _ _) _ _ _); refine dt_chain ?_) | refine dt_val ?_)
    | ((with_reducible show DW _ _ _ _ _ _); first | ((with_reducible show DW _ _ (Expr.BoolOp BoolOp.And [_] _) _ _ _); refine dw_and1 ?_) | ((with_reducible show DW _ _ (Expr.BoolOp BoolOp.Or [_] _) _ _ _); refine dw_or1 ?_) | ((with_reducible show DW _ _ (Expr.BoolOp BoolOp.And _ _) _ _ _); refine dw_and ?_) | ((with_reducible show DW _ _ (Expr.BoolOp BoolOp.Or _ _) _ _ _); refine dw_or ?_))
    | ((with_reducible show DSs _ _ _ _ _ _); first | ((with_reducible show DSs _ _ [] _ _ _); refine dss_nil ?_) | ((with_reducible show DSs _ _ [_] _ _ _); refine dss_one ?_) | ((with_reducible show DSs _ _ (_ :: _) _ _ _); refine dss_cons ?_))
    | ((with_reducible show DS _ _ _ _ _ _); first | ((with_reducible show DS _ _ (Stmt.Return (some _) _) _ _ _); refine ds_ret ?_) | ((with_reducible show DS _ _ (Stmt.If _ _ _ _) _ _ _); refine ds_if ?_) | ((with_reducible show DS _ _ (Stmt.Expr _ _) _ _ _); refine ds_expr ?_) | ((with_reducible show DS _ _ (Stmt.Assign [Expr.Name _ _] _ _) _ _ _); walk_at "dset"))
    | ((with_reducible show DP _ _ none _ _ _); refine dp_none ?_)
    | ((with_reducible show DP _ _ (some _) _ _ _); refine dp_some ?_)
    | ((with_reducible show ∃ d, SV.dat _ = SV.dat d ∧ Fi d ∧ _); refine ⟨_, rfl, by assumption, ?_⟩)
    | ((with_reducible show ∃ i, SV.dat (Dt.int _) = SV.dat (Dt.int i) ∧ _); refine ⟨_, rfl, ?_⟩)
    | ((with_reducible show SlD _ _ (SV.dat (Dt.tup _)) _ _ _ _); refine sl_dT ?_)
    | ((with_reducible show ∃ ds, undat _ = some ds ∧ ds.length ≤ 1000 ∧ _); refine ⟨_, rfl, Nat.le_of_ble_eq_true rfl, ?_⟩)
    | ((with_reducible show ∃ q, SV.at _ = SV.at q ∧ _); refine ⟨_, rfl, ?_⟩)
    | ((with_reducible show ∃ z, SV.dat (Dt.str _) = SV.dat (Dt.str z) ∧ _); refine ⟨_, rfl, ?_⟩)
    | ((with_reducible show IxD _ _ (SV.at _) (SV.dat (Dt.int 0)) _ _); refine ix_pot0 (by assumption) (fun _ _ => ?_))
    | ((with_reducible show IxD _ _ (SV.at _) (SV.dat (Dt.int 1)) _ _); refine ix_pot1 (by assumption) (fun _ _ _ => ?_))
    | ((with_reducible show UnD _ _ (unaryOp UnaryOp.USub) _ _ _); refine un_negI ?_)
    | ((with_reducible show Po.nx _ _ _); dsimp only)
    | ((with_reducible show Po.rt _ _ _); dsimp only))
local macro_rules
  | `(tactic| walk_at "drun") => `(tactic| repeat' (walk_at "dstep"))

/-! ### the law -/
def spLaw (K : PySem.W.Frag) : Sp := GSp (fun rs μ => ∃ a ns, rs = [.sc K a ns] ∧ ns.length ≤ 63 ∧ Pots μ) fun rs μ r μ' => r = .dat (.bl true)
theorem Pots.put {μ : Mus} (h : Pots μ) (p : Addr) : Pots (μ.put p .pot) := fun a o ho => by
  by_cases e : a = p
  · rw [e, put_same] at ho; cases ho; rfl
  · rw [put_ne e] at ho; exact h a o ho
set_option hygiene false in
local macro_rules
  | `(tactic| walk_at "down") => `(tactic| first | ((with_reducible show DE _ _ (Expr.Call (Expr.Name "_law_right" _) _ _ _) _ _ _); refine de_own oRight hr (by decide) hg ?_) | ((with_reducible show DE _ _ (Expr.Call (Expr.Name "_law_pot" _) _ _ _) _ _ _); refine de_own oPot hr (by decide) hg ?_))
section
variable {P : Program} {w : World} {K : PySem.W.Frag} {mg : Str → Option Value} {base : Heap}
abbrev sLaw : Stmt := top 40
abbrev nLaw : List Str := ["_law_script", "_law_k"]
theorem scLaw : FnScope nLaw ["_law_script"] (defScope sLaw) := ⟨rfl, rfl, rfl, by decide +kernel, rfl, by decide +kernel, by decide +kernel⟩
theorem ok_law {f : Addr} {fd : FuncData} (F : Fun K "law" "law" sLaw f fd) (T : Txt mg) (oPot : Own P w K mg base "_law_pot" 1 (spPot K)) (oRight : Own P w K mg base "_law_right" 7 spRight) : FnG P w K mg base 8 f fd ["_law_script"] (spLaw K) := by
  refine fn_ok F scLaw (fun rs μ ⟨a, ns, e, _⟩ => by rw [e]; rfl) fun cdv A outer s H hr hg w' rs μ ⟨a, ns, e, hns, pots⟩ => ?_
  subst e
  obtain ⟨t1, t2, t3, t4, t5, t6, t7, t8, t9, t10, t11, t12, t13, t14, t15, t16, t17, t18, t19, t20, t21⟩ := T
  have hN : nLaw.Nodup := by decide +kernel
  refine dss_one ?_
  walk_at "drun"
  refine de_lc 1 rfl hN (blkOk_by (N := nLaw) (sc := defScope sLaw) (by decide +kernel)) ?_
  refine di_range1 ?_ t12
  walk_at "drun"
  refine ⟨_, rfl, by omega, by omega, ?_⟩
  have hu : (upto 0 (max 1 (min 6 (ns.length : Int))).toNat).length ≤ 6 := by simp [upto]; omega
  refine ⟨by omega, fun n acc μ' => acc = (List.replicate n true).map Dt.bl ∧ Pots μ', ⟨rfl, pots⟩, ?_, ?_⟩
  · rintro n acc d μ2 hd _ ⟨rfl, ps⟩ w2 k
    have h1 := (List.getElem?_eq_some_iff.mp hd).1
    have hdv : d = .int (0 + (n : Int)) := by
      unfold upto at hd
      rw [List.getElem?_map, List.getElem?_range (by simpa [upto] using h1)] at hd
      exact (Option.some.inj hd).symm
    subst hdv
    refine dq_nil ⟨fun _ kc => ?_, nofun⟩
    walk_at "drun"
    refine ⟨⟨a, ns, _, rfl, by omega, by omega, by omega⟩, ?_⟩
    rintro r μ3 ⟨p, rfl, hq0, rfl⟩
    refine da_nil ⟨⟨p, rfl, put_same, ps.put p⟩, ?_⟩
    rintro r μ4 ⟨rfl, rfl⟩
    refine ⟨_, rfl, ?_, ps.put p⟩
    show _ = (List.replicate (n + 1) true).map Dt.bl
    rw [List.replicate_succ', List.map_append]
    rfl
  · rintro acc μ' ⟨rfl, _⟩ hlen
    walk_at "drun"
    refine ca_all rfl (.inl rfl) ?_
    have e : ∀ n : Nat, (List.replicate n true).all id = true := fun n => by simp
    rw [e]
    exact ⟨_, Mus.Sub.refl _, rfl⟩
end
end K12

set_option Elab.async false
set_option linter.all false
set_option maxRecDepth 100000
set_option maxHeartbeats 4000000
/-! K19y: what is asked of the written part, as truths. -/
namespace Er
open PySem PySem.Spec PyProof.Rows L2 Dat
def isB (K : PySem.W.Frag) (C : Addr) : Bool :=
  (PySem.W.clsIn K C).isSome && decide (PySem.W.findIn K (.ref C) "__getattribute__" = some (some (.builtin "BaseException.__getattribute__"))) && decide (PySem.W.findIn K (.ref C) "__getattr__" = some none) && decide (PySem.W.subIn K (.ref C) (.type "BaseException") = some true) &&
  decide (PySem.W.findIn K (.ref C) "__class__" = some (some (.builtin "object.__class__"))) && decide (PySem.W.specialIn K (.builtin "object.__class__") "__get__" = some (some (.builtin "getset_descriptor.__get__"))) && decide (PySem.W.takesIn K (.builtin "object.__class__") = some true) && decide (PySem.W.mroIn K C (.type "object") = some true)
theorem isB_ok {K : PySem.W.Frag} {C : Addr} (h : isB K C = true) : IsC K C := by
  unfold isB at h
  simp only [Bool.and_eq_true, decide_eq_true_eq] at h
  obtain ⟨⟨⟨⟨⟨⟨⟨h1, h2⟩, h3⟩, h4⟩, h5⟩, h6⟩, h7⟩, h8⟩ := h
  exact ⟨h1, h2, h3, h4, h5, h6, h7, h8⟩
/-- of a class with fields -/
def efB (K : PySem.W.Frag) (C fI : Addr) (bmB : List Value) (newId i B : String) (fs : List Str) : Bool :=
  PySem.W.excInitIn K C bmB newId && decide (PySem.W.ks_superIn K C C "__init__" = some (some (.builtin i))) && decide (PySem.W.mroIn K C (.ref C) = some true) && decide (PySem.W.subIn K (.ref C) (.type B) = some true) && decide (PySem.W.nsIn K cStatics "thirdparty.any" = some none) &&
  decide (PySem.W.findIn K (.ref C) "__setattr__" = some (some (.builtin "object.__setattr__"))) && PySem.W.excOver K C bmB && PySem.W.hasDictIn K C && xfB K C && decide (PySem.W.typeIn K (.ref fI) = some (.type "function")) && fs.all fun f => decide (PySem.W.findIn K (.ref C) f = some none) && decide (PySem.W.takerIn K C f = some none)
structure EfOk (K : PySem.W.Frag) (C fI : Addr) (bmB : List Value) (newId i B BN : String) (fs : List Str) : Prop where
  c : ClsE K C bmB BN B i newId
  s : StE K C bmB
  x : XfC K C
  t : PySem.W.typeIn K (.ref fI) = some (.type "function")
  f : ∀ f, f ∈ fs → PySem.W.findIn K (.ref C) f = some none ∧ PySem.W.takerIn K C f = some none
theorem efB_ok {K : PySem.W.Frag} {C fI : Addr} {bmB : List Value} {newId i B BN : String} {fs : List Str} (tl : Tl BN bmB) (h : efB K C fI bmB newId i B fs = true) : EfOk K C fI bmB newId i B BN fs := by
  unfold efB at h
  simp only [Bool.and_eq_true, decide_eq_true_eq, List.all_eq_true] at h
  obtain ⟨⟨⟨⟨⟨⟨⟨⟨⟨⟨h1, h2⟩, h3⟩, h4⟩, h5⟩, h6⟩, h7⟩, h8⟩, h9⟩, h10⟩, h11⟩ := h
  exact ⟨⟨h1, tl, h2, h3, h4, h5⟩, ⟨h6, h7, h8⟩, xfB_ok h9, h10, h11⟩
def fileB (p : Program) (K : PySem.W.Frag) (c : Addr) : Bool := match K.lookup c with
  | some ⟨_, _, Data.fields (vs : Array Value), _⟩ => (match (vs[2]? : Option Value) with | some (Value.str file _) => (p.main.file : Str) == file | _ => false)
  | _ => false
theorem fileB_ok {p : Program} {K : PySem.W.Frag} {c : Addr} (h : fileB p K c = true) : ∃ ccl cdd vs ccs file tf, K.lookup c = some ⟨ccl, cdd, .fields vs, ccs⟩ ∧ vs[2]? = some (.str file tf) ∧ ((p.main.file : Str) == file) = true := by
  unfold fileB at h
  split at h
  · rename_i a b vs d e
    split at h
    · rename_i file tf q
      exact ⟨_, _, _, _, _, _, e, q, h⟩
    · cases h
  · cases h
def cellB (K : PySem.W.Frag) (c C : Addr) : Bool := match K.lookup c with
  | some ⟨_, _, .cell (some (.ref D)), _⟩ => D == C
  | _ => false
theorem cellB_ok {K : PySem.W.Frag} {c C : Addr} (h : cellB K c C = true) : ∃ cl cld csl, K.lookup c = some ⟨cl, cld, .cell (some (.ref C)), csl⟩ := by
  unfold cellB at h
  split at h
  · rename_i a b D d e
    have := beq_iff_eq.mp h
    subst this
    exact ⟨_, _, _, e⟩
  · cases h
def topB (p : Program) : Bool := !(p.main.scope.names.lookup ("super" : Str)).isSome
end Er

set_option Elab.async false
set_option linter.all false
set_option maxRecDepth 100000
set_option maxHeartbeats 4000000
/-! K12u: what is asked of the written part, as truths. -/
namespace K12
open PySem PySem.Spec PyProof.Rows L2 Dat Er Mx
def kcB (K : PySem.W.Frag) (C : Addr) : Bool :=
  PySem.W.plainGet K C Str.empty && PySem.W.hasDictIn K C && PySem.W.plainOver K C && decide (PySem.W.findIn K (.ref C) "__setattr__" = some (some (.builtin "object.__setattr__"))) &&
  tyL.all (fun T => decide (PySem.W.subIn K (.ref C) (.type T) = some false)) && decide (PySem.W.subIn K (.ref C) (.type "object") = some true) && decide (PySem.W.findIn K (.ref C) "__ne__" = some (some (.builtin "object.__ne__"))) &&
  decide (PySem.W.findIn K (.ref C) "__class__" = some (some (.builtin "object.__class__"))) && decide (PySem.W.specialIn K (.builtin "object.__class__") "__get__" = some (some (.builtin "getset_descriptor.__get__"))) && decide (PySem.W.takesIn K (.builtin "object.__class__") = some true) &&
  decide (PySem.W.mroIn K C (.type "object") = some true) && decide (PySem.W.kitOne K (.ref C) (.ref C) = some true) && tyL.all (fun T => decide (PySem.W.kitOne K (.type T) (.ref C) = some false)) && decide (PySem.W.findIn K (.ref C) "_table" = some none) && PySem.W.makesIn K C
theorem kcB_ok {K : PySem.W.Frag} {C : Addr} (h : kcB K C = true) : NoAttr K C "_table" ∧ OwnC K C ∧ OwnI K C ∧ PySem.W.makesIn K C = true := by
  unfold kcB at h
  simp only [Bool.and_eq_true, decide_eq_true_eq, List.all_eq_true] at h
  obtain ⟨⟨⟨⟨⟨⟨⟨⟨⟨⟨⟨⟨⟨⟨h1, h2⟩, h3⟩, h4⟩, h5⟩, h6⟩, h7⟩, h8⟩, h9⟩, h10⟩, h11⟩, h12⟩, h13⟩, h14⟩, h15⟩ := h
  have c : Cls K C := ⟨h1, h2, h3, h4⟩
  exact ⟨h14, ⟨c, h5, h6, h7⟩, ⟨c, h8, h9, h10, h11, h12, h13⟩, h15⟩
/-- of the two errors that are caught -/
def ctB (K : PySem.W.Frag) (E : Cl) : Bool :=
  decide (PySem.W.exmOne K (.ref E.nk) (.ref E.fe) = some true) && decide (PySem.W.kitOne K (.ref E.nk) (.ref E.nk) = some true) && decide (PySem.W.kitOne K (.ref E.nk) (.type "ValueError") = some true) &&
  decide (PySem.W.kitAny K (.ref E.nk) (([E.nb, E.nc, E.nh, E.nr, E.nt, E.nw, E.nx] : List Addr).map Value.ref) = some false) && decide (PySem.W.exmOne K (.ref E.ki) (.ref E.fe) = some false) && decide (PySem.W.exmOne K (.ref E.ki) (.ref E.ki) = some true) &&
  decide (PySem.W.kitOne K (.ref E.ki) (.type "KeyError") = some true) && decide (PySem.W.subIn K (.ref E.nk) (.type "BaseException") = some true) && decide (PySem.W.typeIn K (.ref E.nk) = some (.type "type")) && decide (PySem.W.subIn K (.ref E.ki) (.type "BaseException") = some true) && decide (PySem.W.typeIn K (.ref E.ki) = some (.type "type"))
structure CtOk (K : PySem.W.Frag) (E : Cl) : Prop where
  c1 : PySem.W.exmOne K (.ref E.nk) (.ref E.fe) = some true
  c2 : PySem.W.kitOne K (.ref E.nk) (.ref E.nk) = some true
  c3 : PySem.W.kitOne K (.ref E.nk) (.type "ValueError") = some true
  c4 : PySem.W.kitAny K (.ref E.nk) (([E.nb, E.nc, E.nh, E.nr, E.nt, E.nw, E.nx] : List Addr).map Value.ref) = some false
  c5 : PySem.W.exmOne K (.ref E.ki) (.ref E.fe) = some false
  c6 : PySem.W.exmOne K (.ref E.ki) (.ref E.ki) = some true
  c7 : PySem.W.kitOne K (.ref E.ki) (.type "KeyError") = some true
  c8 : PySem.W.subIn K (.ref E.nk) (.type "BaseException") = some true
  c9 : PySem.W.typeIn K (.ref E.nk) = some (.type "type")
  c10 : PySem.W.subIn K (.ref E.ki) (.type "BaseException") = some true
  c11 : PySem.W.typeIn K (.ref E.ki) = some (.type "type")
theorem ctB_ok {K : PySem.W.Frag} {E : Cl} (h : ctB K E = true) : CtOk K E := by
  unfold ctB at h
  simp only [Bool.and_eq_true, decide_eq_true_eq] at h
  obtain ⟨⟨⟨⟨⟨⟨⟨⟨⟨⟨h1, h2⟩, h3⟩, h4⟩, h5⟩, h6⟩, h7⟩, h8⟩, h9⟩, h10⟩, h11⟩ := h
  exact ⟨h1, h2, h3, h4, h5, h6, h7, h8, h9, h10, h11⟩
end K12

set_option Elab.async false
set_option linter.all false
set_option maxRecDepth 100000
set_option maxHeartbeats 4000000
namespace K12
open PySem L2 Dat Er

abbrev i_nk : Stmt := (cbody (top 2)).getD 0 (.Pass ⟨0, 0, 0, 0⟩)
abbrev i_ki : Stmt := (cbody (top 10)).getD 0 (.Pass ⟨0, 0, 0, 0⟩)
theorem all_mk {l : PySem.W.OpenLaw} {w : World} {K : PySem.W.Frag} {h : Heap} {mg : Str → Option Value} {fa a_fe a_nk a_ki a_kc a_nb a_nc a_nh a_nr a_nt a_nw a_nx f_nk d_nk c_nk f_ki d_ki c_ki f0 f1 f2 f3 f4 f5 f6 f7 f8 f9 f10 f11 f12 f13 f14 f15 f16 f17 f18 f19 f20 f21 f22 f23 fm0 fm1 fm2 fm3 fm4 fm5 fm6 fm7 : Addr} (X : K.In h) (G : h.Ns mainGlobals mg) (hfa : mg "law" = some (.ref fa))
    {od0 an0 od1 an1 od2 an2 od3 an3 od4 an4 od5 an5 od6 an6 od7 an7 od8 an8 od9 an9 od10 an10 od11 an11 od12 an12 od13 an13 od14 an14 od15 an15 od16 an16 od17 an17 od18 an18 od19 an19 od20 an20 od21 an21 od22 an22 od23 an23 odm0 anm0 odm1 anm1 odm2 anm2 odm3 anm3 odm4 anm4 odm5 anm5 odm6 anm6 odm7 anm7 od_nk an_nk od_ki an_ki : Option Addr} {sl0 sl1 sl2 sl3 sl4 sl5 sl6 sl7 sl8 sl9 sl10 sl11 sl12 sl13 sl14 sl15 sl16 sl17 sl18 sl19 sl20 sl21 sl22 sl23 slm0 slm1 slm2 slm3 slm4 slm5 slm6 slm7 sl_nk sl_ki : Array (Option Value)} {oc0 kV0 dc0 pm0 ct0 oc1 kV1 dc1 pm1 ct1 oc2 kV2 dc2 pm2 ct2 oc3 kV3 dc3 pm3 ct3 oc4 kV4 dc4 pm4 ct4 oc5 kV5 dc5 pm5 ct5 oc6 kV6 dc6 pm6 ct6 oc7 kV7 dc7 pm7 ct7 oc8 kV8 dc8 pm8 ct8 oc9 kV9 dc9 pm9 ct9 oc10 kV10 dc10 pm10 ct10 oc11 kV11 dc11 pm11 ct11 oc12 kV12 dc12 pm12 ct12 oc13 kV13 dc13 pm13 ct13 oc14 kV14 dc14 pm14 ct14 oc15 kV15 dc15 pm15 ct15 oc16 kV16 dc16 pm16 ct16 oc17 kV17 dc17 pm17 ct17 oc18 kV18 dc18 pm18 ct18 oc19 kV19 dc19 pm19 ct19 oc20 kV20 dc20 pm20 ct20 oc21 kV21 dc21 pm21 ct21 oc22 kV22 dc22 pm22 ct22 oc23 kV23 dc23 pm23 ct23 ocm0 kVm0 dcm0 pmm0 ctm0 ocm1 kVm1 dcm1 pmm1 ctm1 ocm2 kVm2 dcm2 pmm2 ctm2 ocm3 kVm3 dcm3 pmm3 ctm3 ocm4 kVm4 dcm4 pmm4 ctm4 ocm5 kVm5 dcm5 pmm5 ctm5 ocm6 kVm6 dcm6 pmm6 ctm6 ocm7 kVm7 dcm7 pmm7 ctm7 oc_nk kV_nk dc_nk pm_nk ct_nk oc_ki kV_ki dc_ki pm_ki ct_ki cd0 cd1 cd2 cd3 cd4 cd5 cd6 cd7 cd8 cd9 cd10 cd11 cd12 cd13 cd14 cd15 cd16 cd17 cd18 cd19 cd20 cd21 cd22 cd23 cdm0 cdm1 cdm2 cdm3 cdm4 cdm5 cdm6 cdm7 : Value} {tk0 tk1 tk2 : Tok}
    (a0 : PySem.W.nsIn K mainGlobals "is_whole" = some (some (.ref f0)))
    (l0 : K.lookup f0 = some ⟨oc0, od0, .func (PySem.W.fnOf "is_whole" "is_whole" (defArgs sWhole) (defBody sWhole) (defScope sWhole) .none kV0 dc0 pm0 an0 cd0 ct0), sl0⟩)
    (c0 : PySem.W.codeIn K cd0 "is_whole" = true)
    (k0 : PySem.W.keepIn K (.ref f0) = true)
    (a1 : PySem.W.nsIn K mainGlobals "is_name" = some (some (.ref f1)))
    (l1 : K.lookup f1 = some ⟨oc1, od1, .func (PySem.W.fnOf "is_name" "is_name" (defArgs sName) (defBody sName) (defScope sName) .none kV1 dc1 pm1 an1 cd1 ct1), sl1⟩)
    (c1 : PySem.W.codeIn K cd1 "is_name" = true)
    (k1 : PySem.W.keepIn K (.ref f1) = true)
    (a2 : PySem.W.nsIn K mainGlobals "is_lots" = some (some (.ref f2)))
    (l2 : K.lookup f2 = some ⟨oc2, od2, .func (PySem.W.fnOf "is_lots" "is_lots" (defArgs sLots) (defBody sLots) (defScope sLots) .none kV2 dc2 pm2 an2 cd2 ct2), sl2⟩)
    (c2 : PySem.W.codeIn K cd2 "is_lots" = true)
    (k2 : PySem.W.keepIn K (.ref f2) = true)
    (a3 : PySem.W.nsIn K mainGlobals "_check_table" = some (some (.ref f3)))
    (l3 : K.lookup f3 = some ⟨oc3, od3, .func (PySem.W.fnOf "_check_table" "_check_table" (defArgs sCheck) (defBody sCheck) (defScope sCheck) .none kV3 dc3 pm3 an3 cd3 ct3), sl3⟩)
    (c3 : PySem.W.codeIn K cd3 "_check_table" = true)
    (k3 : PySem.W.keepIn K (.ref f3) = true)
    (a4 : PySem.W.nsIn K mainGlobals "_law_pot" = some (some (.ref f4)))
    (l4 : K.lookup f4 = some ⟨oc4, od4, .func (PySem.W.fnOf "_law_pot" "_law_pot" (defArgs sPot) (defBody sPot) (defScope sPot) .none kV4 dc4 pm4 an4 cd4 ct4), sl4⟩)
    (c4 : PySem.W.codeIn K cd4 "_law_pot" = true)
    (k4 : PySem.W.keepIn K (.ref f4) = true)
    (a5 : PySem.W.nsIn K mainGlobals "_law_take" = some (some (.ref f5)))
    (l5 : K.lookup f5 = some ⟨oc5, od5, .func (PySem.W.fnOf "_law_take" "_law_take" (defArgs sTake) (defBody sTake) (defScope sTake) .none kV5 dc5 pm5 an5 cd5 ct5), sl5⟩)
    (c5 : PySem.W.codeIn K cd5 "_law_take" = true)
    (k5 : PySem.W.keepIn K (.ref f5) = true)
    (a6 : PySem.W.nsIn K mainGlobals "_law_label" = some (some (.ref f6)))
    (l6 : K.lookup f6 = some ⟨oc6, od6, .func (PySem.W.fnOf "_law_label" "_law_label" (defArgs sNew) (defBody sNew) (defScope sNew) .none kV6 dc6 pm6 an6 cd6 ct6), sl6⟩)
    (c6 : PySem.W.codeIn K cd6 "_law_label" = true)
    (k6 : PySem.W.keepIn K (.ref f6) = true)
    (a7 : PySem.W.nsIn K mainGlobals "_law_lots" = some (some (.ref f7)))
    (l7 : K.lookup f7 = some ⟨oc7, od7, .func (PySem.W.fnOf "_law_lots" "_law_lots" (defArgs sDraw) (defBody sDraw) (defScope sDraw) .none kV7 dc7 pm7 an7 cd7 ct7), sl7⟩)
    (c7 : PySem.W.codeIn K cd7 "_law_lots" = true)
    (k7 : PySem.W.keepIn K (.ref f7) = true)
    (a8 : PySem.W.nsIn K mainGlobals "_law_turned" = some (some (.ref f8)))
    (l8 : K.lookup f8 = some ⟨oc8, od8, .func (PySem.W.fnOf "_law_turned" "_law_turned" (defArgs sTurn) (defBody sTurn) (defScope sTurn) .none kV8 dc8 pm8 an8 cd8 ct8), sl8⟩)
    (c8 : PySem.W.codeIn K cd8 "_law_turned" = true)
    (k8 : PySem.W.keepIn K (.ref f8) = true)
    (a9 : PySem.W.nsIn K mainGlobals "_law_odd" = some (some (.ref f9)))
    (l9 : K.lookup f9 = some ⟨oc9, od9, .func (PySem.W.fnOf "_law_odd" "_law_odd" (defArgs sOdd) (defBody sOdd) (defScope sOdd) .none kV9 dc9 pm9 an9 cd9 ct9), sl9⟩)
    (c9 : PySem.W.codeIn K cd9 "_law_odd" = true)
    (k9 : PySem.W.keepIn K (.ref f9) = true)
    (a10 : PySem.W.nsIn K mainGlobals "_law_is_label" = some (some (.ref f10)))
    (l10 : K.lookup f10 = some ⟨oc10, od10, .func (PySem.W.fnOf "_law_is_label" "_law_is_label" (defArgs sLabel) (defBody sLabel) (defScope sLabel) .none kV10 dc10 pm10 an10 cd10 ct10), sl10⟩)
    (c10 : PySem.W.codeIn K cd10 "_law_is_label" = true)
    (k10 : PySem.W.keepIn K (.ref f10) = true)
    (a11 : PySem.W.nsIn K mainGlobals "_law_is_whole" = some (some (.ref f11)))
    (l11 : K.lookup f11 = some ⟨oc11, od11, .func (PySem.W.fnOf "_law_is_whole" "_law_is_whole" (defArgs sInl) (defBody sInl) (defScope sInl) .none kV11 dc11 pm11 an11 cd11 ct11), sl11⟩)
    (c11 : PySem.W.codeIn K cd11 "_law_is_whole" = true)
    (k11 : PySem.W.keepIn K (.ref f11) = true)
    (a12 : PySem.W.nsIn K mainGlobals "_law_are_lots" = some (some (.ref f12)))
    (l12 : K.lookup f12 = some ⟨oc12, od12, .func (PySem.W.fnOf "_law_are_lots" "_law_are_lots" (defArgs sLLots) (defBody sLLots) (defScope sLLots) .none kV12 dc12 pm12 an12 cd12 ct12), sl12⟩)
    (c12 : PySem.W.codeIn K cd12 "_law_are_lots" = true)
    (k12 : PySem.W.keepIn K (.ref f12) = true)
    (a13 : PySem.W.nsIn K mainGlobals "_law_table" = some (some (.ref f13)))
    (l13 : K.lookup f13 = some ⟨oc13, od13, .func (PySem.W.fnOf "_law_table" "_law_table" (defArgs sTable) (defBody sTable) (defScope sTable) .none kV13 dc13 pm13 an13 cd13 ct13), sl13⟩)
    (c13 : PySem.W.codeIn K cd13 "_law_table" = true)
    (k13 : PySem.W.keepIn K (.ref f13) = true)
    (a14 : PySem.W.nsIn K mainGlobals "_law_due" = some (some (.ref f14)))
    (l14 : K.lookup f14 = some ⟨oc14, od14, .func (PySem.W.fnOf "_law_due" "_law_due" (defArgs sDue) (defBody sDue) (defScope sDue) .none kV14 dc14 pm14 an14 cd14 ct14), sl14⟩)
    (c14 : PySem.W.codeIn K cd14 "_law_due" = true)
    (k14 : PySem.W.keepIn K (.ref f14) = true)
    (a15 : PySem.W.nsIn K mainGlobals "_law_key" = some (some (.ref f15)))
    (l15 : K.lookup f15 = some ⟨oc15, od15, .func (PySem.W.fnOf "_law_key" "_law_key" (defArgs sKey) (defBody sKey) (defScope sKey) .none kV15 dc15 pm15 an15 cd15 ct15), sl15⟩)
    (c15 : PySem.W.codeIn K cd15 "_law_key" = true)
    (k15 : PySem.W.keepIn K (.ref f15) = true)
    (a16 : PySem.W.nsIn K mainGlobals "_law_no_lots" = some (some (.ref f16)))
    (l16 : K.lookup f16 = some ⟨oc16, od16, .func (PySem.W.fnOf "_law_no_lots" "_law_no_lots" (defArgs sNoL) (defBody sNoL) (defScope sNoL) .none kV16 dc16 pm16 an16 cd16 ct16), sl16⟩)
    (c16 : PySem.W.codeIn K cd16 "_law_no_lots" = true)
    (k16 : PySem.W.keepIn K (.ref f16) = true)
    (a17 : PySem.W.nsIn K mainGlobals "_law_spoilt" = some (some (.ref f17)))
    (l17 : K.lookup f17 = some ⟨oc17, od17, .func (PySem.W.fnOf "_law_spoilt" "_law_spoilt" (defArgs sSpo) (defBody sSpo) (defScope sSpo) .none kV17 dc17 pm17 an17 cd17 ct17), sl17⟩)
    (c17 : PySem.W.codeIn K cd17 "_law_spoilt" = true)
    (k17 : PySem.W.keepIn K (.ref f17) = true)
    (a18 : PySem.W.nsIn K mainGlobals "_law_tried" = some (some (.ref f18)))
    (l18 : K.lookup f18 = some ⟨oc18, od18, .func (PySem.W.fnOf "_law_tried" "_law_tried" (defArgs sTried) (defBody sTried) (defScope sTried) .none kV18 dc18 pm18 an18 cd18 ct18), sl18⟩)
    (c18 : PySem.W.codeIn K cd18 "_law_tried" = true)
    (k18 : PySem.W.keepIn K (.ref f18) = true)
    (a19 : PySem.W.nsIn K mainGlobals "_law_missing" = some (some (.ref f19)))
    (l19 : K.lookup f19 = some ⟨oc19, od19, .func (PySem.W.fnOf "_law_missing" "_law_missing" (defArgs sMiss) (defBody sMiss) (defScope sMiss) .none kV19 dc19 pm19 an19 cd19 ct19), sl19⟩)
    (c19 : PySem.W.codeIn K cd19 "_law_missing" = true)
    (k19 : PySem.W.keepIn K (.ref f19) = true)
    (a20 : PySem.W.nsIn K mainGlobals "_law_tells" = some (some (.ref f20)))
    (l20 : K.lookup f20 = some ⟨oc20, od20, .func (PySem.W.fnOf "_law_tells" "_law_tells" (defArgs sTells) (defBody sTells) (defScope sTells) .none kV20 dc20 pm20 an20 cd20 ct20), sl20⟩)
    (c20 : PySem.W.codeIn K cd20 "_law_tells" = true)
    (k20 : PySem.W.keepIn K (.ref f20) = true)
    (a21 : PySem.W.nsIn K mainGlobals "_law_equal" = some (some (.ref f21)))
    (l21 : K.lookup f21 = some ⟨oc21, od21, .func (PySem.W.fnOf "_law_equal" "_law_equal" (defArgs sEqual) (defBody sEqual) (defScope sEqual) .none kV21 dc21 pm21 an21 cd21 ct21), sl21⟩)
    (c21 : PySem.W.codeIn K cd21 "_law_equal" = true)
    (k21 : PySem.W.keepIn K (.ref f21) = true)
    (a22 : PySem.W.nsIn K mainGlobals "_law_right" = some (some (.ref f22)))
    (l22 : K.lookup f22 = some ⟨oc22, od22, .func (PySem.W.fnOf "_law_right" "_law_right" (defArgs sRight) (defBody sRight) (defScope sRight) .none kV22 dc22 pm22 an22 cd22 ct22), sl22⟩)
    (c22 : PySem.W.codeIn K cd22 "_law_right" = true)
    (k22 : PySem.W.keepIn K (.ref f22) = true)
    (a23 : PySem.W.nsIn K mainGlobals "law" = some (some (.ref f23)))
    (l23 : K.lookup f23 = some ⟨oc23, od23, .func (PySem.W.fnOf "law" "law" (defArgs sLaw) (defBody sLaw) (defScope sLaw) .none kV23 dc23 pm23 an23 cd23 ct23), sl23⟩)
    (c23 : PySem.W.codeIn K cd23 "law" = true)
    (k23 : PySem.W.keepIn K (.ref f23) = true)
    (z0 : PySem.W.nsIn K mainGlobals "isinstance" = some none)
    (z1 : PySem.W.nsIn K mainGlobals "int" = some none)
    (z2 : PySem.W.nsIn K mainGlobals "bool" = some none)
    (z3 : PySem.W.nsIn K mainGlobals "str" = some none)
    (z4 : PySem.W.nsIn K mainGlobals "tuple" = some none)
    (z5 : PySem.W.nsIn K mainGlobals "list" = some none)
    (z6 : PySem.W.nsIn K mainGlobals "len" = some none)
    (z7 : PySem.W.nsIn K mainGlobals "all" = some none)
    (z8 : PySem.W.nsIn K mainGlobals "max" = some none)
    (z9 : PySem.W.nsIn K mainGlobals "min" = some none)
    (z10 : PySem.W.nsIn K mainGlobals "repr" = some none)
    (z11 : PySem.W.nsIn K mainGlobals "range" = some none)
    (z12 : PySem.W.nsIn K mainGlobals "divmod" = some none)
    (z13 : PySem.W.nsIn K mainGlobals "any" = some none)
    (z14 : PySem.W.nsIn K mainGlobals "sorted" = some none)
    (z15 : PySem.W.nsIn K mainGlobals "dict" = some none)
    (z16 : PySem.W.nsIn K mainGlobals "ValueError" = some none)
    (z17 : PySem.W.nsIn K mainGlobals "KeyError" = some none)
    (z18 : PySem.W.nsIn K mainGlobals "super" = some none)
    (q0 : PySem.W.nsIn K mainGlobals "MOST_LETTERS" = some (some (.int 8 tk0)))
    (q1 : PySem.W.nsIn K mainGlobals "MOST_HANDS" = some (some (.int 6 tk1)))
    (q2 : PySem.W.nsIn K mainGlobals "MOST_KINDS" = some (some (.int 12 tk2)))
    (e_fe : PySem.W.nsIn K mainGlobals "FacerError" = some (some (.ref a_fe)))
    (e_nk : PySem.W.nsIn K mainGlobals "NoKinds" = some (some (.ref a_nk)))
    (ek_nk : PySem.W.keepIn K (.ref a_nk) = true)
    (e_ki : PySem.W.nsIn K mainGlobals "NoKind" = some (some (.ref a_ki)))
    (ek_ki : PySem.W.keepIn K (.ref a_ki) = true)
    (e_kc : PySem.W.nsIn K mainGlobals "Kinds" = some (some (.ref a_kc)))
    (ek_kc : PySem.W.keepIn K (.ref a_kc) = true)
    (e_nb : PySem.W.nsIn K mainGlobals "NoBook" = some (some (.ref a_nb)))
    (e_nc : PySem.W.nsIn K mainGlobals "NoCount" = some (some (.ref a_nc)))
    (e_nh : PySem.W.nsIn K mainGlobals "NoHeap" = some (some (.ref a_nh)))
    (e_nr : PySem.W.nsIn K mainGlobals "NoRow" = some (some (.ref a_nr)))
    (e_nt : PySem.W.nsIn K mainGlobals "NoText" = some (some (.ref a_nt)))
    (e_nw : PySem.W.nsIn K mainGlobals "NoWeb" = some (some (.ref a_nw)))
    (e_nx : PySem.W.nsIn K mainGlobals "NoWish" = some (some (.ref a_nx)))
    (am0 : PySem.W.findIn K (.ref a_kc) "__init__" = some (some (.ref fm0)))
    (lm0 : K.lookup fm0 = some ⟨ocm0, odm0, .func (PySem.W.fnOf "__init__" "Kinds.__init__" (defArgs sInit) (defBody sInit) (defScope sInit) .none kVm0 dcm0 pmm0 anm0 cdm0 ctm0), slm0⟩)
    (cm0 : PySem.W.codeIn K cdm0 "Kinds.__init__" = true)
    (km0 : PySem.W.keepIn K (.ref fm0) = true)
    (im0 : PySem.W.isFn K (.ref fm0) = true)
    (am1 : PySem.W.findIn K (.ref a_kc) "words" = some (some (.ref fm1)))
    (lm1 : K.lookup fm1 = some ⟨ocm1, odm1, .func (PySem.W.fnOf "words" "Kinds.words" (defArgs sWords) (defBody sWords) (defScope sWords) .none kVm1 dcm1 pmm1 anm1 cdm1 ctm1), slm1⟩)
    (cm1 : PySem.W.codeIn K cdm1 "Kinds.words" = true)
    (km1 : PySem.W.keepIn K (.ref fm1) = true)
    (im1 : PySem.W.isFn K (.ref fm1) = true)
    (am2 : PySem.W.findIn K (.ref a_kc) "has" = some (some (.ref fm2)))
    (lm2 : K.lookup fm2 = some ⟨ocm2, odm2, .func (PySem.W.fnOf "has" "Kinds.has" (defArgs sHas) (defBody sHas) (defScope sHas) .none kVm2 dcm2 pmm2 anm2 cdm2 ctm2), slm2⟩)
    (cm2 : PySem.W.codeIn K cdm2 "Kinds.has" = true)
    (km2 : PySem.W.keepIn K (.ref fm2) = true)
    (im2 : PySem.W.isFn K (.ref fm2) = true)
    (am3 : PySem.W.findIn K (.ref a_kc) "hands" = some (some (.ref fm3)))
    (lm3 : K.lookup fm3 = some ⟨ocm3, odm3, .func (PySem.W.fnOf "hands" "Kinds.hands" (defArgs sHanM) (defBody sHanM) (defScope sHanM) .none kVm3 dcm3 pmm3 anm3 cdm3 ctm3), slm3⟩)
    (cm3 : PySem.W.codeIn K cdm3 "Kinds.hands" = true)
    (km3 : PySem.W.keepIn K (.ref fm3) = true)
    (im3 : PySem.W.isFn K (.ref fm3) = true)
    (am4 : PySem.W.findIn K (.ref a_kc) "lots" = some (some (.ref fm4)))
    (lm4 : K.lookup fm4 = some ⟨ocm4, odm4, .func (PySem.W.fnOf "lots" "Kinds.lots" (defArgs sLotM) (defBody sLotM) (defScope sLotM) .none kVm4 dcm4 pmm4 anm4 cdm4 ctm4), slm4⟩)
    (cm4 : PySem.W.codeIn K cdm4 "Kinds.lots" = true)
    (km4 : PySem.W.keepIn K (.ref fm4) = true)
    (im4 : PySem.W.isFn K (.ref fm4) = true)
    (am5 : PySem.W.findIn K (.ref a_kc) "__eq__" = some (some (.ref fm5)))
    (lm5 : K.lookup fm5 = some ⟨ocm5, odm5, .func (PySem.W.fnOf "__eq__" "Kinds.__eq__" (defArgs sEqM) (defBody sEqM) (defScope sEqM) .none kVm5 dcm5 pmm5 anm5 cdm5 ctm5), slm5⟩)
    (cm5 : PySem.W.codeIn K cdm5 "Kinds.__eq__" = true)
    (km5 : PySem.W.keepIn K (.ref fm5) = true)
    (im5 : PySem.W.isFn K (.ref fm5) = true)
    (am6 : PySem.W.findIn K (.ref a_kc) "__len__" = some (some (.ref fm6)))
    (lm6 : K.lookup fm6 = some ⟨ocm6, odm6, .func (PySem.W.fnOf "__len__" "Kinds.__len__" (defArgs sLenM) (defBody sLenM) (defScope sLenM) .none kVm6 dcm6 pmm6 anm6 cdm6 ctm6), slm6⟩)
    (cm6 : PySem.W.codeIn K cdm6 "Kinds.__len__" = true)
    (km6 : PySem.W.keepIn K (.ref fm6) = true)
    (im6 : PySem.W.isFn K (.ref fm6) = true)
    (am7 : PySem.W.findIn K (.ref a_kc) "__repr__" = some (some (.ref fm7)))
    (lm7 : K.lookup fm7 = some ⟨ocm7, odm7, .func (PySem.W.fnOf "__repr__" "Kinds.__repr__" (defArgs sReprM) (defBody sReprM) (defScope sReprM) .none kVm7 dcm7 pmm7 anm7 cdm7 ctm7), slm7⟩)
    (cm7 : PySem.W.codeIn K cdm7 "Kinds.__repr__" = true)
    (km7 : PySem.W.keepIn K (.ref fm7) = true)
    (im7 : PySem.W.isFn K (.ref fm7) = true)
    (is_nk : isB K a_nk = true)
    (in_nk : PySem.W.findIn K (.ref a_nk) "__init__" = some (some (.ref f_nk)))
    (l_nk : K.lookup f_nk = some ⟨oc_nk, od_nk, .func (PySem.W.ksFn "__init__" "NoKinds.__init__" (defArgs i_nk) (defBody i_nk) (defScope i_nk) .none kV_nk dc_nk pm_nk an_nk (.ref d_nk) ct_nk c_nk), sl_nk⟩)
    (co_nk : PySem.W.codeIn K (.ref d_nk) "NoKinds.__init__" = true)
    (fi_nk : fileB l.prog K d_nk = true)
    (ce_nk : cellB K c_nk a_nk = true)
    (ef_nk : efB K a_nk f_nk [.type "ValueError", .type "Exception", .type "BaseException", .type "object"] "ValueError.__new__" "ValueError.__init__" "ValueError" ["what", "who"] = true)
    (is_ki : isB K a_ki = true)
    (in_ki : PySem.W.findIn K (.ref a_ki) "__init__" = some (some (.ref f_ki)))
    (l_ki : K.lookup f_ki = some ⟨oc_ki, od_ki, .func (PySem.W.ksFn "__init__" "NoKind.__init__" (defArgs i_ki) (defBody i_ki) (defScope i_ki) .none kV_ki dc_ki pm_ki an_ki (.ref d_ki) ct_ki c_ki), sl_ki⟩)
    (co_ki : PySem.W.codeIn K (.ref d_ki) "NoKind.__init__" = true)
    (fi_ki : fileB l.prog K d_ki = true)
    (ce_ki : cellB K c_ki a_ki = true)
    (ef_ki : efB K a_ki f_ki [.type "KeyError", .type "LookupError", .type "Exception", .type "BaseException", .type "object"] "LookupError.__new__" "KeyError.__init__" "KeyError" ["word"] = true)
    (kb : kcB K a_kc = true)
    (ct : ctB K ⟨a_fe, a_nk, a_ki, a_kc, a_nb, a_nc, a_nh, a_nr, a_nt, a_nw, a_nx⟩ = true)
    (tp : topB l.prog = true)
    : ∃ fd : FuncData, (∀ (s : Shared) (v : Value), BindsTo s fd ⟨[v], []⟩ [("_law_script", v)]) ∧ ∀ base : Heap, K.In base → base.Ns mainGlobals mg → FnG l.prog w K mg base 8 fa fd ["_law_script"] (spLaw K) := by
  have e := hfa.symm.trans (PySem.W.mg_of X G a23)
  cases e
  have T : Txt mg := ⟨PySem.W.mg_none_of X G z0, PySem.W.mg_none_of X G z1, PySem.W.mg_none_of X G z2, PySem.W.mg_none_of X G z3, PySem.W.mg_none_of X G z4, PySem.W.mg_none_of X G z5, PySem.W.mg_none_of X G z6, PySem.W.mg_none_of X G z7, PySem.W.mg_none_of X G z8, PySem.W.mg_none_of X G z9, PySem.W.mg_none_of X G z10, PySem.W.mg_none_of X G z11, PySem.W.mg_none_of X G z12, PySem.W.mg_none_of X G z13, PySem.W.mg_none_of X G z14, PySem.W.mg_none_of X G z15, PySem.W.mg_none_of X G z16, PySem.W.mg_none_of X G z17, ⟨_, PySem.W.mg_of X G q0⟩, ⟨_, PySem.W.mg_of X G q1⟩, ⟨_, PySem.W.mg_of X G q2⟩⟩
  have Tsup := PySem.W.mg_none_of X G z18
  have tp2 : (l.prog.main.scope.names.lookup ("super" : Str)).isSome = false := by unfold topB at tp; simpa using tp
  let E : Cl := ⟨a_fe, a_nk, a_ki, a_kc, a_nb, a_nc, a_nh, a_nr, a_nt, a_nw, a_nx⟩
  have P_nk := efB_ok (BN := "ValueError") ⟨by decide +kernel, by decide +kernel, by decide +kernel⟩ ef_nk
  have FI_nk : FnI l.prog K a_nk f_nk d_nk c_nk "NoKinds.__init__" (defArgs i_nk) (defBody i_nk) (defScope i_nk) := ⟨⟨_, _, _, _, _, _, _, _, l_nk⟩, co_nk, fileB_ok fi_nk, cellB_ok ce_nk, by decide +kernel, by decide +kernel, by decide +kernel, rfl, rfl, rfl, by decide +kernel, tp2, ⟨_, rfl, rfl⟩⟩
  have M_nk : MkE l.prog w K mg a_nk ["what", "who"] okTwo (sh2 "what" "who") := mke_two PySem.F.excBase_ValueError (.of PySem.F.excCall_ValueError PySem.W.kxs_ValueError) P_nk.c PySem.F.store_ValueError P_nk.s FI_nk in_nk P_nk.t Tsup rfl (fun L => ⟨rfl, rfl, rfl, ⟨_, rfl⟩⟩) (fun L => rfl) (fun L => rfl) (by decide +kernel) (by decide) (by decide) (P_nk.f _ (by decide)).2 (by decide) (by decide +kernel) (by decide) (by decide) (P_nk.f _ (by decide)).2 (by decide) (fun _ _ _ _ _ _ _ _ => rfl) (fun _ _ _ _ _ _ _ _ => rfl)
  have P_ki := efB_ok (BN := "LookupError") ⟨by decide +kernel, by decide +kernel, by decide +kernel⟩ ef_ki
  have FI_ki : FnI l.prog K a_ki f_ki d_ki c_ki "NoKind.__init__" (defArgs i_ki) (defBody i_ki) (defScope i_ki) := ⟨⟨_, _, _, _, _, _, _, _, l_ki⟩, co_ki, fileB_ok fi_ki, cellB_ok ce_ki, by decide +kernel, by decide +kernel, by decide +kernel, rfl, rfl, rfl, by decide +kernel, tp2, ⟨_, rfl, rfl⟩⟩
  have M_ki : MkE l.prog w K mg a_ki ["word"] (fun _ => True) (sh1 "word") := mke_one PySem.F.excBase_LookupError ini_Key P_ki.c PySem.F.keyStore P_ki.s FI_ki in_ki P_ki.t Tsup rfl (fun L => ⟨rfl, rfl, rfl, ⟨_, rfl⟩⟩) (fun L => rfl) (by decide +kernel) (by decide) (by decide) (P_ki.f _ (by decide)).2 (fun _ _ _ _ _ _ _ => rfl) (fun _ _ _ _ _ _ _ => rfl)
  have CT := ctB_ok ct
  obtain ⟨na, ow, oi, mk⟩ := kcB_ok kb
  have Z : Kcx K mg E := ⟨PySem.W.mg_of X G e_kc, na, ow, oi⟩
  have R : Ern l.prog w K mg E := ⟨PySem.W.mg_of X G e_nk, ek_nk, M_nk, CT.c8, CT.c9, PySem.W.mg_of X G e_ki, ek_ki, M_ki, CT.c10, CT.c11⟩
  have R2 : Ern2 K mg E := ⟨PySem.W.mg_of X G e_fe, PySem.W.mg_of X G e_nb, PySem.W.mg_of X G e_nc, PySem.W.mg_of X G e_nh, PySem.W.mg_of X G e_nr, PySem.W.mg_of X G e_nt, PySem.W.mg_of X G e_nw, PySem.W.mg_of X G e_nx, CT.c1, isB_ok is_nk, P_nk.x, (P_nk.f _ (by decide)).1, (P_nk.f _ (by decide)).1, CT.c2, CT.c3, CT.c4, CT.c5, CT.c6, isB_ok is_ki, P_ki.x, (P_ki.f _ (by decide)).1, CT.c7⟩
  have F0 := fun_mk (st := sWhole) l0 c0 k0
  have b0 := F0.binds (ps := ["thing"]) fun _ _ _ _ _ _ us hl => match us, hl with | [_], _ => rfl
  have F1 := fun_mk (st := sName) l1 c1 k1
  have b1 := F1.binds (ps := ["thing"]) fun _ _ _ _ _ _ us hl => match us, hl with | [_], _ => rfl
  have F2 := fun_mk (st := sLots) l2 c2 k2
  have b2 := F2.binds (ps := ["thing"]) fun _ _ _ _ _ _ us hl => match us, hl with | [_], _ => rfl
  have F3 := fun_mk (st := sCheck) l3 c3 k3
  have b3 := F3.binds (ps := ["table"]) fun _ _ _ _ _ _ us hl => match us, hl with | [_], _ => rfl
  have F4 := fun_mk (st := sPot) l4 c4 k4
  have b4 := F4.binds (ps := ["_law_script", "_law_k"]) fun _ _ _ _ _ _ us hl => match us, hl with | [_, _], _ => rfl
  have F5 := fun_mk (st := sTake) l5 c5 k5
  have b5 := F5.binds (ps := ["_law_pot_here", "_law_much"]) fun _ _ _ _ _ _ us hl => match us, hl with | [_, _], _ => rfl
  have F6 := fun_mk (st := sNew) l6 c6 k6
  have b6 := F6.binds (ps := ["_law_pot_here", "_law_used"]) fun _ _ _ _ _ _ us hl => match us, hl with | [_, _], _ => rfl
  have F7 := fun_mk (st := sDraw) l7 c7 k7
  have b7 := F7.binds (ps := ["_law_pot_here", "_law_many"]) fun _ _ _ _ _ _ us hl => match us, hl with | [_, _], _ => rfl
  have F8 := fun_mk (st := sTurn) l8 c8 k8
  have b8 := F8.binds (ps := ["_law_pot_here", "_law_some"]) fun _ _ _ _ _ _ us hl => match us, hl with | [_, _], _ => rfl
  have F9 := fun_mk (st := sOdd) l9 c9 k9
  have b9 := F9.binds (ps := ["_law_pot_here"]) fun _ _ _ _ _ _ us hl => match us, hl with | [_], _ => rfl
  have F10 := fun_mk (st := sLabel) l10 c10 k10
  have b10 := F10.binds (ps := ["_law_thing"]) fun _ _ _ _ _ _ us hl => match us, hl with | [_], _ => rfl
  have F11 := fun_mk (st := sInl) l11 c11 k11
  have b11 := F11.binds (ps := ["_law_thing", "_law_low", "_law_high"]) fun _ _ _ _ _ _ us hl => match us, hl with | [_, _, _], _ => rfl
  have F12 := fun_mk (st := sLLots) l12 c12 k12
  have b12 := F12.binds (ps := ["_law_thing"]) fun _ _ _ _ _ _ us hl => match us, hl with | [_], _ => rfl
  have F13 := fun_mk (st := sTable) l13 c13 k13
  have b13 := F13.binds (ps := ["_law_pot_here", "_law_most"]) fun _ _ _ _ _ _ us hl => match us, hl with | [_, _], _ => rfl
  have F14 := fun_mk (st := sDue) l14 c14 k14
  have b14 := F14.binds (ps := ["_law_table_here"]) fun _ _ _ _ _ _ us hl => match us, hl with | [_], _ => rfl
  have F15 := fun_mk (st := sKey) l15 c15 k15
  have b15 := F15.binds (ps := ["_law_pot_here"]) fun _ _ _ _ _ _ us hl => match us, hl with | [_], _ => rfl
  have F16 := fun_mk (st := sNoL) l16 c16 k16
  have b16 := F16.binds (ps := ["_law_pot_here", "_law_lots_here"]) fun _ _ _ _ _ _ us hl => match us, hl with | [_, _], _ => rfl
  have F17 := fun_mk (st := sSpo) l17 c17 k17
  have b17 := F17.binds (ps := ["_law_pot_here", "_law_table_here"]) fun _ _ _ _ _ _ us hl => match us, hl with | [_, _], _ => rfl
  have F18 := fun_mk (st := sTried) l18 c18 k18
  have b18 := F18.binds (ps := ["_law_table_here"]) fun _ _ _ _ _ _ us hl => match us, hl with | [_], _ => rfl
  have F19 := fun_mk (st := sMiss) l19 c19 k19
  have b19 := F19.binds (ps := ["_law_kinds", "_law_way", "_law_thing"]) fun _ _ _ _ _ _ us hl => match us, hl with | [_, _, _], _ => rfl
  have F20 := fun_mk (st := sTells) l20 c20 k20
  have b20 := F20.binds (ps := ["_law_pot_here", "_law_kinds", "_law_table_here"]) fun _ _ _ _ _ _ us hl => match us, hl with | [_, _, _], _ => rfl
  have F21 := fun_mk (st := sEqual) l21 c21 k21
  have b21 := F21.binds (ps := ["_law_pot_here", "_law_kinds", "_law_table_here"]) fun _ _ _ _ _ _ us hl => match us, hl with | [_, _, _], _ => rfl
  have F22 := fun_mk (st := sRight) l22 c22 k22
  have b22 := F22.binds (ps := ["_law_pot_here"]) fun _ _ _ _ _ _ us hl => match us, hl with | [_], _ => rfl
  have F23 := fun_mk (st := sLaw) l23 c23 k23
  have Fm0 := fun_mk (st := sInit) lm0 cm0 km0
  have bm0 := Fm0.binds (ps := ["self", "table"]) fun _ _ _ _ _ _ us hl => match us, hl with | [_, _], _ => rfl
  have Fm1 := fun_mk (st := sWords) lm1 cm1 km1
  have bm1 := Fm1.binds (ps := ["self"]) fun _ _ _ _ _ _ us hl => match us, hl with | [_], _ => rfl
  have me1 : Meth K E.kc "words" fm1 := ⟨am1, im1, km1⟩
  have Fm2 := fun_mk (st := sHas) lm2 cm2 km2
  have bm2 := Fm2.binds (ps := ["self", "thing"]) fun _ _ _ _ _ _ us hl => match us, hl with | [_, _], _ => rfl
  have me2 : Meth K E.kc "has" fm2 := ⟨am2, im2, km2⟩
  have Fm3 := fun_mk (st := sHanM) lm3 cm3 km3
  have bm3 := Fm3.binds (ps := ["self", "word"]) fun _ _ _ _ _ _ us hl => match us, hl with | [_, _], _ => rfl
  have me3 : Meth K E.kc "hands" fm3 := ⟨am3, im3, km3⟩
  have Fm4 := fun_mk (st := sLotM) lm4 cm4 km4
  have bm4 := Fm4.binds (ps := ["self", "word"]) fun _ _ _ _ _ _ us hl => match us, hl with | [_, _], _ => rfl
  have me4 : Meth K E.kc "lots" fm4 := ⟨am4, im4, km4⟩
  have Fm5 := fun_mk (st := sEqM) lm5 cm5 km5
  have bm5 := Fm5.binds (ps := ["self", "other"]) fun _ _ _ _ _ _ us hl => match us, hl with | [_, _], _ => rfl
  have me5 : Meth K E.kc "__eq__" fm5 := ⟨am5, im5, km5⟩
  have Fm6 := fun_mk (st := sLenM) lm6 cm6 km6
  have bm6 := Fm6.binds (ps := ["self"]) fun _ _ _ _ _ _ us hl => match us, hl with | [_], _ => rfl
  have me6 : Meth K E.kc "__len__" fm6 := ⟨am6, im6, km6⟩
  have Fm7 := fun_mk (st := sReprM) lm7 cm7 km7
  have bm7 := Fm7.binds (ps := ["self"]) fun _ _ _ _ _ _ us hl => match us, hl with | [_], _ => rfl
  have me7 : Meth K E.kc "__repr__" fm7 := ⟨am7, im7, km7⟩
  refine ⟨PySem.W.fnOf "law" "law" (defArgs sLaw) (defBody sLaw) (defScope sLaw) .none kV23 dc23 pm23 an23 cd23 ct23, fun s v => .of_eq rfl, fun base _ _ => ?_⟩
  have oWhole : Own l.prog w K mg base "is_whole" 1 spWhole := ⟨_, _, _, ok_whole F0 T, PySem.W.mg_of X G a0, k0, b0⟩
  have oName : Own l.prog w K mg base "is_name" 1 spName := ⟨_, _, _, ok_name F1 T, PySem.W.mg_of X G a1, k1, b1⟩
  have oLots : Own l.prog w K mg base "is_lots" 2 spLots := ⟨_, _, _, ok_lots F2 T oWhole, PySem.W.mg_of X G a2, k2, b2⟩
  have oCheck : OwnX l.prog w K mg base "_check_table" 3 (spCheck w E) := ⟨_, _, _, ok_check F3 T R oName oLots, PySem.W.mg_of X G a3, k3, b3⟩
  have oWord : OwnM l.prog w K mg base E.kc "words" 1 (spWords E) := ⟨_, _, _, me1, ok_words Fm1 T Z, bm1⟩
  have oWordM : OwnM l.prog w K mg base E.kc "words" 1 (spWordsM E) := ⟨_, _, _, me1, ok_wordsM Fm1 T Z, bm1⟩
  have oHas : OwnM l.prog w K mg base E.kc "has" 2 (spHas E) := ⟨_, _, _, me2, ok_has Fm2 T Z oName, bm2⟩
  have oLotM : OwnMX l.prog w K mg base E.kc "lots" 3 (spLotM E) := ⟨_, _, _, me4, ok_lotM Fm4 T Z R oHas, bm4⟩
  have oHanM : OwnMX l.prog w K mg base E.kc "hands" 4 (spHanM E) := ⟨_, _, _, me3, ok_hanM Fm3 T Z R oLotM, bm3⟩
  have oEq : OwnM l.prog w K mg base E.kc "__eq__" 1 (spEqM E) := ⟨_, _, _, me5, ok_eqM Fm5 T Z, bm5⟩
  have oLen : OwnM l.prog w K mg base E.kc "__len__" 1 (spLenM E) := ⟨_, _, _, me6, ok_lenM Fm6 T Z, bm6⟩
  have oRepr : OwnM l.prog w K mg base E.kc "__repr__" 1 (spReprM E) := ⟨_, _, _, me7, ok_reprM Fm7 T Z, bm7⟩
  have oK : OwnK l.prog w K mg base E := ⟨_, _, _, ⟨mk, am0, im0, ek_kc⟩, ok_init Fm0 T Z oCheck, bm0⟩
  have oPot : Own l.prog w K mg base "_law_pot" 1 (spPot K) := ⟨_, _, _, ok_pot F4 T, PySem.W.mg_of X G a4, k4, b4⟩
  have oTake : Own l.prog w K mg base "_law_take" 1 spTake := ⟨_, _, _, ok_take F5 T, PySem.W.mg_of X G a5, k5, b5⟩
  have oNew : Own l.prog w K mg base "_law_label" 2 spNew := ⟨_, _, _, ok_new F6 T oTake, PySem.W.mg_of X G a6, k6, b6⟩
  have oDraw : Own l.prog w K mg base "_law_lots" 2 spDrawL := ⟨_, _, _, ok_drawL F7 T oTake, PySem.W.mg_of X G a7, k7, b7⟩
  have oTurn : Own l.prog w K mg base "_law_turned" 2 spTurn := ⟨_, _, _, ok_turn F8 T oTake, PySem.W.mg_of X G a8, k8, b8⟩
  have oOdd : Own l.prog w K mg base "_law_odd" 2 spOdd := ⟨_, _, _, ok_odd F9 T oTake, PySem.W.mg_of X G a9, k9, b9⟩
  have oLabel : Own l.prog w K mg base "_law_is_label" 1 spName := ⟨_, _, _, ok_label F10 T, PySem.W.mg_of X G a10, k10, b10⟩
  have oInl : Own l.prog w K mg base "_law_is_whole" 1 spInl := ⟨_, _, _, ok_inl F11 T, PySem.W.mg_of X G a11, k11, b11⟩
  have oLLots : Own l.prog w K mg base "_law_are_lots" 2 spLots := ⟨_, _, _, ok_llots F12 T oInl, PySem.W.mg_of X G a12, k12, b12⟩
  have oTable : Own l.prog w K mg base "_law_table" 3 (spTable w) := ⟨_, _, _, ok_table F13 T oTake oNew oDraw, PySem.W.mg_of X G a13, k13, b13⟩
  have oDue : Own l.prog w K mg base "_law_due" 3 (spDue w) := ⟨_, _, _, ok_due F14 T oLabel oLLots, PySem.W.mg_of X G a14, k14, b14⟩
  have oKey : Own l.prog w K mg base "_law_key" 2 spKey := ⟨_, _, _, ok_key F15 T oTake, PySem.W.mg_of X G a15, k15, b15⟩
  have oNoL : Own l.prog w K mg base "_law_no_lots" 3 spNoLots := ⟨_, _, _, ok_noL F16 T oTake oOdd, PySem.W.mg_of X G a16, k16, b16⟩
  have oSpo1 : Own l.prog w K mg base "_law_spoilt" 4 (spSpoilt w 12 6) := ⟨_, _, _, ok_spo (by decide) (by decide) F17 T oTake oNew oKey oNoL, PySem.W.mg_of X G a17, k17, b17⟩
  have oSpo2 : Own l.prog w K mg base "_law_spoilt" 4 (spSpoilt w 14 13) := ⟨_, _, _, ok_spo (by decide) (by decide) F17 T oTake oNew oKey oNoL, PySem.W.mg_of X G a17, k17, b17⟩
  have oTried : Own l.prog w K mg base "_law_tried" 6 (spTried w E) := ⟨_, _, _, ok_tried F18 T Z R R2 oK, PySem.W.mg_of X G a18, k18, b18⟩
  have oMiss : Own l.prog w K mg base "_law_missing" 5 (spMiss E) := ⟨_, _, _, ok_miss F19 T Z R R2 oLotM oHanM, PySem.W.mg_of X G a19, k19, b19⟩
  have oTells : Own l.prog w K mg base "_law_tells" 6 (spTells w E) := ⟨_, _, _, ok_tells F20 T Z oOdd oMiss oWord oWordM oHas oLotM oHanM oLen oRepr, PySem.W.mg_of X G a20, k20, b20⟩
  have oEqual : Own l.prog w K mg base "_law_equal" 6 (spEqual w E) := ⟨_, _, _, ok_equal F21 T Z oK oTurn oNew oEq oRepr, PySem.W.mg_of X G a21, k21, b21⟩
  have oRight : Own l.prog w K mg base "_law_right" 7 spRight := ⟨_, _, _, ok_right F22 T Z oK oTake oTable oTurn oSpo1 oSpo2 oTells oEqual oTried oDue, PySem.W.mg_of X G a22, k22, b22⟩
  exact ok_law F23 T oPot oRight
theorem lawSp (K : PySem.W.Frag) (H : Hp) (a : Addr) (ns : List Int) (hl : ns.length ≤ 63) (h : SqL K H a (ns.map V.int)) : spLaw K [.ref a] H (fun v _ => v = .bl true) fun _ _ _ => False := by
  refine ⟨H, [.sc K a ns], fun _ => none, .cons ⟨rfl, h⟩ .nil, Ex.refl H, nofun, ⟨a, ns, rfl, hl, nofun⟩, ?_⟩
  rintro v r B' H' μ' I q rfl
  cases q
  rfl
end K12

open PySem PySem.W PyProof.Rows in
set_option maxRecDepth 100000 in
set_option maxHeartbeats 0 in
theorem PySem.Challenge.cw_onefacers_k12_kinds_told_or_refused_holds : PySem.Challenge.rw_onefacers_k12_kinds_told_or_refused.Holds := by
  w_on; o_law; k_head; (case hw => w_witness2)
  k_fill
  refine Dat.walk_data (l := PySem.Challenge.rw_onefacers_k12_kinds_told_or_refused) (n := 63) (k := 8) (x := "_law_script") (SP := fun K => K12.spLaw K) rfl (by decide) rfl ⟨rfl, by decide, by decide⟩ (fun w h Y => PySem.W.kIn_of Y) ?F (fun K H a ns hl h => K12.lawSp K H a ns hl h)
  case F =>
    intro w mg fa h KX G hmg
    refine' K12.all_mk KX G hmg ?a0 ?l0 ?c0 ?k0 ?a1 ?l1 ?c1 ?k1 ?a2 ?l2 ?c2 ?k2 ?a3 ?l3 ?c3 ?k3 ?a4 ?l4 ?c4 ?k4 ?a5 ?l5 ?c5 ?k5 ?a6 ?l6 ?c6 ?k6 ?a7 ?l7 ?c7 ?k7 ?a8 ?l8 ?c8 ?k8 ?a9 ?l9 ?c9 ?k9 ?a10 ?l10 ?c10 ?k10 ?a11 ?l11 ?c11 ?k11 ?a12 ?l12 ?c12 ?k12 ?a13 ?l13 ?c13 ?k13 ?a14 ?l14 ?c14 ?k14 ?a15 ?l15 ?c15 ?k15 ?a16 ?l16 ?c16 ?k16 ?a17 ?l17 ?c17 ?k17 ?a18 ?l18 ?c18 ?k18 ?a19 ?l19 ?c19 ?k19 ?a20 ?l20 ?c20 ?k20 ?a21 ?l21 ?c21 ?k21 ?a22 ?l22 ?c22 ?k22 ?a23 ?l23 ?c23 ?k23 ?z0 ?z1 ?z2 ?z3 ?z4 ?z5 ?z6 ?z7 ?z8 ?z9 ?z10 ?z11 ?z12 ?z13 ?z14 ?z15 ?z16 ?z17 ?z18 ?q0 ?q1 ?q2 ?e_fe ?e_nk ?ek_nk ?e_ki ?ek_ki ?e_kc ?ek_kc ?e_nb ?e_nc ?e_nh ?e_nr ?e_nt ?e_nw ?e_nx ?am0 ?lm0 ?cm0 ?km0 ?im0 ?am1 ?lm1 ?cm1 ?km1 ?im1 ?am2 ?lm2 ?cm2 ?km2 ?im2 ?am3 ?lm3 ?cm3 ?km3 ?im3 ?am4 ?lm4 ?cm4 ?km4 ?im4 ?am5 ?lm5 ?cm5 ?km5 ?im5 ?am6 ?lm6 ?cm6 ?km6 ?im6 ?am7 ?lm7 ?cm7 ?km7 ?im7 ?is_nk ?in_nk ?l_nk ?co_nk ?fi_nk ?ce_nk ?ef_nk ?is_ki ?in_ki ?l_ki ?co_ki ?fi_ki ?ce_ki ?ef_ki ?kb ?ct ?tp
    (case a0 => k_is)
    (case l0 => k_is)
    (case c0 => k_is)
    (case k0 => k_is)
    (case a1 => k_is)
    (case l1 => k_is)
    (case c1 => k_is)
    (case k1 => k_is)
    (case a2 => k_is)
    (case l2 => k_is)
    (case c2 => k_is)
    (case k2 => k_is)
    (case a3 => k_is)
    (case l3 => k_is)
    (case c3 => k_is)
    (case k3 => k_is)
    (case a4 => k_is)
    (case l4 => k_is)
    (case c4 => k_is)
    (case k4 => k_is)
    (case a5 => k_is)
    (case l5 => k_is)
    (case c5 => k_is)
    (case k5 => k_is)
    (case a6 => k_is)
    (case l6 => k_is)
    (case c6 => k_is)
    (case k6 => k_is)
    (case a7 => k_is)
    (case l7 => k_is)
    (case c7 => k_is)
    (case k7 => k_is)
    (case a8 => k_is)
    (case l8 => k_is)
    (case c8 => k_is)
    (case k8 => k_is)
    (case a9 => k_is)
    (case l9 => k_is)
    (case c9 => k_is)
    (case k9 => k_is)
    (case a10 => k_is)
    (case l10 => k_is)
    (case c10 => k_is)
    (case k10 => k_is)
    (case a11 => k_is)
    (case l11 => k_is)
    (case c11 => k_is)
    (case k11 => k_is)
    (case a12 => k_is)
    (case l12 => k_is)
    (case c12 => k_is)
    (case k12 => k_is)
    (case a13 => k_is)
    (case l13 => k_is)
    (case c13 => k_is)
    (case k13 => k_is)
    (case a14 => k_is)
    (case l14 => k_is)
    (case c14 => k_is)
    (case k14 => k_is)
    (case a15 => k_is)
    (case l15 => k_is)
    (case c15 => k_is)
    (case k15 => k_is)
    (case a16 => k_is)
    (case l16 => k_is)
    (case c16 => k_is)
    (case k16 => k_is)
    (case a17 => k_is)
    (case l17 => k_is)
    (case c17 => k_is)
    (case k17 => k_is)
    (case a18 => k_is)
    (case l18 => k_is)
    (case c18 => k_is)
    (case k18 => k_is)
    (case a19 => k_is)
    (case l19 => k_is)
    (case c19 => k_is)
    (case k19 => k_is)
    (case a20 => k_is)
    (case l20 => k_is)
    (case c20 => k_is)
    (case k20 => k_is)
    (case a21 => k_is)
    (case l21 => k_is)
    (case c21 => k_is)
    (case k21 => k_is)
    (case a22 => k_is)
    (case l22 => k_is)
    (case c22 => k_is)
    (case k22 => k_is)
    (case a23 => k_is)
    (case l23 => k_is)
    (case c23 => k_is)
    (case k23 => k_is)
    (case z0 => k_is)
    (case z1 => k_is)
    (case z2 => k_is)
    (case z3 => k_is)
    (case z4 => k_is)
    (case z5 => k_is)
    (case z6 => k_is)
    (case z7 => k_is)
    (case z8 => k_is)
    (case z9 => k_is)
    (case z10 => k_is)
    (case z11 => k_is)
    (case z12 => k_is)
    (case z13 => k_is)
    (case z14 => k_is)
    (case z15 => k_is)
    (case z16 => k_is)
    (case z17 => k_is)
    (case z18 => k_is)
    (case q0 => k_is)
    (case q1 => k_is)
    (case q2 => k_is)
    (case e_fe => k_is)
    (case e_nk => k_is)
    (case ek_nk => k_is)
    (case e_ki => k_is)
    (case ek_ki => k_is)
    (case e_kc => k_is)
    (case ek_kc => k_is)
    (case e_nb => k_is)
    (case e_nc => k_is)
    (case e_nh => k_is)
    (case e_nr => k_is)
    (case e_nt => k_is)
    (case e_nw => k_is)
    (case e_nx => k_is)
    (case am0 => k_is)
    (case lm0 => k_is)
    (case cm0 => k_is)
    (case km0 => k_is)
    (case im0 => kernel_rfl)
    (case am1 => k_is)
    (case lm1 => k_is)
    (case cm1 => k_is)
    (case km1 => k_is)
    (case im1 => kernel_rfl)
    (case am2 => k_is)
    (case lm2 => k_is)
    (case cm2 => k_is)
    (case km2 => k_is)
    (case im2 => kernel_rfl)
    (case am3 => k_is)
    (case lm3 => k_is)
    (case cm3 => k_is)
    (case km3 => k_is)
    (case im3 => kernel_rfl)
    (case am4 => k_is)
    (case lm4 => k_is)
    (case cm4 => k_is)
    (case km4 => k_is)
    (case im4 => kernel_rfl)
    (case am5 => k_is)
    (case lm5 => k_is)
    (case cm5 => k_is)
    (case km5 => k_is)
    (case im5 => kernel_rfl)
    (case am6 => k_is)
    (case lm6 => k_is)
    (case cm6 => k_is)
    (case km6 => k_is)
    (case im6 => kernel_rfl)
    (case am7 => k_is)
    (case lm7 => k_is)
    (case cm7 => k_is)
    (case km7 => k_is)
    (case im7 => kernel_rfl)
    (case is_nk => kernel_rfl)
    (case in_nk => k_is)
    (case l_nk => k_is)
    (case co_nk => k_is)
    (case fi_nk => kernel_rfl)
    (case ce_nk => kernel_rfl)
    (case ef_nk => kernel_rfl)
    (case is_ki => kernel_rfl)
    (case in_ki => k_is)
    (case l_ki => k_is)
    (case co_ki => k_is)
    (case fi_ki => kernel_rfl)
    (case ce_ki => kernel_rfl)
    (case ef_ki => kernel_rfl)
    (case kb => kernel_rfl)
    (case ct => kernel_rfl)
    (case tp => kernel_rfl)

